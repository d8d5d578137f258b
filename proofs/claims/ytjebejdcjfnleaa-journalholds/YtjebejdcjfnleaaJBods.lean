/-
  Slices of values of one cell each: what is owned, appended to, read; slices of bodies.
-/
import Derived.Test.YtjebejdcjfnleaaJRow
namespace Go.Proofs.Ytjebejdcjfnleaa
open Go.RowKit

theorem full32 : ∃ i, Try.prog.info? 32 = some i ∧ i.zero = some (.slice none 0 0) ∧ i.size = 1 ∧ i.bytes = 24 := infoOf (by kernel_rfl)
theorem full9 : ∃ i, Try.prog.info? 9 = some i ∧ i.zero = some (.string ⟨#[]⟩) ∧ i.size = 1 ∧ i.bytes = 16 := infoOf (by kernel_rfl)
theorem full35 : ∃ i, Try.prog.info? 35 = some i ∧ i.zero = some (.slice none 0 0) ∧ i.size = 1 ∧ i.bytes = 24 := infoOf (by kernel_rfl)

section
variable {w w' : World} {B e n : Nat} {v : Value} {xs : List Value}
theorem owns_keep (h : w.ownsRow B e 1 v n xs) (hb : ∀ k, k < w.heap.size → w'.heap[k]? = w.heap[k]?) : w'.ownsRow B e 1 v n xs := owns_same h fun k hk => hb k (h.lt k (by simpa using hk)).2
theorem owns_below (h : w.ownsRow B e 1 v n xs) (hb : Below w.heap.size w w') : w'.ownsRow B e 1 v n xs := owns_keep h hb.block
theorem owns_lower {B' : Nat} (h : w.ownsRow B e 1 v n xs) (hb : B' ≤ B) : w.ownsRow B' e 1 v n xs := by
  refine ⟨h.1, ?_⟩
  rcases h.2 with h1 | ⟨g', cap, cur, e, hb', hh, hr⟩
  · exact Or.inl h1
  · exact Or.inr ⟨g', cap, cur, e, by omega, hh, hr⟩
theorem owns_at (h : w.ownsRow B e 1 v n xs) {i : Nat} (hi : i < n) : ∃ g cap, v = .slice (some ⟨g, 0, none⟩) n cap ∧ B ≤ g ∧ g < w.heap.size ∧ n ≤ cap ∧ w.cell? ⟨g, i, none⟩ = xs[i]? := by
  rcases h.2 with ⟨rfl, h0⟩ | ⟨g, cap, cur, rfl, hb, hh, hcap, hmax, hcur, htk⟩
  · omega
  · refine ⟨g, cap, rfl, hb, (Array.getElem?_eq_some_iff.1 hh).1, hcap, ?_⟩
    rw [cell_of_row w g i cur e _ hh, ← Array.getElem?_toList, ← htk, List.getElem?_take_of_lt (by omega)]
theorem owns_bel (h : w.ownsRow B e 1 v n xs) (hg : w.grownBy w' v.ownBlock) (hB : B ≤ w.heap.size) : Below B w w' :=
  ⟨hg.os, hg.tape, hg.output, hg.size, fun k hk => hg.block k (by omega) fun e => by have := (h.lt k e.symm).1; omega⟩
end

/-! ### slices with one element, or none -/
section
variable {ops : Array Oper} {rest : List Oper} {o : Oper} {a : Act} {w : World} {Q : Exit → Act → World → Prop}
theorem run_one24 (w : World) (ad : Option Addr) (n c : Nat) : (Instr.buildSlice 24 1 #[(0, .slice ad n c)]).run Try.prog w = .ok (.slice (some ⟨w.heap.size, 0, none⟩) 1 1) (w.alloc (.cells #[.slice ad n c] 32)) := by
  obtain ⟨i, i1, i2, i3, i4⟩ := full32
  exact run_buildSlice (P := Try.prog) w 24 32 1 #[(0, .slice ad n c)] #[.slice ad n c] i _ Try.underlying24 i1 i2 (by rw [i3]; decide) (by rw [i3]; decide) (by rw [i3]; kernel_rfl)
theorem run_one35 (w : World) (s : ByteArray) : (Instr.buildSlice 35 1 #[(0, .string s)]).run Try.prog w = .ok (.slice (some ⟨w.heap.size, 0, none⟩) 1 1) (w.alloc (.cells #[.string s] 9)) := by
  obtain ⟨i, i1, i2, i3, i4⟩ := full9
  exact run_buildSlice (P := Try.prog) w 35 9 1 #[(0, .string s)] #[.string s] i _ Try.underlying35 i1 i2 (by rw [i3]; decide) (by rw [i3]; decide) (by rw [i3]; kernel_rfl)
theorem run_one36 (w : World) (ad : Option Addr) (n c : Nat) : (Instr.buildSlice 36 1 #[(0, .slice ad n c)]).run Try.prog w = .ok (.slice (some ⟨w.heap.size, 0, none⟩) 1 1) (w.alloc (.cells #[.slice ad n c] 35)) := by
  obtain ⟨i, i1, i2, i3, i4⟩ := full35
  exact run_buildSlice (P := Try.prog) w 36 35 1 #[(0, .slice ad n c)] #[.slice ad n c] i _ Try.underlying36 i1 i2 (by rw [i3]; decide) (by rw [i3]; decide) (by rw [i3]; kernel_rfl)
theorem owns_one (w : World) (e : TypeId) (u : Value) : (w.alloc (.cells #[u] e)).ownsRow w.heap.size e 1 (.slice (some ⟨w.heap.size, 0, none⟩) 1 1) 1 [u] :=
  ⟨rfl, .inr ⟨w.heap.size, 1, #[u], rfl, Nat.le_refl _, heap_alloc_new w _, Nat.le_refl _, by decide, rfl, rfl⟩⟩
theorem owns_none (w : World) (e : TypeId) : (w.alloc (.cells #[] e)).ownsRow w.heap.size e 1 (.slice (some ⟨w.heap.size, 0, none⟩) 0 0) 0 [] :=
  ⟨rfl, .inr ⟨w.heap.size, 0, #[], rfl, Nat.le_refl _, heap_alloc_new w _, Nat.le_refl _, Nat.zero_le _, rfl, rfl⟩⟩
theorem wpList_one24 (x : Operand) (ad : Option Addr) (n c : Nat) (ho : o.op = .buildSlice 24 1 #[(0, x)]) (hg : o.guard = none) (hx : a.eval x = .slice ad n c)
    (h : ∀ w', w'.ownsRow w.heap.size 32 1 (.slice (some ⟨w.heap.size, 0, none⟩) 1 1) 1 [.slice ad n c] → Below w.heap.size w w' → w'.heap.size = w.heap.size + 1 → wpList Try.prog ops Q rest (a.put o.dst (.slice (some ⟨w.heap.size, 0, none⟩) 1 1)) w') :
    wpList Try.prog ops Q (o :: rest) a w := by
  refine wpList_plain hg fun K hK => ?_
  have r : (execOp a.eval o).run Try.prog w = .ok (.value (.slice (some ⟨w.heap.size, 0, none⟩) 1 1)) (w.alloc (.cells #[.slice ad n c] 32)) := by
    unfold execOp
    simp only [ho, List.map_toArray, List.map_cons, List.map_nil, hx, Sem.run_bind, run_one24, Result.andThen_ok, Sem.run_pure]
  unfold Oper.wp
  rw [r, Oper.upon_value]
  exact hK _ _ (h _ (owns_one w 32 _) ((Below.refl _ _).alloc (Nat.le_refl _) _) (by simp))
theorem wpList_one35 (x : Operand) (s : ByteArray) (ho : o.op = .buildSlice 35 1 #[(0, x)]) (hg : o.guard = none) (hx : a.eval x = .string s)
    (h : ∀ w', w'.ownsRow w.heap.size 9 1 (.slice (some ⟨w.heap.size, 0, none⟩) 1 1) 1 [.string s] → Below w.heap.size w w' → w'.heap.size = w.heap.size + 1 → wpList Try.prog ops Q rest (a.put o.dst (.slice (some ⟨w.heap.size, 0, none⟩) 1 1)) w') :
    wpList Try.prog ops Q (o :: rest) a w := by
  refine wpList_plain hg fun K hK => ?_
  have r : (execOp a.eval o).run Try.prog w = .ok (.value (.slice (some ⟨w.heap.size, 0, none⟩) 1 1)) (w.alloc (.cells #[.string s] 9)) := by
    unfold execOp
    simp only [ho, List.map_toArray, List.map_cons, List.map_nil, hx, Sem.run_bind, run_one35, Result.andThen_ok, Sem.run_pure]
  unfold Oper.wp
  rw [r, Oper.upon_value]
  exact hK _ _ (h _ (owns_one w 9 _) ((Below.refl _ _).alloc (Nat.le_refl _) _) (by simp))
theorem wpList_one36 (x : Operand) (ad : Option Addr) (n c : Nat) (ho : o.op = .buildSlice 36 1 #[(0, x)]) (hg : o.guard = none) (hx : a.eval x = .slice ad n c)
    (h : ∀ w', w'.ownsRow w.heap.size 35 1 (.slice (some ⟨w.heap.size, 0, none⟩) 1 1) 1 [.slice ad n c] → Below w.heap.size w w' → w'.heap.size = w.heap.size + 1 → wpList Try.prog ops Q rest (a.put o.dst (.slice (some ⟨w.heap.size, 0, none⟩) 1 1)) w') :
    wpList Try.prog ops Q (o :: rest) a w := by
  refine wpList_plain hg fun K hK => ?_
  have r : (execOp a.eval o).run Try.prog w = .ok (.value (.slice (some ⟨w.heap.size, 0, none⟩) 1 1)) (w.alloc (.cells #[.slice ad n c] 35)) := by
    unfold execOp
    simp only [ho, List.map_toArray, List.map_cons, List.map_nil, hx, Sem.run_bind, run_one36, Result.andThen_ok, Sem.run_pure]
  unfold Oper.wp
  rw [r, Oper.upon_value]
  exact hK _ _ (h _ (owns_one w 35 _) ((Below.refl _ _).alloc (Nat.le_refl _) _) (by simp))
/-- 'append(l, x)' of one element: of bodies, of texts, of lists. -/
theorem wpList_app1 {t e : TypeId} {i : TypeInfo} {z : Value} {by_ : Nat} (hgd : o.guard = none) (s x : Operand) (ho : o.op = .call { callee := .builtin .append, args := #[s, x], argTypes := #[t, t] })
    (ht : Try.prog.underlying t = some (.slice e)) (hi : Try.prog.info? e = some i) (hz : i.zero = some z) (hs1 : i.size = 1) (hby : i.bytes = by_) (hzc : z.cells.size = 1) (hb : by_ ≤ 24)
    (B B2 : Nat) (v u : Value) (n : Nat) (xs : List Value) (g c : Nat) (hs : a.eval s = v) (hown : w.ownsRow B e 1 v n xs) (hx : a.eval x = .slice (some ⟨g, 0, none⟩) 1 c)
    (hn : w.ownsRow B2 e 1 (.slice (some ⟨g, 0, none⟩) 1 c) 1 [u]) (hu : u.oneCell' = true) (hlen : n ≤ 1000000) (hB : B ≤ w.heap.size)
    (h : ∀ v' w', w'.ownsRow B e 1 v' (n + 1) (xs ++ [u]) → w.grownBy w' v.ownBlock → wpList Try.prog ops Q rest (a.put o.dst v') w') : wpList Try.prog ops Q (o :: rest) a w := by
  refine wpList_append_own w hgd s x t ho B e i z 1 by_ ht hi hz hs1 hby hzc (by decide) v n xs hs hown ⟨g, 0, none⟩ 1 c [u] hx rfl (fun j y hj => ?_) (fun y hy => by rw [List.mem_singleton.1 hy]; exact hu) (by simp only [maxLen]; omega) ?_ hB fun v' w' h2 h3 _ => h v' w' h2 h3
  · obtain ⟨rfl, rfl⟩ : j = 0 ∧ y = u := by
      cases j with
      | zero => simp at hj; exact ⟨rfl, hj.symm⟩
      | succ j => simp at hj
    obtain ⟨g2, cap, e2, _, _, _, hc⟩ := owns_at hn (i := 0) (by omega)
    cases e2
    rw [Addr.add_mid]
    exact hc
  · have h1 : n + 1 ≤ 2000000 := by omega
    exact Nat.le_trans (Nat.mul_le_mul h1 hb) (show 2000000 * 24 ≤ 140737488355328 by decide)
end

/-! ### bodies -/
def BodsV (B : Nat) (w : World) (v : Value) (bs : List Body) : Prop := ∃ vs : List Value, vs.length = bs.length ∧ w.ownsRow B 32 1 v bs.length vs ∧ ∀ i, i < bs.length → Own B w (vs.getD i undef) (bs.getD i []) ∧ (bs.getD i []).length ≤ 4000
section
variable {w w' : World} {B : Nat} {v : Value} {bs : List Body}
theorem BodsV.nil (B : Nat) (w : World) : BodsV B w (.slice none 0 0) [] := ⟨[], rfl, World.ownsRow_nil w B 32 1, fun i hi => by simp at hi⟩
theorem BodsV.keep (h : BodsV B w v bs) (hb : ∀ k, B ≤ k → k < w.heap.size → w'.heap[k]? = w.heap[k]?) : BodsV B w' v bs := by
  obtain ⟨vs, h1, h2, h3⟩ := h
  refine ⟨vs, h1, owns_same h2 fun k hk => ?_, fun i hi => ⟨owns_same (h3 i hi).1 fun k hk => ?_, (h3 i hi).2⟩⟩
  · have := h2.lt k (by simpa using hk)
    exact hb k this.1 this.2
  · have := (h3 i hi).1.lt k (by simpa using hk)
    exact hb k this.1 this.2
theorem BodsV.below (h : BodsV B w v bs) (hb : Below w.heap.size w w') : BodsV B w' v bs := h.keep fun k _ hk => hb.block k hk
theorem BodsV.lower {B' : Nat} (h : BodsV B w v bs) (hb : B' ≤ B) : BodsV B' w v bs := by
  obtain ⟨vs, h1, h2, h3⟩ := h
  exact ⟨vs, h1, owns_lower h2 hb, fun i hi => ⟨(h3 i hi).1.lower hb, (h3 i hi).2⟩⟩
theorem BodsV.slice (h : BodsV B w v bs) : ∃ a cap, v = .slice a bs.length cap ∧ bs.length ≤ cap ∧ cap ≤ maxLen := by
  obtain ⟨vs, h1, h2, h3⟩ := h
  exact owns_slice h2
theorem BodsV.at (h : BodsV B w v bs) {i : Nat} (hi : i < bs.length) : ∃ g cap u, v = .slice (some ⟨g, 0, none⟩) bs.length cap ∧ B ≤ g ∧ g < w.heap.size ∧ w.cell? ⟨g, i, none⟩ = some u ∧ Own B w u (bs.getD i []) ∧ RowV w.heap.size w u (bs.getD i []) := by
  obtain ⟨vs, h1, h2, h3⟩ := h
  obtain ⟨g, cap, rfl, hb, hg, _, hc⟩ := owns_at h2 hi
  refine ⟨g, cap, vs.getD i undef, rfl, hb, hg, ?_, (h3 i hi).1, (h3 i hi).1.row (by have := (h3 i hi).2; omega)⟩
  rw [hc, List.getElem?_eq_getElem (by omega), List.getD_eq_getElem?_getD, List.getElem?_eq_getElem (by omega)]
  rfl
theorem BodsV.few (h : BodsV B w v bs) : ∀ b ∈ bs, b.length ≤ 4000 := fun b hb => by
  obtain ⟨vs, h1, h2, h3⟩ := h
  obtain ⟨i, hi, rfl⟩ := List.mem_iff_getElem.1 hb
  have := (h3 i hi).2
  rw [List.getD_eq_getElem?_getD, List.getElem?_eq_getElem hi] at this
  exact this
/-- Another block is set. -/
theorem BodsV.set (h : BodsV B w v bs) {q i : Nat} {u : Value} (hq : q < B) : BodsV B (w.setCell ⟨q, i, none⟩ u) v bs :=
  h.keep fun k hk _ => Below.heap_setCell _ _ _ _ (fun e => by have : k = q := e; omega)
theorem bods_snoc {vs : List Value} {v' u : Value} {b : Body} (h1 : vs.length = bs.length) (h2 : w.ownsRow B 32 1 v bs.length vs) (h3 : ∀ i, i < bs.length → Own B w (vs.getD i undef) (bs.getD i []) ∧ (bs.getD i []).length ≤ 4000)
    (hu : Own B w u b) (hb : b.length ≤ 4000) (ho : w'.ownsRow B 32 1 v' (bs.length + 1) (vs ++ [u])) (hg : w.grownBy w' v.ownBlock) : BodsV B w' v' (bs ++ [b]) := by
  have stay : ∀ {y : Value} {l : List UInt8}, Own B w y l → Own B w' y l := fun {y l} h => by
    refine owns_same h fun k hk => ?_
    have hk' : y.ownBlock = some k := by simpa using hk
    obtain ⟨_, hlt, C, hC⟩ := h.block hk'
    refine hg.block k hlt fun e => ?_
    rcases h2.2 with ⟨rfl, _⟩ | ⟨g, cap, cur, rfl, _, hh, _⟩
    · simp [Value.ownBlock] at e
    · simp only [Value.ownBlock, Option.some.injEq] at e
      subst e
      rw [hh] at hC
      cases hC
  refine ⟨vs ++ [u], by simp [h1], by simpa using ho, fun i hi => ?_⟩
  by_cases hi2 : i < bs.length
  · have e1 : (vs ++ [u]).getD i undef = vs.getD i undef := by
      rw [List.getD_eq_getElem?_getD, List.getElem?_append_left (by omega), ← List.getD_eq_getElem?_getD]
    have e2 : (bs ++ [b]).getD i [] = bs.getD i [] := by
      rw [List.getD_eq_getElem?_getD, List.getElem?_append_left hi2, ← List.getD_eq_getElem?_getD]
    rw [e1, e2]
    exact ⟨stay (h3 i hi2).1, (h3 i hi2).2⟩
  · obtain rfl : i = bs.length := by simp at hi; omega
    have e1 : (vs ++ [u]).getD bs.length undef = u := by
      rw [List.getD_eq_getElem?_getD, List.getElem?_append_right (by omega), h1]; simp
    have e2 : (bs ++ [b]).getD bs.length [] = b := by
      rw [List.getD_eq_getElem?_getD, List.getElem?_append_right (by omega)]; simp
    rw [e1, e2]
    exact ⟨stay hu, hb⟩
end
end Go.Proofs.Ytjebejdcjfnleaa
