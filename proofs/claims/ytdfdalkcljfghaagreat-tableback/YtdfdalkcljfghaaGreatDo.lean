/-
  One thing more is done: append to a list of things done. One thing done to the program's device: its sector as it is now, and one thing more that waits.
-/
import Derived.Test.YtdfdalkcljfghaaGreatOps
import Derived.Great.BuildSlice
import Derived.Test.YtdfdalkcljfghaaGreatDevB
namespace Go.Proofs.YtdfdalkcljfghaaGreat
open Go.RowKit

/-- What 'append' hands back lies where it lay, or in a new block. -/
theorem append_where {w : World} (t ty e : TypeId) (i : TypeInfo) (z : Value) (ht : Tryz.prog.underlying t = some (.slice e)) (hi : Tryz.prog.info? e = some i) (hz : i.zero = some z) (hzs : z.cells.size = i.size) (hsz : 0 < i.size)
    (v : Value) (n : Nat) (xs : List Value) (hown : w.ownsRow 0 e i.size v n xs)
    (a : Addr) (m c : Nat) (news : List Value) (hl : news.length = m * i.size) (hnews : ∀ j u, news[j]? = some u → w.cell? (a.add j) = some u) (h1 : ∀ u ∈ news, u.oneCell' = true)
    (hm : 0 < m) (h63 : n + m ≤ maxLen) (hbytes : (n + m) * i.bytes ≤ 140737488355328) :
    ∃ v' w', (Builtin.append_ #[t, t] ty #[v, .slice (some a) m c]).run Tryz.prog w = .ok v' w' ∧ w'.ownsRow 0 e i.size v' (n + m) (xs ++ news) ∧ w.grownBy w' v.ownBlock ∧
      ∀ k ∈ v'.ownBlock.toList, k ∈ v.ownBlock.toList ∨ w.heap.size ≤ k := by
  obtain ⟨v', w', hr, h2, h3, _⟩ := run_append_own (P := Tryz.prog) w 0 t ty e i z i.size i.bytes ht hi hz rfl rfl hzs hsz v n xs hown a m c news hl hnews h1 h63 hbytes (Nat.zero_le _)
  refine ⟨v', w', hr, h2, h3, ?_⟩
  have h63' : n + m ≤ 9223372036854775807 := by simp only [maxLen] at h63; omega
  rcases hown.2 with ⟨rfl, rfl⟩ | ⟨g, cap, cur, rfl, hbg, hg, hnc, hcm, hcs, htake⟩
  · have hr2 := run_append_nil (P := Tryz.prog) w t ty e i z ht hi hz a m c news hl hnews hm (by omega) (by have hb := hbytes; simp only [Nat.zero_add] at hb; omega)
    rw [hr2] at hr
    cases hr
    intro k hk
    simp [Value.ownBlock] at hk
    exact .inr (by omega)
  · by_cases hroom : n + m ≤ cap
    · have hfit : n * i.size + news.length ≤ cur.size := by rw [hl, hcs, ← Nat.add_mul]; exact Nat.mul_le_mul_right _ hroom
      have hr2 := run_append_room (P := Tryz.prog) w t ty e i ht hi g n cap cur hg a m c news hl hnews h1 hroom hfit
      rw [hr2] at hr
      cases hr
      intro k hk
      exact .inl hk
    · have holds : ∀ j u, xs[j]? = some u → w.cell? ((⟨g, 0, none⟩ : Addr).add j) = some u := hown.cells (g := g) rfl
      have hr2 := run_append_grow (P := Tryz.prog) w t ty e i z ht hi hz ⟨g, 0, none⟩ n cap xs hown.1 holds a m c news hl hnews (by omega) (by omega) (growslice_fits (by omega) hbytes)
      rw [hr2] at hr
      cases hr
      intro k hk
      simp [Value.ownBlock] at hk
      exact .inr (by omega)

section
variable {ρ : Operand → Value} {o : Oper}
theorem op_slice147 {x : Operand} {r : Nat × Sec} (ho : o.op = .buildSlice 147 1 #[(0, x)]) (h1 : ρ x = .agg (doneV r).toArray) (hs : r.2.length = 64) (w : World) :
    (execOp ρ o).run Tryz.prog w = .ok (.value (.slice (some ⟨w.heap.size, 0, none⟩) 1 1)) (w.alloc (.cells (doneV r).toArray 151)) := by
  obtain ⟨i, i1, i2, i3, i4⟩ := full72
  have hl : (doneV r).length = 65 := doneV_length hs
  have hf : Instr.fill (fun j => some (j * i.size, i.size)) ((Array.range (1 * i.size)).map ((Value.agg (doneV (0, zeroS)).toArray).cells[· % (Value.agg (doneV (0, zeroS)).toArray).cells.size]!)) [(0, .agg (doneV r).toArray)] = some (doneV r).toArray := by
    rw [i3]
    have e : ((Array.range (1 * 65)).map ((Value.agg (doneV (0, zeroS)).toArray).cells[· % (Value.agg (doneV (0, zeroS)).toArray).cells.size]!)) = (doneV (0, zeroS)).toArray := by kernel_rfl
    rw [e]
    simp [Instr.fill, Value.cells, hl]
    refine ⟨by decide +kernel, ?_⟩
    have h := fold_set 0 (doneV r) 0 [] (doneV (0, zeroS)) [] rfl (by rw [hl]; decide +kernel)
    simpa using h
  have hr := run_buildSlice (P := Tryz.prog) w 147 151 1 #[(0, .agg (doneV r).toArray)] (doneV r).toArray i _ Tryz.underlying147 i1 i2 (by rw [i3]; decide) (by rw [i3]; decide) hf
  unfold execOp
  rw [ho]
  simp only [List.map_toArray, List.map_cons, List.map_nil, h1, Sem.run_bind, hr, Result.andThen_ok, Sem.run_pure]
theorem op_app147 {x y : Operand} {r : Nat × Sec} {l : List (Nat × Sec)} {v : Value} {b : Nat} {w : World} (h1 : ρ x = v) (h2 : ρ y = .slice (some ⟨b, 0, none⟩) 1 1)
    (hown : w.ownsRow 0 151 65 v l.length (donesV l)) (hb : Arr w b (doneV r)) (hs : r.2.length = 64) (hlen : l.length ≤ 1000000) :
    ∃ v' w', (∀ o : Oper, o.op = .call { callee := .builtin .append, args := #[x, y], argTypes := #[147, 147] } → o.type = 147 → (execOp ρ o).run Tryz.prog w = .ok (.value v') w') ∧ w'.ownsRow 0 151 65 v' (l ++ [r]).length (donesV (l ++ [r])) ∧ w.grownBy w' v.ownBlock ∧ ∀ k ∈ v'.ownBlock.toList, k ∈ v.ownBlock.toList ∨ w.heap.size ≤ k := by
  obtain ⟨i, i1, i2, i3, i4⟩ := full72
  have hown' : w.ownsRow 0 151 i.size v l.length (donesV l) := by rw [i3]; exact hown
  obtain ⟨v', w', hr, q1, q2, q3⟩ := append_where 147 147 151 i _ Tryz.underlying147 i1 i2 (by rw [i3]; decide +kernel) (by rw [i3]; decide) v l.length (donesV l) hown' ⟨b, 0, none⟩ 1 1 (doneV r) (by rw [doneV_length hs, i3]) (fun j u hj => by
    rw [Addr.add_mid, Nat.zero_add]; exact hb.cell hj) (doneV_one r) (by decide) (by simp only [maxLen]; omega) (by rw [i4]; omega)
  refine ⟨v', w', ?_, ?_, q2, q3⟩
  · intro o ho hty
    unfold execOp
    rw [ho]
    simp only [hty, resolve, invoke, builtin, Sem.run_bind, Sem.run_pure, Result.andThen_ok, List.map_toArray, List.map_cons, List.map_nil, h1, h2, hr]
  · rw [donesV_snoc, List.length_append]
    rw [i3] at q1
    exact q1
end
end Go.Proofs.YtdfdalkcljfghaaGreat

namespace Go.Proofs.YtdfdalkcljfghaaGreat
open Go.RowKit

/-- 'append' of one thing done, number iB makes it a slice, number iA appends it. -/
def appV (W : World) (r : Nat × Sec) (iB iA : Nat) (f : Nat → Value) : Nat → Value → Option Value → World → Prop := fun j v s w =>
  if j = iA then s = some v else if j = iB then (s = none → ∃ b, v = .slice (some ⟨b, 0, none⟩) 1 1 ∧ W.heap.size ≤ b ∧ Arr w b (doneV r)) else v = f j
/-- How memory stands meanwhile: it grew; appended (B); laid down, by number iS (D). -/
def appC (W : World) (iA iS : Nat) (B : Value → World → Prop) (D : World → Prop) : (Nat → Bool) → Option Value → World → Prop := fun L s w => match s with
  | none => L iA = false ∧ L iS = false ∧ Below W.heap.size W w
  | some v => L iA = true ∧ (if L iS = true then D w else B v w)
section
variable {W : World} {r : Nat × Sec} {iB iA iS : Nat} {f : Nat → Value} {B : Value → World → Prop} {D : World → Prop}
theorem appC.upd {i : Nat} (h1 : iA ≠ i) (h2 : iS ≠ i) : ∀ L s w, appC W iA iS B D L s w → appC W iA iS B D (Flow.upd L i) s w := fun L s w h => by
  cases s with
  | none => exact ⟨by rw [Flow.upd_ne h1]; exact h.1, by rw [Flow.upd_ne h2]; exact h.2.1, h.2.2⟩
  | some v => exact ⟨by rw [Flow.upd_ne h1]; exact h.1, by rw [Flow.upd_ne h2]; exact h.2⟩
theorem appC.pre {L : Nat → Bool} {s : Option Value} {w : World} (h : appC W iA iS B D L s w) (hL : L iA = false) : s = none ∧ Below W.heap.size W w := by
  cases s with
  | none => exact ⟨rfl, h.2.2⟩
  | some v => exact absurd (hL.symm.trans h.1) (by decide)
theorem appC.mid {L : Nat → Bool} {s : Option Value} {w : World} (h : appC W iA iS B D L s w) (hL : L iA = true) (hS : L iS = false) : ∃ v, s = some v ∧ B v w := by
  cases s with
  | none => exact absurd (hL.symm.trans h.1) (by decide)
  | some v =>
    have h2 := h.2
    rw [hS] at h2
    exact ⟨v, rfl, h2⟩
theorem appC.end {L : Nat → Bool} {s : Option Value} {w : World} (h : appC W iA iS B D L s w) (hS : L iS = true) : D w := by
  cases s with
  | none => exact absurd (hS.symm.trans h.2.1) (by decide)
  | some v =>
    have h2 := h.2
    rw [hS] at h2
    exact h2
/-- It makes memory, ahead of the append. -/
theorem appC.put {i : Nat} (h1 : iA ≠ i) (h2 : iS ≠ i) {L : Nat → Bool} {w w' : World} (h : appC W iA iS B D L none w) (hb : Below w.heap.size w w') : appC W iA iS B D (Flow.upd L i) none w' :=
  ⟨by rw [Flow.upd_ne h1]; exact h.1, by rw [Flow.upd_ne h2]; exact h.2.1, h.2.2.trans (hb.mono h.2.2.size)⟩
theorem appV.grow {L : Nat → Bool} {w w' : World} (hb : Below w.heap.size w w') : ∀ j u, L j = true → appV W r iB iA f j u none w → appV W r iB iA f j u none w' := fun j u _ h => by
  unfold appV at *
  split
  · rename_i e; rw [if_pos e] at h; exact h
  · rename_i e
    rw [if_neg e] at h
    split
    · rename_i e2
      rw [if_pos e2] at h
      intro _
      obtain ⟨b, h1, h2, h3⟩ := h rfl
      exact ⟨b, h1, h2, h3.below hb⟩
    · rename_i e2; rw [if_neg e2] at h; exact h
theorem appV.app {L : Nat → Bool} {w w' : World} (v : Value) : ∀ j u, L j = true → appV W r iB iA f j u none w → appV W r iB iA f j u (some v) w' := fun j u _ h => by
  unfold appV at *
  split
  · rename_i e; rw [if_pos e] at h; cases h
  · rename_i e
    rw [if_neg e] at h
    split
    · intro e3; cases e3
    · rename_i e2; rw [if_neg e2] at h; exact h
theorem appV.set {L : Nat → Bool} {w w' : World} (v : Value) : ∀ j u, L j = true → appV W r iB iA f j u (some v) w → appV W r iB iA f j u (some v) w' := fun j u _ h => by
  unfold appV at *
  split
  · rename_i e; rw [if_pos e] at h; exact h
  · rename_i e
    rw [if_neg e] at h
    split
    · intro e3; cases e3
    · rename_i e2; rw [if_neg e2] at h; exact h
end

theorem But.undrew {F : List Nat} {w w' : World} (h : But F w.drew w') : But F w w' := ⟨h.os, h.tape, h.output, h.size, h.block⟩
theorem setCells_but (b o : Nat) (vs : List Value) (w : World) : ∀ k, k ≠ b → (w.setCells b o vs).heap[k]? = w.heap[k]? := fun k hk => by
  rcases Nat.lt_or_ge k w.heap.size with h | h
  · exact (setCells_grown b vs o w).block k h (by simpa using hk)
  · rw [Array.getElem?_eq_none h, Array.getElem?_eq_none (by rw [setCells_size]; exact h)]

/-- Its sector as it is now is set. -/
theorem DevB.nowSet {bk bn bw : Nat} {wv : Value} {w : World} {p : Nat} {d : DM} (h : DevB bk bn bw wv w p d) {k : Nat} (hk : k < d.kept.length) {s : Sec} (hs : s.length = 64) : DevB bk bn bw wv (w.setCells bn (k * 64) (bytesV s)) p { d with now := d.now.set k s } := by
  obtain ⟨n1, n2, n3, n4, n5, n6, n7, n8, n9, n10, _⟩ := nodupF h.nodup
  have hb := setCells_but bn (k * 64) (bytesV s) w
  refine { ok := { h.ok with now := ?_, nowS := set_mem h.ok.nowS _ _ hs }, nodup := h.nodup, dev := h.dev.same (hb _ n2), kept := h.kept.same (hb _ n4), now := h.now.secSet h.ok.nowS (by rw [h.ok.now]; exact hk) hs, wear := h.wear.same (hb _ n6.symm), wait := owns_same h.wait fun j hj => hb j (n9 j hj).symm }
  show (d.now.set k s).length = d.kept.length
  rw [List.length_set]; exact h.ok.now

/-- Something more waits. -/
theorem DevB.more {bk bn bw : Nat} {wv v : Value} {w w1 : World} {p : Nat} {d : DM} (h : DevB bk bn bw wv w p d) {r : Nat × Sec} (hr : r.1 < d.kept.length ∧ r.2.length = 64) (hown : w1.ownsRow 0 151 65 v (d.wait ++ [r]).length (donesV (d.wait ++ [r])))
    (hb : But wv.ownBlock.toList w w1) (hf : ∀ k ∈ v.ownBlock.toList, k ∈ wv.ownBlock.toList ∨ w.heap.size ≤ k) :
    DevB bk bn bw v (w1.setCell ⟨p, 2, none⟩ v) p { d with wait := d.wait ++ [r] } ∧ Turns (devF p bk bn bw wv) (devF p bk bn bw v) w (w1.setCell ⟨p, 2, none⟩ v) := by
  have hlt := h.lt
  obtain ⟨n1, n2, n3, n4, n5, n6, n7, n8, n9, n10, _⟩ := nodupF h.nodup
  have hp := hlt p (by simp [devF])
  have hk := hlt bk (by simp [devF])
  have hn := hlt bn (by simp [devF])
  have hw := hlt bw (by simp [devF])
  have fr : ∀ x, x < w.heap.size → (∀ j ∈ wv.ownBlock.toList, x ≠ j) → ∀ j ∈ v.ownBlock.toList, x ≠ j := fun x hx hne j hj e => by
    subst e
    rcases hf _ hj with e1 | e1
    · exact hne _ e1 rfl
    · omega
  have same : ∀ x, x < w.heap.size → (∀ j ∈ wv.ownBlock.toList, x ≠ j) → w1.heap[x]? = w.heap[x]? := fun x hx hne => hb.block x hx fun e => hne x e rfl
  have nd : v.ownBlock.toList.Nodup := by cases v.ownBlock <;> simp
  have g7 := fr p hp n7
  have g8 := fr bk hk n8
  have g9 := fr bn hn n9
  have g10 := fr bw hw n10
  refine ⟨{ ok := { h.ok with waitS := ?_ }, nodup := ?_, dev := (h.dev.same (same p hp n7)).set 2 v, kept := (h.kept.same (same bk hk n8)).other _ _ n1.symm, now := (h.now.same (same bn hn n9)).other _ _ n2.symm, wear := (h.wear.same (same bw hw n10)).other _ _ n3.symm, wait := owns_same hown fun j hj => Below.heap_setCell _ _ _ _ (g7 j hj).symm }, ?_, ?_⟩
  · intro x hx
    rcases List.mem_append.1 hx with h1 | h1
    · exact h.ok.waitS x h1
    · simp at h1; subst h1; exact hr
  · simp only [devF, List.nodup_cons, List.mem_cons, not_or]
    exact ⟨⟨n1, n2, n3, fun e => g7 _ e rfl⟩, ⟨n4, n5, fun e => g8 _ e rfl⟩, ⟨n6, fun e => g9 _ e rfl⟩, fun e => g10 _ e rfl, nd⟩
  · have b1 : But (devF p bk bn bw wv) w w1 := ⟨hb.os, hb.tape, hb.output, hb.size, fun k hk hn => hb.block k hk fun e => hn (by simp only [devF, List.mem_cons]; exact .inr (.inr (.inr (.inr e))))⟩
    exact b1.trans (But.of_grown (F := [p]) (set_grown _ _ _ _) (by simp)) fun k hk => .inl (by simp at hk; subst hk; simp [devF])
  · intro k hk
    simp only [devF, List.mem_cons] at hk ⊢
    rcases hk with e | e | e | e | e
    · exact .inl (.inl e)
    · exact .inl (.inr (.inl e))
    · exact .inl (.inr (.inr (.inl e)))
    · exact .inl (.inr (.inr (.inr (.inl e))))
    · rcases hf k e with e1 | e1
      · exact .inl (.inr (.inr (.inr (.inr e1))))
      · exact .inr e1

set_option maxHeartbeats 1600000 in
set_option maxRecDepth 100000 in
theorem do_walk {F : List Nat} {w : World} {p : Nat} {d : DM} (h : Dev F w p d) (k : Nat) (hk : k < d.kept.length) (s : Sec) (hs : s.length = 64) (hlen : d.wait.length ≤ 1000000) :
    Calls Tryz.prog 163 #[.pointer (some ⟨p, 0, none⟩), .int .i64 (k : Int), secV s] w fun e w' => e = .returned (.tuple #[]) ∧ ∃ F', Dev F' w' p (doD d k s) ∧ Turns F F' w w' := by
  obtain ⟨bk, bn, bw, wv, rfl, h⟩ := h
  have HD := hide h
  have HS := hide hs
  clear h
  go_enter Tryz.func163, Tryz.ntmps163
  go_wp2_with (refine wpList_box 136 _ (bytesV s) rfl rfl rfl ?_)
  intro w1 hA1 hb1 hs1
  have HA1 := hide hA1
  have Hb1 : Hid (But (devF p bk bn bw wv) w w1) := hide (But.of_below hb1)
  have HD1 := hide ((unhide HD).same (w' := w1) fun k hk => hb1.block k ((unhide HD).lt k hk))
  have HNE : Hid (w.heap.size ≠ bn) := hide (fun e => by have := (unhide HD).now.lt; omega)
  clear hA1 hb1
  generalize w.heap.size = q at *
  go_wp2_with fail
  have hc1 := (unhide HD1).dev.cell (i := 1) rfl
  have hr5 : w1.rangeAt q 0 (bytesV s) := (unhide HA1).range
  have hth : w1.there bn (k * 64) 64 := (unhide HD1).now.secThere (unhide HD1).ok.nowS (by rw [(unhide HD1).ok.now]; exact hk)
  refine Flow.wp_region (Flow.VV (fun j => match j with | 0 => .pointer (some ⟨p, 0, none⟩) | 1 => .pointer (some ⟨p, 0, none⟩) | 2 => .pointer (some ⟨p, 1, none⟩) | 3 => .slice (some ⟨bn, 0, none⟩) d.kept.length d.kept.length | 4 => .int .i64 (k : Int) | 5 => secV s | 6 => .pointer (some ⟨bn, k * 64, none⟩) | 7 => undef | _ => undef)) (Flow.two 7 (fun _ w' => w' = w1.drew) (fun _ w' => w' = w1.drew.setCells bn (k * 64) (bytesV s))) () (by kernel_rfl) (by kernel_rfl) (by unfold Flow.two; simp) ⟨?_, ?_, ?_, ?_, ?_, ?_, ?_, ?_, trivial⟩ ?_
  · exact Flow.move (Flow.goes_plain rfl) (Flow.two.upd (by decide)) (.inl rfl) fun a s w' hs hd => (hs 0 (by kernel_rfl))
  · refine Flow.pure (Flow.goes_plain rfl) (Flow.two.upd (by decide)) fun a L s w' hC hL hn hs hd => ?_
    skip
    exact ⟨_, op_nil rfl (hd 0 6 (by kernel_rfl)) w', rfl⟩
  · refine Flow.pure (Flow.goes_plain rfl) (Flow.two.upd (by decide)) fun a L s w' hC hL hn hs hd => ?_
    skip
    exact ⟨_, op_f149_1 rfl (hd 1 7 (by kernel_rfl)) w', rfl⟩
  · refine Flow.pure (Flow.goes_plain rfl) (Flow.two.upd (by decide)) fun a L s w' hC hL hn hs hd => ?_
    have hA := hC.pre (hn.after 7 (by kernel_rfl))
    exact ⟨_, op_load131 rfl (hd 2 8 (by kernel_rfl)) (by rw [hA]; exact hc1), rfl⟩
  · exact Flow.move (Flow.goes_plain rfl) (Flow.two.upd (by decide)) (.inl rfl) fun a s w' hs hd => (hs 1 (by kernel_rfl))
  · refine Flow.pure (Flow.goes_plain rfl) (Flow.two.upd (by decide)) fun a L s w' hC hL hn hs hd => ?_
    have hA := hC.pre (hn.after 7 (by kernel_rfl))
    exact ⟨_, op_load136 rfl (hs 5 (by kernel_rfl)) (by rw [hA]; exact hr5) (unhide HS), rfl⟩
  · refine Flow.pure (Flow.goes_plain rfl) (Flow.two.upd (by decide)) fun a L s w' hC hL hn hs hd => ?_
    have hA := hC.pre (hn.after 7 (by kernel_rfl))
    exact ⟨_, op_idx131 rfl (hd 3 9 (by kernel_rfl)) (hd 4 10 (by kernel_rfl)) hk w', rfl⟩
  · refine Flow.store (Flow.goes_plain rfl) fun a L s0 w' hC hL hn hs hd => ?_
    have hA := hC.pre hL
    exact ⟨(), _, op_store136 rfl (hd 6 12 (by kernel_rfl)) (hd 5 11 (by kernel_rfl)) (by rw [hA]; exact hth) (unhide HS), fun _ _ _ h => h, Flow.two.post (by rw [hA]), rfl⟩
  · intro L _ w4 hC hL vals hv
    have hA := hC.end (hL 7 (by decide))
    have HD4 := hide (((unhide HD1).same (w' := w1.drew) (fun _ _ => rfl)).nowSet hk (unhide HS))
    have hw4 : w4.heap.size = w1.heap.size := by rw [hA]; exact setCells_size _ _ _ _
    have HT4 : Hid (But (devF p bk bn bw wv) w1 w4) := hide (by rw [hA]; exact (But.of_grown (b := bn) (setCells_grown _ _ _ w1.drew) (by simp [devF])).undrew)
    have HD4 : Hid (DevB bk bn bw wv w4 p { d with now := d.now.set k s }) := hide (by rw [hA]; exact unhide HD4)
    have HA4 : Hid (Arr w4 q (bytesV s)) := hide (by rw [hA]; exact (unhide HA1).same (setCells_but _ _ _ _ _ (unhide HNE)))
    simp only [Free.putAll, Act.put, List.setIfInBounds_toArray, List.set_cons_succ, List.set_cons_zero]
    clear hA hC hL hv hc1 hr5 hth HD HD1 HA1
    generalize vals 0 = x0 at *
    generalize vals 1 = x1 at *
    generalize vals 2 = x2 at *
    generalize vals 3 = x3 at *
    generalize vals 4 = x4 at *
    generalize vals 5 = x5 at *
    generalize vals 6 = x6 at *
    go_wp2_with fail
    have hc2 := (unhide HD4).dev.cell (i := 2) rfl
    have hr5 : w4.rangeAt q 0 (bytesV s) := (unhide HA4).range
    refine Flow.wp_region (appV w4.drew (k, s) 8 9 (fun j => match j with | 0 => .pointer (some ⟨p, 0, none⟩) | 1 => .pointer (some ⟨p, 0, none⟩) | 2 => .pointer (some ⟨p, 0, none⟩) | 3 => .pointer (some ⟨p, 2, none⟩) | 4 => wv | 5 => .int .i64 (k : Int) | 6 => secV s | 7 => .agg (doneV (k, s)).toArray | 8 => undef | 9 => undef | 10 => .pointer (some ⟨p, 0, none⟩) | 11 => .pointer (some ⟨p, 2, none⟩) | 12 => undef | _ => undef)) (appC w4.drew 9 12 (fun v w' => w'.ownsRow 0 151 65 v (d.wait ++ [(k, s)]).length (donesV (d.wait ++ [(k, s)])) ∧ But wv.ownBlock.toList w4 w' ∧ ∀ j ∈ v.ownBlock.toList, j ∈ wv.ownBlock.toList ∨ w4.heap.size ≤ j)
      (fun w' => ∃ v w1, (w1.ownsRow 0 151 65 v (d.wait ++ [(k, s)]).length (donesV (d.wait ++ [(k, s)])) ∧ But wv.ownBlock.toList w4 w1 ∧ ∀ j ∈ v.ownBlock.toList, j ∈ wv.ownBlock.toList ∨ w4.heap.size ≤ j) ∧ w' = w1.setCell ⟨p, 2, none⟩ v)) none (by kernel_rfl) (by kernel_rfl) ⟨rfl, rfl, Below.refl _ _⟩ ⟨?_, ?_, ?_, ?_, ?_, ?_, ?_, ?_, ?_, ?_, ?_, ?_, ?_, trivial⟩ ?_
    · exact Flow.move (Flow.goes_plain rfl) (appC.upd (by decide) (by decide)) (.inl rfl) fun a s w' hs hd => (hs 0 (by kernel_rfl))
    · exact Flow.move (Flow.goes_plain rfl) (appC.upd (by decide) (by decide)) (.inl rfl) fun a s w' hs hd => (hs 0 (by kernel_rfl))
    · refine Flow.pure (Flow.goes_plain rfl) (appC.upd (by decide) (by decide)) fun a L s w' hC hL hn hs hd => ?_
      skip
      exact ⟨_, op_nil rfl (hd 1 14 (by kernel_rfl)) w', rfl⟩
    · refine Flow.pure (Flow.goes_plain rfl) (appC.upd (by decide) (by decide)) fun a L s w' hC hL hn hs hd => ?_
      skip
      exact ⟨_, op_f149_2 rfl (hd 2 15 (by kernel_rfl)) w', rfl⟩
    · refine Flow.pure (Flow.goes_plain rfl) (appC.upd (by decide) (by decide)) fun a L s w' hC hL hn hs hd => ?_
      have hA := hC.pre (hn.after 9 (by kernel_rfl))
      exact ⟨_, op_load147 rfl (hd 3 16 (by kernel_rfl)) ((hA.2.cell (p := ⟨p, 2, none⟩) (unhide HD4).dev.lt).trans hc2), rfl⟩
    · exact Flow.move (Flow.goes_plain rfl) (appC.upd (by decide) (by decide)) (.inl rfl) fun a s w' hs hd => (hs 1 (by kernel_rfl))
    · refine Flow.pure (Flow.goes_plain rfl) (appC.upd (by decide) (by decide)) fun a L s w' hC hL hn hs hd => ?_
      have hA := hC.pre (hn.after 9 (by kernel_rfl))
      exact ⟨_, op_load136 rfl (hs 5 (by kernel_rfl)) (fun j v hj => (hA.2.cell (p := ⟨q, 0 + j, none⟩) (unhide HA4).lt).trans (hr5 j v hj)) (unhide HS), rfl⟩
    · refine Flow.pure (Flow.goes_plain rfl) (appC.upd (by decide) (by decide)) fun a L s w' hC hL hn hs hd => ?_
      have hA := hC.pre (hn.after 9 (by kernel_rfl))
      exact ⟨_, op_build151 rfl (hd 5 18 (by kernel_rfl)) (hd 6 19 (by kernel_rfl)) (unhide HS) w', rfl⟩
    · refine Flow.value (Flow.goes_plain rfl) fun a L s0 w' hC hL hn hs hd => ?_
      obtain ⟨e0, hb0⟩ := hC.pre (hn.after 9 (by kernel_rfl))
      subst s0
      have hb8 : Below w'.heap.size w' (w'.alloc (.cells (doneV (k, s)).toArray 151)) := (Below.refl _ _).alloc (Nat.le_refl _) _
      exact ⟨_, none, _, op_slice147 rfl (hd 7 20 (by kernel_rfl)) (unhide HS) w', appV.grow hb8, appC.put (by decide) (by decide) hC hb8, fun _ => ⟨_, rfl, hb0.size, ⟨_, _, heap_alloc_new w' _, rfl⟩⟩⟩
    · refine Flow.value (Flow.goes_plain rfl) fun a L s0 w' hC hL hn hs hd => ?_
      obtain ⟨e0, hb0⟩ := hC.pre hL
      subst s0
      obtain ⟨b, hb1, hb2, hb3⟩ := (hd 8 21 (by kernel_rfl)) rfl
      have hwo : w'.ownsRow 0 151 65 wv d.wait.length (donesV d.wait) := owns_same (unhide HD4).wait fun j hj => hb0.block j ((unhide HD4).lt j (by simp only [devF, List.mem_cons]; exact .inr (.inr (.inr (.inr hj)))))
      obtain ⟨v', w9, hr9, q1, q2, q3⟩ := op_app147 (v := wv) (hd 4 17 (by kernel_rfl)) hb1 hwo hb3 (unhide HS) hlen
      refine ⟨v', some v', w9, hr9 _ rfl rfl, appV.app v', ?_, rfl⟩
      refine ⟨Flow.upd_eq, ?_⟩
      rw [Flow.upd_ne (by decide), hn.after 12 (by kernel_rfl)]
      refine ⟨q1, ⟨q2.os.trans hb0.os, q2.tape.trans hb0.tape, q2.output.trans hb0.output, Nat.le_trans hb0.size q2.size, fun j hj hne => ?_⟩, fun j hj => ?_⟩
      · rw [q2.block j (Nat.lt_of_lt_of_le hj hb0.size) (fun e => hne (by rw [← e]; simp)), hb0.block j hj]
        rfl
      · rcases q3 j hj with e1 | e1
        · exact .inl e1
        · exact .inr (Nat.le_trans hb0.size e1)
    · refine Flow.pure (Flow.goes_plain rfl) (appC.upd (by decide) (by decide)) fun a L s w' hC hL hn hs hd => ?_
      skip
      exact ⟨_, op_nil rfl (hd 0 13 (by kernel_rfl)) w', rfl⟩
    · refine Flow.pure (Flow.goes_plain rfl) (appC.upd (by decide) (by decide)) fun a L s w' hC hL hn hs hd => ?_
      skip
      exact ⟨_, op_f149_2 rfl (hd 10 23 (by kernel_rfl)) w', rfl⟩
    · refine Flow.store (Flow.goes_plain rfl) fun a L s0 w' hC hL hn hs hd => ?_
      obtain ⟨v, e0, hB⟩ := hC.mid (hn.done 9 (by kernel_rfl)) hL
      subst s0
      have e9 := (hd 9 22 (by kernel_rfl))
      have e9 : a.eval (.tmp 22) = v := (Option.some.inj e9).symm
      have hpd : Arr w' p (devV bk bn bw wv { d with now := d.now.set k s }) := (unhide HD4).dev.same (hB.2.1.block p (unhide HD4).dev.lt fun e => (nodupF (unhide HD4).nodup).2.2.2.2.2.2.1 p e rfl)
      obtain ⟨ad9, cap9, hv9, _, _⟩ := owns_slice hB.1
      rw [hv9] at e9
      refine ⟨some v, w'.setCell ⟨p, 2, none⟩ v, ?_, appV.set v, ⟨?_, ?_⟩, rfl⟩
      · rw [hv9]
        exact op_store147 rfl (hd 11 24 (by kernel_rfl)) e9 (hpd.cell (i := 2) rfl) (hpd.free 2)
      · rw [Flow.upd_ne (by decide)]; exact hn.done 9 (by kernel_rfl)
      · rw [Flow.upd_eq]
        exact ⟨v, w', hB, rfl⟩
    · intro L s0 w5 hC hL vals hv
      obtain ⟨v, w6, ⟨q1, q2, q3⟩, rfl⟩ := hC.end (hL 12 (by decide))
      have hfin := (unhide HD4).more (r := (k, s)) ⟨hk, unhide HS⟩ q1 q2 q3
      have HF := hide hfin
      have HQ := hide q2
      clear hC hL hv q1 q2 q3 hfin
      simp only [Free.putAll, Act.put, List.setIfInBounds_toArray, List.set_cons_succ, List.set_cons_zero]
      generalize w6.setCell ⟨p, 2, none⟩ v = w7 at *
      go_wp2_with fail
      refine ⟨rfl, .tuple #[], by simp [results, Tryz.results163], ?_⟩
      refine ⟨rfl, _, ⟨bk, bn, bw, v, rfl, (unhide HF).1⟩, ?_⟩
      have t1 : Turns (devF p bk bn bw wv) (devF p bk bn bw wv) w w4 := ⟨(unhide Hb1).trans (unhide HT4) (fun _ h => .inl h), fun _ h => .inl h⟩
      exact t1.trans (unhide HF).2
end Go.Proofs.YtdfdalkcljfghaaGreat
