/-
  Slices of bytes of the call's own, as they grow; texts.
-/
import Derived.Test.YtdfdalkcljfghaaGreatRow
import Derived.Test.YtdfdalkcljfghaaGreatDev
namespace Go.Proofs.YtdfdalkcljfghaaGreat
open Go.RowKit

/-- A text as the program has it. -/
def tx (l : List UInt8) : ByteArray := ⟨l.toArray⟩
theorem tx_list (l : List UInt8) : (tx l).data.toList = l := by simp [tx]
theorem tx_size (l : List UInt8) : (tx l).size = l.length := by
  show l.toArray.size = _
  simp
theorem tx_of (s : ByteArray) : tx s.data.toList = s := by
  cases s
  simp [tx]
theorem len_of (s : ByteArray) : s.data.toList.length = s.size := by
  rw [Array.length_toList]; rfl
theorem tx_inj {a b : List UInt8} (h : tx a = tx b) : a = b := by rw [← tx_list a, h, tx_list]

/-- v is a slice of bytes that the call owns, and it holds l. -/
def Own (B : Nat) (w : World) (v : Value) (l : List UInt8) : Prop := w.ownsRow B 5 1 v l.length (Lib.byteCells l)

theorem Own.block {B : Nat} {w : World} {v : Value} {l : List UInt8} (h : Own B w v l) {g : Nat} (hg : v.ownBlock = some g) : B ≤ g ∧ g < w.heap.size ∧ ∃ C, w.heap[g]? = some (.cells C 5 (0, 0)) := by
  rcases h.2 with ⟨e, _⟩ | ⟨g', cap, cur, e, hb, hh, _⟩
  · rw [e] at hg; exact absurd hg (by simp [Value.ownBlock])
  · rw [e] at hg
    simp only [Value.ownBlock, Option.some.injEq] at hg
    subst hg
    exact ⟨hb, (Array.getElem?_eq_some_iff.1 hh).1, cur, hh⟩

/-- What grows by v's own row turns nothing below B. -/
theorem Own.below {B : Nat} {w w' : World} {v : Value} {l : List UInt8} (h : Own B w v l) (hg : w.grownBy w' v.ownBlock) (hB : B ≤ w.heap.size) : Below B w w' :=
  ⟨hg.os, hg.tape, hg.output, hg.size, fun k hk => hg.block k (by omega) (fun e => by have := (h.block e.symm).1; omega)⟩
/-- It is owned in each world in which all that was there stands. -/
theorem Own.keep {B : Nat} {w w' : World} {v : Value} {l : List UInt8} (h : Own B w v l) (hb : ∀ k, k < w.heap.size → w'.heap[k]? = w.heap[k]?) : Own B w' v l := by
  refine ⟨h.1, ?_⟩
  rcases h.2 with h1 | ⟨g', cap, cur, e, hb', hh, hr⟩
  · exact Or.inl h1
  · exact Or.inr ⟨g', cap, cur, e, hb', by rw [hb g' (Array.getElem?_eq_some_iff.1 hh).1]; exact hh, hr⟩
theorem Own.keepB {B : Nat} {w w' : World} {v : Value} {l : List UInt8} (h : Own B w v l) (hb : Below w.heap.size w w') : Own B w' v l := h.keep hb.block
theorem Own.lower {B B' : Nat} {w : World} {v : Value} {l : List UInt8} (h : Own B w v l) (hb : B' ≤ B) : Own B' w v l := by
  refine ⟨h.1, ?_⟩
  rcases h.2 with h1 | ⟨g', cap, cur, e, hb', hh, hr⟩
  · exact Or.inl h1
  · exact Or.inr ⟨g', cap, cur, e, by omega, hh, hr⟩
theorem Own.nil (B : Nat) (w : World) : Own B w (.slice none 0 0) [] := World.ownsRow_nil w B 5 1
theorem Own.empty (w : World) : Own w.heap.size (w.alloc (.cells #[] 5)) (.slice (some ⟨w.heap.size, 0, none⟩) 0 0) [] :=
  ⟨rfl, .inr ⟨w.heap.size, 0, #[], rfl, Nat.le_refl _, heap_alloc_new w _, Nat.le_refl _, Nat.zero_le _, rfl, rfl⟩⟩

/-- What is owned is a row. -/
theorem Own.row {B : Nat} {w : World} {v : Value} {l : List UInt8} (h : Own B w v l) (hl : l.length ≤ 140737488351232) : RowV w.heap.size w v l := by
  rcases h.2 with ⟨e, h0⟩ | ⟨g, cap, cur, e, hb, hh, hcap, hmax, hcur, htk⟩
  · obtain rfl : l = [] := List.length_eq_zero_iff.1 h0
    rw [e]
    exact RowV.nil _ _
  · refine ⟨_, _, cap, e, hcap, hmax, by simp, rfl, hl, fun i hi => ⟨g, 0, rfl, (Array.getElem?_eq_some_iff.1 hh).1, ?_⟩⟩
    rw [Nat.zero_add, cell_of_row w g i cur 5 _ hh, ← Array.getElem?_toList]
    have h3 : (cur.toList.take (l.length * 1))[i]? = cur.toList[i]? := by rw [List.getElem?_take]; simp [hi]
    rw [← h3, htk, Lib.byteCells, List.getElem?_map, List.getElem?_eq_getElem hi, List.getD_eq_getElem?_getD, List.getElem?_eq_getElem hi]
    rfl

section
variable {ops : Array Oper} {rest : List Oper} {o : Oper} {a : Act} {w : World} {Q : Exit → Act → World → Prop}

/-- 'append(b, x..)', x a slice of bytes. -/
theorem wpList_app (hgd : o.guard = none) (s x : Operand) (ho : o.op = .call { callee := .builtin .append, args := #[s, x], argTypes := #[46, 46] })
    (B : Nat) (v : Value) (l : List UInt8) (hs : a.eval s = v) (hown : Own B w v l) (ad : Addr) (m c : Nat) (hx : a.eval x = .slice (some ad) m c)
    (ns : List UInt8) (hm : ns.length = m) (hn : ∀ j, j < m → w.cell? (ad.add j) = some (.int .u8 ((ns.getD j 0).toNat : Nat)))
    (hlim : l.length + ns.length ≤ 140737488355328) (hB : B ≤ w.heap.size)
    (h : ∀ v' w', Own B w' v' (l ++ ns) → w.grownBy w' v.ownBlock → wpList Tryz.prog ops Q rest (a.put o.dst v') w') : wpList Tryz.prog ops Q (o :: rest) a w := by
  subst hm
  obtain ⟨i, i1, i2, i3, i4⟩ := full5
  refine wpList_append_own w hgd s x 46 ho B 5 i (.int .u8 0) 1 1 Tryz.underlying46 i1 i2 i3 i4 (by decide) (by decide) v l.length (Lib.byteCells l) hs hown ad ns.length c (Lib.byteCells ns) hx (by simp [Lib.byteCells]) ?_ ?_ ?_ (by omega) hB fun v' w' h2 h3 _ => h v' w' ?_ h3
  · intro j u hj
    rw [Lib.byteCells, List.getElem?_map] at hj
    cases hg : ns[j]? with
    | none => rw [hg] at hj; simp at hj
    | some b =>
      rw [hg] at hj
      simp only [Option.map_some, Option.some.injEq] at hj
      obtain ⟨hlt, he⟩ := List.getElem?_eq_some_iff.1 hg
      rw [hn j hlt, ← hj, List.getD_eq_getElem?_getD, hg]
      rfl
  · intro u hu
    simp only [Lib.byteCells, List.mem_map] at hu
    obtain ⟨b, _, rfl⟩ := hu
    rfl
  · simp only [maxLen]; omega
  · unfold Own
    rw [Lib.byteCells_append, List.length_append]
    exact h2

/-- The same, of whatever slice of bytes: nil, or with no bytes. -/
theorem wpList_appRow (hgd : o.guard = none) (s x : Operand) (ho : o.op = .call { callee := .builtin .append, args := #[s, x], argTypes := #[46, 46] })
    (B N : Nat) (v : Value) (l : List UInt8) (hs : a.eval s = v) (hown : Own B w v l) (xv : Value) (hx : a.eval x = xv)
    (ns : List UInt8) (hr : RowV N w xv ns) (hlim : l.length + ns.length ≤ 140737488355328) (hB : B ≤ w.heap.size)
    (h : ∀ v' w', Own B w' v' (l ++ ns) → w.grownBy w' v.ownBlock → wpList Tryz.prog ops Q rest (a.put o.dst v') w') : wpList Tryz.prog ops Q (o :: rest) a w := by
  obtain ⟨ad, m, c, rfl, h1, h2, h3, hr⟩ := hr
  cases ad with
  | some ad =>
    refine wpList_app hgd s x ho B v l hs hown ad m c hx ns hr.1 (fun j hj => ?_) hlim hB h
    obtain ⟨b, off, e, _, hc⟩ := hr.2.2 j hj
    cases e
    rw [Addr.add_mid]
    exact hc
  | none =>
    obtain rfl := h3 rfl
    obtain rfl : m = 0 := by omega
    obtain rfl : ns = [] := List.length_eq_zero_iff.1 hr.1
    obtain ⟨i, i1, i2, i3, i4⟩ := full5
    have hrun := run_append_owned_none (P := Tryz.prog) w B 46 o.type 5 i 1 Tryz.underlying46 i1 v l.length (Lib.byteCells l) hown
    refine wpList_plain hgd fun K hK => ?_
    have r : (execOp a.eval o).run Tryz.prog w = .ok (.value v) w := by
      unfold execOp
      simp only [ho, resolve, invoke, builtin, Sem.run_bind, Sem.run_pure, Result.andThen_ok, List.map_toArray, List.map_cons, List.map_nil, hs, hx, hrun]
    unfold Oper.wp
    rw [r, Oper.upon_value]
    refine hK _ _ (h _ _ ?_ (World.grownBy.refl _ _))
    rw [List.append_nil]
    exact hown

end

/-- 'make([]byte, 0, n)'. -/
theorem make_bytes (w : World) (c : Nat) (hc : c ≤ 1000000) : ∃ w1, (Instr.makeSlice 46 (.int .i64 0) (.int .i64 (c : Int))).run Tryz.prog w = .ok (.slice (some ⟨w.heap.size, 0, none⟩) 0 c) w1 ∧
    Own w.heap.size w1 (.slice (some ⟨w.heap.size, 0, none⟩) 0 c) [] ∧ Below w.heap.size w w1 ∧ w1.heap.size = w.heap.size + 1 := by
  obtain ⟨i, i1, i2, i3, i4⟩ := full5
  have hr := run_makeSlice (P := Tryz.prog) w 46 5 i (.int .u8 0) Tryz.underlying46 i1 i2 .i64 .i64 0 c (Int.le_refl _) (by omega) (by rw [i3]; omega) (by rw [i4]; omega) (by omega)
  simp only [Int.toNat_zero, Int.toNat_natCast, i3] at hr
  refine ⟨_, hr, ?_, (Below.refl _ w).alloc (Nat.le_refl _) _, by simp⟩
  have := World.ownsRow_made (e := 5) (size := 1) w (madeCells (Value.int .u8 0).cells (c * 1)) c (Nat.le_refl _) (by simp only [maxLen]; omega) (size_madeCells _ _)
  exact this

/-- 'string(b)'. -/
theorem run_text {N : Nat} {w : World} {v : Value} {l : List UInt8} (h : RowV N w v l) : (convert 46 9 v).run Tryz.prog w = .ok (.string (tx l)) w := by
  obtain ⟨a, len, cap, rfl, h1, h2, h3, hr⟩ := h
  obtain ⟨rfl, hr2, hr3⟩ := hr
  by_cases h0 : l.length = 0
  · obtain rfl : l = [] := List.length_eq_zero_iff.1 h0
    cases a with
    | none =>
      obtain rfl := h3 rfl
      exact Lib.run_convert_nil_bytes w 46 9 5 0 Tryz.underlying46 Tryz.underlying5 Tryz.underlying9
    | some x => exact run_convert_bytes_back w 46 9 5 x cap [] Tryz.underlying46 Tryz.underlying5 Tryz.underlying9 fun j hj => by simp at hj
  · obtain ⟨b, off, rfl, _, _⟩ := hr3 0 (by omega)
    exact run_convert_bytes_back w 46 9 5 ⟨b, off, none⟩ cap l Tryz.underlying46 Tryz.underlying5 Tryz.underlying9 fun j hj => by
      obtain ⟨b', off', e, _, hc⟩ := hr3 j hj
      cases e
      rw [Addr.add_mid, hc, List.getD_eq_getElem?_getD, List.getElem?_eq_getElem hj]
      rfl
section
variable {ρ : Operand → Value} {o : Oper}
theorem op_text {x : Operand} {v : Value} {w : World} {N : Nat} {l : List UInt8} (ho : o.op = .convert 46 9 x) (h1 : ρ x = v) (hr : RowV N w v l) : (execOp ρ o).run Tryz.prog w = .ok (.value (.string (tx l))) w := by
  unfold execOp
  rw [ho]
  simp only [h1, Sem.run_bind, run_text hr, Result.andThen_ok, Sem.run_pure]
theorem op_neq9 {x y : Operand} {a b : ByteArray} {r : Bool} (ho : o.op = .binOp .neq 9 x y 9) (h1 : ρ x = .string a) (h2 : ρ y = .string b) (hr : (!(a.toList == b.toList)) = r) (w : World) :
    (execOp ρ o).run Tryz.prog w = .ok (.value (.bool r)) w := by
  subst hr
  unfold execOp
  rw [ho]
  go_simp
theorem op_eql9 {x y : Operand} {a b : ByteArray} {r : Bool} (ho : o.op = .binOp .eql 9 x y 9) (h1 : ρ x = .string a) (h2 : ρ y = .string b) (hr : (a.toList == b.toList) = r) (w : World) :
    (execOp ρ o).run Tryz.prog w = .ok (.value (.bool r)) w := by
  subst hr
  unfold execOp
  rw [ho]
  go_simp
end
end Go.Proofs.YtdfdalkcljfghaaGreat
