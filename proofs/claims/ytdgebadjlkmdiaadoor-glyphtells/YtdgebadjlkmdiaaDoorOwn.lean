/-
  A slice of bytes of the call's own, as it grows: what else lies there stays.
-/
import Derived.Test.YtdgebadjlkmdiaaDoorBase
import Derived.Test.YtdgebadjlkmdiaaDoorArr
namespace Go.Proofs.YtdgebadjlkmdiaaDoor
open Go.RowKit

/-- v is a slice of bytes that the call owns, and it holds l. -/
def Own (B : Nat) (w : World) (v : Value) (l : List UInt8) : Prop := w.ownsRow B 5 1 v l.length (Lib.byteCells l)

theorem Own.block {B : Nat} {w : World} {v : Value} {l : List UInt8} (h : Own B w v l) {g : Nat} (hg : v.ownBlock = some g) : B ≤ g ∧ g < w.heap.size ∧ ∃ C, w.heap[g]? = some (.cells C 5 (0, 0)) := by
  rcases h.2 with ⟨e, _⟩ | ⟨g', cap, cur, e, hb, hh, _⟩
  · rw [e] at hg; exact absurd hg (by simp [Value.ownBlock])
  · rw [e] at hg
    simp only [Value.ownBlock, Option.some.injEq] at hg
    subst hg
    exact ⟨hb, (Array.getElem?_eq_some_iff.1 hh).1, cur, hh⟩

/-- What grows by v's own row turns nothing below B. -/
theorem Own.below {B : Nat} {w w' : World} {v : Value} {l : List UInt8} (h : Own B w v l) (hg : w.grownBy w' v.ownBlock) (hB : B ≤ w.heap.size) : Below B w w' :=
  ⟨hg.os, hg.tape, hg.output, hg.size, fun k hk => hg.block k (by omega) (fun e => by have := (h.block e.symm).1; omega)⟩

theorem Own.iter {B : Nat} {w w' : World} {v : Value} {l : List UInt8} (h : Own B w v l) (hg : w.grownBy w' v.ownBlock) {k : Nat} {s : ByteArray} {pos : Nat} (hk : w.heap[k]? = some (.stringIter s pos)) : w'.heap[k]? = some (.stringIter s pos) := by
  rw [hg.block k (Array.getElem?_eq_some_iff.1 hk).1 (fun e => ?_), hk]
  obtain ⟨_, _, C, hC⟩ := h.block e.symm
  rw [hk] at hC
  exact absurd hC (by simp)

/-- It is owned in each world in which all that was there stands. -/
theorem Own.keep {B : Nat} {w w' : World} {v : Value} {l : List UInt8} (h : Own B w v l) (hb : ∀ k, k < w.heap.size → w'.heap[k]? = w.heap[k]?) : Own B w' v l := by
  refine ⟨h.1, ?_⟩
  rcases h.2 with h1 | ⟨g', cap, cur, e, hb', hh, hr⟩
  · exact Or.inl h1
  · exact Or.inr ⟨g', cap, cur, e, hb', by rw [hb g' (Array.getElem?_eq_some_iff.1 hh).1]; exact hh, hr⟩
theorem Own.keepB {B : Nat} {w w' : World} {v : Value} {l : List UInt8} (h : Own B w v l) (hb : Below w.heap.size w w') : Own B w' v l := h.keep hb.block
theorem Own.iterAt {B : Nat} {w : World} {v : Value} {l : List UInt8} (h : Own B w v l) {k : Nat} {s : ByteArray} {pos : Nat} (hk : w.heap[k]? = some (.stringIter s pos)) (p : Nat) : Own B (w.iterAt k s p) v l := by
  refine ⟨h.1, ?_⟩
  rcases h.2 with h1 | ⟨g', cap, cur, e, hb', hh, hr⟩
  · exact Or.inl h1
  · refine Or.inr ⟨g', cap, cur, e, hb', ?_, hr⟩
    rw [Lib.iterAt_other _ _ _ _ _ (by intro e'; subst e'; rw [hk] at hh; exact absurd hh (by simp))]
    exact hh
theorem Own.lower {B B' : Nat} {w : World} {v : Value} {l : List UInt8} (h : Own B w v l) (hb : B' ≤ B) : Own B' w v l := by
  refine ⟨h.1, ?_⟩
  rcases h.2 with h1 | ⟨g', cap, cur, e, hb', hh, hr⟩
  · exact Or.inl h1
  · exact Or.inr ⟨g', cap, cur, e, by omega, hh, hr⟩

theorem grown_alloc {w w' : World} {o : Obj} {row : Option Nat} (h : (w.alloc o).grownBy w' row) : w.grownBy w' row :=
  ⟨h.os, h.tape, h.output, Nat.le_trans (by simp) h.size, fun k hk hne => by rw [h.block k (by simp; omega) hne, Below.heap_alloc _ _ _ hk]⟩
theorem grown_trans {w w1 w2 : World} {row : Option Nat} (h : Below w.heap.size w w1) (k : w1.grownBy w2 row) : w.grownBy w2 row :=
  ⟨k.os.trans h.os, k.tape.trans h.tape, k.output.trans h.output, Nat.le_trans h.size k.size, fun i hi hne => (k.block i (Nat.lt_of_lt_of_le hi h.size) hne).trans (h.block i hi)⟩
theorem grown_grown {w w1 w2 : World} {row row' : Option Nat} (h : w.grownBy w1 row) (k : w1.grownBy w2 row') (hr : row' = row ∨ ∀ g, row' = some g → w.heap.size ≤ g) : w.grownBy w2 row :=
  ⟨k.os.trans h.os, k.tape.trans h.tape, k.output.trans h.output, Nat.le_trans h.size k.size, fun i hi hne => by
    rw [k.block i (Nat.lt_of_lt_of_le hi h.size) (fun e => ?_), h.block i hi hne]
    rcases hr with hr | hr
    · rw [hr] at e; exact hne e
    · have := hr i e.symm; omega⟩

theorem info5 : ∃ i, Tryd.prog.info? 5 = some i ∧ i.zero = some (.int .u8 0) ∧ i.size = 1 ∧ i.bytes = 1 := by
  have h : (Tryd.prog.info? 5).map (fun i => (i.zero, i.size, i.bytes)) = some (some (.int .u8 0), 1, 1) := by kernel_rfl
  cases hi : Tryd.prog.info? 5 with
  | none => rw [hi] at h; simp at h
  | some i =>
    rw [hi] at h
    simp only [Option.map_some, Option.some.injEq, Prod.mk.injEq] at h
    exact ⟨i, rfl, h⟩

section
variable {ops : Array Oper} {rest : List Oper} {o : Oper} {a : Act} {w : World} {Q : Exit → Act → World → Prop}

/-- 'append(b, x..)', x a slice of bytes. -/
theorem wpList_app (hgd : o.guard = none) (s x : Operand) (ho : o.op = .call { callee := .builtin .append, args := #[s, x], argTypes := #[35, 35] })
    (B : Nat) (v : Value) (l : List UInt8) (hs : a.eval s = v) (hown : Own B w v l) (ad : Addr) (m c : Nat) (hx : a.eval x = .slice (some ad) m c)
    (ns : List UInt8) (hm : ns.length = m) (hn : ∀ j, j < m → w.cell? (ad.add j) = some (.int .u8 ((ns.getD j 0).toNat : Nat)))
    (hlim : l.length + ns.length ≤ 140737488355328) (hB : B ≤ w.heap.size)
    (h : ∀ v' w', Own B w' v' (l ++ ns) → w.grownBy w' v.ownBlock → wpList Tryd.prog ops Q rest (a.put o.dst v') w') : wpList Tryd.prog ops Q (o :: rest) a w := by
  subst hm
  obtain ⟨i, i1, i2, i3, i4⟩ := info5
  refine wpList_append_own w hgd s x 35 ho B 5 i (.int .u8 0) 1 1 Tryd.underlying35 i1 i2 i3 i4 (by decide) (by decide) v l.length (Lib.byteCells l) hs hown ad ns.length c (Lib.byteCells ns) hx (by simp [Lib.byteCells]) ?_ ?_ ?_ (by omega) hB fun v' w' h2 h3 _ => h v' w' ?_ h3
  · intro j u hj
    rw [Lib.byteCells, List.getElem?_map] at hj
    cases hg : ns[j]? with
    | none => rw [hg] at hj; simp at hj
    | some b =>
      rw [hg] at hj
      simp only [Option.map_some, Option.some.injEq] at hj
      obtain ⟨hlt, he⟩ := List.getElem?_eq_some_iff.1 hg
      rw [hn j hlt, ← hj, List.getD_eq_getElem?_getD, hg]
      rfl
  · intro u hu
    simp only [Lib.byteCells, List.mem_map] at hu
    obtain ⟨b, _, rfl⟩ := hu
    rfl
  · simp only [maxLen]; omega
  · unfold Own
    rw [Lib.byteCells_append, List.length_append]
    exact h2

/-- 'append(b, t..)', t a text. -/
theorem wpList_appStr (hgd : o.guard = none) (s x : Operand) (ho : o.op = .call { callee := .builtin .append, args := #[s, x], argTypes := #[35, 9] })
    (B : Nat) (v : Value) (l : List UInt8) (hs : a.eval s = v) (hown : Own B w v l) (t : ByteArray) (hx : a.eval x = .string t)
    (hlim : l.length + t.size ≤ 140737488355328) (hB : B ≤ w.heap.size)
    (h : ∀ v' w', Own B w' v' (l ++ t.data.toList) → w.grownBy w' v.ownBlock → wpList Tryd.prog ops Q rest (a.put o.dst v') w') : wpList Tryd.prog ops Q (o :: rest) a w := by
  obtain ⟨i, i1, i2, i3, i4⟩ := info5
  refine Lib.wpList_append_own_string w hgd s x 35 9 ho B 5 i Tryd.underlying35 Tryd.underlying9 i1 i2 i3 i4 v l.length (Lib.byteCells l) hs hown t hx ?_ hlim hB fun v' w' h2 h3 _ => h v' w' ?_ h3
  · simp only [maxLen]; omega
  · unfold Own
    rw [Lib.byteCells_append, List.length_append, len_of]
    exact h2
end

/-- 'make([]byte, 0, n)'. -/
theorem make_bytes (w : World) (c : Nat) (hc : c ≤ 1000000) : ∃ w1, (Instr.makeSlice 35 (.int .i64 0) (.int .i64 (c : Int))).run Tryd.prog w = .ok (.slice (some ⟨w.heap.size, 0, none⟩) 0 c) w1 ∧
    Own w.heap.size w1 (.slice (some ⟨w.heap.size, 0, none⟩) 0 c) [] ∧ Below w.heap.size w w1 ∧ w1.heap.size = w.heap.size + 1 := by
  obtain ⟨i, i1, i2, i3, i4⟩ := info5
  have hr := run_makeSlice (P := Tryd.prog) w 35 5 i (.int .u8 0) Tryd.underlying35 i1 i2 .i64 .i64 0 c (Int.le_refl _) (by omega) (by rw [i3]; omega) (by rw [i4]; omega) (by omega)
  simp only [Int.toNat_zero, Int.toNat_natCast, i3] at hr
  refine ⟨_, hr, ?_, (Below.refl _ w).alloc (Nat.le_refl _) _, by simp⟩
  have := World.ownsRow_made (e := 5) (size := 1) w (madeCells (Value.int .u8 0).cells (c * 1)) c (Nat.le_refl _) (by simp only [maxLen]; omega) (size_madeCells _ _)
  exact this

/-- 'string(b)'. -/
theorem run_text {B : Nat} {w : World} {v : Value} {l : List UInt8} (h : Own B w v l) : (convert 35 9 v).run Tryd.prog w = .ok (.string (tx l)) w := by
  rcases h.2 with ⟨e, h0⟩ | ⟨g, cap, cur, e, hb, hh, hcap, hmax, hcur, htk⟩
  · rw [e]
    obtain rfl : l = [] := List.length_eq_zero_iff.1 h0
    exact Lib.run_convert_nil_bytes w 35 9 5 0 Tryd.underlying35 Tryd.underlying5 Tryd.underlying9
  · rw [e]
    exact run_convert_bytes_back w 35 9 5 ⟨g, 0, none⟩ cap l Tryd.underlying35 Tryd.underlying5 Tryd.underlying9 fun j hj => by
      have e2 : (⟨g, 0, none⟩ : Addr).add j = ⟨g, j, none⟩ := by rw [Addr.add_lit]; simp
      rw [e2, cell_of_row w g j cur 5 _ hh, ← Array.getElem?_toList]
      have h3 : (cur.toList.take (l.length * 1))[j]? = cur.toList[j]? := by rw [List.getElem?_take]; simp [hj]
      rw [← h3, htk, Lib.byteCells, List.getElem?_map, List.getElem?_eq_getElem hj]
      rfl
end Go.Proofs.YtdgebadjlkmdiaaDoor
