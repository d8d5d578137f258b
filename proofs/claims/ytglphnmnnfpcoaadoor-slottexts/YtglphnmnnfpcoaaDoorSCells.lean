/-
  Slots in blocks of their own, as more come.
-/
import Derived.Test.YtglphnmnnfpcoaaDoorSParse
import Derived.Test.YtglphnmnnfpcoaaDoorSGood
namespace Go.Proofs.YtglphnmnnfpcoaaDoor
open Go.RowKit

/-- What lies in these blocks. -/
def Cells (w : World) (l : List (Nat × List Value)) : Prop := ∀ p ∈ l, Arr w p.1 p.2
theorem Cells.at {w : World} {l : List (Nat × List Value)} (h : Cells w l) (i : Nat) {b : Nat} {cs : List Value} (hi : l[i]? = some (b, cs)) : Arr w b cs := h (b, cs) (List.mem_of_getElem? hi)
theorem Cells.below {w w' : World} {l : List (Nat × List Value)} (h : Cells w l) (hb : Below w.heap.size w w') : Cells w' l := fun p hp => (h p hp).below hb
theorem Cells.one {w : World} {b : Nat} {cs : List Value} (h : Arr w b cs) : Cells w [(b, cs)] := fun p hp => by
  rw [List.mem_singleton.1 hp]; exact h
/-- One more, made and laid behind a call. -/
theorem Cells.add {w w1 w2 w3 : World} {l : List (Nat × List Value)} {cs : List Value} (h : Cells w l) (hb : Below w.heap.size w w1) (hb2 : Below w1.heap.size w1 w2) (hg : w2.grownBy w3 (some w1.heap.size)) (hA : Arr w3 w1.heap.size cs) : Cells w3 ((w1.heap.size, cs) :: l) := fun p hp => by
  rcases List.mem_cons.1 hp with h1 | h1
  · rw [h1]; exact hA
  · have ha := (h p h1).below hb
    have hl := ha.lt
    have ha2 := ha.below hb2
    refine ha2.grown hg ?_
    simp only [Option.some.injEq, ne_eq]
    omega
theorem Cells.three {w w' : World} {a b c : Nat} {x y z x' : List Value} (h : Cells w [(a, x), (b, y), (c, z)]) (hA : Arr w' a x') (hg : w.grownBy w' (some a)) (h1 : c < b) (h2 : b < a) : Cells w' [(a, x'), (b, y), (c, z)] := fun p hp => by
  simp only [List.mem_cons, List.not_mem_nil, or_false] at hp
  rcases hp with rfl | rfl | rfl
  · exact hA
  · exact (h.at 1 rfl).grown hg (by simp; omega)
  · exact (h.at 2 rfl).grown hg (by simp; omega)
theorem below_add {w0 w1 w2 w3 : World} {B : Nat} (h : Below B w0 w1) (hb2 : Below w1.heap.size w1 w2) (hg : w2.grownBy w3 (some w1.heap.size)) (hB : B ≤ w1.heap.size) : Below B w0 w3 :=
  (h.trans (hb2.mono hB)).grown hg (Nat.le_trans hB hb2.size) (fun k hk => by cases hk; exact hB)
theorem run_same26 (C : List Value) (h : ∃ s : S, s.cs = C ∧ s.dg.length = 32) (w : World) : (Op.equalIn 10000 26 (.agg C.toArray) (.agg C.toArray)).run Tryd.prog w = .ok true w := by
  obtain ⟨s, rfl, hs⟩ := h
  rw [run_equal26 s s hs hs w, decide_eq_true rfl]
theorem checked_dg {s : S} (h : s.dg.length = 32) : (checkedF s).1.dg.length = 32 := by
  unfold checkedF; split
  · exact h
  · rfl
theorem try_dg {s : S} (h : s.dg.length = 32) : (tryF s).1.dg.length = 32 := by
  unfold tryF; split
  · exact h
  · rfl
theorem good_dg {s : S} (h : s.dg.length = 32) : (goodF s).1.dg.length = 32 := by
  unfold goodF; split
  · exact h
  · rfl
theorem bad_dg (s : S) : (badF s).1.dg.length = 32 := by
  unfold badF; split <;> rfl
end Go.Proofs.YtglphnmnnfpcoaaDoor
