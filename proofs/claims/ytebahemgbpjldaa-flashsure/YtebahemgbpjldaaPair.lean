/-
  The program's device and the document's, side by side in memory.
-/
import Derived.Test.YtebahemgbpjldaaRef4
import Derived.Test.YtebahemgbpjldaaRestart
import Derived.Test.YtebahemgbpjldaaAlive
import Derived.Test.YtebahemgbpjldaaKit2
namespace Go.Proofs.Ytebahemgbpjldaa
open Go.RowKit

/-- Both lie apart from each other, from N on. -/
structure Pair (N : Nat) (F G : List Nat) (w : World) (p q : Nat) (d : DM) (r : RM) : Prop where
  dev : Dev F w p d
  ref : Ref G w q r
  hF : ∀ k ∈ F, N ≤ k
  hG : ∀ k ∈ G, N ≤ k
  apart : ∀ k ∈ F, k ∉ G
  size : N ≤ w.heap.size
section
variable {N : Nat} {F G F' : List Nat} {w w' : World} {p q : Nat} {d d' : DM} {r r' : RM}
theorem Pair.below (h : Pair N F G w p q d r) (hb : Below w.heap.size w w') : Pair N F G w' p q d r :=
  { h with dev := h.dev.below hb, ref := h.ref.below hb, size := Nat.le_trans h.size hb.size }
theorem Pair.turnD (h : Pair N F G w p q d r) (ht : Turns F F' w w') (hd : Dev F' w' p d') : Pair N F' G w' p q d' r ∧ Below N w w' := by
  have hu := ht.under h.hF h.size
  refine ⟨{ dev := hd, ref := h.ref.but ht.1 (fun k hk e => h.apart k e hk), hF := hu.2, hG := h.hG, apart := fun k hk e => ?_, size := Nat.le_trans h.size ht.1.size }, hu.1⟩
  exact ht.apart (G := G) (fun k hk e => h.apart k e hk) h.ref.lt k e hk
theorem Pair.turnR (h : Pair N F G w p q d r) (ht : Turns G F' w w') (hd : Ref F' w' q r') : Pair N F F' w' p q d r' ∧ Below N w w' := by
  have hu := ht.under h.hG h.size
  refine ⟨{ dev := h.dev.but ht.1 h.apart, ref := hd, hF := h.hF, hG := hu.2, apart := fun k hk => ?_, size := Nat.le_trans h.size ht.1.size }, hu.1⟩
  exact ht.apart (G := F) h.apart h.dev.lt k hk
/-- A block that is no part of F is as it was, and no part of F' either. -/
theorem Turns.keepArr {b : Nat} {cs : List Value} (ht : Turns F F' w w') (hA : Arr w b cs) (hb : b ∉ F) : Arr w' b cs ∧ b ∉ F' :=
  ⟨hA.same (ht.1.block b hA.lt hb), fun e => by
    rcases ht.2 b e with e | e
    · exact hb e
    · have := hA.lt; omega⟩
end
theorem erase_wait (d : DM) (i : Int) : (eraseD d i).2.wait.length ≤ d.wait.length + 1 := by
  unfold eraseD
  split
  · show d.wait.length ≤ _; omega
  · split
    · show d.wait.length ≤ _; omega
    · split
      · rw [step_wait]; omega
      · show ((stepD d).2.wait ++ [_]).length ≤ _
        rw [step_wait]; simp
theorem program_wait (d : DM) (i : Int) (s : Sec) : (programD d i s).2.wait.length ≤ d.wait.length + 1 := by
  unfold programD
  split
  · show d.wait.length ≤ _; omega
  · split
    · show d.wait.length ≤ _; omega
    · split
      · rw [step_wait]; omega
      · show ((stepD d).2.wait ++ [_]).length ≤ _
        rw [step_wait]; simp
theorem sync_wait (d : DM) : (syncD d).2.wait.length ≤ d.wait.length + 1 := by
  unfold syncD
  split
  · show d.wait.length ≤ _; omega
  · split
    · rw [step_wait]; omega
    · show ([] : List (Nat × Sec)).length ≤ _; simp
theorem read_len {d : DM} (h : d.Ok) (i : Int) : (readD d i).1.length = 64 := by
  unfold readD
  split
  · rename_i hh
    exact getD_mem64 h.nowS (by rw [h.now]; exact (hasD_true hh).2)
  · exact zeroS_len
end Go.Proofs.Ytebahemgbpjldaa
