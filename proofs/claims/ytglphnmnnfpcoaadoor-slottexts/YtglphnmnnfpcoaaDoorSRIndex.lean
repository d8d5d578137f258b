/-
  What the document's Index answers.
-/
import Derived.Test.YtglphnmnnfpcoaaDoorGRLoops
import Derived.Test.YtglphnmnnfpcoaaDoorSIndex
namespace Go.Proofs.YtglphnmnnfpcoaaDoor
open Go.RowKit Go.Lib

theorem rfold2_walk (a : List UInt8) (ha : a.length ≤ 100000) (w : World) (hU : G.Uni w) : Calls Tryd.prog 53 #[.string (tx a)] w fun e w' => e = .returned (.string (tx (fold a))) ∧ Below w.heap.size w w' := by
  have h := G.rfold_walk (tx a) (by rw [tx_size]; exact ha) toLowerU G.low_ok G.low_valid w hU
  rw [tx_list] at h
  exact h

set_option maxHeartbeats 1600000 in
set_option maxRecDepth 100000 in
theorem rindex_walk (l : List UInt8) (hl : l.length ≤ 100000) (w : World) (hU : G.Uni w) : Calls Tryd.prog 34 #[.string (tx l)] w fun e w' => e = .returned (.int .i64 (ixF l)) ∧ Below w.heap.size w w' := by
  have HF := hide (rfold2_walk l hl)
  have HU := hide hU
  have hp : ((tx (fold l)).toList == [97]) = decide (fold l = [97]) := by
    rw [← tx_beq, ByteArray.toList_eq (tx [97])]
    rfl
  have hq : ((tx (fold l)).toList == [98]) = decide (fold l = [98]) := by
    rw [← tx_beq, ByteArray.toList_eq (tx [98])]
    rfl
  have HX : Hid (ixF l = if decide (fold l = [97]) = true then 0 else if decide (fold l = [98]) = true then 1 else -1) := by
    show _ = _
    unfold ixF
    simp only [decide_eq_true_eq]
  clear hU hl
  generalize decide (fold l = [97]) = p at *
  generalize decide (fold l = [98]) = q at *
  generalize ixF l = z at *
  generalize tx (fold l) = f at *
  generalize tx l = t at *
  go_enter Tryd.func34, Tryd.ntmps34
  go_wp2_with fail
  refine (unhide HF w (unhide HU)).mono ?_
  rintro e w1 ⟨rfl, hb1⟩
  have Hb1 := hide hb1
  clear hb1
  cases p with
  | true =>
    go_wp2
    go_ret
    refine ⟨?_, unhide Hb1⟩
    rw [unhide HX]
    rfl
  | false =>
    go_wp2_with fail
    refine (unhide HF w1 ((unhide HU).below (unhide Hb1))).mono ?_
    rintro e w2 ⟨rfl, hb2⟩
    have Hb2 := hide ((unhide Hb1).trans (hb2.mono (unhide Hb1).size))
    clear hb2 Hb1
    cases q with
    | true =>
      go_wp2
      go_ret
      refine ⟨?_, unhide Hb2⟩
      rw [unhide HX]
      rfl
    | false =>
      go_wp2
      go_ret
      refine ⟨?_, unhide Hb2⟩
      rw [unhide HX]
      rfl
end Go.Proofs.YtglphnmnnfpcoaaDoor
