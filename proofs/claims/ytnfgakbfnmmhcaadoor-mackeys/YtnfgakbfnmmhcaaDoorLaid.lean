/-
  The two tables of package digest, out of what the row lays.
-/
import Derived.Test.YtnfgakbfnmmhcaaDoorRows
import Derived.Test.YtnfgakbfnmmhcaaDoorMix
import Derived.ProofKit
import Derived.LaidMore
import Derived.Lib.LaidTab
import Derived.Stop.LaidErr
import Derived.OpenShut
import Derived.Stop.Joined
namespace Go.Proofs.YtnfgakbfnmmhcaaDoor
open Go.ChangeShapes Go.WideShapes Go.ChangeAt Go.RowKit

theorem own : ownKnob Tryd.prog.godebug = none := by kernel_rfl
theorem laidOut : laidOutB Tryd.prog = true := by kernel_rfl
theorem gStart : Tryd.prog.globalNamed "bootjack/digest.start" = some 0 := by kernel_rfl
theorem gRoots : Tryd.prog.globalNamed "bootjack/digest.roots" = some 1 := by kernel_rfl
theorem tStart : (Tryd.prog.globals[0]?).map (·.type) = some 50 := by kernel_rfl
theorem tRoots : (Tryd.prog.globals[1]?).map (·.type) = some 56 := by kernel_rfl

def laid2 : List (String × DataW Unit) := [("bootjack/digest.start", Rows.laid_bootjack_digest_start), ("bootjack/digest.roots", Rows.laid_bootjack_digest_roots)]

theorem startD : (Rows.laid_bootjack_digest_start : DataW Unit) = Lib.tabData .u32 (Sha.start.map N32) := by rfl
theorem rootsD : (Rows.laid_bootjack_digest_roots : DataW Unit) = Lib.tabData .u32 (Sha.K.map N32) := by rfl

theorem range_of_tab {W : World} {name : String} {g : Nat} {l : List (BitVec 32)} (h : Lib.TabIs Tryd.prog W name .u32 (l.map N32)) (hg : Tryd.prog.globalNamed name = some g) : W.rangeAt g 0 (wordsV l) := fun j v hj => by
  have hjl : j < l.length := by have := (List.getElem?_eq_some_iff.1 hj).1; rwa [wordsV_length] at this
  rw [wordsV_get l hjl] at hj
  rw [Nat.zero_add, h.cell hg j (by simpa using hjl), ← hj]
  congr 2
  rw [List.getD_eq_getElem?_getD, List.getElem?_map, List.getD_eq_getElem?_getD, List.getElem?_eq_getElem hjl]
  rfl

theorem of_laid {W : World} (h : laidMetH Tryd.prog laid2 W) : Tabs W := by
  rw [MakeChecks.laidMetH_plain _ _ _ (by kernel_rfl)] at h
  unfold laid2 at h
  rw [startD, rootsD] at h
  have h1 := Lib.tabIs_of_head gStart tStart Tryd.underlying50 Tryd.underlying49 (by kernel_rfl) (by kernel_rfl) h
  have h2 := Lib.tabIs_of_head gRoots tRoots Tryd.underlying56 Tryd.underlying49 (by kernel_rfl) (by kernel_rfl) (laidMet.tail h)
  exact ⟨range_of_tab h1 gStart, range_of_tab h2 gRoots⟩

/-- The door's own heap meets the condition. -/
theorem door_met (os : Os) (args : Array Value) : laidMetH Tryd.prog laid2 ((World.doorLaid Tryd.prog 400 os).forCall (fun _ _ => 0) ⟨#[], args, []⟩).memory :=
  laidMetH_of_parts3 (fuel := 8) (laidMet_of_run' 8 (by kernel_rfl) (by kernel_rfl)) (by kernel_rfl) (by kernel_rfl)

end Go.Proofs.YtnfgakbfnmmhcaaDoor
