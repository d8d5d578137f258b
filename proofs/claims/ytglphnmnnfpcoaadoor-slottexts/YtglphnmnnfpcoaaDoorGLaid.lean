/-
  What the library's table of letters holds, out of what the rows lay.
-/
import Derived.Test.YtglphnmnnfpcoaaDoorLaid
import Derived.Test.YtglphnmnnfpcoaaDoorGFold
import Derived.PinnedBridge
import Derived.Lib.LaidCase
import Derived.Lib.LaidRTab
namespace Go.Proofs.YtglphnmnnfpcoaaDoor
open Go.ChangeShapes Go.WideShapes Go.ChangeAt Go.RowKit Go.Lib Go.Shelf

theorem xC : CaseExtra Tryd.prog Tryd.lays204_ren := ⟨by kernel_rfl, by kernel_rfl, by kernel_rfl, by kernel_rfl, by kernel_rfl, by kernel_rfl⟩
theorem uni_of {W : World} (h : laidMet Tryd.prog Rows.slotNamesRow.laid W) : G.Uni W :=
  ⟨tabs_of (rest := [("unicode.CaseRanges", Rows.laid_unicode_CaseRanges)]) h,
   caseVar_of_reads { Tryd.lays204 with } (by kernel_rfl) xC (Pinned.caseRanges_eq ▸ Lib.laidMet.reads h (n := "unicode.CaseRanges") (d := Pinned.caseRanges) (by repeat first | exact List.mem_cons_self | apply List.mem_cons_of_mem))⟩
end Go.Proofs.YtglphnmnnfpcoaaDoor
