/-
  What the library's tables hold, out of what the rows lay.
-/
import Derived.Test.YtdgebadjlkmdiaaDoorLaid
import Derived.Test.YtdgebadjlkmdiaaDoorUni
import Derived.PinnedBridge
import Derived.Lib.LaidCase
import Derived.Lib.LaidRTab
namespace Go.Proofs.YtdgebadjlkmdiaaDoor
open Go.ChangeShapes Go.WideShapes Go.ChangeAt Go.RowKit Go.Lib Go.Shelf

theorem tProp : (Tryd.prog.globals[0]?).map (·.type) = some 50 := by kernel_rfl
theorem propD : (Rows.laid_unicode_properties : DataW Unit) = Lib.tabData .u8 Lib.propertiesTab := by kernel_rfl
theorem xR : RExtra Tryd.prog Tryd.lays200_ren := ⟨by kernel_rfl, by kernel_rfl, by kernel_rfl, by kernel_rfl, by kernel_rfl, by kernel_rfl, by kernel_rfl, by kernel_rfl⟩
theorem xD : RExtra Tryd.prog Tryd.lays198_ren := ⟨by kernel_rfl, by kernel_rfl, by kernel_rfl, by kernel_rfl, by kernel_rfl, by kernel_rfl, by kernel_rfl, by kernel_rfl⟩
theorem xC : CaseExtra Tryd.prog Tryd.lays204_ren := ⟨by kernel_rfl, by kernel_rfl, by kernel_rfl, by kernel_rfl, by kernel_rfl, by kernel_rfl⟩

theorem uni_of {W : World} (h : laidMet Tryd.prog Rows.glyphNamesRow.laid W) : Uni W := by
  refine ⟨env_of h, ?_, ?_, ?_, ?_⟩
  · have h1 := laidMet.tail (laidMet.tail (laidMet.tail (laidMet.tail (laidMet.tail h))))
    have e1 : Rows.glyphNamesRow.laid.drop 5 = ("unicode.properties", Lib.tabData .u8 Lib.propertiesTab) :: Rows.glyphNamesRow.laid.drop 6 := by rw [← propD]; rfl
    have h2 : laidMet Tryd.prog (("unicode.properties", Lib.tabData .u8 Lib.propertiesTab) :: Rows.glyphNamesRow.laid.drop 6) W := by rw [← e1]; exact h1
    exact Lib.tabIs_of_head gProp tProp Tryd.underlying50 Tryd.underlying5 (by kernel_rfl) (by kernel_rfl) h2
  · exact rvar_of_reads { Tryd.lays200 with } xR (by kernel_rfl) (by kernel_rfl) (Pinned.letter_eq ▸ Lib.laidMet.reads h (n := "unicode.Letter") (d := Pinned.letter) (by repeat first | exact List.mem_cons_self | apply List.mem_cons_of_mem))
  · exact rvar_of_reads { Tryd.lays198 with } xD (by kernel_rfl) (by kernel_rfl) (Pinned.digit_eq ▸ Lib.laidMet.reads h (n := "unicode.Digit") (d := Pinned.digit) (by repeat first | exact List.mem_cons_self | apply List.mem_cons_of_mem))
  · exact caseVar_of_reads { Tryd.lays204 with } (by kernel_rfl) xC (Pinned.caseRanges_eq ▸ Lib.laidMet.reads h (n := "unicode.CaseRanges") (d := Pinned.caseRanges) (by repeat first | exact List.mem_cons_self | apply List.mem_cons_of_mem))
end Go.Proofs.YtdgebadjlkmdiaaDoor
