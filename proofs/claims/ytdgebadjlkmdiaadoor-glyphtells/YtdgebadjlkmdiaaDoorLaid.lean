/-
  What the library's variables hold, out of what the rows lay.
-/
import Derived.Test.YtdgebadjlkmdiaaDoorRows
import Derived.Test.YtdgebadjlkmdiaaDoorHex
import Derived.ProofKit
import Derived.LaidMore
import Derived.Lay
import Derived.LaidOnce
import Derived.Lib.LaidTab
import Derived.Stop.LaidErr
import Derived.OpenShut
import Derived.Stop.Joined
namespace Go.Proofs.YtdgebadjlkmdiaaDoor
open Go.ChangeShapes Go.WideShapes Go.ChangeAt Go.RowKit

theorem own : ownKnob Tryd.prog.godebug = none := by kernel_rfl
theorem laidOut : laidOutB Tryd.prog = true := by kernel_rfl
theorem gDb : Tryd.prog.globalNamed "math/bits.deBruijn64tab" = some 9 := by kernel_rfl
theorem tDb : (Tryd.prog.globals[9]?).map (·.type) = some 116 := by kernel_rfl
theorem gEs : Tryd.prog.globalNamed "strconv.ErrSyntax" = some 6 := by kernel_rfl
theorem tEs : (Tryd.prog.globals[6]?).map (·.type) = some 58 := by kernel_rfl
theorem gEr : Tryd.prog.globalNamed "strconv.ErrRange" = some 7 := by kernel_rfl
theorem tEr : (Tryd.prog.globals[7]?).map (·.type) = some 58 := by kernel_rfl

def dbL : List Int := [0, 1, 56, 2, 57, 49, 28, 3, 61, 58, 42, 50, 38, 29, 17, 4, 62, 47, 59, 36, 45, 43, 51, 22, 53, 39, 33, 30, 24, 18, 12, 5, 63, 55, 48, 27, 60, 41, 37, 16, 46, 35, 44, 21, 52, 32, 23, 11, 54, 26, 40, 15, 34, 20, 31, 10, 25, 14, 19, 9, 13, 8, 7, 6]
theorem dbD : (Rows.laid_math_bits_deBruijn64tab : DataW Unit) = Lib.tabData .u8 dbL := by rfl

def laid5 (rest : List (String × DataW Unit)) : List (String × DataW Unit) :=
  ("math/bits.deBruijn32tab", Rows.laid_math_bits_deBruijn32tab) :: ("math/bits.deBruijn64tab", Rows.laid_math_bits_deBruijn64tab) :: ("internal/strconv.uint64pow10", Rows.laid_internal_strconv_uint64pow10) :: ("strconv.ErrRange", Rows.laid_strconv_ErrRange) :: ("strconv.ErrSyntax", Rows.laid_strconv_ErrSyntax) :: rest

theorem err_star : "*" ++ "errors.errorString" = "*errors.errorString" := by decide
theorem err_row (u : TypeId) (h : Tryd.prog.typeName? 3 u = some "*errors.errorString") : u = 112 :=
  typeName_ptr_named (nm := "errors.errorString") (by rw [err_star]; kernel_rfl) (by kernel_rfl) (by decide) u (by rw [err_star]; exact h)

theorem env_of {rest : List (String × DataW Unit)} {W : World} (h : laidMet Tryd.prog (laid5 rest) W) : Env W := by
  have h1 := laidMet.tail h
  rw [dbD] at h1
  have t1 := Lib.tabIs_of_head gDb tDb Tryd.underlying116 Tryd.underlying5 (by kernel_rfl) (by kernel_rfl) h1
  have c1 := t1.cell gDb 15 (by decide)
  have h3 := laidMet.tail (laidMet.tail h1)
  obtain ⟨a3, s3, v3, _⟩ := laid_sentinel h3 gEr tEr Tryd.underlying58 err_row Tryd.underlying112 Tryd.underlying114 rfl rfl Tryd.underlying9 (by kernel_rfl) (by kernel_rfl)
  have h4 := laidMet.tail h3
  obtain ⟨a4, s4, v4, _⟩ := laid_sentinel h4 gEs tEs Tryd.underlying58 err_row Tryd.underlying112 Tryd.underlying114 rfl rfl Tryd.underlying9 (by kernel_rfl) (by kernel_rfl)
  refine ⟨⟨112, .pointer (some a4), ?_⟩, ⟨112, .pointer (some a3), ?_⟩, c1, ?_⟩
  · have := World.var?_cell gEs v4 0
    simpa using this
  · have := World.var?_cell gEr v3 0
    simpa using this
  · have h9 : 9 < W.heap.size := by
      rcases Nat.lt_or_ge 9 W.heap.size with h | h
      · exact h
      · simp [World.cell?, Array.getElem?_eq_none h] at c1
    omega
theorem of_laid {W : World} (h : laidMet Tryd.prog Rows.glyphCutsRow.laid W) : Env W := env_of (rest := []) h
end Go.Proofs.YtdgebadjlkmdiaaDoor
