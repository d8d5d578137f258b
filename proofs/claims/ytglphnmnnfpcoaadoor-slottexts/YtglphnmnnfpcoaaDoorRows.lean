/-
  NARROWER THAN 'FOR EVERY INPUT', by the rows' own cells (each row's printed sentence says how): SlotNames: laid · SlotTells: laid · SlotReads: laid · SlotMoves: laid · SlotTexts: laid · SlotApart: laid · SlotTries: laid.
  DERIVED. THE GIVEN ROWS OF THIS SEAT. 7 by the template 'for every input the law returns true; each argument reads behind the call as it read before'; 0 by the template 'total and deterministic' (their statements: YtglphnmnnfpcoaaDoorTotals.lean).
  GIVEN WITH THE SEED: the statements are not yours to turn. If you find one false, say at which input.
  Laid BY PROGRAM, IN A SANDBOX (cutbox-rows.mjs): the forced cells as the released guide's own fill.sh prints them over the translation 85ba112d77f77986… (all of the seat's roots in one cut). By AI agents, Wed Nov 11 2026. No macro, syntax, notation, axiom, sorry.
-/
import Derived.Test.YtglphnmnnfpcoaaDoorChecked
import GoSem.PinnedTables
import GoSem.Claim
import GoSem.ClaimJoined
import GoSem.ClaimMapViews
import Derived.JoinedTies
import Derived.KernelRfl
namespace Go.Proofs.YtglphnmnnfpcoaaDoor
/- THE CELL 'sum', in the pinned program and in every row, IS THE sha256 OF THE DUMP (.gsa) THAT YtglphnmnnfpcoaaDoorProg.lean LOADS. Nothing in Lean hashes anything: it is a label: what it is worth is what the hold of that sum in a sandbox is worth. -/
noncomputable def Tryd.pinned : Pinned := { name := "ytglphnmnnfpcoaadoor", sum := "85ba112d77f77986b18402df9ae57ffcf3e97cec5b9b9663f98860fd5abae76f", checked := Tryd.checked }
namespace Rows
def none {H : Type} : Left H := { results := [], args := [] }

/- WHAT THE LISTED PACKAGE-LEVEL VARIABLES READ AS WHEN THE CALL BEGINS. Each datum BY PROGRAM (the guide's laid-datum.mjs) off the statement by which the dump's own 'gosem.cut.vars' lays the variable. In a bare row this is a premise. The card (YtglphnmnnfpcoaaDoorCards.lean) ties it to the program's text. -/
def laid_math_bits_deBruijn32tab {H : Type} : DataW H := .agg [.lit (.int .u8 0), .lit (.int .u8 1), .lit (.int .u8 28), .lit (.int .u8 2), .lit (.int .u8 29), .lit (.int .u8 14), .lit (.int .u8 24), .lit (.int .u8 3), .lit (.int .u8 30), .lit (.int .u8 22), .lit (.int .u8 20), .lit (.int .u8 15), .lit (.int .u8 25), .lit (.int .u8 17), .lit (.int .u8 4), .lit (.int .u8 8), .lit (.int .u8 31), .lit (.int .u8 27), .lit (.int .u8 13), .lit (.int .u8 23), .lit (.int .u8 21), .lit (.int .u8 19), .lit (.int .u8 16), .lit (.int .u8 7), .lit (.int .u8 26), .lit (.int .u8 12), .lit (.int .u8 18), .lit (.int .u8 6), .lit (.int .u8 11), .lit (.int .u8 5), .lit (.int .u8 10), .lit (.int .u8 9)]
def laid_math_bits_deBruijn64tab {H : Type} : DataW H := .agg [.lit (.int .u8 0), .lit (.int .u8 1), .lit (.int .u8 56), .lit (.int .u8 2), .lit (.int .u8 57), .lit (.int .u8 49), .lit (.int .u8 28), .lit (.int .u8 3), .lit (.int .u8 61), .lit (.int .u8 58), .lit (.int .u8 42), .lit (.int .u8 50), .lit (.int .u8 38), .lit (.int .u8 29), .lit (.int .u8 17), .lit (.int .u8 4), .lit (.int .u8 62), .lit (.int .u8 47), .lit (.int .u8 59), .lit (.int .u8 36), .lit (.int .u8 45), .lit (.int .u8 43), .lit (.int .u8 51), .lit (.int .u8 22), .lit (.int .u8 53), .lit (.int .u8 39), .lit (.int .u8 33), .lit (.int .u8 30), .lit (.int .u8 24), .lit (.int .u8 18), .lit (.int .u8 12), .lit (.int .u8 5), .lit (.int .u8 63), .lit (.int .u8 55), .lit (.int .u8 48), .lit (.int .u8 27), .lit (.int .u8 60), .lit (.int .u8 41), .lit (.int .u8 37), .lit (.int .u8 16), .lit (.int .u8 46), .lit (.int .u8 35), .lit (.int .u8 44), .lit (.int .u8 21), .lit (.int .u8 52), .lit (.int .u8 32), .lit (.int .u8 23), .lit (.int .u8 11), .lit (.int .u8 54), .lit (.int .u8 26), .lit (.int .u8 40), .lit (.int .u8 15), .lit (.int .u8 34), .lit (.int .u8 20), .lit (.int .u8 31), .lit (.int .u8 10), .lit (.int .u8 25), .lit (.int .u8 14), .lit (.int .u8 19), .lit (.int .u8 9), .lit (.int .u8 13), .lit (.int .u8 8), .lit (.int .u8 7), .lit (.int .u8 6)]
def laid_internal_strconv_uint64pow10 {H : Type} : DataW H := .agg [.lit (.int .u64 1), .lit (.int .u64 10), .lit (.int .u64 100), .lit (.int .u64 1000), .lit (.int .u64 10000), .lit (.int .u64 100000), .lit (.int .u64 1000000), .lit (.int .u64 10000000), .lit (.int .u64 100000000), .lit (.int .u64 1000000000), .lit (.int .u64 10000000000), .lit (.int .u64 100000000000), .lit (.int .u64 1000000000000), .lit (.int .u64 10000000000000), .lit (.int .u64 100000000000000), .lit (.int .u64 1000000000000000), .lit (.int .u64 10000000000000000), .lit (.int .u64 100000000000000000), .lit (.int .u64 1000000000000000000), .lit (.int .u64 10000000000000000000)]
def laid_strconv_ErrRange {H : Type} : DataW H := .iface "*errors.errorString" (.ptr (.agg [.lit (.string [118, 97, 108, 117, 101, 32, 111, 117, 116, 32, 111, 102, 32, 114, 97, 110, 103, 101])]))
def laid_strconv_ErrSyntax {H : Type} : DataW H := .iface "*errors.errorString" (.ptr (.agg [.lit (.string [105, 110, 118, 97, 108, 105, 100, 32, 115, 121, 110, 116, 97, 120])]))
def laid_bootjack_slot_statuses {H : Type} : DataW H := .agg [.lit (.string [101, 109, 112, 116, 121]), .lit (.string [100, 105, 114, 116, 121]), .lit (.string [114, 101, 97, 100, 121]), .lit (.string [103, 111, 111, 100]), .lit (.string [98, 97, 100])]
/-- One of Go's own tables, pinned by name: the form's constant. -/
def laid_unicode_CaseRanges : DataW Unit := Go.Pinned.caseRanges

/-- 'bootjacklaw10.SlotNames': WHATEVER THE INPUT: true; the input reads as it did. -/
def slotNamesSpec : ChangeSpec := { name := "slotNames", fn := fun _ => fun
  | [] => { results := [.lit (.bool true)], args := [] }
  | _ => none }
def slotNamesRow : OpenClaim := { program := "ytglphnmnnfpcoaadoor", sum := "85ba112d77f77986b18402df9ae57ffcf3e97cec5b9b9663f98860fd5abae76f", func := "bootjack/bootjacklaw10.SlotNames", spec := "slotNames", named := ["bootjack/slot.statuses", "strconv.ErrSyntax", "strconv.ErrRange", "internal/strconv.uint64pow10", "math/bits.deBruijn32tab", "math/bits.deBruijn64tab", "unicode.CaseRanges"], apart := false, laid := [("math/bits.deBruijn32tab", laid_math_bits_deBruijn32tab), ("math/bits.deBruijn64tab", laid_math_bits_deBruijn64tab), ("internal/strconv.uint64pow10", laid_internal_strconv_uint64pow10), ("strconv.ErrRange", laid_strconv_ErrRange), ("strconv.ErrSyntax", laid_strconv_ErrSyntax), ("bootjack/slot.statuses", laid_bootjack_slot_statuses), ("unicode.CaseRanges", laid_unicode_CaseRanges)] }
def SlotNamesSaid : Prop := slotNamesRow.holds Tryd.pinned (OpenSpec.ofChange slotNamesSpec)

/-- ITS FALSE NEIGHBOUR: 'it returns false'. Refute it at one input. -/
def slotNamesWrong : ChangeSpec := { name := "slotNames", fn := fun _ => fun
  | [] => { results := [.lit (.bool false)], args := [] }
  | _ => none }
def SlotNamesWrongFalsely : Prop := slotNamesRow.holds Tryd.pinned (OpenSpec.ofChange slotNamesWrong)

/-- 'bootjacklaw10.SlotTells': WHATEVER THE INPUT: true; the input reads as it did. -/
def slotTellsSpec : ChangeSpec := { name := "slotTells", fn := fun _ => fun
  | [d] => { results := [.lit (.bool true)], args := [d] }
  | _ => none }
def slotTellsRow : OpenClaim := { program := "ytglphnmnnfpcoaadoor", sum := "85ba112d77f77986b18402df9ae57ffcf3e97cec5b9b9663f98860fd5abae76f", func := "bootjack/bootjacklaw10.SlotTells", spec := "slotTells", named := ["bootjack/slot.statuses", "internal/strconv.uint64pow10", "math/bits.deBruijn32tab", "math/bits.deBruijn64tab", "strconv.ErrSyntax", "strconv.ErrRange"], apart := false, laid := [("math/bits.deBruijn32tab", laid_math_bits_deBruijn32tab), ("math/bits.deBruijn64tab", laid_math_bits_deBruijn64tab), ("internal/strconv.uint64pow10", laid_internal_strconv_uint64pow10), ("strconv.ErrRange", laid_strconv_ErrRange), ("strconv.ErrSyntax", laid_strconv_ErrSyntax), ("bootjack/slot.statuses", laid_bootjack_slot_statuses)] }
def SlotTellsSaid : Prop := slotTellsRow.holds Tryd.pinned (OpenSpec.ofChange slotTellsSpec)

/-- ITS FALSE NEIGHBOUR: 'it returns false'. Refute it at one input. -/
def slotTellsWrong : ChangeSpec := { name := "slotTells", fn := fun _ => fun
  | [d] => { results := [.lit (.bool false)], args := [d] }
  | _ => none }
def SlotTellsWrongFalsely : Prop := slotTellsRow.holds Tryd.pinned (OpenSpec.ofChange slotTellsWrong)

/-- 'bootjacklaw10.SlotReads': WHATEVER THE INPUT: true; the input reads as it did. -/
def slotReadsSpec : ChangeSpec := { name := "slotReads", fn := fun _ => fun
  | [d] => { results := [.lit (.bool true)], args := [d] }
  | _ => none }
def slotReadsRow : OpenClaim := { program := "ytglphnmnnfpcoaadoor", sum := "85ba112d77f77986b18402df9ae57ffcf3e97cec5b9b9663f98860fd5abae76f", func := "bootjack/bootjacklaw10.SlotReads", spec := "slotReads", named := ["bootjack/slot.statuses", "internal/strconv.uint64pow10", "math/bits.deBruijn32tab", "math/bits.deBruijn64tab", "strconv.ErrSyntax", "strconv.ErrRange"], apart := false, laid := [("math/bits.deBruijn32tab", laid_math_bits_deBruijn32tab), ("math/bits.deBruijn64tab", laid_math_bits_deBruijn64tab), ("internal/strconv.uint64pow10", laid_internal_strconv_uint64pow10), ("strconv.ErrRange", laid_strconv_ErrRange), ("strconv.ErrSyntax", laid_strconv_ErrSyntax), ("bootjack/slot.statuses", laid_bootjack_slot_statuses)] }
def SlotReadsSaid : Prop := slotReadsRow.holds Tryd.pinned (OpenSpec.ofChange slotReadsSpec)

/-- ITS FALSE NEIGHBOUR: 'it returns false'. Refute it at one input. -/
def slotReadsWrong : ChangeSpec := { name := "slotReads", fn := fun _ => fun
  | [d] => { results := [.lit (.bool false)], args := [d] }
  | _ => none }
def SlotReadsWrongFalsely : Prop := slotReadsRow.holds Tryd.pinned (OpenSpec.ofChange slotReadsWrong)

/-- 'bootjacklaw10.SlotMoves': WHATEVER THE INPUT: true; the input reads as it did. -/
def slotMovesSpec : ChangeSpec := { name := "slotMoves", fn := fun _ => fun
  | [d] => { results := [.lit (.bool true)], args := [d] }
  | _ => none }
def slotMovesRow : OpenClaim := { program := "ytglphnmnnfpcoaadoor", sum := "85ba112d77f77986b18402df9ae57ffcf3e97cec5b9b9663f98860fd5abae76f", func := "bootjack/bootjacklaw10.SlotMoves", spec := "slotMoves", named := ["bootjack/slot.statuses", "internal/strconv.uint64pow10", "math/bits.deBruijn32tab", "math/bits.deBruijn64tab", "strconv.ErrSyntax", "strconv.ErrRange"], apart := false, laid := [("math/bits.deBruijn32tab", laid_math_bits_deBruijn32tab), ("math/bits.deBruijn64tab", laid_math_bits_deBruijn64tab), ("internal/strconv.uint64pow10", laid_internal_strconv_uint64pow10), ("strconv.ErrRange", laid_strconv_ErrRange), ("strconv.ErrSyntax", laid_strconv_ErrSyntax), ("bootjack/slot.statuses", laid_bootjack_slot_statuses)] }
def SlotMovesSaid : Prop := slotMovesRow.holds Tryd.pinned (OpenSpec.ofChange slotMovesSpec)

/-- ITS FALSE NEIGHBOUR: 'it returns false'. Refute it at one input. -/
def slotMovesWrong : ChangeSpec := { name := "slotMoves", fn := fun _ => fun
  | [d] => { results := [.lit (.bool false)], args := [d] }
  | _ => none }
def SlotMovesWrongFalsely : Prop := slotMovesRow.holds Tryd.pinned (OpenSpec.ofChange slotMovesWrong)

/-- 'bootjacklaw10.SlotTexts': WHATEVER THE INPUT: true; the input reads as it did. -/
def slotTextsSpec : ChangeSpec := { name := "slotTexts", fn := fun _ => fun
  | [d1, d2] => { results := [.lit (.bool true)], args := [d1, d2] }
  | _ => none }
def slotTextsRow : OpenClaim := { program := "ytglphnmnnfpcoaadoor", sum := "85ba112d77f77986b18402df9ae57ffcf3e97cec5b9b9663f98860fd5abae76f", func := "bootjack/bootjacklaw10.SlotTexts", spec := "slotTexts", named := ["bootjack/slot.statuses", "internal/strconv.uint64pow10", "math/bits.deBruijn32tab", "math/bits.deBruijn64tab", "strconv.ErrSyntax", "strconv.ErrRange", "unicode.CaseRanges"], apart := false, laid := [("math/bits.deBruijn32tab", laid_math_bits_deBruijn32tab), ("math/bits.deBruijn64tab", laid_math_bits_deBruijn64tab), ("internal/strconv.uint64pow10", laid_internal_strconv_uint64pow10), ("strconv.ErrRange", laid_strconv_ErrRange), ("strconv.ErrSyntax", laid_strconv_ErrSyntax), ("bootjack/slot.statuses", laid_bootjack_slot_statuses), ("unicode.CaseRanges", laid_unicode_CaseRanges)] }
def SlotTextsSaid : Prop := slotTextsRow.holds Tryd.pinned (OpenSpec.ofChange slotTextsSpec)

/-- ITS FALSE NEIGHBOUR: 'it returns false'. Refute it at one input. -/
def slotTextsWrong : ChangeSpec := { name := "slotTexts", fn := fun _ => fun
  | [d1, d2] => { results := [.lit (.bool false)], args := [d1, d2] }
  | _ => none }
def SlotTextsWrongFalsely : Prop := slotTextsRow.holds Tryd.pinned (OpenSpec.ofChange slotTextsWrong)

/-- 'bootjacklaw10.SlotApart': WHATEVER THE INPUT: true; the input reads as it did. -/
def slotApartSpec : ChangeSpec := { name := "slotApart", fn := fun _ => fun
  | [d1, d2] => { results := [.lit (.bool true)], args := [d1, d2] }
  | _ => none }
def slotApartRow : OpenClaim := { program := "ytglphnmnnfpcoaadoor", sum := "85ba112d77f77986b18402df9ae57ffcf3e97cec5b9b9663f98860fd5abae76f", func := "bootjack/bootjacklaw10.SlotApart", spec := "slotApart", named := ["bootjack/slot.statuses", "internal/strconv.uint64pow10", "math/bits.deBruijn32tab", "math/bits.deBruijn64tab", "strconv.ErrSyntax", "strconv.ErrRange"], apart := false, laid := [("math/bits.deBruijn32tab", laid_math_bits_deBruijn32tab), ("math/bits.deBruijn64tab", laid_math_bits_deBruijn64tab), ("internal/strconv.uint64pow10", laid_internal_strconv_uint64pow10), ("strconv.ErrRange", laid_strconv_ErrRange), ("strconv.ErrSyntax", laid_strconv_ErrSyntax), ("bootjack/slot.statuses", laid_bootjack_slot_statuses)] }
def SlotApartSaid : Prop := slotApartRow.holds Tryd.pinned (OpenSpec.ofChange slotApartSpec)

/-- ITS FALSE NEIGHBOUR: 'it returns false'. Refute it at one input. -/
def slotApartWrong : ChangeSpec := { name := "slotApart", fn := fun _ => fun
  | [d1, d2] => { results := [.lit (.bool false)], args := [d1, d2] }
  | _ => none }
def SlotApartWrongFalsely : Prop := slotApartRow.holds Tryd.pinned (OpenSpec.ofChange slotApartWrong)

/-- 'bootjacklaw10.SlotTries': WHATEVER THE INPUT: true; the input reads as it did. -/
def slotTriesSpec : ChangeSpec := { name := "slotTries", fn := fun _ => fun
  | [d1, d2] => { results := [.lit (.bool true)], args := [d1, d2] }
  | _ => none }
def slotTriesRow : OpenClaim := { program := "ytglphnmnnfpcoaadoor", sum := "85ba112d77f77986b18402df9ae57ffcf3e97cec5b9b9663f98860fd5abae76f", func := "bootjack/bootjacklaw10.SlotTries", spec := "slotTries", named := ["bootjack/slot.statuses", "internal/strconv.uint64pow10", "math/bits.deBruijn32tab", "math/bits.deBruijn64tab", "strconv.ErrSyntax", "strconv.ErrRange"], apart := false, laid := [("math/bits.deBruijn32tab", laid_math_bits_deBruijn32tab), ("math/bits.deBruijn64tab", laid_math_bits_deBruijn64tab), ("internal/strconv.uint64pow10", laid_internal_strconv_uint64pow10), ("strconv.ErrRange", laid_strconv_ErrRange), ("strconv.ErrSyntax", laid_strconv_ErrSyntax), ("bootjack/slot.statuses", laid_bootjack_slot_statuses)] }
def SlotTriesSaid : Prop := slotTriesRow.holds Tryd.pinned (OpenSpec.ofChange slotTriesSpec)

/-- ITS FALSE NEIGHBOUR: 'it returns false'. Refute it at one input. -/
def slotTriesWrong : ChangeSpec := { name := "slotTries", fn := fun _ => fun
  | [d1, d2] => { results := [.lit (.bool false)], args := [d1, d2] }
  | _ => none }
def SlotTriesWrongFalsely : Prop := slotTriesRow.holds Tryd.pinned (OpenSpec.ofChange slotTriesWrong)

/- THE SECOND FORM. 'bulk': how many values and letters a reading holds, each counted each time it is reached (what is shared counts as often as it is met; a slice's spare places count too). A statement '..UptoSaid' is the law's where the arguments, and the package variables that the reading takes, are together of bulk at most 1048576: NARROWER than '..Said'. Prove '..Said' where nothing that the law and all that it calls make is longer than what came in: it says more and counts as full. Else prove '..UptoSaid'. A law counts once. -/
mutual
def uptoBulk {H : Type} : DataW H → Nat
  | .lit (.string bytes) => bytes.length + 1
  | .lit _ => 1
  | .nil => 1
  | .ptr d => uptoBulk d + 1
  | .slice elems spare => uptoBulkAll elems + uptoBulkAll spare + 1
  | .agg parts => uptoBulkAll parts + 1
  | .iface _ d => uptoBulk d + 1
  | .map entries => uptoBulkEntries entries + 1
  | .held _ => 1
def uptoBulkAll {H : Type} : List (DataW H) → Nat
  | [] => 0
  | d :: r => uptoBulk d + uptoBulkAll r
def uptoBulkEntries {H : Type} : List (Lit × DataW H) → Nat
  | [] => 0
  | x :: r => uptoBulkEntry x + uptoBulkEntries r
def uptoBulkEntry {H : Type} : Lit × DataW H → Nat
  | (.string bytes, d) => bytes.length + uptoBulk d + 1
  | (_, d) => uptoBulk d + 1
 end
def uptoSmall : (H : Type) → List (DataW H) → Bool := fun _ ds => decide (uptoBulkAll ds ≤ 1048576)
def OpenSpec.upto (s : _root_.Go.ChangeSpec) : _root_.Go.OpenSpec := { _root_.Go.OpenSpec.ofChange s with cond := some uptoSmall }

/-- 'bootjacklaw10.SlotNames', WHERE WHAT IT READS IS OF BULK AT MOST 1048576: true; the input reads as it did. -/
def slotNamesUptoRow : OpenClaim := { program := "ytglphnmnnfpcoaadoor", sum := "85ba112d77f77986b18402df9ae57ffcf3e97cec5b9b9663f98860fd5abae76f", func := "bootjack/bootjacklaw10.SlotNames", spec := "slotNames", named := ["bootjack/slot.statuses", "strconv.ErrSyntax", "strconv.ErrRange", "internal/strconv.uint64pow10", "math/bits.deBruijn32tab", "math/bits.deBruijn64tab", "unicode.CaseRanges"], apart := false, laid := [("math/bits.deBruijn32tab", laid_math_bits_deBruijn32tab), ("math/bits.deBruijn64tab", laid_math_bits_deBruijn64tab), ("internal/strconv.uint64pow10", laid_internal_strconv_uint64pow10), ("strconv.ErrRange", laid_strconv_ErrRange), ("strconv.ErrSyntax", laid_strconv_ErrSyntax), ("bootjack/slot.statuses", laid_bootjack_slot_statuses), ("unicode.CaseRanges", laid_unicode_CaseRanges)], narrowed := true }
def SlotNamesUptoSaid : Prop := slotNamesUptoRow.holds Tryd.pinned (OpenSpec.upto slotNamesSpec)

/-- 'bootjacklaw10.SlotTells', WHERE WHAT IT READS IS OF BULK AT MOST 1048576: true; the input reads as it did. -/
def slotTellsUptoRow : OpenClaim := { program := "ytglphnmnnfpcoaadoor", sum := "85ba112d77f77986b18402df9ae57ffcf3e97cec5b9b9663f98860fd5abae76f", func := "bootjack/bootjacklaw10.SlotTells", spec := "slotTells", named := ["bootjack/slot.statuses", "internal/strconv.uint64pow10", "math/bits.deBruijn32tab", "math/bits.deBruijn64tab", "strconv.ErrSyntax", "strconv.ErrRange"], apart := false, laid := [("math/bits.deBruijn32tab", laid_math_bits_deBruijn32tab), ("math/bits.deBruijn64tab", laid_math_bits_deBruijn64tab), ("internal/strconv.uint64pow10", laid_internal_strconv_uint64pow10), ("strconv.ErrRange", laid_strconv_ErrRange), ("strconv.ErrSyntax", laid_strconv_ErrSyntax), ("bootjack/slot.statuses", laid_bootjack_slot_statuses)], narrowed := true }
def SlotTellsUptoSaid : Prop := slotTellsUptoRow.holds Tryd.pinned (OpenSpec.upto slotTellsSpec)

/-- 'bootjacklaw10.SlotReads', WHERE WHAT IT READS IS OF BULK AT MOST 1048576: true; the input reads as it did. -/
def slotReadsUptoRow : OpenClaim := { program := "ytglphnmnnfpcoaadoor", sum := "85ba112d77f77986b18402df9ae57ffcf3e97cec5b9b9663f98860fd5abae76f", func := "bootjack/bootjacklaw10.SlotReads", spec := "slotReads", named := ["bootjack/slot.statuses", "internal/strconv.uint64pow10", "math/bits.deBruijn32tab", "math/bits.deBruijn64tab", "strconv.ErrSyntax", "strconv.ErrRange"], apart := false, laid := [("math/bits.deBruijn32tab", laid_math_bits_deBruijn32tab), ("math/bits.deBruijn64tab", laid_math_bits_deBruijn64tab), ("internal/strconv.uint64pow10", laid_internal_strconv_uint64pow10), ("strconv.ErrRange", laid_strconv_ErrRange), ("strconv.ErrSyntax", laid_strconv_ErrSyntax), ("bootjack/slot.statuses", laid_bootjack_slot_statuses)], narrowed := true }
def SlotReadsUptoSaid : Prop := slotReadsUptoRow.holds Tryd.pinned (OpenSpec.upto slotReadsSpec)

/-- 'bootjacklaw10.SlotMoves', WHERE WHAT IT READS IS OF BULK AT MOST 1048576: true; the input reads as it did. -/
def slotMovesUptoRow : OpenClaim := { program := "ytglphnmnnfpcoaadoor", sum := "85ba112d77f77986b18402df9ae57ffcf3e97cec5b9b9663f98860fd5abae76f", func := "bootjack/bootjacklaw10.SlotMoves", spec := "slotMoves", named := ["bootjack/slot.statuses", "internal/strconv.uint64pow10", "math/bits.deBruijn32tab", "math/bits.deBruijn64tab", "strconv.ErrSyntax", "strconv.ErrRange"], apart := false, laid := [("math/bits.deBruijn32tab", laid_math_bits_deBruijn32tab), ("math/bits.deBruijn64tab", laid_math_bits_deBruijn64tab), ("internal/strconv.uint64pow10", laid_internal_strconv_uint64pow10), ("strconv.ErrRange", laid_strconv_ErrRange), ("strconv.ErrSyntax", laid_strconv_ErrSyntax), ("bootjack/slot.statuses", laid_bootjack_slot_statuses)], narrowed := true }
def SlotMovesUptoSaid : Prop := slotMovesUptoRow.holds Tryd.pinned (OpenSpec.upto slotMovesSpec)

/-- 'bootjacklaw10.SlotTexts', WHERE WHAT IT READS IS OF BULK AT MOST 1048576: true; the input reads as it did. -/
def slotTextsUptoRow : OpenClaim := { program := "ytglphnmnnfpcoaadoor", sum := "85ba112d77f77986b18402df9ae57ffcf3e97cec5b9b9663f98860fd5abae76f", func := "bootjack/bootjacklaw10.SlotTexts", spec := "slotTexts", named := ["bootjack/slot.statuses", "internal/strconv.uint64pow10", "math/bits.deBruijn32tab", "math/bits.deBruijn64tab", "strconv.ErrSyntax", "strconv.ErrRange", "unicode.CaseRanges"], apart := false, laid := [("math/bits.deBruijn32tab", laid_math_bits_deBruijn32tab), ("math/bits.deBruijn64tab", laid_math_bits_deBruijn64tab), ("internal/strconv.uint64pow10", laid_internal_strconv_uint64pow10), ("strconv.ErrRange", laid_strconv_ErrRange), ("strconv.ErrSyntax", laid_strconv_ErrSyntax), ("bootjack/slot.statuses", laid_bootjack_slot_statuses), ("unicode.CaseRanges", laid_unicode_CaseRanges)], narrowed := true }
def SlotTextsUptoSaid : Prop := slotTextsUptoRow.holds Tryd.pinned (OpenSpec.upto slotTextsSpec)

/-- 'bootjacklaw10.SlotApart', WHERE WHAT IT READS IS OF BULK AT MOST 1048576: true; the input reads as it did. -/
def slotApartUptoRow : OpenClaim := { program := "ytglphnmnnfpcoaadoor", sum := "85ba112d77f77986b18402df9ae57ffcf3e97cec5b9b9663f98860fd5abae76f", func := "bootjack/bootjacklaw10.SlotApart", spec := "slotApart", named := ["bootjack/slot.statuses", "internal/strconv.uint64pow10", "math/bits.deBruijn32tab", "math/bits.deBruijn64tab", "strconv.ErrSyntax", "strconv.ErrRange"], apart := false, laid := [("math/bits.deBruijn32tab", laid_math_bits_deBruijn32tab), ("math/bits.deBruijn64tab", laid_math_bits_deBruijn64tab), ("internal/strconv.uint64pow10", laid_internal_strconv_uint64pow10), ("strconv.ErrRange", laid_strconv_ErrRange), ("strconv.ErrSyntax", laid_strconv_ErrSyntax), ("bootjack/slot.statuses", laid_bootjack_slot_statuses)], narrowed := true }
def SlotApartUptoSaid : Prop := slotApartUptoRow.holds Tryd.pinned (OpenSpec.upto slotApartSpec)

/-- 'bootjacklaw10.SlotTries', WHERE WHAT IT READS IS OF BULK AT MOST 1048576: true; the input reads as it did. -/
def slotTriesUptoRow : OpenClaim := { program := "ytglphnmnnfpcoaadoor", sum := "85ba112d77f77986b18402df9ae57ffcf3e97cec5b9b9663f98860fd5abae76f", func := "bootjack/bootjacklaw10.SlotTries", spec := "slotTries", named := ["bootjack/slot.statuses", "internal/strconv.uint64pow10", "math/bits.deBruijn32tab", "math/bits.deBruijn64tab", "strconv.ErrSyntax", "strconv.ErrRange"], apart := false, laid := [("math/bits.deBruijn32tab", laid_math_bits_deBruijn32tab), ("math/bits.deBruijn64tab", laid_math_bits_deBruijn64tab), ("internal/strconv.uint64pow10", laid_internal_strconv_uint64pow10), ("strconv.ErrRange", laid_strconv_ErrRange), ("strconv.ErrSyntax", laid_strconv_ErrSyntax), ("bootjack/slot.statuses", laid_bootjack_slot_statuses)], narrowed := true }
def SlotTriesUptoSaid : Prop := slotTriesUptoRow.holds Tryd.pinned (OpenSpec.upto slotTriesSpec)

end Rows
end Go.Proofs.YtglphnmnnfpcoaaDoor
