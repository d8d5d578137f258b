/-
  No cell of these rows narrows 'for every input' (looked for: loops, veiled, ifaces, maps, wideKeys, modest, calm, conditions, laid).
  DERIVED. THE GIVEN ROWS OF THIS SEAT. 4 by the template 'for every input the law returns true; each argument reads behind the call as it read before'; 0 by the template 'total and deterministic' (their statements: YtebahemgbpjldaaTotals.lean).
  GIVEN WITH THE SEED: the statements are not yours to turn. If you find one false, say at which input.
  Laid BY PROGRAM, IN A SANDBOX (cutbox-rows.mjs): the forced cells as the released guide's own fill.sh prints them over the translation 787c5e260d1e3989… (all of the seat's roots in one cut). By AI agents, Wed Nov 11 2026. No macro, syntax, notation, axiom, sorry.
-/
import Derived.Test.YtebahemgbpjldaaChecked
import GoSem.Claim
import GoSem.ClaimJoined
import GoSem.ClaimMapViews
import Derived.JoinedTies
import Derived.KernelRfl
namespace Go.Proofs.Ytebahemgbpjldaa
/- THE CELL 'sum', in the pinned program and in every row, IS THE sha256 OF THE DUMP (.gsa) THAT YtebahemgbpjldaaProg.lean LOADS. Nothing in Lean hashes anything: it is a label: what it is worth is what the hold of that sum in a sandbox is worth. -/
noncomputable def Try.pinned : Pinned := { name := "ytebahemgbpjldaa", sum := "787c5e260d1e3989b3f80745b660e823ef8de008ab52f9c1d7d1dd8ce8029c1b", checked := Try.checked }
namespace Rows
def none {H : Type} : Left H := { results := [], args := [] }

/-- 'bootjacklaw06.FlashNames': WHATEVER THE INPUT: true; the input reads as it did. -/
def flashNamesSpec : ChangeSpec := { name := "flashNames", fn := fun _ => fun
  | [] => { results := [.lit (.bool true)], args := [] }
  | _ => none }
def flashNamesRow : OpenClaim := { program := "ytebahemgbpjldaa", sum := "787c5e260d1e3989b3f80745b660e823ef8de008ab52f9c1d7d1dd8ce8029c1b", func := "bootjack/bootjacklaw06.FlashNames", spec := "flashNames", apart := false }
def FlashNamesSaid : Prop := flashNamesRow.holds Try.pinned (OpenSpec.ofChange flashNamesSpec)

/-- ITS FALSE NEIGHBOUR: 'it returns false'. Refute it at one input. -/
def flashNamesWrong : ChangeSpec := { name := "flashNames", fn := fun _ => fun
  | [] => { results := [.lit (.bool false)], args := [] }
  | _ => none }
def FlashNamesWrongFalsely : Prop := flashNamesRow.holds Try.pinned (OpenSpec.ofChange flashNamesWrong)

/-- 'bootjacklaw06.FlashRuns': WHATEVER THE INPUT: true; the input reads as it did. -/
def flashRunsSpec : ChangeSpec := { name := "flashRuns", fn := fun _ => fun
  | [d1, d2, d3] => { results := [.lit (.bool true)], args := [d1, d2, d3] }
  | _ => none }
def flashRunsRow : OpenClaim := { program := "ytebahemgbpjldaa", sum := "787c5e260d1e3989b3f80745b660e823ef8de008ab52f9c1d7d1dd8ce8029c1b", func := "bootjack/bootjacklaw06.FlashRuns", spec := "flashRuns", apart := false }
def FlashRunsSaid : Prop := flashRunsRow.holds Try.pinned (OpenSpec.ofChange flashRunsSpec)

/-- ITS FALSE NEIGHBOUR: 'it returns false'. Refute it at one input. -/
def flashRunsWrong : ChangeSpec := { name := "flashRuns", fn := fun _ => fun
  | [d1, d2, d3] => { results := [.lit (.bool false)], args := [d1, d2, d3] }
  | _ => none }
def FlashRunsWrongFalsely : Prop := flashRunsRow.holds Try.pinned (OpenSpec.ofChange flashRunsWrong)

/-- 'bootjacklaw06.FlashSure': WHATEVER THE INPUT: true; the input reads as it did. -/
def flashSureSpec : ChangeSpec := { name := "flashSure", fn := fun _ => fun
  | [d1, d2] => { results := [.lit (.bool true)], args := [d1, d2] }
  | _ => none }
def flashSureRow : OpenClaim := { program := "ytebahemgbpjldaa", sum := "787c5e260d1e3989b3f80745b660e823ef8de008ab52f9c1d7d1dd8ce8029c1b", func := "bootjack/bootjacklaw06.FlashSure", spec := "flashSure", apart := false }
def FlashSureSaid : Prop := flashSureRow.holds Try.pinned (OpenSpec.ofChange flashSureSpec)

/-- ITS FALSE NEIGHBOUR: 'it returns false'. Refute it at one input. -/
def flashSureWrong : ChangeSpec := { name := "flashSure", fn := fun _ => fun
  | [d1, d2] => { results := [.lit (.bool false)], args := [d1, d2] }
  | _ => none }
def FlashSureWrongFalsely : Prop := flashSureRow.holds Try.pinned (OpenSpec.ofChange flashSureWrong)

/-- 'bootjacklaw06.FlashOnce': WHATEVER THE INPUT: true; the input reads as it did. -/
def flashOnceSpec : ChangeSpec := { name := "flashOnce", fn := fun _ => fun
  | [d1, d2] => { results := [.lit (.bool true)], args := [d1, d2] }
  | _ => none }
def flashOnceRow : OpenClaim := { program := "ytebahemgbpjldaa", sum := "787c5e260d1e3989b3f80745b660e823ef8de008ab52f9c1d7d1dd8ce8029c1b", func := "bootjack/bootjacklaw06.FlashOnce", spec := "flashOnce", apart := false }
def FlashOnceSaid : Prop := flashOnceRow.holds Try.pinned (OpenSpec.ofChange flashOnceSpec)

/-- ITS FALSE NEIGHBOUR: 'it returns false'. Refute it at one input. -/
def flashOnceWrong : ChangeSpec := { name := "flashOnce", fn := fun _ => fun
  | [d1, d2] => { results := [.lit (.bool false)], args := [d1, d2] }
  | _ => none }
def FlashOnceWrongFalsely : Prop := flashOnceRow.holds Try.pinned (OpenSpec.ofChange flashOnceWrong)

/- THE SECOND FORM. 'bulk': how many values and letters a reading holds, each counted each time it is reached (what is shared counts as often as it is met; a slice's spare places count too). A statement '..UptoSaid' is the law's where the arguments, and the package variables that the reading takes, are together of bulk at most 1048576: NARROWER than '..Said'. Prove '..Said' where nothing that the law and all that it calls make is longer than what came in: it says more and counts as full. Else prove '..UptoSaid'. A law counts once. -/
mutual
def uptoBulk {H : Type} : DataW H → Nat
  | .lit (.string bytes) => bytes.length + 1
  | .lit _ => 1
  | .nil => 1
  | .ptr d => uptoBulk d + 1
  | .slice elems spare => uptoBulkAll elems + uptoBulkAll spare + 1
  | .agg parts => uptoBulkAll parts + 1
  | .iface _ d => uptoBulk d + 1
  | .map entries => uptoBulkEntries entries + 1
  | .held _ => 1
def uptoBulkAll {H : Type} : List (DataW H) → Nat
  | [] => 0
  | d :: r => uptoBulk d + uptoBulkAll r
def uptoBulkEntries {H : Type} : List (Lit × DataW H) → Nat
  | [] => 0
  | x :: r => uptoBulkEntry x + uptoBulkEntries r
def uptoBulkEntry {H : Type} : Lit × DataW H → Nat
  | (.string bytes, d) => bytes.length + uptoBulk d + 1
  | (_, d) => uptoBulk d + 1
 end
def uptoSmall : (H : Type) → List (DataW H) → Bool := fun _ ds => decide (uptoBulkAll ds ≤ 1048576)
def OpenSpec.upto (s : _root_.Go.ChangeSpec) : _root_.Go.OpenSpec := { _root_.Go.OpenSpec.ofChange s with cond := some uptoSmall }

/-- 'bootjacklaw06.FlashNames', WHERE WHAT IT READS IS OF BULK AT MOST 1048576: true; the input reads as it did. -/
def flashNamesUptoRow : OpenClaim := { program := "ytebahemgbpjldaa", sum := "787c5e260d1e3989b3f80745b660e823ef8de008ab52f9c1d7d1dd8ce8029c1b", func := "bootjack/bootjacklaw06.FlashNames", spec := "flashNames", apart := false, narrowed := true }
def FlashNamesUptoSaid : Prop := flashNamesUptoRow.holds Try.pinned (OpenSpec.upto flashNamesSpec)

/-- 'bootjacklaw06.FlashRuns', WHERE WHAT IT READS IS OF BULK AT MOST 1048576: true; the input reads as it did. -/
def flashRunsUptoRow : OpenClaim := { program := "ytebahemgbpjldaa", sum := "787c5e260d1e3989b3f80745b660e823ef8de008ab52f9c1d7d1dd8ce8029c1b", func := "bootjack/bootjacklaw06.FlashRuns", spec := "flashRuns", apart := false, narrowed := true }
def FlashRunsUptoSaid : Prop := flashRunsUptoRow.holds Try.pinned (OpenSpec.upto flashRunsSpec)

/-- 'bootjacklaw06.FlashSure', WHERE WHAT IT READS IS OF BULK AT MOST 1048576: true; the input reads as it did. -/
def flashSureUptoRow : OpenClaim := { program := "ytebahemgbpjldaa", sum := "787c5e260d1e3989b3f80745b660e823ef8de008ab52f9c1d7d1dd8ce8029c1b", func := "bootjack/bootjacklaw06.FlashSure", spec := "flashSure", apart := false, narrowed := true }
def FlashSureUptoSaid : Prop := flashSureUptoRow.holds Try.pinned (OpenSpec.upto flashSureSpec)

/-- 'bootjacklaw06.FlashOnce', WHERE WHAT IT READS IS OF BULK AT MOST 1048576: true; the input reads as it did. -/
def flashOnceUptoRow : OpenClaim := { program := "ytebahemgbpjldaa", sum := "787c5e260d1e3989b3f80745b660e823ef8de008ab52f9c1d7d1dd8ce8029c1b", func := "bootjack/bootjacklaw06.FlashOnce", spec := "flashOnce", apart := false, narrowed := true }
def FlashOnceUptoSaid : Prop := flashOnceUptoRow.holds Try.pinned (OpenSpec.upto flashOnceSpec)

end Rows
end Go.Proofs.Ytebahemgbpjldaa
