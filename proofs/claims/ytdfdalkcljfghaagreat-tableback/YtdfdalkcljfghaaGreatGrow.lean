/-
  What an operation of a drawn region yields and memory only need not lose; calls of the program's functions as operations.
-/
import Derived.Test.YtdfdalkcljfghaaGreatFOps
import Derived.Test.YtdfdalkcljfghaaGreatFlow
namespace Go.Proofs.YtdfdalkcljfghaaGreat
open Go.RowKit

section
variable {ρ : Operand → Value} {o : Oper}
theorem op_call126 {x0 x1 x2 : Operand} {v0 v1 v2 : Value} (ho : o.op = .call { callee := .value (.func 126), args := #[x0, x1, x2], argTypes := #[5, 30, 46] }) (h0 : ρ x0 = v0) (h1 : ρ x1 = v1) (h2 : ρ x2 = v2) (hf : ρ (.func 126) = .func (.func 126) #[] #[]) (w : World) : (execOp ρ o).run Tryz.prog w = .ok (.enter 126 #[v0, v1, v2]) w := by
  unfold execOp
  rw [ho]
  go_simp
theorem op_call478 {x0 x1 : Operand} {v0 v1 : Value} (ho : o.op = .call { callee := .value (.func 141), args := #[x0, x1], argTypes := #[131, 131] }) (h0 : ρ x0 = v0) (h1 : ρ x1 = v1) (hf : ρ (.func 141) = .func (.func 141) #[] #[]) (w : World) : (execOp ρ o).run Tryz.prog w = .ok (.enter 141 #[v0, v1]) w := by
  unfold execOp
  rw [ho]
  go_simp
theorem op_call125 {x0 : Operand} {v0 : Value} (ho : o.op = .call { callee := .value (.func 125), args := #[x0], argTypes := #[3] }) (h0 : ρ x0 = v0) (hf : ρ (.func 125) = .func (.func 125) #[] #[]) (w : World) : (execOp ρ o).run Tryz.prog w = .ok (.enter 125 #[v0]) w := by
  unfold execOp
  rw [ho]
  go_simp
end
/-- What is yielded that memory only need not lose. -/
def Grows (p : Value → Unit → World → Prop) : Prop := ∀ v w w', Below w.heap.size w w' → p v () w → p v () w'
/-- Values, and a few things of which something is said. -/
def VG (f : Nat → Value) (g : List (Nat × (Value → Unit → World → Prop))) : Nat → Value → Unit → World → Prop := fun j v s w => match g.lookup j with | some p => p v s w | none => v = f j
theorem VG.grow {f : Nat → Value} {g : List (Nat × (Value → Unit → World → Prop))} (hg : ∀ y ∈ g, Grows y.2) {L : Nat → Bool} {w w' : World} (hb : Below w.heap.size w w') : ∀ j u, L j = true → VG f g j u () w → VG f g j u () w' := fun j u _ h => by
  unfold VG at h ⊢
  cases e : g.lookup j with
  | none => rw [e] at h; exact h
  | some p =>
    rw [e] at h
    have hm : ∃ y ∈ g, y.2 = p := by
      clear h
      induction g with
      | nil => cases e
      | cons y g ih =>
        obtain ⟨a, q⟩ := y
        rw [List.lookup_cons] at e
        split at e
        · cases e
          exact ⟨_, List.mem_cons_self .., rfl⟩
        · obtain ⟨y, hy, e⟩ := ih (fun y hy => hg y (List.mem_cons_of_mem _ hy)) e
          exact ⟨y, List.mem_cons_of_mem _ hy, e⟩
    obtain ⟨y, hy, rfl⟩ := hm
    exact hg y hy _ _ _ hb h
def SecsAt (B : Nat) (l : List Sec) (v : Value) (_ : Unit) (w : World) : Prop := SOwn B w v l
theorem SecsAt.grows (B : Nat) (l : List Sec) : Grows (SecsAt B l) := fun _ _ _ hb h => SOwn.keepB h hb
def Sees (l : List UInt8) (v : Value) (_ : Unit) (w : World) : Prop := RowV w.heap.size w v l
theorem Sees.grows (l : List UInt8) : Grows (Sees l) := fun _ _ _ hb h => (RowV.below h hb).up hb.size
end Go.Proofs.YtdfdalkcljfghaaGreat
