/-
  What an operation of a drawn region yields and memory only need not lose; calls of the program's functions as operations.
-/
import Derived.Test.YtjebejdcjfnleaaFOps
import Derived.Test.YtjebejdcjfnleaaFlow
namespace Go.Proofs.Ytjebejdcjfnleaa
open Go.RowKit

section
variable {ρ : Operand → Value} {o : Oper}
theorem op_call25 {x0 x1 x2 : Operand} {v0 v1 v2 : Value} (ho : o.op = .call { callee := .value (.func 25), args := #[x0, x1, x2], argTypes := #[5, 37, 32] }) (h0 : ρ x0 = v0) (h1 : ρ x1 = v1) (h2 : ρ x2 = v2) (hf : ρ (.func 25) = .func (.func 25) #[] #[]) (w : World) : (execOp ρ o).run Try.prog w = .ok (.enter 25 #[v0, v1, v2]) w := by
  unfold execOp
  rw [ho]
  go_simp
theorem op_call478 {x0 x1 : Operand} {v0 v1 : Value} (ho : o.op = .call { callee := .value (.func 47), args := #[x0, x1], argTypes := #[63, 63] }) (h0 : ρ x0 = v0) (h1 : ρ x1 = v1) (hf : ρ (.func 47) = .func (.func 47) #[] #[]) (w : World) : (execOp ρ o).run Try.prog w = .ok (.enter 47 #[v0, v1]) w := by
  unfold execOp
  rw [ho]
  go_simp
theorem op_call24 {x0 : Operand} {v0 : Value} (ho : o.op = .call { callee := .value (.func 24), args := #[x0], argTypes := #[3] }) (h0 : ρ x0 = v0) (hf : ρ (.func 24) = .func (.func 24) #[] #[]) (w : World) : (execOp ρ o).run Try.prog w = .ok (.enter 24 #[v0]) w := by
  unfold execOp
  rw [ho]
  go_simp
end
/-- What is yielded that memory only need not lose. -/
def Grows (p : Value → Unit → World → Prop) : Prop := ∀ v w w', Below w.heap.size w w' → p v () w → p v () w'
/-- Values, and a few things of which something is said. -/
def VG (f : Nat → Value) (g : List (Nat × (Value → Unit → World → Prop))) : Nat → Value → Unit → World → Prop := fun j v s w => match g.lookup j with | some p => p v s w | none => v = f j
theorem VG.grow {f : Nat → Value} {g : List (Nat × (Value → Unit → World → Prop))} (hg : ∀ y ∈ g, Grows y.2) {L : Nat → Bool} {w w' : World} (hb : Below w.heap.size w w') : ∀ j u, L j = true → VG f g j u () w → VG f g j u () w' := fun j u _ h => by
  unfold VG at h ⊢
  cases e : g.lookup j with
  | none => rw [e] at h; exact h
  | some p =>
    rw [e] at h
    have hm : ∃ y ∈ g, y.2 = p := by
      clear h
      induction g with
      | nil => cases e
      | cons y g ih =>
        obtain ⟨a, q⟩ := y
        rw [List.lookup_cons] at e
        split at e
        · cases e
          exact ⟨_, List.mem_cons_self .., rfl⟩
        · obtain ⟨y, hy, e⟩ := ih (fun y hy => hg y (List.mem_cons_of_mem _ hy)) e
          exact ⟨y, List.mem_cons_of_mem _ hy, e⟩
    obtain ⟨y, hy, rfl⟩ := hm
    exact hg y hy _ _ _ hb h
def SecsAt (B : Nat) (l : List Sec) (v : Value) (_ : Unit) (w : World) : Prop := SOwn B w v l
theorem SecsAt.grows (B : Nat) (l : List Sec) : Grows (SecsAt B l) := fun _ _ _ hb h => SOwn.keepB h hb
def Sees (l : List UInt8) (v : Value) (_ : Unit) (w : World) : Prop := RowV w.heap.size w v l
theorem Sees.grows (l : List UInt8) : Grows (Sees l) := fun _ _ _ hb h => (RowV.below h hb).up hb.size
end Go.Proofs.Ytjebejdcjfnleaa
