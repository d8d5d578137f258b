/-
  Single operations of a journal, each by itself.
-/
import Derived.Test.YtjebejdcjfnleaaCopy
import Derived.Test.YtjebejdcjfnleaaMNew
import Derived.Test.YtjebejdcjfnleaaGet
namespace Go.Proofs.Ytjebejdcjfnleaa
open Go.RowKit
section
variable {ρ : Operand → Value} {o : Oper}
theorem op_f57_0 {x : Operand} {g : Nat} (ho : o.op = .fieldAddr 57 x 0) (h1 : ρ x = .pointer (some ⟨g, 0, none⟩)) (w : World) :
    (execOp ρ o).run Try.prog w = .ok (.value (.pointer (some ⟨g, 0, none⟩))) w := by
  unfold execOp
  rw [ho]
  go_simp
theorem op_f57_1 {x : Operand} {g : Nat} (ho : o.op = .fieldAddr 57 x 1) (h1 : ρ x = .pointer (some ⟨g, 0, none⟩)) (w : World) :
    (execOp ρ o).run Try.prog w = .ok (.value (.pointer (some ⟨g, 1, none⟩))) w := by
  unfold execOp
  rw [ho]
  go_simp
theorem op_f57_2 {x : Operand} {g : Nat} (ho : o.op = .fieldAddr 57 x 2) (h1 : ρ x = .pointer (some ⟨g, 0, none⟩)) (w : World) :
    (execOp ρ o).run Try.prog w = .ok (.value (.pointer (some ⟨g, 3, none⟩))) w := by
  unfold execOp
  rw [ho]
  go_simp
theorem op_f57_3 {x : Operand} {g : Nat} (ho : o.op = .fieldAddr 57 x 3) (h1 : ρ x = .pointer (some ⟨g, 0, none⟩)) (w : World) :
    (execOp ρ o).run Try.prog w = .ok (.value (.pointer (some ⟨g, 4, none⟩))) w := by
  unfold execOp
  rw [ho]
  go_simp
theorem op_f57_4 {x : Operand} {g : Nat} (ho : o.op = .fieldAddr 57 x 4) (h1 : ρ x = .pointer (some ⟨g, 0, none⟩)) (w : World) :
    (execOp ρ o).run Try.prog w = .ok (.value (.pointer (some ⟨g, 5, none⟩))) w := by
  unfold execOp
  rw [ho]
  go_simp
theorem op_f57_5 {x : Operand} {g : Nat} (ho : o.op = .fieldAddr 57 x 5) (h1 : ρ x = .pointer (some ⟨g, 0, none⟩)) (w : World) :
    (execOp ρ o).run Try.prog w = .ok (.value (.pointer (some ⟨g, 6, none⟩))) w := by
  unfold execOp
  rw [ho]
  go_simp
theorem op_f54_0 {x : Operand} {g : Nat} (ho : o.op = .fieldAddr 54 x 0) (h1 : ρ x = .pointer (some ⟨g, 0, none⟩)) (w : World) :
    (execOp ρ o).run Try.prog w = .ok (.value (.pointer (some ⟨g, 0, none⟩))) w := by
  unfold execOp
  rw [ho]
  go_simp
theorem op_f54_1 {x : Operand} {g : Nat} (ho : o.op = .fieldAddr 54 x 1) (h1 : ρ x = .pointer (some ⟨g, 0, none⟩)) (w : World) :
    (execOp ρ o).run Try.prog w = .ok (.value (.pointer (some ⟨g, 1, none⟩))) w := by
  unfold execOp
  rw [ho]
  go_simp
theorem op_f54_2 {x : Operand} {g : Nat} (ho : o.op = .fieldAddr 54 x 2) (h1 : ρ x = .pointer (some ⟨g, 0, none⟩)) (w : World) :
    (execOp ρ o).run Try.prog w = .ok (.value (.pointer (some ⟨g, 2, none⟩))) w := by
  unfold execOp
  rw [ho]
  go_simp
theorem op_f39_0 {x : Operand} {g : Nat} (ho : o.op = .fieldAddr 39 x 0) (h1 : ρ x = .pointer (some ⟨g, 0, none⟩)) (w : World) :
    (execOp ρ o).run Try.prog w = .ok (.value (.pointer (some ⟨g, 0, none⟩))) w := by
  unfold execOp
  rw [ho]
  go_simp
theorem op_f39_1 {x : Operand} {g : Nat} (ho : o.op = .fieldAddr 39 x 1) (h1 : ρ x = .pointer (some ⟨g, 0, none⟩)) (w : World) :
    (execOp ρ o).run Try.prog w = .ok (.value (.pointer (some ⟨g, 1, none⟩))) w := by
  unfold execOp
  rw [ho]
  go_simp
theorem op_f39_2 {x : Operand} {g : Nat} (ho : o.op = .fieldAddr 39 x 2) (h1 : ρ x = .pointer (some ⟨g, 0, none⟩)) (w : World) :
    (execOp ρ o).run Try.prog w = .ok (.value (.pointer (some ⟨g, 2, none⟩))) w := by
  unfold execOp
  rw [ho]
  go_simp
theorem op_f39_3 {x : Operand} {g : Nat} (ho : o.op = .fieldAddr 39 x 3) (h1 : ρ x = .pointer (some ⟨g, 0, none⟩)) (w : World) :
    (execOp ρ o).run Try.prog w = .ok (.value (.pointer (some ⟨g, 3, none⟩))) w := by
  unfold execOp
  rw [ho]
  go_simp
theorem op_f39_4 {x : Operand} {g : Nat} (ho : o.op = .fieldAddr 39 x 4) (h1 : ρ x = .pointer (some ⟨g, 0, none⟩)) (w : World) :
    (execOp ρ o).run Try.prog w = .ok (.value (.pointer (some ⟨g, 4, none⟩))) w := by
  unfold execOp
  rw [ho]
  go_simp
theorem op_f39_5 {x : Operand} {g : Nat} (ho : o.op = .fieldAddr 39 x 5) (h1 : ρ x = .pointer (some ⟨g, 0, none⟩)) (w : World) :
    (execOp ρ o).run Try.prog w = .ok (.value (.pointer (some ⟨g, 5, none⟩))) w := by
  unfold execOp
  rw [ho]
  go_simp
theorem op_load27 {x : Operand} {g k : Nat} {v : Value} {w : World} (ho : o.op = .load 27 x) (h1 : ρ x = .pointer (some ⟨g, k, none⟩)) (hc : w.cell? ⟨g, k, none⟩ = some v) :
    (execOp ρ o).run Try.prog w = .ok (.value v) w := by
  unfold execOp
  rw [ho]
  go_simp
theorem op_load37 {x : Operand} {g k : Nat} {v : Value} {w : World} (ho : o.op = .load 37 x) (h1 : ρ x = .pointer (some ⟨g, k, none⟩)) (hc : w.cell? ⟨g, k, none⟩ = some v) :
    (execOp ρ o).run Try.prog w = .ok (.value v) w := by
  unfold execOp
  rw [ho]
  go_simp
theorem op_load24 {x : Operand} {g k : Nat} {v : Value} {w : World} (ho : o.op = .load 24 x) (h1 : ρ x = .pointer (some ⟨g, k, none⟩)) (hc : w.cell? ⟨g, k, none⟩ = some v) :
    (execOp ρ o).run Try.prog w = .ok (.value v) w := by
  unfold execOp
  rw [ho]
  go_simp
theorem op_load35 {x : Operand} {g k : Nat} {v : Value} {w : World} (ho : o.op = .load 35 x) (h1 : ρ x = .pointer (some ⟨g, k, none⟩)) (hc : w.cell? ⟨g, k, none⟩ = some v) :
    (execOp ρ o).run Try.prog w = .ok (.value v) w := by
  unfold execOp
  rw [ho]
  go_simp
theorem op_call29 {x0 x1 : Operand} {v0 v1 : Value} (ho : o.op = .call { callee := .value (.func 29), args := #[x0, x1], argTypes := #[23, 3] }) (h0 : ρ x0 = v0) (h1 : ρ x1 = v1) (hf : ρ (.func 29) = .func (.func 29) #[] #[]) (w : World) : (execOp ρ o).run Try.prog w = .ok (.enter 29 #[v0, v1]) w := by
  unfold execOp
  rw [ho]
  go_simp
theorem op_call41 {x0 x1 : Operand} {v0 v1 : Value} (ho : o.op = .call { callee := .value (.func 41), args := #[x0, x1], argTypes := #[27, 3] }) (h0 : ρ x0 = v0) (h1 : ρ x1 = v1) (hf : ρ (.func 41) = .func (.func 41) #[] #[]) (w : World) : (execOp ρ o).run Try.prog w = .ok (.enter 41 #[v0, v1]) w := by
  unfold execOp
  rw [ho]
  go_simp
theorem op_call42 {x0 x1 : Operand} {v0 v1 : Value} (ho : o.op = .call { callee := .value (.func 42), args := #[x0, x1], argTypes := #[27, 3] }) (h0 : ρ x0 = v0) (h1 : ρ x1 = v1) (hf : ρ (.func 42) = .func (.func 42) #[] #[]) (w : World) : (execOp ρ o).run Try.prog w = .ok (.enter 42 #[v0, v1]) w := by
  unfold execOp
  rw [ho]
  go_simp
theorem op_call39 {x0 x1 x2 x3 : Operand} {v0 v1 v2 v3 : Value} (ho : o.op = .call { callee := .value (.func 39), args := #[x0, x1, x2, x3], argTypes := #[27, 3, 3, 75] }) (h0 : ρ x0 = v0) (h1 : ρ x1 = v1) (h2 : ρ x2 = v2) (h3 : ρ x3 = v3) (hf : ρ (.func 39) = .func (.func 39) #[] #[]) (w : World) : (execOp ρ o).run Try.prog w = .ok (.enter 39 #[v0, v1, v2, v3]) w := by
  unfold execOp
  rw [ho]
  go_simp
theorem op_call26 {x0 x1 x2 x3 : Operand} {v0 v1 v2 v3 : Value} (ho : o.op = .call { callee := .value (.func 26), args := #[x0, x1, x2, x3], argTypes := #[23, 3, 3, 63] }) (h0 : ρ x0 = v0) (h1 : ρ x1 = v1) (h2 : ρ x2 = v2) (h3 : ρ x3 = v3) (hf : ρ (.func 26) = .func (.func 26) #[] #[]) (w : World) : (execOp ρ o).run Try.prog w = .ok (.enter 26 #[v0, v1, v2, v3]) w := by
  unfold execOp
  rw [ho]
  go_simp
theorem op_call12 {x0 : Operand} {v0 : Value} (ho : o.op = .call { callee := .value (.func 12), args := #[x0], argTypes := #[27] }) (h0 : ρ x0 = v0) (hf : ρ (.func 12) = .func (.func 12) #[] #[]) (w : World) : (execOp ρ o).run Try.prog w = .ok (.enter 12 #[v0]) w := by
  unfold execOp
  rw [ho]
  go_simp
theorem op_call13 {x0 x1 : Operand} {v0 v1 : Value} (ho : o.op = .call { callee := .value (.func 13), args := #[x0, x1], argTypes := #[40, 3] }) (h0 : ρ x0 = v0) (h1 : ρ x1 = v1) (hf : ρ (.func 13) = .func (.func 13) #[] #[]) (w : World) : (execOp ρ o).run Try.prog w = .ok (.enter 13 #[v0, v1]) w := by
  unfold execOp
  rw [ho]
  go_simp
theorem op_call14 {x0 x1 : Operand} {v0 v1 : Value} (ho : o.op = .call { callee := .value (.func 14), args := #[x0, x1], argTypes := #[40, 32] }) (h0 : ρ x0 = v0) (h1 : ρ x1 = v1) (hf : ρ (.func 14) = .func (.func 14) #[] #[]) (w : World) : (execOp ρ o).run Try.prog w = .ok (.enter 14 #[v0, v1]) w := by
  unfold execOp
  rw [ho]
  go_simp
theorem op_call22 {x0 x1 : Operand} {v0 v1 : Value} (ho : o.op = .call { callee := .value (.func 22), args := #[x0, x1], argTypes := #[40, 68] }) (h0 : ρ x0 = v0) (h1 : ρ x1 = v1) (hf : ρ (.func 22) = .func (.func 22) #[] #[]) (w : World) : (execOp ρ o).run Try.prog w = .ok (.enter 22 #[v0, v1]) w := by
  unfold execOp
  rw [ho]
  go_simp
theorem op_call7 {x0 x1 x2 : Operand} {v0 v1 v2 : Value} (ho : o.op = .call { callee := .value (.func 7), args := #[x0, x1, x2], argTypes := #[27, 3, 3] }) (h0 : ρ x0 = v0) (h1 : ρ x1 = v1) (h2 : ρ x2 = v2) (hf : ρ (.func 7) = .func (.func 7) #[] #[]) (w : World) : (execOp ρ o).run Try.prog w = .ok (.enter 7 #[v0, v1, v2]) w := by
  unfold execOp
  rw [ho]
  go_simp
end
end Go.Proofs.Ytjebejdcjfnleaa
