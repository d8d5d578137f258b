/-
  Single operations of a journal, each by itself.
-/
import Derived.Test.YtdfdalkcljfghaaGreatCopy
import Derived.Test.YtdfdalkcljfghaaGreatMNew
import Derived.Test.YtdfdalkcljfghaaGreatGet
namespace Go.Proofs.YtdfdalkcljfghaaGreat
open Go.RowKit
section
variable {ρ : Operand → Value} {o : Oper}
theorem op_f165_0 {x : Operand} {g : Nat} (ho : o.op = .fieldAddr 165 x 0) (h1 : ρ x = .pointer (some ⟨g, 0, none⟩)) (w : World) :
    (execOp ρ o).run Tryz.prog w = .ok (.value (.pointer (some ⟨g, 0, none⟩))) w := by
  unfold execOp
  rw [ho]
  go_simp
theorem op_f165_1 {x : Operand} {g : Nat} (ho : o.op = .fieldAddr 165 x 1) (h1 : ρ x = .pointer (some ⟨g, 0, none⟩)) (w : World) :
    (execOp ρ o).run Tryz.prog w = .ok (.value (.pointer (some ⟨g, 1, none⟩))) w := by
  unfold execOp
  rw [ho]
  go_simp
theorem op_f165_2 {x : Operand} {g : Nat} (ho : o.op = .fieldAddr 165 x 2) (h1 : ρ x = .pointer (some ⟨g, 0, none⟩)) (w : World) :
    (execOp ρ o).run Tryz.prog w = .ok (.value (.pointer (some ⟨g, 3, none⟩))) w := by
  unfold execOp
  rw [ho]
  go_simp
theorem op_f165_3 {x : Operand} {g : Nat} (ho : o.op = .fieldAddr 165 x 3) (h1 : ρ x = .pointer (some ⟨g, 0, none⟩)) (w : World) :
    (execOp ρ o).run Tryz.prog w = .ok (.value (.pointer (some ⟨g, 4, none⟩))) w := by
  unfold execOp
  rw [ho]
  go_simp
theorem op_f165_4 {x : Operand} {g : Nat} (ho : o.op = .fieldAddr 165 x 4) (h1 : ρ x = .pointer (some ⟨g, 0, none⟩)) (w : World) :
    (execOp ρ o).run Tryz.prog w = .ok (.value (.pointer (some ⟨g, 5, none⟩))) w := by
  unfold execOp
  rw [ho]
  go_simp
theorem op_f165_5 {x : Operand} {g : Nat} (ho : o.op = .fieldAddr 165 x 5) (h1 : ρ x = .pointer (some ⟨g, 0, none⟩)) (w : World) :
    (execOp ρ o).run Tryz.prog w = .ok (.value (.pointer (some ⟨g, 6, none⟩))) w := by
  unfold execOp
  rw [ho]
  go_simp
theorem op_f162_0 {x : Operand} {g : Nat} (ho : o.op = .fieldAddr 162 x 0) (h1 : ρ x = .pointer (some ⟨g, 0, none⟩)) (w : World) :
    (execOp ρ o).run Tryz.prog w = .ok (.value (.pointer (some ⟨g, 0, none⟩))) w := by
  unfold execOp
  rw [ho]
  go_simp
theorem op_f162_1 {x : Operand} {g : Nat} (ho : o.op = .fieldAddr 162 x 1) (h1 : ρ x = .pointer (some ⟨g, 0, none⟩)) (w : World) :
    (execOp ρ o).run Tryz.prog w = .ok (.value (.pointer (some ⟨g, 1, none⟩))) w := by
  unfold execOp
  rw [ho]
  go_simp
theorem op_f162_2 {x : Operand} {g : Nat} (ho : o.op = .fieldAddr 162 x 2) (h1 : ρ x = .pointer (some ⟨g, 0, none⟩)) (w : World) :
    (execOp ρ o).run Tryz.prog w = .ok (.value (.pointer (some ⟨g, 2, none⟩))) w := by
  unfold execOp
  rw [ho]
  go_simp
theorem op_load27 {x : Operand} {g k : Nat} {v : Value} {w : World} (ho : o.op = .load 27 x) (h1 : ρ x = .pointer (some ⟨g, k, none⟩)) (hc : w.cell? ⟨g, k, none⟩ = some v) :
    (execOp ρ o).run Tryz.prog w = .ok (.value v) w := by
  unfold execOp
  rw [ho]
  go_simp
theorem op_load30 {x : Operand} {g k : Nat} {v : Value} {w : World} (ho : o.op = .load 30 x) (h1 : ρ x = .pointer (some ⟨g, k, none⟩)) (hc : w.cell? ⟨g, k, none⟩ = some v) :
    (execOp ρ o).run Tryz.prog w = .ok (.value v) w := by
  unfold execOp
  rw [ho]
  go_simp
theorem op_load94 {x : Operand} {g k : Nat} {v : Value} {w : World} (ho : o.op = .load 94 x) (h1 : ρ x = .pointer (some ⟨g, k, none⟩)) (hc : w.cell? ⟨g, k, none⟩ = some v) :
    (execOp ρ o).run Tryz.prog w = .ok (.value v) w := by
  unfold execOp
  rw [ho]
  go_simp
theorem op_load138 {x : Operand} {g k : Nat} {v : Value} {w : World} (ho : o.op = .load 138 x) (h1 : ρ x = .pointer (some ⟨g, k, none⟩)) (hc : w.cell? ⟨g, k, none⟩ = some v) :
    (execOp ρ o).run Tryz.prog w = .ok (.value v) w := by
  unfold execOp
  rw [ho]
  go_simp
theorem op_call108 {x0 x1 : Operand} {v0 v1 : Value} (ho : o.op = .call { callee := .value (.func 108), args := #[x0, x1], argTypes := #[93, 3] }) (h0 : ρ x0 = v0) (h1 : ρ x1 = v1) (hf : ρ (.func 108) = .func (.func 108) #[] #[]) (w : World) : (execOp ρ o).run Tryz.prog w = .ok (.enter 108 #[v0, v1]) w := by
  unfold execOp
  rw [ho]
  go_simp
theorem op_call148 {x0 x1 : Operand} {v0 v1 : Value} (ho : o.op = .call { callee := .value (.func 148), args := #[x0, x1], argTypes := #[27, 3] }) (h0 : ρ x0 = v0) (h1 : ρ x1 = v1) (hf : ρ (.func 148) = .func (.func 148) #[] #[]) (w : World) : (execOp ρ o).run Tryz.prog w = .ok (.enter 148 #[v0, v1]) w := by
  unfold execOp
  rw [ho]
  go_simp
theorem op_call78 {x0 x1 : Operand} {v0 v1 : Value} (ho : o.op = .call { callee := .value (.func 78), args := #[x0, x1], argTypes := #[27, 3] }) (h0 : ρ x0 = v0) (h1 : ρ x1 = v1) (hf : ρ (.func 78) = .func (.func 78) #[] #[]) (w : World) : (execOp ρ o).run Tryz.prog w = .ok (.enter 78 #[v0, v1]) w := by
  unfold execOp
  rw [ho]
  go_simp
theorem op_call146 {x0 x1 x2 x3 : Operand} {v0 v1 v2 v3 : Value} (ho : o.op = .call { callee := .value (.func 146), args := #[x0, x1, x2, x3], argTypes := #[27, 3, 3, 136] }) (h0 : ρ x0 = v0) (h1 : ρ x1 = v1) (h2 : ρ x2 = v2) (h3 : ρ x3 = v3) (hf : ρ (.func 146) = .func (.func 146) #[] #[]) (w : World) : (execOp ρ o).run Tryz.prog w = .ok (.enter 146 #[v0, v1, v2, v3]) w := by
  unfold execOp
  rw [ho]
  go_simp
theorem op_call127 {x0 x1 x2 x3 : Operand} {v0 v1 v2 v3 : Value} (ho : o.op = .call { callee := .value (.func 127), args := #[x0, x1, x2, x3], argTypes := #[93, 3, 3, 131] }) (h0 : ρ x0 = v0) (h1 : ρ x1 = v1) (h2 : ρ x2 = v2) (h3 : ρ x3 = v3) (hf : ρ (.func 127) = .func (.func 127) #[] #[]) (w : World) : (execOp ρ o).run Tryz.prog w = .ok (.enter 127 #[v0, v1, v2, v3]) w := by
  unfold execOp
  rw [ho]
  go_simp
theorem op_call31 {x0 : Operand} {v0 : Value} (ho : o.op = .call { callee := .value (.func 31), args := #[x0], argTypes := #[27] }) (h0 : ρ x0 = v0) (hf : ρ (.func 31) = .func (.func 31) #[] #[]) (w : World) : (execOp ρ o).run Tryz.prog w = .ok (.enter 31 #[v0]) w := by
  unfold execOp
  rw [ho]
  go_simp
theorem op_call32 {x0 x1 : Operand} {v0 v1 : Value} (ho : o.op = .call { callee := .value (.func 32), args := #[x0, x1], argTypes := #[73, 3] }) (h0 : ρ x0 = v0) (h1 : ρ x1 = v1) (hf : ρ (.func 32) = .func (.func 32) #[] #[]) (w : World) : (execOp ρ o).run Tryz.prog w = .ok (.enter 32 #[v0, v1]) w := by
  unfold execOp
  rw [ho]
  go_simp
theorem op_call34 {x0 x1 : Operand} {v0 v1 : Value} (ho : o.op = .call { callee := .value (.func 34), args := #[x0, x1], argTypes := #[73, 46] }) (h0 : ρ x0 = v0) (h1 : ρ x1 = v1) (hf : ρ (.func 34) = .func (.func 34) #[] #[]) (w : World) : (execOp ρ o).run Tryz.prog w = .ok (.enter 34 #[v0, v1]) w := by
  unfold execOp
  rw [ho]
  go_simp
theorem op_call47 {x0 x1 : Operand} {v0 v1 : Value} (ho : o.op = .call { callee := .value (.func 47), args := #[x0, x1], argTypes := #[73, 63] }) (h0 : ρ x0 = v0) (h1 : ρ x1 = v1) (hf : ρ (.func 47) = .func (.func 47) #[] #[]) (w : World) : (execOp ρ o).run Tryz.prog w = .ok (.enter 47 #[v0, v1]) w := by
  unfold execOp
  rw [ho]
  go_simp
theorem op_call44 {x0 x1 x2 : Operand} {v0 v1 v2 : Value} (ho : o.op = .call { callee := .value (.func 44), args := #[x0, x1, x2], argTypes := #[27, 3, 3] }) (h0 : ρ x0 = v0) (h1 : ρ x1 = v1) (h2 : ρ x2 = v2) (hf : ρ (.func 44) = .func (.func 44) #[] #[]) (w : World) : (execOp ρ o).run Tryz.prog w = .ok (.enter 44 #[v0, v1, v2]) w := by
  unfold execOp
  rw [ho]
  go_simp
end
end Go.Proofs.YtdfdalkcljfghaaGreat
