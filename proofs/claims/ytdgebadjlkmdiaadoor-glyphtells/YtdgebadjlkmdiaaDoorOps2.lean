/-
  More single operations, each by itself.
-/
import Derived.Test.YtdgebadjlkmdiaaDoorOps
namespace Go.Proofs.YtdgebadjlkmdiaaDoor
open Go.RowKit

section
variable {ρ : Operand → Value} {o : Oper}
theorem op_field0 {x : Operand} {g : Nat} (ho : o.op = .fieldAddr 40 x 0) (h1 : ρ x = .pointer (some ⟨g, 0, none⟩)) (w : World) :
    (execOp ρ o).run Tryd.prog w = .ok (.value (.pointer (some ⟨g, 0, none⟩))) w := by
  unfold execOp
  rw [ho]
  go_simp
theorem op_load3 {x : Operand} {g : Nat} {k : Int} {w : World} (ho : o.op = .load 3 x) (h1 : ρ x = .pointer (some ⟨g, 0, none⟩)) (hc : w.cell? ⟨g, 0, none⟩ = some (.int .i64 k)) :
    (execOp ρ o).run Tryd.prog w = .ok (.value (.int .i64 k)) w := by
  unfold execOp
  rw [ho]
  go_simp
theorem op_quo3 {x y : Operand} {a c : Int} (ho : o.op = .binOp .quo 3 x y 3) (h1 : ρ x = .int .i64 a) (h2 : ρ y = .int .i64 16) (ha : 0 ≤ a) (hr : a / 16 = c) (hb : a ≤ 9223372036854775807) (w : World) :
    (execOp ρ o).run Tryd.prog w = .ok (.value (.int .i64 c)) w := by
  subst hr
  have e1 : a.tdiv 16 = a / 16 := Int.tdiv_eq_ediv_of_nonneg ha
  have e2 : IntKind.i64.wrap (a / 16) = a / 16 := by rw [IntKind.wrap_i64]; omega
  unfold execOp
  rw [ho]
  go_simp
theorem op_rem3 {x y : Operand} {a c : Int} (ho : o.op = .binOp .rem 3 x y 3) (h1 : ρ x = .int .i64 a) (h2 : ρ y = .int .i64 16) (ha : 0 ≤ a) (hr : a % 16 = c) (_hb : a ≤ 9223372036854775807) (w : World) :
    (execOp ρ o).run Tryd.prog w = .ok (.value (.int .i64 c)) w := by
  subst hr
  have e1 : a.tmod 16 = a % 16 := Int.tmod_eq_emod_of_nonneg ha
  have e2 : IntKind.i64.wrap (a % 16) = a % 16 := by rw [IntKind.wrap_i64]; omega
  unfold execOp
  rw [ho]
  go_simp
theorem op_call31 {x : Operand} {v : Value} (ho : o.op = .call { callee := .value (.func 31), args := #[x], argTypes := #[3] }) (h1 : ρ x = v) (hf : ρ (.func 31) = .func (.func 31) #[] #[]) (w : World) :
    (execOp ρ o).run Tryd.prog w = .ok (.enter 31 #[v]) w := by
  unfold execOp
  rw [ho]
  go_simp
end
end Go.Proofs.YtdgebadjlkmdiaaDoor
