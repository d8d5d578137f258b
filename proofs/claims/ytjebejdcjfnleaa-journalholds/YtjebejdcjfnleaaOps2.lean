/-
  More single operations, each by itself.
-/
import Derived.Test.YtjebejdcjfnleaaDo
namespace Go.Proofs.Ytjebejdcjfnleaa
open Go.RowKit

section
variable {ρ : Operand → Value} {o : Oper}
theorem op_eql3 {x y : Operand} {a b : Int} {r : Bool} (ho : o.op = .binOp .eql 3 x y 3) (h1 : ρ x = .int .i64 a) (h2 : ρ y = .int .i64 b) (hr : (a == b) = r) (w : World) :
    (execOp ρ o).run Try.prog w = .ok (.value (.bool r)) w := by
  subst hr
  unfold execOp
  rw [ho]
  go_simp
theorem op_neq3 {x y : Operand} {a b : Int} {r : Bool} (ho : o.op = .binOp .neq 3 x y 3) (h1 : ρ x = .int .i64 a) (h2 : ρ y = .int .i64 b) (hr : (a != b) = r) (w : World) :
    (execOp ρ o).run Try.prog w = .ok (.value (.bool r)) w := by
  subst hr
  unfold execOp
  rw [ho]
  go_simp
theorem op_eql30 {x y : Operand} {a b : Int} {r : Bool} (ho : o.op = .binOp .eql 30 x y 30) (h1 : ρ x = .int .i64 a) (h2 : ρ y = .int .i64 b) (hr : (a == b) = r) (w : World) :
    (execOp ρ o).run Try.prog w = .ok (.value (.bool r)) w := by
  subst hr
  unfold execOp
  rw [ho]
  go_simp
theorem op_neq30 {x y : Operand} {a b : Int} {r : Bool} (ho : o.op = .binOp .neq 30 x y 30) (h1 : ρ x = .int .i64 a) (h2 : ρ y = .int .i64 b) (hr : (a != b) = r) (w : World) :
    (execOp ρ o).run Try.prog w = .ok (.value (.bool r)) w := by
  subst hr
  unfold execOp
  rw [ho]
  go_simp
theorem op_geq3 {x y : Operand} {a b : Int} {r : Bool} (ho : o.op = .binOp .geq 3 x y 3) (h1 : ρ x = .int .i64 a) (h2 : ρ y = .int .i64 b) (hr : decide (b ≤ a) = r) (w : World) :
    (execOp ρ o).run Try.prog w = .ok (.value (.bool r)) w := by
  subst hr
  unfold execOp
  rw [ho]
  go_simp
theorem op_lss3 {x y : Operand} {a b : Int} {r : Bool} (ho : o.op = .binOp .lss 3 x y 3) (h1 : ρ x = .int .i64 a) (h2 : ρ y = .int .i64 b) (hr : decide (a < b) = r) (w : World) :
    (execOp ρ o).run Try.prog w = .ok (.value (.bool r)) w := by
  subst hr
  unfold execOp
  rw [ho]
  go_simp
theorem op_gtr3 {x y : Operand} {a b : Int} {r : Bool} (ho : o.op = .binOp .gtr 3 x y 3) (h1 : ρ x = .int .i64 a) (h2 : ρ y = .int .i64 b) (hr : decide (b < a) = r) (w : World) :
    (execOp ρ o).run Try.prog w = .ok (.value (.bool r)) w := by
  subst hr
  unfold execOp
  rw [ho]
  go_simp
theorem op_eql75 {u v : Operand} {x y : Sec} {r : Bool} (ho : o.op = .binOp .eql 75 u v 75) (h1 : ρ u = secV x) (h2 : ρ v = secV y) (hr : (x == y) = r) (hx : x.length = 64) (hy : y.length = 64) (w : World) :
    (execOp ρ o).run Try.prog w = .ok (.value (.bool r)) w := by
  subst hr
  have he := run_equal75 x y hx hy w
  unfold secV at he h1 h2
  unfold execOp
  rw [ho]
  go_simp
theorem op_neq75 {u v : Operand} {x y : Sec} {r : Bool} (ho : o.op = .binOp .neq 75 u v 75) (h1 : ρ u = secV x) (h2 : ρ v = secV y) (hr : (!(x == y)) = r) (hx : x.length = 64) (hy : y.length = 64) (w : World) :
    (execOp ρ o).run Try.prog w = .ok (.value (.bool r)) w := by
  subst hr
  have he := run_equal75 x y hx hy w
  unfold secV at he h1 h2
  unfold execOp
  rw [ho]
  go_simp
theorem op_neq4 {u v : Operand} {x y r : Bool} (ho : o.op = .binOp .neq 4 u v 4) (h1 : ρ u = .bool x) (h2 : ρ v = .bool y) (hr : (!(x == y)) = r) (w : World) :
    (execOp ρ o).run Try.prog w = .ok (.value (.bool r)) w := by
  subst hr
  unfold execOp
  rw [ho]
  go_simp
theorem op_not {u : Operand} {x : Bool} (ho : o.op = .unOp .not 4 u) (h1 : ρ u = .bool x) (w : World) :
    (execOp ρ o).run Try.prog w = .ok (.value (.bool (!x))) w := by
  unfold execOp
  rw [ho]
  go_simp
theorem op_pickF {c x y : Operand} {v : Value} (ho : o.op = .pick c x y) (h1 : ρ c = .bool false) (h2 : ρ y = v) (w : World) :
    (execOp ρ o).run Try.prog w = .ok (.value v) w := by
  unfold execOp
  rw [ho]
  go_simp
theorem op_pickT {c x y : Operand} {v : Value} (ho : o.op = .pick c x y) (h1 : ρ c = .bool true) (h2 : ρ x = v) (w : World) :
    (execOp ρ o).run Try.prog w = .ok (.value v) w := by
  unfold execOp
  rw [ho]
  go_simp
theorem op_conv5_3 {x : Operand} {c : Nat} (ho : o.op = .convert 5 3 x) (h1 : ρ x = .int .u8 (c : Int)) (hc : c < 256) (w : World) :
    (execOp ρ o).run Try.prog w = .ok (.value (.int .i64 (c : Int))) w := by
  have h3 : ((c : Nat) : Int) < 256 := by omega
  have h4 : IntKind.i64.wrap ((c : Nat) : Int) = c := by rw [IntKind.wrap_i64]; omega
  unfold execOp
  rw [ho]
  go_simp
theorem op_len32 {x : Operand} {ad : Option Addr} {n c : Nat} (ho : o.op = .call { callee := .builtin .len, args := #[x], argTypes := #[32] }) (h1 : ρ x = .slice ad n c) (w : World) :
    (execOp ρ o).run Try.prog w = .ok (.value (.int .i64 (n : Int))) w := by
  unfold execOp
  rw [ho]
  go_simp
theorem op_len63 {x : Operand} {ad : Option Addr} {n c : Nat} (ho : o.op = .call { callee := .builtin .len, args := #[x], argTypes := #[63] }) (h1 : ρ x = .slice ad n c) (w : World) :
    (execOp ρ o).run Try.prog w = .ok (.value (.int .i64 (n : Int))) w := by
  unfold execOp
  rw [ho]
  go_simp
theorem op_len71 {x : Operand} {ad : Option Addr} {n c : Nat} (ho : o.op = .call { callee := .builtin .len, args := #[x], argTypes := #[71] }) (h1 : ρ x = .slice ad n c) (w : World) :
    (execOp ρ o).run Try.prog w = .ok (.value (.int .i64 (n : Int))) w := by
  unfold execOp
  rw [ho]
  go_simp
theorem op_call23 {x0 x1 : Operand} {v0 v1 : Value} (ho : o.op = .call { callee := .value (.func 23), args := #[x0, x1], argTypes := #[3, 3] }) (h0 : ρ x0 = v0) (h1 : ρ x1 = v1) (hf : ρ (.func 23) = .func (.func 23) #[] #[]) (w : World) :
    (execOp ρ o).run Try.prog w = .ok (.enter 23 #[v0, v1]) w := by
  unfold execOp
  rw [ho]
  go_simp
theorem op_call59 {x0 x1 : Operand} {v0 v1 : Value} (ho : o.op = .call { callee := .value (.func 59), args := #[x0, x1], argTypes := #[40, 3] }) (h0 : ρ x0 = v0) (h1 : ρ x1 = v1) (hf : ρ (.func 59) = .func (.func 59) #[] #[]) (w : World) :
    (execOp ρ o).run Try.prog w = .ok (.enter 59 #[v0, v1]) w := by
  unfold execOp
  rw [ho]
  go_simp
theorem op_call71 {x0 x1 : Operand} {v0 v1 : Value} (ho : o.op = .call { callee := .value (.func 71), args := #[x0, x1], argTypes := #[40, 3] }) (h0 : ρ x0 = v0) (h1 : ρ x1 = v1) (hf : ρ (.func 71) = .func (.func 71) #[] #[]) (w : World) :
    (execOp ρ o).run Try.prog w = .ok (.enter 71 #[v0, v1]) w := by
  unfold execOp
  rw [ho]
  go_simp
theorem op_call54 {x0 x1 x2 : Operand} {v0 v1 v2 : Value} (ho : o.op = .call { callee := .value (.func 54), args := #[x0, x1, x2], argTypes := #[40, 3, 75] }) (h0 : ρ x0 = v0) (h1 : ρ x1 = v1) (h2 : ρ x2 = v2) (hf : ρ (.func 54) = .func (.func 54) #[] #[]) (w : World) :
    (execOp ρ o).run Try.prog w = .ok (.enter 54 #[v0, v1, v2]) w := by
  unfold execOp
  rw [ho]
  go_simp
theorem op_call48 (ho : o.op = .call { callee := .value (.func 48), args := #[], argTypes := #[] }) (hf : ρ (.func 48) = .func (.func 48) #[] #[]) (w : World) :
    (execOp ρ o).run Try.prog w = .ok (.enter 48 #[]) w := by
  unfold execOp
  rw [ho]
  go_simp
theorem op_call34 {x0 : Operand} {v0 : Value} (ho : o.op = .call { callee := .value (.func 34), args := #[x0], argTypes := #[40] }) (h0 : ρ x0 = v0) (hf : ρ (.func 34) = .func (.func 34) #[] #[]) (w : World) :
    (execOp ρ o).run Try.prog w = .ok (.enter 34 #[v0]) w := by
  unfold execOp
  rw [ho]
  go_simp
theorem op_call35 {x0 x1 : Operand} {v0 v1 : Value} (ho : o.op = .call { callee := .value (.func 35), args := #[x0, x1], argTypes := #[3, 3] }) (h0 : ρ x0 = v0) (h1 : ρ x1 = v1) (hf : ρ (.func 35) = .func (.func 35) #[] #[]) (w : World) :
    (execOp ρ o).run Try.prog w = .ok (.enter 35 #[v0, v1]) w := by
  unfold execOp
  rw [ho]
  go_simp
theorem op_call36 {x0 : Operand} {v0 : Value} (ho : o.op = .call { callee := .value (.func 36), args := #[x0], argTypes := #[3] }) (h0 : ρ x0 = v0) (hf : ρ (.func 36) = .func (.func 36) #[] #[]) (w : World) :
    (execOp ρ o).run Try.prog w = .ok (.enter 36 #[v0]) w := by
  unfold execOp
  rw [ho]
  go_simp
end
end Go.Proofs.Ytjebejdcjfnleaa
