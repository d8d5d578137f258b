/-
  More single operations, each by itself.
-/
import Derived.Test.YtlgknllcnkainaaDo
namespace Go.Proofs.Ytlgknllcnkainaa
open Go.RowKit

section
variable {ρ : Operand → Value} {o : Oper}
theorem op_eql3 {x y : Operand} {a b : Int} {r : Bool} (ho : o.op = .binOp .eql 3 x y 3) (h1 : ρ x = .int .i64 a) (h2 : ρ y = .int .i64 b) (hr : (a == b) = r) (w : World) :
    (execOp ρ o).run Try.prog w = .ok (.value (.bool r)) w := by
  subst hr
  unfold execOp
  rw [ho]
  go_simp
theorem op_neq3 {x y : Operand} {a b : Int} {r : Bool} (ho : o.op = .binOp .neq 3 x y 3) (h1 : ρ x = .int .i64 a) (h2 : ρ y = .int .i64 b) (hr : (a != b) = r) (w : World) :
    (execOp ρ o).run Try.prog w = .ok (.value (.bool r)) w := by
  subst hr
  unfold execOp
  rw [ho]
  go_simp
theorem op_eql26 {x y : Operand} {a b : Int} {r : Bool} (ho : o.op = .binOp .eql 26 x y 26) (h1 : ρ x = .int .i64 a) (h2 : ρ y = .int .i64 b) (hr : (a == b) = r) (w : World) :
    (execOp ρ o).run Try.prog w = .ok (.value (.bool r)) w := by
  subst hr
  unfold execOp
  rw [ho]
  go_simp
theorem op_neq26 {x y : Operand} {a b : Int} {r : Bool} (ho : o.op = .binOp .neq 26 x y 26) (h1 : ρ x = .int .i64 a) (h2 : ρ y = .int .i64 b) (hr : (a != b) = r) (w : World) :
    (execOp ρ o).run Try.prog w = .ok (.value (.bool r)) w := by
  subst hr
  unfold execOp
  rw [ho]
  go_simp
theorem op_geq3 {x y : Operand} {a b : Int} {r : Bool} (ho : o.op = .binOp .geq 3 x y 3) (h1 : ρ x = .int .i64 a) (h2 : ρ y = .int .i64 b) (hr : decide (b ≤ a) = r) (w : World) :
    (execOp ρ o).run Try.prog w = .ok (.value (.bool r)) w := by
  subst hr
  unfold execOp
  rw [ho]
  go_simp
theorem op_lss3 {x y : Operand} {a b : Int} {r : Bool} (ho : o.op = .binOp .lss 3 x y 3) (h1 : ρ x = .int .i64 a) (h2 : ρ y = .int .i64 b) (hr : decide (a < b) = r) (w : World) :
    (execOp ρ o).run Try.prog w = .ok (.value (.bool r)) w := by
  subst hr
  unfold execOp
  rw [ho]
  go_simp
theorem op_gtr3 {x y : Operand} {a b : Int} {r : Bool} (ho : o.op = .binOp .gtr 3 x y 3) (h1 : ρ x = .int .i64 a) (h2 : ρ y = .int .i64 b) (hr : decide (b < a) = r) (w : World) :
    (execOp ρ o).run Try.prog w = .ok (.value (.bool r)) w := by
  subst hr
  unfold execOp
  rw [ho]
  go_simp
theorem op_eql30 {u v : Operand} {x y : Sec} {r : Bool} (ho : o.op = .binOp .eql 30 u v 30) (h1 : ρ u = secV x) (h2 : ρ v = secV y) (hr : (x == y) = r) (hx : x.length = 64) (hy : y.length = 64) (w : World) :
    (execOp ρ o).run Try.prog w = .ok (.value (.bool r)) w := by
  subst hr
  have he := run_equal30 x y hx hy w
  unfold secV at he h1 h2
  unfold execOp
  rw [ho]
  go_simp
theorem op_neq30 {u v : Operand} {x y : Sec} {r : Bool} (ho : o.op = .binOp .neq 30 u v 30) (h1 : ρ u = secV x) (h2 : ρ v = secV y) (hr : (!(x == y)) = r) (hx : x.length = 64) (hy : y.length = 64) (w : World) :
    (execOp ρ o).run Try.prog w = .ok (.value (.bool r)) w := by
  subst hr
  have he := run_equal30 x y hx hy w
  unfold secV at he h1 h2
  unfold execOp
  rw [ho]
  go_simp
theorem op_neq4 {u v : Operand} {x y r : Bool} (ho : o.op = .binOp .neq 4 u v 4) (h1 : ρ u = .bool x) (h2 : ρ v = .bool y) (hr : (!(x == y)) = r) (w : World) :
    (execOp ρ o).run Try.prog w = .ok (.value (.bool r)) w := by
  subst hr
  unfold execOp
  rw [ho]
  go_simp
theorem op_not {u : Operand} {x : Bool} (ho : o.op = .unOp .not 4 u) (h1 : ρ u = .bool x) (w : World) :
    (execOp ρ o).run Try.prog w = .ok (.value (.bool (!x))) w := by
  unfold execOp
  rw [ho]
  go_simp
theorem op_pickF {c x y : Operand} {v : Value} (ho : o.op = .pick c x y) (h1 : ρ c = .bool false) (h2 : ρ y = v) (w : World) :
    (execOp ρ o).run Try.prog w = .ok (.value v) w := by
  unfold execOp
  rw [ho]
  go_simp
theorem op_pickT {c x y : Operand} {v : Value} (ho : o.op = .pick c x y) (h1 : ρ c = .bool true) (h2 : ρ x = v) (w : World) :
    (execOp ρ o).run Try.prog w = .ok (.value v) w := by
  unfold execOp
  rw [ho]
  go_simp
theorem op_conv5_3 {x : Operand} {c : Nat} (ho : o.op = .convert 5 3 x) (h1 : ρ x = .int .u8 (c : Int)) (hc : c < 256) (w : World) :
    (execOp ρ o).run Try.prog w = .ok (.value (.int .i64 (c : Int))) w := by
  have h3 : ((c : Nat) : Int) < 256 := by omega
  have h4 : IntKind.i64.wrap ((c : Nat) : Int) = c := by rw [IntKind.wrap_i64]; omega
  unfold execOp
  rw [ho]
  go_simp
theorem op_len49 {x : Operand} {ad : Option Addr} {n c : Nat} (ho : o.op = .call { callee := .builtin .len, args := #[x], argTypes := #[49] }) (h1 : ρ x = .slice ad n c) (w : World) :
    (execOp ρ o).run Try.prog w = .ok (.value (.int .i64 (n : Int))) w := by
  unfold execOp
  rw [ho]
  go_simp
theorem op_len78 {x : Operand} {ad : Option Addr} {n c : Nat} (ho : o.op = .call { callee := .builtin .len, args := #[x], argTypes := #[78] }) (h1 : ρ x = .slice ad n c) (w : World) :
    (execOp ρ o).run Try.prog w = .ok (.value (.int .i64 (n : Int))) w := by
  unfold execOp
  rw [ho]
  go_simp
theorem op_len90 {x : Operand} {ad : Option Addr} {n c : Nat} (ho : o.op = .call { callee := .builtin .len, args := #[x], argTypes := #[90] }) (h1 : ρ x = .slice ad n c) (w : World) :
    (execOp ρ o).run Try.prog w = .ok (.value (.int .i64 (n : Int))) w := by
  unfold execOp
  rw [ho]
  go_simp
theorem op_len80 {x : Operand} {ad : Option Addr} {n c : Nat} (ho : o.op = .call { callee := .builtin .len, args := #[x], argTypes := #[80] }) (h1 : ρ x = .slice ad n c) (w : World) :
    (execOp ρ o).run Try.prog w = .ok (.value (.int .i64 (n : Int))) w := by
  unfold execOp
  rw [ho]
  go_simp
theorem op_call7 {x0 x1 : Operand} {v0 v1 : Value} (ho : o.op = .call { callee := .value (.func 7), args := #[x0, x1], argTypes := #[3, 3] }) (h0 : ρ x0 = v0) (h1 : ρ x1 = v1) (hf : ρ (.func 7) = .func (.func 7) #[] #[]) (w : World) :
    (execOp ρ o).run Try.prog w = .ok (.enter 7 #[v0, v1]) w := by
  unfold execOp
  rw [ho]
  go_simp
theorem op_call35 {x0 x1 : Operand} {v0 v1 : Value} (ho : o.op = .call { callee := .value (.func 35), args := #[x0, x1], argTypes := #[23, 3] }) (h0 : ρ x0 = v0) (h1 : ρ x1 = v1) (hf : ρ (.func 35) = .func (.func 35) #[] #[]) (w : World) :
    (execOp ρ o).run Try.prog w = .ok (.enter 35 #[v0, v1]) w := by
  unfold execOp
  rw [ho]
  go_simp
theorem op_call43 {x0 x1 : Operand} {v0 v1 : Value} (ho : o.op = .call { callee := .value (.func 43), args := #[x0, x1], argTypes := #[23, 3] }) (h0 : ρ x0 = v0) (h1 : ρ x1 = v1) (hf : ρ (.func 43) = .func (.func 43) #[] #[]) (w : World) :
    (execOp ρ o).run Try.prog w = .ok (.enter 43 #[v0, v1]) w := by
  unfold execOp
  rw [ho]
  go_simp
theorem op_call41 {x0 x1 x2 : Operand} {v0 v1 v2 : Value} (ho : o.op = .call { callee := .value (.func 41), args := #[x0, x1, x2], argTypes := #[23, 3, 30] }) (h0 : ρ x0 = v0) (h1 : ρ x1 = v1) (h2 : ρ x2 = v2) (hf : ρ (.func 41) = .func (.func 41) #[] #[]) (w : World) :
    (execOp ρ o).run Try.prog w = .ok (.enter 41 #[v0, v1, v2]) w := by
  unfold execOp
  rw [ho]
  go_simp
theorem op_call34 (ho : o.op = .call { callee := .value (.func 34), args := #[], argTypes := #[] }) (hf : ρ (.func 34) = .func (.func 34) #[] #[]) (w : World) :
    (execOp ρ o).run Try.prog w = .ok (.enter 34 #[]) w := by
  unfold execOp
  rw [ho]
  go_simp
theorem op_call47 (ho : o.op = .call { callee := .value (.func 47), args := #[], argTypes := #[] }) (hf : ρ (.func 47) = .func (.func 47) #[] #[]) (w : World) :
    (execOp ρ o).run Try.prog w = .ok (.enter 47 #[]) w := by
  unfold execOp
  rw [ho]
  go_simp
theorem op_call39 {x0 : Operand} {v0 : Value} (ho : o.op = .call { callee := .value (.func 39), args := #[x0], argTypes := #[23] }) (h0 : ρ x0 = v0) (hf : ρ (.func 39) = .func (.func 39) #[] #[]) (w : World) :
    (execOp ρ o).run Try.prog w = .ok (.enter 39 #[v0]) w := by
  unfold execOp
  rw [ho]
  go_simp
theorem op_call17 {x0 x1 : Operand} {v0 v1 : Value} (ho : o.op = .call { callee := .value (.func 17), args := #[x0, x1], argTypes := #[3, 3] }) (h0 : ρ x0 = v0) (h1 : ρ x1 = v1) (hf : ρ (.func 17) = .func (.func 17) #[] #[]) (w : World) :
    (execOp ρ o).run Try.prog w = .ok (.enter 17 #[v0, v1]) w := by
  unfold execOp
  rw [ho]
  go_simp
theorem op_call49 {x0 x1 x2 : Operand} {v0 v1 v2 : Value} (ho : o.op = .call { callee := .value (.func 49), args := #[x0, x1, x2], argTypes := #[45, 3, 30] }) (h0 : ρ x0 = v0) (h1 : ρ x1 = v1) (h2 : ρ x2 = v2) (hf : ρ (.func 49) = .func (.func 49) #[] #[]) (w : World) :
    (execOp ρ o).run Try.prog w = .ok (.enter 49 #[v0, v1, v2]) w := by
  unfold execOp
  rw [ho]
  go_simp
theorem op_call52 {x0 x1 : Operand} {v0 v1 : Value} (ho : o.op = .call { callee := .value (.func 52), args := #[x0, x1], argTypes := #[45, 3] }) (h0 : ρ x0 = v0) (h1 : ρ x1 = v1) (hf : ρ (.func 52) = .func (.func 52) #[] #[]) (w : World) :
    (execOp ρ o).run Try.prog w = .ok (.enter 52 #[v0, v1]) w := by
  unfold execOp
  rw [ho]
  go_simp
theorem op_call37 {x0 x1 : Operand} {v0 v1 : Value} (ho : o.op = .call { callee := .value (.func 37), args := #[x0, x1], argTypes := #[3, 3] }) (h0 : ρ x0 = v0) (h1 : ρ x1 = v1) (hf : ρ (.func 37) = .func (.func 37) #[] #[]) (w : World) :
    (execOp ρ o).run Try.prog w = .ok (.enter 37 #[v0, v1]) w := by
  unfold execOp
  rw [ho]
  go_simp
theorem op_call38 {x0 : Operand} {v0 : Value} (ho : o.op = .call { callee := .value (.func 38), args := #[x0], argTypes := #[3] }) (h0 : ρ x0 = v0) (hf : ρ (.func 38) = .func (.func 38) #[] #[]) (w : World) :
    (execOp ρ o).run Try.prog w = .ok (.enter 38 #[v0]) w := by
  unfold execOp
  rw [ho]
  go_simp
theorem op_call46 {x0 x1 : Operand} {v0 v1 : Value} (ho : o.op = .call { callee := .value (.func 46), args := #[x0, x1], argTypes := #[3, 3] }) (h0 : ρ x0 = v0) (h1 : ρ x1 = v1) (hf : ρ (.func 46) = .func (.func 46) #[] #[]) (w : World) :
    (execOp ρ o).run Try.prog w = .ok (.enter 46 #[v0, v1]) w := by
  unfold execOp
  rw [ho]
  go_simp
end
end Go.Proofs.Ytlgknllcnkainaa
