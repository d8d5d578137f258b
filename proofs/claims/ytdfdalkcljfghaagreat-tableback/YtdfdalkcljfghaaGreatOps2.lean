/-
  More single operations, each by itself.
-/
import Derived.Test.YtdfdalkcljfghaaGreatDo
namespace Go.Proofs.YtdfdalkcljfghaaGreat
open Go.RowKit

section
variable {ρ : Operand → Value} {o : Oper}
theorem op_eql3 {x y : Operand} {a b : Int} {r : Bool} (ho : o.op = .binOp .eql 3 x y 3) (h1 : ρ x = .int .i64 a) (h2 : ρ y = .int .i64 b) (hr : (a == b) = r) (w : World) :
    (execOp ρ o).run Tryz.prog w = .ok (.value (.bool r)) w := by
  subst hr
  unfold execOp
  rw [ho]
  go_simp
theorem op_neq3 {x y : Operand} {a b : Int} {r : Bool} (ho : o.op = .binOp .neq 3 x y 3) (h1 : ρ x = .int .i64 a) (h2 : ρ y = .int .i64 b) (hr : (a != b) = r) (w : World) :
    (execOp ρ o).run Tryz.prog w = .ok (.value (.bool r)) w := by
  subst hr
  unfold execOp
  rw [ho]
  go_simp
theorem op_eql24 {x y : Operand} {a b : Int} {r : Bool} (ho : o.op = .binOp .eql 24 x y 24) (h1 : ρ x = .int .i64 a) (h2 : ρ y = .int .i64 b) (hr : (a == b) = r) (w : World) :
    (execOp ρ o).run Tryz.prog w = .ok (.value (.bool r)) w := by
  subst hr
  unfold execOp
  rw [ho]
  go_simp
theorem op_neq24 {x y : Operand} {a b : Int} {r : Bool} (ho : o.op = .binOp .neq 24 x y 24) (h1 : ρ x = .int .i64 a) (h2 : ρ y = .int .i64 b) (hr : (a != b) = r) (w : World) :
    (execOp ρ o).run Tryz.prog w = .ok (.value (.bool r)) w := by
  subst hr
  unfold execOp
  rw [ho]
  go_simp
theorem op_geq3 {x y : Operand} {a b : Int} {r : Bool} (ho : o.op = .binOp .geq 3 x y 3) (h1 : ρ x = .int .i64 a) (h2 : ρ y = .int .i64 b) (hr : decide (b ≤ a) = r) (w : World) :
    (execOp ρ o).run Tryz.prog w = .ok (.value (.bool r)) w := by
  subst hr
  unfold execOp
  rw [ho]
  go_simp
theorem op_lss3 {x y : Operand} {a b : Int} {r : Bool} (ho : o.op = .binOp .lss 3 x y 3) (h1 : ρ x = .int .i64 a) (h2 : ρ y = .int .i64 b) (hr : decide (a < b) = r) (w : World) :
    (execOp ρ o).run Tryz.prog w = .ok (.value (.bool r)) w := by
  subst hr
  unfold execOp
  rw [ho]
  go_simp
theorem op_gtr3 {x y : Operand} {a b : Int} {r : Bool} (ho : o.op = .binOp .gtr 3 x y 3) (h1 : ρ x = .int .i64 a) (h2 : ρ y = .int .i64 b) (hr : decide (b < a) = r) (w : World) :
    (execOp ρ o).run Tryz.prog w = .ok (.value (.bool r)) w := by
  subst hr
  unfold execOp
  rw [ho]
  go_simp
theorem op_eql136 {u v : Operand} {x y : Sec} {r : Bool} (ho : o.op = .binOp .eql 136 u v 136) (h1 : ρ u = secV x) (h2 : ρ v = secV y) (hr : (x == y) = r) (hx : x.length = 64) (hy : y.length = 64) (w : World) :
    (execOp ρ o).run Tryz.prog w = .ok (.value (.bool r)) w := by
  subst hr
  have he := run_equal136 x y hx hy w
  unfold secV at he h1 h2
  unfold execOp
  rw [ho]
  go_simp
theorem op_neq136 {u v : Operand} {x y : Sec} {r : Bool} (ho : o.op = .binOp .neq 136 u v 136) (h1 : ρ u = secV x) (h2 : ρ v = secV y) (hr : (!(x == y)) = r) (hx : x.length = 64) (hy : y.length = 64) (w : World) :
    (execOp ρ o).run Tryz.prog w = .ok (.value (.bool r)) w := by
  subst hr
  have he := run_equal136 x y hx hy w
  unfold secV at he h1 h2
  unfold execOp
  rw [ho]
  go_simp
theorem op_neq4 {u v : Operand} {x y r : Bool} (ho : o.op = .binOp .neq 4 u v 4) (h1 : ρ u = .bool x) (h2 : ρ v = .bool y) (hr : (!(x == y)) = r) (w : World) :
    (execOp ρ o).run Tryz.prog w = .ok (.value (.bool r)) w := by
  subst hr
  unfold execOp
  rw [ho]
  go_simp
theorem op_not {u : Operand} {x : Bool} (ho : o.op = .unOp .not 4 u) (h1 : ρ u = .bool x) (w : World) :
    (execOp ρ o).run Tryz.prog w = .ok (.value (.bool (!x))) w := by
  unfold execOp
  rw [ho]
  go_simp
theorem op_pickF {c x y : Operand} {v : Value} (ho : o.op = .pick c x y) (h1 : ρ c = .bool false) (h2 : ρ y = v) (w : World) :
    (execOp ρ o).run Tryz.prog w = .ok (.value v) w := by
  unfold execOp
  rw [ho]
  go_simp
theorem op_pickT {c x y : Operand} {v : Value} (ho : o.op = .pick c x y) (h1 : ρ c = .bool true) (h2 : ρ x = v) (w : World) :
    (execOp ρ o).run Tryz.prog w = .ok (.value v) w := by
  unfold execOp
  rw [ho]
  go_simp
theorem op_conv5_3 {x : Operand} {c : Nat} (ho : o.op = .convert 5 3 x) (h1 : ρ x = .int .u8 (c : Int)) (hc : c < 256) (w : World) :
    (execOp ρ o).run Tryz.prog w = .ok (.value (.int .i64 (c : Int))) w := by
  have h3 : ((c : Nat) : Int) < 256 := by omega
  have h4 : IntKind.i64.wrap ((c : Nat) : Int) = c := by rw [IntKind.wrap_i64]; omega
  unfold execOp
  rw [ho]
  go_simp
theorem op_len46 {x : Operand} {ad : Option Addr} {n c : Nat} (ho : o.op = .call { callee := .builtin .len, args := #[x], argTypes := #[46] }) (h1 : ρ x = .slice ad n c) (w : World) :
    (execOp ρ o).run Tryz.prog w = .ok (.value (.int .i64 (n : Int))) w := by
  unfold execOp
  rw [ho]
  go_simp
theorem op_len131 {x : Operand} {ad : Option Addr} {n c : Nat} (ho : o.op = .call { callee := .builtin .len, args := #[x], argTypes := #[131] }) (h1 : ρ x = .slice ad n c) (w : World) :
    (execOp ρ o).run Tryz.prog w = .ok (.value (.int .i64 (n : Int))) w := by
  unfold execOp
  rw [ho]
  go_simp
theorem op_len147 {x : Operand} {ad : Option Addr} {n c : Nat} (ho : o.op = .call { callee := .builtin .len, args := #[x], argTypes := #[147] }) (h1 : ρ x = .slice ad n c) (w : World) :
    (execOp ρ o).run Tryz.prog w = .ok (.value (.int .i64 (n : Int))) w := by
  unfold execOp
  rw [ho]
  go_simp
theorem op_call48 {x0 x1 : Operand} {v0 v1 : Value} (ho : o.op = .call { callee := .value (.func 48), args := #[x0, x1], argTypes := #[3, 3] }) (h0 : ρ x0 = v0) (h1 : ρ x1 = v1) (hf : ρ (.func 48) = .func (.func 48) #[] #[]) (w : World) :
    (execOp ρ o).run Tryz.prog w = .ok (.enter 48 #[v0, v1]) w := by
  unfold execOp
  rw [ho]
  go_simp
theorem op_call111 {x0 x1 : Operand} {v0 v1 : Value} (ho : o.op = .call { callee := .value (.func 111), args := #[x0, x1], argTypes := #[73, 3] }) (h0 : ρ x0 = v0) (h1 : ρ x1 = v1) (hf : ρ (.func 111) = .func (.func 111) #[] #[]) (w : World) :
    (execOp ρ o).run Tryz.prog w = .ok (.enter 111 #[v0, v1]) w := by
  unfold execOp
  rw [ho]
  go_simp
theorem op_call164 {x0 x1 : Operand} {v0 v1 : Value} (ho : o.op = .call { callee := .value (.func 164), args := #[x0, x1], argTypes := #[73, 3] }) (h0 : ρ x0 = v0) (h1 : ρ x1 = v1) (hf : ρ (.func 164) = .func (.func 164) #[] #[]) (w : World) :
    (execOp ρ o).run Tryz.prog w = .ok (.enter 164 #[v0, v1]) w := by
  unfold execOp
  rw [ho]
  go_simp
theorem op_call154 {x0 x1 x2 : Operand} {v0 v1 v2 : Value} (ho : o.op = .call { callee := .value (.func 154), args := #[x0, x1, x2], argTypes := #[73, 3, 136] }) (h0 : ρ x0 = v0) (h1 : ρ x1 = v1) (h2 : ρ x2 = v2) (hf : ρ (.func 154) = .func (.func 154) #[] #[]) (w : World) :
    (execOp ρ o).run Tryz.prog w = .ok (.enter 154 #[v0, v1, v2]) w := by
  unfold execOp
  rw [ho]
  go_simp
theorem op_call118 (ho : o.op = .call { callee := .value (.func 118), args := #[], argTypes := #[] }) (hf : ρ (.func 118) = .func (.func 118) #[] #[]) (w : World) :
    (execOp ρ o).run Tryz.prog w = .ok (.enter 118 #[]) w := by
  unfold execOp
  rw [ho]
  go_simp
theorem op_call84 {x0 : Operand} {v0 : Value} (ho : o.op = .call { callee := .value (.func 84), args := #[x0], argTypes := #[73] }) (h0 : ρ x0 = v0) (hf : ρ (.func 84) = .func (.func 84) #[] #[]) (w : World) :
    (execOp ρ o).run Tryz.prog w = .ok (.enter 84 #[v0]) w := by
  unfold execOp
  rw [ho]
  go_simp
theorem op_call85 {x0 x1 : Operand} {v0 v1 : Value} (ho : o.op = .call { callee := .value (.func 85), args := #[x0, x1], argTypes := #[3, 3] }) (h0 : ρ x0 = v0) (h1 : ρ x1 = v1) (hf : ρ (.func 85) = .func (.func 85) #[] #[]) (w : World) :
    (execOp ρ o).run Tryz.prog w = .ok (.enter 85 #[v0, v1]) w := by
  unfold execOp
  rw [ho]
  go_simp
theorem op_call86 {x0 : Operand} {v0 : Value} (ho : o.op = .call { callee := .value (.func 86), args := #[x0], argTypes := #[3] }) (h0 : ρ x0 = v0) (hf : ρ (.func 86) = .func (.func 86) #[] #[]) (w : World) :
    (execOp ρ o).run Tryz.prog w = .ok (.enter 86 #[v0]) w := by
  unfold execOp
  rw [ho]
  go_simp
end
end Go.Proofs.YtdfdalkcljfghaaGreat
