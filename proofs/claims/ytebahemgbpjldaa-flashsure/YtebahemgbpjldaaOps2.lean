/-
  More single operations, each by itself.
-/
import Derived.Test.YtebahemgbpjldaaDo
namespace Go.Proofs.Ytebahemgbpjldaa
open Go.RowKit

section
variable {ρ : Operand → Value} {o : Oper}
theorem op_eql3 {x y : Operand} {a b : Int} {r : Bool} (ho : o.op = .binOp .eql 3 x y 3) (h1 : ρ x = .int .i64 a) (h2 : ρ y = .int .i64 b) (hr : (a == b) = r) (w : World) :
    (execOp ρ o).run Try.prog w = .ok (.value (.bool r)) w := by
  subst hr
  unfold execOp
  rw [ho]
  go_simp
theorem op_neq3 {x y : Operand} {a b : Int} {r : Bool} (ho : o.op = .binOp .neq 3 x y 3) (h1 : ρ x = .int .i64 a) (h2 : ρ y = .int .i64 b) (hr : (a != b) = r) (w : World) :
    (execOp ρ o).run Try.prog w = .ok (.value (.bool r)) w := by
  subst hr
  unfold execOp
  rw [ho]
  go_simp
theorem op_eql27 {x y : Operand} {a b : Int} {r : Bool} (ho : o.op = .binOp .eql 27 x y 27) (h1 : ρ x = .int .i64 a) (h2 : ρ y = .int .i64 b) (hr : (a == b) = r) (w : World) :
    (execOp ρ o).run Try.prog w = .ok (.value (.bool r)) w := by
  subst hr
  unfold execOp
  rw [ho]
  go_simp
theorem op_neq27 {x y : Operand} {a b : Int} {r : Bool} (ho : o.op = .binOp .neq 27 x y 27) (h1 : ρ x = .int .i64 a) (h2 : ρ y = .int .i64 b) (hr : (a != b) = r) (w : World) :
    (execOp ρ o).run Try.prog w = .ok (.value (.bool r)) w := by
  subst hr
  unfold execOp
  rw [ho]
  go_simp
theorem op_geq3 {x y : Operand} {a b : Int} {r : Bool} (ho : o.op = .binOp .geq 3 x y 3) (h1 : ρ x = .int .i64 a) (h2 : ρ y = .int .i64 b) (hr : decide (b ≤ a) = r) (w : World) :
    (execOp ρ o).run Try.prog w = .ok (.value (.bool r)) w := by
  subst hr
  unfold execOp
  rw [ho]
  go_simp
theorem op_lss3 {x y : Operand} {a b : Int} {r : Bool} (ho : o.op = .binOp .lss 3 x y 3) (h1 : ρ x = .int .i64 a) (h2 : ρ y = .int .i64 b) (hr : decide (a < b) = r) (w : World) :
    (execOp ρ o).run Try.prog w = .ok (.value (.bool r)) w := by
  subst hr
  unfold execOp
  rw [ho]
  go_simp
theorem op_gtr3 {x y : Operand} {a b : Int} {r : Bool} (ho : o.op = .binOp .gtr 3 x y 3) (h1 : ρ x = .int .i64 a) (h2 : ρ y = .int .i64 b) (hr : decide (b < a) = r) (w : World) :
    (execOp ρ o).run Try.prog w = .ok (.value (.bool r)) w := by
  subst hr
  unfold execOp
  rw [ho]
  go_simp
theorem op_eql26 {u v : Operand} {x y : Sec} {r : Bool} (ho : o.op = .binOp .eql 26 u v 26) (h1 : ρ u = secV x) (h2 : ρ v = secV y) (hr : (x == y) = r) (hx : x.length = 64) (hy : y.length = 64) (w : World) :
    (execOp ρ o).run Try.prog w = .ok (.value (.bool r)) w := by
  subst hr
  have he := run_equal26 x y hx hy w
  unfold secV at he h1 h2
  unfold execOp
  rw [ho]
  go_simp
theorem op_neq26 {u v : Operand} {x y : Sec} {r : Bool} (ho : o.op = .binOp .neq 26 u v 26) (h1 : ρ u = secV x) (h2 : ρ v = secV y) (hr : (!(x == y)) = r) (hx : x.length = 64) (hy : y.length = 64) (w : World) :
    (execOp ρ o).run Try.prog w = .ok (.value (.bool r)) w := by
  subst hr
  have he := run_equal26 x y hx hy w
  unfold secV at he h1 h2
  unfold execOp
  rw [ho]
  go_simp
theorem op_neq4 {u v : Operand} {x y r : Bool} (ho : o.op = .binOp .neq 4 u v 4) (h1 : ρ u = .bool x) (h2 : ρ v = .bool y) (hr : (!(x == y)) = r) (w : World) :
    (execOp ρ o).run Try.prog w = .ok (.value (.bool r)) w := by
  subst hr
  unfold execOp
  rw [ho]
  go_simp
theorem op_not {u : Operand} {x : Bool} (ho : o.op = .unOp .not 4 u) (h1 : ρ u = .bool x) (w : World) :
    (execOp ρ o).run Try.prog w = .ok (.value (.bool (!x))) w := by
  unfold execOp
  rw [ho]
  go_simp
theorem op_pickF {c x y : Operand} {v : Value} (ho : o.op = .pick c x y) (h1 : ρ c = .bool false) (h2 : ρ y = v) (w : World) :
    (execOp ρ o).run Try.prog w = .ok (.value v) w := by
  unfold execOp
  rw [ho]
  go_simp
theorem op_pickT {c x y : Operand} {v : Value} (ho : o.op = .pick c x y) (h1 : ρ c = .bool true) (h2 : ρ x = v) (w : World) :
    (execOp ρ o).run Try.prog w = .ok (.value v) w := by
  unfold execOp
  rw [ho]
  go_simp
theorem op_conv5_3 {x : Operand} {c : Nat} (ho : o.op = .convert 5 3 x) (h1 : ρ x = .int .u8 (c : Int)) (hc : c < 256) (w : World) :
    (execOp ρ o).run Try.prog w = .ok (.value (.int .i64 (c : Int))) w := by
  have h3 : ((c : Nat) : Int) < 256 := by omega
  have h4 : IntKind.i64.wrap ((c : Nat) : Int) = c := by rw [IntKind.wrap_i64]; omega
  unfold execOp
  rw [ho]
  go_simp
theorem op_len37 {x : Operand} {ad : Option Addr} {n c : Nat} (ho : o.op = .call { callee := .builtin .len, args := #[x], argTypes := #[37] }) (h1 : ρ x = .slice ad n c) (w : World) :
    (execOp ρ o).run Try.prog w = .ok (.value (.int .i64 (n : Int))) w := by
  unfold execOp
  rw [ho]
  go_simp
theorem op_len40 {x : Operand} {ad : Option Addr} {n c : Nat} (ho : o.op = .call { callee := .builtin .len, args := #[x], argTypes := #[40] }) (h1 : ρ x = .slice ad n c) (w : World) :
    (execOp ρ o).run Try.prog w = .ok (.value (.int .i64 (n : Int))) w := by
  unfold execOp
  rw [ho]
  go_simp
theorem op_len52 {x : Operand} {ad : Option Addr} {n c : Nat} (ho : o.op = .call { callee := .builtin .len, args := #[x], argTypes := #[52] }) (h1 : ρ x = .slice ad n c) (w : World) :
    (execOp ρ o).run Try.prog w = .ok (.value (.int .i64 (n : Int))) w := by
  unfold execOp
  rw [ho]
  go_simp
theorem op_len54 {x : Operand} {ad : Option Addr} {n c : Nat} (ho : o.op = .call { callee := .builtin .len, args := #[x], argTypes := #[54] }) (h1 : ρ x = .slice ad n c) (w : World) :
    (execOp ρ o).run Try.prog w = .ok (.value (.int .i64 (n : Int))) w := by
  unfold execOp
  rw [ho]
  go_simp
theorem op_len66 {x : Operand} {ad : Option Addr} {n c : Nat} (ho : o.op = .call { callee := .builtin .len, args := #[x], argTypes := #[66] }) (h1 : ρ x = .slice ad n c) (w : World) :
    (execOp ρ o).run Try.prog w = .ok (.value (.int .i64 (n : Int))) w := by
  unfold execOp
  rw [ho]
  go_simp
theorem op_call7 (ho : o.op = .call { callee := .value (.func 7), args := #[], argTypes := #[] }) (hf : ρ (.func 7) = .func (.func 7) #[] #[]) (w : World) :
    (execOp ρ o).run Try.prog w = .ok (.enter 7 #[]) w := by
  unfold execOp
  rw [ho]
  go_simp
theorem op_call8 {x0 x1 : Operand} {v0 v1 : Value} (ho : o.op = .call { callee := .value (.func 8), args := #[x0, x1], argTypes := #[3, 3] }) (h0 : ρ x0 = v0) (h1 : ρ x1 = v1) (hf : ρ (.func 8) = .func (.func 8) #[] #[]) (w : World) :
    (execOp ρ o).run Try.prog w = .ok (.enter 8 #[v0, v1]) w := by
  unfold execOp
  rw [ho]
  go_simp
theorem op_call9 {x0 x1 : Operand} {v0 v1 : Value} (ho : o.op = .call { callee := .value (.func 9), args := #[x0, x1], argTypes := #[23, 3] }) (h0 : ρ x0 = v0) (h1 : ρ x1 = v1) (hf : ρ (.func 9) = .func (.func 9) #[] #[]) (w : World) :
    (execOp ρ o).run Try.prog w = .ok (.enter 9 #[v0, v1]) w := by
  unfold execOp
  rw [ho]
  go_simp
theorem op_call10 {x0 x1 : Operand} {v0 v1 : Value} (ho : o.op = .call { callee := .value (.func 10), args := #[x0, x1], argTypes := #[23, 3] }) (h0 : ρ x0 = v0) (h1 : ρ x1 = v1) (hf : ρ (.func 10) = .func (.func 10) #[] #[]) (w : World) :
    (execOp ρ o).run Try.prog w = .ok (.enter 10 #[v0, v1]) w := by
  unfold execOp
  rw [ho]
  go_simp
theorem op_call12 {x0 x1 x2 : Operand} {v0 v1 v2 : Value} (ho : o.op = .call { callee := .value (.func 12), args := #[x0, x1, x2], argTypes := #[23, 3, 26] }) (h0 : ρ x0 = v0) (h1 : ρ x1 = v1) (h2 : ρ x2 = v2) (hf : ρ (.func 12) = .func (.func 12) #[] #[]) (w : World) :
    (execOp ρ o).run Try.prog w = .ok (.enter 12 #[v0, v1, v2]) w := by
  unfold execOp
  rw [ho]
  go_simp
theorem op_call13 {x0 : Operand} {v0 : Value} (ho : o.op = .call { callee := .value (.func 13), args := #[x0], argTypes := #[23] }) (h0 : ρ x0 = v0) (hf : ρ (.func 13) = .func (.func 13) #[] #[]) (w : World) :
    (execOp ρ o).run Try.prog w = .ok (.enter 13 #[v0]) w := by
  unfold execOp
  rw [ho]
  go_simp
theorem op_call15 {x0 x1 : Operand} {v0 v1 : Value} (ho : o.op = .call { callee := .value (.func 15), args := #[x0, x1], argTypes := #[23, 3] }) (h0 : ρ x0 = v0) (h1 : ρ x1 = v1) (hf : ρ (.func 15) = .func (.func 15) #[] #[]) (w : World) :
    (execOp ρ o).run Try.prog w = .ok (.enter 15 #[v0, v1]) w := by
  unfold execOp
  rw [ho]
  go_simp
theorem op_call16 (ho : o.op = .call { callee := .value (.func 16), args := #[], argTypes := #[] }) (hf : ρ (.func 16) = .func (.func 16) #[] #[]) (w : World) :
    (execOp ρ o).run Try.prog w = .ok (.enter 16 #[]) w := by
  unfold execOp
  rw [ho]
  go_simp
theorem op_call17 (ho : o.op = .call { callee := .value (.func 17), args := #[], argTypes := #[] }) (hf : ρ (.func 17) = .func (.func 17) #[] #[]) (w : World) :
    (execOp ρ o).run Try.prog w = .ok (.enter 17 #[]) w := by
  unfold execOp
  rw [ho]
  go_simp
theorem op_call18 {x0 : Operand} {v0 : Value} (ho : o.op = .call { callee := .value (.func 18), args := #[x0], argTypes := #[23] }) (h0 : ρ x0 = v0) (hf : ρ (.func 18) = .func (.func 18) #[] #[]) (w : World) :
    (execOp ρ o).run Try.prog w = .ok (.enter 18 #[v0]) w := by
  unfold execOp
  rw [ho]
  go_simp
theorem op_call19 {x0 x1 : Operand} {v0 v1 : Value} (ho : o.op = .call { callee := .value (.func 19), args := #[x0, x1], argTypes := #[3, 3] }) (h0 : ρ x0 = v0) (h1 : ρ x1 = v1) (hf : ρ (.func 19) = .func (.func 19) #[] #[]) (w : World) :
    (execOp ρ o).run Try.prog w = .ok (.enter 19 #[v0, v1]) w := by
  unfold execOp
  rw [ho]
  go_simp
theorem op_call20 {x0 : Operand} {v0 : Value} (ho : o.op = .call { callee := .value (.func 20), args := #[x0], argTypes := #[5] }) (h0 : ρ x0 = v0) (hf : ρ (.func 20) = .func (.func 20) #[] #[]) (w : World) :
    (execOp ρ o).run Try.prog w = .ok (.enter 20 #[v0]) w := by
  unfold execOp
  rw [ho]
  go_simp
theorem op_call21 {x0 x1 x2 : Operand} {v0 v1 v2 : Value} (ho : o.op = .call { callee := .value (.func 21), args := #[x0, x1, x2], argTypes := #[38, 3, 26] }) (h0 : ρ x0 = v0) (h1 : ρ x1 = v1) (h2 : ρ x2 = v2) (hf : ρ (.func 21) = .func (.func 21) #[] #[]) (w : World) :
    (execOp ρ o).run Try.prog w = .ok (.enter 21 #[v0, v1, v2]) w := by
  unfold execOp
  rw [ho]
  go_simp
theorem op_call27 {x0 x1 : Operand} {v0 v1 : Value} (ho : o.op = .call { callee := .value (.func 27), args := #[x0, x1], argTypes := #[38, 3] }) (h0 : ρ x0 = v0) (h1 : ρ x1 = v1) (hf : ρ (.func 27) = .func (.func 27) #[] #[]) (w : World) :
    (execOp ρ o).run Try.prog w = .ok (.enter 27 #[v0, v1]) w := by
  unfold execOp
  rw [ho]
  go_simp
theorem op_call28 {x0 : Operand} {v0 : Value} (ho : o.op = .call { callee := .value (.func 28), args := #[x0], argTypes := #[23] }) (h0 : ρ x0 = v0) (hf : ρ (.func 28) = .func (.func 28) #[] #[]) (w : World) :
    (execOp ρ o).run Try.prog w = .ok (.enter 28 #[v0]) w := by
  unfold execOp
  rw [ho]
  go_simp
theorem op_call29 {x0 x1 : Operand} {v0 v1 : Value} (ho : o.op = .call { callee := .value (.func 29), args := #[x0, x1], argTypes := #[3, 3] }) (h0 : ρ x0 = v0) (h1 : ρ x1 = v1) (hf : ρ (.func 29) = .func (.func 29) #[] #[]) (w : World) :
    (execOp ρ o).run Try.prog w = .ok (.enter 29 #[v0, v1]) w := by
  unfold execOp
  rw [ho]
  go_simp
theorem op_call30 {x0 : Operand} {v0 : Value} (ho : o.op = .call { callee := .value (.func 30), args := #[x0], argTypes := #[3] }) (h0 : ρ x0 = v0) (hf : ρ (.func 30) = .func (.func 30) #[] #[]) (w : World) :
    (execOp ρ o).run Try.prog w = .ok (.enter 30 #[v0]) w := by
  unfold execOp
  rw [ho]
  go_simp
theorem op_call35 {x0 x1 : Operand} {v0 v1 : Value} (ho : o.op = .call { callee := .value (.func 35), args := #[x0, x1], argTypes := #[3, 3] }) (h0 : ρ x0 = v0) (h1 : ρ x1 = v1) (hf : ρ (.func 35) = .func (.func 35) #[] #[]) (w : World) :
    (execOp ρ o).run Try.prog w = .ok (.enter 35 #[v0, v1]) w := by
  unfold execOp
  rw [ho]
  go_simp
end
end Go.Proofs.Ytebahemgbpjldaa
