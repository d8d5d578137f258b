/-
  Single operations of the statements' own text, each by itself.
-/
import Derived.Test.YtdgebadjlkmdiaaDoorAlive
import Derived.Test.YtdgebadjlkmdiaaDoorTail
namespace Go.Proofs.YtdgebadjlkmdiaaDoor
open Go.RowKit

/-- Each operation yields this, whatever the memory. -/
def VV (f : Nat → Value) : Nat → Value → World → Prop := fun j v _ => v = f j
theorem VV.stable {f : Nat → Value} : ∀ j v w w', VV f j v w → Below w.heap.size w w' → VV f j v w' := fun _ _ _ _ h _ => h

section
variable {ρ : Operand → Value} {o : Oper}
theorem op_len9 {x : Operand} {s : ByteArray} {k : Int} (ho : o.op = .call { callee := .builtin .len, args := #[x], argTypes := #[9] }) (h1 : ρ x = .string s) (hk : (s.size : Int) = k) (w : World) :
    (execOp ρ o).run Tryd.prog w = .ok (.value (.int .i64 k)) w := by
  subst hk
  unfold execOp
  rw [ho]
  go_simp
theorem op_gtr3 {x y : Operand} {a b : Int} {r : Bool} (ho : o.op = .binOp .gtr 3 x y 3) (h1 : ρ x = .int .i64 a) (h2 : ρ y = .int .i64 b) (hr : decide (b < a) = r) (w : World) :
    (execOp ρ o).run Tryd.prog w = .ok (.value (.bool r)) w := by
  subst hr
  unfold execOp
  rw [ho]
  go_simp
theorem op_neq3 {x y : Operand} {a b : Int} {r : Bool} (ho : o.op = .binOp .neq 3 x y 3) (h1 : ρ x = .int .i64 a) (h2 : ρ y = .int .i64 b) (hr : (a != b) = r) (w : World) :
    (execOp ρ o).run Tryd.prog w = .ok (.value (.bool r)) w := by
  subst hr
  unfold execOp
  rw [ho]
  go_simp
theorem op_eql3 {x y : Operand} {a b : Int} {r : Bool} (ho : o.op = .binOp .eql 3 x y 3) (h1 : ρ x = .int .i64 a) (h2 : ρ y = .int .i64 b) (hr : (a == b) = r) (w : World) :
    (execOp ρ o).run Tryd.prog w = .ok (.value (.bool r)) w := by
  subst hr
  unfold execOp
  rw [ho]
  go_simp
theorem op_eql22 {x y : Operand} {a b : Int} {r : Bool} (ho : o.op = .binOp .eql 22 x y 22) (h1 : ρ x = .int .i64 a) (h2 : ρ y = .int .i64 b) (hr : (a == b) = r) (w : World) :
    (execOp ρ o).run Tryd.prog w = .ok (.value (.bool r)) w := by
  subst hr
  unfold execOp
  rw [ho]
  go_simp
theorem op_add3 {x y : Operand} {a b c : Int} (ho : o.op = .binOp .add 3 x y 3) (h1 : ρ x = .int .i64 a) (h2 : ρ y = .int .i64 b) (hr : a + b = c) (hc : -9223372036854775808 ≤ c ∧ c ≤ 9223372036854775807) (w : World) :
    (execOp ρ o).run Tryd.prog w = .ok (.value (.int .i64 c)) w := by
  subst hr
  have : IntKind.i64.wrap (a + b) = a + b := by rw [IntKind.wrap_i64]; omega
  unfold execOp
  rw [ho]
  go_simp
theorem op_neq9 {x y : Operand} {a b : ByteArray} {r : Bool} (ho : o.op = .binOp .neq 9 x y 9) (h1 : ρ x = .string a) (h2 : ρ y = .string b) (hr : (!(a.toList == b.toList)) = r) (w : World) :
    (execOp ρ o).run Tryd.prog w = .ok (.value (.bool r)) w := by
  subst hr
  unfold execOp
  rw [ho]
  go_simp
theorem op_eql9 {x y : Operand} {a b : ByteArray} {r : Bool} (ho : o.op = .binOp .eql 9 x y 9) (h1 : ρ x = .string a) (h2 : ρ y = .string b) (hr : (a.toList == b.toList) = r) (w : World) :
    (execOp ρ o).run Tryd.prog w = .ok (.value (.bool r)) w := by
  subst hr
  unfold execOp
  rw [ho]
  go_simp
theorem op_eql4 {x y : Operand} {a b r : Bool} (ho : o.op = .binOp .eql 4 x y 4) (h1 : ρ x = .bool a) (h2 : ρ y = .bool b) (hr : (a == b) = r) (w : World) :
    (execOp ρ o).run Tryd.prog w = .ok (.value (.bool r)) w := by
  subst hr
  unfold execOp
  rw [ho]
  go_simp
theorem op_add9 {x y : Operand} {a b c : ByteArray} (ho : o.op = .binOp .add 9 x y 9) (h1 : ρ x = .string a) (h2 : ρ y = .string b) (hr : a ++ b = c) (hz : a.size + b.size ≤ 9223372036854775807) (w : World) :
    (execOp ρ o).run Tryd.prog w = .ok (.value (.string c)) w := by
  subst hr
  unfold execOp
  rw [ho]
  go_simp
theorem op_pickT {c x y : Operand} {v : Value} (ho : o.op = .pick c x y) (h1 : ρ c = .bool true) (h2 : ρ x = v) (w : World) :
    (execOp ρ o).run Tryd.prog w = .ok (.value v) w := by
  unfold execOp
  rw [ho]
  go_simp
theorem op_pickF {c x y : Operand} {v : Value} (ho : o.op = .pick c x y) (h1 : ρ c = .bool false) (h2 : ρ y = v) (w : World) :
    (execOp ρ o).run Tryd.prog w = .ok (.value v) w := by
  unfold execOp
  rw [ho]
  go_simp
theorem op_not {x : Operand} {b : Bool} (ho : o.op = .unOp .not 4 x) (h1 : ρ x = .bool b) (w : World) :
    (execOp ρ o).run Tryd.prog w = .ok (.value (.bool (!b))) w := by
  unfold execOp
  rw [ho]
  go_simp
theorem op_sliceH {x y : Operand} {s t : ByteArray} {k : Nat} (ho : o.op = .slice 9 x none (some y) none) (h1 : ρ x = .string s) (h2 : ρ y = .int .i64 (k : Int)) (hk : k ≤ s.size) (ht : s.extract 0 k = t) (w : World) :
    (execOp ρ o).run Tryd.prog w = .ok (.value (.string t)) w := by
  subst ht
  unfold execOp
  rw [ho]
  go_simp
theorem op_sliceL {x y : Operand} {s t : ByteArray} {k : Nat} (ho : o.op = .slice 9 x (some y) none none) (h1 : ρ x = .string s) (h2 : ρ y = .int .i64 (k : Int)) (hk : k ≤ s.size) (ht : s.extract k s.size = t) (w : World) :
    (execOp ρ o).run Tryd.prog w = .ok (.value (.string t)) w := by
  subst ht
  unfold execOp
  rw [ho]
  go_simp
theorem op_min {x y : Operand} {a b c : Int} (ho : o.op = .call { callee := .builtin .min, args := #[x, y], argTypes := #[3, 3] }) (h1 : ρ x = .int .i64 a) (h2 : ρ y = .int .i64 b) (hc : min a b = c) (w : World) :
    (execOp ρ o).run Tryd.prog w = .ok (.value (.int .i64 c)) w := by
  subst hc
  unfold execOp
  rw [ho]
  go_simp
theorem op_max {x y : Operand} {a b c : Int} (ho : o.op = .call { callee := .builtin .max, args := #[x, y], argTypes := #[3, 3] }) (h1 : ρ x = .int .i64 a) (h2 : ρ y = .int .i64 b) (hc : max a b = c) (w : World) :
    (execOp ρ o).run Tryd.prog w = .ok (.value (.int .i64 c)) w := by
  subst hc
  unfold execOp
  rw [ho]
  go_simp
theorem op_conv {x : Operand} {a : Int} (ho : o.op = .convert 22 3 x) (h1 : ρ x = .int .i64 a) (ha : -9223372036854775808 ≤ a ∧ a ≤ 9223372036854775807) (w : World) :
    (execOp ρ o).run Tryd.prog w = .ok (.value (.int .i64 a)) w := by
  have : IntKind.i64.wrap a = a := by rw [IntKind.wrap_i64]; omega
  unfold execOp
  rw [ho]
  go_simp
theorem op_call12 {x : Operand} {v : Value} (ho : o.op = .call { callee := .value (.func 12), args := #[x], argTypes := #[9] }) (h1 : ρ x = v) (hf : ρ (.func 12) = .func (.func 12) #[] #[]) (w : World) :
    (execOp ρ o).run Tryd.prog w = .ok (.enter 12 #[v]) w := by
  unfold execOp
  rw [ho]
  go_simp
theorem op_call18 {x : Operand} {v : Value} (ho : o.op = .call { callee := .value (.func 18), args := #[x], argTypes := #[9] }) (h1 : ρ x = v) (hf : ρ (.func 18) = .func (.func 18) #[] #[]) (w : World) :
    (execOp ρ o).run Tryd.prog w = .ok (.enter 18 #[v]) w := by
  unfold execOp
  rw [ho]
  go_simp
end
end Go.Proofs.YtdgebadjlkmdiaaDoor
