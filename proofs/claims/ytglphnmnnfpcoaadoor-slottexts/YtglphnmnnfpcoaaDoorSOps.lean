/-
  Single operations on slots and texts, for regions that draw their order.
-/
import Derived.Test.YtglphnmnnfpcoaaDoorSSlot
import Derived.Test.YtglphnmnnfpcoaaDoorFlow
namespace Go.Proofs.YtglphnmnnfpcoaaDoor
open Go.RowKit
section
variable {ρ : Operand → Value} {o : Oper}
theorem op_f26_0 {x : Operand} {g : Nat} (ho : o.op = .fieldAddr 26 x 0) (h1 : ρ x = .pointer (some ⟨g, 0, none⟩)) (w : World) :
    (execOp ρ o).run Tryd.prog w = .ok (.value (.pointer (some ⟨g, 0, none⟩))) w := by
  unfold execOp
  rw [ho]
  go_simp
theorem op_f26_1 {x : Operand} {g : Nat} (ho : o.op = .fieldAddr 26 x 1) (h1 : ρ x = .pointer (some ⟨g, 0, none⟩)) (w : World) :
    (execOp ρ o).run Tryd.prog w = .ok (.value (.pointer (some ⟨g, 1, none⟩))) w := by
  unfold execOp
  rw [ho]
  go_simp
theorem op_f26_2 {x : Operand} {g : Nat} (ho : o.op = .fieldAddr 26 x 2) (h1 : ρ x = .pointer (some ⟨g, 0, none⟩)) (w : World) :
    (execOp ρ o).run Tryd.prog w = .ok (.value (.pointer (some ⟨g, 2, none⟩))) w := by
  unfold execOp
  rw [ho]
  go_simp
theorem op_f26_3 {x : Operand} {g : Nat} (ho : o.op = .fieldAddr 26 x 3) (h1 : ρ x = .pointer (some ⟨g, 0, none⟩)) (w : World) :
    (execOp ρ o).run Tryd.prog w = .ok (.value (.pointer (some ⟨g, 3, none⟩))) w := by
  unfold execOp
  rw [ho]
  go_simp
theorem op_f26_4 {x : Operand} {g : Nat} (ho : o.op = .fieldAddr 26 x 4) (h1 : ρ x = .pointer (some ⟨g, 0, none⟩)) (w : World) :
    (execOp ρ o).run Tryd.prog w = .ok (.value (.pointer (some ⟨g, 4, none⟩))) w := by
  unfold execOp
  rw [ho]
  go_simp
theorem op_load3 {x : Operand} {g k : Nat} {v : Value} {w : World} (ho : o.op = .load 3 x) (h1 : ρ x = .pointer (some ⟨g, k, none⟩)) (hc : w.cell? ⟨g, k, none⟩ = some v) :
    (execOp ρ o).run Tryd.prog w = .ok (.value v) w := by
  unfold execOp
  rw [ho]
  go_simp
theorem op_load22 {x : Operand} {g k : Nat} {v : Value} {w : World} (ho : o.op = .load 22 x) (h1 : ρ x = .pointer (some ⟨g, k, none⟩)) (hc : w.cell? ⟨g, k, none⟩ = some v) :
    (execOp ρ o).run Tryd.prog w = .ok (.value v) w := by
  unfold execOp
  rw [ho]
  go_simp
theorem op_load24 {x : Operand} {g k : Nat} {cs : List Value} {w : World} (ho : o.op = .load 24 x) (h1 : ρ x = .pointer (some ⟨g, k, none⟩)) (hA : w.rangeAt g k cs) (hi : (Tryd.prog.info? 24).map (·.size) = some cs.length) :
    (execOp ρ o).run Tryd.prog w = .ok (.value (.agg cs.toArray)) w := by
  have hr := run_loadAt_mid (P := Tryd.prog) w g k 24 cs _ hA Tryd.underlying24 rfl hi
  unfold execOp
  simp only [ho, h1, Sem.run_bind, hr, Result.andThen_ok, Sem.run_pure]
theorem op_load26 {x : Operand} {g k : Nat} {cs : List Value} {w : World} (ho : o.op = .load 26 x) (h1 : ρ x = .pointer (some ⟨g, k, none⟩)) (hA : w.rangeAt g k cs) (hi : (Tryd.prog.info? 26).map (·.size) = some cs.length) :
    (execOp ρ o).run Tryd.prog w = .ok (.value (.agg cs.toArray)) w := by
  have hr := run_loadAt_mid (P := Tryd.prog) w g k 26 cs _ hA Tryd.underlying26 rfl hi
  unfold execOp
  simp only [ho, h1, Sem.run_bind, hr, Result.andThen_ok, Sem.run_pure]
theorem op_call43 {x y : Operand} {u v : Value} (ho : o.op = .call { callee := .value (.func 43), args := #[x, y], argTypes := #[22, 3] }) (h1 : ρ x = u) (h2 : ρ y = v) (hf : ρ (.func 43) = .func (.func 43) #[] #[]) (w : World) :
    (execOp ρ o).run Tryd.prog w = .ok (.enter 43 #[u, v]) w := by
  unfold execOp
  rw [ho]
  go_simp
theorem op_call44 {x : Operand} {u : Value} (ho : o.op = .call { callee := .value (.func 44), args := #[x], argTypes := #[3] }) (h1 : ρ x = u) (hf : ρ (.func 44) = .func (.func 44) #[] #[]) (w : World) :
    (execOp ρ o).run Tryd.prog w = .ok (.enter 44 #[u]) w := by
  unfold execOp
  rw [ho]
  go_simp
theorem op_call45 {x : Operand} {u : Value} (ho : o.op = .call { callee := .value (.func 45), args := #[x], argTypes := #[24] }) (h1 : ρ x = u) (hf : ρ (.func 45) = .func (.func 45) #[] #[]) (w : World) :
    (execOp ρ o).run Tryd.prog w = .ok (.enter 45 #[u]) w := by
  unfold execOp
  rw [ho]
  go_simp
theorem op_call46 {x : Operand} {u : Value} (ho : o.op = .call { callee := .value (.func 46), args := #[x], argTypes := #[22] }) (h1 : ρ x = u) (hf : ρ (.func 46) = .func (.func 46) #[] #[]) (w : World) :
    (execOp ρ o).run Tryd.prog w = .ok (.enter 46 #[u]) w := by
  unfold execOp
  rw [ho]
  go_simp
theorem op_call47 {x : Operand} {u : Value} (ho : o.op = .call { callee := .value (.func 47), args := #[x], argTypes := #[24] }) (h1 : ρ x = u) (hf : ρ (.func 47) = .func (.func 47) #[] #[]) (w : World) :
    (execOp ρ o).run Tryd.prog w = .ok (.enter 47 #[u]) w := by
  unfold execOp
  rw [ho]
  go_simp
theorem op_call14 {x : Operand} {u : Value} (ho : o.op = .call { callee := .value (.func 14), args := #[x], argTypes := #[26] }) (h1 : ρ x = u) (hf : ρ (.func 14) = .func (.func 14) #[] #[]) (w : World) :
    (execOp ρ o).run Tryd.prog w = .ok (.enter 14 #[u]) w := by
  unfold execOp
  rw [ho]
  go_simp
theorem op_call15 {x : Operand} {u : Value} (ho : o.op = .call { callee := .value (.func 15), args := #[x], argTypes := #[26] }) (h1 : ρ x = u) (hf : ρ (.func 15) = .func (.func 15) #[] #[]) (w : World) :
    (execOp ρ o).run Tryd.prog w = .ok (.enter 15 #[u]) w := by
  unfold execOp
  rw [ho]
  go_simp
theorem op_call16 {x : Operand} {u : Value} (ho : o.op = .call { callee := .value (.func 16), args := #[x], argTypes := #[26] }) (h1 : ρ x = u) (hf : ρ (.func 16) = .func (.func 16) #[] #[]) (w : World) :
    (execOp ρ o).run Tryd.prog w = .ok (.enter 16 #[u]) w := by
  unfold execOp
  rw [ho]
  go_simp
theorem op_call17 {x : Operand} {u : Value} (ho : o.op = .call { callee := .value (.func 17), args := #[x], argTypes := #[26] }) (h1 : ρ x = u) (hf : ρ (.func 17) = .func (.func 17) #[] #[]) (w : World) :
    (execOp ρ o).run Tryd.prog w = .ok (.enter 17 #[u]) w := by
  unfold execOp
  rw [ho]
  go_simp
theorem op_call18 {x : Operand} {u : Value} (ho : o.op = .call { callee := .value (.func 18), args := #[x], argTypes := #[26] }) (h1 : ρ x = u) (hf : ρ (.func 18) = .func (.func 18) #[] #[]) (w : World) :
    (execOp ρ o).run Tryd.prog w = .ok (.enter 18 #[u]) w := by
  unfold execOp
  rw [ho]
  go_simp
theorem op_call19 {x : Operand} {u : Value} (ho : o.op = .call { callee := .value (.func 19), args := #[x], argTypes := #[26] }) (h1 : ρ x = u) (hf : ρ (.func 19) = .func (.func 19) #[] #[]) (w : World) :
    (execOp ρ o).run Tryd.prog w = .ok (.enter 19 #[u]) w := by
  unfold execOp
  rw [ho]
  go_simp
theorem op_call20 {x : Operand} {u : Value} (ho : o.op = .call { callee := .value (.func 20), args := #[x], argTypes := #[26] }) (h1 : ρ x = u) (hf : ρ (.func 20) = .func (.func 20) #[] #[]) (w : World) :
    (execOp ρ o).run Tryd.prog w = .ok (.enter 20 #[u]) w := by
  unfold execOp
  rw [ho]
  go_simp
theorem op_call21 {x : Operand} {u : Value} (ho : o.op = .call { callee := .value (.func 21), args := #[x], argTypes := #[26] }) (h1 : ρ x = u) (hf : ρ (.func 21) = .func (.func 21) #[] #[]) (w : World) :
    (execOp ρ o).run Tryd.prog w = .ok (.enter 21 #[u]) w := by
  unfold execOp
  rw [ho]
  go_simp
theorem op_addT {x y : Operand} {a b : List UInt8} (ho : o.op = .binOp .add 9 x y 9) (h1 : ρ x = .string (tx a)) (h2 : ρ y = .string (tx b)) (hz : a.length + b.length ≤ 1000000) (w : World) :
    (execOp ρ o).run Tryd.prog w = .ok (.value (.string (tx (a ++ b)))) w := by
  have hr := run_string_add_sum (P := Tryd.prog) w (tx a) (tx b) (by rw [tx_size, tx_size]; omega)
  rw [tx_append] at hr
  unfold execOp
  rw [ho]
  go_simp
theorem op_conv3_22 {x : Operand} {n : Int} (ho : o.op = .convert 3 22 x) (h1 : ρ x = .int .i64 n) (h0 : 0 ≤ n) (h2 : n < 18446744073709551616) (w : World) :
    (execOp ρ o).run Tryd.prog w = .ok (.value (.int .u64 n)) w := by
  have hw : IntKind.u64.wrap n = n := by rw [IntKind.wrap_u64]; omega
  unfold execOp
  rw [ho]
  go_simp
theorem op_not {x : Operand} {b : Bool} (ho : o.op = .unOp .not 4 x) (h1 : ρ x = .bool b) (w : World) : (execOp ρ o).run Tryd.prog w = .ok (.value (.bool (!b))) w := by
  unfold execOp
  rw [ho]
  go_simp
theorem op_eql4 {x y : Operand} {a b : Bool} (ho : o.op = .binOp .eql 4 x y 4) (h1 : ρ x = .bool a) (h2 : ρ y = .bool b) (w : World) :
    (execOp ρ o).run Tryd.prog w = .ok (.value (.bool (a == b))) w := by
  unfold execOp
  rw [ho]
  go_simp
theorem op_eqlT {x y : Operand} {a b : List UInt8} (ho : o.op = .binOp .eql 9 x y 9) (h1 : ρ x = .string (tx a)) (h2 : ρ y = .string (tx b)) (w : World) :
    (execOp ρ o).run Tryd.prog w = .ok (.value (.bool (decide (a = b)))) w := op_eql9 ho h1 h2 (tx_beq a b) w
theorem op_eqlS {x y : Operand} {a b : S} (ho : o.op = .binOp .eql 26 x y 26) (h1 : ρ x = .agg a.cs.toArray) (h2 : ρ y = .agg b.cs.toArray) (ha : a.dg.length = 32) (hb : b.dg.length = 32) (w : World) :
    (execOp ρ o).run Tryd.prog w = .ok (.value (.bool (decide (a = b)))) w := by
  have hr := run_equal26 a b ha hb
  unfold execOp
  rw [ho]
  go_simp
theorem op_pickF {c x y : Operand} {v : Value} (ho : o.op = .pick c x y) (h1 : ρ c = .bool false) (h2 : ρ y = v) (w : World) :
    (execOp ρ o).run Tryd.prog w = .ok (.value v) w := by
  unfold execOp
  rw [ho]
  go_simp
theorem op_pickT {c x y : Operand} {v : Value} (ho : o.op = .pick c x y) (h1 : ρ c = .bool true) (h2 : ρ x = v) (w : World) :
    (execOp ρ o).run Tryd.prog w = .ok (.value v) w := by
  unfold execOp
  rw [ho]
  go_simp
theorem op_eql3 {x y : Operand} {a b : Int} (ho : o.op = .binOp .eql 3 x y 3) (h1 : ρ x = .int .i64 a) (h2 : ρ y = .int .i64 b) (w : World) :
    (execOp ρ o).run Tryd.prog w = .ok (.value (.bool (a == b))) w := by
  unfold execOp
  rw [ho]
  go_simp
theorem op_len9 {x : Operand} {l : List UInt8} (ho : o.op = .call { callee := .builtin .len, args := #[x], argTypes := #[9] }) (h1 : ρ x = .string (tx l)) (w : World) :
    (execOp ρ o).run Tryd.prog w = .ok (.value (.int .i64 (l.length : Int))) w := by
  have hz := tx_size l
  unfold execOp
  rw [ho]
  go_simp
end
end Go.Proofs.YtglphnmnnfpcoaaDoor
