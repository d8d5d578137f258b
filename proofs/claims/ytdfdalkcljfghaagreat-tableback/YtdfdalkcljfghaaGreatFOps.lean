/-
  Single operations of the frames' texts, each by itself.
-/
import Derived.Test.YtdfdalkcljfghaaGreatFPut
namespace Go.Proofs.YtdfdalkcljfghaaGreat
open Go.RowKit

theorem bits_xor8 (a b : UInt8) : bits .xor .u8 ((a.toNat : Nat) : Int) ((b.toNat : Nat) : Int) = ((a.toNat ^^^ b.toNat : Nat) : Int) := by
  show IntKind.u8.wrap ((BitVec.ofInt 8 ((a.toNat : Nat) : Int) ^^^ BitVec.ofInt 8 ((b.toNat : Nat) : Int)).toNat : Int) = _
  have ha := a.toNat_lt
  have hb := b.toNat_lt
  have e : (BitVec.ofInt 8 ((a.toNat : Nat) : Int) ^^^ BitVec.ofInt 8 ((b.toNat : Nat) : Int)).toNat = a.toNat ^^^ b.toNat := by
    rw [BitVec.ofInt_natCast, BitVec.ofInt_natCast, BitVec.toNat_xor, BitVec.toNat_ofNat, BitVec.toNat_ofNat, Nat.mod_eq_of_lt ha, Nat.mod_eq_of_lt hb]
  rw [e]
  have := Nat.xor_lt_two_pow (n := 8) ha hb
  rw [IntKind.wrap_u8]
  omega
section
variable {ρ : Operand → Value} {o : Oper}
theorem op_idx638 {x y : Operand} {g off n c k : Nat} (ho : o.op = .indexAddr 131 x y) (h1 : ρ x = .slice (some ⟨g, off, none⟩) n c) (h2 : ρ y = .int .i64 (k : Int)) (hk : k < n) (w : World) :
    (execOp ρ o).run Tryz.prog w = .ok (.value (.pointer (some ⟨g, off + k * 64, none⟩))) w := by
  unfold execOp
  rw [ho]
  go_simp
theorem op_idx758 {x y : Operand} {g b k : Nat} (ho : o.op = .indexAddr 136 x y) (h1 : ρ x = .pointer (some ⟨g, b, none⟩)) (h2 : ρ y = .int .i64 (k : Int)) (hk : k < 64) (w : World) :
    (execOp ρ o).run Tryz.prog w = .ok (.value (.pointer (some ⟨g, b + k, none⟩))) w := by
  unfold execOp
  rw [ho]
  go_simp
  intro h; omega
theorem op_idx29 {x y : Operand} {g b k : Nat} (ho : o.op = .indexAddr 29 x y) (h1 : ρ x = .pointer (some ⟨g, b, none⟩)) (h2 : ρ y = .int .i64 (k : Int)) (hk : k < 2) (w : World) :
    (execOp ρ o).run Tryz.prog w = .ok (.value (.pointer (some ⟨g, b + k, none⟩))) w := by
  unfold execOp
  rw [ho]
  go_simp
  intro h; omega
theorem op_idx46 {x y : Operand} {g off n c k : Nat} (ho : o.op = .indexAddr 46 x y) (h1 : ρ x = .slice (some ⟨g, off, none⟩) n c) (h2 : ρ y = .int .i64 (k : Int)) (hk : k < n) (w : World) :
    (execOp ρ o).run Tryz.prog w = .ok (.value (.pointer (some ⟨g, off + k, none⟩))) w := by
  unfold execOp
  rw [ho]
  go_simp
theorem op_load166 {x : Operand} {g k : Nat} {v : Value} {w : World} (ho : o.op = .load 5 x) (h1 : ρ x = .pointer (some ⟨g, k, none⟩)) (hc : w.cell? ⟨g, k, none⟩ = some v) :
    (execOp ρ o).run Tryz.prog w = .ok (.value v) w := by
  unfold execOp
  rw [ho]
  go_simp
theorem op_load38 {x : Operand} {g k : Nat} {v : Value} {w : World} (ho : o.op = .load 3 x) (h1 : ρ x = .pointer (some ⟨g, k, none⟩)) (hc : w.cell? ⟨g, k, none⟩ = some v) :
    (execOp ρ o).run Tryz.prog w = .ok (.value v) w := by
  unfold execOp
  rw [ho]
  go_simp
theorem op_quo64 {x : Operand} {n : Nat} (ho : o.op = .binOp .quo 3 x (.const (.int .i64 64)) 3) (h1 : ρ x = .int .i64 (n : Int)) (hk : ρ (.const (.int .i64 64)) = .int .i64 64) (hn : n ≤ 1000000000) (w : World) :
    (execOp ρ o).run Tryz.prog w = .ok (.value (.int .i64 ((n / 64 : Nat) : Int))) w := by
  unfold execOp
  rw [ho]
  go_simp
  rw [IntKind.wrap_i64]; omega
theorem op_rem64 {x : Operand} {n : Nat} (ho : o.op = .binOp .rem 3 x (.const (.int .i64 64)) 3) (h1 : ρ x = .int .i64 (n : Int)) (hk : ρ (.const (.int .i64 64)) = .int .i64 64) (hn : n ≤ 1000000000) (w : World) :
    (execOp ρ o).run Tryz.prog w = .ok (.value (.int .i64 ((n % 64 : Nat) : Int))) w := by
  unfold execOp
  rw [ho]
  go_simp
  exact Int.tmod_eq_emod_of_nonneg (by omega)
theorem op_conv3_5 {x : Operand} {n : Nat} (ho : o.op = .convert 3 5 x) (h1 : ρ x = .int .i64 (n : Int)) (hn : n < 256) (w : World) :
    (execOp ρ o).run Tryz.prog w = .ok (.value (.int .u8 (n : Int))) w := by
  unfold execOp
  rw [ho]
  go_simp
  rw [IntKind.wrap_u8]; omega
theorem op_xor5 {x y : Operand} {a b : UInt8} (ho : o.op = .binOp .xor 5 x y 5) (h1 : ρ x = .int .u8 ((a.toNat : Nat) : Int)) (h2 : ρ y = .int .u8 ((b.toNat : Nat) : Int)) (w : World) :
    (execOp ρ o).run Tryz.prog w = .ok (.value (.int .u8 (((a ^^^ b).toNat : Nat) : Int))) w := by
  unfold execOp
  rw [ho]
  go_simp
  exact bits_xor8 _ _
theorem op_store166 {x y : Operand} {g k : Nat} {v : Value} {n : Int} {w : World} (ho : o.op = .store 5 x y) (h1 : ρ x = .pointer (some ⟨g, k, none⟩)) (h2 : ρ y = .int .u8 n) (hc : w.cell? ⟨g, k, none⟩ = some v) (hf : w.frozen? ⟨g, k, none⟩ = false) :
    (execOp ρ o).run Tryz.prog w = .ok .skip (w.setCell ⟨g, k, none⟩ (.int .u8 n)) := by
  unfold execOp
  rw [ho]
  go_simp
theorem op_neq758 {u v : Operand} {x y : Sec} {r : Bool} (ho : o.op = .binOp .neq 136 u v 136) (h1 : ρ u = secV x) (h2 : ρ v = secV y) (hr : (!(x == y)) = r) (hx : x.length = 64) (hy : y.length = 64) (w : World) :
    (execOp ρ o).run Tryz.prog w = .ok (.value (.bool r)) w := by
  subst hr
  have he := run_equal136 x y hx hy w
  unfold secV at he h1 h2
  unfold execOp
  rw [ho]
  go_simp
theorem op_neq38 {u v : Operand} {x y : Int} {r : Bool} (ho : o.op = .binOp .neq 3 u v 3) (h1 : ρ u = .int .i64 x) (h2 : ρ v = .int .i64 y) (hr : (!(x == y)) = r) (w : World) :
    (execOp ρ o).run Tryz.prog w = .ok (.value (.bool r)) w := by
  subst hr
  unfold execOp
  rw [ho]
  go_simp
  rfl
theorem op_eql38 {u v : Operand} {x y : Int} {r : Bool} (ho : o.op = .binOp .eql 3 u v 3) (h1 : ρ u = .int .i64 x) (h2 : ρ v = .int .i64 y) (hr : (x == y) = r) (w : World) :
    (execOp ρ o).run Tryz.prog w = .ok (.value (.bool r)) w := by
  subst hr
  unfold execOp
  rw [ho]
  go_simp
theorem op_not8 {x : Operand} {b : Bool} (ho : o.op = .unOp .not 4 x) (h1 : ρ x = .bool b) (w : World) :
    (execOp ρ o).run Tryz.prog w = .ok (.value (.bool !b)) w := by
  unfold execOp
  rw [ho]
  go_simp
theorem op_len638 {x : Operand} {a : Option Addr} {n c : Nat} (ho : o.op = .call { callee := .builtin .len, args := #[x], argTypes := #[131] }) (h1 : ρ x = .slice a n c) (w : World) :
    (execOp ρ o).run Tryz.prog w = .ok (.value (.int .i64 (n : Int))) w := by
  unfold execOp
  rw [ho]
  go_simp
theorem op_len328 {x : Operand} {a : Option Addr} {n c : Nat} (ho : o.op = .call { callee := .builtin .len, args := #[x], argTypes := #[46] }) (h1 : ρ x = .slice a n c) (w : World) :
    (execOp ρ o).run Tryz.prog w = .ok (.value (.int .i64 (n : Int))) w := by
  unfold execOp
  rw [ho]
  go_simp
theorem op_pickF8 {x y z : Operand} {v : Value} (ho : o.op = .pick x y z) (h1 : ρ x = .bool false) (h2 : ρ z = v) (w : World) : (execOp ρ o).run Tryz.prog w = .ok (.value v) w := by
  unfold execOp
  rw [ho]
  go_simp
theorem op_pickT8 {x y z : Operand} {v : Value} (ho : o.op = .pick x y z) (h1 : ρ x = .bool true) (h2 : ρ y = v) (w : World) : (execOp ρ o).run Tryz.prog w = .ok (.value v) w := by
  unfold execOp
  rw [ho]
  go_simp
/-- The first so many of a slice of sectors. -/
theorem op_to131 {x y : Operand} {a : Option Addr} {n c k : Nat} (ho : o.op = .slice 131 x none (some y) none) (h1 : ρ x = .slice a n c) (h2 : ρ y = .int .i64 (k : Int)) (hk : k ≤ c) (w : World) :
    (execOp ρ o).run Tryz.prog w = .ok (.value (.slice a k c)) w := by
  unfold execOp
  rw [ho]
  go_simp
theorem op_to46 {x y : Operand} {a : Option Addr} {n c k : Nat} (ho : o.op = .slice 46 x none (some y) none) (h1 : ρ x = .slice a n c) (h2 : ρ y = .int .i64 (k : Int)) (hk : k ≤ c) (w : World) :
    (execOp ρ o).run Tryz.prog w = .ok (.value (.slice a k c)) w := by
  unfold execOp
  rw [ho]
  go_simp
end
end Go.Proofs.YtdfdalkcljfghaaGreat
