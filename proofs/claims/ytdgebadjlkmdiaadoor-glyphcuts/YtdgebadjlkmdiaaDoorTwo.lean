/-
  The operations by which glyph.Show lays a byte's two digits, each by itself.
-/
import Derived.Test.YtdgebadjlkmdiaaDoorHex
import Derived.Test.YtdgebadjlkmdiaaDoorTail
namespace Go.Proofs.YtdgebadjlkmdiaaDoor
open Go.RowKit

theorem and15b (x : Nat) (h : x < 256) : bits .and .u8 (x : Int) 15 = ((x % 16 : Nat) : Int) := by
  have : ∀ y : Fin 256, bits .and .u8 (y.val : Int) 15 = ((y.val % 16 : Nat) : Int) := by decide +kernel
  exact this ⟨x, h⟩
theorem cell_fresh (w : World) (C : Array Value) (e : TypeId) (i : Nat) : (w.alloc (.cells C e (0, 0))).cell? ⟨w.heap.size, i, none⟩ = C[i]? :=
  cell_of_row _ _ _ C e _ (heap_alloc_new w _)

section
variable {ρ : Operand → Value} {o : Oper}
theorem run_idx {x y : Operand} {s : ByteArray} {pos : Nat} (ho : o.op = .index 9 x y) (h1 : ρ x = .string s) (h2 : ρ y = .int .i64 (pos : Int)) (hp : pos < s.size) (w : World) :
    (execOp ρ o).run Tryd.prog w = .ok (.value (.int .u8 (((s[pos]'hp).toNat : Nat) : Int))) w := by
  unfold execOp
  rw [ho]
  go_simp
theorem run_shr4 {x : Operand} {c : Nat} (ho : o.op = .binOp .shr 5 x (.const (.int .u64 4)) 47) (h1 : ρ x = .int .u8 (c : Int)) (hk : ∀ v, ρ (.const v) = v) (w : World) :
    (execOp ρ o).run Tryd.prog w = .ok (.value (.int .u8 ((c / 16 : Nat) : Int))) w := by
  unfold execOp
  rw [ho]
  go_simp
theorem run_and4 {x : Operand} {c : Nat} (ho : o.op = .binOp .and 5 x (.const (.int .u8 15)) 5) (h1 : ρ x = .int .u8 (c : Int)) (hk : ∀ v, ρ (.const v) = v) (hc : c < 256) (w : World) :
    (execOp ρ o).run Tryd.prog w = .ok (.value (.int .u8 ((c % 16 : Nat) : Int))) w := by
  have := and15b c hc
  unfold execOp
  rw [ho]
  go_simp
theorem digit_at (n : Nat) (h : n < 16) (hq : _) : (⟨#[48, 49, 50, 51, 52, 53, 54, 55, 56, 57, 97, 98, 99, 100, 101, 102]⟩ : ByteArray)[n]'hq = hexd n := by
  match n with
  | 0 | 1 | 2 | 3 | 4 | 5 | 6 | 7 | 8 | 9 | 10 | 11 | 12 | 13 | 14 | 15 => rfl
  | n + 16 => omega
theorem run_dig {y : Operand} {n : Nat} (ho : o.op = .index 9 (.const (.string ⟨#[48, 49, 50, 51, 52, 53, 54, 55, 56, 57, 97, 98, 99, 100, 101, 102]⟩)) y) (h2 : ρ y = .int .u8 (n : Int)) (hk : ∀ v, ρ (.const v) = v) (hn : n < 16) (w : World) :
    (execOp ρ o).run Tryd.prog w = .ok (.value (.int .u8 (((hexd n).toNat : Nat) : Int))) w := by
  have := digit_at n hn
  unfold execOp
  rw [ho]
  go_simp
  intro h
  omega
theorem run_two {x y : Operand} {a b : Int} (ho : o.op = .buildSlice 35 2 #[(0, x), (1, y)]) (h1 : ρ x = .int .u8 a) (h2 : ρ y = .int .u8 b) (w : World) :
    (execOp ρ o).run Tryd.prog w = .ok (.value (.slice (some ⟨w.heap.size, 0, none⟩) 2 2)) (w.alloc (.cells #[.int .u8 a, .int .u8 b] 5)) := by
  unfold execOp
  rw [ho]
  go_simp
end

/-- What each of the operations yields. -/
def VT (v3 : Value) (s : ByteArray) (pos c : Nat) : Nat → Value → World → Prop
  | 0, v, _ => v = v3
  | 1, v, _ => v = .string s
  | 2, v, _ => v = .int .i64 (pos : Int)
  | 3, v, _ => v = .int .u8 (c : Int)
  | 4, v, _ => v = .int .u8 ((c / 16 : Nat) : Int)
  | 5, v, _ => v = .int .u8 (((hexd (c / 16)).toNat : Nat) : Int)
  | 6, v, _ => v = .string s
  | 7, v, _ => v = .int .i64 (pos : Int)
  | 8, v, _ => v = .int .u8 (c : Int)
  | 9, v, _ => v = .int .u8 ((c % 16 : Nat) : Int)
  | 10, v, _ => v = .int .u8 (((hexd (c % 16)).toNat : Nat) : Int)
  | 11, v, w => ∃ b, b < w.heap.size ∧ v = .slice (some ⟨b, 0, none⟩) 2 2 ∧ w.cell? ⟨b, 0, none⟩ = some (.int .u8 (((hexd (c / 16)).toNat : Nat) : Int)) ∧ w.cell? ⟨b, 1, none⟩ = some (.int .u8 (((hexd (c % 16)).toNat : Nat) : Int))
  | _, _, _ => True

theorem VT.stable {v3 : Value} {s : ByteArray} {pos c : Nat} : ∀ j v w w', VT v3 s pos c j v w → Below w.heap.size w w' → VT v3 s pos c j v w' := by
  intro j v w w' h hb
  match j with
  | 0 | 1 | 2 | 3 | 4 | 5 | 6 | 7 | 8 | 9 | 10 => exact h
  | 11 =>
    obtain ⟨b, hlt, e, c0, c1⟩ := h
    exact ⟨b, Nat.lt_of_lt_of_le hlt hb.size, e, by rw [cell_below hb hlt]; exact c0, by rw [cell_below hb hlt]; exact c1⟩
  | _ + 12 => trivial
end Go.Proofs.YtdgebadjlkmdiaaDoor
