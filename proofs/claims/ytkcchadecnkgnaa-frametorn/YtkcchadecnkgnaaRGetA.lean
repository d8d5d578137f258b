/-
  The document's Get: what it answers of whatever bytes.
-/
import Derived.Test.YtkcchadecnkgnaaRPlain
import Derived.Test.YtkcchadecnkgnaaGet
namespace Go.Proofs.Ytkcchadecnkgnaa
open Go.RowKit

theorem run_app0 (w : World) (ty : TypeId) (b : Addr) (l : Nat) (a : Option Addr) (c : Nat) : (Builtin.append_ #[27, 27] ty #[.slice (some b) l l, .slice a 0 c]).run Try.prog w = .ok (.slice (some b) l l) w := by
  obtain ⟨i, i1, i2, i3, i4⟩ := full5
  cases a with
  | none => simp [Builtin.append_, run_underlying Try.underlying27, sizeOf, typeInfo, i1, Builtin.lenOf, Builtin.firstCells, loadCells, storeCells]
  | some a => simp [Builtin.append_, run_underlying Try.underlying27, sizeOf, typeInfo, i1, Builtin.lenOf, Builtin.firstCells, loadCells, loadCellsFrom, storeCells]
def EmptyAt (v : Value) (_ : Unit) (_ : World) : Prop := ∃ b, v = .slice (some b) 0 0
theorem EmptyAt.grows : Grows EmptyAt := fun _ _ _ _ h => h
section
variable {ρ : Operand → Value} {o : Oper}
theorem op_none27 (ho : o.op = .buildSlice 27 0 #[]) (w : World) : (execOp ρ o).run Try.prog w = .ok (.value (.slice (some ⟨w.heap.size, 0, none⟩) 0 0)) (w.alloc (.cells #[] 5)) := by
  have hr : ∀ w : World, (Instr.buildSlice 27 0 #[]).run Try.prog w = .ok (.slice (some ⟨w.heap.size, 0, none⟩) 0 0) (w.alloc (.cells #[] 5)) := fun w => by kernel_rfl
  unfold execOp
  rw [ho]
  simp only [List.map_toArray, List.map_nil, Sem.run_bind, hr w, Result.andThen_ok, Sem.run_pure]
/-- append onto a slice with no bytes and no room. -/
theorem op_appE {x y : Operand} {v xv : Value} {ns : List UInt8} {w : World} {N : Nat} (h1 : ρ x = v) (h2 : ρ y = xv) (hv : ∃ b, v = .slice (some b) 0 0) (hr : RowV N w xv ns) (hl : ns.length ≤ 1000000) :
    ∃ v' w', (∀ o : Oper, o.op = .call { callee := .builtin .append, args := #[x, y], argTypes := #[27, 27] } → o.type = 27 → (execOp ρ o).run Try.prog w = .ok (.value v') w') ∧ RowV w'.heap.size w' v' ns ∧ Below w.heap.size w w' := by
  obtain ⟨b, rfl⟩ := hv
  obtain ⟨ad, m, c, rfl, q1, q2, q3, hrow⟩ := hr
  by_cases h0 : m = 0
  · subst h0
    obtain rfl : ns = [] := List.length_eq_zero_iff.1 hrow.1
    refine ⟨.slice (some b) 0 0, w, ?_, ⟨_, _, _, rfl, Nat.le_refl _, Nat.zero_le _, (by intro h; cases h), Row.nil _ _ _⟩, Below.refl _ _⟩
    intro o ho hty
    unfold execOp
    rw [ho]
    simp only [resolve, invoke, builtin, Sem.run_bind, Sem.run_pure, Result.andThen_ok, List.map_toArray, List.map_cons, List.map_nil, h1, h2, run_app0]
  · obtain ⟨b', off, rfl, _, _⟩ := hrow.2.2 0 (by omega)
    obtain ⟨hm, h4, h5⟩ := hrow
    subst hm
    obtain ⟨v', w', hr', q4, q5⟩ := run_appFull w 27 b [] (fun j hj => by simp at hj) ⟨b', off, none⟩ c ns (fun j hj => by
      obtain ⟨b2, off2, e, _, hc⟩ := h5 j hj
      cases e
      rw [Addr.add_mid]
      exact hc) (by omega) (by simpa using hl)
    refine ⟨v', w', ?_, q4.row (by simp; omega), q5⟩
    intro o ho hty
    unfold execOp
    rw [ho]
    have e0 : ([] : List UInt8).length = 0 := rfl
    rw [e0] at hr'
    simp only [resolve, invoke, builtin, Sem.run_bind, Sem.run_pure, Result.andThen_ok, List.map_toArray, List.map_cons, List.map_nil, h1, h2, hty, hr']
end
theorem getD'_no {b : List UInt8} (h : b.length < 64 ∨ b.getD 0 0 ≠ 66 ∨ b.getD 1 0 ≠ 74) : getD' b = noF := by unfold getD'; rw [if_pos h]
theorem getD'_size {b : List UInt8} (h : ¬ (b.length < 64 ∨ b.getD 0 0 ≠ 66 ∨ b.getD 1 0 ≠ 74)) (h2 : 64 * sizeF (lenF b) = 0 ∨ b.length < 64 * sizeF (lenF b)) : getD' b = noF := by unfold getD'; rw [if_neg h, if_pos h2]
theorem getD'_at {b : List UInt8} (h : ¬ (b.length < 64 ∨ b.getD 0 0 ≠ 66 ∨ b.getD 1 0 ≠ 74)) (h2 : ¬ (64 * sizeF (lenF b) = 0 ∨ b.length < 64 * sizeF (lenF b))) : getD' b =
    (if bytesD (kF b) (seqF b) (((zout 0 (b.take (64 * sizeF (lenF b)))).drop 13).take (lenF b)) = b.take (64 * sizeF (lenF b)) then
      (kF b, seqF b, ((zout 0 (b.take (64 * sizeF (lenF b)))).drop 13).take (lenF b), 64 * sizeF (lenF b)) else noF) := by
  unfold getD'
  rw [if_neg h, if_neg h2]
theorem zout_le : ∀ (l : List UInt8) (i : Nat), (zout i l).length ≤ l.length
  | [], _ => by simp [zout]
  | x :: l, i => by
    have := zout_le l (i + 1)
    rw [zout]
    split <;> simp only [List.length_cons] <;> omega
theorem zout_length : ∀ (n : Nat) (l : List UInt8) (i : Nat), i % 64 = 0 → l.length = 64 * n → (zout i l).length = 63 * n
  | 0, l, i, _, h => by
    obtain rfl : l = [] := List.length_eq_zero_iff.1 (by omega)
    simp [zout]
  | n + 1, l, i, hi, h => by
    have e : l = l.take 64 ++ l.drop 64 := (List.take_append_drop 64 l).symm
    have h64 : (l.take 64).length = 64 := by rw [List.length_take]; omega
    rw [e, zout_append, zout_sec hi h64, List.length_append, zout_length n (l.drop 64) _ (by omega) (by rw [List.length_drop]; omega), List.length_take, List.length_take]
    omega
theorem wp_noF (w w' : World) (hb : Below w.heap.size w w') : GotAt noF (.returned (.tuple #[.int .u8 0, .int .u64 0, .slice none 0 0, .int .i64 0])) w' ∧ Below w.heap.size w w' :=
  ⟨⟨_, rfl, RowV.nil _ _⟩, hb⟩
end Go.Proofs.Ytkcchadecnkgnaa
