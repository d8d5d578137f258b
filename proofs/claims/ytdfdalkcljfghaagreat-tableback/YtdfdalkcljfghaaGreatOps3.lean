/-
  Single operations of parts, each by itself.
-/
import Derived.Test.YtdfdalkcljfghaaGreatOps2
import Derived.Test.YtdfdalkcljfghaaGreatOwn
import Derived.Test.YtdfdalkcljfghaaGreatMath
namespace Go.Proofs.YtdfdalkcljfghaaGreat
open Go.RowKit

/-- What was done to parts, as cells. -/
def opV (x : OpT) : List Value := [.int .i64 x.1, .int .i64 x.2.1, .int .i64 x.2.2.1, .int .i64 x.2.2.2]
def opsV : List OpT → List Value
  | [] => []
  | x :: l => opV x ++ opsV l
theorem opV_length (x : OpT) : (opV x).length = 4 := rfl
theorem opV_one (x : OpT) : ∀ v ∈ opV x, v.oneCell' = true := by
  intro v hv
  simp only [opV, List.mem_cons, List.not_mem_nil, or_false] at hv
  rcases hv with rfl | rfl | rfl | rfl <;> rfl
theorem opsV_length : ∀ l : List OpT, (opsV l).length = l.length * 4
  | [] => rfl
  | x :: l => by
    rw [opsV, List.length_append, opV_length, opsV_length l, List.length_cons]
    omega
theorem opsV_snoc : ∀ (l : List OpT) (x : OpT), opsV (l ++ [x]) = opsV l ++ opV x
  | [], x => by simp [opsV]
  | y :: l, x => by
    rw [List.cons_append, opsV, opsV_snoc l x, opsV, List.append_assoc]
theorem opsV_range : ∀ {l : List OpT} {i : Nat}, i < l.length → ∀ j v, (opV (l.getD i (0, 0, 0, 0)))[j]? = some v → (opsV l)[i * 4 + j]? = some v
  | [], i, hi, _, _, _ => by simp at hi
  | s :: ss, 0, _, j, v, hv => by
    have hj : j < (opV s).length := (List.getElem?_eq_some_iff.1 (by simpa using hv)).1
    rw [opsV, Nat.zero_mul, Nat.zero_add, List.getElem?_append_left hj]
    simpa using hv
  | s :: ss, i + 1, hi, j, v, hv => by
    have h4 : (opV s).length = 4 := opV_length s
    rw [opsV, List.getElem?_append_right (by omega), h4, show (i + 1) * 4 + j - 4 = i * 4 + j by omega]
    exact opsV_range (by simpa using hi) j v (by simpa using hv)

theorem full39 : ∃ i, Tryz.prog.info? 155 = some i ∧ i.zero = some (.agg (opV (0, 0, 0, 0)).toArray) ∧ i.size = 4 ∧ i.bytes = 32 := infoOf (by kernel_rfl)
theorem built155 (a b c d : Int) : Tryz.prog.built 155 [(0, .int .i64 a), (1, .int .i64 b), (2, .int .i64 c), (3, .int .i64 d)] = some (opV (a, b, c, d)).toArray := by kernel_rfl

section
variable {ρ : Operand → Value} {o : Oper}
theorem op_add3 {x y : Operand} {a b c : Int} (ho : o.op = .binOp .add 3 x y 3) (h1 : ρ x = .int .i64 a) (h2 : ρ y = .int .i64 b) (hc : a + b = c) (hl : -9223372036854775808 ≤ c) (hh : c ≤ 9223372036854775807) (w : World) :
    (execOp ρ o).run Tryz.prog w = .ok (.value (.int .i64 c)) w := by
  have hw : IntKind.i64.wrap c = c := IntWalk.i64_in c ⟨hl, hh⟩
  subst hc
  unfold execOp
  rw [ho]
  go_simp
theorem op_sub3 {x y : Operand} {a b c : Int} (ho : o.op = .binOp .sub 3 x y 3) (h1 : ρ x = .int .i64 a) (h2 : ρ y = .int .i64 b) (hc : a - b = c) (hl : -9223372036854775808 ≤ c) (hh : c ≤ 9223372036854775807) (w : World) :
    (execOp ρ o).run Tryz.prog w = .ok (.value (.int .i64 c)) w := by
  have hw : IntKind.i64.wrap c = c := IntWalk.i64_in c ⟨hl, hh⟩
  subst hc
  unfold execOp
  rw [ho]
  go_simp
theorem op_mul3 {x y : Operand} {a b c : Int} (ho : o.op = .binOp .mul 3 x y 3) (h1 : ρ x = .int .i64 a) (h2 : ρ y = .int .i64 b) (hc : a * b = c) (hl : -9223372036854775808 ≤ c) (hh : c ≤ 9223372036854775807) (w : World) :
    (execOp ρ o).run Tryz.prog w = .ok (.value (.int .i64 c)) w := by
  have hw : IntKind.i64.wrap c = c := IntWalk.i64_in c ⟨hl, hh⟩
  subst hc
  unfold execOp
  rw [ho]
  go_simp
theorem op_build155 {x0 x1 x2 x3 : Operand} {a b c d : Int} (ho : o.op = .build 155 #[(0, x0), (1, x1), (2, x2), (3, x3)]) (h0 : ρ x0 = .int .i64 a) (h1 : ρ x1 = .int .i64 b) (h2 : ρ x2 = .int .i64 c) (h3 : ρ x3 = .int .i64 d) (w : World) :
    (execOp ρ o).run Tryz.prog w = .ok (.value (.agg (opV (a, b, c, d)).toArray)) w := by
  have hb := built155 a b c d
  unfold execOp
  rw [ho]
  simp only [List.map_toArray, List.map_cons, List.map_nil, h0, h1, h2, h3, Sem.run_bind, run_build w 155 _ _ hb, Result.andThen, Sem.run_pure]
theorem op_slice64 {x : Operand} {r : OpT} (ho : o.op = .buildSlice 64 1 #[(0, x)]) (h1 : ρ x = .agg (opV r).toArray) (w : World) :
    (execOp ρ o).run Tryz.prog w = .ok (.value (.slice (some ⟨w.heap.size, 0, none⟩) 1 1)) (w.alloc (.cells (opV r).toArray 155)) := by
  obtain ⟨i, i1, i2, i3, i4⟩ := full39
  have hf : Instr.fill (fun j => some (j * i.size, i.size)) ((Array.range (1 * i.size)).map ((Value.agg (opV (0, 0, 0, 0)).toArray).cells[· % (Value.agg (opV (0, 0, 0, 0)).toArray).cells.size]!)) [(0, .agg (opV r).toArray)] = some (opV r).toArray := by
    rw [i3]
    kernel_rfl
  have hr := run_buildSlice (P := Tryz.prog) w 64 155 1 #[(0, .agg (opV r).toArray)] (opV r).toArray i _ Tryz.underlying64 i1 i2 (by rw [i3]; decide) (by rw [i3]; decide) hf
  unfold execOp
  rw [ho]
  simp only [List.map_toArray, List.map_cons, List.map_nil, h1, Sem.run_bind, hr, Result.andThen_ok, Sem.run_pure]
theorem op_app64 {x y : Operand} {r : OpT} {l : List OpT} {v : Value} {b : Nat} {w : World} (h1 : ρ x = v) (h2 : ρ y = .slice (some ⟨b, 0, none⟩) 1 1)
    (hown : w.ownsRow 0 155 4 v l.length (opsV l)) (hb : Arr w b (opV r)) (hlen : l.length ≤ 1000000) :
    ∃ v' w', (∀ o : Oper, o.op = .call { callee := .builtin .append, args := #[x, y], argTypes := #[64, 64] } → o.type = 64 → (execOp ρ o).run Tryz.prog w = .ok (.value v') w') ∧ w'.ownsRow 0 155 4 v' (l ++ [r]).length (opsV (l ++ [r])) ∧ w.grownBy w' v.ownBlock ∧ ∀ k ∈ v'.ownBlock.toList, k ∈ v.ownBlock.toList ∨ w.heap.size ≤ k := by
  obtain ⟨i, i1, i2, i3, i4⟩ := full39
  have hown' : w.ownsRow 0 155 i.size v l.length (opsV l) := by rw [i3]; exact hown
  obtain ⟨v', w', hr, q1, q2, q3⟩ := append_where 64 64 155 i _ Tryz.underlying64 i1 i2 (by rw [i3]; rfl) (by rw [i3]; decide) v l.length (opsV l) hown' ⟨b, 0, none⟩ 1 1 (opV r) (by rw [opV_length, i3]) (fun j u hj => by
    rw [Addr.add_mid, Nat.zero_add]; exact hb.cell hj) (opV_one r) (by decide) (by simp only [maxLen]; omega) (by rw [i4]; omega)
  refine ⟨v', w', ?_, ?_, q2, q3⟩
  · intro o ho hty
    unfold execOp
    rw [ho]
    simp only [hty, resolve, invoke, builtin, Sem.run_bind, Sem.run_pure, Result.andThen_ok, List.map_toArray, List.map_cons, List.map_nil, h1, h2, hr]
  · rw [opsV_snoc, List.length_append]
    rw [i3] at q1
    exact q1
theorem op_store64 {x y : Operand} {g k n c : Nat} {ad : Option Addr} {u : Value} {w : World} (ho : o.op = .store 64 x y) (h1 : ρ x = .pointer (some ⟨g, k, none⟩)) (h2 : ρ y = .slice ad n c) (hc : w.cell? ⟨g, k, none⟩ = some u) (hf : w.frozen? ⟨g, k, none⟩ = false) :
    (execOp ρ o).run Tryz.prog w = .ok .skip (w.setCell ⟨g, k, none⟩ (.slice ad n c)) := by
  unfold execOp
  rw [ho]
  go_simp
theorem op_idx64 {x y : Operand} {g n c k : Nat} (ho : o.op = .indexAddr 64 x y) (h1 : ρ x = .slice (some ⟨g, 0, none⟩) n c) (h2 : ρ y = .int .i64 (k : Int)) (hk : k < n) (w : World) :
    (execOp ρ o).run Tryz.prog w = .ok (.value (.pointer (some ⟨g, k * 4, none⟩))) w := by
  unfold execOp
  rw [ho]
  go_simp
theorem op_load155 {x : Operand} {g k : Nat} {r : OpT} {w : World} (ho : o.op = .load 155 x) (h1 : ρ x = .pointer (some ⟨g, k, none⟩)) (hr : w.rangeAt g k (opV r)) :
    (execOp ρ o).run Tryz.prog w = .ok (.value (.agg (opV r).toArray)) w := by
  unfold execOp
  rw [ho]
  simp only [h1, Sem.run_bind, Sem.run_pure, run_loadAt_mid (P := Tryz.prog) w g k 155 (opV r) _ hr Tryz.underlying155 rfl (by kernel_rfl), Result.andThen_ok]
theorem op_len64 {x : Operand} {ad : Option Addr} {n c : Nat} (ho : o.op = .call { callee := .builtin .len, args := #[x], argTypes := #[64] }) (h1 : ρ x = .slice ad n c) (w : World) :
    (execOp ρ o).run Tryz.prog w = .ok (.value (.int .i64 (n : Int))) w := by
  unfold execOp
  rw [ho]
  go_simp
theorem op_len63 {x : Operand} {ad : Option Addr} {n c : Nat} (ho : o.op = .call { callee := .builtin .len, args := #[x], argTypes := #[63] }) (h1 : ρ x = .slice ad n c) (w : World) :
    (execOp ρ o).run Tryz.prog w = .ok (.value (.int .i64 (n : Int))) w := by
  unfold execOp
  rw [ho]
  go_simp
end
theorem run_equal155 (x y : OpT) (w : World) : (Op.equalIn 10000 155 (.agg (opV x).toArray) (.agg (opV y).toArray)).run Tryz.prog w = .ok (x == y) w := by
  obtain ⟨a, b, c, d⟩ := x
  obtain ⟨e, f, g, h⟩ := y
  have u3 := Tryz.underlying3
  have hS : Tryz.prog.underlying 155 = some (.struct (Tryz.prog.fieldsOf 155)) := by kernel_rfl
  have hp : Tryz.prog.stoodInHeld 155 = false := by kernel_rfl
  rw [show (10000 : Nat) = 9999 + 1 from rfl, run_equalIn_agg w 9999 155 _ _ hS hp]
  simp only [Program.fieldsOf, Tryz.underlying155, opV]
  go_simp
  by_cases h1 : a = e <;> by_cases h2 : b = f <;> by_cases h3 : c = g <;> by_cases h4 : d = h <;> simp [h1, h2, h3, h4]
section
variable {ρ : Operand → Value} {o : Oper}
theorem op_eql155 {u v : Operand} {x y : OpT} {r : Bool} (ho : o.op = .binOp .eql 155 u v 155) (h1 : ρ u = .agg (opV x).toArray) (h2 : ρ v = .agg (opV y).toArray) (hr : (x == y) = r) (w : World) :
    (execOp ρ o).run Tryz.prog w = .ok (.value (.bool r)) w := by
  subst hr
  obtain ⟨a, b, c, d⟩ := x
  obtain ⟨e, f, g, h⟩ := y
  unfold opV at h1 h2
  unfold execOp
  rw [ho]
  go_simp
  by_cases h3 : a = e <;> by_cases h4 : b = f <;> by_cases h5 : c = g <;> by_cases h6 : d = h <;> simp [h3, h4, h5, h6]
theorem op_neq155 {u v : Operand} {x y : OpT} {r : Bool} (ho : o.op = .binOp .neq 155 u v 155) (h1 : ρ u = .agg (opV x).toArray) (h2 : ρ v = .agg (opV y).toArray) (hr : (!(x == y)) = r) (w : World) :
    (execOp ρ o).run Tryz.prog w = .ok (.value (.bool r)) w := by
  subst hr
  obtain ⟨a, b, c, d⟩ := x
  obtain ⟨e, f, g, h⟩ := y
  unfold opV at h1 h2
  unfold execOp
  rw [ho]
  go_simp
  by_cases h3 : a = e <;> by_cases h4 : b = f <;> by_cases h5 : c = g <;> by_cases h6 : d = h <;> simp [h3, h4, h5, h6]
end
end Go.Proofs.YtdfdalkcljfghaaGreat
