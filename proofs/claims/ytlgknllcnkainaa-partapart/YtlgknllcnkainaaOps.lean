/-
  Single operations, each by itself.
-/
import Derived.Test.YtlgknllcnkainaaDev
import Derived.Test.YtlgknllcnkainaaFlow
namespace Go.Proofs.Ytlgknllcnkainaa
open Go.RowKit

theorem fold_set (off : Nat) : ∀ (vs : List Value) (k : Nat) (pre cs post : List Value), pre.length = off + k → cs.length = vs.length →
    (vs.zipIdx k).foldl (fun (cs : Array Value) x => cs.setIfInBounds (off + x.2) x.1) (pre ++ (cs ++ post)).toArray = (pre ++ (vs ++ post)).toArray
  | [], _, pre, cs, post, _, hl => by
    obtain rfl : cs = [] := List.eq_nil_of_length_eq_zero (by simpa using hl)
    rfl
  | v :: vs, k, pre, [], post, _, hl => by simp at hl
  | v :: vs, k, pre, c :: cs, post, hp, hl => by
    rw [List.zipIdx_cons, List.foldl_cons, List.setIfInBounds_toArray]
    have e : (pre ++ (c :: cs ++ post)).set (off + k) v = (pre ++ [v]) ++ (cs ++ post) := by
      rw [List.set_append_right _ v (by omega), hp, Nat.sub_self]
      simp
    have ih := fold_set off vs (k + 1) (pre ++ [v]) cs post (by simp [hp]; omega) (by simpa using hl)
    rw [e, ih]
    simp
theorem fillDone (n : Nat) (s : Sec) (hs : s.length = 64) : Instr.fill ((#[(0, 1), (1, 64)] : Array (Nat × Nat))[·]?) (doneV (0, zeroS)).toArray [(0, .int .i64 (n : Int)), (1, secV s)] = some (doneV (n, s)).toArray := by
  have hz : (bytesV s).length = 64 := by rw [bytesV_length, hs]
  simp [Instr.fill, secV, Value.cells, hz]
  refine ⟨by simp [doneV], by rw [doneV_length zeroS_len]; decide, ?_⟩
  have h := fold_set 1 (bytesV s) 0 [.int .i64 (n : Int)] (bytesV zeroS) [] rfl (by rw [hz, bytesV_length, zeroS_len])
  simpa [doneV] using h
theorem built101 (n : Nat) (s : Sec) (hs : s.length = 64) : Try.prog.built 101 [(0, .int .i64 (n : Int)), (1, secV s)] = some (doneV (n, s)).toArray := by
  rw [← fillDone n s hs]
  kernel_rfl
theorem built99 (n : Nat) (s : Sec) (hs : s.length = 64) : Try.prog.built 99 [(0, .int .i64 (n : Int)), (1, secV s)] = some (doneV (n, s)).toArray := by
  rw [← fillDone n s hs]
  kernel_rfl

section
variable {ρ : Operand → Value} {o : Oper}
theorem op_nil {x : Operand} {g : Nat} (ho : o.op = .nilCheck x) (h1 : ρ x = .pointer (some ⟨g, 0, none⟩)) (w : World) :
    (execOp ρ o).run Try.prog w = .ok (.value (.pointer (some ⟨g, 0, none⟩))) w := by
  unfold execOp
  rw [ho]
  go_simp
theorem op_f82_0 {x : Operand} {g : Nat} (ho : o.op = .fieldAddr 82 x 0) (h1 : ρ x = .pointer (some ⟨g, 0, none⟩)) (w : World) :
    (execOp ρ o).run Try.prog w = .ok (.value (.pointer (some ⟨g, 0, none⟩))) w := by
  unfold execOp
  rw [ho]
  go_simp
theorem op_f82_1 {x : Operand} {g : Nat} (ho : o.op = .fieldAddr 82 x 1) (h1 : ρ x = .pointer (some ⟨g, 0, none⟩)) (w : World) :
    (execOp ρ o).run Try.prog w = .ok (.value (.pointer (some ⟨g, 1, none⟩))) w := by
  unfold execOp
  rw [ho]
  go_simp
theorem op_f82_2 {x : Operand} {g : Nat} (ho : o.op = .fieldAddr 82 x 2) (h1 : ρ x = .pointer (some ⟨g, 0, none⟩)) (w : World) :
    (execOp ρ o).run Try.prog w = .ok (.value (.pointer (some ⟨g, 2, none⟩))) w := by
  unfold execOp
  rw [ho]
  go_simp
theorem op_f82_3 {x : Operand} {g : Nat} (ho : o.op = .fieldAddr 82 x 3) (h1 : ρ x = .pointer (some ⟨g, 0, none⟩)) (w : World) :
    (execOp ρ o).run Try.prog w = .ok (.value (.pointer (some ⟨g, 3, none⟩))) w := by
  unfold execOp
  rw [ho]
  go_simp
theorem op_f82_4 {x : Operand} {g : Nat} (ho : o.op = .fieldAddr 82 x 4) (h1 : ρ x = .pointer (some ⟨g, 0, none⟩)) (w : World) :
    (execOp ρ o).run Try.prog w = .ok (.value (.pointer (some ⟨g, 4, none⟩))) w := by
  unfold execOp
  rw [ho]
  go_simp
theorem op_f82_5 {x : Operand} {g : Nat} (ho : o.op = .fieldAddr 82 x 5) (h1 : ρ x = .pointer (some ⟨g, 0, none⟩)) (w : World) :
    (execOp ρ o).run Try.prog w = .ok (.value (.pointer (some ⟨g, 5, none⟩))) w := by
  unfold execOp
  rw [ho]
  go_simp
theorem op_f82_6 {x : Operand} {g : Nat} (ho : o.op = .fieldAddr 82 x 6) (h1 : ρ x = .pointer (some ⟨g, 0, none⟩)) (w : World) :
    (execOp ρ o).run Try.prog w = .ok (.value (.pointer (some ⟨g, 6, none⟩))) w := by
  unfold execOp
  rw [ho]
  go_simp
theorem op_f92_0 {x : Operand} {g : Nat} (ho : o.op = .fieldAddr 92 x 0) (h1 : ρ x = .pointer (some ⟨g, 0, none⟩)) (w : World) :
    (execOp ρ o).run Try.prog w = .ok (.value (.pointer (some ⟨g, 0, none⟩))) w := by
  unfold execOp
  rw [ho]
  go_simp
theorem op_f92_1 {x : Operand} {g : Nat} (ho : o.op = .fieldAddr 92 x 1) (h1 : ρ x = .pointer (some ⟨g, 0, none⟩)) (w : World) :
    (execOp ρ o).run Try.prog w = .ok (.value (.pointer (some ⟨g, 1, none⟩))) w := by
  unfold execOp
  rw [ho]
  go_simp
theorem op_f92_2 {x : Operand} {g : Nat} (ho : o.op = .fieldAddr 92 x 2) (h1 : ρ x = .pointer (some ⟨g, 0, none⟩)) (w : World) :
    (execOp ρ o).run Try.prog w = .ok (.value (.pointer (some ⟨g, 2, none⟩))) w := by
  unfold execOp
  rw [ho]
  go_simp
theorem op_f92_3 {x : Operand} {g : Nat} (ho : o.op = .fieldAddr 92 x 3) (h1 : ρ x = .pointer (some ⟨g, 0, none⟩)) (w : World) :
    (execOp ρ o).run Try.prog w = .ok (.value (.pointer (some ⟨g, 3, none⟩))) w := by
  unfold execOp
  rw [ho]
  go_simp
theorem op_f92_4 {x : Operand} {g : Nat} (ho : o.op = .fieldAddr 92 x 4) (h1 : ρ x = .pointer (some ⟨g, 0, none⟩)) (w : World) :
    (execOp ρ o).run Try.prog w = .ok (.value (.pointer (some ⟨g, 4, none⟩))) w := by
  unfold execOp
  rw [ho]
  go_simp
theorem op_f92_5 {x : Operand} {g : Nat} (ho : o.op = .fieldAddr 92 x 5) (h1 : ρ x = .pointer (some ⟨g, 0, none⟩)) (w : World) :
    (execOp ρ o).run Try.prog w = .ok (.value (.pointer (some ⟨g, 5, none⟩))) w := by
  unfold execOp
  rw [ho]
  go_simp
theorem op_f92_6 {x : Operand} {g : Nat} (ho : o.op = .fieldAddr 92 x 6) (h1 : ρ x = .pointer (some ⟨g, 0, none⟩)) (w : World) :
    (execOp ρ o).run Try.prog w = .ok (.value (.pointer (some ⟨g, 6, none⟩))) w := by
  unfold execOp
  rw [ho]
  go_simp
theorem op_f101_0 {x : Operand} {g : Nat} (ho : o.op = .fieldAddr 101 x 0) (h1 : ρ x = .pointer (some ⟨g, 0, none⟩)) (w : World) :
    (execOp ρ o).run Try.prog w = .ok (.value (.pointer (some ⟨g, 0, none⟩))) w := by
  unfold execOp
  rw [ho]
  go_simp
theorem op_f101_1 {x : Operand} {g : Nat} (ho : o.op = .fieldAddr 101 x 1) (h1 : ρ x = .pointer (some ⟨g, 0, none⟩)) (w : World) :
    (execOp ρ o).run Try.prog w = .ok (.value (.pointer (some ⟨g, 1, none⟩))) w := by
  unfold execOp
  rw [ho]
  go_simp
theorem op_f99_0 {x : Operand} {g : Nat} (ho : o.op = .fieldAddr 99 x 0) (h1 : ρ x = .pointer (some ⟨g, 0, none⟩)) (w : World) :
    (execOp ρ o).run Try.prog w = .ok (.value (.pointer (some ⟨g, 0, none⟩))) w := by
  unfold execOp
  rw [ho]
  go_simp
theorem op_f99_1 {x : Operand} {g : Nat} (ho : o.op = .fieldAddr 99 x 1) (h1 : ρ x = .pointer (some ⟨g, 0, none⟩)) (w : World) :
    (execOp ρ o).run Try.prog w = .ok (.value (.pointer (some ⟨g, 1, none⟩))) w := by
  unfold execOp
  rw [ho]
  go_simp
theorem op_f51_0 {x : Operand} {g : Nat} (ho : o.op = .fieldAddr 51 x 0) (h1 : ρ x = .pointer (some ⟨g, 0, none⟩)) (w : World) :
    (execOp ρ o).run Try.prog w = .ok (.value (.pointer (some ⟨g, 0, none⟩))) w := by
  unfold execOp
  rw [ho]
  go_simp
theorem op_f51_1 {x : Operand} {g : Nat} (ho : o.op = .fieldAddr 51 x 1) (h1 : ρ x = .pointer (some ⟨g, 0, none⟩)) (w : World) :
    (execOp ρ o).run Try.prog w = .ok (.value (.pointer (some ⟨g, 1, none⟩))) w := by
  unfold execOp
  rw [ho]
  go_simp
theorem op_f51_2 {x : Operand} {g : Nat} (ho : o.op = .fieldAddr 51 x 2) (h1 : ρ x = .pointer (some ⟨g, 0, none⟩)) (w : World) :
    (execOp ρ o).run Try.prog w = .ok (.value (.pointer (some ⟨g, 2, none⟩))) w := by
  unfold execOp
  rw [ho]
  go_simp
theorem op_f51_3 {x : Operand} {g : Nat} (ho : o.op = .fieldAddr 51 x 3) (h1 : ρ x = .pointer (some ⟨g, 0, none⟩)) (w : World) :
    (execOp ρ o).run Try.prog w = .ok (.value (.pointer (some ⟨g, 3, none⟩))) w := by
  unfold execOp
  rw [ho]
  go_simp
theorem op_f51_4 {x : Operand} {g : Nat} (ho : o.op = .fieldAddr 51 x 4) (h1 : ρ x = .pointer (some ⟨g, 0, none⟩)) (w : World) :
    (execOp ρ o).run Try.prog w = .ok (.value (.pointer (some ⟨g, 4, none⟩))) w := by
  unfold execOp
  rw [ho]
  go_simp
theorem op_f84_0 {x : Operand} {g : Nat} (ho : o.op = .fieldAddr 84 x 0) (h1 : ρ x = .pointer (some ⟨g, 0, none⟩)) (w : World) :
    (execOp ρ o).run Try.prog w = .ok (.value (.pointer (some ⟨g, 0, none⟩))) w := by
  unfold execOp
  rw [ho]
  go_simp
theorem op_f84_1 {x : Operand} {g : Nat} (ho : o.op = .fieldAddr 84 x 1) (h1 : ρ x = .pointer (some ⟨g, 0, none⟩)) (w : World) :
    (execOp ρ o).run Try.prog w = .ok (.value (.pointer (some ⟨g, 1, none⟩))) w := by
  unfold execOp
  rw [ho]
  go_simp
theorem op_f84_2 {x : Operand} {g : Nat} (ho : o.op = .fieldAddr 84 x 2) (h1 : ρ x = .pointer (some ⟨g, 0, none⟩)) (w : World) :
    (execOp ρ o).run Try.prog w = .ok (.value (.pointer (some ⟨g, 2, none⟩))) w := by
  unfold execOp
  rw [ho]
  go_simp
theorem op_f84_3 {x : Operand} {g : Nat} (ho : o.op = .fieldAddr 84 x 3) (h1 : ρ x = .pointer (some ⟨g, 0, none⟩)) (w : World) :
    (execOp ρ o).run Try.prog w = .ok (.value (.pointer (some ⟨g, 3, none⟩))) w := by
  unfold execOp
  rw [ho]
  go_simp
theorem op_f48_0 {x : Operand} {g : Nat} (ho : o.op = .fieldAddr 48 x 0) (h1 : ρ x = .pointer (some ⟨g, 0, none⟩)) (w : World) :
    (execOp ρ o).run Try.prog w = .ok (.value (.pointer (some ⟨g, 0, none⟩))) w := by
  unfold execOp
  rw [ho]
  go_simp
theorem op_f48_1 {x : Operand} {g : Nat} (ho : o.op = .fieldAddr 48 x 1) (h1 : ρ x = .pointer (some ⟨g, 0, none⟩)) (w : World) :
    (execOp ρ o).run Try.prog w = .ok (.value (.pointer (some ⟨g, 1, none⟩))) w := by
  unfold execOp
  rw [ho]
  go_simp
theorem op_f48_2 {x : Operand} {g : Nat} (ho : o.op = .fieldAddr 48 x 2) (h1 : ρ x = .pointer (some ⟨g, 0, none⟩)) (w : World) :
    (execOp ρ o).run Try.prog w = .ok (.value (.pointer (some ⟨g, 2, none⟩))) w := by
  unfold execOp
  rw [ho]
  go_simp
theorem op_f48_3 {x : Operand} {g : Nat} (ho : o.op = .fieldAddr 48 x 3) (h1 : ρ x = .pointer (some ⟨g, 0, none⟩)) (w : World) :
    (execOp ρ o).run Try.prog w = .ok (.value (.pointer (some ⟨g, 3, none⟩))) w := by
  unfold execOp
  rw [ho]
  go_simp
theorem op_f39_0 {x : Operand} {g : Nat} (ho : o.op = .fieldAddr 39 x 0) (h1 : ρ x = .pointer (some ⟨g, 0, none⟩)) (w : World) :
    (execOp ρ o).run Try.prog w = .ok (.value (.pointer (some ⟨g, 0, none⟩))) w := by
  unfold execOp
  rw [ho]
  go_simp
theorem op_f39_1 {x : Operand} {g : Nat} (ho : o.op = .fieldAddr 39 x 1) (h1 : ρ x = .pointer (some ⟨g, 0, none⟩)) (w : World) :
    (execOp ρ o).run Try.prog w = .ok (.value (.pointer (some ⟨g, 1, none⟩))) w := by
  unfold execOp
  rw [ho]
  go_simp
theorem op_f39_2 {x : Operand} {g : Nat} (ho : o.op = .fieldAddr 39 x 2) (h1 : ρ x = .pointer (some ⟨g, 0, none⟩)) (w : World) :
    (execOp ρ o).run Try.prog w = .ok (.value (.pointer (some ⟨g, 2, none⟩))) w := by
  unfold execOp
  rw [ho]
  go_simp
theorem op_f39_3 {x : Operand} {g : Nat} (ho : o.op = .fieldAddr 39 x 3) (h1 : ρ x = .pointer (some ⟨g, 0, none⟩)) (w : World) :
    (execOp ρ o).run Try.prog w = .ok (.value (.pointer (some ⟨g, 3, none⟩))) w := by
  unfold execOp
  rw [ho]
  go_simp
theorem op_load9 {x : Operand} {g k : Nat} {v : Value} {w : World} (ho : o.op = .load 9 x) (h1 : ρ x = .pointer (some ⟨g, k, none⟩)) (hc : w.cell? ⟨g, k, none⟩ = some v) :
    (execOp ρ o).run Try.prog w = .ok (.value v) w := by
  unfold execOp
  rw [ho]
  go_simp
theorem op_load23 {x : Operand} {g k : Nat} {v : Value} {w : World} (ho : o.op = .load 23 x) (h1 : ρ x = .pointer (some ⟨g, k, none⟩)) (hc : w.cell? ⟨g, k, none⟩ = some v) :
    (execOp ρ o).run Try.prog w = .ok (.value v) w := by
  unfold execOp
  rw [ho]
  go_simp
theorem op_load36 {x : Operand} {g k : Nat} {v : Value} {w : World} (ho : o.op = .load 36 x) (h1 : ρ x = .pointer (some ⟨g, k, none⟩)) (hc : w.cell? ⟨g, k, none⟩ = some v) :
    (execOp ρ o).run Try.prog w = .ok (.value v) w := by
  unfold execOp
  rw [ho]
  go_simp
theorem op_load45 {x : Operand} {g k : Nat} {v : Value} {w : World} (ho : o.op = .load 45 x) (h1 : ρ x = .pointer (some ⟨g, k, none⟩)) (hc : w.cell? ⟨g, k, none⟩ = some v) :
    (execOp ρ o).run Try.prog w = .ok (.value v) w := by
  unfold execOp
  rw [ho]
  go_simp
theorem op_load3 {x : Operand} {g k : Nat} {v : Value} {w : World} (ho : o.op = .load 3 x) (h1 : ρ x = .pointer (some ⟨g, k, none⟩)) (hc : w.cell? ⟨g, k, none⟩ = some v) :
    (execOp ρ o).run Try.prog w = .ok (.value v) w := by
  unfold execOp
  rw [ho]
  go_simp
theorem op_load4 {x : Operand} {g k : Nat} {v : Value} {w : World} (ho : o.op = .load 4 x) (h1 : ρ x = .pointer (some ⟨g, k, none⟩)) (hc : w.cell? ⟨g, k, none⟩ = some v) :
    (execOp ρ o).run Try.prog w = .ok (.value v) w := by
  unfold execOp
  rw [ho]
  go_simp
theorem op_load5 {x : Operand} {g k : Nat} {v : Value} {w : World} (ho : o.op = .load 5 x) (h1 : ρ x = .pointer (some ⟨g, k, none⟩)) (hc : w.cell? ⟨g, k, none⟩ = some v) :
    (execOp ρ o).run Try.prog w = .ok (.value v) w := by
  unfold execOp
  rw [ho]
  go_simp
theorem op_load49 {x : Operand} {g k : Nat} {v : Value} {w : World} (ho : o.op = .load 49 x) (h1 : ρ x = .pointer (some ⟨g, k, none⟩)) (hc : w.cell? ⟨g, k, none⟩ = some v) :
    (execOp ρ o).run Try.prog w = .ok (.value v) w := by
  unfold execOp
  rw [ho]
  go_simp
theorem op_load78 {x : Operand} {g k : Nat} {v : Value} {w : World} (ho : o.op = .load 78 x) (h1 : ρ x = .pointer (some ⟨g, k, none⟩)) (hc : w.cell? ⟨g, k, none⟩ = some v) :
    (execOp ρ o).run Try.prog w = .ok (.value v) w := by
  unfold execOp
  rw [ho]
  go_simp
theorem op_load41 {x : Operand} {g k : Nat} {v : Value} {w : World} (ho : o.op = .load 41 x) (h1 : ρ x = .pointer (some ⟨g, k, none⟩)) (hc : w.cell? ⟨g, k, none⟩ = some v) :
    (execOp ρ o).run Try.prog w = .ok (.value v) w := by
  unfold execOp
  rw [ho]
  go_simp
theorem op_load90 {x : Operand} {g k : Nat} {v : Value} {w : World} (ho : o.op = .load 90 x) (h1 : ρ x = .pointer (some ⟨g, k, none⟩)) (hc : w.cell? ⟨g, k, none⟩ = some v) :
    (execOp ρ o).run Try.prog w = .ok (.value v) w := by
  unfold execOp
  rw [ho]
  go_simp
theorem op_load80 {x : Operand} {g k : Nat} {v : Value} {w : World} (ho : o.op = .load 80 x) (h1 : ρ x = .pointer (some ⟨g, k, none⟩)) (hc : w.cell? ⟨g, k, none⟩ = some v) :
    (execOp ρ o).run Try.prog w = .ok (.value v) w := by
  unfold execOp
  rw [ho]
  go_simp
theorem op_load30 {x : Operand} {g k : Nat} {s : Sec} {w : World} (ho : o.op = .load 30 x) (h1 : ρ x = .pointer (some ⟨g, k, none⟩)) (hr : w.rangeAt g k (bytesV s)) (hs : s.length = 64) :
    (execOp ρ o).run Try.prog w = .ok (.value (secV s)) w := by
  unfold execOp
  rw [ho]
  simp only [h1, Sem.run_bind, Sem.run_pure, run_loadAt_mid (P := Try.prog) w g k 30 (bytesV s) _ hr Try.underlying30 rfl (info30s hs), Result.andThen_ok]
  rfl
theorem op_store30 {x y : Operand} {g k : Nat} {s : Sec} {w : World} (ho : o.op = .store 30 x y) (h1 : ρ x = .pointer (some ⟨g, k, none⟩)) (h2 : ρ y = secV s) (hr : w.there g k 64) (hs : s.length = 64) :
    (execOp ρ o).run Try.prog w = .ok .skip (w.setCells g k (bytesV s)) := by
  have hsz : (bytesV s).toArray.size = 64 := by simp [bytesV_length, hs]
  unfold execOp
  rw [ho]
  unfold secV at h2
  simp only [h1, h2, Sem.run_bind, Sem.run_pure, run_storeAt_mid (P := Try.prog) w g k 30 (bytesV s).toArray (by rw [hsz]; exact hr) (by rw [hsz]; exact info30) (all_oneCell_toArray (bytesV_one s)), Result.andThen_ok]
theorem op_idx78 {x y : Operand} {g n c k : Nat} (ho : o.op = .indexAddr 78 x y) (h1 : ρ x = .slice (some ⟨g, 0, none⟩) n c) (h2 : ρ y = .int .i64 (k : Int)) (hk : k < n) (w : World) :
    (execOp ρ o).run Try.prog w = .ok (.value (.pointer (some ⟨g, k * 64, none⟩))) w := by
  unfold execOp
  rw [ho]
  go_simp
theorem op_idx41 {x y : Operand} {g n c k : Nat} (ho : o.op = .indexAddr 41 x y) (h1 : ρ x = .slice (some ⟨g, 0, none⟩) n c) (h2 : ρ y = .int .i64 (k : Int)) (hk : k < n) (w : World) :
    (execOp ρ o).run Try.prog w = .ok (.value (.pointer (some ⟨g, k, none⟩))) w := by
  unfold execOp
  rw [ho]
  go_simp
theorem op_idx80 {x y : Operand} {g n c k : Nat} (ho : o.op = .indexAddr 80 x y) (h1 : ρ x = .slice (some ⟨g, 0, none⟩) n c) (h2 : ρ y = .int .i64 (k : Int)) (hk : k < n) (w : World) :
    (execOp ρ o).run Try.prog w = .ok (.value (.pointer (some ⟨g, k * 65, none⟩))) w := by
  unfold execOp
  rw [ho]
  go_simp
theorem op_idx90 {x y : Operand} {g n c k : Nat} (ho : o.op = .indexAddr 90 x y) (h1 : ρ x = .slice (some ⟨g, 0, none⟩) n c) (h2 : ρ y = .int .i64 (k : Int)) (hk : k < n) (w : World) :
    (execOp ρ o).run Try.prog w = .ok (.value (.pointer (some ⟨g, k * 65, none⟩))) w := by
  unfold execOp
  rw [ho]
  go_simp
theorem op_idx30 {x y : Operand} {g b k : Nat} (ho : o.op = .indexAddr 30 x y) (h1 : ρ x = .pointer (some ⟨g, b, none⟩)) (h2 : ρ y = .int .i64 (k : Int)) (hk : k < 64) (w : World) :
    (execOp ρ o).run Try.prog w = .ok (.value (.pointer (some ⟨g, b + k, none⟩))) w := by
  have hk2 : (k : Int) < 64 := by omega
  have hk3 : ¬ (64 : Int) ≤ (k : Int) := by omega
  unfold execOp
  rw [ho]
  go_simp
theorem op_storeW {t : TypeId} {x y : Operand} {g k : Nat} {v : Value} {w : World} (ho : o.op = .store t x y) (h1 : ρ x = .pointer (some ⟨g, k, none⟩)) (h2 : ρ y = v)
    (hr : (Instr.storeAt t (.pointer (some ⟨g, k, none⟩)) v).run Try.prog w = .ok () (w.setCell ⟨g, k, none⟩ v)) :
    (execOp ρ o).run Try.prog w = .ok .skip (w.setCell ⟨g, k, none⟩ v) := by
  unfold execOp
  rw [ho]
  simp only [h1, h2, Sem.run_bind, hr, Result.andThen_ok, Sem.run_pure]
theorem op_store80 {x y : Operand} {g k n c : Nat} {ad : Option Addr} {u : Value} {w : World} (ho : o.op = .store 80 x y) (h1 : ρ x = .pointer (some ⟨g, k, none⟩)) (h2 : ρ y = .slice ad n c) (hc : w.cell? ⟨g, k, none⟩ = some u) (hf : w.frozen? ⟨g, k, none⟩ = false) :
    (execOp ρ o).run Try.prog w = .ok .skip (w.setCell ⟨g, k, none⟩ (.slice ad n c)) := by
  unfold execOp
  rw [ho]
  go_simp
theorem op_store90 {x y : Operand} {g k n c : Nat} {ad : Option Addr} {u : Value} {w : World} (ho : o.op = .store 90 x y) (h1 : ρ x = .pointer (some ⟨g, k, none⟩)) (h2 : ρ y = .slice ad n c) (hc : w.cell? ⟨g, k, none⟩ = some u) (hf : w.frozen? ⟨g, k, none⟩ = false) :
    (execOp ρ o).run Try.prog w = .ok .skip (w.setCell ⟨g, k, none⟩ (.slice ad n c)) := by
  unfold execOp
  rw [ho]
  go_simp
theorem op_store5 {x y : Operand} {g k : Nat} {n : Int} {u : Value} {w : World} (ho : o.op = .store 5 x y) (h1 : ρ x = .pointer (some ⟨g, k, none⟩)) (h2 : ρ y = .int .u8 n) (hc : w.cell? ⟨g, k, none⟩ = some u) (hf : w.frozen? ⟨g, k, none⟩ = false) :
    (execOp ρ o).run Try.prog w = .ok .skip (w.setCell ⟨g, k, none⟩ (.int .u8 n)) := by
  unfold execOp
  rw [ho]
  go_simp
theorem op_build101 {x y : Operand} {n : Nat} {s : Sec} (ho : o.op = .build 101 #[(0, x), (1, y)]) (h1 : ρ x = .int .i64 (n : Int)) (h2 : ρ y = secV s) (hs : s.length = 64) (w : World) :
    (execOp ρ o).run Try.prog w = .ok (.value (.agg (doneV (n, s)).toArray)) w := by
  have hb := built101 n s hs
  unfold execOp
  rw [ho]
  simp only [List.map_toArray, List.map_cons, List.map_nil, h1, h2, Sem.run_bind, run_build w 101 _ _ hb, Result.andThen, Sem.run_pure]
theorem op_build99 {x y : Operand} {n : Nat} {s : Sec} (ho : o.op = .build 99 #[(0, x), (1, y)]) (h1 : ρ x = .int .i64 (n : Int)) (h2 : ρ y = secV s) (hs : s.length = 64) (w : World) :
    (execOp ρ o).run Try.prog w = .ok (.value (.agg (doneV (n, s)).toArray)) w := by
  have hb := built99 n s hs
  unfold execOp
  rw [ho]
  simp only [List.map_toArray, List.map_cons, List.map_nil, h1, h2, Sem.run_bind, run_build w 99 _ _ hb, Result.andThen, Sem.run_pure]
end
end Go.Proofs.Ytlgknllcnkainaa
