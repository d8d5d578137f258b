/-
  Single operations, each by itself.
-/
import Derived.Test.YtdfdalkcljfghaaGreatDev
import Derived.Test.YtdfdalkcljfghaaGreatFlow
namespace Go.Proofs.YtdfdalkcljfghaaGreat
open Go.RowKit

theorem fold_set (off : Nat) : ∀ (vs : List Value) (k : Nat) (pre cs post : List Value), pre.length = off + k → cs.length = vs.length →
    (vs.zipIdx k).foldl (fun (cs : Array Value) x => cs.setIfInBounds (off + x.2) x.1) (pre ++ (cs ++ post)).toArray = (pre ++ (vs ++ post)).toArray
  | [], _, pre, cs, post, _, hl => by
    obtain rfl : cs = [] := List.eq_nil_of_length_eq_zero (by simpa using hl)
    rfl
  | v :: vs, k, pre, [], post, _, hl => by simp at hl
  | v :: vs, k, pre, c :: cs, post, hp, hl => by
    rw [List.zipIdx_cons, List.foldl_cons, List.setIfInBounds_toArray]
    have e : (pre ++ (c :: cs ++ post)).set (off + k) v = (pre ++ [v]) ++ (cs ++ post) := by
      rw [List.set_append_right _ v (by omega), hp, Nat.sub_self]
      simp
    have ih := fold_set off vs (k + 1) (pre ++ [v]) cs post (by simp [hp]; omega) (by simpa using hl)
    rw [e, ih]
    simp
theorem fillDone (n : Nat) (s : Sec) (hs : s.length = 64) : Instr.fill ((#[(0, 1), (1, 64)] : Array (Nat × Nat))[·]?) (doneV (0, zeroS)).toArray [(0, .int .i64 (n : Int)), (1, secV s)] = some (doneV (n, s)).toArray := by
  have hz : (bytesV s).length = 64 := by rw [bytesV_length, hs]
  simp [Instr.fill, secV, Value.cells, hz]
  refine ⟨by simp [doneV], by rw [doneV_length zeroS_len]; decide, ?_⟩
  have h := fold_set 1 (bytesV s) 0 [.int .i64 (n : Int)] (bytesV zeroS) [] rfl (by rw [hz, bytesV_length, zeroS_len])
  simpa [doneV] using h
theorem built151 (n : Nat) (s : Sec) (hs : s.length = 64) : Tryz.prog.built 151 [(0, .int .i64 (n : Int)), (1, secV s)] = some (doneV (n, s)).toArray := by
  rw [← fillDone n s hs]
  kernel_rfl
section
variable {ρ : Operand → Value} {o : Oper}
theorem op_nil {x : Operand} {g : Nat} (ho : o.op = .nilCheck x) (h1 : ρ x = .pointer (some ⟨g, 0, none⟩)) (w : World) :
    (execOp ρ o).run Tryz.prog w = .ok (.value (.pointer (some ⟨g, 0, none⟩))) w := by
  unfold execOp
  rw [ho]
  go_simp
theorem op_f149_0 {x : Operand} {g : Nat} (ho : o.op = .fieldAddr 149 x 0) (h1 : ρ x = .pointer (some ⟨g, 0, none⟩)) (w : World) :
    (execOp ρ o).run Tryz.prog w = .ok (.value (.pointer (some ⟨g, 0, none⟩))) w := by
  unfold execOp
  rw [ho]
  go_simp
theorem op_f149_1 {x : Operand} {g : Nat} (ho : o.op = .fieldAddr 149 x 1) (h1 : ρ x = .pointer (some ⟨g, 0, none⟩)) (w : World) :
    (execOp ρ o).run Tryz.prog w = .ok (.value (.pointer (some ⟨g, 1, none⟩))) w := by
  unfold execOp
  rw [ho]
  go_simp
theorem op_f149_2 {x : Operand} {g : Nat} (ho : o.op = .fieldAddr 149 x 2) (h1 : ρ x = .pointer (some ⟨g, 0, none⟩)) (w : World) :
    (execOp ρ o).run Tryz.prog w = .ok (.value (.pointer (some ⟨g, 2, none⟩))) w := by
  unfold execOp
  rw [ho]
  go_simp
theorem op_f149_3 {x : Operand} {g : Nat} (ho : o.op = .fieldAddr 149 x 3) (h1 : ρ x = .pointer (some ⟨g, 0, none⟩)) (w : World) :
    (execOp ρ o).run Tryz.prog w = .ok (.value (.pointer (some ⟨g, 3, none⟩))) w := by
  unfold execOp
  rw [ho]
  go_simp
theorem op_f149_4 {x : Operand} {g : Nat} (ho : o.op = .fieldAddr 149 x 4) (h1 : ρ x = .pointer (some ⟨g, 0, none⟩)) (w : World) :
    (execOp ρ o).run Tryz.prog w = .ok (.value (.pointer (some ⟨g, 4, none⟩))) w := by
  unfold execOp
  rw [ho]
  go_simp
theorem op_f149_5 {x : Operand} {g : Nat} (ho : o.op = .fieldAddr 149 x 5) (h1 : ρ x = .pointer (some ⟨g, 0, none⟩)) (w : World) :
    (execOp ρ o).run Tryz.prog w = .ok (.value (.pointer (some ⟨g, 5, none⟩))) w := by
  unfold execOp
  rw [ho]
  go_simp
theorem op_f149_6 {x : Operand} {g : Nat} (ho : o.op = .fieldAddr 149 x 6) (h1 : ρ x = .pointer (some ⟨g, 0, none⟩)) (w : World) :
    (execOp ρ o).run Tryz.prog w = .ok (.value (.pointer (some ⟨g, 6, none⟩))) w := by
  unfold execOp
  rw [ho]
  go_simp
theorem op_f151_0 {x : Operand} {g : Nat} (ho : o.op = .fieldAddr 151 x 0) (h1 : ρ x = .pointer (some ⟨g, 0, none⟩)) (w : World) :
    (execOp ρ o).run Tryz.prog w = .ok (.value (.pointer (some ⟨g, 0, none⟩))) w := by
  unfold execOp
  rw [ho]
  go_simp
theorem op_f151_1 {x : Operand} {g : Nat} (ho : o.op = .fieldAddr 151 x 1) (h1 : ρ x = .pointer (some ⟨g, 0, none⟩)) (w : World) :
    (execOp ρ o).run Tryz.prog w = .ok (.value (.pointer (some ⟨g, 1, none⟩))) w := by
  unfold execOp
  rw [ho]
  go_simp
theorem op_f146_0 {x : Operand} {g : Nat} (ho : o.op = .fieldAddr 146 x 0) (h1 : ρ x = .pointer (some ⟨g, 0, none⟩)) (w : World) :
    (execOp ρ o).run Tryz.prog w = .ok (.value (.pointer (some ⟨g, 0, none⟩))) w := by
  unfold execOp
  rw [ho]
  go_simp
theorem op_f146_1 {x : Operand} {g : Nat} (ho : o.op = .fieldAddr 146 x 1) (h1 : ρ x = .pointer (some ⟨g, 0, none⟩)) (w : World) :
    (execOp ρ o).run Tryz.prog w = .ok (.value (.pointer (some ⟨g, 1, none⟩))) w := by
  unfold execOp
  rw [ho]
  go_simp
theorem op_f146_2 {x : Operand} {g : Nat} (ho : o.op = .fieldAddr 146 x 2) (h1 : ρ x = .pointer (some ⟨g, 0, none⟩)) (w : World) :
    (execOp ρ o).run Tryz.prog w = .ok (.value (.pointer (some ⟨g, 2, none⟩))) w := by
  unfold execOp
  rw [ho]
  go_simp
theorem op_f146_3 {x : Operand} {g : Nat} (ho : o.op = .fieldAddr 146 x 3) (h1 : ρ x = .pointer (some ⟨g, 0, none⟩)) (w : World) :
    (execOp ρ o).run Tryz.prog w = .ok (.value (.pointer (some ⟨g, 3, none⟩))) w := by
  unfold execOp
  rw [ho]
  go_simp
theorem op_f155_0 {x : Operand} {g : Nat} (ho : o.op = .fieldAddr 155 x 0) (h1 : ρ x = .pointer (some ⟨g, 0, none⟩)) (w : World) :
    (execOp ρ o).run Tryz.prog w = .ok (.value (.pointer (some ⟨g, 0, none⟩))) w := by
  unfold execOp
  rw [ho]
  go_simp
theorem op_f155_1 {x : Operand} {g : Nat} (ho : o.op = .fieldAddr 155 x 1) (h1 : ρ x = .pointer (some ⟨g, 0, none⟩)) (w : World) :
    (execOp ρ o).run Tryz.prog w = .ok (.value (.pointer (some ⟨g, 1, none⟩))) w := by
  unfold execOp
  rw [ho]
  go_simp
theorem op_f155_2 {x : Operand} {g : Nat} (ho : o.op = .fieldAddr 155 x 2) (h1 : ρ x = .pointer (some ⟨g, 0, none⟩)) (w : World) :
    (execOp ρ o).run Tryz.prog w = .ok (.value (.pointer (some ⟨g, 2, none⟩))) w := by
  unfold execOp
  rw [ho]
  go_simp
theorem op_f155_3 {x : Operand} {g : Nat} (ho : o.op = .fieldAddr 155 x 3) (h1 : ρ x = .pointer (some ⟨g, 0, none⟩)) (w : World) :
    (execOp ρ o).run Tryz.prog w = .ok (.value (.pointer (some ⟨g, 3, none⟩))) w := by
  unfold execOp
  rw [ho]
  go_simp
theorem op_load9 {x : Operand} {g k : Nat} {v : Value} {w : World} (ho : o.op = .load 9 x) (h1 : ρ x = .pointer (some ⟨g, k, none⟩)) (hc : w.cell? ⟨g, k, none⟩ = some v) :
    (execOp ρ o).run Tryz.prog w = .ok (.value v) w := by
  unfold execOp
  rw [ho]
  go_simp
theorem op_load73 {x : Operand} {g k : Nat} {v : Value} {w : World} (ho : o.op = .load 73 x) (h1 : ρ x = .pointer (some ⟨g, k, none⟩)) (hc : w.cell? ⟨g, k, none⟩ = some v) :
    (execOp ρ o).run Tryz.prog w = .ok (.value v) w := by
  unfold execOp
  rw [ho]
  go_simp
theorem op_load64 {x : Operand} {g k : Nat} {v : Value} {w : World} (ho : o.op = .load 64 x) (h1 : ρ x = .pointer (some ⟨g, k, none⟩)) (hc : w.cell? ⟨g, k, none⟩ = some v) :
    (execOp ρ o).run Tryz.prog w = .ok (.value v) w := by
  unfold execOp
  rw [ho]
  go_simp
theorem op_load3 {x : Operand} {g k : Nat} {v : Value} {w : World} (ho : o.op = .load 3 x) (h1 : ρ x = .pointer (some ⟨g, k, none⟩)) (hc : w.cell? ⟨g, k, none⟩ = some v) :
    (execOp ρ o).run Tryz.prog w = .ok (.value v) w := by
  unfold execOp
  rw [ho]
  go_simp
theorem op_load4 {x : Operand} {g k : Nat} {v : Value} {w : World} (ho : o.op = .load 4 x) (h1 : ρ x = .pointer (some ⟨g, k, none⟩)) (hc : w.cell? ⟨g, k, none⟩ = some v) :
    (execOp ρ o).run Tryz.prog w = .ok (.value v) w := by
  unfold execOp
  rw [ho]
  go_simp
theorem op_load5 {x : Operand} {g k : Nat} {v : Value} {w : World} (ho : o.op = .load 5 x) (h1 : ρ x = .pointer (some ⟨g, k, none⟩)) (hc : w.cell? ⟨g, k, none⟩ = some v) :
    (execOp ρ o).run Tryz.prog w = .ok (.value v) w := by
  unfold execOp
  rw [ho]
  go_simp
theorem op_load46 {x : Operand} {g k : Nat} {v : Value} {w : World} (ho : o.op = .load 46 x) (h1 : ρ x = .pointer (some ⟨g, k, none⟩)) (hc : w.cell? ⟨g, k, none⟩ = some v) :
    (execOp ρ o).run Tryz.prog w = .ok (.value v) w := by
  unfold execOp
  rw [ho]
  go_simp
theorem op_load131 {x : Operand} {g k : Nat} {v : Value} {w : World} (ho : o.op = .load 131 x) (h1 : ρ x = .pointer (some ⟨g, k, none⟩)) (hc : w.cell? ⟨g, k, none⟩ = some v) :
    (execOp ρ o).run Tryz.prog w = .ok (.value v) w := by
  unfold execOp
  rw [ho]
  go_simp
theorem op_load63 {x : Operand} {g k : Nat} {v : Value} {w : World} (ho : o.op = .load 63 x) (h1 : ρ x = .pointer (some ⟨g, k, none⟩)) (hc : w.cell? ⟨g, k, none⟩ = some v) :
    (execOp ρ o).run Tryz.prog w = .ok (.value v) w := by
  unfold execOp
  rw [ho]
  go_simp
theorem op_load147 {x : Operand} {g k : Nat} {v : Value} {w : World} (ho : o.op = .load 147 x) (h1 : ρ x = .pointer (some ⟨g, k, none⟩)) (hc : w.cell? ⟨g, k, none⟩ = some v) :
    (execOp ρ o).run Tryz.prog w = .ok (.value v) w := by
  unfold execOp
  rw [ho]
  go_simp
theorem op_load136 {x : Operand} {g k : Nat} {s : Sec} {w : World} (ho : o.op = .load 136 x) (h1 : ρ x = .pointer (some ⟨g, k, none⟩)) (hr : w.rangeAt g k (bytesV s)) (hs : s.length = 64) :
    (execOp ρ o).run Tryz.prog w = .ok (.value (secV s)) w := by
  unfold execOp
  rw [ho]
  simp only [h1, Sem.run_bind, Sem.run_pure, run_loadAt_mid (P := Tryz.prog) w g k 136 (bytesV s) _ hr Tryz.underlying136 rfl (info136s hs), Result.andThen_ok]
  rfl
theorem op_store136 {x y : Operand} {g k : Nat} {s : Sec} {w : World} (ho : o.op = .store 136 x y) (h1 : ρ x = .pointer (some ⟨g, k, none⟩)) (h2 : ρ y = secV s) (hr : w.there g k 64) (hs : s.length = 64) :
    (execOp ρ o).run Tryz.prog w = .ok .skip (w.setCells g k (bytesV s)) := by
  have hsz : (bytesV s).toArray.size = 64 := by simp [bytesV_length, hs]
  unfold execOp
  rw [ho]
  unfold secV at h2
  simp only [h1, h2, Sem.run_bind, Sem.run_pure, run_storeAt_mid (P := Tryz.prog) w g k 136 (bytesV s).toArray (by rw [hsz]; exact hr) (by rw [hsz]; exact info136) (all_oneCell_toArray (bytesV_one s)), Result.andThen_ok]
theorem op_idx131 {x y : Operand} {g n c k : Nat} (ho : o.op = .indexAddr 131 x y) (h1 : ρ x = .slice (some ⟨g, 0, none⟩) n c) (h2 : ρ y = .int .i64 (k : Int)) (hk : k < n) (w : World) :
    (execOp ρ o).run Tryz.prog w = .ok (.value (.pointer (some ⟨g, k * 64, none⟩))) w := by
  unfold execOp
  rw [ho]
  go_simp
theorem op_idx63 {x y : Operand} {g n c k : Nat} (ho : o.op = .indexAddr 63 x y) (h1 : ρ x = .slice (some ⟨g, 0, none⟩) n c) (h2 : ρ y = .int .i64 (k : Int)) (hk : k < n) (w : World) :
    (execOp ρ o).run Tryz.prog w = .ok (.value (.pointer (some ⟨g, k, none⟩))) w := by
  unfold execOp
  rw [ho]
  go_simp
theorem op_idx147 {x y : Operand} {g n c k : Nat} (ho : o.op = .indexAddr 147 x y) (h1 : ρ x = .slice (some ⟨g, 0, none⟩) n c) (h2 : ρ y = .int .i64 (k : Int)) (hk : k < n) (w : World) :
    (execOp ρ o).run Tryz.prog w = .ok (.value (.pointer (some ⟨g, k * 65, none⟩))) w := by
  unfold execOp
  rw [ho]
  go_simp
theorem op_idx136 {x y : Operand} {g b k : Nat} (ho : o.op = .indexAddr 136 x y) (h1 : ρ x = .pointer (some ⟨g, b, none⟩)) (h2 : ρ y = .int .i64 (k : Int)) (hk : k < 64) (w : World) :
    (execOp ρ o).run Tryz.prog w = .ok (.value (.pointer (some ⟨g, b + k, none⟩))) w := by
  have hk2 : (k : Int) < 64 := by omega
  have hk3 : ¬ (64 : Int) ≤ (k : Int) := by omega
  unfold execOp
  rw [ho]
  go_simp
theorem op_storeW {t : TypeId} {x y : Operand} {g k : Nat} {v : Value} {w : World} (ho : o.op = .store t x y) (h1 : ρ x = .pointer (some ⟨g, k, none⟩)) (h2 : ρ y = v)
    (hr : (Instr.storeAt t (.pointer (some ⟨g, k, none⟩)) v).run Tryz.prog w = .ok () (w.setCell ⟨g, k, none⟩ v)) :
    (execOp ρ o).run Tryz.prog w = .ok .skip (w.setCell ⟨g, k, none⟩ v) := by
  unfold execOp
  rw [ho]
  simp only [h1, h2, Sem.run_bind, hr, Result.andThen_ok, Sem.run_pure]
theorem op_store147 {x y : Operand} {g k n c : Nat} {ad : Option Addr} {u : Value} {w : World} (ho : o.op = .store 147 x y) (h1 : ρ x = .pointer (some ⟨g, k, none⟩)) (h2 : ρ y = .slice ad n c) (hc : w.cell? ⟨g, k, none⟩ = some u) (hf : w.frozen? ⟨g, k, none⟩ = false) :
    (execOp ρ o).run Tryz.prog w = .ok .skip (w.setCell ⟨g, k, none⟩ (.slice ad n c)) := by
  unfold execOp
  rw [ho]
  go_simp
theorem op_store5 {x y : Operand} {g k : Nat} {n : Int} {u : Value} {w : World} (ho : o.op = .store 5 x y) (h1 : ρ x = .pointer (some ⟨g, k, none⟩)) (h2 : ρ y = .int .u8 n) (hc : w.cell? ⟨g, k, none⟩ = some u) (hf : w.frozen? ⟨g, k, none⟩ = false) :
    (execOp ρ o).run Tryz.prog w = .ok .skip (w.setCell ⟨g, k, none⟩ (.int .u8 n)) := by
  unfold execOp
  rw [ho]
  go_simp
theorem op_build151 {x y : Operand} {n : Nat} {s : Sec} (ho : o.op = .build 151 #[(0, x), (1, y)]) (h1 : ρ x = .int .i64 (n : Int)) (h2 : ρ y = secV s) (hs : s.length = 64) (w : World) :
    (execOp ρ o).run Tryz.prog w = .ok (.value (.agg (doneV (n, s)).toArray)) w := by
  have hb := built151 n s hs
  unfold execOp
  rw [ho]
  simp only [List.map_toArray, List.map_cons, List.map_nil, h1, h2, Sem.run_bind, run_build w 151 _ _ hb, Result.andThen, Sem.run_pure]
end
end Go.Proofs.YtdfdalkcljfghaaGreat
