/-
  copy, of bytes and of whole sectors; what is laid over what is kept.
-/
import Derived.Test.YtdfdalkcljfghaaGreatSync
import Derived.Test.YtdfdalkcljfghaaGreatRow
import Derived.Laws.CopyRow
namespace Go.Proofs.YtdfdalkcljfghaaGreat
open Go.RowKit

theorem run_copy_wide (w : World) (dT sT ty elem : TypeId) (g o dLen dCap : Nat) (a : Addr) (sLen sCap m : Nat) (cur cs : List Value)
    (hu : Tryz.prog.underlying dT = some (.slice elem)) (hs : (Tryz.prog.info? elem).map (·.size) = some m) (hA : Arr w g cur) (hn : cs.length = Nat.min sLen dLen * m)
    (hsrc : ∀ j v, cs[j]? = some v → w.cell? (a.add j) = some v) (hfit : o + cs.length ≤ cur.length) (h1 : ∀ v ∈ cs, v.oneCell' = true) :
    ∃ w', (Builtin.copy_ #[dT, sT] ty #[.slice (some ⟨g, o, none⟩) dLen dCap, .slice (some a) sLen sCap]).run Tryz.prog w = .ok (goInt (Nat.min sLen dLen)) w' ∧
      Arr w' g (cur.take o ++ (cs ++ cur.drop (o + cs.length))) ∧ w.grownBy w' (some g) ∧ w'.heap.size = w.heap.size := by
  obtain ⟨C, t, hg, rfl⟩ := hA
  have hl := run_loadCells_list (P := Tryz.prog) w a cs hsrc
  have hst := run_storeCells_at Tryz.prog g o t cs 0 C w hg (by simpa using hfit) h1
  refine ⟨w.setRow g (C.toList.take o ++ cs ++ C.toList.drop (o + cs.length)).toArray, ?_, ⟨_, t, setRow_heap w g C _ t _ hg, by simp⟩, ⟨rfl, rfl, rfl, by simp, fun k _ hk => setRow_other w g k _ (fun e => hk (by simp [e]))⟩, by simp⟩
  cases hq : Tryz.prog.info? elem with
  | none => simp [hq] at hs
  | some i =>
    have hi : i.size = m := by simpa [hq] using hs
    simp only [Nat.add_zero] at hst
    simp [Builtin.copy_, run_underlying hu, Builtin.lenOf, Builtin.firstCells, sizeOf, typeInfo, hq, hi, ← hn, hl, hst]

section
variable {ρ : Operand → Value} {o : Oper}
theorem op_copy46 {x y : Operand} {g off g2 o2 n n2 c2 : Nat} {cur : List Value} {bs : List UInt8} {w : World} (h1 : ρ x = .slice (some ⟨g, off, none⟩) n c2) (h2 : ρ y = .slice (some ⟨g2, o2, none⟩) bs.length n2)
    (hA : Arr w g cur) (hr : w.rangeAt g2 o2 (bytesV bs)) (hle : bs.length ≤ n) (hfit : off + bs.length ≤ cur.length) :
    ∃ w', (∀ o : Oper, o.op = .call { callee := .builtin .copy, args := #[x, y], argTypes := #[46, 46] } → (execOp ρ o).run Tryz.prog w = .ok (.value (.int .i64 (bs.length : Int))) w') ∧
      Arr w' g (cur.take off ++ (bytesV bs ++ cur.drop (off + bs.length))) ∧ w.grownBy w' (some g) ∧ w'.heap.size = w.heap.size := by
  obtain ⟨w', hr', q1, q2, q3⟩ := run_copy_wide w 46 46 3 5 g off n c2 ⟨g2, o2, none⟩ bs.length n2 1 cur (bytesV bs) Tryz.underlying46 (by kernel_rfl) hA (by rw [bytesV_length, Nat.mul_one]; exact (Nat.min_eq_left hle).symm)
    (fun j v hj => by rw [Addr.add_mid]; exact hr j v hj) (by rw [bytesV_length]; exact hfit) (bytesV_one bs)
  rw [bytesV_length] at q1
  refine ⟨w', fun o ho => ?_, q1, q2, q3⟩
  have e : ∀ ty, (Builtin.copy_ #[46, 46] ty #[.slice (some ⟨g, off, none⟩) n c2, .slice (some ⟨g2, o2, none⟩) bs.length n2]).run Tryz.prog w = .ok (.int .i64 (bs.length : Int)) w' := fun ty => by
    have e2 : Nat.min bs.length n = bs.length := Nat.min_eq_left hle
    rw [e2] at hr'
    exact hr'
  unfold execOp
  rw [ho]
  simp only [resolve, invoke, builtin, Sem.run_bind, Sem.run_pure, Result.andThen_ok, List.map_toArray, List.map_cons, List.map_nil, h1, h2, e]
theorem op_copy131 {x y : Operand} {g g2 n : Nat} {cur : List Value} {ss : List Sec} {w : World} (hn : ss.length = n) (h1 : ρ x = .slice (some ⟨g, 0, none⟩) n n) (h2 : ρ y = .slice (some ⟨g2, 0, none⟩) n n)
    (hA : Arr w g cur) (hB : Arr w g2 (secsV ss)) (hs : ∀ s ∈ ss, s.length = 64) (hfit : cur.length = n * 64) :
    ∃ w', (∀ o : Oper, o.op = .call { callee := .builtin .copy, args := #[x, y], argTypes := #[131, 131] } → (execOp ρ o).run Tryz.prog w = .ok (.value (.int .i64 (n : Int))) w') ∧
      Arr w' g (secsV ss) ∧ w.grownBy w' (some g) ∧ w'.heap.size = w.heap.size := by
  have hl : (secsV ss).length = n * 64 := by rw [secsV_length hs, hn]
  have hm : Nat.min n n = n := Nat.min_self n
  obtain ⟨w', hr', q1, q2, q3⟩ := run_copy_wide w 131 131 3 136 g 0 n n ⟨g2, 0, none⟩ n n 64 cur (secsV ss) Tryz.underlying131 info136 hA (by rw [hm]; exact hl)
    (fun j v hj => by rw [Addr.add_mid, Nat.zero_add]; exact hB.cell hj) (by omega) (secsV_one ss)
  rw [hl, Nat.zero_add, List.take_zero, List.nil_append, List.drop_eq_nil_of_le (by omega), List.append_nil] at q1
  refine ⟨w', fun o ho => ?_, q1, q2, q3⟩
  have e : ∀ ty, (Builtin.copy_ #[131, 131] ty #[.slice (some ⟨g, 0, none⟩) n n, .slice (some ⟨g2, 0, none⟩) n n]).run Tryz.prog w = .ok (.int .i64 (n : Int)) w' := fun ty => by
    rw [hm] at hr'
    exact hr'
  unfold execOp
  rw [ho]
  simp only [resolve, invoke, builtin, Sem.run_bind, Sem.run_pure, Result.andThen_ok, List.map_toArray, List.map_cons, List.map_nil, h1, h2, e]
theorem op_all136 {x : Operand} {g k : Nat} (ho : o.op = .slice 136 x none none none) (h1 : ρ x = .pointer (some ⟨g, k, none⟩)) (w : World) :
    (execOp ρ o).run Tryz.prog w = .ok (.value (.slice (some ⟨g, k, none⟩) 64 64)) w := by
  unfold execOp
  rw [ho]
  go_simp
theorem op_to136 {x y : Operand} {g k c : Nat} (ho : o.op = .slice 136 x none (some y) none) (h1 : ρ x = .pointer (some ⟨g, k, none⟩)) (h2 : ρ y = .int .i64 (c : Int)) (hc : c ≤ 64) (w : World) :
    (execOp ρ o).run Tryz.prog w = .ok (.value (.slice (some ⟨g, k, none⟩) c 64)) w := by
  have h3 : (c : Int) ≤ 64 := by omega
  unfold execOp
  rw [ho]
  go_simp
theorem op_min3 {x y : Operand} {a b c : Int} (ho : o.op = .call { callee := .builtin .min, args := #[x, y], argTypes := #[3, 3] }) (h1 : ρ x = .int .i64 a) (h2 : ρ y = .int .i64 b) (hr : min a b = c) (w : World) :
    (execOp ρ o).run Tryz.prog w = .ok (.value (.int .i64 c)) w := by
  by_cases h : b < a
  · have e : c = b := by omega
    subst e
    unfold execOp
    rw [ho]
    go_simp
  · have e : c = a := by omega
    subst e
    unfold execOp
    rw [ho]
    go_simp
end

theorem secsV_drop : ∀ {ss : List Sec}, (∀ s ∈ ss, s.length = 64) → ∀ (i c : Nat), i < ss.length → c ≤ 64 →
    (secsV ss).drop (i * 64 + c) = bytesV ((ss.getD i []).drop c) ++ (secsV ss).drop (i * 64 + 64)
  | [], _, i, c, hi, _ => by simp at hi
  | x :: ss, h, 0, c, _, hc => by
    have h64 : (bytesV x).length = 64 := by rw [bytesV_length]; exact h x (by simp)
    rw [secsV, Nat.zero_mul, Nat.zero_add, Nat.zero_add, List.drop_append, List.drop_append, h64, show c - 64 = 0 by omega, List.drop_eq_nil_of_le (show (bytesV x).length ≤ 64 by omega)]
    simp [bytesV, List.map_drop]
  | x :: ss, h, i + 1, c, hi, hc => by
    have h64 : (bytesV x).length = 64 := by rw [bytesV_length]; exact h x (by simp)
    have ih := secsV_drop (ss := ss) (fun y hy => h y (by simp [hy])) i c (by simpa using hi) hc
    rw [secsV, List.drop_append, List.drop_append, h64, List.drop_eq_nil_of_le (by omega), List.drop_eq_nil_of_le (show (bytesV x).length ≤ (i + 1) * 64 + 64 by omega), show (i + 1) * 64 + c - 64 = i * 64 + c by omega, show (i + 1) * 64 + 64 - 64 = i * 64 + 64 by omega]
    simpa using ih
/-- The first c bytes of one sector laid over another, in the row. -/
theorem secsV_over {ss : List Sec} (hs : ∀ s ∈ ss, s.length = 64) {i c : Nat} (hi : i < ss.length) {new : Sec} (hn : new.length = 64) (hc : c ≤ 64) :
    (secsV ss).take (i * 64) ++ (bytesV (new.take c) ++ (secsV ss).drop (i * 64 + c)) = secsV (ss.set i (over c new (ss.getD i []))) := by
  rw [secsV_drop hs i c hi hc, ← secsV_set hs i _ hi (over_len hn (getD_mem64 hs hi) hc), over, bytesV_app, List.append_assoc]

theorem layKept_snoc : ∀ (l : List (Nat × Sec)) (bs : List UInt8) (k : List Sec) (x : Nat × Sec) (b : UInt8), l.length = bs.length → layKept k (l ++ [x]) (bs ++ [b]) = layOne (layKept k l bs) x b
  | [], [], k, x, b, _ => by simp [layKept]
  | [], _ :: _, _, _, _, h => by simp at h
  | _ :: _, [], _, _, _, h => by simp at h
  | y :: l, c :: bs, k, x, b, h => by
    rw [List.cons_append, List.cons_append, layKept, layKept, layKept_snoc l bs _ x b (by simpa using h)]
theorem layKept_min : ∀ (l : List (Nat × Sec)) (bs : List UInt8) (k : List Sec) (m : Nat), m = min bs.length l.length → layKept k (l.take m) (bs.take m) = layKept k l bs
  | [], bs, k, m, h => by
    obtain rfl : m = 0 := by simp at h; exact h
    simp [layKept]
  | y :: l, [], k, m, h => by
    obtain rfl : m = 0 := by simp at h; exact h
    simp [layKept]
  | y :: l, c :: bs, k, m, h => by
    obtain ⟨m', rfl⟩ : ∃ m', m = m' + 1 := ⟨min bs.length l.length, by simp at h; omega⟩
    rw [List.take_succ_cons, List.take_succ_cons, layKept, layKept, layKept_min l bs _ m' (by simp at h; omega)]
theorem layKept_step (k : List Sec) (l : List (Nat × Sec)) (bs : List UInt8) {j : Nat} (h1 : j < l.length) (h2 : j < bs.length) : layKept k (l.take (j + 1)) (bs.take (j + 1)) = layOne (layKept k (l.take j) (bs.take j)) (l.getD j (0, [])) (bs.getD j 0) := by
  rw [List.take_succ_eq_append_getElem h1, List.take_succ_eq_append_getElem h2, layKept_snoc _ _ _ _ _ (by simp; omega), List.getD_eq_getElem?_getD, List.getElem?_eq_getElem h1, List.getD_eq_getElem?_getD, List.getElem?_eq_getElem h2]
  rfl
end Go.Proofs.YtdfdalkcljfghaaGreat
