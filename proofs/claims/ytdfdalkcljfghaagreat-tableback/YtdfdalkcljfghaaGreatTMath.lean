/-
  Tables and changes as values and as cells; two of them held against each other. What a table may be, what changes make of it, both as bytes, and what bytes are one: plain facts. What table.Right and what it calls answer; what a change may be.
-/
import Derived.Test.YtdfdalkcljfghaaGreatLRight
import Derived.Test.YtdfdalkcljfghaaGreatLRead
namespace Go.Proofs.YtdfdalkcljfghaaGreat.Slot
open Go.RowKit

/-- A table. -/
structure T where
  s0 : S
  s1 : S
  act : Int
  boo : Int
  flo : Nat
deriving DecidableEq
structure FitT (t : T) : Prop where
  s0 : Fit t.s0
  s1 : Fit t.s1
  act0 : -9223372036854775808 ≤ t.act
  act1 : t.act ≤ 9223372036854775807
  boo0 : -9223372036854775808 ≤ t.boo
  boo1 : t.boo ≤ 9223372036854775807
  flo : t.flo < 18446744073709551616
def T.cs (t : T) : List Value := t.s0.cs ++ (t.s1.cs ++ [.int .i64 t.act, .int .i64 t.boo, .int .u64 (t.flo : Int)])
def T.v (t : T) : Value := .agg t.cs.toArray
def zeroT : T := ⟨zeroS, zeroS, 0, 0, 0⟩
theorem zeroT_fit : FitT zeroT := ⟨zeroS_fit, zeroS_fit, by decide, by decide, by decide, by decide, by decide⟩
/-- A change. -/
structure C where
  k : Int
  sl : Int
  n : Int
  s : S
  ver : Nat
deriving DecidableEq
structure FitC (c : C) : Prop where
  k0 : -9223372036854775808 ≤ c.k
  k1 : c.k ≤ 9223372036854775807
  sl0 : -9223372036854775808 ≤ c.sl
  sl1 : c.sl ≤ 9223372036854775807
  n0 : -9223372036854775808 ≤ c.n
  n1 : c.n ≤ 9223372036854775807
  s : Fit c.s
  ver : c.ver < 18446744073709551616
def C.cs (c : C) : List Value := .int .i64 c.k :: .int .i64 c.sl :: .int .i64 c.n :: (c.s.cs ++ [.int .u64 (c.ver : Int)])
def C.v (c : C) : Value := .agg c.cs.toArray
def zeroC : C := ⟨0, 0, 0, zeroS, 0⟩
theorem zeroC_fit : FitC zeroC := ⟨by decide, by decide, by decide, by decide, by decide, by decide, zeroS_fit, by decide⟩

theorem tcs_length {t : T} (h : FitT t) : t.cs.length = 75 := by
  simp [T.cs, cs_length h.s0.dg, cs_length h.s1.dg]
theorem ccs_length {c : C} (h : FitC c) : c.cs.length = 40 := by
  simp [C.cs, cs_length h.s.dg]
theorem tcs_one (t : T) : ∀ v ∈ t.cs, v.oneCell' = true := by
  intro v hv
  simp only [T.cs, List.mem_append, List.mem_cons, List.not_mem_nil, or_false] at hv
  rcases hv with h | h | h | h | h
  · exact cs_one _ v h
  · exact cs_one _ v h
  · rw [h]; rfl
  · rw [h]; rfl
  · rw [h]; rfl
theorem ccs_one (c : C) : ∀ v ∈ c.cs, v.oneCell' = true := by
  intro v hv
  simp only [C.cs, List.mem_append, List.mem_cons, List.not_mem_nil, or_false] at hv
  rcases hv with h | h | h | h | h
  · rw [h]; rfl
  · rw [h]; rfl
  · rw [h]; rfl
  · exact cs_one _ v h
  · rw [h]; rfl
theorem tget {t : T} (h : FitT t) : t.cs[72]? = some (.int .i64 t.act) ∧ t.cs[73]? = some (.int .i64 t.boo) ∧ t.cs[74]? = some (.int .u64 (t.flo : Int)) := by
  have e0 := cs_length h.s0.dg
  have e1 := cs_length h.s1.dg
  unfold T.cs
  refine ⟨?_, ?_, ?_⟩ <;> rw [List.getElem?_append_right (by omega), List.getElem?_append_right (by omega), e0, e1] <;> rfl
theorem cget {c : C} (h : FitC c) : c.cs[39]? = some (.int .u64 (c.ver : Int)) := by
  have e0 := cs_length h.s.dg
  unfold C.cs
  rw [show (39 : Nat) = 36 + 1 + 1 + 1 by rfl, List.getElem?_cons_succ, List.getElem?_cons_succ, List.getElem?_cons_succ, List.getElem?_append_right (by omega), e0]
  rfl
/-- A part of a range. -/
theorem range_sub {w : World} {b o : Nat} {cs : List Value} (h : w.rangeAt b o cs) (k : Nat) (ds : List Value) (hd : ∀ j v, ds[j]? = some v → cs[k + j]? = some v) : w.rangeAt b (o + k) ds := fun j v hj => by
  have := h (k + j) v (hd j v hj)
  rw [Nat.add_assoc]; exact this
theorem app_left {α : Type} {xs ys : List α} : ∀ j v, xs[j]? = some v → (xs ++ ys)[0 + j]? = some v := fun j v h => by
  rw [Nat.zero_add, List.getElem?_append_left (List.getElem?_eq_some_iff.1 h).1]; exact h
theorem trange0 {w : World} {b o : Nat} {t : T} (h : w.rangeAt b o t.cs) : w.rangeAt b o t.s0.cs := range_sub h 0 _ app_left
theorem trange1 {w : World} {b o : Nat} {t : T} (ht : FitT t) (h : w.rangeAt b o t.cs) : w.rangeAt b (o + 36) t.s1.cs := range_sub h 36 _ fun j v hj => by
  have e0 := cs_length ht.s0.dg
  unfold T.cs
  rw [List.getElem?_append_right (by omega), e0, show 36 + j - 36 = j by omega, List.getElem?_append_left (List.getElem?_eq_some_iff.1 hj).1]
  exact hj
theorem trange35 {w : World} {b o : Nat} {t : T} (h : w.rangeAt b o t.cs) : w.rangeAt b o (t.s0.cs ++ t.s1.cs) := range_sub h 0 _ fun j v hj => by
  unfold T.cs
  rw [← List.append_assoc]
  exact app_left j v hj
theorem crange {w : World} {b o : Nat} {c : C} (h : w.rangeAt b o c.cs) : w.rangeAt b (o + 3) c.s.cs := range_sub h 3 _ fun j v hj => by
  unfold C.cs
  rw [show 3 + j = j + 1 + 1 + 1 by omega, List.getElem?_cons_succ, List.getElem?_cons_succ, List.getElem?_cons_succ, List.getElem?_append_left (List.getElem?_eq_some_iff.1 hj).1]
  exact hj

theorem alloc37 (w : World) : (Instr.alloc 37 true (.tuple #[])).run Tryz.prog w = .ok (.pointer (some ⟨w.heap.size, 0, none⟩)) (w.alloc (.cells zeroT.cs.toArray 37)) := by kernel_rfl
theorem alloc41 (w : World) : (Instr.alloc 41 true (.tuple #[])).run Tryz.prog w = .ok (.pointer (some ⟨w.heap.size, 0, none⟩)) (w.alloc (.cells zeroC.cs.toArray 41)) := by kernel_rfl
theorem built37 : Tryz.prog.built 37 [] = some zeroT.cs.toArray := by kernel_rfl
theorem built37_act (x : Int) : Tryz.prog.built 37 [(1, .int .i64 x)] = some (T.mk zeroS zeroS x 0 0).cs.toArray := by kernel_rfl
theorem built41 (x : Int) : Tryz.prog.built 41 [(0, .int .i64 x)] = some (C.mk x 0 0 zeroS 0).cs.toArray := by kernel_rfl
theorem built41_n (x y : Int) : Tryz.prog.built 41 [(0, .int .i64 x), (2, .int .i64 y)] = some (C.mk x 0 y zeroS 0).cs.toArray := by kernel_rfl
theorem built41_v (x : Int) (v : Nat) : Tryz.prog.built 41 [(0, .int .i64 x), (4, .int .u64 (v : Int))] = some (C.mk x 0 0 zeroS v).cs.toArray := by kernel_rfl
theorem built41_s (x y : Int) (s : S) (h : s.dg.length = 32) : Tryz.prog.built 41 [(0, .int .i64 x), (1, .int .i64 y), (3, .agg s.cs.toArray)] = some (C.mk x y 0 s 0).cs.toArray := by
  obtain ⟨a, b, c, d, e⟩ := s
  obtain ⟨f, rfl⟩ := of_len h
  kernel_rfl
theorem info37 : (Tryz.prog.info? 37).map (·.size) = some 75 := by kernel_rfl
theorem info41 : (Tryz.prog.info? 41).map (·.size) = some 40 := by kernel_rfl
theorem info35 : (Tryz.prog.info? 35).map (·.size) = some 72 := by kernel_rfl
theorem info37t {t : T} (h : FitT t) : (Tryz.prog.info? 37).map (·.size) = some t.cs.length := by rw [tcs_length h]; exact info37
theorem info41c {c : C} (h : FitC c) : (Tryz.prog.info? 41).map (·.size) = some c.cs.length := by rw [ccs_length h]; exact info41
theorem info35t {t : T} (h : FitT t) : (Tryz.prog.info? 35).map (·.size) = some (t.s0.cs ++ t.s1.cs).length := by rw [List.length_append, cs_length h.s0.dg, cs_length h.s1.dg]; exact info35

/-! ### equality -/
theorem run_equalIn34 (d : Nat) (x y : S) (hx : x.dg.length = 32) (hy : y.dg.length = 32) (w : World) : (Op.equalIn (d + 3) 34 (.agg x.cs.toArray) (.agg y.cs.toArray)).run Tryz.prog w = .ok (decide (x = y)) w := by
  have hu : Tryz.prog.underlying 34 = some (.struct (Tryz.prog.fieldsOf 34)) := by kernel_rfl
  have hp : Tryz.prog.stoodInHeld 34 = false := by kernel_rfl
  rw [run_equalIn_agg w (d + 2) 34 x.cs.toArray y.cs.toArray hu hp]
  exact run_eqFields (d := d) hx hy w _ fields34
theorem run_partJ (xs : List Value) (t : TypeId) (k : IntKind) (off : Nat) (x : Int) (ha : ∀ w : World, (isAgg t).run Tryz.prog w = .ok false w) (hv : xs[off]? = some (.int k x)) (w : World) : (part t xs.toArray off).run Tryz.prog w = .ok (.int k x) w := by
  simp [part, ha, hv]
theorem run_partA (xs ys : List Value) (t : TypeId) (n off : Nat) (ha : ∀ w : World, (isAgg t).run Tryz.prog w = .ok true w) (hz : ∀ w : World, (Go.sizeOf t).run Tryz.prog w = .ok n w) (e : (xs.drop off).take n = ys) (w : World) :
    (part t xs.toArray off).run Tryz.prog w = .ok (.agg ys.toArray) w := by
  have e2 : xs.toArray.extract off (off + n) = ys.toArray := by
    apply Array.ext'
    rw [Array.toList_extract, List.extract_eq_take_drop]
    rw [show off + n - off = n by omega]
    exact e
  simp only [part, Sem.run_bind, ha, Result.andThen_ok, if_true, hz, Sem.run_pure, Sem.run_ite]
  exact congrArg (fun c => Result.ok (Value.agg c) w) e2
theorem agg34 (w : World) : (isAgg 34).run Tryz.prog w = .ok true w := by kernel_rfl
theorem agg35 (w : World) : (isAgg 35).run Tryz.prog w = .ok true w := by kernel_rfl
theorem agg3 (w : World) : (isAgg 3).run Tryz.prog w = .ok false w := by kernel_rfl
theorem agg30 (w : World) : (isAgg 30).run Tryz.prog w = .ok false w := by kernel_rfl
theorem siz34 (w : World) : (Go.sizeOf 34).run Tryz.prog w = .ok 36 w := by kernel_rfl
theorem siz35 (w : World) : (Go.sizeOf 35).run Tryz.prog w = .ok 72 w := by kernel_rfl
theorem fields41 : (Tryz.prog.fieldsOf 41).toList.map (fun f => (f.name, f.type, f.offset)) = [("Kind", 3, 0), ("Slot", 3, 1), ("N", 3, 2), ("To", 34, 3), ("Version", 30, 39)] := by kernel_rfl
theorem fields37 : (Tryz.prog.fieldsOf 37).toList.map (fun f => (f.name, f.type, f.offset)) = [("Slots", 35, 0), ("Active", 3, 72), ("Booted", 3, 73), ("Floor", 30, 74)] := by kernel_rfl
theorem c_eq (x y : C) : decide (x = y) = ((x.k == y.k) && ((x.sl == y.sl) && ((x.n == y.n) && (decide (x.s = y.s) && ((x.ver : Int) == (y.ver : Int)))))) := by
  obtain ⟨a, b, c, d, e⟩ := x
  obtain ⟨a', b', c', d', e'⟩ := y
  rw [Bool.eq_iff_iff]
  simp only [C.mk.injEq, decide_eq_true_eq, Bool.and_eq_true, beq_iff_eq, Int.natCast_inj]
theorem t_eq (x y : T) : decide (x = y) = ((decide (x.s0 = y.s0) && decide (x.s1 = y.s1)) && ((x.act == y.act) && ((x.boo == y.boo) && ((x.flo : Int) == (y.flo : Int))))) := by
  obtain ⟨a, b, c, d, e⟩ := x
  obtain ⟨a', b', c', d', e'⟩ := y
  rw [Bool.eq_iff_iff]
  simp only [T.mk.injEq, decide_eq_true_eq, Bool.and_eq_true, beq_iff_eq, Int.natCast_inj, and_assoc]
theorem to_part {c : C} (h : FitC c) : (c.cs.drop 3).take 36 = c.s.cs := by
  have e0 := cs_length h.s.dg
  unfold C.cs
  simp only [List.drop_succ_cons, List.drop_zero]
  rw [List.take_append_of_le_length (by omega), List.take_of_length_le (by omega)]
theorem slots_part {t : T} (h : FitT t) : (t.cs.drop 0).take 72 = t.s0.cs ++ t.s1.cs := by
  have e0 := cs_length h.s0.dg
  have e1 := cs_length h.s1.dg
  unfold T.cs
  rw [List.drop_zero, ← List.append_assoc, List.take_append_of_le_length (by simp; omega), List.take_of_length_le (by simp; omega)]
theorem slot_part {t : T} (h : FitT t) : ((t.s0.cs ++ t.s1.cs).drop 0).take 36 = t.s0.cs ∧ ((t.s0.cs ++ t.s1.cs).drop 36).take 36 = t.s1.cs := by
  have e0 := cs_length h.s0.dg
  have e1 := cs_length h.s1.dg
  constructor
  · rw [List.drop_zero, List.take_append_of_le_length (by omega), List.take_of_length_le (by omega)]
  · rw [List.drop_append_of_le_length (by omega), List.drop_of_length_le (by omega), List.nil_append, List.take_of_length_le (by omega)]
theorem run_equalIn35 (d : Nat) (x y : T) (hx : FitT x) (hy : FitT y) (w : World) : (Op.equalIn (d + 5) 35 (.agg (x.s0.cs ++ x.s1.cs).toArray) (.agg (y.s0.cs ++ y.s1.cs).toArray)).run Tryz.prog w = .ok (decide (x.s0 = y.s0) && decide (x.s1 = y.s1)) w := by
  obtain ⟨i, hi, hsz⟩ : ∃ i, Tryz.prog.info? 34 = some i ∧ i.size = 36 := by
    have h := info34
    cases hq : Tryz.prog.info? 34 with
    | none => rw [hq] at h; cases h
    | some i => rw [hq] at h; exact ⟨i, rfl, by simpa using h⟩
  have hc : Tryz.prog.cellsOf 34 = 36 := by kernel_rfl
  rw [run_equalIn_array w (d + 4) _ _ Tryz.underlying35 hi, hc]
  have P0 := fun w => run_partA _ _ 34 36 (0 * 36) agg34 siz34 (slot_part hx).1 w
  have P1 := fun w => run_partA _ _ 34 36 (1 * 36) agg34 siz34 (slot_part hx).2 w
  have R0 := fun w => run_partA _ _ 34 36 (0 * 36) agg34 siz34 (slot_part hy).1 w
  have R1 := fun w => run_partA _ _ 34 36 (1 * 36) agg34 siz34 (slot_part hy).2 w
  have E0 : ∀ w : World, (Op.equalIn (d + 4) 34 (.agg x.s0.cs.toArray) (.agg y.s0.cs.toArray)).run Tryz.prog w = .ok (decide (x.s0 = y.s0)) w := fun w => run_equalIn34 (d + 1) x.s0 y.s0 hx.s0.dg hy.s0.dg w
  have E1 : ∀ w : World, (Op.equalIn (d + 4) 34 (.agg x.s1.cs.toArray) (.agg y.s1.cs.toArray)).run Tryz.prog w = .ok (decide (x.s1 = y.s1)) w := fun w => run_equalIn34 (d + 1) x.s1 y.s1 hx.s1.dg hy.s1.dg w
  show (Op.eqItems (d + 4) 34 36 _ _ [0, 1]).run Tryz.prog w = _
  simp only [Op.eqItems, Sem.run_bind, P0, R0, Result.andThen_ok, E0]
  cases decide (x.s0 = y.s0)
  · simp
  · simp only [Bool.not_true, Bool.false_eq_true, if_false, Sem.run_ite, Sem.run_bind, P1, R1, Result.andThen_ok, E1]
    cases decide (x.s1 = y.s1) <;> simp
theorem run_eqFieldsC {d : Nat} {x y : C} (hx : FitC x) (hy : FitC y) (w : World) : ∀ fs : List Field, fs.map (fun f => (f.name, f.type, f.offset)) = [("Kind", 3, 0), ("Slot", 3, 1), ("N", 3, 2), ("To", 34, 3), ("Version", 30, 39)] →
    (Op.eqFields (d + 3) x.cs.toArray y.cs.toArray fs).run Tryz.prog w = .ok (decide (x = y)) w
  | [], h => by simp at h
  | [_], h => by simp at h
  | [_, _], h => by simp at h
  | [_, _, _], h => by simp at h
  | [_, _, _, _], h => by simp at h
  | _ :: _ :: _ :: _ :: _ :: _ :: _, h => by simp at h
  | [a, b, c, e, f], h => by
    simp only [List.map_cons, List.map_nil, List.cons.injEq, Prod.mk.injEq, and_true] at h
    obtain ⟨⟨a1, a2, a3⟩, ⟨b1, b2, b3⟩, ⟨c1, c2, c3⟩, ⟨e1, e2, e3⟩, ⟨f1, f2, f3⟩⟩ := h
    have X0 := run_partJ x.cs 3 .i64 0 x.k agg3 rfl
    have X1 := run_partJ x.cs 3 .i64 1 x.sl agg3 rfl
    have X2 := run_partJ x.cs 3 .i64 2 x.n agg3 rfl
    have X3 := run_partA x.cs _ 34 36 3 agg34 siz34 (to_part hx)
    have X4 := run_partJ x.cs 30 .u64 39 (x.ver : Int) agg30 (cget hx)
    have Y0 := run_partJ y.cs 3 .i64 0 y.k agg3 rfl
    have Y1 := run_partJ y.cs 3 .i64 1 y.sl agg3 rfl
    have Y2 := run_partJ y.cs 3 .i64 2 y.n agg3 rfl
    have Y3 := run_partA y.cs _ 34 36 3 agg34 siz34 (to_part hy)
    have Y4 := run_partJ y.cs 30 .u64 39 (y.ver : Int) agg30 (cget hy)
    have n1 : ("Kind" : String) ≠ "_" := by decide
    have n2 : ("Slot" : String) ≠ "_" := by decide
    have n3 : ("N" : String) ≠ "_" := by decide
    have n4 : ("To" : String) ≠ "_" := by decide
    have n5 : ("Version" : String) ≠ "_" := by decide
    have I3 := fun p q => run_equalIn_int (P := Tryz.prog) w (d + 2) 3 .i64 .i64 p q Tryz.underlying3
    have I30 := fun p q => run_equalIn_int (P := Tryz.prog) w (d + 2) 30 .u64 .u64 p q Tryz.underlying30
    have key : decide (x = y) = ((x.k == y.k) && ((x.sl == y.sl) && ((x.n == y.n) && (decide (x.s = y.s) && ((x.ver : Int) == (y.ver : Int)))))) := c_eq x y
    simp only [Op.eqFields, a1, a2, a3, b1, b2, b3, c1, c2, c3, e1, e2, e3, f1, f2, f3, n1, n2, n3, n4, n5, ne_eq, not_false_eq_true, if_true, Sem.run_bind, Sem.run_ite, Sem.run_pure, X0, X1, X2, X3, X4, Y0, Y1, Y2, Y3, Y4, Result.andThen_ok, I3, I30, run_equalIn34 d _ _ hx.s.dg hy.s.dg]
    rw [key]
    cases x.k == y.k <;> cases x.sl == y.sl <;> cases x.n == y.n <;> cases decide (x.s = y.s) <;> cases (x.ver : Int) == (y.ver : Int) <;> rfl
theorem run_equal41 (x y : C) (hx : FitC x) (hy : FitC y) (w : World) : (Op.equalIn 10000 41 (.agg x.cs.toArray) (.agg y.cs.toArray)).run Tryz.prog w = .ok (decide (x = y)) w := by
  have hu : Tryz.prog.underlying 41 = some (.struct (Tryz.prog.fieldsOf 41)) := by kernel_rfl
  have hp : Tryz.prog.stoodInHeld 41 = false := by kernel_rfl
  rw [run_equalIn_agg w 9999 41 x.cs.toArray y.cs.toArray hu hp]
  exact run_eqFieldsC (d := 9996) hx hy w _ fields41
theorem run_eqFieldsT {d : Nat} {x y : T} (hx : FitT x) (hy : FitT y) (w : World) : ∀ fs : List Field, fs.map (fun f => (f.name, f.type, f.offset)) = [("Slots", 35, 0), ("Active", 3, 72), ("Booted", 3, 73), ("Floor", 30, 74)] →
    (Op.eqFields (d + 5) x.cs.toArray y.cs.toArray fs).run Tryz.prog w = .ok (decide (x = y)) w
  | [], h => by simp at h
  | [_], h => by simp at h
  | [_, _], h => by simp at h
  | [_, _, _], h => by simp at h
  | _ :: _ :: _ :: _ :: _ :: _, h => by simp at h
  | [a, b, c, e], h => by
    simp only [List.map_cons, List.map_nil, List.cons.injEq, Prod.mk.injEq, and_true] at h
    obtain ⟨⟨a1, a2, a3⟩, ⟨b1, b2, b3⟩, ⟨c1, c2, c3⟩, ⟨e1, e2, e3⟩⟩ := h
    have X0 := run_partA x.cs _ 35 72 0 agg35 siz35 (slots_part hx)
    have X1 := run_partJ x.cs 3 .i64 72 x.act agg3 (tget hx).1
    have X2 := run_partJ x.cs 3 .i64 73 x.boo agg3 (tget hx).2.1
    have X3 := run_partJ x.cs 30 .u64 74 (x.flo : Int) agg30 (tget hx).2.2
    have Y0 := run_partA y.cs _ 35 72 0 agg35 siz35 (slots_part hy)
    have Y1 := run_partJ y.cs 3 .i64 72 y.act agg3 (tget hy).1
    have Y2 := run_partJ y.cs 3 .i64 73 y.boo agg3 (tget hy).2.1
    have Y3 := run_partJ y.cs 30 .u64 74 (y.flo : Int) agg30 (tget hy).2.2
    have n1 : ("Slots" : String) ≠ "_" := by decide
    have n2 : ("Active" : String) ≠ "_" := by decide
    have n3 : ("Booted" : String) ≠ "_" := by decide
    have n4 : ("Floor" : String) ≠ "_" := by decide
    have I3 := fun p q => run_equalIn_int (P := Tryz.prog) w (d + 4) 3 .i64 .i64 p q Tryz.underlying3
    have I30 := fun p q => run_equalIn_int (P := Tryz.prog) w (d + 4) 30 .u64 .u64 p q Tryz.underlying30
    have key := t_eq x y
    simp only [Op.eqFields, a1, a2, a3, b1, b2, b3, c1, c2, c3, e1, e2, e3, n1, n2, n3, n4, ne_eq, not_false_eq_true, if_true, Sem.run_bind, Sem.run_ite, Sem.run_pure, X0, X1, X2, X3, Y0, Y1, Y2, Y3, Result.andThen_ok, I3, I30, run_equalIn35 d _ _ hx hy]
    rw [key]
    cases decide (x.s0 = y.s0) <;> cases decide (x.s1 = y.s1) <;> cases x.act == y.act <;> cases x.boo == y.boo <;> cases (x.flo : Int) == (y.flo : Int) <;> rfl
theorem run_equal37 (x y : T) (hx : FitT x) (hy : FitT y) (w : World) : (Op.equalIn 10000 37 (.agg x.cs.toArray) (.agg y.cs.toArray)).run Tryz.prog w = .ok (decide (x = y)) w := by
  have hu : Tryz.prog.underlying 37 = some (.struct (Tryz.prog.fieldsOf 37)) := by kernel_rfl
  have hp : Tryz.prog.stoodInHeld 37 = false := by kernel_rfl
  rw [run_equalIn_agg w 9999 37 x.cs.toArray y.cs.toArray hu hp]
  exact run_eqFieldsT (d := 9994) hx hy w _ fields37

/-! ### laid into the midst -/
section
variable {P : Program} {ops : Array Oper} {rest : List Oper} {o : Oper} {a : Act} {w : World} {Q : Exit → Act → World → Prop}
theorem wpList_loadPart (t : TypeId) (x : Operand) (b off : Nat) (cs : List Value) (td : TypeDesc) (ho : o.op = .load t x) (hg : o.guard = none) (hx : a.eval x = .pointer (some ⟨b, off, none⟩))
    (hA : w.rangeAt b off cs) (hu : P.underlying t = some td) (hd : td.isRow = true) (hi : (P.info? t).map (·.size) = some cs.length)
    (h : wpList P ops Q rest (a.put o.dst (.agg cs.toArray)) w) : wpList P ops Q (o :: rest) a w :=
  wpList_load_mid hg t x ho b off hx cs td hA hu hd hi h
theorem wpList_storePart (t : TypeId) (x y : Operand) (b off : Nat) (cs ds : List Value) (ho : o.op = .store t x y) (hg : o.guard = none) (hx : a.eval x = .pointer (some ⟨b, off, none⟩)) (hy : a.eval y = .agg cs.toArray)
    (hA : Arr w b ds) (hl : off + cs.length ≤ ds.length) (hi : (P.info? t).map (·.size) = some cs.length) (hone : ∀ v ∈ cs, v.oneCell' = true)
    (h : ∀ w', Arr w' b (ds.take off ++ (cs ++ ds.drop (off + cs.length))) → w.grownBy w' (some b) → w'.heap.size = w.heap.size → wpList P ops Q rest (a.put o.dst undef) w') : wpList P ops Q (o :: rest) a w := by
  refine wpList_store_mid hg t x y ho b off cs.toArray hx hy ?_ ?_ (all_oneCell_toArray hone) ?_
  · intro j hj
    have hj' : j < cs.length := by simpa using hj
    have := hA.there (off + j) (by omega)
    simpa using this
  · simpa using hi
  · exact h _ (hA.mid off cs hl) (setCells_grown _ _ _ _) (by rw [setCells_size])
end
theorem tset0 {t : T} (h : FitT t) {s : S} (hs : Fit s) : t.cs.take 0 ++ (s.cs ++ t.cs.drop (0 + s.cs.length)) = ({ t with s0 := s } : T).cs := by
  have e0 := cs_length h.s0.dg
  have e := cs_length hs.dg
  show [] ++ _ = _
  rw [List.nil_append, e]
  unfold T.cs
  rw [show 0 + 36 = t.s0.cs.length by omega, List.drop_left]
theorem tset1 {t : T} (h : FitT t) {s : S} (hs : Fit s) : t.cs.take 36 ++ (s.cs ++ t.cs.drop (36 + s.cs.length)) = ({ t with s1 := s } : T).cs := by
  have e0 := cs_length h.s0.dg
  have e1 := cs_length h.s1.dg
  have e := cs_length hs.dg
  rw [e]
  unfold T.cs
  have h1 : ∀ r : List Value, (t.s0.cs ++ r).take 36 = t.s0.cs := fun r => by
    rw [List.take_append_of_le_length (by omega), List.take_of_length_le (by omega)]
  have h2 : ∀ r : List Value, (t.s0.cs ++ (t.s1.cs ++ r)).drop (36 + 36) = r := fun r => by
    rw [← List.append_assoc, show 36 + 36 = (t.s0.cs ++ t.s1.cs).length by simp; omega, List.drop_left]
  rw [h1, h2]
theorem tset72 {t : T} (h : FitT t) (x : Int) : t.cs.set 72 (.int .i64 x) = ({ t with act := x } : T).cs := by
  have e0 := cs_length h.s0.dg
  have e1 := cs_length h.s1.dg
  unfold T.cs
  rw [List.set_append, if_neg (by omega), List.set_append, if_neg (by omega), e0, e1]
  rfl
theorem tset73 {t : T} (h : FitT t) (x : Int) : t.cs.set 73 (.int .i64 x) = ({ t with boo := x } : T).cs := by
  have e0 := cs_length h.s0.dg
  have e1 := cs_length h.s1.dg
  unfold T.cs
  rw [List.set_append, if_neg (by omega), List.set_append, if_neg (by omega), e0, e1]
  rfl
theorem tset74 {t : T} (h : FitT t) (x : Nat) : t.cs.set 74 (.int .u64 (x : Int)) = ({ t with flo := x } : T).cs := by
  have e0 := cs_length h.s0.dg
  have e1 := cs_length h.s1.dg
  unfold T.cs
  rw [List.set_append, if_neg (by omega), List.set_append, if_neg (by omega), e0, e1]
  rfl
theorem cset3 {c : C} (h : FitC c) {s : S} (hs : Fit s) : c.cs.take 3 ++ (s.cs ++ c.cs.drop (3 + s.cs.length)) = ({ c with s := s } : C).cs := by
  have e0 := cs_length h.s.dg
  have e := cs_length hs.dg
  rw [e]
  unfold C.cs
  have h2 : ∀ r : List Value, (c.s.cs ++ r).drop 36 = r := fun r => by rw [show 36 = c.s.cs.length by omega, List.drop_left]
  show [_, _, _] ++ (s.cs ++ (c.s.cs ++ _).drop 36) = _
  rw [h2]
  rfl
theorem cset39 {c : C} (h : FitC c) (x : Nat) : c.cs.set 39 (.int .u64 (x : Int)) = ({ c with ver := x } : C).cs := by
  have e0 := cs_length h.s.dg
  unfold C.cs
  rw [show (39 : Nat) = 36 + 1 + 1 + 1 by rfl, List.set_cons_succ, List.set_cons_succ, List.set_cons_succ, List.set_append, if_neg (by omega), e0]
  rfl
end Go.Proofs.YtdfdalkcljfghaaGreat.Slot

namespace Go.Proofs.YtdfdalkcljfghaaGreat.Slot
open Go.RowKit

def actOk (x : Int) : Bool := (x == 0) || (x == 1)
def booOk (x : Int) : Bool := (x == -1) || actOk x
def verOk (v : Nat) : Bool := decide (v ≤ 281474976710656)
def rightT (t : T) : Bool := right t.s0 && (right t.s1 && (actOk t.act && (booOk t.boo && verOk t.flo)))
def oneC (c : C) : Bool :=
  if c.k = 1 then decide (c = ⟨1, c.sl, 0, c.s, 0⟩) && (actOk c.sl && right c.s)
  else if c.k = 2 then decide (c = ⟨2, 0, c.n, zeroS, 0⟩) && actOk c.n
  else if c.k = 3 then decide (c = ⟨3, 0, c.n, zeroS, 0⟩) && booOk c.n
  else if c.k = 4 then decide (c = ⟨4, 0, 0, zeroS, c.ver⟩) && verOk c.ver
  else false
def allC (l : List C) : Bool := decide (l.length ≤ 8) && l.all oneC
def setT (t : T) (c : C) : T :=
  if c.k = 1 then (if c.sl = 0 then { t with s0 := c.s } else { t with s1 := c.s })
  else if c.k = 2 then { t with act := c.n }
  else if c.k = 3 then { t with boo := c.n }
  else { t with flo := c.ver }
def lowC (t : T) (c : C) : Bool := decide (c.k = 4) && decide (c.ver < t.flo)
def foldT : T → List C → Option T
  | t, [] => some t
  | t, c :: l => if lowC t c = true then none else foldT (setT t c) l
def resT : Option T → T × Int
  | some u => (u, 0)
  | none => (zeroT, 111)
def applyT (t : T) (l : List C) : T × Int := if rightT t = true ∧ allC l = true then resT (foldT t l) else (zeroT, 111)
def putC (c : C) : List UInt8 :=
  fixedL c.k.toNat 1 ++ (if c.k = 1 then fixedL c.sl.toNat 1 ++ bytesS c.s else if c.k = 2 then fixedL c.n.toNat 1 else if c.k = 3 then fixedL (c.n + 1).toNat 1 else fixedL c.ver 8)
def putsC (l : List C) : List UInt8 := (l.map putC).flatten
def putL (l : List C) : List UInt8 := if allC l = true then fixedL l.length 1 ++ putsC l else []
def bytesT (t : T) : List UInt8 := if rightT t = true then bytesS t.s0 ++ bytesS t.s1 ++ fixedL t.act.toNat 1 ++ fixedL (t.boo + 1).toNat 1 ++ fixedL t.flo 8 else []

/-! ### what may be -/
theorem actOk_iff {x : Int} : actOk x = true ↔ x = 0 ∨ x = 1 := by simp [actOk]
theorem booOk_iff {x : Int} : booOk x = true ↔ x = -1 ∨ x = 0 ∨ x = 1 := by simp [booOk, actOk_iff]
theorem verOk_iff {v : Nat} : verOk v = true ↔ v ≤ 281474976710656 := by simp [verOk]
theorem rightT_iff {t : T} : rightT t = true ↔ right t.s0 = true ∧ right t.s1 = true ∧ (t.act = 0 ∨ t.act = 1) ∧ (t.boo = -1 ∨ t.boo = 0 ∨ t.boo = 1) ∧ t.flo ≤ 281474976710656 := by
  simp only [rightT, Bool.and_eq_true, actOk_iff, booOk_iff, verOk_iff]
theorem zeroT_right : rightT zeroT = true := by decide +kernel
theorem oneC_cases {c : C} (h : oneC c = true) : (c = ⟨1, c.sl, 0, c.s, 0⟩ ∧ (c.sl = 0 ∨ c.sl = 1) ∧ right c.s = true) ∨ (c = ⟨2, 0, c.n, zeroS, 0⟩ ∧ (c.n = 0 ∨ c.n = 1)) ∨
    (c = ⟨3, 0, c.n, zeroS, 0⟩ ∧ (c.n = -1 ∨ c.n = 0 ∨ c.n = 1)) ∨ (c = ⟨4, 0, 0, zeroS, c.ver⟩ ∧ c.ver ≤ 281474976710656) := by
  unfold oneC at h
  split at h
  · simp only [Bool.and_eq_true, decide_eq_true_eq, actOk_iff] at h
    exact .inl h
  · split at h
    · simp only [Bool.and_eq_true, decide_eq_true_eq, actOk_iff] at h
      exact .inr (.inl h)
    · split at h
      · simp only [Bool.and_eq_true, decide_eq_true_eq, booOk_iff] at h
        exact .inr (.inr (.inl h))
      · split at h
        · simp only [Bool.and_eq_true, decide_eq_true_eq, verOk_iff] at h
          exact .inr (.inr (.inr h))
        · cases h
theorem allC_iff {l : List C} : allC l = true ↔ l.length ≤ 8 ∧ ∀ c ∈ l, oneC c = true := by
  simp only [allC, Bool.and_eq_true, decide_eq_true_eq, List.all_eq_true]
theorem setT_right {t : T} {c : C} (ht : rightT t = true) (hc : oneC c = true) : rightT (setT t c) = true := by
  rw [rightT_iff] at ht ⊢
  rcases oneC_cases hc with ⟨e, h1, h2⟩ | ⟨e, h1⟩ | ⟨e, h1⟩ | ⟨e, h1⟩
  · have ek := congrArg C.k e
    simp only at ek
    unfold setT
    rw [if_pos ek]
    split
    · exact ⟨h2, ht.2⟩
    · exact ⟨ht.1, h2, ht.2.2⟩
  · have ek := congrArg C.k e
    simp only at ek
    unfold setT
    rw [if_neg (by omega), if_pos ek]
    exact ⟨ht.1, ht.2.1, h1, ht.2.2.2⟩
  · have ek := congrArg C.k e
    simp only at ek
    unfold setT
    rw [if_neg (by omega), if_neg (by omega), if_pos ek]
    exact ⟨ht.1, ht.2.1, ht.2.2.1, h1, ht.2.2.2.2⟩
  · have ek := congrArg C.k e
    simp only at ek
    unfold setT
    rw [if_neg (by omega), if_neg (by omega), if_neg (by omega)]
    exact ⟨ht.1, ht.2.1, ht.2.2.1, ht.2.2.2.1, h1⟩
theorem setT_fit {t : T} {c : C} (ht : FitT t) (hc : FitC c) : FitT (setT t c) := by
  unfold setT
  split
  · split
    · exact { ht with s0 := hc.s }
    · exact { ht with s1 := hc.s }
  · split
    · exact { ht with act0 := hc.n0, act1 := hc.n1 }
    · split
      · exact { ht with boo0 := hc.n0, boo1 := hc.n1 }
      · exact { ht with flo := hc.ver }
theorem foldT_right : ∀ {l : List C} {t u : T}, rightT t = true → (∀ c ∈ l, oneC c = true) → foldT t l = some u → rightT u = true
  | [], t, u, ht, _, h => by simp only [foldT, Option.some.injEq] at h; subst h; exact ht
  | c :: l, t, u, ht, hl, h => by
    rw [foldT] at h
    split at h
    · cases h
    · exact foldT_right (setT_right ht (hl c (by simp))) (fun x hx => hl x (by simp [hx])) h
theorem foldT_fit : ∀ {l : List C} {t u : T}, FitT t → (∀ c ∈ l, FitC c) → foldT t l = some u → FitT u
  | [], t, u, ht, _, h => by simp only [foldT, Option.some.injEq] at h; subst h; exact ht
  | c :: l, t, u, ht, hl, h => by
    rw [foldT] at h
    split at h
    · cases h
    · exact foldT_fit (setT_fit ht (hl c (by simp))) (fun x hx => hl x (by simp [hx])) h
theorem apply_cases (t : T) (l : List C) : applyT t l = (zeroT, 111) ∨ ∃ u, applyT t l = (u, 0) ∧ rightT t = true ∧ allC l = true ∧ foldT t l = some u := by
  unfold applyT
  split
  · rename_i h
    cases e : foldT t l with
    | none => exact .inl rfl
    | some u => exact .inr ⟨u, rfl, h.1, h.2, rfl⟩
  · exact .inl rfl
theorem apply_right {t u : T} {l : List C} (h : applyT t l = (u, 0)) : rightT u = true := by
  rcases apply_cases t l with e | ⟨v, e, h1, h2, h3⟩
  · rw [e] at h; cases h
  · rw [e] at h; cases h
    exact foldT_right h1 (allC_iff.1 h2).2 h3
theorem apply_fit {t : T} {l : List C} (ht : FitT t) (hl : ∀ c ∈ l, FitC c) : FitT (applyT t l).1 := by
  rcases apply_cases t l with e | ⟨v, e, h1, h2, h3⟩
  · rw [e]; exact zeroT_fit
  · rw [e]; exact foldT_fit ht hl h3
theorem apply_err (t : T) (l : List C) : (applyT t l).2 = 0 ∨ ((applyT t l).2 = 111 ∧ (applyT t l).1 = zeroT) := by
  rcases apply_cases t l with e | ⟨v, e, _⟩
  · rw [e]; exact .inr ⟨rfl, rfl⟩
  · rw [e]; exact .inl rfl

/-! ### bytes -/
theorem fix_app {n k : Nat} {m : Int} (hm : sizeN m = k) (hn : n < 256 ^ k) (r : List UInt8) : fixL (fixedL n k ++ r) 0 m = (n, r, 0) := by
  rw [fix_long hm (by simp [fixedL_length])]
  have h1 : (fixedL n k ++ r).take k = fixedL n k := by rw [List.take_append_of_le_length (by rw [fixedL_length]; omega), List.take_of_length_le (by rw [fixedL_length]; omega)]
  have h2 : (fixedL n k ++ r).drop k = r := by
    have := List.drop_left (l₁ := fixedL n k) (l₂ := r)
    rwa [fixedL_length] at this
  rw [h1, h2, numL_fixedL, Nat.mod_eq_of_lt hn]
theorem take_app {a r : List UInt8} {k : Nat} (h : a.length = k) : (a ++ r).take k = a := by
  rw [List.take_append_of_le_length (by omega), List.take_of_length_le (by omega)]
theorem drop_app {a r : List UInt8} {k : Nat} (h : a.length = k) : (a ++ r).drop k = r := by
  subst h; exact List.drop_left
theorem num_app {n k : Nat} (hn : n < 256 ^ k) : numL (fixedL n k) = n := by rw [numL_fixedL, Nat.mod_eq_of_lt hn]
theorem rdS_bytes {s : S} (hr : right s = true) (hf : Fit s) (r : List UInt8) : rdS (bytesS s ++ r) = s := by
  have hg := right_range hr
  unfold bytesS rdS
  rw [if_pos hr]
  simp only [List.append_assoc]
  have f1 := fixedL_length 1 s.st.toNat
  have f2 := fixedL_length 1 s.tr.toNat
  have f3 := fixedL_length 8 s.ver
  have f4 := fixedL_length 4 s.sz.toNat
  have d1 : ∀ x : List UInt8, (fixedL s.st.toNat 1 ++ x).drop 1 = x := fun x => drop_app f1
  have d2 : ∀ x : List UInt8, (fixedL s.st.toNat 1 ++ (fixedL s.tr.toNat 1 ++ x)).drop 2 = x := fun x => by
    rw [← List.append_assoc]; exact drop_app (by simp [f1, f2])
  have d3 : ∀ x : List UInt8, (fixedL s.st.toNat 1 ++ (fixedL s.tr.toNat 1 ++ (fixedL s.ver 8 ++ x))).drop 10 = x := fun x => by
    rw [← List.append_assoc, ← List.append_assoc]; exact drop_app (by simp [f1, f2, f3])
  have d4 : ∀ x : List UInt8, (fixedL s.st.toNat 1 ++ (fixedL s.tr.toNat 1 ++ (fixedL s.ver 8 ++ (fixedL s.sz.toNat 4 ++ x)))).drop 14 = x := fun x => by
    rw [← List.append_assoc, ← List.append_assoc, ← List.append_assoc]; exact drop_app (by simp [f1, f2, f3, f4])
  rw [d1, d2, d3, d4, take_app f1, take_app f2, take_app f3, take_app f4, take_app hf.dg, num_app (by omega), num_app (by omega), num_app (by omega), num_app (by omega)]
  obtain ⟨a, b, c, d, e⟩ := s
  simp only at hg
  simp only [S.mk.injEq]
  exact ⟨by omega, by omega, trivial, by omega, trivial⟩
theorem checked_right {s : S} (h : right s = true) : checkedF s = (s, 0) := by unfold checkedF; rw [if_pos h]
theorem read_bytes {s : S} (hr : right s = true) (hf : Fit s) (r : List UInt8) : readF (bytesS s ++ r) 0 = (s, 0, r, 0) := by
  have hl := bytes_len hr hf
  unfold readF
  rw [if_pos ⟨rfl, by rw [List.length_append]; omega⟩, rdS_bytes hr hf, checked_right hr, drop_app hl]

/-! ### reading -/
/-- One change, what is left, the reader's error. -/
def rdC (l : List UInt8) (e : Int) : C × List UInt8 × Int :=
  let k := fixL l e 1
  if k.1 = 1 then
    let s := fixL k.2.1 k.2.2 1
    let r := readF s.2.1 s.2.2
    (⟨1, (s.1 : Int), 0, r.1, 0⟩, r.2.2)
  else if k.1 = 2 then (⟨2, 0, ((fixL k.2.1 k.2.2 1).1 : Int), zeroS, 0⟩, (fixL k.2.1 k.2.2 1).2)
  else if k.1 = 3 then (⟨3, 0, ((fixL k.2.1 k.2.2 1).1 : Int) - 1, zeroS, 0⟩, (fixL k.2.1 k.2.2 1).2)
  else if k.1 = 4 then (⟨4, 0, 0, zeroS, (fixL k.2.1 k.2.2 8).1⟩, (fixL k.2.1 k.2.2 8).2)
  else (⟨(k.1 : Int), 0, 0, zeroS, 0⟩, k.2)
def rdN : Nat → List UInt8 → Int → List C × List UInt8 × Int
  | 0, l, e => ([], l, e)
  | n + 1, l, e => ((rdC l e).1 :: (rdN n (rdC l e).2.1 (rdC l e).2.2).1, (rdN n (rdC l e).2.1 (rdC l e).2.2).2)
def rdAll (l : List UInt8) : List C × List UInt8 × Int := rdN (fixL l 0 1).1 (fixL l 0 1).2.1 (fixL l 0 1).2.2
theorem rdN_length : ∀ (n : Nat) (l : List UInt8) (e : Int), (rdN n l e).1.length = n
  | 0, _, _ => rfl
  | n + 1, l, e => by rw [rdN, List.length_cons, rdN_length n]
theorem rdN_snoc : ∀ (n : Nat) (l : List UInt8) (e : Int), rdN (n + 1) l e = ((rdN n l e).1 ++ [(rdC (rdN n l e).2.1 (rdN n l e).2.2).1], (rdC (rdN n l e).2.1 (rdN n l e).2.2).2)
  | 0, l, e => rfl
  | n + 1, l, e => by
    rw [rdN, rdN_snoc n, rdN]
    rfl
theorem rdC_put {c : C} (h : oneC c = true) (hf : FitC c) (r : List UInt8) : rdC (putC c ++ r) 0 = (c, r, 0) := by
  have e1 : sizeN 1 = 1 := rfl
  have e8 : sizeN 8 = 8 := rfl
  rcases oneC_cases h with ⟨e, h1, h2⟩ | ⟨e, h1⟩ | ⟨e, h1⟩ | ⟨e, h1⟩
  · have ek := congrArg C.k e
    simp only at ek
    have q : putC c ++ r = fixedL 1 1 ++ (fixedL c.sl.toNat 1 ++ (bytesS c.s ++ r)) := by
      unfold putC
      rw [if_pos ek, ek]
      simp only [List.append_assoc]
      rfl
    unfold rdC
    rw [q]
    simp only [fix_app e1 (show 1 < 256 ^ 1 by decide), if_true]
    rw [fix_app e1 (show c.sl.toNat < 256 ^ 1 by omega), read_bytes h2 hf.s, show ((c.sl.toNat : Nat) : Int) = c.sl by omega, ← e]
  · have ek := congrArg C.k e
    simp only at ek
    have q : putC c ++ r = fixedL 2 1 ++ (fixedL c.n.toNat 1 ++ r) := by
      unfold putC
      rw [if_neg (by omega), if_pos ek, ek, List.append_assoc]
      rfl
    unfold rdC
    rw [q]
    simp only [fix_app e1 (show 2 < 256 ^ 1 by decide), fix_app e1 (show c.n.toNat < 256 ^ 1 by omega)]
    rw [if_neg (by decide), if_pos trivial, show ((c.n.toNat : Nat) : Int) = c.n by omega, ← e]
  · have ek := congrArg C.k e
    simp only at ek
    have q : putC c ++ r = fixedL 3 1 ++ (fixedL (c.n + 1).toNat 1 ++ r) := by
      unfold putC
      rw [if_neg (by omega), if_neg (by omega), if_pos ek, ek, List.append_assoc]
      rfl
    unfold rdC
    rw [q]
    simp only [fix_app e1 (show 3 < 256 ^ 1 by decide), fix_app e1 (show (c.n + 1).toNat < 256 ^ 1 by omega)]
    rw [if_neg (by decide), if_neg (by decide), if_pos trivial, show (((c.n + 1).toNat : Nat) : Int) - 1 = c.n by omega, ← e]
  · have ek := congrArg C.k e
    simp only at ek
    have q : putC c ++ r = fixedL 4 1 ++ (fixedL c.ver 8 ++ r) := by
      unfold putC
      rw [if_neg (by omega), if_neg (by omega), if_neg (by omega), ek, List.append_assoc]
      rfl
    unfold rdC
    rw [q]
    simp only [fix_app e1 (show 4 < 256 ^ 1 by decide), fix_app e8 (show c.ver < 256 ^ 8 by have := hf.ver; omega)]
    rw [if_neg (by decide), if_neg (by decide), if_neg (by decide), if_pos trivial, ← e]
theorem rdN_put : ∀ (l : List C), (∀ c ∈ l, oneC c = true) → (∀ c ∈ l, FitC c) → ∀ r, rdN l.length (putsC l ++ r) 0 = (l, r, 0)
  | [], _, _, r => rfl
  | c :: l, h, hf, r => by
    have e : putsC (c :: l) ++ r = putC c ++ (putsC l ++ r) := by simp [putsC]
    rw [List.length_cons, rdN, e, rdC_put (h c (by simp)) (hf c (by simp)), rdN_put l (fun x hx => h x (by simp [hx])) (fun x hx => hf x (by simp [hx]))]
theorem rdAll_put {l : List C} (h : allC l = true) (hf : ∀ c ∈ l, FitC c) (r : List UInt8) : rdAll (putL l ++ r) = (l, r, 0) := by
  have h8 := allC_iff.1 h
  unfold rdAll putL
  rw [if_pos h, List.append_assoc, fix_app (m := 1) (k := 1) rfl (by omega)]
  exact rdN_put l h8.2 hf r
theorem rdC_fit (l : List UInt8) (e : Int) : FitC (rdC l e).1 := by
  have e1 : sizeN 1 = 1 := rfl
  have hk := fixL_lt l e 1
  have hb : ∀ (l : List UInt8) (e : Int), (fixL l e 1).1 < 256 := fun l e => fixL_lt l e 1
  have h8 : ∀ (l : List UInt8) (e : Int), (fixL l e 8).1 < 18446744073709551616 := fun l e => fixL_lt l e 8
  have hS : ∀ (l : List UInt8) (e : Int), Fit (readF l e).1 := fun l e => by
    unfold readF
    split
    · rename_i h
      unfold checkedF
      split
      · exact rdS_fit h.2
      · exact zeroS_fit
    · exact zeroS_fit
  unfold rdC
  simp only
  split
  · have := hb (fixL l e 1).2.1 (fixL l e 1).2.2
    exact ⟨by simp only; omega, by simp only; omega, by simp only; omega, by simp only; omega, by simp only; omega, by simp only; omega, hS _ _, by simp only; omega⟩
  · split
    · have := hb (fixL l e 1).2.1 (fixL l e 1).2.2
      exact ⟨by simp only; omega, by simp only; omega, by simp only; omega, by simp only; omega, by simp only; omega, by simp only; omega, zeroS_fit, by simp only; omega⟩
    · split
      · have := hb (fixL l e 1).2.1 (fixL l e 1).2.2
        exact ⟨by simp only; omega, by simp only; omega, by simp only; omega, by simp only; omega, by simp only; omega, by simp only; omega, zeroS_fit, by simp only; omega⟩
      · split
        · exact ⟨by simp only; omega, by simp only; omega, by simp only; omega, by simp only; omega, by simp only; omega, by simp only; omega, zeroS_fit, h8 _ _⟩
        · have := hb l e
          exact ⟨by simp only; omega, by simp only; omega, by simp only; omega, by simp only; omega, by simp only; omega, by simp only; omega, zeroS_fit, by simp only; omega⟩
theorem fixL_over {l : List UInt8} {e : Int} (h : Over l e) (m : Int) : Over (fixL l e m).2.1 (fixL l e m).2.2 := takeL_over h
theorem readF_over {l : List UInt8} {e : Int} (_h : Over l e) : Over (readF l e).2.2.1 (readF l e).2.2.2 := by
  unfold readF
  split
  · exact fun h => absurd rfl h
  · exact fun _ => rfl
theorem rdC_over {l : List UInt8} {e : Int} (h : Over l e) : Over (rdC l e).2.1 (rdC l e).2.2 := by
  have h1 := fixL_over h 1
  unfold rdC
  simp only
  split
  · exact readF_over (fixL_over h1 1)
  · split
    · exact fixL_over h1 1
    · split
      · exact fixL_over h1 1
      · split
        · exact fixL_over h1 8
        · exact h1
theorem rdN_over : ∀ (n : Nat) {l : List UInt8} {e : Int}, Over l e → Over (rdN n l e).2.1 (rdN n l e).2.2
  | 0, _, _, h => h
  | n + 1, _, _, h => rdN_over n (rdC_over h)
theorem rdN_fit : ∀ (n : Nat) (l : List UInt8) (e : Int), ∀ c ∈ (rdN n l e).1, FitC c
  | 0, _, _, c, hc => by cases hc
  | n + 1, l, e, c, hc => by
    rw [rdN] at hc
    rcases List.mem_cons.1 hc with rfl | hc
    · exact rdC_fit l e
    · exact rdN_fit n _ _ c hc
theorem over0 (l : List UInt8) : Over l 0 := fun h => absurd rfl h
theorem rdAll_fit (l : List UInt8) : ∀ c ∈ (rdAll l).1, FitC c := rdN_fit _ _ _
/-- The transaction that bytes are. -/
def getF (b : List UInt8) : List C × Int := if b ≠ [] ∧ putL (rdAll b).1 = b then ((rdAll b).1, 0) else ([], 111)
theorem get_put {l : List C} (h : allC l = true) (hf : ∀ c ∈ l, FitC c) : getF (putL l) = (l, 0) := by
  have e := rdAll_put h hf []
  rw [List.append_nil] at e
  have hne : putL l ≠ [] := fun e => by
    unfold putL at e
    rw [if_pos h] at e
    have := congrArg List.length e
    rw [List.length_append, fixedL_length] at this
    simp at this
  unfold getF
  rw [e, if_pos ⟨hne, rfl⟩]
theorem get_fit (b : List UInt8) : ∀ c ∈ (getF b).1, FitC c := by
  unfold getF
  split
  · exact rdAll_fit b
  · intro c hc; cases hc
/-- The table that a hundred and two bytes are, if they are one's. -/
def rdT (l : List UInt8) : T := ⟨(checkedF (rdS l)).1, (checkedF (rdS (l.drop 46))).1, (numL ((l.drop 92).take 1) : Int), (numL ((l.drop 93).take 1) : Int) - 1, numL ((l.drop 94).take 8)⟩
def parseF (b : List UInt8) : T × Int := if b.length = 102 ∧ bytesT (rdT b) = b then (rdT b, 0) else (zeroT, 111)
theorem bytesT_len {t : T} (h : rightT t = true) (hf : FitT t) : (bytesT t).length = 102 := by
  have hr := rightT_iff.1 h
  unfold bytesT
  rw [if_pos h]
  simp only [List.length_append, bytes_len hr.1 hf.s0, bytes_len hr.2.1 hf.s1, fixedL_length]
theorem rdT_bytes {t : T} (h : rightT t = true) (hf : FitT t) : rdT (bytesT t) = t := by
  have hr := rightT_iff.1 h
  have l0 := bytes_len hr.1 hf.s0
  have l1 := bytes_len hr.2.1 hf.s1
  have f1 := fixedL_length 1 t.act.toNat
  have f2 := fixedL_length 1 (t.boo + 1).toNat
  have f3 := fixedL_length 8 t.flo
  unfold bytesT
  rw [if_pos h]
  simp only [List.append_assoc]
  unfold rdT
  have d1 : ∀ x : List UInt8, (bytesS t.s0 ++ x).drop 46 = x := fun x => drop_app l0
  have d2 : ∀ x : List UInt8, (bytesS t.s0 ++ (bytesS t.s1 ++ x)).drop 92 = x := fun x => by
    rw [← List.append_assoc]; exact drop_app (by simp [l0, l1])
  have d3 : ∀ x : List UInt8, (bytesS t.s0 ++ (bytesS t.s1 ++ (fixedL t.act.toNat 1 ++ x))).drop 93 = x := fun x => by
    rw [← List.append_assoc, ← List.append_assoc]; exact drop_app (by simp [l0, l1, f1])
  have d4 : ∀ x : List UInt8, (bytesS t.s0 ++ (bytesS t.s1 ++ (fixedL t.act.toNat 1 ++ (fixedL (t.boo + 1).toNat 1 ++ x)))).drop 94 = x := fun x => by
    rw [← List.append_assoc, ← List.append_assoc, ← List.append_assoc]; exact drop_app (by simp [l0, l1, f1, f2])
  rw [d1, d2, d3, d4, rdS_bytes hr.1 hf.s0, rdS_bytes hr.2.1 hf.s1, checked_right hr.1, checked_right hr.2.1, take_app f1, take_app f2, List.take_of_length_le (by omega), num_app (by omega), num_app (by omega), num_app (by have := hf.flo; omega)]
  obtain ⟨a, b, c, d, e⟩ := t
  simp only at hr
  simp only [T.mk.injEq, and_true, true_and]
  omega
theorem parse_bytes {t : T} (h : rightT t = true) (hf : FitT t) : parseF (bytesT t) = (t, 0) := by
  unfold parseF
  rw [rdT_bytes h hf, if_pos ⟨bytesT_len h hf, rfl⟩]
theorem rdT_fit {l : List UInt8} (h : 102 ≤ l.length) : FitT (rdT l) := by
  have hS : ∀ l : List UInt8, 46 ≤ l.length → Fit (checkedF (rdS l)).1 := fun l hl => by
    unfold checkedF
    split
    · exact rdS_fit hl
    · exact zeroS_fit
  have h1 := numL_lt ((l.drop 92).take 1)
  have h2 := numL_lt ((l.drop 93).take 1)
  have h3 := numL_lt ((l.drop 94).take 8)
  rw [List.length_take, List.length_drop, show min 1 (l.length - 92) = 1 by omega] at h1
  rw [List.length_take, List.length_drop, show min 1 (l.length - 93) = 1 by omega] at h2
  rw [List.length_take, List.length_drop, show min 8 (l.length - 94) = 8 by omega] at h3
  exact ⟨hS _ (by omega), hS _ (by rw [List.length_drop]; omega), by simp only [rdT]; omega, by simp only [rdT]; omega, by simp only [rdT]; omega, by simp only [rdT]; omega, h3⟩
theorem parse_fit (b : List UInt8) : FitT (parseF b).1 := by
  unfold parseF
  split
  · rename_i h
    exact rdT_fit (by omega)
  · exact zeroT_fit
theorem parse_err (b : List UInt8) : (parseF b).2 = 0 ∧ rightT (parseF b).1 = true ∧ bytesT (parseF b).1 = b ∨ parseF b = (zeroT, 111) := by
  unfold parseF
  split
  · rename_i h
    refine .inl ⟨rfl, ?_, h.2⟩
    have h2 := h.2
    unfold bytesT at h2
    split at h2
    · assumption
    · rw [← h2] at h; exact absurd h.1 (by decide)
  · exact .inr rfl
theorem putC_len {c : C} (h : oneC c = true) (hf : FitC c) : (putC c).length ≤ 48 := by
  unfold putC
  rw [List.length_append, fixedL_length]
  rcases oneC_cases h with ⟨e, h1, h2⟩ | ⟨e, h1⟩ | ⟨e, h1⟩ | ⟨e, h1⟩ <;> have ek := congrArg C.k e <;> simp only at ek
  · rw [if_pos ek, List.length_append, fixedL_length, bytes_len h2 hf.s]; decide
  · rw [if_neg (by omega), if_pos ek, fixedL_length]; omega
  · rw [if_neg (by omega), if_neg (by omega), if_pos ek, fixedL_length]; omega
  · rw [if_neg (by omega), if_neg (by omega), if_neg (by omega), fixedL_length]; omega
theorem putsC_len : ∀ {l : List C}, (∀ c ∈ l, oneC c = true) → (∀ c ∈ l, FitC c) → (putsC l).length ≤ 48 * l.length
  | [], _, _ => Nat.le_refl _
  | c :: l, h, hf => by
    have h1 := putC_len (h c (by simp)) (hf c (by simp))
    have h2 := putsC_len (l := l) (fun x hx => h x (by simp [hx])) (fun x hx => hf x (by simp [hx]))
    have e : putsC (c :: l) = putC c ++ putsC l := by simp [putsC]
    rw [e, List.length_append, List.length_cons]
    omega
theorem putL_len {l : List C} (hf : ∀ c ∈ l, FitC c) : (putL l).length ≤ 400 := by
  unfold putL
  split
  · rename_i h
    have h8 := allC_iff.1 h
    have := putsC_len h8.2 hf
    rw [List.length_append, fixedL_length]
    omega
  · simp

/-! ### what is kept -/
/-- Behind a body's transaction. -/
def behindF (t : T) (b : List UInt8) : T × Int := if (getF b).2 ≠ 0 then (zeroT, (getF b).2) else applyT t (getF b).1
def foldB : T → List (List UInt8) → T
  | t, [] => t
  | t, b :: bs => if (behindF t b).2 ≠ 0 then t else foldB (behindF t b).1 bs
def keptF (first : T) : List (List UInt8) → T
  | [] => first
  | b :: bs => if (parseF b).2 ≠ 0 then first else foldB (parseF b).1 bs
theorem behind_fit {t : T} (ht : FitT t) (b : List UInt8) : FitT (behindF t b).1 := by
  unfold behindF
  split
  · exact zeroT_fit
  · exact apply_fit ht (get_fit b)
theorem foldB_fit : ∀ (bs : List (List UInt8)) {t : T}, FitT t → FitT (foldB t bs)
  | [], _, h => h
  | b :: bs, t, h => by
    rw [foldB]
    split
    · exact h
    · exact foldB_fit bs (behind_fit h b)
theorem kept_fit {first : T} (h : FitT first) (bs : List (List UInt8)) : FitT (keptF first bs) := by
  cases bs with
  | nil => exact h
  | cons b bs =>
    rw [keptF]
    split
    · exact h
    · exact foldB_fit bs (parse_fit b)
theorem kept_base {t first : T} (h : rightT t = true) (hf : FitT t) : keptF first [bytesT t] = t := by
  rw [keptF, parse_bytes h hf, if_neg (by simp)]
  rfl
theorem behind_put {t : T} {l : List C} (hl : ∀ c ∈ l, FitC c) (h : (applyT t l).2 = 0) : behindF t (putL l) = ((applyT t l).1, 0) := by
  rcases apply_cases t l with e | ⟨v, e, h1, h2, h3⟩
  · rw [e] at h; cases h
  · unfold behindF
    rw [get_put h2 hl, if_neg (by simp), e]
/-- A row of bodies that is read to its end. -/
def Whole : T → List (List UInt8) → Prop
  | _, [] => True
  | t, b :: bs => (behindF t b).2 = 0 ∧ Whole (behindF t b).1 bs
def WholeK : List (List UInt8) → Prop
  | [] => True
  | b :: bs => (parseF b).2 = 0 ∧ Whole (parseF b).1 bs
theorem foldB_snoc : ∀ {bs : List (List UInt8)} {t : T} (b : List UInt8), Whole t bs → (behindF (foldB t bs) b).2 = 0 → foldB t (bs ++ [b]) = (behindF (foldB t bs) b).1 ∧ Whole t (bs ++ [b])
  | [], t, b, _, h => by
    have h' : (behindF t b).2 = 0 := h
    refine ⟨?_, h', trivial⟩
    show (if (behindF t b).2 ≠ 0 then t else foldB (behindF t b).1 []) = _
    rw [if_neg (by simp [h'])]
    rfl
  | c :: bs, t, b, hw, h => by
    have e : foldB t (c :: bs) = foldB (behindF t c).1 bs := by rw [foldB, if_neg (by simp [hw.1])]
    rw [e] at h ⊢
    obtain ⟨h1, h2⟩ := foldB_snoc b hw.2 h
    refine ⟨?_, hw.1, h2⟩
    rw [List.cons_append, foldB, if_neg (by simp [hw.1])]
    exact h1
theorem kept_snoc {first : T} {bs : List (List UInt8)} (hne : bs ≠ []) (hw : WholeK bs) {l : List C} (hl : ∀ c ∈ l, FitC c) (h : (applyT (keptF first bs) l).2 = 0) :
    keptF first (bs ++ [putL l]) = (applyT (keptF first bs) l).1 ∧ WholeK (bs ++ [putL l]) := by
  cases bs with
  | nil => exact absurd rfl hne
  | cons b bs =>
    have e : keptF first (b :: bs) = foldB (parseF b).1 bs := by rw [keptF, if_neg (by simp [hw.1])]
    rw [e] at h ⊢
    have hb := behind_put hl h
    obtain ⟨h1, h2⟩ := foldB_snoc (putL l) hw.2 (by rw [hb])
    refine ⟨?_, hw.1, h2⟩
    rw [List.cons_append, keptF, if_neg (by simp [hw.1]), h1, hb]
theorem whole_base {t : T} (h : rightT t = true) (hf : FitT t) : WholeK [bytesT t] := by
  show (parseF (bytesT t)).2 = 0 ∧ _
  rw [parse_bytes h hf]
  exact ⟨rfl, trivial⟩
theorem foldB_right : ∀ (bs : List (List UInt8)) {t : T}, rightT t = true → rightT (foldB t bs) = true
  | [], _, h => h
  | b :: bs, t, h => by
    rw [foldB]
    split
    · exact h
    · rename_i h2
      have h2' : (behindF t b).2 = 0 := by simpa using h2
      refine foldB_right bs ?_
      unfold behindF at h2' ⊢
      split at h2'
      · rename_i h3; exact absurd h2' h3
      · rename_i h3
        rw [if_neg h3]
        exact apply_right (t := t) (l := (getF b).1) (by rw [← h2'])
theorem kept_right {first : T} (h : rightT first = true) (bs : List (List UInt8)) : rightT (keptF first bs) = true := by
  cases bs with
  | nil => exact h
  | cons b bs =>
    rw [keptF]
    split
    · exact h
    · rcases parse_err b with e | e
      · exact foldB_right bs e.2.1
      · rename_i h2
        rw [e] at h2
        simp at h2
end Go.Proofs.YtdfdalkcljfghaaGreat.Slot

namespace Go.Proofs.YtdfdalkcljfghaaGreat.Slot
open Go.RowKit

set_option maxHeartbeats 800000 in
set_option maxRecDepth 100000 in
theorem isSlot_walk (x : Int) (w : World) : Calls Tryz.prog 61 #[.int .i64 x] w fun e w' => e = .returned (.bool (actOk x)) ∧ w' = w := by
  have Hr : Hid (actOk x = ((x == 0) || (x == 1))) := hide rfl
  generalize actOk x = r at *
  go_enter Tryz.func61, Tryz.ntmps61
  go_wp2
  all_goals
    go_ret
    refine ⟨?_, rfl⟩
    rw [unhide Hr]
    simp_all
set_option maxHeartbeats 800000 in
set_option maxRecDepth 100000 in
theorem isBooted_walk (x : Int) (w : World) : Calls Tryz.prog 62 #[.int .i64 x] w fun e w' => e = .returned (.bool (booOk x)) ∧ w' = w := by
  have Hr : Hid (booOk x = ((x == -1) || actOk x)) := hide rfl
  have HS := hide (isSlot_walk x)
  generalize booOk x = r at *
  generalize actOk x = s at *
  by_cases h : x = -1
  · have h1 : (x == -1) = true := by simpa using h
    clear h
    go_enter Tryz.func62, Tryz.ntmps62
    go_wp2
    go_ret
    refine ⟨?_, rfl⟩
    rw [unhide Hr, h1]
    rfl
  · have h1 : (x == -1) = false := by simpa using h
    clear h
    go_enter Tryz.func62, Tryz.ntmps62
    go_wp2_with fail
    refine (unhide HS w).mono ?_
    rintro e w1 ⟨rfl, hw⟩
    subst hw
    go_wp2
    go_ret
    refine ⟨?_, rfl⟩
    rw [unhide Hr, h1]
    rfl
set_option maxHeartbeats 800000 in
set_option maxRecDepth 100000 in
theorem isVersion_walk (v : Nat) (w : World) : Calls Tryz.prog 63 #[.int .u64 (v : Int)] w fun e w' => e = .returned (.bool (verOk v)) ∧ w' = w := by
  have Hr : Hid (verOk v = decide ((v : Int) ≤ 281474976710656)) := by
    show _ = _
    unfold verOk
    rw [Bool.eq_iff_iff, decide_eq_true_eq, decide_eq_true_eq]
    omega
  generalize verOk v = r at *
  generalize (v : Int) = z at *
  go_enter Tryz.func63, Tryz.ntmps63
  go_wp2
  go_ret
  refine ⟨?_, rfl⟩
  rw [unhide Hr]
  rfl

/-- One of the two slots that a table's array holds. -/
theorem run_index35 {t : T} (h : FitT t) (k : Nat) (hk : k < 2) (w : World) : (Instr.index 35 (.agg (t.s0.cs ++ t.s1.cs).toArray) (.int .i64 (k : Int))).run Tryz.prog w = .ok (.agg (if k = 0 then t.s0 else t.s1).cs.toArray) w := by
  have P0 := fun w => run_partA _ _ 34 36 0 agg34 siz34 (slot_part h).1 w
  have P1 := fun w => run_partA _ _ 34 36 36 agg34 siz34 (slot_part h).2 w
  have hz := fun w => siz34 w
  match k, hk with
  | 0, _ => simp [Instr.index, run_underlying Tryz.underlying35, hz, asIntOf, P0]
  | 1, _ => simp [Instr.index, run_underlying Tryz.underlying35, hz, asIntOf, P1]
def T.sl (t : T) (k : Nat) : S := if k = 0 then t.s0 else t.s1
theorem FitT.sl {t : T} (h : FitT t) (k : Nat) : Fit (t.sl k) := by
  unfold T.sl
  split
  · exact h.s0
  · exact h.s1

set_option maxHeartbeats 1600000 in
set_option maxRecDepth 100000 in
theorem rightT_walk (t : T) (ht : FitT t) (w : World) : Calls Tryz.prog 19 #[t.v] w fun e w' => e = .returned (.bool (rightT t)) ∧ Below w.heap.size w w' := by
  have HX := hide (run_index35 ht)
  have HL := hide (tcs_length ht)
  have HI := hide (info35t ht)
  have HFS := hide (fun k => ht.sl k)
  have HRW := hide (fun (k : Nat) (w : World) => right_walk (t.sl k) (ht.sl k) w)
  have HAL := hide alloc34
  have HN := hide (fun (k : Nat) => info34s (ht.sl k).dg)
  have HNL := hide (fun (k : Nat) => cs_length (ht.sl k).dg)
  have HG := hide (tget ht)
  have Hr : Hid (rightT t = (right (t.sl 0) && (right (t.sl 1) && (actOk t.act && (booOk t.boo && verOk t.flo))))) := hide rfl
  have HAR : Hid (∀ w b, Arr w b t.cs → w.rangeAt b 0 (t.s0.cs ++ t.s1.cs)) := hide fun w b h => trange35 (o := 0) h.range
  unfold T.v
  change Hid (∀ k : Nat, k < 2 → ∀ w : World, (Instr.index 35 (.agg (t.s0.cs ++ t.s1.cs).toArray) (.int .i64 (k : Int))).run Tryz.prog w = .ok (.agg (t.sl k).cs.toArray) w) at HX
  generalize t.s0.cs ++ t.s1.cs = B at *
  generalize T.sl t = f at *
  generalize t.cs = X at *
  generalize rightT t = R at *
  have HA := hide (isSlot_walk t.act)
  have HB := hide (isBooted_walk t.boo)
  have HV := hide (isVersion_walk t.flo)
  generalize actOk t.act = ra at *
  generalize booOk t.boo = rb at *
  generalize verOk t.flo = rv at *
  generalize t.act = xa at *
  generalize t.boo = xb at *
  generalize t.flo = xv at *
  clear ht
  go_enter Tryz.func19, Tryz.ntmps19
  go_wp2_with (refine wpList_box 37 _ X rfl rfl rfl ?_)
  intro w1 hA1 hb1 hs1
  have HA1 := hide hA1
  have Hb1 := hide hb1
  have HR1 := hide (unhide HAR w1 _ hA1)
  clear hA1 hb1
  go_wp2_with (refine wpList_loadPart 35 _ w.heap.size 0 B _ rfl rfl rfl (unhide HR1) Tryz.underlying35 rfl (unhide HI) ?_)
  go_loopw [7] (fun ci wr => ∃ k : Nat, k ≤ 2 ∧ ci = .int .i64 (k : Int) ∧ (∀ j, j < k → right (f j) = true) ∧ Arr wr w.heap.size X ∧ Below w.heap.size w wr) (fun ci _ => 2 - (intOf ci).toNat)
  case atStart => exact ⟨0, by omega, rfl, fun j hj => by omega, unhide HA1, unhide Hb1⟩
  case round =>
    obtain ⟨k, hk, rfl, hj, hA, hb⟩ := hrel
    by_cases hlt : k < 2
    · have hi := unhide HX k hlt
      have HRk := hide (unhide HRW k)
      have HNk := hide (unhide HN k)
      have HLk := hide (unhide HNL k)
      have H1 := hide (cs_one (f k))
      have HJ := hide hj
      have HA2 := hide hA
      have Hb2 := hide hb
      have Hr2 : Hid (right (f k) = false → R = false) := hide fun h => by
        rw [unhide Hr]
        rcases (show k = 0 ∨ k = 1 by omega) with e | e
        · subst e; rw [h]; rfl
        · subst e; rw [h]; simp
      have HJ2 : Hid (right (f k) = true → ∀ j, j < k + 1 → right (f j) = true) := hide fun h j hjk => by
        rcases Nat.lt_or_ge j k with e | e
        · exact unhide HJ j e
        · obtain rfl : j = k := by omega
          exact h
      clear hj hA hb HX HRW HN HNL HFS HJ
      generalize f k = s at *
      go_wp2_with (refine wpList_alloc 34 34 zeroS.cs rfl rfl (unhide HAL) ?_)
      intro w2 hA3 hb3 hs3
      have HA3 := hide hA3
      have HA4 := hide ((unhide HA2).below hb3)
      have Hb4 := hide ((unhide Hb2).trans (hb3.mono (unhide Hb2).size))
      have hlt2 := (unhide HA2).lt
      clear hA3 hb3 HA2 Hb2
      go_wp2_with (refine wpList_storeAll 34 _ _ wr.heap.size s.cs zeroS.cs rfl rfl rfl rfl (unhide HA3) (by rw [unhide HLk]; rfl) (unhide HNk) (unhide H1) ?_)
      intro w3 hA5 hg5 hs5
      have HA5 := hide hA5
      have HA6 := hide ((unhide HA4).grown hg5 (by simp; omega))
      have Hb6 := hide ((unhide Hb4).grown hg5 (unhide Hb4).size (fun k hk => by simp at hk; have := (unhide Hb4).size; omega))
      clear hA5 hg5 HA4 Hb4 HA3
      go_wp2_with (refine wpList_loadAll 34 _ wr.heap.size s.cs _ rfl rfl rfl (unhide HA5) Tryz.underlying34 rfl (unhide HNk) ?_)
      refine (unhide HRk w3).mono ?_
      rintro e w4 ⟨rfl, hb7⟩
      have HA7 := hide ((unhide HA6).below hb7)
      have Hb7 := hide ((unhide Hb6).trans (hb7.mono (unhide Hb6).size))
      clear hb7 HA6 Hb6 HA5
      cases hrs : right s with
      | true =>
        rw [hrs] at HJ2
        go_wp2
        go_roundw
        case rel => exact ⟨k + 1, by omega, by simp, unhide HJ2 trivial, unhide HA7, unhide Hb7⟩
        case measure => simp [intOf]; omega
      | false =>
        rw [hrs] at Hr2
        go_wp2
        go_ret
        exact ⟨by rw [unhide Hr2 trivial]; rfl, unhide Hb7⟩
    · obtain rfl : k = 2 := by omega
      have h0 := hj 0 (by decide)
      have h1 := hj 1 (by decide)
      have Hr2 : Hid (R = (ra && (rb && rv))) := by
        show _ = _
        rw [unhide Hr, h0, h1]
        rfl
      have c72 := hA.cell (unhide HG).1
      have c73 := hA.cell (unhide HG).2.1
      have c74 := hA.cell (unhide HG).2.2
      have HB2 := hide hb
      clear h0 h1 hj hA hb HX HRW HN HNL HFS Hr
      go_wp2_with fail
      refine (unhide HA wr).mono ?_
      rintro e w4 ⟨rfl, hw⟩
      subst hw
      cases ra with
      | false =>
        go_wp2
        go_ret
        exact ⟨by rw [unhide Hr2]; rfl, unhide HB2⟩
      | true =>
        go_wp2_with fail
        refine (unhide HB _).mono ?_
        rintro e w5 ⟨rfl, hw⟩
        subst hw
        cases rb with
        | false =>
          go_wp2
          go_ret
          exact ⟨by rw [unhide Hr2]; rfl, unhide HB2⟩
        | true =>
          go_wp2_with fail
          refine (unhide HV _).mono ?_
          rintro e w6 ⟨rfl, hw⟩
          subst hw
          go_wp2
          go_ret
          exact ⟨by rw [unhide Hr2]; rfl, unhide HB2⟩

set_option maxHeartbeats 1600000 in
set_option maxRecDepth 100000 in
theorem isChange_walk (c : C) (hc : FitC c) (w : World) : Calls Tryz.prog 87 #[c.v] w fun e w' => e = .returned (.bool (oneC c)) ∧ Below w.heap.size w w' := by
  have HI := hide (info41c hc)
  have HRG : Hid (∀ w b, Arr w b c.cs → w.rangeAt b 3 c.s.cs) := hide fun w b h => by have := crange (o := 0) h.range; simpa using this
  have HG := hide (cget hc)
  have HSI := hide (info34s hc.s.dg)
  have H0 : Hid (c.cs[0]? = some (.int .i64 c.k)) := hide rfl
  have H1 : Hid (c.cs[1]? = some (.int .i64 c.sl)) := hide rfl
  have H2 : Hid (c.cs[2]? = some (.int .i64 c.n)) := hide rfl
  have HRW := hide (right_walk c.s hc.s)
  unfold C.v
  unfold S.v at HRW
  by_cases h1 : c.k = 1
  · have F : FitC ⟨1, c.sl, 0, c.s, 0⟩ := ⟨by simp only; omega, by simp only; omega, hc.sl0, hc.sl1, by simp only; omega, by simp only; omega, hc.s, by simp only; omega⟩
    have he := run_equal41 c ⟨1, c.sl, 0, c.s, 0⟩ hc F
    have HB := hide (built41_s 1 c.sl c.s hc.s.dg)
    have HS := hide (isSlot_walk c.sl)
    have Hr : Hid (oneC c = (decide (c = ⟨1, c.sl, 0, c.s, 0⟩) && (actOk c.sl && right c.s))) := by
      show _ = _
      unfold oneC
      rw [if_pos h1]
    rw [h1] at H0
    generalize decide (c = ⟨1, c.sl, 0, c.s, 0⟩) = r1 at *
    generalize (C.mk 1 c.sl 0 c.s 0).cs = B at *
    generalize oneC c = R at *
    generalize right c.s = r3 at *
    generalize actOk c.sl = r2 at *
    clear hc F h1
    generalize c.cs = X at *
    generalize c.s.cs = Y at *
    generalize c.sl = x at *
    go_enter Tryz.func87, Tryz.ntmps87
    go_wp2_with (refine wpList_box 41 _ X rfl rfl rfl ?_)
    intro w1 hA1 hb1 hs1
    have c0 := hA1.cell (unhide H0)
    have c1 := hA1.cell (unhide H1)
    have HA := hide hA1
    have Hb := hide hb1
    have HR1 := hide (unhide HRG w1 _ hA1)
    clear hA1 hb1
    cases r1 with
    | false =>
      go_wp2_with (first
        | refine wpList_loadAll 41 _ w.heap.size X _ rfl rfl rfl (unhide HA) Tryz.underlying41 rfl (unhide HI) ?_
        | refine wpList_loadPart 34 _ w.heap.size 3 Y _ rfl rfl rfl (unhide HR1) Tryz.underlying34 rfl (unhide HSI) ?_
        | refine wpList_build 41 _ B [(0, .int .i64 1), (1, .int .i64 x), (3, .agg Y.toArray)] rfl rfl rfl (unhide HB) ?_)
      go_ret
      exact ⟨by rw [unhide Hr]; rfl, unhide Hb⟩
    | true =>
      go_wp2_with (first
        | refine wpList_loadAll 41 _ w.heap.size X _ rfl rfl rfl (unhide HA) Tryz.underlying41 rfl (unhide HI) ?_
        | refine wpList_loadPart 34 _ w.heap.size 3 Y _ rfl rfl rfl (unhide HR1) Tryz.underlying34 rfl (unhide HSI) ?_
        | refine wpList_build 41 _ B [(0, .int .i64 1), (1, .int .i64 x), (3, .agg Y.toArray)] rfl rfl rfl (unhide HB) ?_)
      refine (unhide HS w1).mono ?_
      rintro e w2 ⟨rfl, hw⟩
      subst hw
      cases r2 with
      | false =>
        go_wp2
        go_ret
        exact ⟨by rw [unhide Hr]; rfl, unhide Hb⟩
      | true =>
        go_wp2_with ((with_reducible refine wpList_guarded ?_ ?_); rfl; refine wpList_loadPart 34 _ w.heap.size 3 Y _ rfl rfl rfl (unhide HR1) Tryz.underlying34 rfl (unhide HSI) ?_)
        refine (unhide HRW _).mono ?_
        rintro e w3 ⟨rfl, hb3⟩
        have Hb3 := hide ((unhide Hb).trans (hb3.mono (unhide Hb).size))
        clear hb3
        go_wp2
        go_ret
        exact ⟨by rw [unhide Hr]; cases r3 <;> rfl, unhide Hb3⟩
  · by_cases h2 : c.k = 2
    · have F : FitC ⟨2, 0, c.n, zeroS, 0⟩ := ⟨by simp only; omega, by simp only; omega, by simp only; omega, by simp only; omega, hc.n0, hc.n1, zeroS_fit, by simp only; omega⟩
      have he := run_equal41 c ⟨2, 0, c.n, zeroS, 0⟩ hc F
      have HB := hide (built41_n 2 c.n)
      have HS := hide (isSlot_walk c.n)
      have Hr : Hid (oneC c = (decide (c = ⟨2, 0, c.n, zeroS, 0⟩) && actOk c.n)) := by
        show _ = _
        unfold oneC
        rw [if_neg (by omega), if_pos h2]
      rw [h2] at H0
      generalize decide (c = ⟨2, 0, c.n, zeroS, 0⟩) = r1 at *
      generalize C.cs ⟨2, 0, c.n, zeroS, 0⟩ = B at *
      generalize oneC c = R at *
      generalize actOk c.n = r2 at *
      clear hc F h2 h1 HRW HRG HSI H1
      generalize c.cs = X at *
      generalize c.n = x at *
      go_enter Tryz.func87, Tryz.ntmps87
      go_wp2_with (refine wpList_box 41 _ X rfl rfl rfl ?_)
      intro w1 hA1 hb1 hs1
      have c0 := hA1.cell (unhide H0)
      have c2 := hA1.cell (unhide H2)
      have HA := hide hA1
      have Hb := hide hb1
      clear hA1 hb1
      cases r1 with
      | false =>
        go_wp2_with (first
          | refine wpList_loadAll 41 _ w.heap.size X _ rfl rfl rfl (unhide HA) Tryz.underlying41 rfl (unhide HI) ?_
          | refine wpList_build 41 _ B [(0, .int .i64 2), (2, .int .i64 x)] rfl rfl rfl (unhide HB) ?_)
        go_ret
        exact ⟨by rw [unhide Hr]; rfl, unhide Hb⟩
      | true =>
        go_wp2_with (first
          | refine wpList_loadAll 41 _ w.heap.size X _ rfl rfl rfl (unhide HA) Tryz.underlying41 rfl (unhide HI) ?_
          | refine wpList_build 41 _ B [(0, .int .i64 2), (2, .int .i64 x)] rfl rfl rfl (unhide HB) ?_)
        refine (unhide HS w1).mono ?_
        rintro e w2 ⟨rfl, hw⟩
        subst hw
        go_wp2
        go_ret
        exact ⟨by rw [unhide Hr]; cases r2 <;> rfl, unhide Hb⟩
    · by_cases h3 : c.k = 3
      · have F : FitC ⟨3, 0, c.n, zeroS, 0⟩ := ⟨by simp only; omega, by simp only; omega, by simp only; omega, by simp only; omega, hc.n0, hc.n1, zeroS_fit, by simp only; omega⟩
        have he := run_equal41 c ⟨3, 0, c.n, zeroS, 0⟩ hc F
        have HB := hide (built41_n 3 c.n)
        have HS := hide (isBooted_walk c.n)
        have Hr : Hid (oneC c = (decide (c = ⟨3, 0, c.n, zeroS, 0⟩) && booOk c.n)) := by
          show _ = _
          unfold oneC
          rw [if_neg (by omega), if_neg (by omega), if_pos h3]
        rw [h3] at H0
        generalize decide (c = ⟨3, 0, c.n, zeroS, 0⟩) = r1 at *
        generalize C.cs ⟨3, 0, c.n, zeroS, 0⟩ = B at *
        generalize oneC c = R at *
        generalize booOk c.n = r2 at *
        clear hc F h3 h1 h2 HRW HRG HSI H1
        generalize c.cs = X at *
        generalize c.n = x at *
        go_enter Tryz.func87, Tryz.ntmps87
        go_wp2_with (refine wpList_box 41 _ X rfl rfl rfl ?_)
        intro w1 hA1 hb1 hs1
        have c0 := hA1.cell (unhide H0)
        have c2 := hA1.cell (unhide H2)
        have HA := hide hA1
        have Hb := hide hb1
        clear hA1 hb1
        cases r1 with
        | false =>
          go_wp2_with (first
            | refine wpList_loadAll 41 _ w.heap.size X _ rfl rfl rfl (unhide HA) Tryz.underlying41 rfl (unhide HI) ?_
            | refine wpList_build 41 _ B [(0, .int .i64 3), (2, .int .i64 x)] rfl rfl rfl (unhide HB) ?_)
          go_ret
          exact ⟨by rw [unhide Hr]; rfl, unhide Hb⟩
        | true =>
          go_wp2_with (first
            | refine wpList_loadAll 41 _ w.heap.size X _ rfl rfl rfl (unhide HA) Tryz.underlying41 rfl (unhide HI) ?_
            | refine wpList_build 41 _ B [(0, .int .i64 3), (2, .int .i64 x)] rfl rfl rfl (unhide HB) ?_)
          refine (unhide HS w1).mono ?_
          rintro e w2 ⟨rfl, hw⟩
          subst hw
          go_wp2
          go_ret
          exact ⟨by rw [unhide Hr]; cases r2 <;> rfl, unhide Hb⟩
      · by_cases h4 : c.k = 4
        · have F : FitC ⟨4, 0, 0, zeroS, c.ver⟩ := ⟨by simp only; omega, by simp only; omega, by simp only; omega, by simp only; omega, by simp only; omega, by simp only; omega, zeroS_fit, hc.ver⟩
          have he := run_equal41 c ⟨4, 0, 0, zeroS, c.ver⟩ hc F
          have HB := hide (built41_v 4 c.ver)
          have HS := hide (isVersion_walk c.ver)
          have Hr : Hid (oneC c = (decide (c = ⟨4, 0, 0, zeroS, c.ver⟩) && verOk c.ver)) := by
            show _ = _
            unfold oneC
            rw [if_neg (by omega), if_neg (by omega), if_neg (by omega), if_pos h4]
          rw [h4] at H0
          generalize decide (c = ⟨4, 0, 0, zeroS, c.ver⟩) = r1 at *
          generalize C.cs ⟨4, 0, 0, zeroS, c.ver⟩ = B at *
          generalize oneC c = R at *
          generalize verOk c.ver = r2 at *
          clear hc F h4 h1 h2 h3 HRW HRG HSI H1
          generalize c.cs = X at *
          generalize c.ver = x at *
          go_enter Tryz.func87, Tryz.ntmps87
          go_wp2_with (refine wpList_box 41 _ X rfl rfl rfl ?_)
          intro w1 hA1 hb1 hs1
          have c0 := hA1.cell (unhide H0)
          have c2 := hA1.cell (unhide HG)
          have HA := hide hA1
          have Hb := hide hb1
          clear hA1 hb1
          cases r1 with
          | false =>
            go_wp2_with (first
              | refine wpList_loadAll 41 _ w.heap.size X _ rfl rfl rfl (unhide HA) Tryz.underlying41 rfl (unhide HI) ?_
              | refine wpList_build 41 _ B [(0, .int .i64 4), (4, .int .u64 (x : Int))] rfl rfl rfl (unhide HB) ?_)
            go_ret
            exact ⟨by rw [unhide Hr]; rfl, unhide Hb⟩
          | true =>
            go_wp2_with (first
              | refine wpList_loadAll 41 _ w.heap.size X _ rfl rfl rfl (unhide HA) Tryz.underlying41 rfl (unhide HI) ?_
              | refine wpList_build 41 _ B [(0, .int .i64 4), (4, .int .u64 (x : Int))] rfl rfl rfl (unhide HB) ?_)
            refine (unhide HS w1).mono ?_
            rintro e w2 ⟨rfl, hw⟩
            subst hw
            go_wp2
            go_ret
            exact ⟨by rw [unhide Hr]; cases r2 <;> rfl, unhide Hb⟩
        · have Hr : Hid (oneC c = false) := by
            show _ = _
            unfold oneC
            rw [if_neg h1, if_neg h2, if_neg h3, if_neg h4]
          have n1 : (c.k == 1) = false := by simpa using h1
          have n2 : (c.k == 2) = false := by simpa using h2
          have n3 : (c.k == 3) = false := by simpa using h3
          have n4 : (c.k == 4) = false := by simpa using h4
          generalize oneC c = R at *
          clear hc h1 h2 h3 h4 HRW HRG HSI H1 H2 HG
          generalize c.cs = X at *
          generalize c.k = x at *
          go_enter Tryz.func87, Tryz.ntmps87
          go_wp2_with (refine wpList_box 41 _ X rfl rfl rfl ?_)
          intro w1 hA1 hb1 hs1
          have c0 := hA1.cell (unhide H0)
          have Hb := hide hb1
          clear hA1 hb1
          go_wp2
          go_ret
          exact ⟨by rw [unhide Hr]; rfl, unhide Hb⟩
end Go.Proofs.YtdfdalkcljfghaaGreat.Slot
