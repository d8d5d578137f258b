/-
  Slots as values and as cells; the variables that the program lays; two slots held against each other.
-/
import Derived.Test.YtglphnmnnfpcoaaDoorOwn
import Derived.Lib.ItoaNum
namespace Go.Proofs.YtglphnmnnfpcoaaDoor
open Go.RowKit

/-- A slot. -/
structure S where
  st : Int
  tr : Int
  ver : Nat
  sz : Int
  dg : List UInt8
deriving DecidableEq

/-- It fits its kinds. -/
structure Fit (s : S) : Prop where
  st0 : -9223372036854775808 ≤ s.st
  st1 : s.st ≤ 9223372036854775807
  tr0 : -9223372036854775808 ≤ s.tr
  tr1 : s.tr ≤ 9223372036854775807
  ver : s.ver < 18446744073709551616
  sz0 : -9223372036854775808 ≤ s.sz
  sz1 : s.sz ≤ 9223372036854775807
  dg : s.dg.length = 32

def zeros32 : List UInt8 := List.replicate 32 0
def S.cs (s : S) : List Value := .int .i64 s.st :: .int .i64 s.tr :: .int .u64 (s.ver : Int) :: .int .i64 s.sz :: bytesV s.dg
def S.v (s : S) : Value := .agg s.cs.toArray
def zeroS : S := ⟨0, 0, 0, 0, zeros32⟩
theorem zeroS_fit : Fit zeroS := ⟨by decide, by decide, by decide, by decide, by decide, by decide, by decide, by decide⟩
theorem cs_length {s : S} (h : s.dg.length = 32) : s.cs.length = 36 := by simp [S.cs, bytesV_length, h]
theorem cs_one (s : S) : ∀ v ∈ s.cs, v.oneCell' = true := by
  intro v hv
  simp only [S.cs, List.mem_cons] at hv
  rcases hv with h | h | h | h | h
  · rw [h]; rfl
  · rw [h]; rfl
  · rw [h]; rfl
  · rw [h]; rfl
  · exact bytesV_one _ v h

theorem alloc26 (w : World) : (Instr.alloc 26 true (.tuple #[])).run Tryd.prog w = .ok (.pointer (some ⟨w.heap.size, 0, none⟩)) (w.alloc (.cells zeroS.cs.toArray 26)) := by kernel_rfl
theorem built26 : Tryd.prog.built 26 [] = some zeroS.cs.toArray := by kernel_rfl
theorem built26_st (x : Int) : Tryd.prog.built 26 [(0, .int .i64 x)] = some (S.mk x 0 0 0 zeros32).cs.toArray := by kernel_rfl
theorem built26_two (x y : Int) : Tryd.prog.built 26 [(0, .int .i64 x), (1, .int .i64 y)] = some (S.mk x y 0 0 zeros32).cs.toArray := by kernel_rfl
theorem of_len : ∀ {n : Nat} {l : List UInt8}, l.length = n → ∃ c : Fin n → UInt8, l = List.ofFn c := fun {n l} h => by
  subst h
  exact ⟨fun i => l[i], (List.ofFn_getElem).symm⟩
theorem built26_all (x y z : Int) (v : Nat) (dg : List UInt8) (h : dg.length = 32) : Tryd.prog.built 26 [(0, .int .i64 x), (1, .int .i64 y), (2, .int .u64 (v : Int)), (3, .int .i64 z), (4, .agg (bytesV dg).toArray)] = some (S.mk x y v z dg).cs.toArray := by
  obtain ⟨c, rfl⟩ := of_len h
  kernel_rfl
theorem built26_good (x z : Int) (v : Nat) (dg : List UInt8) (h : dg.length = 32) : Tryd.prog.built 26 [(0, .int .i64 x), (2, .int .u64 (v : Int)), (3, .int .i64 z), (4, .agg (bytesV dg).toArray)] = some (S.mk x 0 v z dg).cs.toArray := by
  obtain ⟨c, rfl⟩ := of_len h
  kernel_rfl
theorem built26_ex (x z : Int) (v : Int) : Tryd.prog.built 26 [(0, .int .i64 x), (2, .int .u64 v), (3, .int .i64 z)] = some (Value.int .i64 x :: .int .i64 0 :: .int .u64 v :: .int .i64 z :: bytesV zeros32).toArray := by kernel_rfl
theorem info26 : (Tryd.prog.info? 26).map (·.size) = some 36 := by kernel_rfl
theorem info26s {s : S} (h : s.dg.length = 32) : (Tryd.prog.info? 26).map (·.size) = some s.cs.length := by rw [cs_length h]; exact info26
theorem info24 : (Tryd.prog.info? 24).map (·.size) = some 32 := by kernel_rfl
theorem info24s {l : List UInt8} (h : l.length = 32) : (Tryd.prog.info? 24).map (·.size) = some (bytesV l).length := by rw [bytesV_length, h]; exact info24
theorem full24 : ∃ i, Tryd.prog.info? 24 = some i ∧ i.zero = some (.agg (bytesV zeros32).toArray) ∧ i.size = 32 ∧ i.bytes = 32 := infoOf (by kernel_rfl)

theorem run_part5 (x : List UInt8) (i : Nat) (hi : i < x.length) (w : World) : (part 5 (bytesV x).toArray i).run Tryd.prog w = .ok (.int .u8 (((x.getD i 0).toNat : Nat) : Int)) w := by
  have hv := bytesV_get x hi
  simp [part, hv]
theorem run_eqItems_bytes (x y : List UInt8) (dd : Nat) (w : World) : ∀ is : List Nat, (∀ i ∈ is, i < x.length ∧ i < y.length) →
    (Op.eqItems (dd + 1) 5 1 (bytesV x).toArray (bytesV y).toArray is).run Tryd.prog w = .ok (is.all fun i => x.getD i 0 == y.getD i 0) w
  | [], _ => by simp [Op.eqItems]
  | i :: is, h => by
    have h1 := h i (by simp)
    have ih := run_eqItems_bytes x y dd w is (fun j hj => h j (by simp [hj]))
    have hb : ((((x.getD i 0).toNat : Nat) : Int) == (((y.getD i 0).toNat : Nat) : Int)) = (x.getD i 0 == y.getD i 0) := by
      rw [Bool.eq_iff_iff, beq_iff_eq, beq_iff_eq]
      constructor
      · intro e; exact UInt8.toNat_inj.1 (by omega)
      · intro e; rw [e]
    simp only [Op.eqItems, Sem.run_bind, Nat.mul_one, run_part5 x i h1.1, run_part5 y i h1.2, Result.andThen_ok, run_equalIn_int w dd 5 .u8 .u8 _ _ Tryd.underlying5, hb, List.all_cons]
    cases x.getD i 0 == y.getD i 0
    · simp
    · simpa using ih
theorem all_getD (x y : List UInt8) (hx : x.length = 32) (hy : y.length = 32) : ((List.range 32).all fun i => x.getD i 0 == y.getD i 0) = decide (x = y) := by
  rw [Bool.eq_iff_iff, List.all_eq_true, decide_eq_true_eq]
  constructor
  · intro h
    apply List.ext_getElem (by omega)
    intro i h1 h2
    have := h i (by simp; omega)
    rw [beq_iff_eq, List.getD_eq_getElem?_getD, List.getD_eq_getElem?_getD, List.getElem?_eq_getElem h1, List.getElem?_eq_getElem h2] at this
    exact this
  · intro e i _
    rw [e]; simp
theorem run_equalIn24 (d : Nat) (x y : List UInt8) (hx : x.length = 32) (hy : y.length = 32) (w : World) : (Op.equalIn (d + 2) 24 (.agg (bytesV x).toArray) (.agg (bytesV y).toArray)).run Tryd.prog w = .ok (decide (x = y)) w := by
  obtain ⟨i, hi, _, hsz, _⟩ := full5
  rw [← all_getD x y hx hy]
  have h := run_eqItems_bytes x y d w (List.range 32) (fun i hi => by simp at hi; omega)
  rw [run_equalIn_array w (d + 1) _ _ Tryd.underlying24 hi, show Tryd.prog.cellsOf 5 = 1 by kernel_rfl]
  exact h
theorem run_equal24 (x y : List UInt8) (hx : x.length = 32) (hy : y.length = 32) (w : World) : (Op.equalIn 10000 24 (.agg (bytesV x).toArray) (.agg (bytesV y).toArray)).run Tryd.prog w = .ok (decide (x = y)) w := run_equalIn24 9998 x y hx hy w

theorem run_part24 (s : S) (h : s.dg.length = 32) (w : World) : (part 24 s.cs.toArray 4).run Tryd.prog w = .ok (.agg (bytesV s.dg).toArray) w := by
  have ha : (isAgg 24).run Tryd.prog w = .ok true w := by kernel_rfl
  have hz : (Go.sizeOf 24).run Tryd.prog w = .ok 32 w := by kernel_rfl
  have hl : (bytesV s.dg).length = 32 := by rw [bytesV_length, h]
  have e : s.cs.toArray.extract 4 36 = (bytesV s.dg).toArray := by
    rw [S.cs]
    generalize bytesV s.dg = l at hl ⊢
    apply Array.ext'
    rw [Array.toList_extract]
    rw [List.extract_eq_take_drop]
    simp only [List.drop_succ_cons, List.drop_zero]
    exact List.take_of_length_le (by omega)
  simp only [part, Sem.run_bind, ha, Result.andThen_ok, if_true, hz, Sem.run_pure, Sem.run_ite]
  exact congrArg (fun c => Result.ok (Value.agg c) w) e
theorem run_partI (s : S) (t : TypeId) (k : IntKind) (off : Nat) (x : Int) (ha : ∀ w : World, (isAgg t).run Tryd.prog w = .ok false w) (hv : s.cs[off]? = some (.int k x)) (w : World) : (part t s.cs.toArray off).run Tryd.prog w = .ok (.int k x) w := by
  simp [part, ha, hv]
theorem slot_eq (x y : S) : decide (x = y) = ((x.st == y.st) && ((x.tr == y.tr) && (((x.ver : Int) == (y.ver : Int)) && ((x.sz == y.sz) && decide (x.dg = y.dg))))) := by
  obtain ⟨a, b, c, d, e⟩ := x
  obtain ⟨a', b', c', d', e'⟩ := y
  rw [Bool.eq_iff_iff]
  simp only [S.mk.injEq, decide_eq_true_eq, Bool.and_eq_true, beq_iff_eq, Int.natCast_inj]
theorem fields26 : (Tryd.prog.fieldsOf 26).toList.map (fun f => (f.name, f.type, f.offset)) = [("Status", 3, 0), ("Tries", 3, 1), ("Version", 22, 2), ("Size", 3, 3), ("Digest", 24, 4)] := by kernel_rfl
theorem run_eqFields {d : Nat} {x y : S} (hx : x.dg.length = 32) (hy : y.dg.length = 32) (w : World) : ∀ fs : List Field, fs.map (fun f => (f.name, f.type, f.offset)) = [("Status", 3, 0), ("Tries", 3, 1), ("Version", 22, 2), ("Size", 3, 3), ("Digest", 24, 4)] →
    (Op.eqFields (d + 2) x.cs.toArray y.cs.toArray fs).run Tryd.prog w = .ok (decide (x = y)) w
  | [], h => by simp at h
  | [_], h => by simp at h
  | [_, _], h => by simp at h
  | [_, _, _], h => by simp at h
  | [_, _, _, _], h => by simp at h
  | _ :: _ :: _ :: _ :: _ :: _ :: _, h => by simp at h
  | [a, b, c, e, f], h => by
    simp only [List.map_cons, List.map_nil, List.cons.injEq, Prod.mk.injEq, and_true] at h
    obtain ⟨⟨a1, a2, a3⟩, ⟨b1, b2, b3⟩, ⟨c1, c2, c3⟩, ⟨e1, e2, e3⟩, ⟨f1, f2, f3⟩⟩ := h
    have g3 : ∀ w : World, (isAgg 3).run Tryd.prog w = .ok false w := fun w => by kernel_rfl
    have g22 : ∀ w : World, (isAgg 22).run Tryd.prog w = .ok false w := fun w => by kernel_rfl
    have X0 := run_partI x 3 .i64 0 x.st g3 rfl
    have X1 := run_partI x 3 .i64 1 x.tr g3 rfl
    have X2 := run_partI x 22 .u64 2 (x.ver : Int) g22 rfl
    have X3 := run_partI x 3 .i64 3 x.sz g3 rfl
    have Y0 := run_partI y 3 .i64 0 y.st g3 rfl
    have Y1 := run_partI y 3 .i64 1 y.tr g3 rfl
    have Y2 := run_partI y 22 .u64 2 (y.ver : Int) g22 rfl
    have Y3 := run_partI y 3 .i64 3 y.sz g3 rfl
    have n1 : ("Status" : String) ≠ "_" := by decide
    have n2 : ("Tries" : String) ≠ "_" := by decide
    have n3 : ("Version" : String) ≠ "_" := by decide
    have n4 : ("Size" : String) ≠ "_" := by decide
    have n5 : ("Digest" : String) ≠ "_" := by decide
    have I3 := fun p q => run_equalIn_int (P := Tryd.prog) w (d + 1) 3 .i64 .i64 p q Tryd.underlying3
    have I22 := fun p q => run_equalIn_int (P := Tryd.prog) w (d + 1) 22 .u64 .u64 p q Tryd.underlying22
    simp only [Op.eqFields, a1, a2, a3, b1, b2, b3, c1, c2, c3, e1, e2, e3, f1, f2, f3, n1, n2, n3, n4, n5, ne_eq, not_false_eq_true, if_true, Sem.run_bind, Sem.run_ite, Sem.run_pure, X0, X1, X2, X3, Y0, Y1, Y2, Y3, run_part24 x hx, run_part24 y hy, Result.andThen_ok, I3, I22, run_equalIn24 d _ _ hx hy]
    have key : decide (x = y) = ((x.st == y.st) && ((x.tr == y.tr) && (((x.ver : Int) == (y.ver : Int)) && ((x.sz == y.sz) && decide (x.dg = y.dg))))) := slot_eq x y
    rw [key]
    cases x.st == y.st <;> cases x.tr == y.tr <;> cases (x.ver : Int) == (y.ver : Int) <;> cases x.sz == y.sz <;> cases decide (x.dg = y.dg) <;> rfl
/-- Two slots held against each other. -/
theorem run_equal26 (x y : S) (hx : x.dg.length = 32) (hy : y.dg.length = 32) (w : World) : (Op.equalIn 10000 26 (.agg x.cs.toArray) (.agg y.cs.toArray)).run Tryd.prog w = .ok (decide (x = y)) w := by
  have hu : Tryd.prog.underlying 26 = some (.struct (Tryd.prog.fieldsOf 26)) := by kernel_rfl
  have hp : Tryd.prog.stoodInHeld 26 = false := by kernel_rfl
  rw [run_equalIn_agg w 9999 26 x.cs.toArray y.cs.toArray hu hp]
  exact run_eqFields (d := 9997) hx hy w _ fields26

/-- What the program's variables hold. -/
def wordsB : List (List UInt8) := [[101, 109, 112, 116, 121], [100, 105, 114, 116, 121], [114, 101, 97, 100, 121], [103, 111, 111, 100], [98, 97, 100]]
def wordsV : List Value := wordsB.map fun l => .string (tx l)
structure Tabs (w : World) : Prop where
  sz : 7 ≤ w.heap.size
  sts : w.rangeAt 0 0 wordsV
  pow : Lib.TabIs Tryd.prog w "internal/strconv.uint64pow10" .u64 Lib.pow10Tab
  syn : ∃ tp p, w.var? Tryd.prog "strconv.ErrSyntax" = some #[.iface tp p]
  rng : ∃ tp p, w.var? Tryd.prog "strconv.ErrRange" = some #[.iface tp p]
theorem var_keep {w w' : World} {B : Nat} (hb : Below B w w') {n : String} {g : Nat} (hg : Tryd.prog.globalNamed n = some g) (hl : g < B) : w'.var? Tryd.prog n = w.var? Tryd.prog n := by
  unfold World.var?
  simp only [hg, Option.bind_some]
  rw [hb.block g hl]
theorem gSts : Tryd.prog.globalNamed "bootjack/slot.statuses" = some 0 := by kernel_rfl
theorem gPow : Tryd.prog.globalNamed "internal/strconv.uint64pow10" = some 1 := by kernel_rfl
theorem gSyn : Tryd.prog.globalNamed "strconv.ErrSyntax" = some 3 := by kernel_rfl
theorem gRng : Tryd.prog.globalNamed "strconv.ErrRange" = some 4 := by kernel_rfl
/-- They hold it as long as nothing below is turned. -/
theorem Tabs.low {B : Nat} {w w' : World} (h : Tabs w) (hb : Below B w w') (h7 : 7 ≤ B) : Tabs w' := by
  refine ⟨Nat.le_trans h.sz hb.size, fun j v hj => ?_, ?_, ?_, ?_⟩
  · have := h.sts j v hj
    rw [← this]
    exact hb.cell (p := ⟨0, 0 + j, none⟩) (by show 0 < B; omega)
  · have := h.pow
    unfold Lib.TabIs at this ⊢
    rw [var_keep hb gPow (by omega)]
    exact this
  · obtain ⟨tp, p, hv⟩ := h.syn
    exact ⟨tp, p, by rw [var_keep hb gSyn (by omega)]; exact hv⟩
  · obtain ⟨tp, p, hv⟩ := h.rng
    exact ⟨tp, p, by rw [var_keep hb gRng (by omega)]; exact hv⟩
theorem Tabs.below {w w' : World} (h : Tabs w) (hb : Below w.heap.size w w') : Tabs w' := h.low hb h.sz
end Go.Proofs.YtglphnmnnfpcoaaDoor
