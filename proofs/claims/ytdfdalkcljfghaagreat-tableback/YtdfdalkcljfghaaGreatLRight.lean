/-
  Slots as values and as cells; two slots held against each other; what a slot may be, and its bytes: plain facts. Single operations on slots. What slot.fits and slot.Right answer, and the document's Right.
-/
import Derived.Test.YtdfdalkcljfghaaGreatOwn
import Derived.Test.YtdfdalkcljfghaaGreatFMath
import Derived.Test.YtdfdalkcljfghaaGreatCReader
import Derived.Test.YtdfdalkcljfghaaGreatFlow
import Derived.Deep.CutRange
namespace Go.Proofs.YtdfdalkcljfghaaGreat.Slot
open Go.RowKit

/-- A slot. -/
structure S where
  st : Int
  tr : Int
  ver : Nat
  sz : Int
  dg : List UInt8
deriving DecidableEq

/-- It fits its kinds. -/
structure Fit (s : S) : Prop where
  st0 : -9223372036854775808 ≤ s.st
  st1 : s.st ≤ 9223372036854775807
  tr0 : -9223372036854775808 ≤ s.tr
  tr1 : s.tr ≤ 9223372036854775807
  ver : s.ver < 18446744073709551616
  sz0 : -9223372036854775808 ≤ s.sz
  sz1 : s.sz ≤ 9223372036854775807
  dg : s.dg.length = 32

def zeros32 : List UInt8 := List.replicate 32 0
def S.cs (s : S) : List Value := .int .i64 s.st :: .int .i64 s.tr :: .int .u64 (s.ver : Int) :: .int .i64 s.sz :: bytesV s.dg
def S.v (s : S) : Value := .agg s.cs.toArray
def zeroS : S := ⟨0, 0, 0, 0, zeros32⟩
theorem zeroS_fit : Fit zeroS := ⟨by decide, by decide, by decide, by decide, by decide, by decide, by decide, by decide⟩
theorem cs_length {s : S} (h : s.dg.length = 32) : s.cs.length = 36 := by simp [S.cs, bytesV_length, h]
theorem cs_one (s : S) : ∀ v ∈ s.cs, v.oneCell' = true := by
  intro v hv
  simp only [S.cs, List.mem_cons] at hv
  rcases hv with h | h | h | h | h
  · rw [h]; rfl
  · rw [h]; rfl
  · rw [h]; rfl
  · rw [h]; rfl
  · exact bytesV_one _ v h

theorem alloc34 (w : World) : (Instr.alloc 34 true (.tuple #[])).run Tryz.prog w = .ok (.pointer (some ⟨w.heap.size, 0, none⟩)) (w.alloc (.cells zeroS.cs.toArray 34)) := by kernel_rfl
theorem built34 : Tryz.prog.built 34 [] = some zeroS.cs.toArray := by kernel_rfl
theorem built34_st (x : Int) : Tryz.prog.built 34 [(0, .int .i64 x)] = some (S.mk x 0 0 0 zeros32).cs.toArray := by kernel_rfl
theorem built34_two (x y : Int) : Tryz.prog.built 34 [(0, .int .i64 x), (1, .int .i64 y)] = some (S.mk x y 0 0 zeros32).cs.toArray := by kernel_rfl
theorem of_len : ∀ {n : Nat} {l : List UInt8}, l.length = n → ∃ c : Fin n → UInt8, l = List.ofFn c := fun {n l} h => by
  subst h
  exact ⟨fun i => l[i], (List.ofFn_getElem).symm⟩
theorem built34_all (x y z : Int) (v : Nat) (dg : List UInt8) (h : dg.length = 32) : Tryz.prog.built 34 [(0, .int .i64 x), (1, .int .i64 y), (2, .int .u64 (v : Int)), (3, .int .i64 z), (4, .agg (bytesV dg).toArray)] = some (S.mk x y v z dg).cs.toArray := by
  obtain ⟨c, rfl⟩ := of_len h
  kernel_rfl
theorem built34_good (x z : Int) (v : Nat) (dg : List UInt8) (h : dg.length = 32) : Tryz.prog.built 34 [(0, .int .i64 x), (2, .int .u64 (v : Int)), (3, .int .i64 z), (4, .agg (bytesV dg).toArray)] = some (S.mk x 0 v z dg).cs.toArray := by
  obtain ⟨c, rfl⟩ := of_len h
  kernel_rfl
theorem built34_ex (x z : Int) (v : Int) : Tryz.prog.built 34 [(0, .int .i64 x), (2, .int .u64 v), (3, .int .i64 z)] = some (Value.int .i64 x :: .int .i64 0 :: .int .u64 v :: .int .i64 z :: bytesV zeros32).toArray := by kernel_rfl
theorem info34 : (Tryz.prog.info? 34).map (·.size) = some 36 := by kernel_rfl
theorem info34s {s : S} (h : s.dg.length = 32) : (Tryz.prog.info? 34).map (·.size) = some s.cs.length := by rw [cs_length h]; exact info34
theorem info32 : (Tryz.prog.info? 32).map (·.size) = some 32 := by kernel_rfl
theorem info32s {l : List UInt8} (h : l.length = 32) : (Tryz.prog.info? 32).map (·.size) = some (bytesV l).length := by rw [bytesV_length, h]; exact info32
theorem full24 : ∃ i, Tryz.prog.info? 32 = some i ∧ i.zero = some (.agg (bytesV zeros32).toArray) ∧ i.size = 32 ∧ i.bytes = 32 := infoOf (by kernel_rfl)

theorem run_part5 (x : List UInt8) (i : Nat) (hi : i < x.length) (w : World) : (part 5 (bytesV x).toArray i).run Tryz.prog w = .ok (.int .u8 (((x.getD i 0).toNat : Nat) : Int)) w := by
  have hv := bytesV_get x hi
  simp [part, hv]
theorem run_eqItems_bytes (x y : List UInt8) (dd : Nat) (w : World) : ∀ is : List Nat, (∀ i ∈ is, i < x.length ∧ i < y.length) →
    (Op.eqItems (dd + 1) 5 1 (bytesV x).toArray (bytesV y).toArray is).run Tryz.prog w = .ok (is.all fun i => x.getD i 0 == y.getD i 0) w
  | [], _ => by simp [Op.eqItems]
  | i :: is, h => by
    have h1 := h i (by simp)
    have ih := run_eqItems_bytes x y dd w is (fun j hj => h j (by simp [hj]))
    have hb : ((((x.getD i 0).toNat : Nat) : Int) == (((y.getD i 0).toNat : Nat) : Int)) = (x.getD i 0 == y.getD i 0) := by
      rw [Bool.eq_iff_iff, beq_iff_eq, beq_iff_eq]
      constructor
      · intro e; exact UInt8.toNat_inj.1 (by omega)
      · intro e; rw [e]
    simp only [Op.eqItems, Sem.run_bind, Nat.mul_one, run_part5 x i h1.1, run_part5 y i h1.2, Result.andThen_ok, run_equalIn_int w dd 5 .u8 .u8 _ _ Tryz.underlying5, hb, List.all_cons]
    cases x.getD i 0 == y.getD i 0
    · simp
    · simpa using ih
theorem all_getD (x y : List UInt8) (hx : x.length = 32) (hy : y.length = 32) : ((List.range 32).all fun i => x.getD i 0 == y.getD i 0) = decide (x = y) := by
  rw [Bool.eq_iff_iff, List.all_eq_true, decide_eq_true_eq]
  constructor
  · intro h
    apply List.ext_getElem (by omega)
    intro i h1 h2
    have := h i (by simp; omega)
    rw [beq_iff_eq, List.getD_eq_getElem?_getD, List.getD_eq_getElem?_getD, List.getElem?_eq_getElem h1, List.getElem?_eq_getElem h2] at this
    exact this
  · intro e i _
    rw [e]; simp
theorem run_equalIn24 (d : Nat) (x y : List UInt8) (hx : x.length = 32) (hy : y.length = 32) (w : World) : (Op.equalIn (d + 2) 32 (.agg (bytesV x).toArray) (.agg (bytesV y).toArray)).run Tryz.prog w = .ok (decide (x = y)) w := by
  obtain ⟨i, hi, _, hsz, _⟩ := full5
  rw [← all_getD x y hx hy]
  have h := run_eqItems_bytes x y d w (List.range 32) (fun i hi => by simp at hi; omega)
  rw [run_equalIn_array w (d + 1) _ _ Tryz.underlying32 hi, show Tryz.prog.cellsOf 5 = 1 by kernel_rfl]
  exact h
theorem run_equal32 (x y : List UInt8) (hx : x.length = 32) (hy : y.length = 32) (w : World) : (Op.equalIn 10000 32 (.agg (bytesV x).toArray) (.agg (bytesV y).toArray)).run Tryz.prog w = .ok (decide (x = y)) w := run_equalIn24 9998 x y hx hy w

theorem run_part24 (s : S) (h : s.dg.length = 32) (w : World) : (part 32 s.cs.toArray 4).run Tryz.prog w = .ok (.agg (bytesV s.dg).toArray) w := by
  have ha : (isAgg 32).run Tryz.prog w = .ok true w := by kernel_rfl
  have hz : (Go.sizeOf 32).run Tryz.prog w = .ok 32 w := by kernel_rfl
  have hl : (bytesV s.dg).length = 32 := by rw [bytesV_length, h]
  have e : s.cs.toArray.extract 4 36 = (bytesV s.dg).toArray := by
    rw [S.cs]
    generalize bytesV s.dg = l at hl ⊢
    apply Array.ext'
    rw [Array.toList_extract]
    rw [List.extract_eq_take_drop]
    simp only [List.drop_succ_cons, List.drop_zero]
    exact List.take_of_length_le (by omega)
  simp only [part, Sem.run_bind, ha, Result.andThen_ok, if_true, hz, Sem.run_pure, Sem.run_ite]
  exact congrArg (fun c => Result.ok (Value.agg c) w) e
theorem run_partI (s : S) (t : TypeId) (k : IntKind) (off : Nat) (x : Int) (ha : ∀ w : World, (isAgg t).run Tryz.prog w = .ok false w) (hv : s.cs[off]? = some (.int k x)) (w : World) : (part t s.cs.toArray off).run Tryz.prog w = .ok (.int k x) w := by
  simp [part, ha, hv]
theorem slot_eq (x y : S) : decide (x = y) = ((x.st == y.st) && ((x.tr == y.tr) && (((x.ver : Int) == (y.ver : Int)) && ((x.sz == y.sz) && decide (x.dg = y.dg))))) := by
  obtain ⟨a, b, c, d, e⟩ := x
  obtain ⟨a', b', c', d', e'⟩ := y
  rw [Bool.eq_iff_iff]
  simp only [S.mk.injEq, decide_eq_true_eq, Bool.and_eq_true, beq_iff_eq, Int.natCast_inj]
theorem fields34 : (Tryz.prog.fieldsOf 34).toList.map (fun f => (f.name, f.type, f.offset)) = [("Status", 3, 0), ("Tries", 3, 1), ("Version", 30, 2), ("Size", 3, 3), ("Digest", 32, 4)] := by kernel_rfl
theorem run_eqFields {d : Nat} {x y : S} (hx : x.dg.length = 32) (hy : y.dg.length = 32) (w : World) : ∀ fs : List Field, fs.map (fun f => (f.name, f.type, f.offset)) = [("Status", 3, 0), ("Tries", 3, 1), ("Version", 30, 2), ("Size", 3, 3), ("Digest", 32, 4)] →
    (Op.eqFields (d + 2) x.cs.toArray y.cs.toArray fs).run Tryz.prog w = .ok (decide (x = y)) w
  | [], h => by simp at h
  | [_], h => by simp at h
  | [_, _], h => by simp at h
  | [_, _, _], h => by simp at h
  | [_, _, _, _], h => by simp at h
  | _ :: _ :: _ :: _ :: _ :: _ :: _, h => by simp at h
  | [a, b, c, e, f], h => by
    simp only [List.map_cons, List.map_nil, List.cons.injEq, Prod.mk.injEq, and_true] at h
    obtain ⟨⟨a1, a2, a3⟩, ⟨b1, b2, b3⟩, ⟨c1, c2, c3⟩, ⟨e1, e2, e3⟩, ⟨f1, f2, f3⟩⟩ := h
    have g3 : ∀ w : World, (isAgg 3).run Tryz.prog w = .ok false w := fun w => by kernel_rfl
    have g30 : ∀ w : World, (isAgg 30).run Tryz.prog w = .ok false w := fun w => by kernel_rfl
    have X0 := run_partI x 3 .i64 0 x.st g3 rfl
    have X1 := run_partI x 3 .i64 1 x.tr g3 rfl
    have X2 := run_partI x 30 .u64 2 (x.ver : Int) g30 rfl
    have X3 := run_partI x 3 .i64 3 x.sz g3 rfl
    have Y0 := run_partI y 3 .i64 0 y.st g3 rfl
    have Y1 := run_partI y 3 .i64 1 y.tr g3 rfl
    have Y2 := run_partI y 30 .u64 2 (y.ver : Int) g30 rfl
    have Y3 := run_partI y 3 .i64 3 y.sz g3 rfl
    have n1 : ("Status" : String) ≠ "_" := by decide
    have n2 : ("Tries" : String) ≠ "_" := by decide
    have n3 : ("Version" : String) ≠ "_" := by decide
    have n4 : ("Size" : String) ≠ "_" := by decide
    have n5 : ("Digest" : String) ≠ "_" := by decide
    have I3 := fun p q => run_equalIn_int (P := Tryz.prog) w (d + 1) 3 .i64 .i64 p q Tryz.underlying3
    have I22 := fun p q => run_equalIn_int (P := Tryz.prog) w (d + 1) 30 .u64 .u64 p q Tryz.underlying30
    simp only [Op.eqFields, a1, a2, a3, b1, b2, b3, c1, c2, c3, e1, e2, e3, f1, f2, f3, n1, n2, n3, n4, n5, ne_eq, not_false_eq_true, if_true, Sem.run_bind, Sem.run_ite, Sem.run_pure, X0, X1, X2, X3, Y0, Y1, Y2, Y3, run_part24 x hx, run_part24 y hy, Result.andThen_ok, I3, I22, run_equalIn24 d _ _ hx hy]
    have key : decide (x = y) = ((x.st == y.st) && ((x.tr == y.tr) && (((x.ver : Int) == (y.ver : Int)) && ((x.sz == y.sz) && decide (x.dg = y.dg))))) := slot_eq x y
    rw [key]
    cases x.st == y.st <;> cases x.tr == y.tr <;> cases (x.ver : Int) == (y.ver : Int) <;> cases x.sz == y.sz <;> cases decide (x.dg = y.dg) <;> rfl
/-- Two slots held against each other. -/
theorem run_equal34 (x y : S) (hx : x.dg.length = 32) (hy : y.dg.length = 32) (w : World) : (Op.equalIn 10000 34 (.agg x.cs.toArray) (.agg y.cs.toArray)).run Tryz.prog w = .ok (decide (x = y)) w := by
  have hu : Tryz.prog.underlying 34 = some (.struct (Tryz.prog.fieldsOf 34)) := by kernel_rfl
  have hp : Tryz.prog.stoodInHeld 34 = false := by kernel_rfl
  rw [run_equalIn_agg w 9999 34 x.cs.toArray y.cs.toArray hu hp]
  exact run_eqFields (d := 9997) hx hy w _ fields34

/-- Can there be an image of that version and size? -/
def img (s : S) : Bool := decide (1 ≤ s.ver ∧ s.ver ≤ 281474976710656 ∧ 1 ≤ s.sz ∧ s.sz ≤ 65536)
def bare (x : Int) : S := ⟨x, 0, 0, 0, zeros32⟩
def right (s : S) : Bool :=
  if s.st = 0 ∨ s.st = 1 ∨ s.st = 4 then decide (s = bare s.st)
  else if s.st = 2 then decide (0 ≤ s.tr ∧ s.tr ≤ 7) && img s
  else if s.st = 3 then decide (s.tr = 0) && img s
  else false
def boot (s : S) : Bool := right s && (decide (s.st = 3) || decide (0 < s.tr))
def has (x : Int) : Bool := decide (x = 2) || decide (x = 3)
def whole (s : S) : Bool := right s && has s.st

theorem right_cases {s : S} (h : right s = true) : (s.st = 0 ∨ s.st = 1 ∨ s.st = 4) ∧ s = bare s.st ∨ s.st = 2 ∧ 0 ≤ s.tr ∧ s.tr ≤ 7 ∧ img s = true ∨ s.st = 3 ∧ s.tr = 0 ∧ img s = true := by
  unfold right at h
  split at h
  · exact .inl ⟨by assumption, by simpa using h⟩
  · split at h
    · rename_i h2
      simp only [Bool.and_eq_true, decide_eq_true_eq] at h
      exact .inr (.inl ⟨h2, h.1.1, h.1.2, h.2⟩)
    · split at h
      · rename_i h3
        simp only [Bool.and_eq_true, decide_eq_true_eq] at h
        exact .inr (.inr ⟨h3, h.1, h.2⟩)
      · cases h
theorem img_iff {s : S} : img s = true ↔ 1 ≤ s.ver ∧ s.ver ≤ 281474976710656 ∧ 1 ≤ s.sz ∧ s.sz ≤ 65536 := by simp [img]
theorem right_range {s : S} (h : right s = true) : 0 ≤ s.st ∧ s.st ≤ 4 ∧ 0 ≤ s.tr ∧ s.tr ≤ 7 ∧ s.ver ≤ 281474976710656 ∧ 0 ≤ s.sz ∧ s.sz ≤ 65536 := by
  rcases right_cases h with ⟨h1, h2⟩ | ⟨h1, h2, h3, h4⟩ | ⟨h1, h2, h4⟩
  · have e1 := congrArg S.tr h2
    have e2 := congrArg S.ver h2
    have e3 := congrArg S.sz h2
    simp only [bare] at e1 e2 e3
    omega
  · have := img_iff.1 h4
    omega
  · have := img_iff.1 h4
    omega
theorem zero_right : right zeroS = true := by decide +kernel

/-- A slot as bytes. -/
def bytesS (s : S) : List UInt8 := if right s = true then fixedL s.st.toNat 1 ++ fixedL s.tr.toNat 1 ++ fixedL s.ver 8 ++ fixedL s.sz.toNat 4 ++ s.dg else []
theorem bytes_len {s : S} (hr : right s = true) (hf : Fit s) : (bytesS s).length = 46 := by
  unfold bytesS
  rw [if_pos hr]
  simp [fixedL_length, hf.dg]
theorem fixed_inj {m n k : Nat} (hm : m < 256 ^ k) (hn : n < 256 ^ k) (h : fixedL m k = fixedL n k) : m = n := by
  have := congrArg numL h
  rwa [numL_fixedL, numL_fixedL, Nat.mod_eq_of_lt hm, Nat.mod_eq_of_lt hn] at this
theorem bytes_inj {x y : S} (hx : right x = true) (hy : right y = true) (h : bytesS x = bytesS y) : x = y := by
  have gx := right_range hx
  have gy := right_range hy
  unfold bytesS at h
  rw [if_pos hx, if_pos hy] at h
  have h1 := List.append_inj h (by simp [fixedL_length])
  have h2 := List.append_inj h1.1 (by simp [fixedL_length])
  have h3 := List.append_inj h2.1 (by simp [fixedL_length])
  have h4 := List.append_inj h3.1 (by simp [fixedL_length])
  have e1 := fixed_inj (by omega) (by omega) h4.1
  have e2 := fixed_inj (by omega) (by omega) h4.2
  have e3 := fixed_inj (by omega) (by omega) h3.2
  have e4 := fixed_inj (by omega) (by omega) h2.2
  obtain ⟨a, b, c, d, e⟩ := x
  obtain ⟨a', b', c', d', e'⟩ := y
  simp only at e1 e2 e3 e4 gx gy h1
  simp only [S.mk.injEq]
  exact ⟨by omega, by omega, by omega, by omega, h1.2⟩

end Go.Proofs.YtdfdalkcljfghaaGreat.Slot

namespace Go.Proofs.YtdfdalkcljfghaaGreat.Slot
open Go.RowKit

section
variable {ρ : Operand → Value} {o : Oper}
theorem op_f34_0 {x : Operand} {g : Nat} (ho : o.op = .fieldAddr 34 x 0) (h1 : ρ x = .pointer (some ⟨g, 0, none⟩)) (w : World) :
    (execOp ρ o).run Tryz.prog w = .ok (.value (.pointer (some ⟨g, 0, none⟩))) w := by
  unfold execOp
  rw [ho]
  go_simp
theorem op_f34_1 {x : Operand} {g : Nat} (ho : o.op = .fieldAddr 34 x 1) (h1 : ρ x = .pointer (some ⟨g, 0, none⟩)) (w : World) :
    (execOp ρ o).run Tryz.prog w = .ok (.value (.pointer (some ⟨g, 1, none⟩))) w := by
  unfold execOp
  rw [ho]
  go_simp
theorem op_f34_2 {x : Operand} {g : Nat} (ho : o.op = .fieldAddr 34 x 2) (h1 : ρ x = .pointer (some ⟨g, 0, none⟩)) (w : World) :
    (execOp ρ o).run Tryz.prog w = .ok (.value (.pointer (some ⟨g, 2, none⟩))) w := by
  unfold execOp
  rw [ho]
  go_simp
theorem op_f34_3 {x : Operand} {g : Nat} (ho : o.op = .fieldAddr 34 x 3) (h1 : ρ x = .pointer (some ⟨g, 0, none⟩)) (w : World) :
    (execOp ρ o).run Tryz.prog w = .ok (.value (.pointer (some ⟨g, 3, none⟩))) w := by
  unfold execOp
  rw [ho]
  go_simp
theorem op_f34_4 {x : Operand} {g : Nat} (ho : o.op = .fieldAddr 34 x 4) (h1 : ρ x = .pointer (some ⟨g, 0, none⟩)) (w : World) :
    (execOp ρ o).run Tryz.prog w = .ok (.value (.pointer (some ⟨g, 4, none⟩))) w := by
  unfold execOp
  rw [ho]
  go_simp
theorem op_load3 {x : Operand} {g k : Nat} {v : Value} {w : World} (ho : o.op = .load 3 x) (h1 : ρ x = .pointer (some ⟨g, k, none⟩)) (hc : w.cell? ⟨g, k, none⟩ = some v) :
    (execOp ρ o).run Tryz.prog w = .ok (.value v) w := by
  unfold execOp
  rw [ho]
  go_simp
theorem op_load30 {x : Operand} {g k : Nat} {v : Value} {w : World} (ho : o.op = .load 30 x) (h1 : ρ x = .pointer (some ⟨g, k, none⟩)) (hc : w.cell? ⟨g, k, none⟩ = some v) :
    (execOp ρ o).run Tryz.prog w = .ok (.value v) w := by
  unfold execOp
  rw [ho]
  go_simp
theorem op_load32 {x : Operand} {g k : Nat} {cs : List Value} {w : World} (ho : o.op = .load 32 x) (h1 : ρ x = .pointer (some ⟨g, k, none⟩)) (hA : w.rangeAt g k cs) (hi : (Tryz.prog.info? 32).map (·.size) = some cs.length) :
    (execOp ρ o).run Tryz.prog w = .ok (.value (.agg cs.toArray)) w := by
  have hr := run_loadAt_mid (P := Tryz.prog) w g k 32 cs _ hA Tryz.underlying32 rfl hi
  unfold execOp
  simp only [ho, h1, Sem.run_bind, hr, Result.andThen_ok, Sem.run_pure]
theorem op_load34 {x : Operand} {g k : Nat} {cs : List Value} {w : World} (ho : o.op = .load 34 x) (h1 : ρ x = .pointer (some ⟨g, k, none⟩)) (hA : w.rangeAt g k cs) (hi : (Tryz.prog.info? 34).map (·.size) = some cs.length) :
    (execOp ρ o).run Tryz.prog w = .ok (.value (.agg cs.toArray)) w := by
  have hr := run_loadAt_mid (P := Tryz.prog) w g k 34 cs _ hA Tryz.underlying34 rfl hi
  unfold execOp
  simp only [ho, h1, Sem.run_bind, hr, Result.andThen_ok, Sem.run_pure]
theorem op_call60 {x : Operand} {u : Value} (ho : o.op = .call { callee := .value (.func 60), args := #[x], argTypes := #[34] }) (h1 : ρ x = u) (hf : ρ (.func 60) = .func (.func 60) #[] #[]) (w : World) :
    (execOp ρ o).run Tryz.prog w = .ok (.enter 60 #[u]) w := by
  unfold execOp
  rw [ho]
  go_simp
theorem op_call56 {x : Operand} {u : Value} (ho : o.op = .call { callee := .value (.func 56), args := #[x], argTypes := #[34] }) (h1 : ρ x = u) (hf : ρ (.func 56) = .func (.func 56) #[] #[]) (w : World) :
    (execOp ρ o).run Tryz.prog w = .ok (.enter 56 #[u]) w := by
  unfold execOp
  rw [ho]
  go_simp
theorem op_call64 {x : Operand} {u : Value} (ho : o.op = .call { callee := .value (.func 64), args := #[x], argTypes := #[34] }) (h1 : ρ x = u) (hf : ρ (.func 64) = .func (.func 64) #[] #[]) (w : World) :
    (execOp ρ o).run Tryz.prog w = .ok (.enter 64 #[u]) w := by
  unfold execOp
  rw [ho]
  go_simp
theorem op_conv3_22 {x : Operand} {n : Int} (ho : o.op = .convert 3 30 x) (h1 : ρ x = .int .i64 n) (h0 : 0 ≤ n) (h2 : n < 18446744073709551616) (w : World) :
    (execOp ρ o).run Tryz.prog w = .ok (.value (.int .u64 n)) w := by
  have hw : IntKind.u64.wrap n = n := by rw [IntKind.wrap_u64]; omega
  unfold execOp
  rw [ho]
  go_simp
theorem op_not {x : Operand} {b : Bool} (ho : o.op = .unOp .not 4 x) (h1 : ρ x = .bool b) (w : World) : (execOp ρ o).run Tryz.prog w = .ok (.value (.bool (!b))) w := by
  unfold execOp
  rw [ho]
  go_simp
theorem op_eql4 {x y : Operand} {a b : Bool} (ho : o.op = .binOp .eql 4 x y 4) (h1 : ρ x = .bool a) (h2 : ρ y = .bool b) (w : World) :
    (execOp ρ o).run Tryz.prog w = .ok (.value (.bool (a == b))) w := by
  unfold execOp
  rw [ho]
  go_simp
theorem op_eqlS {x y : Operand} {a b : S} (ho : o.op = .binOp .eql 34 x y 34) (h1 : ρ x = .agg a.cs.toArray) (h2 : ρ y = .agg b.cs.toArray) (ha : a.dg.length = 32) (hb : b.dg.length = 32) (w : World) :
    (execOp ρ o).run Tryz.prog w = .ok (.value (.bool (decide (a = b)))) w := by
  have hr := run_equal34 a b ha hb
  unfold execOp
  rw [ho]
  go_simp
theorem op_pickF {c x y : Operand} {v : Value} (ho : o.op = .pick c x y) (h1 : ρ c = .bool false) (h2 : ρ y = v) (w : World) :
    (execOp ρ o).run Tryz.prog w = .ok (.value v) w := by
  unfold execOp
  rw [ho]
  go_simp
theorem op_pickT {c x y : Operand} {v : Value} (ho : o.op = .pick c x y) (h1 : ρ c = .bool true) (h2 : ρ x = v) (w : World) :
    (execOp ρ o).run Tryz.prog w = .ok (.value v) w := by
  unfold execOp
  rw [ho]
  go_simp
theorem op_eql3 {x y : Operand} {a b : Int} (ho : o.op = .binOp .eql 3 x y 3) (h1 : ρ x = .int .i64 a) (h2 : ρ y = .int .i64 b) (w : World) :
    (execOp ρ o).run Tryz.prog w = .ok (.value (.bool (a == b))) w := by
  unfold execOp
  rw [ho]
  go_simp
end

end Go.Proofs.YtdfdalkcljfghaaGreat.Slot

namespace Go.Proofs.YtdfdalkcljfghaaGreat.Slot
open Go.RowKit

theorem wpList_guarded {P : Program} {ops : Array Oper} {rest : List Oper} {o : Oper} {a : Act} {w : World} {Q : Exit → Act → World → Prop} (hw : Region.wanted o (yielded ops a.tmps) = true) (h : wpList P ops Q ({ o with guard := none } :: rest) a w) : wpList P ops Q (o :: rest) a w := by
  unfold wpList at h ⊢
  rw [if_pos hw]
  rw [if_pos (by simp [Region.wanted])] at h
  exact h

set_option maxHeartbeats 800000 in
set_option maxRecDepth 100000 in
theorem fits_walk (s : S) (w : World) : Calls Tryz.prog 96 #[s.v] w fun e w' => e = .returned (.bool (img s)) ∧ Below w.heap.size w w' := by
  have Hr : Hid (img s = (decide (1 ≤ s.ver) && decide (s.ver ≤ 281474976710656) && decide (1 ≤ s.sz) && decide (s.sz ≤ 65536))) := by
    show _ = _
    rw [Bool.eq_iff_iff]
    simp [img, and_assoc]
  unfold S.v
  go_enter Tryz.func96, Tryz.ntmps96
  go_wp2_with (refine wpList_box 34 _ s.cs rfl rfl rfl ?_)
  intro w1 hA1 hb1 hs1
  have c2 := hA1.cell (i := 2) rfl
  have c3 := hA1.cell (i := 3) rfl
  have Hb := hide hb1
  clear hA1 hb1 hs1
  go_wp2
  all_goals
    go_ret
    refine ⟨congrArg (fun b => Ending.returned (Value.bool b)) ?_, unhide Hb⟩
    rw [unhide Hr]
    rw [Bool.eq_iff_iff]
    simp only [Bool.and_eq_true, decide_eq_true_eq, Bool.false_eq_true, false_iff]
    omega

set_option maxHeartbeats 800000 in
set_option maxRecDepth 100000 in
theorem right_walk (s : S) (hf : Fit s) (w : World) : Calls Tryz.prog 60 #[s.v] w fun e w' => e = .returned (.bool (right s)) ∧ Below w.heap.size w w' := by
  have hdg := hf.dg
  have hbd : (bare s.st).dg.length = 32 := rfl
  have HS := hide (info34s hdg)
  unfold S.v
  by_cases h0 : s.st = 0 ∨ s.st = 1 ∨ s.st = 4
  · have he := run_equal34 s (bare s.st) hdg hbd
    have Hr : Hid (right s = decide (s = bare s.st)) := by
      show _ = _
      unfold right
      rw [if_pos h0]
    clear hf hdg hbd
    generalize hB : (bare s.st).cs = B at he
    have HB := hide (show Tryz.prog.built 34 [(0, .int .i64 s.st)] = some B.toArray by rw [← hB]; exact built34_st _)
    clear hB
    generalize decide (s = bare s.st) = r at *
    generalize hC : s.cs = C at he HS
    have H0 : Hid (C[0]? = some (.int .i64 s.st)) := by rw [← hC]; exact rfl
    clear hC
    generalize hX : s.st = x at *
    clear hX
    have hx : (x == 0) = true ∨ (x == 0) = false ∧ (x == 1) = true ∨ (x == 0) = false ∧ (x == 1) = false ∧ (x == 4) = true := by
      rcases h0 with h | h | h <;> subst h <;> decide
    clear h0
    rcases hx with h1 | ⟨h1, h2⟩ | ⟨h1, h2, h3⟩
    all_goals
      go_enter Tryz.func60, Tryz.ntmps60
      go_wp2_with (refine wpList_box 34 _ C rfl rfl rfl ?_)
      intro w1 hA1 hb1 hs1
      have c0 := hA1.cell (unhide H0)
      have HA := hide hA1
      have Hb := hide hb1
      clear hA1 hb1 hs1
      go_wp2_with (first
        | refine wpList_loadAll 34 _ w.heap.size C _ rfl rfl rfl (unhide HA) Tryz.underlying34 rfl (unhide HS) ?_
        | refine wpList_build 34 _ B [(0, .int .i64 x)] rfl rfl rfl (unhide HB) ?_)
      go_ret
      refine ⟨?_, unhide Hb⟩
      rw [unhide Hr]
      rfl
  · have HF : Hid (∀ w : World, Calls Tryz.prog 96 #[.agg s.cs.toArray] w fun e w' => e = .returned (.bool (img s)) ∧ Below w.heap.size w w') := hide (fits_walk s)
    have Hr : Hid (right s = if s.st = 2 then decide (0 ≤ s.tr) && decide (s.tr ≤ 7) && img s else if s.st = 3 then decide (s.tr = 0) && img s else false) := by
      show _ = _
      unfold right
      rw [if_neg h0]
      congr 2
      rw [Bool.eq_iff_iff]
      simp
    generalize right s = R at *
    generalize img s = r at *
    have H0 : Hid (s.cs[0]? = some (.int .i64 s.st)) := hide rfl
    have H1 : Hid (s.cs[1]? = some (.int .i64 s.tr)) := hide rfl
    generalize s.cs = C at *
    clear hf hdg hbd
    generalize s.st = x at *
    generalize s.tr = y at *
    have n0 : (x == 0) = false := by simp; omega
    have n1 : (x == 1) = false := by simp; omega
    have n4 : (x == 4) = false := by simp; omega
    clear h0
    by_cases h2 : x = 2
    · rw [if_pos h2] at Hr
      have e2 : (x == 2) = true := by simpa using h2
      clear h2
      by_cases hy : 0 ≤ y ∧ y ≤ 7
      · obtain ⟨y0, y7⟩ := hy
        have Hr2 : Hid (R = r) := by show _ = _; rw [unhide Hr]; simp [y0, y7]
        clear Hr
        go_enter Tryz.func60, Tryz.ntmps60
        go_wp2_with (refine wpList_box 34 _ C rfl rfl rfl ?_)
        intro w1 hA1 hb1 hs1
        have c0 := hA1.cell (unhide H0)
        have c1 := hA1.cell (unhide H1)
        have HA := hide hA1
        have Hb := hide hb1
        clear hA1 hb1 hs1
        go_wp2_with (refine wpList_guarded rfl (wpList_loadAll 34 _ w.heap.size C _ rfl rfl rfl (unhide HA) Tryz.underlying34 rfl (unhide HS) ?_))
        refine ((unhide HF) w1).mono ?_
        rintro e w2 ⟨rfl, hb2⟩
        go_wp2
        go_ret
        refine ⟨?_, (unhide Hb).trans (hb2.mono (unhide Hb).size)⟩
        rw [unhide Hr2]
        rfl
      · have Hr2 : Hid (R = false) := by
          show _ = _
          rw [unhide Hr]
          by_cases h : 0 ≤ y
          · have : ¬ y ≤ 7 := fun e => hy ⟨h, e⟩
            simp [this]
          · simp [h]
        clear Hr
        have hy' : decide (0 ≤ y) = false ∨ decide (0 ≤ y) = true ∧ decide (y ≤ 7) = false := by
          simp only [decide_eq_true_eq, decide_eq_false_iff_not]
          omega
        clear hy
        rcases hy' with hy | ⟨hy, hy7⟩
        all_goals
          go_enter Tryz.func60, Tryz.ntmps60
          go_wp2_with (refine wpList_box 34 _ C rfl rfl rfl ?_)
          intro w1 hA1 hb1 hs1
          have c0 := hA1.cell (unhide H0)
          have c1 := hA1.cell (unhide H1)
          have HA := hide hA1
          have Hb := hide hb1
          clear hA1 hb1 hs1
          go_wp2
          go_ret
          refine ⟨?_, unhide Hb⟩
          rw [unhide Hr2]
          rfl
    · rw [if_neg h2] at Hr
      have e2 : (x == 2) = false := by simpa using h2
      by_cases h3 : x = 3
      · rw [if_pos h3] at Hr
        have e3 : (x == 3) = true := by simpa using h3
        clear h2 h3
        by_cases hy : y = 0
        · have y0 : (y == 0) = true := by simpa using hy
          have Hr2 : Hid (R = r) := by show _ = _; rw [unhide Hr]; simp [hy]
          clear Hr hy
          go_enter Tryz.func60, Tryz.ntmps60
          go_wp2_with (refine wpList_box 34 _ C rfl rfl rfl ?_)
          intro w1 hA1 hb1 hs1
          have c0 := hA1.cell (unhide H0)
          have c1 := hA1.cell (unhide H1)
          have HA := hide hA1
          have Hb := hide hb1
          clear hA1 hb1 hs1
          go_wp2_with (refine wpList_guarded rfl (wpList_loadAll 34 _ w.heap.size C _ rfl rfl rfl (unhide HA) Tryz.underlying34 rfl (unhide HS) ?_))
          refine ((unhide HF) w1).mono ?_
          rintro e w2 ⟨rfl, hb2⟩
          go_wp2
          go_ret
          refine ⟨?_, (unhide Hb).trans (hb2.mono (unhide Hb).size)⟩
          rw [unhide Hr2]
          rfl
        · have y0 : (y == 0) = false := by simpa using hy
          have Hr2 : Hid (R = false) := by show _ = _; rw [unhide Hr]; simp [hy]
          clear Hr hy
          go_enter Tryz.func60, Tryz.ntmps60
          go_wp2_with (refine wpList_box 34 _ C rfl rfl rfl ?_)
          intro w1 hA1 hb1 hs1
          have c0 := hA1.cell (unhide H0)
          have c1 := hA1.cell (unhide H1)
          have HA := hide hA1
          have Hb := hide hb1
          clear hA1 hb1 hs1
          go_wp2
          go_ret
          refine ⟨?_, unhide Hb⟩
          rw [unhide Hr2]
          rfl
      · rw [if_neg h3] at Hr
        have e3 : (x == 3) = false := by simpa using h3
        clear h2 h3
        go_enter Tryz.func60, Tryz.ntmps60
        go_wp2_with (refine wpList_box 34 _ C rfl rfl rfl ?_)
        intro w1 hA1 hb1 hs1
        have c0 := hA1.cell (unhide H0)
        have Hb := hide hb1
        clear hA1 hb1 hs1
        go_wp2
        go_ret
        refine ⟨?_, unhide Hb⟩
        rw [unhide Hr]
        rfl

theorem built32 : Tryz.prog.built 32 [] = some (bytesV zeros32).toArray := by kernel_rfl

set_option maxHeartbeats 1600000 in
set_option maxRecDepth 100000 in
theorem rright_walk (s : S) (hf : Fit s) (w : World) : Calls Tryz.prog 45 #[s.v] w fun e w' => e = .returned (.bool (right s)) ∧ Below w.heap.size w w' := by
  have hdg := hf.dg
  have he := run_equal32 s.dg zeros32 hdg rfl
  have HB := hide built32
  obtain ⟨N, hN⟩ : ∃ N, N = ((s.tr == 0) && ((s.ver : Int) == 0) && (s.sz == 0) && decide (s.dg = zeros32)) := ⟨_, rfl⟩
  obtain ⟨I, hI⟩ : ∃ I, I = (decide ((s.ver : Int) ≥ 1) && decide ((s.ver : Int) ≤ 281474976710656) && decide (s.sz ≥ 1) && decide (s.sz ≤ 65536)) := ⟨_, rfl⟩
  have HN := hide hN
  have HI := hide hI
  have Hr : Hid (right s = if s.st = 0 ∨ s.st = 1 ∨ s.st = 4 then N else if s.st = 2 then I && decide (0 ≤ s.tr) && decide (s.tr ≤ 7) else if s.st = 3 then I && decide (s.tr = 0) else false) := by
    show _ = _
    have e1 : N = decide (s = bare s.st) := by
      rw [hN, slot_eq]
      simp [bare, Bool.and_assoc]
      rfl
    have e2 : I = img s := by
      rw [hI, Bool.eq_iff_iff]
      simp only [Bool.and_eq_true, decide_eq_true_eq, img]
      omega
    rw [e1, e2]
    unfold right
    have e3 : (decide (0 ≤ s.tr ∧ s.tr ≤ 7) && img s) = (img s && decide (0 ≤ s.tr) && decide (s.tr ≤ 7)) := by
      rw [Bool.eq_iff_iff]
      simp only [Bool.and_eq_true, decide_eq_true_eq]
      exact ⟨fun h => ⟨⟨h.2, h.1.1⟩, h.1.2⟩, fun h => ⟨⟨h.1.2, h.2⟩, h.1.1⟩⟩
    rw [e3, Bool.and_comm (decide (s.tr = 0))]
  clear hN hI
  generalize decide (s.dg = zeros32) = D at *
  generalize hZ : bytesV zeros32 = Z at *
  clear hZ
  have HG := hide (info32s hdg)
  have H0 : Hid (s.cs[0]? = some (.int .i64 s.st)) := hide rfl
  have H1 : Hid (s.cs[1]? = some (.int .i64 s.tr)) := hide rfl
  have H2 : Hid (s.cs[2]? = some (.int .u64 (s.ver : Int))) := hide rfl
  have H3 : Hid (s.cs[3]? = some (.int .i64 s.sz)) := hide rfl
  have H4 : Hid (∀ j v, (bytesV s.dg)[j]? = some v → s.cs[4 + j]? = some v) := by
    show ∀ j v, _
    intro j v hj
    rw [← hj, S.cs, Nat.add_comm]
    rfl
  unfold S.v
  generalize right s = R at *
  generalize s.cs = C at *
  generalize bytesV s.dg = G at *
  clear hf hdg
  generalize s.st = x at *
  generalize s.tr = y at *
  generalize s.ver = v at *
  generalize s.sz = z at *
  go_enter Tryz.func45, Tryz.ntmps45
  go_upto_region 1 with (refine wpList_box 34 _ C rfl rfl rfl ?_)
  intro w1 hA1 hb1 hs1
  have c0 := hA1.cell (unhide H0)
  have c1 := hA1.cell (unhide H1)
  have c2 := hA1.cell (unhide H2)
  have c3 := hA1.cell (unhide H3)
  have HRG := hide (hA1.rangeMid 4 G (unhide H4))
  have Hb := hide hb1
  clear hA1 hb1 hs1
  go_upto_region 1 with fail
  go_cut [3] from 5 to 23 (fun c wx => c = .bool N ∧ wx = w1)
  case first =>
    go_wp2_with (first
      | refine wpList_guarded rfl (wpList_load_mid rfl 32 _ rfl w.heap.size 4 rfl G _ (unhide HRG) Tryz.underlying32 rfl (unhide HG) ?_)
      | refine wpList_guarded rfl (wpList_build 32 _ Z [] rfl rfl rfl (unhide HB) ?_))
    all_goals
      go_meet
      case rel =>
        refine ⟨?_, rfl⟩
        rw [unhide HN]
        refine congrArg Value.bool ?_
        rw [Bool.eq_iff_iff]
        simp only [Bool.and_eq_true, beq_iff_eq, Bool.false_eq_true, false_iff]
        first
          | omega
          | (constructor
             · intro hd
               exact ⟨⟨⟨by omega, by omega⟩, by omega⟩, hd⟩
             · exact fun hd => hd.2)
  case rest =>
    obtain ⟨rfl, hw⟩ := hcut
    subst wc
    clear he HB HG HRG HN H2 H3
    go_upto_region 2 with fail
    go_cut [4] from 24 to 41 (fun c wx => c = .bool I ∧ wx = w1)
    case first =>
      go_wp2
      all_goals
        go_meet
        case rel =>
          refine ⟨?_, rfl⟩
          rw [unhide HI]
          refine congrArg Value.bool ?_
          rw [Bool.eq_iff_iff]
          simp only [Bool.and_eq_true, decide_eq_true_eq, Bool.false_eq_true, false_iff]
          omega
    case rest =>
      obtain ⟨rfl, hw⟩ := hcut
      subst wc
      clear HI c2 c3
      by_cases h0 : x = 0 ∨ x = 1 ∨ x = 4
      · rw [if_pos h0] at Hr
        have hx : (x == 0) = true ∨ (x == 0) = false ∧ (x == 1) = true ∨ (x == 0) = false ∧ (x == 1) = false ∧ (x == 4) = true := by
          rcases h0 with h | h | h <;> subst h <;> decide
        clear h0
        rcases hx with h1 | ⟨h1, h2⟩ | ⟨h1, h2, h3⟩
        all_goals
          go_wp2
          go_ret
          refine ⟨?_, unhide Hb⟩
          rw [unhide Hr]
          rfl
      · rw [if_neg h0] at Hr
        have n0 : (x == 0) = false := by simp; omega
        have n1 : (x == 1) = false := by simp; omega
        have n4 : (x == 4) = false := by simp; omega
        clear h0
        by_cases h2 : x = 2
        · rw [if_pos h2] at Hr
          have e2 : (x == 2) = true := by simpa using h2
          clear h2
          cases I with
          | false =>
            go_wp2
            go_ret
            refine ⟨?_, unhide Hb⟩
            rw [unhide Hr]
            rfl
          | true =>
            go_wp2
            all_goals
              go_ret
              refine ⟨congrArg (fun b => Ending.returned (Value.bool b)) ?_, unhide Hb⟩
              rw [unhide Hr]
              rw [Bool.eq_iff_iff]
              simp only [Bool.and_eq_true, decide_eq_true_eq, Bool.false_eq_true, false_iff, true_and]
              omega
        · rw [if_neg h2] at Hr
          have e2 : (x == 2) = false := by simpa using h2
          by_cases h3 : x = 3
          · rw [if_pos h3] at Hr
            have e3 : (x == 3) = true := by simpa using h3
            clear h2 h3
            cases I with
            | false =>
              go_wp2
              go_ret
              refine ⟨?_, unhide Hb⟩
              rw [unhide Hr]
              rfl
            | true =>
              go_wp2
              all_goals
                go_ret
                refine ⟨congrArg (fun b => Ending.returned (Value.bool b)) ?_, unhide Hb⟩
                rw [unhide Hr]
                rw [Bool.eq_iff_iff]
                simp
          · rw [if_neg h3] at Hr
            have e3 : (x == 3) = false := by simpa using h3
            clear h2 h3
            go_wp2
            go_ret
            refine ⟨?_, unhide Hb⟩
            rw [unhide Hr]
            rfl

/-- What becomes of a slot, and the error. -/
def checkedF (s : S) : S × Int := if right s = true then (s, 0) else (zeroS, 101)
set_option maxHeartbeats 1600000 in
set_option maxRecDepth 100000 in
theorem checked_walk (s : S) (hf : Fit s) (w : World) : Calls Tryz.prog 121 #[s.v] w fun e w' => e = .returned (.tuple #[(checkedF s).1.v, .int .i64 (checkedF s).2]) ∧ Below w.heap.size w w' := by
  have HW : Hid (∀ w : World, Calls Tryz.prog 60 #[.agg s.cs.toArray] w fun e w' => e = .returned (.bool (right s)) ∧ Below w.heap.size w w') := hide (right_walk s hf)
  have HS := hide (info34s hf.dg)
  have HL := hide (cs_length hf.dg)
  have HS1 := hide (cs_one s)
  have HZ := hide (info34s (s := zeroS) rfl)
  have HZL : Hid (zeroS.cs.length = 36) := hide rfl
  have HZ1 := hide (cs_one zeroS)
  have HB := hide built34
  have Hal := hide alloc34
  have Hy : Hid (right s = true → checkedF s = (s, 0)) := by
    show right s = true → _
    intro h; unfold checkedF; rw [if_pos h]
  have Hn : Hid (right s = false → checkedF s = (zeroS, 101)) := by
    show right s = false → _
    intro h; unfold checkedF; rw [if_neg (by rw [h]; simp)]
  unfold S.v
  clear hf
  generalize right s = r at *
  go_enter Tryz.func121, Tryz.ntmps121
  go_wp2_with (refine wpList_box 34 _ s.cs rfl rfl rfl ?_)
  intro w1 hA1 hb1 hs1
  have HA1 := hide hA1
  have Hb1 := hide hb1
  clear hA1 hb1
  go_wp2_with (refine wpList_alloc 34 34 zeroS.cs rfl rfl (unhide Hal) ?_)
  intro w2 hA2 hb2 hs2
  have HA1 := hide ((unhide HA1).keep hb2 (by omega))
  have HA2 := hide hA2
  have Hb2 := hide ((unhide Hb1).trans (hb2.mono (by omega)))
  clear hA2 hb2 Hb1
  go_wp2_with (refine wpList_loadAll 34 _ w.heap.size s.cs _ rfl rfl rfl (unhide HA1) Tryz.underlying34 rfl (unhide HS) ?_)
  refine ((unhide HW) w2).mono ?_
  rintro e w3 ⟨rfl, hb3⟩
  have HA1 := hide ((unhide HA1).below hb3)
  have HA2 := hide ((unhide HA2).below hb3)
  have Hb3 := hide ((unhide Hb2).trans (hb3.mono (unhide Hb2).size))
  clear hb3 Hb2 HW
  cases r with
  | false =>
    go_wp2_with (first
      | refine wpList_build 34 _ zeroS.cs [] rfl rfl rfl (unhide HB) ?_
      | refine wpList_storeAll 34 _ _ (w.heap.size + 1) zeroS.cs zeroS.cs rfl rfl rfl rfl (unhide HA2) rfl (unhide HZ) (unhide HZ1) ?_)
    intro w5 hA5 hg5 hs5
    have Hb5 := hide ((unhide Hb3).grown hg5 (unhide Hb3).size (fun k hk => by simp at hk; omega))
    have HA5 := hide hA5
    clear hA5 hg5
    go_wp2
    refine bodyPost_ret (v := .tuple #[.agg zeroS.cs.toArray, .int .i64 101]) ?_ rfl ⟨?_, unhide Hb5⟩
    · exact results_two Tryz.results121 rfl rfl (unhide HA5) Tryz.underlying34 rfl (unhide HZ)
    · rw [unhide Hn (by simp)]
      try rfl
  | true =>
    go_wp2_with (first
      | refine wpList_loadAll 34 _ w.heap.size s.cs _ rfl rfl rfl (unhide HA1) Tryz.underlying34 rfl (unhide HS) ?_
      | refine wpList_storeAll 34 _ _ (w.heap.size + 1) s.cs zeroS.cs rfl rfl rfl rfl (unhide HA2) (by rw [unhide HL, unhide HZL]) (unhide HS) (unhide HS1) ?_)
    intro w5 hA5 hg5 hs5
    have Hb5 := hide ((unhide Hb3).grown hg5 (unhide Hb3).size (fun k hk => by simp at hk; omega))
    have HA5 := hide hA5
    clear hA5 hg5
    go_wp2
    refine bodyPost_ret (v := .tuple #[.agg s.cs.toArray, .int .i64 0]) ?_ rfl ⟨?_, unhide Hb5⟩
    · exact results_two Tryz.results121 rfl rfl (unhide HA5) Tryz.underlying34 rfl (unhide HS)
    · rw [unhide Hy (by simp)]

end Go.Proofs.YtdfdalkcljfghaaGreat.Slot
