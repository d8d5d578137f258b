/-
  Sectors as values and as cells; arrays in blocks of their own and in the midst of a row; what is left as it was.
-/
import Derived.Test.YtdfdalkcljfghaaGreatProg
import Derived.Test.YtdfdalkcljfghaaGreatMath
import Derived.Test.YtdfdalkcljfghaaGreatArr
import Derived.WalkKit
import Derived.BigCall
import Derived.WalkSpells
import Derived.WalkLawsBesides
import Derived.Lib.OthersKept
import Derived.Lib.AppendStr
import Derived.Lib.BufferRead
import Derived.OpenShut
import Derived.DeepKeys
namespace Go.Proofs.YtdfdalkcljfghaaGreat
open Go.RowKit

theorem hide {p : Prop} (h : p) : Hid p := h
theorem unhide {p : Prop} (h : Hid p) : p := h

def bytesV (l : List UInt8) : List Value := l.map fun c => .int .u8 ((c.toNat : Nat) : Int)
/-- A sector as a value. -/
def secV (s : Sec) : Value := .agg (bytesV s).toArray
theorem bytesV_length (l : List UInt8) : (bytesV l).length = l.length := by simp [bytesV]
theorem bytesV_get (l : List UInt8) {i : Nat} (h : i < l.length) : (bytesV l)[i]? = some (.int .u8 (((l.getD i 0).toNat : Nat) : Int)) := by
  rw [bytesV, List.getElem?_map, List.getD_eq_getElem?_getD, List.getElem?_eq_getElem h]; rfl
theorem bytesV_set (l : List UInt8) (i : Nat) (c : UInt8) : (bytesV l).set i (.int .u8 ((c.toNat : Nat) : Int)) = bytesV (l.set i c) := by
  rw [bytesV, bytesV, List.map_set]
theorem bytesV_one (l : List UInt8) : ∀ v ∈ bytesV l, v.oneCell' = true := by
  intro v hv
  obtain ⟨c, _, rfl⟩ := List.mem_map.1 hv
  rfl
theorem bytesV_app (a b : List UInt8) : bytesV (a ++ b) = bytesV a ++ bytesV b := by simp [bytesV]

/-- Sectors as cells. -/
def secsV : List Sec → List Value
  | [] => []
  | s :: ss => bytesV s ++ secsV ss
theorem secsV_length : ∀ {ss : List Sec}, (∀ s ∈ ss, s.length = 64) → (secsV ss).length = ss.length * 64
  | [], _ => rfl
  | s :: ss, h => by
    rw [secsV, List.length_append, bytesV_length, h s (by simp), secsV_length (fun x hx => h x (by simp [hx])), List.length_cons]
    omega
theorem secsV_range : ∀ {ss : List Sec}, (∀ s ∈ ss, s.length = 64) → ∀ {i : Nat}, i < ss.length → ∀ j v, (bytesV (ss.getD i []))[j]? = some v → (secsV ss)[i * 64 + j]? = some v
  | [], _, i, hi, _, _, _ => by simp at hi
  | s :: ss, h, 0, _, j, v, hv => by
    have hj : j < (bytesV s).length := (List.getElem?_eq_some_iff.1 (by simpa using hv)).1
    rw [secsV, Nat.zero_mul, Nat.zero_add, List.getElem?_append_left hj]
    simpa using hv
  | s :: ss, h, i + 1, hi, j, v, hv => by
    have h64 : (bytesV s).length = 64 := by rw [bytesV_length]; exact h s (by simp)
    rw [secsV, List.getElem?_append_right (by omega), h64, show (i + 1) * 64 + j - 64 = i * 64 + j by omega]
    exact secsV_range (fun x hx => h x (by simp [hx])) (by simpa using hi) j v (by simpa using hv)
theorem secsV_set : ∀ {ss : List Sec}, (∀ s ∈ ss, s.length = 64) → ∀ (i : Nat) (s : Sec), i < ss.length → s.length = 64 →
    (secsV ss).take (i * 64) ++ (bytesV s ++ (secsV ss).drop (i * 64 + 64)) = secsV (ss.set i s)
  | [], _, i, s, hi, _ => by simp at hi
  | x :: ss, h, 0, s, _, hs => by
    have h64 : (bytesV x).length = 64 := by rw [bytesV_length]; exact h x (by simp)
    rw [List.set_cons_zero, secsV, secsV, Nat.zero_mul, List.take_zero, List.nil_append, Nat.zero_add, ← h64, List.drop_left]
  | x :: ss, h, i + 1, s, hi, hs => by
    have h64 : (bytesV x).length = 64 := by rw [bytesV_length]; exact h x (by simp)
    have ih := secsV_set (ss := ss) (fun y hy => h y (by simp [hy])) i s (by simpa using hi) hs
    rw [List.set_cons_succ, secsV, secsV, ← ih, List.take_append, List.drop_append, h64, List.take_of_length_le (by omega), List.drop_eq_nil_of_le (by omega), show (i + 1) * 64 - 64 = i * 64 by omega, show (i + 1) * 64 + 64 - 64 = i * 64 + 64 by omega]
    simp
theorem secsV_one : ∀ (ss : List Sec), ∀ v ∈ secsV ss, v.oneCell' = true
  | [], v, hv => by cases hv
  | s :: ss, v, hv => by
    rcases List.mem_append.1 hv with h | h
    · exact bytesV_one s v h
    · exact secsV_one ss v h

/-- Numbers as cells. -/
def intsV (l : List Nat) : List Value := l.map fun n => .int .i64 ((n : Nat) : Int)
theorem intsV_length (l : List Nat) : (intsV l).length = l.length := by simp [intsV]
theorem intsV_get (l : List Nat) {i : Nat} (h : i < l.length) : (intsV l)[i]? = some (.int .i64 ((l.getD i 0 : Nat) : Int)) := by
  rw [intsV, List.getElem?_map, List.getD_eq_getElem?_getD, List.getElem?_eq_getElem h]; rfl
theorem intsV_set (l : List Nat) (i n : Nat) : (intsV l).set i (.int .i64 ((n : Nat) : Int)) = intsV (l.set i n) := by
  rw [intsV, intsV, List.map_set]

/-- What was done, as cells. -/
def doneV (x : Nat × Sec) : List Value := .int .i64 (x.1 : Int) :: bytesV x.2
def donesV : List (Nat × Sec) → List Value
  | [] => []
  | x :: l => doneV x ++ donesV l
theorem doneV_length {x : Nat × Sec} (h : x.2.length = 64) : (doneV x).length = 65 := by simp [doneV, bytesV_length, h]
theorem doneV_one (x : Nat × Sec) : ∀ v ∈ doneV x, v.oneCell' = true := by
  intro v hv
  rcases List.mem_cons.1 hv with h | h
  · rw [h]; rfl
  · exact bytesV_one _ v h
theorem donesV_length : ∀ {l : List (Nat × Sec)}, (∀ x ∈ l, x.2.length = 64) → (donesV l).length = l.length * 65
  | [], _ => rfl
  | x :: l, h => by
    rw [donesV, List.length_append, doneV_length (h x (by simp)), donesV_length (fun y hy => h y (by simp [hy])), List.length_cons]
    omega
theorem donesV_snoc : ∀ (l : List (Nat × Sec)) (x : Nat × Sec), donesV (l ++ [x]) = donesV l ++ doneV x
  | [], x => by simp [donesV]
  | y :: l, x => by
    rw [List.cons_append, donesV, donesV_snoc l x, donesV, List.append_assoc]
theorem donesV_range : ∀ {l : List (Nat × Sec)}, (∀ x ∈ l, x.2.length = 64) → ∀ {i : Nat}, i < l.length → ∀ j v, (doneV (l.getD i (0, [])))[j]? = some v → (donesV l)[i * 65 + j]? = some v
  | [], _, i, hi, _, _, _ => by simp at hi
  | s :: ss, h, 0, _, j, v, hv => by
    have hj : j < (doneV s).length := (List.getElem?_eq_some_iff.1 (by simpa using hv)).1
    rw [donesV, Nat.zero_mul, Nat.zero_add, List.getElem?_append_left hj]
    simpa using hv
  | s :: ss, h, i + 1, hi, j, v, hv => by
    have h64 : (doneV s).length = 65 := doneV_length (h s (by simp))
    rw [donesV, List.getElem?_append_right (by omega), h64, show (i + 1) * 65 + j - 65 = i * 65 + j by omega]
    exact donesV_range (fun x hx => h x (by simp [hx])) (by simpa using hi) j v (by simpa using hv)

theorem setCells_mid (b : Nat) : ∀ (vs : List Value) (o : Nat) (w : World) (pre cs post : List Value), pre.length = o → cs.length = vs.length → Arr w b (pre ++ (cs ++ post)) → Arr (w.setCells b o vs) b (pre ++ (vs ++ post))
  | [], o, w, pre, cs, post, hp, hl, h => by
    obtain rfl : cs = [] := List.eq_nil_of_length_eq_zero (by simpa using hl)
    exact h
  | v :: vs, o, w, pre, [], post, hp, hl, h => by simp at hl
  | v :: vs, o, w, pre, c :: cs, post, hp, hl, h => by
    show Arr ((w.setCell ⟨b, o, none⟩ v).setCells b (o + 1) vs) b (pre ++ (v :: vs ++ post))
    have h1 := h.set o v
    have e : (pre ++ (c :: cs ++ post)).set o v = (pre ++ [v]) ++ (cs ++ post) := by
      rw [List.set_append_right o v (by omega), hp, Nat.sub_self]
      simp
    rw [e] at h1
    have := setCells_mid b vs (o + 1) _ (pre ++ [v]) cs post (by simp [hp]) (by simpa using hl) h1
    simpa using this
theorem Arr.mid {w : World} {b : Nat} {cs : List Value} (h : Arr w b cs) (o : Nat) (vs : List Value) (hl : o + vs.length ≤ cs.length) : Arr (w.setCells b o vs) b (cs.take o ++ (vs ++ cs.drop (o + vs.length))) := by
  refine setCells_mid b vs o w _ ((cs.drop o).take vs.length) _ (by simp; omega) (by simp; omega) ?_
  rw [← List.drop_drop, List.take_append_drop, List.take_append_drop]
  exact h
theorem Arr.rangeMid {w : World} {b : Nat} {cs : List Value} (h : Arr w b cs) (o : Nat) (vs : List Value) (hr : ∀ j v, vs[j]? = some v → cs[o + j]? = some v) : w.rangeAt b o vs := fun j v hj => h.cell (hr j v hj)
theorem Arr.thereMid {w : World} {b : Nat} {cs : List Value} (h : Arr w b cs) (o n : Nat) (hn : o + n ≤ cs.length) : w.there b o n := fun j hj => by
  rw [h.cell (List.getElem?_eq_getElem (by omega))]
  exact ⟨rfl, h.free _⟩
/-- Sectors in a block. -/
theorem Arr.sec {w : World} {b : Nat} {ss : List Sec} (h : Arr w b (secsV ss)) (hs : ∀ s ∈ ss, s.length = 64) {i : Nat} (hi : i < ss.length) : w.rangeAt b (i * 64) (bytesV (ss.getD i [])) :=
  h.rangeMid _ _ (secsV_range hs hi)
theorem Arr.secThere {w : World} {b : Nat} {ss : List Sec} (h : Arr w b (secsV ss)) (hs : ∀ s ∈ ss, s.length = 64) {i : Nat} (hi : i < ss.length) : w.there b (i * 64) 64 :=
  h.thereMid _ _ (by rw [secsV_length hs]; omega)
theorem Arr.secSet {w : World} {b : Nat} {ss : List Sec} (h : Arr w b (secsV ss)) (hs : ∀ s ∈ ss, s.length = 64) {i : Nat} (hi : i < ss.length) {s : Sec} (hl : s.length = 64) : Arr (w.setCells b (i * 64) (bytesV s)) b (secsV (ss.set i s)) := by
  have h1 := h.mid (i * 64) (bytesV s) (by rw [secsV_length hs, bytesV_length, hl]; omega)
  rw [bytesV_length, hl, secsV_set hs i s hi hl] at h1
  exact h1

section
variable {P : Program} {ops : Array Oper} {rest : List Oper} {a : Act} {w : World} {Q : Exit → Act → World → Prop}

/-- A literal. -/
theorem wpList_build {o : Oper} (t : TypeId) (parts : Array (Nat × Operand)) (cs : List Value) (ps : List (Nat × Value)) (ho : o.op = .build t parts) (hg : o.guard = none)
    (hp : (parts.toList.map fun p => (p.1, a.eval p.2)) = ps) (hb : P.built t ps = some cs.toArray) (h : wpList P ops Q rest (a.put o.dst (.agg cs.toArray)) w) : wpList P ops Q (o :: rest) a w := by
  refine wpList_plain hg fun K hK => ?_
  have r1 : (execOp a.eval o).run P w = .ok (.value (.agg cs.toArray)) w := by
    have hb' : P.built t (parts.map fun (i, x) => (i, a.eval x)).toList = some cs.toArray := by
      rw [Array.toList_map, ← hb, ← hp]
    unfold execOp
    simp only [ho, Sem.run_bind, run_build w t _ _ hb', Result.andThen, Sem.run_pure]
  unfold Oper.wp
  rw [r1, Oper.upon_value]
  exact hK _ _ h
/-- A value that is an array or a struct, laid into a block of its own. -/
theorem wpList_box {o : Oper} (t : TypeId) (x : Operand) (cs : List Value) (ho : o.op = .box t x) (hg : o.guard = none) (hx : a.eval x = .agg cs.toArray)
    (h : ∀ w', Arr w' w.heap.size cs → Below w.heap.size w w' → w'.heap.size = w.heap.size + 1 → wpList P ops Q rest (a.put o.dst (.pointer (some ⟨w.heap.size, 0, none⟩))) w') :
    wpList P ops Q (o :: rest) a w := by
  refine wpList_plain hg fun K hK => ?_
  have r : (execOp a.eval o).run P w = .ok (.value (.pointer (some ⟨w.heap.size, 0, none⟩))) (w.alloc (.cells cs.toArray t)) := by
    unfold execOp
    simp only [ho, hx]
    rfl
  unfold Oper.wp
  rw [r, Oper.upon_value]
  exact hK _ _ (h _ ⟨cs.toArray, t, heap_alloc_new w _, rfl⟩ ((Below.refl _ _).alloc (Nat.le_refl _) _) (by simp))
/-- A variable made: noughts. -/
theorem wpList_alloc {o : Oper} (t e : TypeId) (zs : List Value) (ho : o.op = .alloc t) (hg : o.guard = none)
    (hal : ∀ w : World, (Instr.alloc t true (.tuple #[])).run P w = .ok (.pointer (some ⟨w.heap.size, 0, none⟩)) (w.alloc (.cells zs.toArray e)))
    (h : ∀ w', Arr w' w.heap.size zs → Below w.heap.size w w' → w'.heap.size = w.heap.size + 1 → wpList P ops Q rest (a.put o.dst (.pointer (some ⟨w.heap.size, 0, none⟩))) w') :
    wpList P ops Q (o :: rest) a w := by
  refine wpList_plain hg fun K hK => ?_
  have r : (execOp a.eval o).run P w = .ok (.value (.pointer (some ⟨w.heap.size, 0, none⟩))) (w.alloc (.cells zs.toArray e)) := by
    unfold execOp
    simp only [ho, Sem.run_bind, hal w, Result.andThen, Sem.run_pure]
  unfold Oper.wp
  rw [r, Oper.upon_value]
  exact hK _ _ (h _ ⟨zs.toArray, e, heap_alloc_new w _, rfl⟩ ((Below.refl _ _).alloc (Nat.le_refl _) _) (by simp))
/-- An array in a block of its own read whole. -/
theorem wpList_loadAll {o : Oper} (t : TypeId) (x : Operand) (b : Nat) (cs : List Value) (td : TypeDesc) (ho : o.op = .load t x) (hg : o.guard = none) (hx : a.eval x = .pointer (some ⟨b, 0, none⟩))
    (hA : Arr w b cs) (hu : P.underlying t = some td) (hd : td.isRow = true) (hi : (P.info? t).map (·.size) = some cs.length)
    (h : wpList P ops Q rest (a.put o.dst (.agg cs.toArray)) w) : wpList P ops Q (o :: rest) a w :=
  wpList_load_mid hg t x ho b 0 hx cs td hA.range hu hd hi h
/-- An array laid whole into a block of its own. -/
theorem wpList_storeAll {o : Oper} (t : TypeId) (x y : Operand) (b : Nat) (cs ds : List Value) (ho : o.op = .store t x y) (hg : o.guard = none) (hx : a.eval x = .pointer (some ⟨b, 0, none⟩)) (hy : a.eval y = .agg cs.toArray)
    (hA : Arr w b ds) (hl : ds.length = cs.length) (hi : (P.info? t).map (·.size) = some cs.length) (hone : ∀ v ∈ cs, v.oneCell' = true)
    (h : ∀ w', Arr w' b cs → w.grownBy w' (some b) → w'.heap.size = w.heap.size → wpList P ops Q rest (a.put o.dst undef) w') : wpList P ops Q (o :: rest) a w := by
  refine wpList_store_mid hg t x y ho b 0 cs.toArray hx hy ?_ ?_ (all_oneCell_toArray hone) ?_
  · have := hA.there
    rw [hl] at this
    simpa using this
  · simpa using hi
  · exact h _ (hA.sets cs hl) (setCells_grown _ _ _ _) (by rw [setCells_size])
/-- A result that is an array in a block of its own. -/
theorem results_arr {fn : Func} {p : Tmp} {ty : TypeId} {tmps : Array Value} {g : Nat} {cs : List Value} {td : TypeDesc} (h : fn.results = #[.cell p ty]) (hp : tmps.getD p undef = .pointer (some ⟨g, 0, none⟩)) (hA : Arr w g cs)
    (hu : P.underlying ty = some td) (hd : td.isRow = true) (hi : (P.info? ty).map (·.size) = some cs.length) : (results fn tmps).run P w = .ok (.agg cs.toArray) w := by
  have hl := run_loadVar_mid (P := P) w g 0 ty cs td hA.range hu hd hi
  have hp' : tmps[p]?.getD undef = .pointer (some ⟨g, 0, none⟩) := by simpa using hp
  simp [results, h, hp', asAddr, hl]
/-- Such a result and one more. -/
theorem results_two {fn : Func} {p q : Tmp} {ty : TypeId} {tmps : Array Value} {g : Nat} {cs : List Value} {td : TypeDesc} {v : Value} (h : fn.results = #[.cell p ty, .tmp q]) (hp : tmps.getD p undef = .pointer (some ⟨g, 0, none⟩)) (hq : tmps.getD q undef = v) (hA : Arr w g cs)
    (hu : P.underlying ty = some td) (hd : td.isRow = true) (hi : (P.info? ty).map (·.size) = some cs.length) : (results fn tmps).run P w = .ok (.tuple #[.agg cs.toArray, v]) w := by
  have hl := run_loadVar_mid (P := P) w g 0 ty cs td hA.range hu hd hi
  have hp' : tmps[p]?.getD undef = .pointer (some ⟨g, 0, none⟩) := by simpa using hp
  have hq' : tmps[q]?.getD undef = v := by simpa using hq
  simp [results, h, hp', hq', asAddr, hl]
end

theorem alloc136 (w : World) : (Instr.alloc 136 true (.tuple #[])).run Tryz.prog w = .ok (.pointer (some ⟨w.heap.size, 0, none⟩)) (w.alloc (.cells (bytesV zeroS).toArray 136)) := by kernel_rfl
theorem built136 : Tryz.prog.built 136 [] = some (bytesV zeroS).toArray := by kernel_rfl
theorem info136 : (Tryz.prog.info? 136).map (·.size) = some 64 := by kernel_rfl
theorem info136s {s : Sec} (h : s.length = 64) : (Tryz.prog.info? 136).map (·.size) = some (bytesV s).length := by rw [bytesV_length, h]; exact info136
theorem infoOf {t : TypeId} {z : Value} {n b : Nat} (h : (Tryz.prog.info? t).map (fun i => (i.zero, i.size, i.bytes)) = some (some z, n, b)) : ∃ i, Tryz.prog.info? t = some i ∧ i.zero = some z ∧ i.size = n ∧ i.bytes = b := by
  cases hi : Tryz.prog.info? t with
  | none => rw [hi] at h; simp at h
  | some i =>
    rw [hi] at h
    simp only [Option.map_some, Option.some.injEq, Prod.mk.injEq] at h
    exact ⟨i, rfl, h⟩
theorem full26 : ∃ i, Tryz.prog.info? 136 = some i ∧ i.zero = some (secV zeroS) ∧ i.size = 64 ∧ i.bytes = 64 := infoOf (by kernel_rfl)
theorem full3 : ∃ i, Tryz.prog.info? 3 = some i ∧ i.zero = some (.int .i64 0) ∧ i.size = 1 ∧ i.bytes = 8 := infoOf (by kernel_rfl)
theorem full5 : ∃ i, Tryz.prog.info? 5 = some i ∧ i.zero = some (.int .u8 0) ∧ i.size = 1 ∧ i.bytes = 1 := infoOf (by kernel_rfl)
theorem full72 : ∃ i, Tryz.prog.info? 151 = some i ∧ i.zero = some (.agg (doneV (0, zeroS)).toArray) ∧ i.size = 65 ∧ i.bytes = 72 := infoOf (by kernel_rfl)

theorem run_part5 (x : Sec) (i : Nat) (hi : i < x.length) (w : World) : (part 5 (bytesV x).toArray i).run Tryz.prog w = .ok (.int .u8 (((x.getD i 0).toNat : Nat) : Int)) w := by
  have hv := bytesV_get x hi
  simp [part, hv]
theorem run_eqItems_bytes (x y : Sec) (dd : Nat) (w : World) : ∀ is : List Nat, (∀ i ∈ is, i < x.length ∧ i < y.length) →
    (Op.eqItems (dd + 1) 5 1 (bytesV x).toArray (bytesV y).toArray is).run Tryz.prog w = .ok (is.all fun i => x.getD i 0 == y.getD i 0) w
  | [], _ => by simp [Op.eqItems]
  | i :: is, h => by
    have h1 := h i (by simp)
    have ih := run_eqItems_bytes x y dd w is (fun j hj => h j (by simp [hj]))
    have hb : ((((x.getD i 0).toNat : Nat) : Int) == (((y.getD i 0).toNat : Nat) : Int)) = (x.getD i 0 == y.getD i 0) := by
      rw [Bool.eq_iff_iff, beq_iff_eq, beq_iff_eq]
      constructor
      · intro e; exact UInt8.toNat_inj.1 (by omega)
      · intro e; rw [e]
    simp only [Op.eqItems, Sem.run_bind, Nat.mul_one, run_part5 x i h1.1, run_part5 y i h1.2, Result.andThen_ok, run_equalIn_int w dd 5 .u8 .u8 _ _ Tryz.underlying5, hb, List.all_cons]
    cases x.getD i 0 == y.getD i 0
    · simp
    · simpa using ih
theorem all_getD (x y : Sec) (hx : x.length = 64) (hy : y.length = 64) : ((List.range 64).all fun i => x.getD i 0 == y.getD i 0) = (x == y) := by
  rw [Bool.eq_iff_iff, List.all_eq_true, beq_iff_eq]
  constructor
  · intro h
    apply List.ext_getElem (by omega)
    intro i h1 h2
    have := h i (by simp; omega)
    rw [beq_iff_eq, List.getD_eq_getElem?_getD, List.getD_eq_getElem?_getD, List.getElem?_eq_getElem h1, List.getElem?_eq_getElem h2] at this
    exact this
  · intro e i _
    rw [e]; simp
theorem run_equal136 (x y : Sec) (hx : x.length = 64) (hy : y.length = 64) (w : World) : (Op.equalIn 10000 136 (secV x) (secV y)).run Tryz.prog w = .ok (x == y) w := by
  obtain ⟨i, hi, _, hsz, _⟩ := full5
  rw [← all_getD x y hx hy]
  have h := run_eqItems_bytes x y 9998 w (List.range 64) (fun i hi => by simp at hi; omega)
  unfold secV
  rw [run_equalIn_array w 9999 _ _ Tryz.underlying136 hi, show Tryz.prog.cellsOf 5 = 1 by kernel_rfl]
  exact h
end Go.Proofs.YtdfdalkcljfghaaGreat
