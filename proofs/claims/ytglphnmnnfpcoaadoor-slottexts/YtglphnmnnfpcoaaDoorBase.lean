/-
  Bytes and slots as values and as cells; arrays in blocks of their own and in the midst of a row; what is left as it was.
-/
import Derived.Test.YtglphnmnnfpcoaaDoorShelf
import Derived.Test.YtglphnmnnfpcoaaDoorArr
import Derived.WalkKit
import Derived.BigCall
import Derived.WalkSpells
import Derived.WalkLawsBesides
import Derived.Lib.OthersKept
import Derived.Lib.AppendStr
import Derived.Lib.BufferRead
import Derived.OpenShut
import Derived.DeepKeys
namespace Go.Proofs.YtglphnmnnfpcoaaDoor
open Go.RowKit

theorem hide {p : Prop} (h : p) : Hid p := h
theorem unhide {p : Prop} (h : Hid p) : p := h

def bytesV (l : List UInt8) : List Value := l.map fun c => .int .u8 ((c.toNat : Nat) : Int)
theorem bytesV_length (l : List UInt8) : (bytesV l).length = l.length := by simp [bytesV]
theorem bytesV_get (l : List UInt8) {i : Nat} (h : i < l.length) : (bytesV l)[i]? = some (.int .u8 (((l.getD i 0).toNat : Nat) : Int)) := by
  rw [bytesV, List.getElem?_map, List.getD_eq_getElem?_getD, List.getElem?_eq_getElem h]; rfl
theorem bytesV_set (l : List UInt8) (i : Nat) (c : UInt8) : (bytesV l).set i (.int .u8 ((c.toNat : Nat) : Int)) = bytesV (l.set i c) := by
  rw [bytesV, bytesV, List.map_set]
theorem bytesV_one (l : List UInt8) : ∀ v ∈ bytesV l, v.oneCell' = true := by
  intro v hv
  obtain ⟨c, _, rfl⟩ := List.mem_map.1 hv
  rfl
theorem bytesV_app (a b : List UInt8) : bytesV (a ++ b) = bytesV a ++ bytesV b := by simp [bytesV]

theorem setCells_mid (b : Nat) : ∀ (vs : List Value) (o : Nat) (w : World) (pre cs post : List Value), pre.length = o → cs.length = vs.length → Arr w b (pre ++ (cs ++ post)) → Arr (w.setCells b o vs) b (pre ++ (vs ++ post))
  | [], o, w, pre, cs, post, hp, hl, h => by
    obtain rfl : cs = [] := List.eq_nil_of_length_eq_zero (by simpa using hl)
    exact h
  | v :: vs, o, w, pre, [], post, hp, hl, h => by simp at hl
  | v :: vs, o, w, pre, c :: cs, post, hp, hl, h => by
    show Arr ((w.setCell ⟨b, o, none⟩ v).setCells b (o + 1) vs) b (pre ++ (v :: vs ++ post))
    have h1 := h.set o v
    have e : (pre ++ (c :: cs ++ post)).set o v = (pre ++ [v]) ++ (cs ++ post) := by
      rw [List.set_append_right o v (by omega), hp, Nat.sub_self]
      simp
    rw [e] at h1
    have := setCells_mid b vs (o + 1) _ (pre ++ [v]) cs post (by simp [hp]) (by simpa using hl) h1
    simpa using this
theorem Arr.mid {w : World} {b : Nat} {cs : List Value} (h : Arr w b cs) (o : Nat) (vs : List Value) (hl : o + vs.length ≤ cs.length) : Arr (w.setCells b o vs) b (cs.take o ++ (vs ++ cs.drop (o + vs.length))) := by
  refine setCells_mid b vs o w _ ((cs.drop o).take vs.length) _ (by simp; omega) (by simp; omega) ?_
  rw [← List.drop_drop, List.take_append_drop, List.take_append_drop]
  exact h
theorem Arr.rangeMid {w : World} {b : Nat} {cs : List Value} (h : Arr w b cs) (o : Nat) (vs : List Value) (hr : ∀ j v, vs[j]? = some v → cs[o + j]? = some v) : w.rangeAt b o vs := fun j v hj => h.cell (hr j v hj)
theorem Arr.thereMid {w : World} {b : Nat} {cs : List Value} (h : Arr w b cs) (o n : Nat) (hn : o + n ≤ cs.length) : w.there b o n := fun j hj => by
  rw [h.cell (List.getElem?_eq_getElem (by omega))]
  exact ⟨rfl, h.free _⟩
section
variable {P : Program} {ops : Array Oper} {rest : List Oper} {a : Act} {w : World} {Q : Exit → Act → World → Prop}

/-- A literal. -/
theorem wpList_build {o : Oper} (t : TypeId) (parts : Array (Nat × Operand)) (cs : List Value) (ps : List (Nat × Value)) (ho : o.op = .build t parts) (hg : o.guard = none)
    (hp : (parts.toList.map fun p => (p.1, a.eval p.2)) = ps) (hb : P.built t ps = some cs.toArray) (h : wpList P ops Q rest (a.put o.dst (.agg cs.toArray)) w) : wpList P ops Q (o :: rest) a w := by
  refine wpList_plain hg fun K hK => ?_
  have r1 : (execOp a.eval o).run P w = .ok (.value (.agg cs.toArray)) w := by
    have hb' : P.built t (parts.map fun (i, x) => (i, a.eval x)).toList = some cs.toArray := by
      rw [Array.toList_map, ← hb, ← hp]
    unfold execOp
    simp only [ho, Sem.run_bind, run_build w t _ _ hb', Result.andThen, Sem.run_pure]
  unfold Oper.wp
  rw [r1, Oper.upon_value]
  exact hK _ _ h
/-- A value that is an array or a struct, laid into a block of its own. -/
theorem wpList_box {o : Oper} (t : TypeId) (x : Operand) (cs : List Value) (ho : o.op = .box t x) (hg : o.guard = none) (hx : a.eval x = .agg cs.toArray)
    (h : ∀ w', Arr w' w.heap.size cs → Below w.heap.size w w' → w'.heap.size = w.heap.size + 1 → wpList P ops Q rest (a.put o.dst (.pointer (some ⟨w.heap.size, 0, none⟩))) w') :
    wpList P ops Q (o :: rest) a w := by
  refine wpList_plain hg fun K hK => ?_
  have r : (execOp a.eval o).run P w = .ok (.value (.pointer (some ⟨w.heap.size, 0, none⟩))) (w.alloc (.cells cs.toArray t)) := by
    unfold execOp
    simp only [ho, hx]
    rfl
  unfold Oper.wp
  rw [r, Oper.upon_value]
  exact hK _ _ (h _ ⟨cs.toArray, t, heap_alloc_new w _, rfl⟩ ((Below.refl _ _).alloc (Nat.le_refl _) _) (by simp))
/-- A variable made: noughts. -/
theorem wpList_alloc {o : Oper} (t e : TypeId) (zs : List Value) (ho : o.op = .alloc t) (hg : o.guard = none)
    (hal : ∀ w : World, (Instr.alloc t true (.tuple #[])).run P w = .ok (.pointer (some ⟨w.heap.size, 0, none⟩)) (w.alloc (.cells zs.toArray e)))
    (h : ∀ w', Arr w' w.heap.size zs → Below w.heap.size w w' → w'.heap.size = w.heap.size + 1 → wpList P ops Q rest (a.put o.dst (.pointer (some ⟨w.heap.size, 0, none⟩))) w') :
    wpList P ops Q (o :: rest) a w := by
  refine wpList_plain hg fun K hK => ?_
  have r : (execOp a.eval o).run P w = .ok (.value (.pointer (some ⟨w.heap.size, 0, none⟩))) (w.alloc (.cells zs.toArray e)) := by
    unfold execOp
    simp only [ho, Sem.run_bind, hal w, Result.andThen, Sem.run_pure]
  unfold Oper.wp
  rw [r, Oper.upon_value]
  exact hK _ _ (h _ ⟨zs.toArray, e, heap_alloc_new w _, rfl⟩ ((Below.refl _ _).alloc (Nat.le_refl _) _) (by simp))
/-- An array in a block of its own read whole. -/
theorem wpList_loadAll {o : Oper} (t : TypeId) (x : Operand) (b : Nat) (cs : List Value) (td : TypeDesc) (ho : o.op = .load t x) (hg : o.guard = none) (hx : a.eval x = .pointer (some ⟨b, 0, none⟩))
    (hA : Arr w b cs) (hu : P.underlying t = some td) (hd : td.isRow = true) (hi : (P.info? t).map (·.size) = some cs.length)
    (h : wpList P ops Q rest (a.put o.dst (.agg cs.toArray)) w) : wpList P ops Q (o :: rest) a w :=
  wpList_load_mid hg t x ho b 0 hx cs td hA.range hu hd hi h
/-- An array laid whole into a block of its own. -/
theorem wpList_storeAll {o : Oper} (t : TypeId) (x y : Operand) (b : Nat) (cs ds : List Value) (ho : o.op = .store t x y) (hg : o.guard = none) (hx : a.eval x = .pointer (some ⟨b, 0, none⟩)) (hy : a.eval y = .agg cs.toArray)
    (hA : Arr w b ds) (hl : ds.length = cs.length) (hi : (P.info? t).map (·.size) = some cs.length) (hone : ∀ v ∈ cs, v.oneCell' = true)
    (h : ∀ w', Arr w' b cs → w.grownBy w' (some b) → w'.heap.size = w.heap.size → wpList P ops Q rest (a.put o.dst undef) w') : wpList P ops Q (o :: rest) a w := by
  refine wpList_store_mid hg t x y ho b 0 cs.toArray hx hy ?_ ?_ (all_oneCell_toArray hone) ?_
  · have := hA.there
    rw [hl] at this
    simpa using this
  · simpa using hi
  · exact h _ (hA.sets cs hl) (setCells_grown _ _ _ _) (by rw [setCells_size])
/-- A result that is an array in a block of its own. -/
theorem results_arr {fn : Func} {p : Tmp} {ty : TypeId} {tmps : Array Value} {g : Nat} {cs : List Value} {td : TypeDesc} (h : fn.results = #[.cell p ty]) (hp : tmps.getD p undef = .pointer (some ⟨g, 0, none⟩)) (hA : Arr w g cs)
    (hu : P.underlying ty = some td) (hd : td.isRow = true) (hi : (P.info? ty).map (·.size) = some cs.length) : (results fn tmps).run P w = .ok (.agg cs.toArray) w := by
  have hl := run_loadVar_mid (P := P) w g 0 ty cs td hA.range hu hd hi
  have hp' : tmps[p]?.getD undef = .pointer (some ⟨g, 0, none⟩) := by simpa using hp
  simp [results, h, hp', asAddr, hl]
/-- Such a result and one more. -/
theorem results_two {fn : Func} {p q : Tmp} {ty : TypeId} {tmps : Array Value} {g : Nat} {cs : List Value} {td : TypeDesc} {v : Value} (h : fn.results = #[.cell p ty, .tmp q]) (hp : tmps.getD p undef = .pointer (some ⟨g, 0, none⟩)) (hq : tmps.getD q undef = v) (hA : Arr w g cs)
    (hu : P.underlying ty = some td) (hd : td.isRow = true) (hi : (P.info? ty).map (·.size) = some cs.length) : (results fn tmps).run P w = .ok (.tuple #[.agg cs.toArray, v]) w := by
  have hl := run_loadVar_mid (P := P) w g 0 ty cs td hA.range hu hd hi
  have hp' : tmps[p]?.getD undef = .pointer (some ⟨g, 0, none⟩) := by simpa using hp
  have hq' : tmps[q]?.getD undef = v := by simpa using hq
  simp [results, h, hp', hq', asAddr, hl]
end

theorem infoOf {t : TypeId} {z : Value} {n b : Nat} (h : (Tryd.prog.info? t).map (fun i => (i.zero, i.size, i.bytes)) = some (some z, n, b)) : ∃ i, Tryd.prog.info? t = some i ∧ i.zero = some z ∧ i.size = n ∧ i.bytes = b := by
  cases hi : Tryd.prog.info? t with
  | none => rw [hi] at h; simp at h
  | some i =>
    rw [hi] at h
    simp only [Option.map_some, Option.some.injEq, Prod.mk.injEq] at h
    exact ⟨i, rfl, h⟩
theorem full3 : ∃ i, Tryd.prog.info? 3 = some i ∧ i.zero = some (.int .i64 0) ∧ i.size = 1 ∧ i.bytes = 8 := infoOf (by kernel_rfl)
theorem full5 : ∃ i, Tryd.prog.info? 5 = some i ∧ i.zero = some (.int .u8 0) ∧ i.size = 1 ∧ i.bytes = 1 := infoOf (by kernel_rfl)
