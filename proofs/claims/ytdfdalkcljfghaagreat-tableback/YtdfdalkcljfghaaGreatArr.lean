/-
  Arrays in blocks of their own: made, read and written element by element, and copied whole. Plain facts over any program.
-/
import Derived.WalkKit
import Derived.Deep.MidRow
namespace Go.Proofs.YtdfdalkcljfghaaGreat
open Go.RowKit

/-- Block b holds just these cells, none of them frozen. -/
def Arr (w : World) (b : Nat) (cs : List Value) : Prop := ∃ C e, w.heap[b]? = some (.cells C e (0, 0)) ∧ C.toList = cs

theorem Arr.lt {w : World} {b : Nat} {cs : List Value} (h : Arr w b cs) : b < w.heap.size := by
  obtain ⟨C, e, hb, _⟩ := h
  exact (Array.getElem?_eq_some_iff.1 hb).1

theorem Arr.cell {w : World} {b : Nat} {cs : List Value} (h : Arr w b cs) {i : Nat} {v : Value} (hi : cs[i]? = some v) : w.cell? ⟨b, i, none⟩ = some v := by
  obtain ⟨C, e, hb, rfl⟩ := h
  rw [cell_of_row w b i C e _ hb, ← hi, Array.getElem?_toList]

theorem Arr.free {w : World} {b : Nat} {cs : List Value} (h : Arr w b cs) (i : Nat) : w.frozen? ⟨b, i, none⟩ = false := by
  obtain ⟨C, e, hb, _⟩ := h
  exact frozen_of_row w b i C e hb

theorem Arr.set {w : World} {b : Nat} {cs : List Value} (h : Arr w b cs) (i : Nat) (v : Value) : Arr (w.setCell ⟨b, i, none⟩ v) b (cs.set i v) := by
  obtain ⟨C, e, hb, rfl⟩ := h
  exact ⟨_, e, heap_setCell_same w b i C e v hb, Array.toList_setIfInBounds⟩

theorem Arr.other {w : World} {b : Nat} {cs : List Value} (h : Arr w b cs) (a : Addr) (v : Value) (hne : b ≠ a.block) : Arr (w.setCell a v) b cs := by
  obtain ⟨C, e, hb, hc⟩ := h
  exact ⟨C, e, by rw [Below.heap_setCell _ _ _ _ hne]; exact hb, hc⟩

theorem Arr.alloc {w : World} {b : Nat} {cs : List Value} (h : Arr w b cs) (o : Obj) : Arr (w.alloc o) b cs := by
  have hlt := h.lt
  obtain ⟨C, e, hb, hc⟩ := h
  exact ⟨C, e, by rw [Below.heap_alloc _ _ _ hlt]; exact hb, hc⟩

theorem Arr.drew {w : World} {b : Nat} {cs : List Value} (h : Arr w b cs) : Arr w.drew b cs := h

theorem Arr.grown {w w' : World} {b : Nat} {cs : List Value} {row : Option Nat} (h : Arr w b cs) (hg : w.grownBy w' row) (hne : some b ≠ row) : Arr w' b cs := by
  have hlt := h.lt
  obtain ⟨C, e, hb, hc⟩ := h
  exact ⟨C, e, by rw [hg.block b hlt hne]; exact hb, hc⟩

theorem Arr.below {w w' : World} {b : Nat} {cs : List Value} (h : Arr w b cs) (hb : Below w.heap.size w w') : Arr w' b cs := by
  have hlt := h.lt
  obtain ⟨C, e, hh, hc⟩ := h
  exact ⟨C, e, by rw [hb.block b hlt]; exact hh, hc⟩

theorem Arr.keep {w w' : World} {b B : Nat} {cs : List Value} (h : Arr w b cs) (hb : Below B w w') (hlt : b < B) : Arr w' b cs := by
  obtain ⟨C, e, hh, hc⟩ := h
  exact ⟨C, e, by rw [hb.block b hlt]; exact hh, hc⟩

theorem Arr.range {w : World} {b : Nat} {cs : List Value} (h : Arr w b cs) : w.rangeAt b 0 cs := fun j v hj => by
  rw [Nat.zero_add]; exact h.cell hj

theorem Arr.there {w : World} {b : Nat} {cs : List Value} (h : Arr w b cs) : w.there b 0 cs.length := fun j hj => by
  rw [Nat.zero_add, h.cell (List.getElem?_eq_getElem hj)]
  exact ⟨rfl, h.free j⟩

theorem setCells_size (b : Nat) : ∀ (vs : List Value) (o : Nat) (w : World), (w.setCells b o vs).heap.size = w.heap.size
  | [], _, _ => rfl
  | v :: vs, o, w => by
    show ((w.setCell ⟨b, o, none⟩ v).setCells b (o + 1) vs).heap.size = _
    rw [setCells_size b vs]
    simp [World.setCell]

theorem setCells_grown (b : Nat) : ∀ (vs : List Value) (o : Nat) (w : World), w.grownBy (w.setCells b o vs) (some b)
  | [], _, w => ⟨rfl, rfl, rfl, Nat.le_refl _, fun _ _ _ => rfl⟩
  | v :: vs, o, w => by
    have h := setCells_grown b vs (o + 1) (w.setCell ⟨b, o, none⟩ v)
    refine ⟨h.os, h.tape, h.output, ?_, fun k hk hne => ?_⟩
    · have := h.size
      simp [World.setCell] at this
      exact this
    · have h1 := h.block k (by simp [World.setCell]; exact hk) hne
      have hkb : k ≠ b := fun e => hne (by rw [e])
      rw [Below.heap_setCell _ _ _ _ hkb] at h1
      exact h1

theorem setCells_arr (b : Nat) : ∀ (vs : List Value) (o : Nat) (w : World) (pre cs : List Value), pre.length = o → cs.length = vs.length → Arr w b (pre ++ cs) → Arr (w.setCells b o vs) b (pre ++ vs)
  | [], o, w, pre, cs, hp, hl, h => by
    obtain rfl : cs = [] := List.eq_nil_of_length_eq_zero (by simpa using hl)
    exact h
  | v :: vs, o, w, pre, [], hp, hl, h => by simp at hl
  | v :: vs, o, w, pre, c :: cs, hp, hl, h => by
    show Arr ((w.setCell ⟨b, o, none⟩ v).setCells b (o + 1) vs) b (pre ++ v :: vs)
    have h1 := h.set o v
    have e : (pre ++ c :: cs).set o v = (pre ++ [v]) ++ cs := by
      rw [List.set_append_right o v (by omega), hp, Nat.sub_self]
      simp
    rw [e] at h1
    have := setCells_arr b vs (o + 1) _ (pre ++ [v]) cs (by simp [hp]) (by simpa using hl) h1
    simpa using this

theorem Arr.sets {w : World} {b : Nat} {cs : List Value} (h : Arr w b cs) (vs : List Value) (hl : cs.length = vs.length) : Arr (w.setCells b 0 vs) b vs :=
  setCells_arr b vs 0 w [] cs rfl hl h

section
variable {P : Program} {ops : Array Oper} {rest : List Oper} {a : Act} {w : World} {Q : Exit → Act → World → Prop}

/-- 'x := [n]T{..}': a literal built, a variable made, the literal laid into it. -/
theorem wpList_newArray {o1 o2 o3 : Oper} (t : TypeId) (parts : Array (Nat × Operand)) (cs zs : List Value) (e d1 d2 : Nat)
    (h1 : o1.op = .build t parts) (h2 : o2.op = .alloc t) (h3 : o3.op = .store t (.tmp d2) (.tmp d1)) (g1 : o1.guard = none) (g2 : o2.guard = none) (g3 : o3.guard = none)
    (e1 : o1.dst = some d1) (e2 : o2.dst = some d2) (hne : d1 ≠ d2) (s1 : d1 < a.tmps.size) (s2 : d2 < a.tmps.size)
    (ps : List (Nat × Value)) (hp : (parts.toList.map fun p => (p.1, a.eval p.2)) = ps) (hb : P.built t ps = some cs.toArray)
    (hal : ∀ w : World, (Instr.alloc t true (.tuple #[])).run P w = .ok (.pointer (some ⟨w.heap.size, 0, none⟩)) (w.alloc (.cells zs.toArray e)))
    (hi : (P.info? t).map (·.size) = some cs.length) (hone : ∀ v ∈ cs, v.oneCell' = true) (hz : zs.length = cs.length)
    (h : ∀ w', Arr w' w.heap.size cs → Below w.heap.size w w' → w'.heap.size = w.heap.size + 1 →
      wpList P ops Q rest (((a.put (some d1) (.agg cs.toArray)).put (some d2) (.pointer (some ⟨w.heap.size, 0, none⟩))).put o3.dst undef) w') :
    wpList P ops Q (o1 :: o2 :: o3 :: rest) a w := by
  refine wpList_plain g1 fun K hK => ?_
  have r1 : (execOp a.eval o1).run P w = .ok (.value (.agg cs.toArray)) w := by
    have hb' : P.built t (parts.map fun (i, x) => (i, a.eval x)).toList = some cs.toArray := by
      rw [Array.toList_map, ← hb, ← hp]
    unfold execOp
    simp only [h1, Sem.run_bind, run_build w t _ _ hb', Result.andThen, Sem.run_pure]
  unfold Oper.wp
  rw [r1, Oper.upon_value, e1]
  refine hK _ _ (wpList_plain g2 fun K2 hK2 => ?_)
  have r2 : (execOp (a.put (some d1) (.agg cs.toArray)).eval o2).run P w = .ok (.value (.pointer (some ⟨w.heap.size, 0, none⟩))) (w.alloc (.cells zs.toArray e)) := by
    unfold execOp
    simp only [h2, Sem.run_bind, hal w, Result.andThen, Sem.run_pure]
  unfold Oper.wp
  rw [r2, Oper.upon_value, e2]
  have harr : Arr (w.alloc (.cells zs.toArray e)) w.heap.size zs := ⟨zs.toArray, e, heap_alloc_new w _, rfl⟩
  refine hK2 _ _ (wpList_store_mid g3 t (.tmp d2) (.tmp d1) h3 w.heap.size 0 cs.toArray ?_ ?_ ?_ ?_ (all_oneCell_toArray hone) ?_)
  · simp [Act.eval, Act.put, s2]
  · simp [Act.eval, Act.put, s1, Ne.symm hne]
  · have := harr.there
    rw [hz] at this
    simpa using this
  · simpa using hi
  · refine h _ (harr.sets cs hz) ?_ ?_
    · exact ((Below.refl _ _).alloc (Nat.le_refl _) _).grown (setCells_grown _ _ _ _) (by simp) (fun k hk => by simp at hk; omega)
    · rw [setCells_size]; simp

/-- 'x = y', both arrays in blocks of their own. -/
theorem wpList_copyArray {o1 o2 : Oper} (t : TypeId) (x y : Operand) (cs ds : List Value) (b1 b2 d1 : Nat) (td : TypeDesc)
    (h1 : o1.op = .load t x) (h2 : o2.op = .store t y (.tmp d1)) (g1 : o1.guard = none) (g2 : o2.guard = none) (e1 : o1.dst = some d1) (hy : y ≠ .tmp d1) (s1 : d1 < a.tmps.size)
    (hx : a.eval x = .pointer (some ⟨b1, 0, none⟩)) (hy' : a.eval y = .pointer (some ⟨b2, 0, none⟩)) (hA : Arr w b1 cs) (hB : Arr w b2 ds) (hl : ds.length = cs.length)
    (hu : P.underlying t = some td) (hd : td.isRow = true) (hi : (P.info? t).map (·.size) = some cs.length) (hone : ∀ v ∈ cs, v.oneCell' = true)
    (h : ∀ w', Arr w' b2 cs → w.grownBy w' (some b2) → w'.heap.size = w.heap.size → wpList P ops Q rest ((a.put (some d1) (.agg cs.toArray)).put o2.dst undef) w') :
    wpList P ops Q (o1 :: o2 :: rest) a w := by
  refine wpList_load_mid g1 t x h1 b1 0 hx cs td hA.range hu hd hi ?_
  rw [e1]
  refine wpList_store_mid g2 t y (.tmp d1) h2 b2 0 cs.toArray ?_ ?_ ?_ ?_ (all_oneCell_toArray hone) ?_
  · rw [Act.eval_put (fun d e => by cases e; exact hy)]
    exact hy'
  · simp [Act.eval, Act.put, s1]
  · have := hB.there
    rw [hl] at this
    simpa using this
  · simpa using hi
  · exact h _ (hB.sets cs hl) (setCells_grown _ _ _ _) (by rw [setCells_size])
end

end Go.Proofs.YtdfdalkcljfghaaGreat
