/-
  Arguments, opened: slots, tables, slices of changes, of bytes; two numbers; things to do.
-/
import Derived.Test.YtdfdalkcljfghaaGreatKit
import Derived.Test.YtdfdalkcljfghaaGreatTApply
import Derived.Deep.Slices
namespace Go.Proofs.YtdfdalkcljfghaaGreat.Slot
open Go.ChangeShapes Go.WideShapes Go.ChangeAt Go.RowKit

theorem okWide_struct {P : Program} {w : World} {r : Reach} {base : Nat} {t : TypeId} {fs : Array Field} {v : Value} (ht : P.underlying t = some (.struct fs)) (h : Value.okWide P w r base t v) : ∃ cs : Array Value, v = .agg cs ∧ cs.size = P.cellsOf t := by
  simp only [Value.okWide, ht] at h
  obtain ⟨cs, h1, h2, _⟩ := h
  exact ⟨cs, h1, h2⟩
theorem okWide_array {P : Program} {w : World} {r : Reach} {base : Nat} {t e : TypeId} {n : Nat} {v : Value} (ht : P.underlying t = some (.array n e)) (h : Value.okWide P w r base t v) : ∃ cs : Array Value, v = .agg cs ∧ cs.size = P.cellsOf t := by
  simp only [Value.okWide, ht] at h
  obtain ⟨cs, h1, h2, _⟩ := h
  exact ⟨cs, h1, h2⟩
theorem cells3 : Tryz.prog.cellsOf 3 = 1 := by kernel_rfl
theorem cells5 : Tryz.prog.cellsOf 5 = 1 := by kernel_rfl
theorem cells30 : Tryz.prog.cellsOf 30 = 1 := by kernel_rfl
theorem cells32 : Tryz.prog.cellsOf 32 = 32 := by kernel_rfl
theorem cells34 : Tryz.prog.cellsOf 34 = 36 := by kernel_rfl
theorem cells35 : Tryz.prog.cellsOf 35 = 72 := by kernel_rfl
theorem cells37 : Tryz.prog.cellsOf 37 = 75 := by kernel_rfl
theorem cells41 : Tryz.prog.cellsOf 41 = 40 := by kernel_rfl
theorem cells29 : Tryz.prog.cellsOf 29 = 2 := by kernel_rfl
section
variable {H : Type} {enc : TypeId × Value → H} {W : World}
set_option maxRecDepth 100000 in
theorem slot_cells {m : Nat} {l : List Value} {x : DataW H × List MemPlace} (hl : l.length = 36) (h : DataW.trod enc Tryz.prog W 0 (fun _ => true) true m 34 l = some x) : ∃ s : S, Fit s ∧ l = s.cs := by
  obtain ⟨xs, k, hk, hxy, _, hxl, hel⟩ := DataW.trod_struct Tryz.underlying34 h
  match xs, hxl, l, hl with
  | [y0, y1, y2, y3, y4], _, v0 :: v1 :: v2 :: v3 :: r, hl =>
    have hr : r.length = 32 := by simp at hl; omega
    have g0 : DataW.trod enc Tryz.prog W 0 (fun _ => true) true k 3 (List.take (Tryz.prog.cellsOf 3) (List.drop 0 (v0 :: v1 :: v2 :: v3 :: r))) = some y0 := hel 0 _ rfl
    have g1 : DataW.trod enc Tryz.prog W 0 (fun _ => true) true k 3 (List.take (Tryz.prog.cellsOf 3) (List.drop 1 (v0 :: v1 :: v2 :: v3 :: r))) = some y1 := hel 1 _ rfl
    have g2 : DataW.trod enc Tryz.prog W 0 (fun _ => true) true k 30 (List.take (Tryz.prog.cellsOf 30) (List.drop 2 (v0 :: v1 :: v2 :: v3 :: r))) = some y2 := hel 2 _ rfl
    have g3 : DataW.trod enc Tryz.prog W 0 (fun _ => true) true k 3 (List.take (Tryz.prog.cellsOf 3) (List.drop 3 (v0 :: v1 :: v2 :: v3 :: r))) = some y3 := hel 3 _ rfl
    have g4 : DataW.trod enc Tryz.prog W 0 (fun _ => true) true k 32 (List.take (Tryz.prog.cellsOf 32) (List.drop 4 (v0 :: v1 :: v2 :: v3 :: r))) = some y4 := hel 4 _ rfl
    rw [cells3] at g0 g1 g3
    rw [cells30] at g2
    rw [cells32] at g4
    simp only [List.drop_zero, List.take_succ_cons, List.take_zero, List.drop_succ_cons] at g0 g1 g2 g3 g4
    rw [List.take_of_length_le (by omega)] at g4
    obtain ⟨n0, e0, _, q0⟩ := DataW.trod_int Tryz.underlying3 g0
    obtain ⟨n1, e1, _, q1⟩ := DataW.trod_int Tryz.underlying3 g1
    obtain ⟨n2, e2, _, q2⟩ := DataW.trod_int Tryz.underlying30 g2
    obtain ⟨n3, e3, _, q3⟩ := DataW.trod_int Tryz.underlying3 g3
    obtain ⟨xs4, m, _, _, _, hxl4, hel4⟩ := DataW.trod_array Tryz.underlying32 g4
    rw [cells5] at hel4
    have hcell : ∀ i, i < 32 → ∃ c : UInt8, r[i]? = some (.int .u8 ((c.toNat : Nat) : Int)) := fun i hi => by
      have h0 := hel4 i hi
      rw [List.getElem?_eq_getElem (by omega)] at h0
      obtain ⟨z, e1, _, e3⟩ := DataW.trod_int Tryz.underlying5 h0
      have hb := wf_u8 e3
      refine ⟨UInt8.ofNat z.toNat, ?_⟩
      rw [byte_back _ hb.1 hb.2]
      have := congrArg (·[0]?) e1
      simpa [List.getElem?_take, List.getElem?_drop] using this
    simp only [List.cons.injEq, and_true] at e0 e1 e2 e3
    subst e0 e1 e2 e3
    obtain ⟨u2, rfl, hu2⟩ := wf_u64 q2
    have w0 := wf_i64 q0
    have w1 := wf_i64 q1
    have w3 := wf_i64 q3
    have hb : ∃ dg : List UInt8, dg.length = 32 ∧ r = bytesV dg := by
      refine ⟨(List.range 32).map fun i => UInt8.ofNat (intOf (r.getD i undef)).toNat, by simp, ?_⟩
      apply List.ext_getElem?
      intro i
      by_cases hi : i < 32
      · obtain ⟨c, hc⟩ := hcell i hi
        have e2 : r.getD i undef = .int .u8 ((c.toNat : Nat) : Int) := by rw [List.getD_eq_getElem?_getD, hc]; rfl
        have e : (bytesV ((List.range 32).map fun i => UInt8.ofNat (intOf (r.getD i undef)).toNat))[i]? = some (.int .u8 (((UInt8.ofNat (intOf (r.getD i undef)).toNat).toNat : Nat) : Int)) := by
          rw [bytesV, List.getElem?_map, List.getElem?_map, List.getElem?_range hi]
          rfl
        rw [hc, e, e2]
        have hc256 := c.toNat_lt
        simp [intOf]
      · rw [List.getElem?_eq_none (by omega), List.getElem?_eq_none (by simp [bytesV]; omega)]
    obtain ⟨dg, hd, rfl⟩ := hb
    exact ⟨⟨n0, n1, u2, n3, dg⟩, ⟨w0.1, w0.2, w1.1, w1.2, hu2, w3.1, w3.2, hd⟩, rfl⟩

set_option maxRecDepth 100000 in
theorem table_cells {m : Nat} {l : List Value} {x : DataW H × List MemPlace} (hl : l.length = 75) (h : DataW.trod enc Tryz.prog W 0 (fun _ => true) true m 37 l = some x) : ∃ t : T, FitT t ∧ l = t.cs := by
  obtain ⟨xs, k, hk, hxy, _, hxl, hel⟩ := DataW.trod_struct Tryz.underlying37 h
  match xs, hxl with
  | [y0, y1, y2, y3], _ =>
    have g0 : DataW.trod enc Tryz.prog W 0 (fun _ => true) true k 35 (List.take (Tryz.prog.cellsOf 35) (List.drop 0 l)) = some y0 := hel 0 _ rfl
    have g1 : DataW.trod enc Tryz.prog W 0 (fun _ => true) true k 3 (List.take (Tryz.prog.cellsOf 3) (List.drop 72 l)) = some y1 := hel 1 _ rfl
    have g2 : DataW.trod enc Tryz.prog W 0 (fun _ => true) true k 3 (List.take (Tryz.prog.cellsOf 3) (List.drop 73 l)) = some y2 := hel 2 _ rfl
    have g3 : DataW.trod enc Tryz.prog W 0 (fun _ => true) true k 30 (List.take (Tryz.prog.cellsOf 30) (List.drop 74 l)) = some y3 := hel 3 _ rfl
    rw [cells35] at g0
    rw [cells3] at g1 g2
    rw [cells30] at g3
    obtain ⟨n1, e1, _, q1⟩ := DataW.trod_int Tryz.underlying3 g1
    obtain ⟨n2, e2, _, q2⟩ := DataW.trod_int Tryz.underlying3 g2
    obtain ⟨n3, e3, _, q3⟩ := DataW.trod_int Tryz.underlying30 g3
    obtain ⟨xs4, m2, _, _, _, hxl4, hel4⟩ := DataW.trod_array Tryz.underlying35 g0
    rw [cells34] at hel4
    have h0 := hel4 0 (by decide)
    have h1 := hel4 1 (by decide)
    obtain ⟨x0, hx0⟩ : ∃ x, xs4[0]? = some x := ⟨xs4[0]'(by omega), List.getElem?_eq_getElem _⟩
    obtain ⟨x1, hx1⟩ : ∃ x, xs4[1]? = some x := ⟨xs4[1]'(by omega), List.getElem?_eq_getElem _⟩
    rw [hx0] at h0
    rw [hx1] at h1
    obtain ⟨s0, f0, c0⟩ := slot_cells (by simp [hl]) h0
    obtain ⟨s1, f1, c1⟩ := slot_cells (by simp [hl]) h1
    obtain ⟨u3, rfl, hu3⟩ := wf_u64 q3
    have w1 := wf_i64 q1
    have w2 := wf_i64 q2
    refine ⟨⟨s0, s1, n1, n2, u3⟩, ⟨f0, f1, w1.1, w1.2, w2.1, w2.2, hu3⟩, ?_⟩
    have p0 : ((List.take 72 (List.drop 0 l)).drop (0 * 36)).take 36 = s0.cs := c0
    have p1 : ((List.take 72 (List.drop 0 l)).drop (1 * 36)).take 36 = s1.cs := c1
    have l0 := cs_length f0.dg
    have l1 := cs_length f1.dg
    show l = s0.cs ++ (s1.cs ++ [_, _, _])
    have a1 : l = l.take 36 ++ ((l.drop 36).take 36 ++ ((l.drop 72).take 1 ++ ((l.drop 73).take 1 ++ (l.drop 74).take 1))) := by
      have b3 : (l.drop 74).take 1 = l.drop 74 := List.take_of_length_le (by simp [hl])
      have b2 : (l.drop 73).take 1 ++ (l.drop 74) = l.drop 73 := by
        have := List.take_append_drop 1 (l.drop 73)
        rwa [List.drop_drop] at this
      have b1 : (l.drop 72).take 1 ++ (l.drop 73) = l.drop 72 := by
        have := List.take_append_drop 1 (l.drop 72)
        rwa [List.drop_drop] at this
      have b0 : (l.drop 36).take 36 ++ (l.drop 72) = l.drop 36 := by
        have := List.take_append_drop 36 (l.drop 36)
        rwa [List.drop_drop] at this
      rw [b3, b2, b1, b0, List.take_append_drop]
    have r0 : l.take 36 = s0.cs := by
      rw [← p0]
      simp [List.take_take]
    have r1 : (l.drop 36).take 36 = s1.cs := by
      rw [← p1, List.drop_zero, Nat.one_mul, List.drop_take, List.take_take]
      rfl
    rw [a1, r0, r1, e1, e2, e3]
    rfl
set_option maxRecDepth 100000 in
theorem change_cells {m : Nat} {l : List Value} {x : DataW H × List MemPlace} (hl : l.length = 40) (h : DataW.trod enc Tryz.prog W 0 (fun _ => true) true m 41 l = some x) : ∃ c : C, FitC c ∧ l = c.cs := by
  obtain ⟨xs, k, hk, hxy, _, hxl, hel⟩ := DataW.trod_struct Tryz.underlying41 h
  match xs, hxl with
  | [y0, y1, y2, y3, y4], _ =>
    have g0 : DataW.trod enc Tryz.prog W 0 (fun _ => true) true k 3 (List.take (Tryz.prog.cellsOf 3) (List.drop 0 l)) = some y0 := hel 0 _ rfl
    have g1 : DataW.trod enc Tryz.prog W 0 (fun _ => true) true k 3 (List.take (Tryz.prog.cellsOf 3) (List.drop 1 l)) = some y1 := hel 1 _ rfl
    have g2 : DataW.trod enc Tryz.prog W 0 (fun _ => true) true k 3 (List.take (Tryz.prog.cellsOf 3) (List.drop 2 l)) = some y2 := hel 2 _ rfl
    have g3 : DataW.trod enc Tryz.prog W 0 (fun _ => true) true k 34 (List.take (Tryz.prog.cellsOf 34) (List.drop 3 l)) = some y3 := hel 3 _ rfl
    have g4 : DataW.trod enc Tryz.prog W 0 (fun _ => true) true k 30 (List.take (Tryz.prog.cellsOf 30) (List.drop 39 l)) = some y4 := hel 4 _ rfl
    rw [cells3] at g0 g1 g2
    rw [cells34] at g3
    rw [cells30] at g4
    obtain ⟨n0, e0, _, q0⟩ := DataW.trod_int Tryz.underlying3 g0
    obtain ⟨n1, e1, _, q1⟩ := DataW.trod_int Tryz.underlying3 g1
    obtain ⟨n2, e2, _, q2⟩ := DataW.trod_int Tryz.underlying3 g2
    obtain ⟨n4, e4, _, q4⟩ := DataW.trod_int Tryz.underlying30 g4
    obtain ⟨s, f, c⟩ := slot_cells (by simp [hl]) g3
    obtain ⟨u4, rfl, hu4⟩ := wf_u64 q4
    have w0 := wf_i64 q0
    have w1 := wf_i64 q1
    have w2 := wf_i64 q2
    refine ⟨⟨n0, n1, n2, s, u4⟩, ⟨w0.1, w0.2, w1.1, w1.2, w2.1, w2.2, f, hu4⟩, ?_⟩
    have a1 : l = l.take 1 ++ ((l.drop 1).take 1 ++ ((l.drop 2).take 1 ++ ((l.drop 3).take 36 ++ (l.drop 39).take 1))) := by
      have b3 : (l.drop 39).take 1 = l.drop 39 := List.take_of_length_le (by simp [hl])
      have b2 : (l.drop 3).take 36 ++ (l.drop 39) = l.drop 3 := by
        have := List.take_append_drop 36 (l.drop 3)
        rwa [List.drop_drop] at this
      have b1 : (l.drop 2).take 1 ++ (l.drop 3) = l.drop 2 := by
        have := List.take_append_drop 1 (l.drop 2)
        rwa [List.drop_drop] at this
      have b0 : (l.drop 1).take 1 ++ (l.drop 2) = l.drop 1 := by
        have := List.take_append_drop 1 (l.drop 1)
        rwa [List.drop_drop] at this
      rw [b3, b2, b1, b0, List.take_append_drop]
    rw [List.drop_zero] at e0
    rw [a1, e0, e1, e2, c, e4]
    rfl
variable {base : Nat} {v : Value} {d : DataW H} {p : List MemPlace}
set_option maxRecDepth 100000 in
theorem open_slot (hv : Value.okWide Tryz.prog W .any base 34 v) (h : DataW.Trod enc Tryz.prog W 0 (fun _ => true) true 34 v d p) : ∃ s : S, Fit s ∧ v = s.v := by
  obtain ⟨cs, rfl, hsz⟩ := okWide_struct Tryz.underlying34 hv
  rw [cells34] at hsz
  obtain ⟨fuel, hf⟩ := h
  obtain ⟨s, f, e⟩ := slot_cells (l := cs.toList) (by simpa using hsz) hf
  exact ⟨s, f, by rw [S.v, ← e]⟩
set_option maxRecDepth 100000 in
theorem open_table (hv : Value.okWide Tryz.prog W .any base 37 v) (h : DataW.Trod enc Tryz.prog W 0 (fun _ => true) true 37 v d p) : ∃ t : T, FitT t ∧ v = t.v := by
  obtain ⟨cs, rfl, hsz⟩ := okWide_struct Tryz.underlying37 hv
  rw [cells37] at hsz
  obtain ⟨fuel, hf⟩ := h
  obtain ⟨t, f, e⟩ := table_cells (l := cs.toList) (by simpa using hsz) hf
  exact ⟨t, f, by rw [T.v, ← e]⟩
set_option maxRecDepth 100000 in
theorem changes_cell {m : Nat} {c : Value} {x : DataW H × List MemPlace} (h : DataW.trod enc Tryz.prog W 0 (fun _ => true) true m 43 [c] = some x) : ∃ a len cap l, c = .slice a len cap ∧ l.length = len ∧ CRowV W.heap.size W c l := by
  rcases Deep.open_slice Tryz.underlying43 h with ⟨hcs, _⟩ | ⟨a, len, cap, mm, n, D, Pl, hcs, hb, hl, hm, hmm, _, hx⟩
  · simp at hcs
    subst hcs
    exact ⟨none, 0, 0, [], rfl, rfl, CRowV.nil _ _⟩
  · simp at hcs
    subst hcs
    have hmc : mm = cap := by simpa using hmm
    subst hmc
    have each : ∀ i, i < mm → ∃ c : C, FitC c ∧ ∀ j v, c.cs[j]? = some v → W.cell? (a.add (i * 40 + j)) = some v := by
      intro i hi
      obtain ⟨cs', h1, h2⟩ := hx i hi
      rw [cells41] at h1
      obtain ⟨_, hlen, hcell⟩ := World.cells?_some h1
      obtain ⟨c, hf, e⟩ := change_cells hlen h2
      refine ⟨c, hf, fun j v hj => ?_⟩
      rw [← e] at hj
      have hjl := (List.getElem?_eq_some_iff.1 hj).1
      have := hcell j (by omega)
      rw [Deep.add_add] at this
      rw [this, hj]
    refine ⟨some a, len, mm, (List.range len).map fun i => if h : i < mm then Classical.choose (each i h) else zeroC, rfl, by simp, _, len, mm, rfl, hl, hm, by simp, by simp, ?_, ?_⟩
    · intro c hc
      obtain ⟨i, hi, rfl⟩ := List.mem_map.1 hc
      have hi' : i < mm := by have := List.mem_range.1 hi; omega
      rw [dif_pos hi']
      exact (Classical.choose_spec (each i hi')).1
    · intro i hi
      have hi' : i < mm := by omega
      obtain ⟨b, off, rfl⟩ := add_zero_none (x := a) (by simpa using (Classical.choose_spec (each 0 (by omega))).2 0 _ rfl)
      have hs := (Classical.choose_spec (each i hi')).2
      have hg : ((List.range len).map fun i => if h : i < mm then Classical.choose (each i h) else zeroC).getD i zeroC = Classical.choose (each i hi') := by
        rw [List.getD_eq_getElem?_getD, List.getElem?_map, List.getElem?_range hi]
        simp [hi']
      rw [hg]
      generalize Classical.choose (each i hi') = c at *
      have h0 := hs 0 (.int .i64 c.k) rfl
      refine ⟨b, off, rfl, ?_, fun j v hj => ?_⟩
      · rw [Addr.add_mid] at h0
        exact lt_of_cell h0
      · have := hs j v hj
        rw [Addr.add_mid, ← Nat.add_assoc] at this
        exact this
set_option maxRecDepth 100000 in
theorem open_changes (hv : Value.okWide Tryz.prog W .any base 43 v) (h : DataW.Trod enc Tryz.prog W 0 (fun _ => true) true 43 v d p) : ∃ l, CRowV W.heap.size W v l := by
  obtain ⟨a, len, cap, rfl⟩ := okWide_slice Tryz.underlying43 hv
  obtain ⟨fuel, hf⟩ := h
  obtain ⟨_, _, _, l, _, _, hr⟩ := changes_cell hf
  exact ⟨l, hr⟩
end
end Go.Proofs.YtdfdalkcljfghaaGreat.Slot
