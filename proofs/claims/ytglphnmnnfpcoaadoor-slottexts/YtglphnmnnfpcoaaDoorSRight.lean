/-
  What slot.hasImage, slot.fits and slot.Right answer.
-/
import Derived.Test.YtglphnmnnfpcoaaDoorSMath
namespace Go.Proofs.YtglphnmnnfpcoaaDoor
open Go.RowKit

theorem wpList_guarded {P : Program} {ops : Array Oper} {rest : List Oper} {o : Oper} {a : Act} {w : World} {Q : Exit → Act → World → Prop} (hw : Region.wanted o (yielded ops a.tmps) = true) (h : wpList P ops Q ({ o with guard := none } :: rest) a w) : wpList P ops Q (o :: rest) a w := by
  unfold wpList at h ⊢
  rw [if_pos hw]
  rw [if_pos (by simp [Region.wanted])] at h
  exact h

set_option maxHeartbeats 800000 in
set_option maxRecDepth 100000 in
theorem has_walk (x : Int) (w : World) : Calls Tryd.prog 42 #[.int .i64 x] w fun e w' => e = .returned (.bool (has x)) ∧ w' = w := by
  by_cases h2 : x = 2
  · subst h2
    go_enter Tryd.func42, Tryd.ntmps42
    go_wp2
    go_ret
    exact ⟨rfl, rfl⟩
  · have e2 : (x == 2) = false := by simpa using h2
    have e3 : Hid (has x = (x == 3)) := by show _ = _; simp [has, h2]; rfl
    go_enter Tryd.func42, Tryd.ntmps42
    go_wp2
    all_goals
      go_ret
      refine ⟨?_, rfl⟩
      rw [unhide e3]
      rfl

set_option maxHeartbeats 800000 in
set_option maxRecDepth 100000 in
theorem fits_walk (s : S) (w : World) : Calls Tryd.prog 38 #[s.v] w fun e w' => e = .returned (.bool (img s)) ∧ Below w.heap.size w w' := by
  have Hr : Hid (img s = (decide (1 ≤ s.ver) && decide (s.ver ≤ 281474976710656) && decide (1 ≤ s.sz) && decide (s.sz ≤ 65536))) := by
    show _ = _
    rw [Bool.eq_iff_iff]
    simp [img, and_assoc]
  unfold S.v
  go_enter Tryd.func38, Tryd.ntmps38
  go_wp2_with (refine wpList_box 26 _ s.cs rfl rfl rfl ?_)
  intro w1 hA1 hb1 hs1
  have c2 := hA1.cell (i := 2) rfl
  have c3 := hA1.cell (i := 3) rfl
  have Hb := hide hb1
  clear hA1 hb1 hs1
  go_wp2
  all_goals
    go_ret
    refine ⟨congrArg (fun b => Ending.returned (Value.bool b)) ?_, unhide Hb⟩
    rw [unhide Hr]
    rw [Bool.eq_iff_iff]
    simp only [Bool.and_eq_true, decide_eq_true_eq, Bool.false_eq_true, false_iff]
    omega

set_option maxHeartbeats 800000 in
set_option maxRecDepth 100000 in
theorem right_walk (s : S) (hf : Fit s) (w : World) : Calls Tryd.prog 14 #[s.v] w fun e w' => e = .returned (.bool (right s)) ∧ Below w.heap.size w w' := by
  have hdg := hf.dg
  have hbd : (bare s.st).dg.length = 32 := rfl
  have HS := hide (info26s hdg)
  unfold S.v
  by_cases h0 : s.st = 0 ∨ s.st = 1 ∨ s.st = 4
  · have he := run_equal26 s (bare s.st) hdg hbd
    have Hr : Hid (right s = decide (s = bare s.st)) := by
      show _ = _
      unfold right
      rw [if_pos h0]
    clear hf hdg hbd
    generalize hB : (bare s.st).cs = B at he
    have HB := hide (show Tryd.prog.built 26 [(0, .int .i64 s.st)] = some B.toArray by rw [← hB]; exact built26_st _)
    clear hB
    generalize decide (s = bare s.st) = r at *
    generalize hC : s.cs = C at he HS
    have H0 : Hid (C[0]? = some (.int .i64 s.st)) := by rw [← hC]; exact rfl
    clear hC
    generalize hX : s.st = x at *
    clear hX
    have hx : (x == 0) = true ∨ (x == 0) = false ∧ (x == 1) = true ∨ (x == 0) = false ∧ (x == 1) = false ∧ (x == 4) = true := by
      rcases h0 with h | h | h <;> subst h <;> decide
    clear h0
    rcases hx with h1 | ⟨h1, h2⟩ | ⟨h1, h2, h3⟩
    all_goals
      go_enter Tryd.func14, Tryd.ntmps14
      go_wp2_with (refine wpList_box 26 _ C rfl rfl rfl ?_)
      intro w1 hA1 hb1 hs1
      have c0 := hA1.cell (unhide H0)
      have HA := hide hA1
      have Hb := hide hb1
      clear hA1 hb1 hs1
      go_wp2_with (first
        | refine wpList_loadAll 26 _ w.heap.size C _ rfl rfl rfl (unhide HA) Tryd.underlying26 rfl (unhide HS) ?_
        | refine wpList_build 26 _ B [(0, .int .i64 x)] rfl rfl rfl (unhide HB) ?_)
      go_ret
      refine ⟨?_, unhide Hb⟩
      rw [unhide Hr]
      rfl
  · have HF : Hid (∀ w : World, Calls Tryd.prog 38 #[.agg s.cs.toArray] w fun e w' => e = .returned (.bool (img s)) ∧ Below w.heap.size w w') := hide (fits_walk s)
    have Hr : Hid (right s = if s.st = 2 then decide (0 ≤ s.tr) && decide (s.tr ≤ 7) && img s else if s.st = 3 then decide (s.tr = 0) && img s else false) := by
      show _ = _
      unfold right
      rw [if_neg h0]
      congr 2
      rw [Bool.eq_iff_iff]
      simp
    generalize right s = R at *
    generalize img s = r at *
    have H0 : Hid (s.cs[0]? = some (.int .i64 s.st)) := hide rfl
    have H1 : Hid (s.cs[1]? = some (.int .i64 s.tr)) := hide rfl
    generalize s.cs = C at *
    clear hf hdg hbd
    generalize s.st = x at *
    generalize s.tr = y at *
    have n0 : (x == 0) = false := by simp; omega
    have n1 : (x == 1) = false := by simp; omega
    have n4 : (x == 4) = false := by simp; omega
    clear h0
    by_cases h2 : x = 2
    · rw [if_pos h2] at Hr
      have e2 : (x == 2) = true := by simpa using h2
      clear h2
      by_cases hy : 0 ≤ y ∧ y ≤ 7
      · obtain ⟨y0, y7⟩ := hy
        have Hr2 : Hid (R = r) := by show _ = _; rw [unhide Hr]; simp [y0, y7]
        clear Hr
        go_enter Tryd.func14, Tryd.ntmps14
        go_wp2_with (refine wpList_box 26 _ C rfl rfl rfl ?_)
        intro w1 hA1 hb1 hs1
        have c0 := hA1.cell (unhide H0)
        have c1 := hA1.cell (unhide H1)
        have HA := hide hA1
        have Hb := hide hb1
        clear hA1 hb1 hs1
        go_wp2_with (refine wpList_guarded rfl (wpList_loadAll 26 _ w.heap.size C _ rfl rfl rfl (unhide HA) Tryd.underlying26 rfl (unhide HS) ?_))
        refine ((unhide HF) w1).mono ?_
        rintro e w2 ⟨rfl, hb2⟩
        go_wp2
        go_ret
        refine ⟨?_, (unhide Hb).trans (hb2.mono (unhide Hb).size)⟩
        rw [unhide Hr2]
        rfl
      · have Hr2 : Hid (R = false) := by
          show _ = _
          rw [unhide Hr]
          by_cases h : 0 ≤ y
          · have : ¬ y ≤ 7 := fun e => hy ⟨h, e⟩
            simp [this]
          · simp [h]
        clear Hr
        have hy' : decide (0 ≤ y) = false ∨ decide (0 ≤ y) = true ∧ decide (y ≤ 7) = false := by
          simp only [decide_eq_true_eq, decide_eq_false_iff_not]
          omega
        clear hy
        rcases hy' with hy | ⟨hy, hy7⟩
        all_goals
          go_enter Tryd.func14, Tryd.ntmps14
          go_wp2_with (refine wpList_box 26 _ C rfl rfl rfl ?_)
          intro w1 hA1 hb1 hs1
          have c0 := hA1.cell (unhide H0)
          have c1 := hA1.cell (unhide H1)
          have HA := hide hA1
          have Hb := hide hb1
          clear hA1 hb1 hs1
          go_wp2
          go_ret
          refine ⟨?_, unhide Hb⟩
          rw [unhide Hr2]
          rfl
    · rw [if_neg h2] at Hr
      have e2 : (x == 2) = false := by simpa using h2
      by_cases h3 : x = 3
      · rw [if_pos h3] at Hr
        have e3 : (x == 3) = true := by simpa using h3
        clear h2 h3
        by_cases hy : y = 0
        · have y0 : (y == 0) = true := by simpa using hy
          have Hr2 : Hid (R = r) := by show _ = _; rw [unhide Hr]; simp [hy]
          clear Hr hy
          go_enter Tryd.func14, Tryd.ntmps14
          go_wp2_with (refine wpList_box 26 _ C rfl rfl rfl ?_)
          intro w1 hA1 hb1 hs1
          have c0 := hA1.cell (unhide H0)
          have c1 := hA1.cell (unhide H1)
          have HA := hide hA1
          have Hb := hide hb1
          clear hA1 hb1 hs1
          go_wp2_with (refine wpList_guarded rfl (wpList_loadAll 26 _ w.heap.size C _ rfl rfl rfl (unhide HA) Tryd.underlying26 rfl (unhide HS) ?_))
          refine ((unhide HF) w1).mono ?_
          rintro e w2 ⟨rfl, hb2⟩
          go_wp2
          go_ret
          refine ⟨?_, (unhide Hb).trans (hb2.mono (unhide Hb).size)⟩
          rw [unhide Hr2]
          rfl
        · have y0 : (y == 0) = false := by simpa using hy
          have Hr2 : Hid (R = false) := by show _ = _; rw [unhide Hr]; simp [hy]
          clear Hr hy
          go_enter Tryd.func14, Tryd.ntmps14
          go_wp2_with (refine wpList_box 26 _ C rfl rfl rfl ?_)
          intro w1 hA1 hb1 hs1
          have c0 := hA1.cell (unhide H0)
          have c1 := hA1.cell (unhide H1)
          have HA := hide hA1
          have Hb := hide hb1
          clear hA1 hb1 hs1
          go_wp2
          go_ret
          refine ⟨?_, unhide Hb⟩
          rw [unhide Hr2]
          rfl
      · rw [if_neg h3] at Hr
        have e3 : (x == 3) = false := by simpa using h3
        clear h2 h3
        go_enter Tryd.func14, Tryd.ntmps14
        go_wp2_with (refine wpList_box 26 _ C rfl rfl rfl ?_)
        intro w1 hA1 hb1 hs1
        have c0 := hA1.cell (unhide H0)
        have Hb := hide hb1
        clear hA1 hb1 hs1
        go_wp2
        go_ret
        refine ⟨?_, unhide Hb⟩
        rw [unhide Hr]
        rfl
end Go.Proofs.YtglphnmnnfpcoaaDoor
