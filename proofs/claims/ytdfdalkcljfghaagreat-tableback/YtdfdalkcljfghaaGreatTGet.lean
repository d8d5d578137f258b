/-
  What table.readSmall, readChange, readChanges and readTable read, and what Parse and Get answer. What table.readTable reads and what table.Parse answers. What table.readChanges reads and what table.Get answers.
-/
import Derived.Test.YtdfdalkcljfghaaGreatTPut
namespace Go.Proofs.YtdfdalkcljfghaaGreat.Slot
open Go.RowKit

set_option maxHeartbeats 800000 in
set_option maxRecDepth 100000 in
theorem readSmall_walk (N r : Nat) (l : List UInt8) (er : Int) (w : World) (h : Rd N w r l er) :
    Calls Tryz.prog 89 #[.pointer (some ⟨r, 0, none⟩)] w fun e w' => e = .returned (.int .i64 ((fixL l er 1).1 : Int)) ∧ Rd N w' r (fixL l er 1).2.1 (fixL l er 1).2.2 ∧ w.grownBy w' (some r) := by
  have H := hide (rfixed_walk N r 1 l er w h)
  have hq := fixL_lt l er 1
  have e1 : sizeN 1 = 1 := rfl
  rw [e1] at hq
  generalize fixL l er 1 = q at *
  have cv : wrap64 (q.1 : Int) = (q.1 : Int) := by unfold wrap64; omega
  clear hq h
  go_enter Tryz.func89, Tryz.ntmps89
  go_wp2_with fail
  refine (unhide H).mono ?_
  rintro e w1 ⟨rfl, hr, hg⟩
  have HR := hide (And.intro hr hg)
  clear hr hg H
  go_wp2
  go_ret
  exact ⟨congrArg (fun x => Ending.returned (.int .i64 x)) cv, unhide HR⟩

/-- How memory stands while something is read into a block: the answer's block, that one, the reader. -/
structure JC (w : World) (N r b : Nat) (z : List Value) (W : World) (cs : List Value) (l : List UInt8) (e : Int) : Prop where
  one : Arr W w.heap.size z
  two : Arr W b cs
  rd : Rd N W r l e
  gr : w.grownBy W (some r)
  lt : r < w.heap.size
  nr : N ≤ r
  bs : w.heap.size < b
section
variable {w W W' : World} {N r b : Nat} {z cs cs' : List Value} {l l' : List UInt8} {e e' : Int}
theorem JC.call (h : JC w N r b z W cs l e) (hr : Rd N W' r l' e') (hg : W.grownBy W' (some r)) : JC w N r b z W' cs l' e' :=
  ⟨h.one.grown hg (by have := h.lt; simp; omega), h.two.grown hg (by have := h.lt; have := h.bs; simp; omega), hr, grown_two h.gr hg, h.lt, h.nr, h.bs⟩
theorem JC.lay (h : JC w N r b z W cs l e) (hA : Arr W' b cs') (hg : W.grownBy W' (some b)) : JC w N r b z W' cs' l e :=
  ⟨h.one.grown hg (by have := h.bs; simp; omega), hA, h.rd.other hg (by have := h.lt; have := h.bs; omega) (by have := h.lt; have := h.nr; have := h.bs; omega), ⟨hg.os.trans h.gr.os, hg.tape.trans h.gr.tape, hg.output.trans h.gr.output, Nat.le_trans h.gr.size hg.size, fun k hk hne => by
    rw [hg.block k (Nat.lt_of_lt_of_le hk h.gr.size) (by have := h.bs; simp; omega), h.gr.block k hk hne]⟩, h.lt, h.nr, h.bs⟩
theorem JC.set (h : JC w N r b z W cs l e) (i : Nat) (v : Value) : JC w N r b z (W.setCell ⟨b, i, none⟩ v) (cs.set i v) l e := h.lay (h.two.set i v) (set_grown _ _ _ _)
theorem JC.below (h : JC w N r b z W cs l e) (hb : Below W.heap.size W W') : JC w N r b z W' cs l e := ⟨h.one.below hb, h.two.below hb, h.rd.below hb, grown_below h.gr hb, h.lt, h.nr, h.bs⟩
/-- The answer's block is laid. -/
theorem JC.ans {z' : List Value} (h : JC w N r b z W cs l e) (_hA : Arr W' w.heap.size z') (hg : W.grownBy W' (some w.heap.size)) : Rd N W' r l e ∧ w.grownBy W' (some r) :=
  ⟨h.rd.other hg (by have := h.lt; omega) (by have := h.lt; have := h.nr; omega), ⟨hg.os.trans h.gr.os, hg.tape.trans h.gr.tape, hg.output.trans h.gr.output, Nat.le_trans h.gr.size hg.size, fun k hk hne => by
    rw [hg.block k (Nat.lt_of_lt_of_le hk h.gr.size) (by simp; omega), h.gr.block k hk hne]⟩⟩
end
theorem readF_fit (l : List UInt8) (e : Int) : Fit (readF l e).1 := by
  unfold readF
  split
  · rename_i h
    unfold checkedF
    split
    · exact rdS_fit h.2
    · exact zeroS_fit
  · exact zeroS_fit

set_option maxHeartbeats 3200000 in
set_option maxRecDepth 100000 in
theorem readChange_walk (N r : Nat) (l : List UInt8) (er : Int) (w : World) (h : Rd N w r l er) (ho : Over l er) :
    Calls Tryz.prog 92 #[.pointer (some ⟨r, 0, none⟩)] w fun e w' => e = .returned (rdC l er).1.v ∧ Rd N w' r (rdC l er).2.1 (rdC l er).2.2 ∧ w.grownBy w' (some r) := by
  have HAL := hide alloc41
  have HZL := hide (ccs_length zeroC_fit)
  have HRES := hide (rdC_fit l er)
  have HO1 := hide (fixL_over ho 1)
  obtain ⟨q1, hq1⟩ : ∃ q, q = fixL l er 1 := ⟨_, rfl⟩
  have hk := fixL_lt l er 1
  rw [show sizeN 1 = 1 from rfl, ← hq1] at hk
  rw [← hq1] at HO1
  have HR : Hid (rdC l er = if q1.1 = 1 then (⟨1, ((fixL q1.2.1 q1.2.2 1).1 : Int), 0, (readF (fixL q1.2.1 q1.2.2 1).2.1 (fixL q1.2.1 q1.2.2 1).2.2).1, 0⟩, (readF (fixL q1.2.1 q1.2.2 1).2.1 (fixL q1.2.1 q1.2.2 1).2.2).2.2)
      else if q1.1 = 2 then (⟨2, 0, ((fixL q1.2.1 q1.2.2 1).1 : Int), zeroS, 0⟩, (fixL q1.2.1 q1.2.2 1).2)
      else if q1.1 = 3 then (⟨3, 0, ((fixL q1.2.1 q1.2.2 1).1 : Int) - 1, zeroS, 0⟩, (fixL q1.2.1 q1.2.2 1).2)
      else if q1.1 = 4 then (⟨4, 0, 0, zeroS, (fixL q1.2.1 q1.2.2 8).1⟩, (fixL q1.2.1 q1.2.2 8).2)
      else (⟨(q1.1 : Int), 0, 0, zeroS, 0⟩, q1.2)) := by
    rw [hq1]; exact hide rfl
  have HRS := hide (readSmall_walk N r l er)
  rw [← hq1] at HRS
  obtain ⟨R, hR⟩ : ∃ R, R = rdC l er := ⟨_, rfl⟩
  rw [← hR] at HR HRES ⊢
  have H0 := hide h
  have HO := hide ho
  clear h ho hq1 hR
  unfold C.v
  go_enter Tryz.func92, Tryz.ntmps92
  go_wp2_with (refine wpList_alloc 41 41 zeroC.cs rfl rfl (unhide HAL) ?_)
  intro w1 hA1 hb1 hs1
  have HA1 := hide hA1
  have Hb1 := hide hb1
  have H1 := hide ((unhide H0).below hb1)
  clear hA1 hb1
  go_wp2_with fail
  refine (unhide HRS w1 (unhide H1)).mono ?_
  rintro e w2 ⟨rfl, hr, hg⟩
  have hrl := (unhide H0).lt
  have HA2 := hide ((unhide HA1).grown hg (by simp; omega))
  have HG2 := hide (grown_after (unhide Hb1) hg)
  have HR2 := hide hr
  have hs2 : w.heap.size < w2.heap.size := (unhide HA2).lt
  clear hr hg HA1 Hb1 H1 HRS
  have HB := hide (built41 (q1.1 : Int))
  have F1 : FitC ⟨(q1.1 : Int), 0, 0, zeroS, 0⟩ := ⟨by simp only; omega, by simp only; omega, by simp only; omega, by simp only; omega, by simp only; omega, by simp only; omega, zeroS_fit, by simp only; omega⟩
  have HI1 := hide (info41c F1)
  have HL1 := hide (ccs_length F1)
  have HX1 := hide (ccs_one ⟨(q1.1 : Int), 0, 0, zeroS, 0⟩)
  clear F1
  go_wp2_with (first
    | refine wpList_build 41 _ (C.mk (q1.1 : Int) 0 0 zeroS 0).cs [(0, .int .i64 (q1.1 : Int))] rfl rfl rfl (unhide HB) ?_
    | refine wpList_alloc 41 41 zeroC.cs rfl rfl (unhide HAL) ?_)
  intro w3 hA3 hb3 hs3
  have HA3 := hide hA3
  have HJ : Hid (JC w N r w2.heap.size zeroC.cs w3 zeroC.cs q1.2.1 q1.2.2) := hide ⟨(unhide HA2).below hb3, hA3, (unhide HR2).below hb3, grown_below (unhide HG2) hb3, hrl, (unhide H0).1, hs2⟩
  clear hA3 hb3 HA2 HR2 HG2
  generalize w2.heap.size = b at *
  go_wp2_with (refine wpList_storeAll 41 _ _ b (C.mk (q1.1 : Int) 0 0 zeroS 0).cs zeroC.cs rfl rfl rfl rfl (unhide HA3) (by rw [unhide HL1]; rfl) (unhide HI1) (unhide HX1) ?_)
  intro w4 hA4 hg4 hs4
  have HJ := hide ((unhide HJ).lay hA4 hg4)
  clear hA4 hg4 HA3
  have c0 := (unhide HJ).two.cell (i := 0) rfl
  by_cases k1 : q1.1 = 1
  · rw [if_pos k1] at HR
    rw [k1] at c0 HJ
    clear HB HI1 HL1 HX1 k1 hk
    have HRS := hide (fun W (h : Rd N W r q1.2.1 q1.2.2) => readSmall_walk N r q1.2.1 q1.2.2 W h)
    have HO2 := hide (fixL_over (unhide HO1) 1)
    have hk2 := fixL_lt q1.2.1 q1.2.2 1
    rw [show sizeN 1 = 1 from rfl] at hk2
    generalize fixL q1.2.1 q1.2.2 1 = q2 at *
    have c1 := (unhide HJ).two.cell (i := 1) rfl
    have f1 := (unhide HJ).two.free 1
    have HRW := hide (fun W (h : Rd N W r q2.2.1 q2.2.2) => read_walk N r q2.2.1 q2.2.2 W h (unhide HO2))
    have HRF := hide (readF_fit q2.2.1 q2.2.2)
    generalize readF q2.2.1 q2.2.2 = q3 at *
    go_wp2_with fail
    refine (unhide HRS w4 (unhide HJ).rd).mono ?_
    rintro e w5 ⟨rfl, hr, hg⟩
    have HJ := hide ((unhide HJ).call hr hg)
    clear hr hg c0 c1 f1 HRS
    have c0 := (unhide HJ).two.cell (i := 0) rfl
    have c1 := (unhide HJ).two.cell (i := 1) rfl
    have f1 := (unhide HJ).two.free 1
    have HJ := hide ((unhide HJ).set 1 (.int .i64 (q2.1 : Int)))
    have HJ : Hid (JC w N r b zeroC.cs (w5.setCell ⟨b, 1, none⟩ (.int .i64 (q2.1 : Int))) (C.mk 1 (q2.1 : Int) 0 zeroS 0).cs q2.2.1 q2.2.2) := HJ
    go_wp2_with fail
    refine (unhide HRW _ (unhide HJ).rd).mono ?_
    rintro e w6 ⟨rfl, hr, hg⟩
    have HJ := hide ((unhide HJ).call hr hg)
    clear hr hg c0 c1 f1 HRW
    have c0 := (unhide HJ).two.cell (i := 0) rfl
    have F2 : FitC ⟨1, (q2.1 : Int), 0, zeroS, 0⟩ := ⟨by simp only; omega, by simp only; omega, by simp only; omega, by simp only; omega, by simp only; omega, by simp only; omega, zeroS_fit, by simp only; omega⟩
    have HSET := hide (cset3 F2 (unhide HRF))
    have HDL := hide (ccs_length F2)
    have HSL := hide (cs_length (unhide HRF).dg)
    have HSI := hide (info34s (unhide HRF).dg)
    have HS1 := hide (cs_one q3.1)
    have HJA := hide ((unhide HJ).two)
    unfold S.v
    clear F2
    generalize hS0 : q3.1.cs = S0 at *
    generalize (C.mk 1 (q2.1 : Int) 0 zeroS 0).cs = Y at *
    go_wp2_with (refine wpList_storePart 34 _ _ b 3 S0 Y rfl rfl rfl rfl (unhide HJA) (by rw [unhide HSL, unhide HDL]; decide) (unhide HSI) (unhide HS1) ?_)
    intro w7 hA7 hg7 hs7
    rw [unhide HSET] at hA7
    have HJ := hide ((unhide HJ).lay hA7 hg7)
    clear hA7 hg7 HJA c0
    have c0 := (unhide HJ).two.cell (i := 0) rfl
    have HRE : Hid (R = (⟨1, (q2.1 : Int), 0, q3.1, 0⟩, q3.2.2)) := HR
    rw [show q3.2.2.1 = R.2.1 by rw [unhide HRE], show q3.2.2.2 = R.2.2 by rw [unhide HRE]] at HJ
    have HSEQ : Hid ((C.mk 1 (q2.1 : Int) 0 q3.1 0 |>.cs) = R.1.cs) := hide (by rw [unhide HRE])
    rw [unhide HSEQ] at HJ
    have HRI := hide (info41c (unhide HRES))
    have HRL := hide (ccs_length (unhide HRES))
    have HR1 := hide (ccs_one R.1)
    have HJA := hide ((unhide HJ).two)
    have HJO := hide ((unhide HJ).one)
    obtain ⟨Z, hZ⟩ : ∃ Z, Z = R.1.cs := ⟨_, rfl⟩
    rw [← hZ] at HJ HRI HRL HR1 HJA
    have HZ := hide hZ
    clear hZ HSEQ
    go_wp2_with (first
      | refine wpList_loadAll 41 _ b Z _ rfl rfl rfl (unhide HJA) Tryz.underlying41 rfl (unhide HRI) ?_
      | refine wpList_storeAll 41 _ _ w.heap.size Z zeroC.cs rfl rfl rfl rfl (unhide HJO) (by rw [unhide HRL]; rfl) (unhide HRI) (unhide HR1) ?_)
    intro w9 hA9 hg9 hs9
    have HA9 := hide hA9
    have HF := hide ((unhide HJ).ans hA9 hg9)
    clear hA9 hg9 HJ HJA HJO
    go_wp2
    refine bodyPost_ret (v := .agg Z.toArray) ?_ rfl ⟨by rw [unhide HZ], unhide HF⟩
    exact results_arr Tryz.results92 rfl (unhide HA9) Tryz.underlying41 rfl (unhide HRI)
  · rw [if_neg k1] at HR
    have n1 : ((q1.1 : Int) == 1) = false := by simp; omega
    clear k1
    by_cases k2 : q1.1 = 2
    · rw [if_pos k2] at HR
      rw [k2] at c0 HJ
      clear n1
      clear HB HI1 HL1 HX1 k2 hk
      have HRS := hide (fun W (h : Rd N W r q1.2.1 q1.2.2) => readSmall_walk N r q1.2.1 q1.2.2 W h)
      have hk2 := fixL_lt q1.2.1 q1.2.2 1
      rw [show sizeN 1 = 1 from rfl] at hk2
      generalize fixL q1.2.1 q1.2.2 1 = q2 at *
      go_wp2_with fail
      refine (unhide HRS w4 (unhide HJ).rd).mono ?_
      rintro e w5 ⟨rfl, hr, hg⟩
      have HJ := hide ((unhide HJ).call hr hg)
      clear hr hg c0 HRS
      have c0 := (unhide HJ).two.cell (i := 0) rfl
      have c2 := (unhide HJ).two.cell (i := 2) rfl
      have f2 := (unhide HJ).two.free 2
      have HJ := hide ((unhide HJ).set 2 (.int .i64 (q2.1 : Int)))
      have HJ : Hid (JC w N r b zeroC.cs (w5.setCell ⟨b, 2, none⟩ (.int .i64 (q2.1 : Int))) (C.mk 2 0 (q2.1 : Int) zeroS 0).cs q2.2.1 q2.2.2) := HJ
      have HRE : Hid (R = (C.mk 2 0 (q2.1 : Int) zeroS 0, q2.2)) := HR
      rw [show q2.2.1 = R.2.1 by rw [unhide HRE], show q2.2.2 = R.2.2 by rw [unhide HRE]] at HJ
      have HSEQ : Hid ((C.mk 2 0 (q2.1 : Int) zeroS 0 |>.cs) = R.1.cs) := hide (by rw [unhide HRE])
      rw [unhide HSEQ] at HJ
      have HRI := hide (info41c (unhide HRES))
      have HRL := hide (ccs_length (unhide HRES))
      have HR1 := hide (ccs_one R.1)
      have HJA := hide ((unhide HJ).two)
      have HJO := hide ((unhide HJ).one)
      obtain ⟨Z, hZ⟩ : ∃ Z, Z = R.1.cs := ⟨_, rfl⟩
      rw [← hZ] at HJ HRI HRL HR1 HJA
      have HZ := hide hZ
      clear hZ HSEQ
      go_wp2_with (first
        | refine wpList_loadAll 41 _ b Z _ rfl rfl rfl (unhide HJA) Tryz.underlying41 rfl (unhide HRI) ?_
        | refine wpList_storeAll 41 _ _ w.heap.size Z zeroC.cs rfl rfl rfl rfl (unhide HJO) (by rw [unhide HRL]; rfl) (unhide HRI) (unhide HR1) ?_)
      intro w9 hA9 hg9 hs9
      have HA9 := hide hA9
      have HF := hide ((unhide HJ).ans hA9 hg9)
      clear hA9 hg9 HJ HJA HJO
      go_wp2
      refine bodyPost_ret (v := .agg Z.toArray) ?_ rfl ⟨by rw [unhide HZ], unhide HF⟩
      exact results_arr Tryz.results92 rfl (unhide HA9) Tryz.underlying41 rfl (unhide HRI)
    · rw [if_neg k2] at HR
      have n2 : ((q1.1 : Int) == 2) = false := by simp; omega
      clear k2
      by_cases k3 : q1.1 = 3
      · rw [if_pos k3] at HR
        rw [k3] at c0 HJ
        clear n1 n2
        clear HB HI1 HL1 HX1 k3 hk
        have HRS := hide (fun W (h : Rd N W r q1.2.1 q1.2.2) => readSmall_walk N r q1.2.1 q1.2.2 W h)
        have hk2 := fixL_lt q1.2.1 q1.2.2 1
        rw [show sizeN 1 = 1 from rfl] at hk2
        generalize fixL q1.2.1 q1.2.2 1 = q2 at *
        have kc : wrap64 ((q2.1 : Int) + -1) = (q2.1 : Int) - 1 := by unfold wrap64; omega
        have kc2 : (q2.1 : Int) + -1 = (q2.1 : Int) - 1 := by omega
        have kc3 : wrap64 ((q2.1 : Int) - 1) = (q2.1 : Int) - 1 := by unfold wrap64; omega
        go_wp2_with fail
        refine (unhide HRS w4 (unhide HJ).rd).mono ?_
        rintro e w5 ⟨rfl, hr, hg⟩
        have HJ := hide ((unhide HJ).call hr hg)
        clear hr hg c0 HRS
        have c0 := (unhide HJ).two.cell (i := 0) rfl
        have c2 := (unhide HJ).two.cell (i := 2) rfl
        have f2 := (unhide HJ).two.free 2
        have HJ := hide ((unhide HJ).set 2 (.int .i64 ((q2.1 : Int) - 1)))
        have HJ : Hid (JC w N r b zeroC.cs (w5.setCell ⟨b, 2, none⟩ (.int .i64 ((q2.1 : Int) - 1))) (C.mk 3 0 ((q2.1 : Int) - 1) zeroS 0).cs q2.2.1 q2.2.2) := HJ
        have HRE : Hid (R = (C.mk 3 0 ((q2.1 : Int) - 1) zeroS 0, q2.2)) := HR
        rw [show q2.2.1 = R.2.1 by rw [unhide HRE], show q2.2.2 = R.2.2 by rw [unhide HRE]] at HJ
        have HSEQ : Hid ((C.mk 3 0 ((q2.1 : Int) - 1) zeroS 0 |>.cs) = R.1.cs) := hide (by rw [unhide HRE])
        rw [unhide HSEQ] at HJ
        have HRI := hide (info41c (unhide HRES))
        have HRL := hide (ccs_length (unhide HRES))
        have HR1 := hide (ccs_one R.1)
        have HJA := hide ((unhide HJ).two)
        have HJO := hide ((unhide HJ).one)
        obtain ⟨Z, hZ⟩ : ∃ Z, Z = R.1.cs := ⟨_, rfl⟩
        rw [← hZ] at HJ HRI HRL HR1 HJA
        have HZ := hide hZ
        clear hZ HSEQ
        go_wp2_with (first
          | refine wpList_loadAll 41 _ b Z _ rfl rfl rfl (unhide HJA) Tryz.underlying41 rfl (unhide HRI) ?_
          | refine wpList_storeAll 41 _ _ w.heap.size Z zeroC.cs rfl rfl rfl rfl (unhide HJO) (by rw [unhide HRL]; rfl) (unhide HRI) (unhide HR1) ?_)
        intro w9 hA9 hg9 hs9
        have HA9 := hide hA9
        have HF := hide ((unhide HJ).ans hA9 hg9)
        clear hA9 hg9 HJ HJA HJO
        go_wp2
        refine bodyPost_ret (v := .agg Z.toArray) ?_ rfl ⟨by rw [unhide HZ], unhide HF⟩
        exact results_arr Tryz.results92 rfl (unhide HA9) Tryz.underlying41 rfl (unhide HRI)
      · rw [if_neg k3] at HR
        have n3 : ((q1.1 : Int) == 3) = false := by simp; omega
        clear k3
        by_cases k4 : q1.1 = 4
        · rw [if_pos k4] at HR
          rw [k4] at c0 HJ
          clear n1 n2 n3
          clear HB HI1 HL1 HX1 k4 hk
          have HRS := hide (fun W (h : Rd N W r q1.2.1 q1.2.2) => rfixed_walk N r 8 q1.2.1 q1.2.2 W h)
          have hk2 := fixL_lt q1.2.1 q1.2.2 8
          rw [show sizeN 8 = 8 from rfl] at hk2
          generalize fixL q1.2.1 q1.2.2 8 = q2 at *
          go_wp2_with fail
          refine (unhide HRS w4 (unhide HJ).rd).mono ?_
          rintro e w5 ⟨rfl, hr, hg⟩
          have HJ := hide ((unhide HJ).call hr hg)
          clear hr hg c0 HRS
          have c0 := (unhide HJ).two.cell (i := 0) rfl
          have c39 := (unhide HJ).two.cell (i := 39) rfl
          have f39 := (unhide HJ).two.free 39
          have HJ := hide ((unhide HJ).set 39 (.int .u64 (q2.1 : Int)))
          have HJ : Hid (JC w N r b zeroC.cs (w5.setCell ⟨b, 39, none⟩ (.int .u64 (q2.1 : Int))) (C.mk 4 0 0 zeroS q2.1).cs q2.2.1 q2.2.2) := HJ
          have HRE : Hid (R = (C.mk 4 0 0 zeroS q2.1, q2.2)) := HR
          rw [show q2.2.1 = R.2.1 by rw [unhide HRE], show q2.2.2 = R.2.2 by rw [unhide HRE]] at HJ
          have HSEQ : Hid ((C.mk 4 0 0 zeroS q2.1 |>.cs) = R.1.cs) := hide (by rw [unhide HRE])
          rw [unhide HSEQ] at HJ
          have HRI := hide (info41c (unhide HRES))
          have HRL := hide (ccs_length (unhide HRES))
          have HR1 := hide (ccs_one R.1)
          have HJA := hide ((unhide HJ).two)
          have HJO := hide ((unhide HJ).one)
          obtain ⟨Z, hZ⟩ : ∃ Z, Z = R.1.cs := ⟨_, rfl⟩
          rw [← hZ] at HJ HRI HRL HR1 HJA
          have HZ := hide hZ
          clear hZ HSEQ
          go_wp2_with (first
            | refine wpList_loadAll 41 _ b Z _ rfl rfl rfl (unhide HJA) Tryz.underlying41 rfl (unhide HRI) ?_
            | refine wpList_storeAll 41 _ _ w.heap.size Z zeroC.cs rfl rfl rfl rfl (unhide HJO) (by rw [unhide HRL]; rfl) (unhide HRI) (unhide HR1) ?_)
          intro w9 hA9 hg9 hs9
          have HA9 := hide hA9
          have HF := hide ((unhide HJ).ans hA9 hg9)
          clear hA9 hg9 HJ HJA HJO
          go_wp2
          refine bodyPost_ret (v := .agg Z.toArray) ?_ rfl ⟨by rw [unhide HZ], unhide HF⟩
          exact results_arr Tryz.results92 rfl (unhide HA9) Tryz.underlying41 rfl (unhide HRI)
        · rw [if_neg k4] at HR
          have n4 : ((q1.1 : Int) == 4) = false := by simp; omega
          clear k4 HB HI1 HL1 HX1 hk
          have HRE : Hid (R = (⟨(q1.1 : Int), 0, 0, zeroS, 0⟩, q1.2)) := HR
          rw [show q1.2.1 = R.2.1 by rw [unhide HRE], show q1.2.2 = R.2.2 by rw [unhide HRE]] at HJ
          have HSEQ : Hid ((C.mk (q1.1 : Int) 0 0 zeroS 0 |>.cs) = R.1.cs) := hide (by rw [unhide HRE])
          rw [unhide HSEQ] at HJ
          have HRI := hide (info41c (unhide HRES))
          have HRL := hide (ccs_length (unhide HRES))
          have HR1 := hide (ccs_one R.1)
          have HJA := hide ((unhide HJ).two)
          have HJO := hide ((unhide HJ).one)
          obtain ⟨Z, hZ⟩ : ∃ Z, Z = R.1.cs := ⟨_, rfl⟩
          rw [← hZ] at HJ HRI HRL HR1 HJA
          have HZ := hide hZ
          clear hZ HSEQ
          go_wp2_with (first
            | refine wpList_loadAll 41 _ b Z _ rfl rfl rfl (unhide HJA) Tryz.underlying41 rfl (unhide HRI) ?_
            | refine wpList_storeAll 41 _ _ w.heap.size Z zeroC.cs rfl rfl rfl rfl (unhide HJO) (by rw [unhide HRL]; rfl) (unhide HRI) (unhide HR1) ?_)
          intro w9 hA9 hg9 hs9
          have HA9 := hide hA9
          have HF := hide ((unhide HJ).ans hA9 hg9)
          clear hA9 hg9 HJ HJA HJO
          go_wp2
          refine bodyPost_ret (v := .agg Z.toArray) ?_ rfl ⟨by rw [unhide HZ], unhide HF⟩
          exact results_arr Tryz.results92 rfl (unhide HA9) Tryz.underlying41 rfl (unhide HRI)
end Go.Proofs.YtdfdalkcljfghaaGreat.Slot

namespace Go.Proofs.YtdfdalkcljfghaaGreat.Slot
open Go.RowKit

def rdT2 (l : List UInt8) (e : Int) : Nat → T × List UInt8 × Int
  | 0 => (zeroT, l, e)
  | 1 => ({ zeroT with s0 := (readF l e).1 }, (readF l e).2.2)
  | _ => ({ zeroT with s0 := (readF l e).1, s1 := (readF (readF l e).2.2.1 (readF l e).2.2.2).1 }, (readF (readF l e).2.2.1 (readF l e).2.2.2).2.2)
/-- A table's slots and three numbers, whatever they are; what is left. -/
def tblF (l : List UInt8) (e : Int) : T × List UInt8 × Int :=
  let p := rdT2 l e 2
  let a := fixL p.2.1 p.2.2 1
  let b := fixL a.2.1 a.2.2 1
  let c := fixL b.2.1 b.2.2 8
  ({ p.1 with act := (a.1 : Int), boo := (b.1 : Int) - 1, flo := c.1 }, c.2)
theorem rdT2_fit (l : List UInt8) (e : Int) (k : Nat) : FitT (rdT2 l e k).1 := by
  unfold rdT2
  split
  · exact zeroT_fit
  · exact { zeroT_fit with s0 := readF_fit _ _ }
  · exact { zeroT_fit with s0 := readF_fit _ _, s1 := readF_fit _ _ }
theorem rdT2_over {l : List UInt8} {e : Int} (h : Over l e) (k : Nat) : Over (rdT2 l e k).2.1 (rdT2 l e k).2.2 := by
  unfold rdT2
  split
  · exact h
  · exact readF_over h
  · exact readF_over (readF_over h)
theorem tblF_fit (l : List UInt8) (e : Int) : FitT (tblF l e).1 := by
  have h1 := fixL_lt (rdT2 l e 2).2.1 (rdT2 l e 2).2.2 1
  have h2 := fun l e => fixL_lt l e 1
  have h3 := fun l e => fixL_lt l e 8
  rw [show sizeN 1 = 1 from rfl] at h1
  have h2' : ∀ l e, (fixL l e 1).1 < 256 := fun l e => h2 l e
  have h3' : ∀ l e, (fixL l e 8).1 < 18446744073709551616 := fun l e => h3 l e
  unfold tblF
  simp only
  have a1 := h2' (rdT2 l e 2).2.1 (rdT2 l e 2).2.2
  have a2 := h2' (fixL (rdT2 l e 2).2.1 (rdT2 l e 2).2.2 1).2.1 (fixL (rdT2 l e 2).2.1 (rdT2 l e 2).2.2 1).2.2
  have hf := rdT2_fit l e 2
  exact ⟨hf.s0, hf.s1, by simp only; omega, by simp only; omega, by simp only; omega, by simp only; omega, h3' _ _⟩
theorem tblF_long {l : List UInt8} (h : 102 ≤ l.length) : (tblF l 0).1 = rdT l := by
  have r1 : readF l 0 = ((checkedF (rdS l)).1, (checkedF (rdS l)).2, l.drop 46, 0) := by unfold readF; rw [if_pos ⟨rfl, by omega⟩]
  have r2 : readF (l.drop 46) 0 = ((checkedF (rdS (l.drop 46))).1, (checkedF (rdS (l.drop 46))).2, (l.drop 46).drop 46, 0) := by unfold readF; rw [if_pos ⟨rfl, by rw [List.length_drop]; omega⟩]
  have e2 : rdT2 l 0 2 = (⟨(checkedF (rdS l)).1, (checkedF (rdS (l.drop 46))).1, 0, 0, 0⟩, l.drop 92, 0) := by
    show (_, _) = _
    rw [r1]
    simp only
    rw [r2]
    simp only [List.drop_drop]
    rfl
  unfold tblF
  rw [e2]
  simp only
  rw [fix_long (k := 1) rfl (by rw [List.length_drop]; omega)]
  simp only [List.drop_drop]
  rw [fix_long (k := 1) rfl (by rw [List.length_drop]; omega)]
  simp only [List.drop_drop]
  rw [fix_long (k := 8) rfl (by rw [List.length_drop]; omega)]
  rfl
theorem parse_tbl (b : List UInt8) : (if decide (b ≠ [] ∧ bytesT (tblF b 0).1 = b) = true then ((tblF b 0).1, (0 : Int)) else (zeroT, 111)) = parseF b := by
  have hl : ∀ t : T, FitT t → (bytesT t).length = 0 ∨ (bytesT t).length = 102 := fun t ht => by
    by_cases h : rightT t = true
    · exact .inr (bytesT_len h ht)
    · left; unfold bytesT; rw [if_neg h]; rfl
  unfold parseF
  by_cases h : b.length = 102
  · rw [tblF_long (by omega)]
    by_cases h2 : bytesT (rdT b) = b
    · rw [if_pos (decide_eq_true ⟨fun e => by rw [e] at h; simp at h, h2⟩), if_pos ⟨h, h2⟩]
    · rw [if_neg (by simp [h2]), if_neg (fun e => h2 e.2)]
  · have h0 : ¬ (decide (b ≠ [] ∧ bytesT (tblF b 0).1 = b) = true) := fun e => by
      have e := of_decide_eq_true e
      rcases hl _ (tblF_fit b 0) with h2 | h2
      · rw [e.2] at h2
        exact e.1 (List.length_eq_zero_iff.1 h2)
      · rw [e.2] at h2
        exact h h2
    rw [if_neg h0, if_neg (fun e => h e.1)]

set_option maxHeartbeats 3200000 in
set_option maxRecDepth 100000 in
theorem readTable_walk (N r : Nat) (l : List UInt8) (er : Int) (w : World) (h : Rd N w r l er) (ho : Over l er) :
    Calls Tryz.prog 51 #[.pointer (some ⟨r, 0, none⟩)] w fun e w' => e = .returned (tblF l er).1.v ∧ Rd N w' r (tblF l er).2.1 (tblF l er).2.2 ∧ w.grownBy w' (some r) := by
  have HAL := hide alloc37
  have HZL := hide (tcs_length zeroT_fit)
  have H0 := hide h
  have HO := hide ho
  have hrl := h.lt
  have hnr := h.1
  clear h ho
  obtain ⟨R, hR⟩ : ∃ R, R = tblF l er := ⟨_, rfl⟩
  have HRR := hide hR
  rw [← hR]
  clear hR
  unfold T.v
  go_enter Tryz.func51, Tryz.ntmps51
  go_wp2_with (refine wpList_alloc 37 37 zeroT.cs rfl rfl (unhide HAL) ?_)
  intro w1 hA1 hb1 hs1
  have HA1 := hide hA1
  have Hb1 := hide hb1
  clear hA1 hb1
  go_wp2_with (refine wpList_alloc 37 37 zeroT.cs rfl rfl (unhide HAL) ?_)
  intro w2 hA2 hb2 hs2
  have HJ : Hid (JC w N r (w.heap.size + 1) zeroT.cs w2 zeroT.cs l er) := by
    have hb := (unhide Hb1).trans (hb2.mono (by omega))
    exact hide ⟨(unhide HA1).keep hb2 (by omega), hA2, (unhide H0).below hb, ⟨hb.os, hb.tape, hb.output, hb.size, fun k hk _ => hb.block k hk⟩, hrl, hnr, by omega⟩
  clear hA2 hb2 HA1 Hb1
  generalize hB : w.heap.size + 1 = b at *
  go_wp2_with fail
  go_loopw [5] (fun ci wr => ∃ k : Nat, k ≤ 2 ∧ ci = .int .i64 (k : Int) ∧ JC w N r b zeroT.cs wr (rdT2 l er k).1.cs (rdT2 l er k).2.1 (rdT2 l er k).2.2) (fun ci _ => 2 - (intOf ci).toNat)
  case atStart => exact ⟨0, by omega, rfl, unhide HJ⟩
  case round =>
    obtain ⟨k, hk, rfl, hJ⟩ := hrel
    by_cases hlt : k < 2
    · have HJr := hide hJ
      have HRW := hide (fun W (h : Rd N W r (rdT2 l er k).2.1 (rdT2 l er k).2.2) => read_walk N r _ _ W h (rdT2_over (unhide HO) k))
      have hft := rdT2_fit l er k
      have hfs := readF_fit (rdT2 l er k).2.1 (rdT2 l er k).2.2
      have HSET : Hid ((rdT2 l er k).1.cs.take (k * 36) ++ ((readF (rdT2 l er k).2.1 (rdT2 l er k).2.2).1.cs ++ (rdT2 l er k).1.cs.drop (k * 36 + (readF (rdT2 l er k).2.1 (rdT2 l er k).2.2).1.cs.length)) = (rdT2 l er (k + 1)).1.cs) := by
        show _ = _
        rcases (show k = 0 ∨ k = 1 by omega) with h | h
        · subst h
          exact tset0 hft hfs
        · subst h
          exact tset1 hft hfs
      have HNX : Hid ((rdT2 l er (k + 1)).2 = (readF (rdT2 l er k).2.1 (rdT2 l er k).2.2).2.2) := by
        show _ = _
        rcases (show k = 0 ∨ k = 1 by omega) with h | h
        · subst h; rfl
        · subst h; rfl
      have HTL := hide (tcs_length hft)
      have HSL := hide (cs_length hfs.dg)
      have HSI := hide (info34s hfs.dg)
      have HS1 := hide (cs_one (readF (rdT2 l er k).2.1 (rdT2 l er k).2.2).1)
      clear hft hfs hJ
      generalize rdT2 l er k = p at *
      generalize readF p.2.1 p.2.2 = q at *
      unfold S.v at HRW
      go_wp2_with fail
      refine (unhide HRW wr (unhide HJr).rd).mono ?_
      rintro e w3 ⟨rfl, hr, hg⟩
      have HJ3 := hide ((unhide HJr).call hr hg)
      have HJA := hide (unhide HJ3).two
      clear hr hg HJr HRW
      generalize q.1.cs = S0 at *
      generalize p.1.cs = X at *
      go_wp2_with (refine wpList_storePart 34 _ _ b (k * 36) S0 X rfl rfl rfl rfl (unhide HJA) (by rw [unhide HSL, unhide HTL]; omega) (unhide HSI) (unhide HS1) ?_)
      intro w4 hA4 hg4 hs4
      rw [unhide HSET] at hA4
      have HJ4 := hide ((unhide HJ3).lay hA4 hg4)
      rw [← unhide HNX] at HJ4
      clear hA4 hg4 HJ3 HJA
      go_wp2
      go_roundw
      case rel => exact ⟨k + 1, by omega, by simp, unhide HJ4⟩
      case measure => simp [intOf]; omega
    · obtain rfl : k = 2 := by omega
      have HJ2 := hide hJ
      clear hJ
      have HFT := hide (rdT2_fit l er 2)
      have HOV := hide (rdT2_over (unhide HO) 2)
      have HRE : Hid (R = ({ (rdT2 l er 2).1 with act := ((fixL (rdT2 l er 2).2.1 (rdT2 l er 2).2.2 1).1 : Int), boo := ((fixL (fixL (rdT2 l er 2).2.1 (rdT2 l er 2).2.2 1).2.1 (fixL (rdT2 l er 2).2.1 (rdT2 l er 2).2.2 1).2.2 1).1 : Int) - 1, flo := (fixL (fixL (fixL (rdT2 l er 2).2.1 (rdT2 l er 2).2.2 1).2.1 (fixL (rdT2 l er 2).2.1 (rdT2 l er 2).2.2 1).2.2 1).2.1 (fixL (fixL (rdT2 l er 2).2.1 (rdT2 l er 2).2.2 1).2.1 (fixL (rdT2 l er 2).2.1 (rdT2 l er 2).2.2 1).2.2 1).2.2 8).1 }, (fixL (fixL (fixL (rdT2 l er 2).2.1 (rdT2 l er 2).2.2 1).2.1 (fixL (rdT2 l er 2).2.1 (rdT2 l er 2).2.2 1).2.2 1).2.1 (fixL (fixL (rdT2 l er 2).2.1 (rdT2 l er 2).2.2 1).2.1 (fixL (rdT2 l er 2).2.1 (rdT2 l er 2).2.2 1).2.2 1).2.2 8).2)) := by
        rw [unhide HRR]; exact hide rfl
      have HRF := hide (show FitT R.1 by rw [unhide HRR]; exact tblF_fit l er)
      clear HRR
      generalize rdT2 l er 2 = p at *
      have HR1 := hide (fun W (h : Rd N W r p.2.1 p.2.2) => readSmall_walk N r p.2.1 p.2.2 W h)
      have hk1 := fixL_lt p.2.1 p.2.2 1
      generalize fixL p.2.1 p.2.2 1 = q1 at *
      have HR2 := hide (fun W (h : Rd N W r q1.2.1 q1.2.2) => readSmall_walk N r q1.2.1 q1.2.2 W h)
      have hk2 := fixL_lt q1.2.1 q1.2.2 1
      generalize fixL q1.2.1 q1.2.2 1 = q2 at *
      have HR3 := hide (fun W (h : Rd N W r q2.2.1 q2.2.2) => rfixed_walk N r 8 q2.2.1 q2.2.2 W h)
      have hk3 := fixL_lt q2.2.1 q2.2.2 8
      generalize fixL q2.2.1 q2.2.2 8 = q3 at *
      rw [show sizeN 1 = 1 from rfl] at hk1 hk2
      rw [show sizeN 8 = 8 from rfl] at hk3
      have kc : wrap64 ((q2.1 : Int) + -1) = (q2.1 : Int) - 1 := by unfold wrap64; omega
      have kc2 : (q2.1 : Int) + -1 = (q2.1 : Int) - 1 := by omega
      have kc3 : wrap64 ((q2.1 : Int) - 1) = (q2.1 : Int) - 1 := by unfold wrap64; omega
      have HF1 : Hid (FitT { p.1 with act := (q1.1 : Int) }) := hide { unhide HFT with act0 := by simp only; omega, act1 := by simp only; omega }
      have HF2 : Hid (FitT { p.1 with act := (q1.1 : Int), boo := (q2.1 : Int) - 1 }) := hide { unhide HF1 with boo0 := by simp only; omega, boo1 := by simp only; omega }
      have HS1 := hide (tset72 (unhide HFT) (q1.1 : Int))
      have HS2 := hide (tset73 (unhide HF1) ((q2.1 : Int) - 1))
      have HS3 := hide (tset74 (unhide HF2) q3.1)
      have HG0 := hide (tget (unhide HFT)).1
      have HG1 := hide (tget (unhide HF1)).2.1
      have HG2 := hide (tget (unhide HF2)).2.2
      clear hk1 hk2 hk3 HFT HF1 HF2
      obtain ⟨X0, hX0⟩ : ∃ X, X = p.1.cs := ⟨_, rfl⟩
      obtain ⟨X1, hX1⟩ : ∃ X, X = ({ p.1 with act := (q1.1 : Int) } : T).cs := ⟨_, rfl⟩
      obtain ⟨X2, hX2⟩ : ∃ X, X = ({ p.1 with act := (q1.1 : Int), boo := (q2.1 : Int) - 1 } : T).cs := ⟨_, rfl⟩
      rw [← hX0] at HJ2 HS1 HG0
      rw [← hX1] at HS1 HS2 HG1
      rw [← hX2] at HS2 HS3 HG2
      have HX3 : Hid (({ p.1 with act := (q1.1 : Int), boo := (q2.1 : Int) - 1, flo := q3.1 } : T).cs = R.1.cs) := by
        rw [unhide HRE]; exact hide rfl
      have HQ3 : Hid (q3.2 = R.2) := by rw [unhide HRE]; exact hide rfl
      clear hX0 hX1 hX2 HRE
      rw [unhide HX3] at HS3
      have hp1 : p.1.flo = p.1.flo := rfl
      clear hp1
      generalize p.1.act = pa at *
      generalize p.1.boo = pb at *
      generalize p.1.flo = pf at *
      generalize p.2.1 = pl at *
      generalize p.2.2 = pe at *
      go_wp2_with fail
      refine (unhide HR1 wr (unhide HJ2).rd).mono ?_
      rintro e w3 ⟨rfl, hr, hg⟩
      have HJ3 := hide ((unhide HJ2).call hr hg)
      clear hr hg HJ2 HR1
      have c72 := (unhide HJ3).two.cell (unhide HG0)
      have f72 := (unhide HJ3).two.free 72
      have HJ3 := hide ((unhide HJ3).set 72 (.int .i64 (q1.1 : Int)))
      rw [unhide HS1] at HJ3
      go_wp2_with fail
      refine (unhide HR2 _ (unhide HJ3).rd).mono ?_
      rintro e w4 ⟨rfl, hr, hg⟩
      have HJ4 := hide ((unhide HJ3).call hr hg)
      clear hr hg HJ3 HR2 c72 f72
      have c73 := (unhide HJ4).two.cell (unhide HG1)
      have f73 := (unhide HJ4).two.free 73
      have HJ4 := hide ((unhide HJ4).set 73 (.int .i64 ((q2.1 : Int) - 1)))
      rw [unhide HS2] at HJ4
      go_wp2_with fail
      refine (unhide HR3 _ (unhide HJ4).rd).mono ?_
      rintro e w5 ⟨rfl, hr, hg⟩
      have HJ5 := hide ((unhide HJ4).call hr hg)
      clear hr hg HJ4 HR3 c73 f73
      have c74 := (unhide HJ5).two.cell (unhide HG2)
      have f74 := (unhide HJ5).two.free 74
      have HJ5 := hide ((unhide HJ5).set 74 (.int .u64 (q3.1 : Int)))
      rw [unhide HS3, unhide HQ3] at HJ5
      have HRI := hide (info37t (unhide HRF))
      have HRL := hide (tcs_length (unhide HRF))
      have HRO := hide (tcs_one R.1)
      have HJA := hide ((unhide HJ5).two)
      have HJO := hide ((unhide HJ5).one)
      obtain ⟨Z, hZ⟩ : ∃ Z, Z = R.1.cs := ⟨_, rfl⟩
      rw [← hZ] at HJ5 HRI HRL HRO HJA
      have HZ := hide hZ
      clear hZ HS3 HX3
      go_wp2_with (first
        | refine wpList_loadAll 37 _ b Z _ rfl rfl rfl (unhide HJA) Tryz.underlying37 rfl (unhide HRI) ?_
        | refine wpList_storeAll 37 _ _ w.heap.size Z zeroT.cs rfl rfl rfl rfl (unhide HJO) (by rw [unhide HRL]; rfl) (unhide HRI) (unhide HRO) ?_)
      intro w9 hA9 hg9 hs9
      have HA9 := hide hA9
      have HF := hide ((unhide HJ5).ans hA9 hg9)
      clear hA9 hg9 HJ5 HJA HJO c74 f74
      go_wp2
      refine bodyPost_ret (v := .agg Z.toArray) ?_ rfl ⟨by rw [unhide HZ], unhide HF⟩
      exact results_arr Tryz.results51 rfl (unhide HA9) Tryz.underlying37 rfl (unhide HRI)

set_option maxHeartbeats 3200000 in
set_option maxRecDepth 100000 in
theorem parse_walk (N : Nat) (v : Value) (bs : List UInt8) (w : World) (hN : N ≤ w.heap.size) (hr : RowV N w v bs) :
    Calls Tryz.prog 15 #[v] w fun e w' => e = .returned (.tuple #[(parseF bs).1.v, .int .i64 (parseF bs).2]) ∧ Below w.heap.size w w' := by
  have HAL := hide alloc37
  have HZL := hide (tcs_length zeroT_fit)
  have HZI := hide (info37t zeroT_fit)
  have HZ1 := hide (tcs_one zeroT)
  have HB0 := hide built37
  have HV := hide hr
  have HN := hide hN
  obtain ⟨va, vn, vc, ev⟩ := RowV.sl hr
  subst ev
  have HF := hide (tblF_fit bs 0)
  have HP := hide (parse_tbl bs)
  clear hr hN
  obtain ⟨R, hR⟩ : ∃ R, R = parseF bs := ⟨_, rfl⟩
  rw [← hR] at HP ⊢
  clear hR
  have HRT : Hid (∀ N r w, Rd N w r bs 0 → Calls Tryz.prog 51 #[.pointer (some ⟨r, 0, none⟩)] w fun e w' => e = .returned (.agg (tblF bs 0).1.cs.toArray) ∧ Rd N w' r (tblF bs 0).2.1 (tblF bs 0).2.2 ∧ w.grownBy w' (some r)) := hide fun N r w h => readTable_walk N r bs 0 w h (over0 bs)
  generalize (tblF bs 0).2 = rest at *
  generalize (tblF bs 0).1 = t at *
  have HTL := hide (tcs_length (unhide HF))
  have HTI := hide (info37t (unhide HF))
  have HT1 := hide (tcs_one t)
  have HBW : Hid (∀ w : World, Calls Tryz.prog 17 #[.agg t.cs.toArray] w fun e w' => ∃ v, e = .returned v ∧ RowV w'.heap.size w' v (bytesT t) ∧ Below w.heap.size w w') := hide (tbytes_walk t (unhide HF))
  unfold T.v
  obtain ⟨X, hX⟩ : ∃ X, X = t.cs := ⟨_, rfl⟩
  have HX := hide hX
  rw [← hX] at HTL HTI HT1 HBW HRT
  clear hX
  go_enter Tryz.func15, Tryz.ntmps15
  go_wp2_with (refine wpList_alloc 37 37 zeroT.cs rfl rfl (unhide HAL) ?_)
  intro w1 hA1 hb1 hs1
  have HA1 := hide hA1
  have Hb1 := hide hb1
  have HV1 := hide (((unhide HV).up (unhide HN)).below hb1)
  have HNW := hide (new_walk8 w.heap.size _ bs w1 hb1.size (unhide HV1))
  clear hA1 hb1 HV
  go_wp2_with fail
  refine (unhide HNW).mono ?_
  rintro e w2 ⟨rfl, hrd, hb2⟩
  have HRD := hide hrd
  have hr1 := hrd.lt
  have HA2 := hide ((unhide HA1).below hb2)
  have HV2 := hide ((unhide HV1).below (hb2.mono (unhide Hb1).size))
  have Hb2 := hide ((unhide Hb1).trans (hb2.mono (unhide Hb1).size))
  clear hrd hb2 HA1 HV1 Hb1 HNW
  have hs1' : w.heap.size < w1.heap.size := by omega
  clear hs1
  generalize w1.heap.size = r at *
  go_wp2_with fail
  refine (unhide HRT _ r w2 (unhide HRD)).mono ?_
  rintro e w3 ⟨rfl, hrd3, hg3⟩
  have hb3 : Below w.heap.size w2 w3 := (Below.refl _ w2).grown hg3 (unhide Hb2).size (fun k hk => by simp at hk; omega)
  have HA3 := hide ((unhide HA2).grown hg3 (by simp; omega))
  have HV3 := hide ((unhide HV2).below hb3)
  have Hb3 := hide ((unhide Hb2).trans hb3)
  have hs3 : w.heap.size < w3.heap.size := (unhide HA3).lt
  clear hrd3 hg3 hb3 HA2 HV2 Hb2 HRT HRD
  go_wp2_with (refine wpList_alloc 37 37 zeroT.cs rfl rfl (unhide HAL) ?_)
  intro w4 hA4 hb4 hs4
  have HA4 := hide hA4
  have HO4 := hide ((unhide HA3).below hb4)
  have HV4 := hide ((unhide HV3).below (hb4.mono (by omega)))
  have Hb4 := hide ((unhide Hb3).trans (hb4.mono (by omega)))
  clear hA4 hb4 HA3 HV3 Hb3
  generalize w3.heap.size = b at *
  go_wp2_with (refine wpList_storeAll 37 _ _ b X zeroT.cs rfl rfl rfl rfl (unhide HA4) (by rw [unhide HTL]; rfl) (unhide HTI) (unhide HT1) ?_)
  intro w5 hA5 hg5 hs5
  have hb5 : Below w.heap.size w4 w5 := (Below.refl _ w4).grown hg5 (by omega) (fun k hk => by simp at hk; omega)
  have HA5 := hide hA5
  have HO5 := hide ((unhide HO4).grown hg5 (by simp; omega))
  have HV5 := hide ((unhide HV4).below hb5)
  have Hb5 := hide ((unhide Hb4).trans hb5)
  clear hA5 hg5 hb5 HA4 HO4 HV4 Hb4
  go_wp2_with (refine wpList_loadAll 37 _ b X _ rfl rfl rfl (unhide HA5) Tryz.underlying37 rfl (unhide HTI) ?_)
  refine (unhide HBW w5).mono ?_
  rintro e w6 ⟨v6, rfl, hv6, hb6⟩
  have HA6 := hide ((unhide HA5).below hb6)
  have HO6 := hide ((unhide HO5).below hb6)
  have HT := hide (told_walk _ _ _ _ _ _ w6 hv6 ((unhide HV5).below (hb6.mono (by omega))))
  have Hb6 := hide ((unhide Hb5).trans (hb6.mono (by omega)))
  clear hv6 hb6 HA5 HO5 HV5 Hb5 HBW
  go_wp2_with fail
  refine (unhide HT).mono ?_
  rintro e w7 ⟨rfl, hw⟩
  subst hw
  clear HT
  cases hd : decide (bs ≠ [] ∧ bytesT t = bs) with
  | true =>
    rw [hd, if_pos rfl] at HP
    go_wp2_with (first
      | refine wpList_loadAll 37 _ b X _ rfl rfl rfl (unhide HA6) Tryz.underlying37 rfl (unhide HTI) ?_
      | refine wpList_storeAll 37 _ _ w.heap.size X zeroT.cs rfl rfl rfl rfl (unhide HO6) (by rw [unhide HTL]; rfl) (unhide HTI) (unhide HT1) ?_)
    intro w8 hA8 hg8 hs8
    have HA8 := hide hA8
    have Hb8 := hide ((unhide Hb6).grown hg8 (unhide Hb6).size (fun k hk => by simp at hk; omega))
    clear hA8 hg8
    go_wp2
    refine bodyPost_ret (v := .tuple #[.agg X.toArray, .int .i64 0]) ?_ rfl ⟨?_, unhide Hb8⟩
    · exact results_two Tryz.results15 rfl rfl (unhide HA8) Tryz.underlying37 rfl (unhide HTI)
    · rw [← unhide HP, unhide HX]
  | false =>
    rw [hd, if_neg (by simp)] at HP
    obtain ⟨Z, hZ⟩ : ∃ Z, Z = zeroT.cs := ⟨_, rfl⟩
    rw [← hZ] at HB0 HO6 HZI HZ1 HZL
    have HZ := hide hZ
    clear hZ
    go_wp2_with (first
      | refine wpList_build 37 _ Z [] rfl rfl rfl (unhide HB0) ?_
      | refine wpList_storeAll 37 _ _ w.heap.size Z Z rfl rfl rfl rfl (unhide HO6) rfl (unhide HZI) (unhide HZ1) ?_)
    intro w8 hA8 hg8 hs8
    have HA8 := hide hA8
    have Hb8 := hide ((unhide Hb6).grown hg8 (unhide Hb6).size (fun k hk => by simp at hk; omega))
    clear hA8 hg8
    go_wp2
    refine bodyPost_ret (v := .tuple #[.agg Z.toArray, .int .i64 111]) ?_ rfl ⟨?_, unhide Hb8⟩
    · exact results_two Tryz.results15 rfl rfl (unhide HA8) Tryz.underlying37 rfl (unhide HZI)
    · rw [← unhide HP, unhide HZ]
end Go.Proofs.YtdfdalkcljfghaaGreat.Slot

namespace Go.Proofs.YtdfdalkcljfghaaGreat.Slot
open Go.RowKit

/-! ### changes as cells -/
def csL (l : List C) : List Value := l.flatMap C.cs
theorem csL_length : ∀ {l : List C}, (∀ c ∈ l, FitC c) → (csL l).length = l.length * 40
  | [], _ => rfl
  | c :: l, h => by
    have e : csL (c :: l) = c.cs ++ csL l := rfl
    rw [e, List.length_append, ccs_length (h c (by simp)), csL_length (fun x hx => h x (by simp [hx])), List.length_cons]
    omega
theorem csL_range : ∀ {l : List C}, (∀ c ∈ l, FitC c) → ∀ {i : Nat}, i < l.length → ∀ j v, (l.getD i zeroC).cs[j]? = some v → (csL l)[i * 40 + j]? = some v
  | [], _, i, hi, _, _, _ => by simp at hi
  | c :: l, h, 0, _, j, v, hv => by
    have e : csL (c :: l) = c.cs ++ csL l := rfl
    have hj : j < c.cs.length := (List.getElem?_eq_some_iff.1 (by simpa using hv)).1
    rw [e, Nat.zero_mul, Nat.zero_add, List.getElem?_append_left hj]
    simpa using hv
  | c :: l, h, i + 1, hi, j, v, hv => by
    have e : csL (c :: l) = c.cs ++ csL l := rfl
    have h40 := ccs_length (h c (by simp))
    rw [e, List.getElem?_append_right (by omega), h40, show (i + 1) * 40 + j - 40 = i * 40 + j by omega]
    exact csL_range (fun x hx => h x (by simp [hx])) (by simpa using hi) j v (by simpa using hv)
theorem csL_set : ∀ {l : List C}, (∀ c ∈ l, FitC c) → ∀ (i : Nat) (c : C), i < l.length → FitC c → (csL l).take (i * 40) ++ (c.cs ++ (csL l).drop (i * 40 + c.cs.length)) = csL (l.set i c)
  | [], _, i, _, hi, _ => by simp at hi
  | x :: l, h, 0, c, _, hc => by
    have e : csL (x :: l) = x.cs ++ csL l := rfl
    have e2 : csL ((x :: l).set 0 c) = c.cs ++ csL l := rfl
    have h1 := ccs_length (h x (by simp))
    have h2 := ccs_length hc
    rw [e, e2, Nat.zero_mul, List.take_zero, List.nil_append, Nat.zero_add, h2, ← h1, List.drop_left]
  | x :: l, h, i + 1, c, hi, hc => by
    have e : csL (x :: l) = x.cs ++ csL l := rfl
    have e2 : csL ((x :: l).set (i + 1) c) = x.cs ++ csL (l.set i c) := rfl
    have h1 := ccs_length (h x (by simp))
    have h2 := ccs_length hc
    have ih := csL_set (l := l) (fun y hy => h y (by simp [hy])) i c (by simpa using hi) hc
    rw [h2] at ih ⊢
    rw [e, e2, ← ih, List.take_append, List.drop_append, h1, List.take_of_length_le (by omega), List.drop_eq_nil_of_le (by omega), show (i + 1) * 40 - 40 = i * 40 by omega, show (i + 1) * 40 + 40 - 40 = i * 40 + 40 by omega]
    simp
theorem csL_one (l : List C) : ∀ v ∈ csL l, v.oneCell' = true := by
  intro v hv
  obtain ⟨c, _, hc⟩ := List.mem_flatMap.1 hv
  exact ccs_one c v hc
theorem row_cells {w : World} {g n cap : Nat} {l : List C} (hA : Arr w g (csL l)) (hf : ∀ c ∈ l, FitC c) (hn : l.length = n) (hc : n ≤ cap) (hm : cap ≤ maxLen) : CRowV w.heap.size w (.slice (some ⟨g, 0, none⟩) n cap) l :=
  ⟨_, _, _, rfl, hc, hm, by simp, hn, hf, fun i hi => ⟨g, 0, rfl, hA.lt, fun j v hj => by
    rw [Nat.zero_add]
    exact hA.cell (csL_range hf (by omega) j v hj)⟩⟩
theorem full41 : ∃ i, Tryz.prog.info? 41 = some i ∧ i.zero = some zeroC.v ∧ i.size = 40 ∧ i.bytes = 96 := infoOf (by kernel_rfl)
theorem zeroCs (n : Nat) : ∀ c ∈ List.replicate n zeroC, FitC c := fun c hc => by
  rw [(List.mem_replicate.1 hc).2]; exact zeroC_fit
theorem made41 (n : Nat) : ((Array.range (n * 40)).map (zeroC.v.cells[· % zeroC.v.cells.size]!)).toList = csL (List.replicate n zeroC) := by
  have hs : zeroC.v.cells.size = 40 := by decide +kernel
  have he : zeroC.v.cells.toList = zeroC.cs := by kernel_rfl
  apply List.ext_getElem?
  intro j
  by_cases hj : j < n * 40
  · have hm : j % 40 < 40 := Nat.mod_lt _ (by decide)
    have hz : (zeroC.cs)[j % 40]? = some (zeroC.v.cells[j % 40]!) := by
      rw [← he, Array.getElem?_toList]
      have : j % 40 < zeroC.v.cells.size := by rw [hs]; exact hm
      rw [getElem!_pos zeroC.v.cells (j % 40) this]
      exact Array.getElem?_eq_getElem this
    have hr : (List.replicate n zeroC).getD (j / 40) zeroC = zeroC := by
      rw [List.getD_eq_getElem?_getD]
      by_cases hq : j / 40 < n
      · rw [List.getElem?_replicate, if_pos hq]; rfl
      · rw [List.getElem?_replicate, if_neg hq]; rfl
    have h2 := csL_range (zeroCs n) (i := j / 40) (by rw [List.length_replicate]; omega) (j % 40) _ (by rw [hr]; exact hz)
    rw [show j / 40 * 40 + j % 40 = j by omega] at h2
    rw [h2, hs]
    simp [hj]
  · rw [List.getElem?_eq_none (by simp; omega), List.getElem?_eq_none (by rw [csL_length (zeroCs n), List.length_replicate]; omega)]
theorem make41 (w : World) (n : Nat) (hn : n ≤ 4096) : ∃ Cc : Array Value, (Instr.makeSlice 43 (.int .i64 (n : Int)) (.int .i64 (n : Int))).run Tryz.prog w = .ok (.slice (some ⟨w.heap.size, 0, none⟩) n n) (w.alloc (.cells Cc 41)) ∧ Cc.toList = csL (List.replicate n zeroC) := by
  obtain ⟨i, i1, i2, i3, i4⟩ := full41
  have hr := run_makeSlice (P := Tryz.prog) w 43 41 i _ Tryz.underlying43 i1 i2 .i64 .i64 (n : Int) (n : Int) (by omega) (by omega) (by rw [i3, Int.toNat_natCast]; omega) (by rw [i4]; omega) (by omega)
  simp only [Int.toNat_natCast, i3] at hr
  exact ⟨_, hr, made41 n⟩
section
variable {ops : Array Oper} {rest : List Oper} {o : Oper} {a : Act} {w : World} {Q : Exit → Act → World → Prop}
theorem wpList_make41 (x y : Operand) (n : Nat) (hn : n ≤ 4096) (ho : o.op = .makeSlice 43 x y) (hg : o.guard = none) (hx : a.eval x = .int .i64 (n : Int)) (hy : a.eval y = .int .i64 (n : Int))
    (h : ∀ w', Arr w' w.heap.size (csL (List.replicate n zeroC)) → Below w.heap.size w w' → w'.heap.size = w.heap.size + 1 → wpList Tryz.prog ops Q rest (a.put o.dst (.slice (some ⟨w.heap.size, 0, none⟩) n n)) w') : wpList Tryz.prog ops Q (o :: rest) a w := by
  obtain ⟨Cc, hr, hC⟩ := make41 w n hn
  refine wpList_plain hg fun K hK => ?_
  have r : (execOp a.eval o).run Tryz.prog w = .ok (.value (.slice (some ⟨w.heap.size, 0, none⟩) n n)) (w.alloc (.cells Cc 41)) := by
    unfold execOp
    simp only [ho, hx, hy, Sem.run_bind, hr, Result.andThen_ok, Sem.run_pure]
  unfold Oper.wp
  rw [r, Oper.upon_value]
  exact hK _ _ (h _ ⟨_, _, heap_alloc_new w _, hC⟩ ((Below.refl _ _).alloc (Nat.le_refl _) _) (by simp))
end
/-- So many are read. -/
def someC (n k : Nat) (l : List UInt8) (e : Int) : List C := (rdN k l e).1 ++ List.replicate (n - k) zeroC
theorem someC_len {n k : Nat} (h : k ≤ n) (l : List UInt8) (e : Int) : (someC n k l e).length = n := by
  unfold someC; rw [List.length_append, rdN_length, List.length_replicate]; omega
theorem someC_fit (n k : Nat) (l : List UInt8) (e : Int) : ∀ c ∈ someC n k l e, FitC c := fun c hc => by
  rcases List.mem_append.1 hc with h | h
  · exact rdN_fit _ _ _ c h
  · exact zeroCs _ c h
theorem someC_set {n k : Nat} (h : k < n) (l : List UInt8) (e : Int) : (someC n k l e).set k (rdC (rdN k l e).2.1 (rdN k l e).2.2).1 = someC n (k + 1) l e := by
  unfold someC
  rw [rdN_snoc, List.set_append, if_neg (by rw [rdN_length]; omega), rdN_length, Nat.sub_self, show n - k = (n - (k + 1)) + 1 by omega, List.replicate_succ, List.set_cons_zero, List.append_assoc]
  rfl

set_option maxHeartbeats 3200000 in
set_option maxRecDepth 100000 in
theorem readChanges_walk (N r : Nat) (l : List UInt8) (er : Int) (w : World) (h : Rd N w r l er) (ho : Over l er) :
    Calls Tryz.prog 54 #[.pointer (some ⟨r, 0, none⟩)] w fun e w' => ∃ v, e = .returned v ∧ CRowV w'.heap.size w' v (rdN (fixL l er 1).1 (fixL l er 1).2.1 (fixL l er 1).2.2).1 ∧ w.grownBy w' (some r) := by
  have HO1 := hide (fixL_over ho 1)
  have hk := fixL_lt l er 1
  rw [show sizeN 1 = 1 from rfl] at hk
  have HRS := hide (readSmall_walk N r l er w h)
  have hrl := h.lt
  have hnr := h.1
  generalize fixL l er 1 = q at *
  clear h ho
  go_enter Tryz.func54, Tryz.ntmps54
  go_wp2_with fail
  refine (unhide HRS).mono ?_
  rintro e w1 ⟨rfl, hr, hg⟩
  have HR1 := hide hr
  have HG1 := hide hg
  have hs1 := hg.size
  clear hr hg HRS
  go_wp2_with (refine wpList_make41 _ _ q.1 (by omega) rfl rfl rfl rfl ?_)
  intro w2 hA2 hb2 hs2
  have HA2 := hide hA2
  have HR2 := hide ((unhide HR1).below hb2)
  have HG2 := hide (grown_below (unhide HG1) hb2)
  clear hA2 hb2 HR1 HG1
  clear hs2
  generalize w1.heap.size = b at *
  go_wp2_with fail
  go_loopw [10] (fun ci wr => ∃ k : Nat, k ≤ q.1 ∧ ci = .int .i64 (k : Int) ∧ Arr wr b (csL (someC q.1 k q.2.1 q.2.2)) ∧ Rd N wr r (rdN k q.2.1 q.2.2).2.1 (rdN k q.2.1 q.2.2).2.2 ∧ w.grownBy wr (some r)) (fun ci _ => q.1 - (intOf ci).toNat)
  case atStart => exact ⟨0, by omega, rfl, unhide HA2, unhide HR2, unhide HG2⟩
  case round =>
    obtain ⟨k, hk2, rfl, hA, hR, hg⟩ := hrel
    by_cases hlt : k < q.1
    · have HA := hide hA
      have HG := hide hg
      have HRW := hide (readChange_walk N r _ _ wr hR (rdN_over k (unhide HO1)))
      have hfc := rdC_fit (rdN k q.2.1 q.2.2).2.1 (rdN k q.2.1 q.2.2).2.2
      have HSET := hide (csL_set (someC_fit q.1 k q.2.1 q.2.2) k _ (by rw [someC_len (by omega)]; exact hlt) hfc)
      rw [someC_set hlt] at HSET
      have HNX : Hid ((rdN (k + 1) q.2.1 q.2.2).2 = (rdC (rdN k q.2.1 q.2.2).2.1 (rdN k q.2.1 q.2.2).2.2).2) := by
        rw [rdN_snoc]; exact hide rfl
      have HLL : Hid ((csL (someC q.1 k q.2.1 q.2.2)).length = q.1 * 40) := hide (by rw [csL_length (someC_fit _ _ _ _), someC_len (by omega)])
      have HCL := hide (ccs_length hfc)
      have HCI := hide (info41c hfc)
      have HC1 := hide (ccs_one (rdC (rdN k q.2.1 q.2.2).2.1 (rdN k q.2.1 q.2.2).2.2).1)
      clear hA hR hg hfc
      rw [← unhide HNX] at HRW
      unfold C.v at HRW
      generalize (rdC (rdN k q.2.1 q.2.2).2.1 (rdN k q.2.1 q.2.2).2.2).1.cs = Y at *
      generalize csL (someC q.1 k q.2.1 q.2.2) = X at *
      clear HNX
      have HRW2 : Hid (Calls Tryz.prog 92 #[.pointer (some ⟨r, 0, none⟩)] wr fun e w' => e = .returned (.agg Y.toArray) ∧ Rd N w' r (rdN (k + 1) q.2.1 q.2.2).2.1 (rdN (k + 1) q.2.1 q.2.2).2.2 ∧ wr.grownBy w' (some r)) := HRW
      clear HRW
      go_wp2_with fail
      refine (unhide HRW2).mono ?_
      rintro e w3 ⟨rfl, hr3, hg3⟩
      have HA3 := hide ((unhide HA).grown hg3 (by simp; omega))
      have HR3 := hide hr3
      have HG3 := hide (grown_two (unhide HG) hg3)
      clear hr3 hg3 HA HG HRW2
      go_wp2_with (refine wpList_storePart 41 _ _ b (k * 40) Y X rfl rfl rfl rfl (unhide HA3) (by rw [unhide HCL, unhide HLL]; omega) (unhide HCI) (unhide HC1) ?_)
      intro w4 hA4 hg4 hs4
      rw [unhide HSET] at hA4
      have HA4 := hide hA4
      have HR4 := hide ((unhide HR3).other hg4 (by omega) (by omega))
      have HG4 : Hid (w.grownBy w4 (some r)) := hide ⟨hg4.os.trans (unhide HG3).os, hg4.tape.trans (unhide HG3).tape, hg4.output.trans (unhide HG3).output, Nat.le_trans (unhide HG3).size hg4.size, fun i hi hne => by
        rw [hg4.block i (Nat.lt_of_lt_of_le hi (unhide HG3).size) (by simp; omega), (unhide HG3).block i hi hne]⟩
      clear hA4 hg4 HA3 HR3 HG3 HSET
      go_wp2
      go_roundw
      case rel => exact ⟨k + 1, by omega, by simp, unhide HA4, unhide HR4, unhide HG4⟩
      case measure => simp [intOf]; omega
    · obtain rfl : k = q.1 := by omega
      have hrow := row_cells hA (someC_fit _ _ _ _) (someC_len (Nat.le_refl _) _ _) (Nat.le_refl _) (show q.1 ≤ maxLen by simp only [maxLen]; omega)
      have hsm : someC q.1 q.1 q.2.1 q.2.2 = (rdN q.1 q.2.1 q.2.2).1 := by unfold someC; rw [Nat.sub_self, List.replicate_zero, List.append_nil]
      rw [hsm] at hrow
      have HW := hide hrow
      have HG := hide hg
      clear hA hR hg hrow hsm
      go_wp2
      go_ret
      exact ⟨_, rfl, unhide HW, unhide HG⟩

set_option maxHeartbeats 3200000 in
set_option maxRecDepth 100000 in
theorem get_walk (N : Nat) (v : Value) (bs : List UInt8) (w : World) (hN : N ≤ w.heap.size) (hr : RowV N w v bs) :
    Calls Tryz.prog 16 #[v] w fun e w' => ∃ u, e = .returned (.tuple #[u, .int .i64 (getF bs).2]) ∧ CRowV w'.heap.size w' u (getF bs).1 ∧ Below w.heap.size w w' := by
  have HV := hide (hr.up hN)
  obtain ⟨va, vn, vc, ev⟩ := RowV.sl hr
  subst ev
  have HGT : Hid (getF bs = if decide (bs ≠ [] ∧ putL (rdAll bs).1 = bs) = true then ((rdAll bs).1, 0) else ([], 111)) := by
    show _ = _
    unfold getF
    by_cases h : bs ≠ [] ∧ putL (rdAll bs).1 = bs
    · rw [if_pos h, if_pos (decide_eq_true h)]
    · rw [if_neg h, if_neg (by simpa using h)]
  have HRC : Hid (∀ N r w, Rd N w r bs 0 → Calls Tryz.prog 54 #[.pointer (some ⟨r, 0, none⟩)] w fun e w' => ∃ v, e = .returned v ∧ CRowV w'.heap.size w' v (rdAll bs).1 ∧ w.grownBy w' (some r)) := hide fun N r w h => readChanges_walk N r bs 0 w h (over0 bs)
  generalize getF bs = R at *
  generalize (rdAll bs).1 = L at *
  clear hr hN
  have HNW := hide (new_walk8 w.heap.size _ bs w (Nat.le_refl _) (unhide HV))
  go_enter Tryz.func16, Tryz.ntmps16
  go_wp2_with fail
  refine (unhide HNW).mono ?_
  rintro e w2 ⟨rfl, hrd, hb2⟩
  have HRD := hide hrd
  have hr1 := hrd.lt
  have HV2 := hide ((unhide HV).below hb2)
  have Hb2 := hide hb2
  clear hrd hb2 HV HNW
  go_wp2_with fail
  refine (unhide HRC _ w.heap.size w2 (unhide HRD)).mono ?_
  rintro e w3 ⟨u, rfl, hC3, hg3⟩
  have hb3 : Below w.heap.size w2 w3 := (Below.refl _ w2).grown hg3 (unhide Hb2).size (fun k hk => by simp at hk; omega)
  have HC3 := hide hC3
  have HV3 := hide ((unhide HV2).below hb3)
  have Hb3 := hide ((unhide Hb2).trans hb3)
  have hs3 : w.heap.size ≤ w3.heap.size := (unhide Hb3).size
  have hP := put_walk w3.heap.size u L w3 (Nat.le_refl _) hC3
  obtain ⟨ua, un, uc, eu, _⟩ := hC3
  subst eu
  have HP := hide hP
  clear hg3 hb3 HV2 Hb2 HRC HRD hP
  go_wp2_with fail
  refine (unhide HP).mono ?_
  rintro e w4 ⟨v4, rfl, hv4, hb4⟩
  have HC4 := hide (((unhide HC3).below hb4).up hb4.size)
  have HT := hide (told_walk _ _ _ _ _ _ w4 hv4 ((unhide HV3).below (hb4.mono hs3)))
  have Hb4 := hide ((unhide Hb3).trans (hb4.mono hs3))
  clear hv4 hb4 HC3 HV3 Hb3 HP
  go_wp2_with fail
  refine (unhide HT).mono ?_
  rintro e w5 ⟨rfl, hw⟩
  subst hw
  clear HT
  cases hd : decide (bs ≠ [] ∧ putL L = bs) with
  | true =>
    rw [hd, if_pos rfl] at HGT
    go_wp2
    go_ret2
    refine ⟨.slice ua un uc, ?_, ?_, unhide Hb4⟩
    · rw [unhide HGT]
      rfl
    · rw [unhide HGT]
      exact unhide HC4
  | false =>
    rw [hd, if_neg (by simp)] at HGT
    go_wp2
    go_ret2
    refine ⟨.slice none 0 0, ?_, ?_, unhide Hb4⟩
    · rw [unhide HGT]
      rfl
    · rw [unhide HGT]
      exact CRowV.nil _ _
end Go.Proofs.YtdfdalkcljfghaaGreat.Slot
