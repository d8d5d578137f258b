/-
  SlotTries: as often as it may, and no oftener.
-/
import Derived.Test.YtglphnmnnfpcoaaDoorSCells
namespace Go.Proofs.YtglphnmnnfpcoaaDoor.slotTries
open Go.RowKit

theorem ready_right {s : S} (hi : img s = true) {m : Int} (h0 : 0 ≤ m) (h7 : m ≤ 7) : right ⟨2, m, s.ver, s.sz, s.dg⟩ = true := by
  unfold right
  rw [if_neg (by simp), if_pos rfl, Bool.and_eq_true, decide_eq_true_eq]
  exact ⟨⟨h0, h7⟩, hi⟩
theorem good_right {s : S} (hi : img s = true) : right ⟨3, 0, s.ver, s.sz, s.dg⟩ = true := by
  unfold right
  rw [if_neg (by simp), if_neg (by simp), if_pos rfl, Bool.and_eq_true, decide_eq_true_eq]
  exact ⟨rfl, hi⟩
theorem run_same24 (G : List Value) (h : ∃ l : List UInt8, bytesV l = G ∧ l.length = 32) (w : World) : (Op.equalIn 10000 24 (.agg G.toArray) (.agg G.toArray)).run Tryd.prog w = .ok true w := by
  obtain ⟨l, rfl, hl⟩ := h
  rw [run_equal24 l l hl hl w, decide_eq_true rfl]

set_option maxHeartbeats 6400000 in
set_option maxRecDepth 100000 in
theorem walk_no (s : S) (after : Int) (w : World) (hT : Tabs w) (hf : Fit s) (hr : right ⟨2, s.tr, s.ver, s.sz, s.dg⟩ = false) : Calls Tryd.prog 9 #[s.v, .int .i64 after] w fun e w' => e = .returned (.bool true) ∧ Below w.heap.size w w' := by
  have HT := hide hT
  have hx : Fit ⟨2, s.tr, s.ver, s.sz, s.dg⟩ := ⟨by simp only; decide, by simp only; decide, hf.tr0, hf.tr1, hf.ver, hf.sz0, hf.sz1, hf.dg⟩
  obtain ⟨zR, hzR⟩ : ∃ zR : S, zR = zeroS := ⟨_, rfl⟩
  have hzd : zR.dg.length = 32 := by rw [hzR]; rfl
  have HzI := hide (info26s hzd)
  have HzL := hide (cs_length hzd)
  have Hz1 := hide (cs_one zR)
  have HzB : Hid (Tryd.prog.built 26 [] = some zR.cs.toArray) := by rw [hzR]; exact hide built26
  have HRe : Hid (∀ w : World, Calls Tryd.prog 27 #[.int .u64 (s.ver : Int), .int .i64 s.sz, .agg (bytesV s.dg).toArray, .int .i64 s.tr] w fun e w' => e = .returned (.tuple #[.agg zR.cs.toArray, .int .i64 101]) ∧ Below w.heap.size w w') := hide fun w => by
    have h := ready_walk s.ver s.sz s.dg s.tr hx w
    unfold checkedF at h
    rw [if_neg (by rw [hr]; simp), ← hzR] at h
    exact h
  have HBz := hide built26
  have Hal := hide alloc26
  have HGI := hide (info24s hf.dg)
  have HZ := hide (info26s (s := zeroS) rfl)
  have HZ1 := hide (cs_one zeroS)
  have HZL : Hid (zeroS.cs.length = 36) := hide rfl
  have H1 : Hid (s.cs[1]? = some (.int .i64 s.tr)) := hide rfl
  have H2 : Hid (s.cs[2]? = some (.int .u64 (s.ver : Int))) := hide rfl
  have H3 : Hid (s.cs[3]? = some (.int .i64 s.sz)) := hide rfl
  have H4 : Hid (∀ j v, (bytesV s.dg)[j]? = some v → s.cs[4 + j]? = some v) := by
    show ∀ j v, _
    intro j v hj
    rw [← hj, S.cs, Nat.add_comm]
    rfl
  have he := run_same26 zR.cs ⟨zR, rfl, hzd⟩
  unfold S.v
  clear hT hf hx hr hzR hzd
  generalize s.cs = K at *
  generalize bytesV s.dg = G at *
  go_enter Tryd.func9, Tryd.ntmps9
  go_wp2_with (refine wpList_box 26 _ K rfl rfl rfl ?_)
  intro w1 hA1 hb1 hs1
  have HC1 := hide (Cells.one hA1)
  have Hb1 := hide hb1
  have HT1 := hide ((unhide HT).below hb1)
  clear hA1 hb1
  go_wp2_with fail
  refine (alive_walk w1 (unhide HT1)).mono ?_
  rintro e w2 ⟨rfl, hb2⟩
  have HC2 := hide ((unhide HC1).below hb2)
  have Hb2 := hide ((unhide Hb1).trans (hb2.mono (unhide Hb1).size))
  clear hb2 HC1 Hb1 HT1
  have HK := hide ((unhide HC2).at 0 rfl)
  have d1 := (unhide HK).cell (unhide H1)
  have d2 := (unhide HK).cell (unhide H2)
  have d3 := (unhide HK).cell (unhide H3)
  have HRG := hide ((unhide HK).rangeMid 4 G (unhide H4))
  go_wp2_with (refine wpList_load_mid rfl 24 _ rfl w.heap.size 4 rfl G _ (unhide HRG) Tryd.underlying24 rfl (unhide HGI) ?_)
  refine (unhide HRe w2).mono ?_
  rintro e w3 ⟨rfl, hb3⟩
  have Hcl3 := hide hb3
  have Hbt3 := hide ((unhide Hb2).trans (hb3.mono (unhide Hb2).size))
  clear hb3
  go_wp2_with (refine wpList_alloc 26 26 zeroS.cs rfl rfl (unhide Hal) ?_)
  intro w3a hA hb hs
  have HA := hide hA
  have Hb := hide hb
  clear hA hb
  go_wp2_with (refine wpList_storeAll 26 _ _ w3.heap.size zR.cs zeroS.cs rfl rfl rfl rfl (unhide HA) (by rw [unhide HzL, unhide HZL]) (unhide HzI) (unhide Hz1) ?_)
  intro w3b hA hg hs2
  have HC3 := hide ((unhide HC2).add (unhide Hcl3) (unhide Hb) hg hA)
  have Hb3 := hide (below_add (unhide Hbt3) (unhide Hb) hg (unhide Hbt3).size)
  have Hle3 : Hid (w.heap.size ≤ w3.heap.size) := hide (unhide Hbt3).size
  have Hlo3 := hide (fun i (b : Nat) (cs : List Value) (hi : _ = some (b, cs)) => Nat.lt_of_lt_of_le ((unhide HC2).at i hi).lt (unhide Hcl3).size)
  clear hA hg HA Hb Hcl3 Hbt3 hs hs2
  generalize w3.heap.size = b3 at *
  have HF := hide ((unhide HC3).at 0 rfl)
  go_wp2_with (first
    | refine wpList_guarded rfl (wpList_loadAll 26 _ b3 zR.cs _ rfl rfl rfl (unhide HF) Tryd.underlying26 rfl (unhide HzI) ?_)
    | refine wpList_guarded rfl (wpList_build 26 _ zR.cs [] rfl rfl rfl (unhide HzB) ?_))
  go_ret
  exact ⟨rfl, unhide Hb3⟩

set_option maxHeartbeats 6400000 in
set_option maxRecDepth 100000 in
theorem walk_yes (s : S) (after : Int) (w : World) (hT : Tabs w) (hf : Fit s) (hr : right ⟨2, s.tr, s.ver, s.sz, s.dg⟩ = true) : Calls Tryd.prog 9 #[s.v, .int .i64 after] w fun e w' => e = .returned (.bool true) ∧ Below w.heap.size w w' := by
  have HT := hide hT
  have hx : Fit ⟨2, s.tr, s.ver, s.sz, s.dg⟩ := ⟨by simp only; decide, by simp only; decide, hf.tr0, hf.tr1, hf.ver, hf.sz0, hf.sz1, hf.dg⟩
  have hg := right_range hr
  have hi : img s = true := by
    rcases right_cases hr with ⟨h1, _⟩ | ⟨_, _, _, h4⟩ | ⟨h1, _⟩
    · simp only at h1; omega
    · exact h4
    · simp only at h1; omega
  obtain ⟨M, hM⟩ : ∃ M : Int → S, M = fun m => S.mk 2 m s.ver s.sz s.dg := ⟨_, rfl⟩
  obtain ⟨g3, hg3⟩ : ∃ g3 : S, g3 = S.mk 3 0 s.ver s.sz s.dg := ⟨_, rfl⟩
  have hfM : ∀ m : Int, 0 ≤ m → m ≤ 7 → Fit (M m) := fun m h0 h7 => by
    rw [hM]
    exact ⟨by simp only; decide, by simp only; decide, by simp only; omega, by simp only; omega, hf.ver, hf.sz0, hf.sz1, hf.dg⟩
  have hf3 : Fit g3 := by
    rw [hg3]
    exact ⟨by simp only; decide, by simp only; decide, by simp only; decide, by simp only; decide, hf.ver, hf.sz0, hf.sz1, hf.dg⟩
  have hrM : ∀ m : Int, 0 ≤ m → m ≤ 7 → right (M m) = true := fun m h0 h7 => by rw [hM]; exact ready_right hi h0 h7
  have hr3 : right g3 = true := by rw [hg3]; exact good_right hi
  have hst : ∀ m : Int, (M m).st = 2 ∧ (M m).tr = m := fun m => by rw [hM]; exact ⟨rfl, rfl⟩
  have HRe : Hid (∀ w : World, Calls Tryd.prog 27 #[.int .u64 (s.ver : Int), .int .i64 s.sz, .agg (bytesV s.dg).toArray, .int .i64 s.tr] w fun e w' => e = .returned (.tuple #[.agg (M s.tr).cs.toArray, .int .i64 0]) ∧ Below w.heap.size w w') := hide fun w => by
    have h := ready_walk s.ver s.sz s.dg s.tr hx w
    unfold checkedF at h
    rw [if_pos hr] at h
    rw [hM]
    exact h
  have HBo : Hid (∀ m : Int, 0 < m → m ≤ 7 → ∀ w : World, Calls Tryd.prog 16 #[.agg (M m).cs.toArray] w fun e w' => e = .returned (.bool true) ∧ Below w.heap.size w w') := hide fun m h0 h7 w => by
    have h := boot_walk (M m) (hfM m (by omega) h7) w
    rw [show boot (M m) = true by unfold boot; rw [hrM m (by omega) h7, (hst m).2, decide_eq_true h0]; simp] at h
    exact h
  have HB0 : Hid (∀ w : World, Calls Tryd.prog 16 #[.agg (M 0).cs.toArray] w fun e w' => e = .returned (.bool false) ∧ Below w.heap.size w w') := hide fun w => by
    have h := boot_walk (M 0) (hfM 0 (by omega) (by omega)) w
    rw [show boot (M 0) = false by unfold boot; rw [(hst 0).2, (hst 0).1]; simp] at h
    exact h
  have HTr : Hid (∀ m : Int, 0 < m → m ≤ 7 → ∀ w : World, Calls Tryd.prog 28 #[.agg (M m).cs.toArray] w fun e w' => e = .returned (.tuple #[.agg (M (m - 1)).cs.toArray, .int .i64 0]) ∧ Below w.heap.size w w') := hide fun m h0 h7 w => by
    have h := try_walk (M m) (hfM m (by omega) h7) w
    have e : tryF (M m) = (M (m - 1), 0) := by
      unfold tryF
      rw [if_pos ⟨by unfold boot; rw [hrM m (by omega) h7, (hst m).2, decide_eq_true h0]; simp, (hst m).1⟩, hM]
    rw [e] at h
    exact h
  obtain ⟨zR, hzR⟩ : ∃ zR : S, zR = zeroS := ⟨_, rfl⟩
  have hzd : zR.dg.length = 32 := by rw [hzR]; rfl
  have HzI := hide (info26s hzd)
  have HzL := hide (cs_length hzd)
  have Hz1 := hide (cs_one zR)
  obtain ⟨bR, hbR⟩ : ∃ bR : S, bR = bare 4 := ⟨_, rfl⟩
  have hbd : bR.dg.length = 32 := by rw [hbR]; rfl
  have HT0 : Hid (∀ w : World, Calls Tryd.prog 28 #[.agg (M 0).cs.toArray] w fun e w' => e = .returned (.tuple #[.agg zR.cs.toArray, .int .i64 101]) ∧ Below w.heap.size w w') := hide fun w => by
    have h := try_walk (M 0) (hfM 0 (by omega) (by omega)) w
    have e : tryF (M 0) = (zeroS, 101) := by
      unfold tryF
      rw [if_neg (fun e => by have e1 := e.1; unfold boot at e1; rw [(hst 0).2, (hst 0).1] at e1; simp at e1)]
    rw [e, ← hzR] at h
    exact h
  have HGo : Hid (∀ m : Int, 0 ≤ m → m ≤ 7 → ∀ w : World, Calls Tryd.prog 30 #[.agg (M m).cs.toArray] w fun e w' => e = .returned (.tuple #[.agg g3.cs.toArray, .int .i64 0]) ∧ Below w.heap.size w w') := hide fun m h0 h7 w => by
    have h := good_walk (M m) (hfM m h0 h7) w
    have e : goodF (M m) = (g3, 0) := by
      unfold goodF whole
      rw [if_pos (by rw [hrM m h0 h7, (hst m).1]; rfl), hM, hg3]
    rw [e] at h
    exact h
  have HTg : Hid (∀ w : World, Calls Tryd.prog 28 #[.agg g3.cs.toArray] w fun e w' => e = .returned (.tuple #[.agg zR.cs.toArray, .int .i64 101]) ∧ Below w.heap.size w w') := hide fun w => by
    have h := try_walk g3 hf3 w
    have e : tryF g3 = (zeroS, 101) := by
      unfold tryF
      rw [if_neg (fun e => by have e1 := e.2; rw [hg3] at e1; simp at e1)]
    rw [e, ← hzR] at h
    exact h
  have HBg : Hid (∀ w : World, Calls Tryd.prog 16 #[.agg g3.cs.toArray] w fun e w' => e = .returned (.bool true) ∧ Below w.heap.size w w') := hide fun w => by
    have h := boot_walk g3 hf3 w
    rw [show boot g3 = true by unfold boot; rw [hr3, hg3]; rfl] at h
    exact h
  have HBa : Hid (∀ w : World, Calls Tryd.prog 32 #[.agg (M 0).cs.toArray] w fun e w' => e = .returned (.tuple #[.agg bR.cs.toArray, .int .i64 0]) ∧ Below w.heap.size w w') := hide fun w => by
    have h := bad_walk (M 0) (hfM 0 (by omega) (by omega)) w
    have e : badF (M 0) = (bare 4, 0) := by
      unfold badF whole
      rw [if_pos (by rw [hrM 0 (by omega) (by omega), (hst 0).1]; rfl)]
    rw [e, ← hbR] at h
    exact h
  have HB4 : Hid (∀ w : World, Calls Tryd.prog 16 #[.agg bR.cs.toArray] w fun e w' => e = .returned (.bool false) ∧ Below w.heap.size w w') := hide fun w => by
    have h := boot_walk (bare 4) ⟨by decide, by decide, by decide, by decide, by decide, by decide, by decide, by decide⟩ w
    rw [show boot (bare 4) = false by decide +kernel, ← hbR] at h
    exact h
  have hMd : ∀ m, (M m).dg.length = 32 := fun m => by rw [hM]; exact hf.dg
  have h3d : g3.dg.length = 32 := hf3.dg
  have HMI := hide (fun m => info26s (hMd m))
  have HML := hide (fun m => cs_length (hMd m))
  have HM1 := hide (fun m => cs_one (M m))
  have HgI := hide (info26s h3d)
  have HgL := hide (cs_length h3d)
  have Hg1 := hide (cs_one g3)
  have H4I := hide (info26s hbd)
  have H4L := hide (cs_length hbd)
  have H41 := hide (cs_one bR)
  have HB4u : Hid (Tryd.prog.built 26 [(0, .int .i64 4)] = some bR.cs.toArray) := by rw [hbR]; exact hide (built26_st 4)
  have he4 := run_same26 bR.cs ⟨bR, rfl, hbd⟩
  have heG := run_same24 (bytesV s.dg) ⟨s.dg, rfl, hf.dg⟩
  have HMc : Hid (∀ m, (M m).cs[1]? = some (.int .i64 m) ∧ (M m).cs[2]? = some (.int .u64 (s.ver : Int)) ∧ (M m).cs[3]? = some (.int .i64 s.sz) ∧ ∀ j v, (bytesV s.dg)[j]? = some v → (M m).cs[4 + j]? = some v) := by
    show ∀ m, _
    intro m
    rw [hM]
    exact ⟨rfl, rfl, rfl, fun j v hj => by rw [← hj, S.cs, Nat.add_comm]; rfl⟩
  have Hgc : Hid (g3.cs[2]? = some (.int .u64 (s.ver : Int)) ∧ ∀ j v, (bytesV s.dg)[j]? = some v → g3.cs[4 + j]? = some v) := by
    show _ ∧ _
    rw [hg3]
    exact ⟨rfl, fun j v hj => by rw [← hj, S.cs, Nat.add_comm]; rfl⟩
  have ht0 : 0 ≤ s.tr := hg.2.2.1
  have ht7 : s.tr ≤ 7 := hg.2.2.2.1
  have HBz := hide built26
  have Hal := hide alloc26
  have HGI := hide (info24s hf.dg)
  have HZ := hide (info26s (s := zeroS) rfl)
  have HZ1 := hide (cs_one zeroS)
  have HZL : Hid (zeroS.cs.length = 36) := hide rfl
  have H1 : Hid (s.cs[1]? = some (.int .i64 s.tr)) := hide rfl
  have H2 : Hid (s.cs[2]? = some (.int .u64 (s.ver : Int))) := hide rfl
  have H3 : Hid (s.cs[3]? = some (.int .i64 s.sz)) := hide rfl
  have H4 : Hid (∀ j v, (bytesV s.dg)[j]? = some v → s.cs[4 + j]? = some v) := by
    show ∀ j v, _
    intro j v hj
    rw [← hj, S.cs, Nat.add_comm]
    rfl
  unfold S.v
  clear hT hf hx hr hg hi hfM hf3 hrM hr3 hst hMd h3d hM hg3 hzR hzd hbR hbd
  generalize s.cs = K at *
  generalize bytesV s.dg = G at *
  generalize s.tr = t0 at *
  generalize s.ver = ver at *
  generalize s.sz = z at *
  go_enter Tryd.func9, Tryd.ntmps9
  go_wp2_with (refine wpList_box 26 _ K rfl rfl rfl ?_)
  intro w1 hA1 hb1 hs1
  have HC1 := hide (Cells.one hA1)
  have Hb1 := hide hb1
  have HT1 := hide ((unhide HT).below hb1)
  clear hA1 hb1
  go_wp2_with fail
  refine (alive_walk w1 (unhide HT1)).mono ?_
  rintro e w2 ⟨rfl, hb2⟩
  have HC2 := hide ((unhide HC1).below hb2)
  have Hb2 := hide ((unhide Hb1).trans (hb2.mono (unhide Hb1).size))
  clear hb2 HC1 Hb1 HT1
  have HK := hide ((unhide HC2).at 0 rfl)
  have d1 := (unhide HK).cell (unhide H1)
  have d2 := (unhide HK).cell (unhide H2)
  have d3 := (unhide HK).cell (unhide H3)
  have HRG := hide ((unhide HK).rangeMid 4 G (unhide H4))
  go_wp2_with (refine wpList_load_mid rfl 24 _ rfl w.heap.size 4 rfl G _ (unhide HRG) Tryd.underlying24 rfl (unhide HGI) ?_)
  have HMIt := hide (unhide HMI t0)
  have HMLt := hide (unhide HML t0)
  have HM1t := hide (unhide HM1 t0)
  refine (unhide HRe w2).mono ?_
  rintro e w3 ⟨rfl, hb3⟩
  have Hcl3 := hide hb3
  have Hbt3 := hide ((unhide Hb2).trans (hb3.mono (unhide Hb2).size))
  clear hb3
  go_wp2_with (refine wpList_alloc 26 26 zeroS.cs rfl rfl (unhide Hal) ?_)
  intro w3a hA hb hs
  have HA := hide hA
  have Hb := hide hb
  clear hA hb
  go_wp2_with (refine wpList_storeAll 26 _ _ w3.heap.size (M t0).cs zeroS.cs rfl rfl rfl rfl (unhide HA) (by rw [unhide HMLt, unhide HZL]) (unhide HMIt) (unhide HM1t) ?_)
  intro w3b hA hg hs2
  have HC3 := hide ((unhide HC2).add (unhide Hcl3) (unhide Hb) hg hA)
  have Hb3 := hide (below_add (unhide Hbt3) (unhide Hb) hg (unhide Hbt3).size)
  have Hle3 : Hid (w.heap.size ≤ w3.heap.size) := hide (unhide Hbt3).size
  have Hlo3 := hide (fun i (b : Nat) (cs : List Value) (hi : _ = some (b, cs)) => Nat.lt_of_lt_of_le ((unhide HC2).at i hi).lt (unhide Hcl3).size)
  clear hA hg HA Hb Hcl3 Hbt3 hs hs2
  have Hlt3 : Hid (w.heap.size < w3.heap.size) := hide (unhide Hlo3 0 _ _ rfl)
  clear HK d1 d2 d3 HRG Hlo3 HC2 Hb2 HRe
  generalize w3.heap.size = b3 at *
  have HK := hide ((unhide HC3).at 1 rfl)
  have d1 := (unhide HK).cell (unhide H1)
  go_wp2_with fail
  go_loopw [7] (fun n wr => ∃ m : Int, n = .int .i64 m ∧ 0 ≤ m ∧ m ≤ 7 ∧ Cells wr [(b3, (M m).cs), (w.heap.size, K)] ∧ Below w.heap.size w wr) (fun n _ => (intOf n).toNat)
  case atStart => exact ⟨t0, rfl, ht0, ht7, unhide HC3, unhide Hb3⟩
  case round =>
    obtain ⟨m, rfl, hm0, hm7, hC, hb⟩ := hrel
    have HC := hide hC
    have Hb := hide hb
    clear hC hb HC3 Hb3 HK d1 HMIt HMLt HM1t
    have HN := hide ((unhide HC).at 0 rfl)
    have HK := hide ((unhide HC).at 1 rfl)
    have d2 := (unhide HK).cell (unhide H2)
    have d3 := (unhide HK).cell (unhide H3)
    have HRG := hide ((unhide HK).rangeMid 4 G (unhide H4))
    have HMIm := hide (unhide HMI m)
    have HMLm := hide (unhide HML m)
    by_cases hpos : 0 < m
    · by_cases haf : m = after
      · have ea : (m == after) = true := by simpa using haf
        have HGm := hide (unhide HGo m hm0 hm7)
        clear haf
        go_wp2_with (refine wpList_loadAll 26 _ b3 (M m).cs _ rfl rfl rfl (unhide HN) Tryd.underlying26 rfl (unhide HMIm) ?_)
        refine (unhide HGm wr).mono ?_
        rintro e w10 ⟨rfl, hb10⟩
        have Hcl10 := hide hb10
        have Hbt10 := hide ((unhide Hb).trans (hb10.mono (unhide Hb).size))
        clear hb10
        go_wp2_with (refine wpList_alloc 26 26 zeroS.cs rfl rfl (unhide Hal) ?_)
        intro w10a hA hb hs
        have HA := hide hA
        have Hb := hide hb
        clear hA hb
        go_wp2_with (refine wpList_storeAll 26 _ _ w10.heap.size g3.cs zeroS.cs rfl rfl rfl rfl (unhide HA) (by rw [unhide HgL, unhide HZL]) (unhide HgI) (unhide Hg1) ?_)
        intro w10b hA hg hs2
        have HC10 := hide ((unhide HC).add (unhide Hcl10) (unhide Hb) hg hA)
        have Hb10 := hide (below_add (unhide Hbt10) (unhide Hb) hg (unhide Hbt10).size)
        have Hle10 : Hid (w.heap.size ≤ w10.heap.size) := hide (unhide Hbt10).size
        have Hlo10 := hide (fun i (b : Nat) (cs : List Value) (hi : _ = some (b, cs)) => Nat.lt_of_lt_of_le ((unhide HC).at i hi).lt (unhide Hcl10).size)
        clear hA hg HA Hb Hcl10 Hbt10 hs hs2
        have HF := hide ((unhide HC10).at 0 rfl)
        generalize w10.heap.size = b10 at *
        go_wp2_with (refine wpList_loadAll 26 _ b10 g3.cs _ rfl rfl rfl (unhide HF) Tryd.underlying26 rfl (unhide HgI) ?_)
        refine (unhide HTg w10b).mono ?_
        rintro e w11 ⟨rfl, hb11⟩
        have Hcl11 := hide hb11
        have Hbt11 := hide ((unhide Hb10).trans (hb11.mono (unhide Hb10).size))
        clear hb11
        go_wp2_with (refine wpList_alloc 26 26 zeroS.cs rfl rfl (unhide Hal) ?_)
        intro w11a hA hb hs
        have HA := hide hA
        have Hb := hide hb
        clear hA hb
        go_wp2_with (refine wpList_storeAll 26 _ _ w11.heap.size zR.cs zeroS.cs rfl rfl rfl rfl (unhide HA) (by rw [unhide HzL, unhide HZL]) (unhide HzI) (unhide Hz1) ?_)
        intro w11b hA hg hs2
        have HC11 := hide ((unhide HC10).add (unhide Hcl11) (unhide Hb) hg hA)
        have Hb11 := hide (below_add (unhide Hbt11) (unhide Hb) hg (unhide Hbt11).size)
        have Hle11 : Hid (w.heap.size ≤ w11.heap.size) := hide (unhide Hbt11).size
        have Hlo11 := hide (fun i (b : Nat) (cs : List Value) (hi : _ = some (b, cs)) => Nat.lt_of_lt_of_le ((unhide HC10).at i hi).lt (unhide Hcl11).size)
        clear hA hg HA Hb Hcl11 Hbt11 hs hs2
        generalize w11.heap.size = b11 at *
        have HF := hide ((unhide HC11).at 1 rfl)
        have HK := hide ((unhide HC11).at 3 rfl)
        go_wp2_with (refine wpList_guarded rfl (wpList_loadAll 26 _ b10 g3.cs _ rfl rfl rfl (unhide HF) Tryd.underlying26 rfl (unhide HgI) ?_))
        refine (unhide HBg w11b).mono ?_
        rintro e w12 ⟨rfl, hb12⟩
        have HF := hide ((unhide HF).below hb12)
        have HK := hide ((unhide HK).below hb12)
        have Hb12 := hide ((unhide Hb11).trans (hb12.mono (unhide Hb11).size))
        clear hb12
        have x2 := (unhide HF).cell (unhide Hgc).1
        have y2 := (unhide HK).cell (unhide H2)
        have HR1 := hide ((unhide HF).rangeMid 4 G (unhide Hgc).2)
        have HR2 := hide ((unhide HK).rangeMid 4 G (unhide H4))
        go_wp2_with (first
          | refine wpList_guarded rfl (wpList_load_mid rfl 24 _ rfl b10 4 rfl G _ (unhide HR1) Tryd.underlying24 rfl (unhide HGI) ?_)
          | refine wpList_guarded rfl (wpList_load_mid rfl 24 _ rfl w.heap.size 4 rfl G _ (unhide HR2) Tryd.underlying24 rfl (unhide HGI) ?_))
        go_ret
        exact ⟨rfl, unhide Hb12⟩
      · have ea : (m == after) = false := by simpa using haf
        have HBm := hide (unhide HBo m hpos hm7)
        have HTm := hide (unhide HTr m hpos hm7)
        have HMIp := hide (unhide HMI (m - 1))
        have HMLp := hide (unhide HML (m - 1))
        have HM1p := hide (unhide HM1 (m - 1))
        have HMcp := hide (unhide HMc (m - 1))
        clear haf
        go_wp2_with (refine wpList_loadAll 26 _ b3 (M m).cs _ rfl rfl rfl (unhide HN) Tryd.underlying26 rfl (unhide HMIm) ?_)
        refine (unhide HBm wr).mono ?_
        rintro e w9 ⟨rfl, hb9⟩
        have HC9 := hide ((unhide HC).below hb9)
        have Hb9 := hide ((unhide Hb).trans (hb9.mono (unhide Hb).size))
        clear hb9 HN HK d2 d3 HRG
        have HN := hide ((unhide HC9).at 0 rfl)
        go_wp2_with (refine wpList_loadAll 26 _ b3 (M m).cs _ rfl rfl rfl (unhide HN) Tryd.underlying26 rfl (unhide HMIm) ?_)
        refine (unhide HTm w9).mono ?_
        rintro e w10 ⟨rfl, hb10⟩
        have Hcl10 := hide hb10
        have Hbt10 := hide ((unhide Hb9).trans (hb10.mono (unhide Hb9).size))
        clear hb10
        go_wp2_with (refine wpList_alloc 26 26 zeroS.cs rfl rfl (unhide Hal) ?_)
        intro w10a hA hb hs
        have HA := hide hA
        have Hb := hide hb
        clear hA hb
        go_wp2_with (refine wpList_storeAll 26 _ _ w10.heap.size (M (m - 1)).cs zeroS.cs rfl rfl rfl rfl (unhide HA) (by rw [unhide HMLp, unhide HZL]) (unhide HMIp) (unhide HM1p) ?_)
        intro w10b hA hg hs2
        have HC10 := hide ((unhide HC9).add (unhide Hcl10) (unhide Hb) hg hA)
        have Hb10 := hide (below_add (unhide Hbt10) (unhide Hb) hg (unhide Hbt10).size)
        have Hle10 : Hid (w.heap.size ≤ w10.heap.size) := hide (unhide Hbt10).size
        have Hlo10 := hide (fun i (b : Nat) (cs : List Value) (hi : _ = some (b, cs)) => Nat.lt_of_lt_of_le ((unhide HC9).at i hi).lt (unhide Hcl10).size)
        clear hA hg HA Hb Hcl10 Hbt10 hs hs2
        have Hlt10 : Hid (b3 < w10.heap.size) := hide (unhide Hlo10 0 _ _ rfl)
        generalize w10.heap.size = b10 at *
        have HF := hide ((unhide HC10).at 0 rfl)
        have HN := hide ((unhide HC10).at 1 rfl)
        have HK := hide ((unhide HC10).at 2 rfl)
        have x1 := (unhide HF).cell (unhide HMcp).1
        have x2 := (unhide HF).cell (unhide HMcp).2.1
        have x3 := (unhide HF).cell (unhide HMcp).2.2.1
        have y2 := (unhide HK).cell (unhide H2)
        have y3 := (unhide HK).cell (unhide H3)
        have HR1 := hide ((unhide HF).rangeMid 4 G (unhide HMcp).2.2.2)
        have HR2 := hide ((unhide HK).rangeMid 4 G (unhide H4))
        go_wp2_with (first
          | refine wpList_guarded rfl (wpList_load_mid rfl 24 _ rfl b10 4 rfl G _ (unhide HR1) Tryd.underlying24 rfl (unhide HGI) ?_)
          | refine wpList_guarded rfl (wpList_load_mid rfl 24 _ rfl w.heap.size 4 rfl G _ (unhide HR2) Tryd.underlying24 rfl (unhide HGI) ?_)
          | refine wpList_loadAll 26 _ b10 (M (m - 1)).cs _ rfl rfl rfl (unhide HF) Tryd.underlying26 rfl (unhide HMIp) ?_
          | refine wpList_storeAll 26 _ _ b3 (M (m - 1)).cs (M m).cs rfl rfl rfl rfl (unhide HN) (by rw [unhide HMLm, unhide HMLp]) (unhide HMIp) (unhide HM1p) ?_)
        intro w11 hA11 hg11 hs11
        have HCe : Hid (Cells w11 [(b3, (M (m - 1)).cs), (w.heap.size, K)]) := by
          show Cells _ _
          intro p hp
          simp only [List.mem_cons, List.not_mem_nil, or_false] at hp
          rcases hp with rfl | rfl
          · exact hA11
          · exact (unhide HK).grown hg11 (by have := unhide Hlt3; simp; omega)
        have Hb11 := hide ((unhide Hb10).grown hg11 (unhide Hb10).size (fun k hk => by have := unhide Hlt3; simp at hk; omega))
        clear hA11 hg11 hs11 HF HN HK x1 x2 x3 y2 y3 HR1 HR2
        go_wp2
        go_roundw
        case rel => exact ⟨m - 1, rfl, by omega, by omega, unhide HCe, unhide Hb11⟩
        case measure => simp [intOf]; omega
    · obtain rfl : m = 0 := by omega
      clear hpos
      go_wp2_with (refine wpList_loadAll 26 _ b3 (M 0).cs _ rfl rfl rfl (unhide HN) Tryd.underlying26 rfl (unhide HMIm) ?_)
      refine (unhide HT0 wr).mono ?_
      rintro e w10 ⟨rfl, hb10⟩
      have Hcl10 := hide hb10
      have Hbt10 := hide ((unhide Hb).trans (hb10.mono (unhide Hb).size))
      clear hb10
      go_wp2_with (refine wpList_alloc 26 26 zeroS.cs rfl rfl (unhide Hal) ?_)
      intro w10a hA hb hs
      have HA := hide hA
      have Hb := hide hb
      clear hA hb
      go_wp2_with (refine wpList_storeAll 26 _ _ w10.heap.size zR.cs zeroS.cs rfl rfl rfl rfl (unhide HA) (by rw [unhide HzL, unhide HZL]) (unhide HzI) (unhide Hz1) ?_)
      intro w10b hA hg hs2
      have HC10 := hide ((unhide HC).add (unhide Hcl10) (unhide Hb) hg hA)
      have Hb10 := hide (below_add (unhide Hbt10) (unhide Hb) hg (unhide Hbt10).size)
      have Hle10 : Hid (w.heap.size ≤ w10.heap.size) := hide (unhide Hbt10).size
      have Hlo10 := hide (fun i (b : Nat) (cs : List Value) (hi : _ = some (b, cs)) => Nat.lt_of_lt_of_le ((unhide HC).at i hi).lt (unhide Hcl10).size)
      clear hA hg HA Hb Hcl10 Hbt10 hs hs2
      generalize w10.heap.size = b10 at *
      have HN := hide ((unhide HC10).at 1 rfl)
      go_wp2_with (refine wpList_loadAll 26 _ b3 (M 0).cs _ rfl rfl rfl (unhide HN) Tryd.underlying26 rfl (unhide HMIm) ?_)
      refine (unhide HBa w10b).mono ?_
      rintro e w11 ⟨rfl, hb11⟩
      have Hcl11 := hide hb11
      have Hbt11 := hide ((unhide Hb10).trans (hb11.mono (unhide Hb10).size))
      clear hb11
      go_wp2_with (refine wpList_alloc 26 26 zeroS.cs rfl rfl (unhide Hal) ?_)
      intro w11a hA hb hs
      have HA := hide hA
      have Hb := hide hb
      clear hA hb
      go_wp2_with (refine wpList_storeAll 26 _ _ w11.heap.size bR.cs zeroS.cs rfl rfl rfl rfl (unhide HA) (by rw [unhide H4L, unhide HZL]) (unhide H4I) (unhide H41) ?_)
      intro w11b hA hg hs2
      have HC11 := hide ((unhide HC10).add (unhide Hcl11) (unhide Hb) hg hA)
      have Hb11 := hide (below_add (unhide Hbt11) (unhide Hb) hg (unhide Hbt11).size)
      have Hle11 : Hid (w.heap.size ≤ w11.heap.size) := hide (unhide Hbt11).size
      have Hlo11 := hide (fun i (b : Nat) (cs : List Value) (hi : _ = some (b, cs)) => Nat.lt_of_lt_of_le ((unhide HC10).at i hi).lt (unhide Hcl11).size)
      clear hA hg HA Hb Hcl11 Hbt11 hs hs2
      generalize w11.heap.size = b11 at *
      have HN := hide ((unhide HC11).at 2 rfl)
      have HF := hide ((unhide HC11).at 0 rfl)
      go_wp2_with (refine wpList_guarded rfl (wpList_loadAll 26 _ b3 (M 0).cs _ rfl rfl rfl (unhide HN) Tryd.underlying26 rfl (unhide HMIm) ?_))
      refine (unhide HB0 w11b).mono ?_
      rintro e w12 ⟨rfl, hb12⟩
      have HF := hide ((unhide HF).below hb12)
      have Hb12 := hide ((unhide Hb11).trans (hb12.mono (unhide Hb11).size))
      clear hb12
      go_wp2_with (first
        | refine wpList_guarded rfl (wpList_loadAll 26 _ b11 bR.cs _ rfl rfl rfl (unhide HF) Tryd.underlying26 rfl (unhide H4I) ?_)
        | refine wpList_guarded rfl (wpList_build 26 _ bR.cs _ rfl rfl rfl (unhide HB4u) ?_))
      refine (unhide HB4 w12).mono ?_
      rintro e w13 ⟨rfl, hb13⟩
      have Hb13 := hide ((unhide Hb12).trans (hb13.mono (unhide Hb12).size))
      clear hb13
      go_wp2
      go_ret
      exact ⟨rfl, unhide Hb13⟩

theorem walk (s : S) (after : Int) (w : World) (hT : Tabs w) (hf : Fit s) {p : Prop} (_ : p) : Calls Tryd.prog 9 #[s.v, .int .i64 after] w fun e w' => e = .returned (.bool true) ∧ Below w.heap.size w w' := by
  cases hr : right ⟨2, s.tr, s.ver, s.sz, s.dg⟩ with
  | true => exact walk_yes s after w hT hf hr
  | false => exact walk_no s after w hT hf hr
end Go.Proofs.YtglphnmnnfpcoaaDoor.slotTries
