/-
  SlotMoves: what any slot becomes is what the document says.
-/
import Derived.Test.YtglphnmnnfpcoaaDoorSCells
namespace Go.Proofs.YtglphnmnnfpcoaaDoor.slotMoves
open Go.RowKit

set_option maxHeartbeats 6400000 in
set_option maxRecDepth 100000 in
theorem walk (s : S) (w : World) (hT : Tabs w) (hf : Fit s) : Calls Tryd.prog 6 #[s.v] w fun e w' => e = .returned (.bool true) ∧ Below w.heap.size w w' := by
  have HT := hide hT
  have hx : Fit ⟨2, s.tr, s.ver, s.sz, s.dg⟩ := ⟨by simp only; decide, by simp only; decide, hf.tr0, hf.tr1, hf.ver, hf.sz0, hf.sz1, hf.dg⟩
  have HRe : Hid (∀ w : World, Calls Tryd.prog 27 #[.int .u64 (s.ver : Int), .int .i64 s.sz, .agg (bytesV s.dg).toArray, .int .i64 s.tr] w fun e w' => e = .returned (.tuple #[.agg (checkedF ⟨2, s.tr, s.ver, s.sz, s.dg⟩).1.cs.toArray, .int .i64 (checkedF ⟨2, s.tr, s.ver, s.sz, s.dg⟩).2]) ∧ Below w.heap.size w w') := hide (ready_walk s.ver s.sz s.dg s.tr hx)
  have HRi : Hid (∀ w : World, Calls Tryd.prog 15 #[.agg (S.mk 2 s.tr s.ver s.sz s.dg).cs.toArray] w fun e w' => e = .returned (.bool (right ⟨2, s.tr, s.ver, s.sz, s.dg⟩)) ∧ Below w.heap.size w w') := hide (rright_walk ⟨2, s.tr, s.ver, s.sz, s.dg⟩ hx)
  have HTr : Hid (∀ w : World, Calls Tryd.prog 28 #[.agg s.cs.toArray] w fun e w' => e = .returned (.tuple #[.agg (tryF s).1.cs.toArray, .int .i64 (tryF s).2]) ∧ Below w.heap.size w w') := hide (try_walk s hf)
  have HTd : Hid (∀ w : World, Calls Tryd.prog 29 #[.agg s.cs.toArray] w fun e w' => e = .returned (.tuple #[.agg (tryF s).1.cs.toArray, .int .i64 (tryF s).2]) ∧ Below w.heap.size w w') := hide (rtry_walk s hf)
  have HGo : Hid (∀ w : World, Calls Tryd.prog 30 #[.agg s.cs.toArray] w fun e w' => e = .returned (.tuple #[.agg (goodF s).1.cs.toArray, .int .i64 (goodF s).2]) ∧ Below w.heap.size w w') := hide (good_walk s hf)
  have HGd : Hid (∀ w : World, Calls Tryd.prog 31 #[.agg s.cs.toArray] w fun e w' => e = .returned (.tuple #[.agg (goodF s).1.cs.toArray, .int .i64 (goodF s).2]) ∧ Below w.heap.size w w') := hide (rgood_walk s hf)
  have HBa : Hid (∀ w : World, Calls Tryd.prog 32 #[.agg s.cs.toArray] w fun e w' => e = .returned (.tuple #[.agg (badF s).1.cs.toArray, .int .i64 (badF s).2]) ∧ Below w.heap.size w w') := hide (bad_walk s hf)
  have HBd : Hid (∀ w : World, Calls Tryd.prog 33 #[.agg s.cs.toArray] w fun e w' => e = .returned (.tuple #[.agg (badF s).1.cs.toArray, .int .i64 (badF s).2]) ∧ Below w.heap.size w w') := hide (rbad_walk s hf)
  have HBu := hide (built26_all 2 s.tr s.sz s.ver s.dg hf.dg)
  have HBz := hide built26
  have Hal := hide alloc26
  have HS := hide (info26s hf.dg)
  have HGI := hide (info24s hf.dg)
  have HZ := hide (info26s (s := zeroS) rfl)
  have HZ1 := hide (cs_one zeroS)
  have HX := hide (info26s hx.dg)
  have HX1 := hide (cs_one ⟨2, s.tr, s.ver, s.sz, s.dg⟩)
  have HXL := hide (cs_length hx.dg)
  have HZL : Hid (zeroS.cs.length = 36) := hide rfl
  have Hc : Hid (right ⟨2, s.tr, s.ver, s.sz, s.dg⟩ = true → (checkedF ⟨2, s.tr, s.ver, s.sz, s.dg⟩).1 = ⟨2, s.tr, s.ver, s.sz, s.dg⟩ ∧ (checkedF ⟨2, s.tr, s.ver, s.sz, s.dg⟩).2 = 0) := by
    show right _ = true → _
    intro h; unfold checkedF; rw [if_pos h]; exact ⟨rfl, rfl⟩
  have Hd : Hid (right ⟨2, s.tr, s.ver, s.sz, s.dg⟩ = false → (checkedF ⟨2, s.tr, s.ver, s.sz, s.dg⟩).1 = zeroS ∧ (checkedF ⟨2, s.tr, s.ver, s.sz, s.dg⟩).2 = 101) := by
    show right _ = false → _
    intro h; unfold checkedF; rw [if_neg (by rw [h]; simp)]; exact ⟨rfl, rfl⟩
  have heA := run_same26 (checkedF ⟨2, s.tr, s.ver, s.sz, s.dg⟩).1.cs ⟨_, rfl, checked_dg hx.dg⟩
  have HiA := hide (info26s (checked_dg hx.dg))
  have HlA := hide (cs_length (checked_dg hx.dg))
  have HoA := hide (cs_one (checkedF ⟨2, s.tr, s.ver, s.sz, s.dg⟩).1)
  have heB := run_same26 (tryF s).1.cs ⟨_, rfl, try_dg hf.dg⟩
  have HiB := hide (info26s (try_dg hf.dg))
  have HlB := hide (cs_length (try_dg hf.dg))
  have HoB := hide (cs_one (tryF s).1)
  have heC := run_same26 (goodF s).1.cs ⟨_, rfl, good_dg hf.dg⟩
  have HiC := hide (info26s (good_dg hf.dg))
  have HlC := hide (cs_length (good_dg hf.dg))
  have HoC := hide (cs_one (goodF s).1)
  have heD := run_same26 (badF s).1.cs ⟨_, rfl, bad_dg s⟩
  have HiD := hide (info26s (bad_dg s))
  have HlD := hide (cs_length (bad_dg s))
  have HoD := hide (cs_one (badF s).1)
  have H1 : Hid (s.cs[1]? = some (.int .i64 s.tr)) := hide rfl
  have H2 : Hid (s.cs[2]? = some (.int .u64 (s.ver : Int))) := hide rfl
  have H3 : Hid (s.cs[3]? = some (.int .i64 s.sz)) := hide rfl
  have H4 : Hid (∀ j v, (bytesV s.dg)[j]? = some v → s.cs[4 + j]? = some v) := by
    show ∀ j v, _
    intro j v hj
    rw [← hj, S.cs, Nat.add_comm]
    rfl
  unfold S.v
  clear hT hf hx
  generalize s.cs = K at *
  generalize bytesV s.dg = G at *
  generalize (S.mk 2 s.tr s.ver s.sz s.dg) = X at *
  generalize (checkedF X).1 = AA at *
  generalize (checkedF X).2 = eA at *
  generalize (tryF s).1 = AB at *
  generalize (tryF s).2 = eB at *
  generalize (goodF s).1 = AC at *
  generalize (goodF s).2 = eC at *
  generalize (badF s).1 = AD at *
  generalize (badF s).2 = eD at *
  generalize right X = R at *
  go_enter Tryd.func6, Tryd.ntmps6
  go_wp2_with (refine wpList_box 26 _ K rfl rfl rfl ?_)
  intro w1 hA1 hb1 hs1
  have HC1 := hide (Cells.one hA1)
  have Hb1 := hide hb1
  have HT1 := hide ((unhide HT).below hb1)
  clear hA1 hb1
  go_wp2_with fail
  refine (alive_walk w1 (unhide HT1)).mono ?_
  rintro e w2 ⟨rfl, hb2⟩
  have HC2 := hide ((unhide HC1).below hb2)
  have Hb2 := hide ((unhide Hb1).trans (hb2.mono (unhide Hb1).size))
  clear hb2 HC1 Hb1 HT1
  have HK := hide ((unhide HC2).at 0 rfl)
  have d1 := (unhide HK).cell (unhide H1)
  have d2 := (unhide HK).cell (unhide H2)
  have d3 := (unhide HK).cell (unhide H3)
  have HRG := hide ((unhide HK).rangeMid 4 G (unhide H4))
  go_wp2_with (refine wpList_load_mid rfl 24 _ rfl w.heap.size 4 rfl G _ (unhide HRG) Tryd.underlying24 rfl (unhide HGI) ?_)
  refine (unhide HRe w2).mono ?_
  rintro e w3 ⟨rfl, hb3⟩
  have Hcl3 := hide hb3
  have Hbt3 := hide ((unhide Hb2).trans (hb3.mono (unhide Hb2).size))
  clear hb3
  go_wp2_with (refine wpList_alloc 26 26 zeroS.cs rfl rfl (unhide Hal) ?_)
  intro w3a hA hb hs
  have HA := hide hA
  have Hb := hide hb
  clear hA hb
  go_wp2_with (refine wpList_storeAll 26 _ _ w3.heap.size AA.cs zeroS.cs rfl rfl rfl rfl (unhide HA) (by rw [unhide HlA, unhide HZL]) (unhide HiA) (unhide HoA) ?_)
  intro w3b hA hg hs2
  have HC3 := hide ((unhide HC2).add (unhide Hcl3) (unhide Hb) hg hA)
  have Hb3 := hide (below_add (unhide Hbt3) (unhide Hb) hg (unhide Hbt3).size)
  have Hlt3 := hide (fun i (b : Nat) (cs : List Value) (hi : _ = some (b, cs)) => Nat.lt_of_lt_of_le ((unhide HC2).at i hi).lt (unhide Hcl3).size)
  clear hA hg HA Hb Hcl3 Hbt3 HC2 Hb2 hs hs2
  generalize w3.heap.size = b3 at *
  clear HK d1 d2 d3 HRG
  have HK := hide ((unhide HC3).at 1 rfl)
  have d1 := (unhide HK).cell (unhide H1)
  have d2 := (unhide HK).cell (unhide H2)
  have d3 := (unhide HK).cell (unhide H3)
  have HRG := hide ((unhide HK).rangeMid 4 G (unhide H4))
  go_wp2_with (first
    | refine wpList_load_mid rfl 24 _ rfl w.heap.size 4 rfl G _ (unhide HRG) Tryd.underlying24 rfl (unhide HGI) ?_
    | refine wpList_build 26 _ X.cs _ rfl rfl rfl (unhide HBu) ?_
    | refine wpList_alloc 26 26 zeroS.cs rfl rfl (unhide Hal) ?_)
  intro w4a hA hb hs
  have HA := hide hA
  have Hb := hide hb
  clear hA hb HK d1 d2 d3 HRG
  go_wp2_with (refine wpList_storeAll 26 _ _ w3b.heap.size X.cs zeroS.cs rfl rfl rfl rfl (unhide HA) (by rw [unhide HXL, unhide HZL]) (unhide HX) (unhide HX1) ?_)
  intro w4b hA hg hs2
  have HC4 := hide ((unhide HC3).add (Below.refl _ _) (unhide Hb) hg hA)
  have Hb4 := hide (below_add (unhide Hb3) (unhide Hb) hg (unhide Hb3).size)
  have Hlt4 := hide (fun i (b : Nat) (cs : List Value) (hi : _ = some (b, cs)) => ((unhide HC3).at i hi).lt)
  clear hA hg HA Hb HC3 Hb3 hs hs2
  generalize w3b.heap.size = b4 at *
  have HX4 := hide ((unhide HC4).at 0 rfl)
  go_wp2_with (refine wpList_loadAll 26 _ b4 X.cs _ rfl rfl rfl (unhide HX4) Tryd.underlying26 rfl (unhide HX) ?_)
  refine (unhide HRi w4b).mono ?_
  rintro e w5 ⟨rfl, hb5⟩
  have HC5 := hide ((unhide HC4).below hb5)
  have Hb5 := hide ((unhide Hb4).trans (hb5.mono (unhide Hb4).size))
  have l3 : w.heap.size < b3 := unhide Hlt3 0 _ _ rfl
  have l4 : b3 < b4 := unhide Hlt4 0 _ _ rfl
  have HL34 := hide (show w.heap.size < b3 ∧ b3 < b4 from ⟨l3, l4⟩)
  clear hb5 HC4 Hb4 HX4 Hlt3 Hlt4 l3 l4
  cases R with
  | true =>
    obtain ⟨ex, ez⟩ := unhide Hc (by simp)
    subst ex ez
    clear Hc Hd
    have HK := hide ((unhide HC5).at 2 rfl)
    go_wp2_with (refine wpList_loadAll 26 _ w.heap.size K _ rfl rfl rfl (unhide HK) Tryd.underlying26 rfl (unhide HS) ?_)
    refine (unhide HTr w5).mono ?_
    rintro e w6 ⟨rfl, hb6⟩
    have Hcl6 := hide hb6
    have Hbt6 := hide ((unhide Hb5).trans (hb6.mono (unhide Hb5).size))
    clear hb6
    go_wp2_with (refine wpList_alloc 26 26 zeroS.cs rfl rfl (unhide Hal) ?_)
    intro w6a hA hb hs
    have HA := hide hA
    have Hb := hide hb
    clear hA hb
    go_wp2_with (refine wpList_storeAll 26 _ _ w6.heap.size AB.cs zeroS.cs rfl rfl rfl rfl (unhide HA) (by rw [unhide HlB, unhide HZL]) (unhide HiB) (unhide HoB) ?_)
    intro w6b hA hg hs2
    have HC6 := hide ((unhide HC5).add (unhide Hcl6) (unhide Hb) hg hA)
    have Hb6 := hide (below_add (unhide Hbt6) (unhide Hb) hg (unhide Hbt6).size)
    have Hlt6 := hide (fun i (b : Nat) (cs : List Value) (hi : _ = some (b, cs)) => Nat.lt_of_lt_of_le ((unhide HC5).at i hi).lt (unhide Hcl6).size)
    clear Hlt6 hA hg HA Hb Hcl6 Hbt6 HC5 Hb5 hs hs2
    generalize w6.heap.size = b6 at *
    clear HK
    have HK := hide ((unhide HC6).at 3 rfl)
    go_wp2_with (refine wpList_loadAll 26 _ w.heap.size K _ rfl rfl rfl (unhide HK) Tryd.underlying26 rfl (unhide HS) ?_)
    refine (unhide HTd w6b).mono ?_
    rintro e w7 ⟨rfl, hb7⟩
    have Hcl7 := hide hb7
    have Hbt7 := hide ((unhide Hb6).trans (hb7.mono (unhide Hb6).size))
    clear hb7
    go_wp2_with (refine wpList_alloc 26 26 zeroS.cs rfl rfl (unhide Hal) ?_)
    intro w7a hA hb hs
    have HA := hide hA
    have Hb := hide hb
    clear hA hb
    go_wp2_with (refine wpList_storeAll 26 _ _ w7.heap.size AB.cs zeroS.cs rfl rfl rfl rfl (unhide HA) (by rw [unhide HlB, unhide HZL]) (unhide HiB) (unhide HoB) ?_)
    intro w7b hA hg hs2
    have HC7 := hide ((unhide HC6).add (unhide Hcl7) (unhide Hb) hg hA)
    have Hb7 := hide (below_add (unhide Hbt7) (unhide Hb) hg (unhide Hbt7).size)
    have Hlt7 := hide (fun i (b : Nat) (cs : List Value) (hi : _ = some (b, cs)) => Nat.lt_of_lt_of_le ((unhide HC6).at i hi).lt (unhide Hcl7).size)
    clear Hlt7 hA hg HA Hb Hcl7 Hbt7 HC6 Hb6 hs hs2
    generalize w7.heap.size = b7 at *
    clear HK
    have HK := hide ((unhide HC7).at 4 rfl)
    go_wp2_with (refine wpList_loadAll 26 _ w.heap.size K _ rfl rfl rfl (unhide HK) Tryd.underlying26 rfl (unhide HS) ?_)
    refine (unhide HGo w7b).mono ?_
    rintro e w8 ⟨rfl, hb8⟩
    have Hcl8 := hide hb8
    have Hbt8 := hide ((unhide Hb7).trans (hb8.mono (unhide Hb7).size))
    clear hb8
    go_wp2_with (refine wpList_alloc 26 26 zeroS.cs rfl rfl (unhide Hal) ?_)
    intro w8a hA hb hs
    have HA := hide hA
    have Hb := hide hb
    clear hA hb
    go_wp2_with (refine wpList_storeAll 26 _ _ w8.heap.size AC.cs zeroS.cs rfl rfl rfl rfl (unhide HA) (by rw [unhide HlC, unhide HZL]) (unhide HiC) (unhide HoC) ?_)
    intro w8b hA hg hs2
    have HC8 := hide ((unhide HC7).add (unhide Hcl8) (unhide Hb) hg hA)
    have Hb8 := hide (below_add (unhide Hbt8) (unhide Hb) hg (unhide Hbt8).size)
    have Hlt8 := hide (fun i (b : Nat) (cs : List Value) (hi : _ = some (b, cs)) => Nat.lt_of_lt_of_le ((unhide HC7).at i hi).lt (unhide Hcl8).size)
    clear Hlt8 hA hg HA Hb Hcl8 Hbt8 HC7 Hb7 hs hs2
    generalize w8.heap.size = b8 at *
    clear HK
    have HK := hide ((unhide HC8).at 5 rfl)
    go_wp2_with (refine wpList_loadAll 26 _ w.heap.size K _ rfl rfl rfl (unhide HK) Tryd.underlying26 rfl (unhide HS) ?_)
    refine (unhide HGd w8b).mono ?_
    rintro e w9 ⟨rfl, hb9⟩
    have Hcl9 := hide hb9
    have Hbt9 := hide ((unhide Hb8).trans (hb9.mono (unhide Hb8).size))
    clear hb9
    go_wp2_with (refine wpList_alloc 26 26 zeroS.cs rfl rfl (unhide Hal) ?_)
    intro w9a hA hb hs
    have HA := hide hA
    have Hb := hide hb
    clear hA hb
    go_wp2_with (refine wpList_storeAll 26 _ _ w9.heap.size AC.cs zeroS.cs rfl rfl rfl rfl (unhide HA) (by rw [unhide HlC, unhide HZL]) (unhide HiC) (unhide HoC) ?_)
    intro w9b hA hg hs2
    have HC9 := hide ((unhide HC8).add (unhide Hcl9) (unhide Hb) hg hA)
    have Hb9 := hide (below_add (unhide Hbt9) (unhide Hb) hg (unhide Hbt9).size)
    have Hlt9 := hide (fun i (b : Nat) (cs : List Value) (hi : _ = some (b, cs)) => Nat.lt_of_lt_of_le ((unhide HC8).at i hi).lt (unhide Hcl9).size)
    clear Hlt9 hA hg HA Hb Hcl9 Hbt9 HC8 Hb8 hs hs2
    generalize w9.heap.size = b9 at *
    clear HK
    have HK := hide ((unhide HC9).at 6 rfl)
    go_wp2_with (refine wpList_loadAll 26 _ w.heap.size K _ rfl rfl rfl (unhide HK) Tryd.underlying26 rfl (unhide HS) ?_)
    refine (unhide HBa w9b).mono ?_
    rintro e w10 ⟨rfl, hb10⟩
    have Hcl10 := hide hb10
    have Hbt10 := hide ((unhide Hb9).trans (hb10.mono (unhide Hb9).size))
    clear hb10
    go_wp2_with (refine wpList_alloc 26 26 zeroS.cs rfl rfl (unhide Hal) ?_)
    intro w10a hA hb hs
    have HA := hide hA
    have Hb := hide hb
    clear hA hb
    go_wp2_with (refine wpList_storeAll 26 _ _ w10.heap.size AD.cs zeroS.cs rfl rfl rfl rfl (unhide HA) (by rw [unhide HlD, unhide HZL]) (unhide HiD) (unhide HoD) ?_)
    intro w10b hA hg hs2
    have HC10 := hide ((unhide HC9).add (unhide Hcl10) (unhide Hb) hg hA)
    have Hb10 := hide (below_add (unhide Hbt10) (unhide Hb) hg (unhide Hbt10).size)
    have Hlt10 := hide (fun i (b : Nat) (cs : List Value) (hi : _ = some (b, cs)) => Nat.lt_of_lt_of_le ((unhide HC9).at i hi).lt (unhide Hcl10).size)
    clear Hlt10 hA hg HA Hb Hcl10 Hbt10 HC9 Hb9 hs hs2
    generalize w10.heap.size = b10 at *
    clear HK
    have HK := hide ((unhide HC10).at 7 rfl)
    go_wp2_with (refine wpList_loadAll 26 _ w.heap.size K _ rfl rfl rfl (unhide HK) Tryd.underlying26 rfl (unhide HS) ?_)
    refine (unhide HBd w10b).mono ?_
    rintro e w11 ⟨rfl, hb11⟩
    have Hcl11 := hide hb11
    have Hbt11 := hide ((unhide Hb10).trans (hb11.mono (unhide Hb10).size))
    clear hb11
    go_wp2_with (refine wpList_alloc 26 26 zeroS.cs rfl rfl (unhide Hal) ?_)
    intro w11a hA hb hs
    have HA := hide hA
    have Hb := hide hb
    clear hA hb
    go_wp2_with (refine wpList_storeAll 26 _ _ w11.heap.size AD.cs zeroS.cs rfl rfl rfl rfl (unhide HA) (by rw [unhide HlD, unhide HZL]) (unhide HiD) (unhide HoD) ?_)
    intro w11b hA hg hs2
    have HC11 := hide ((unhide HC10).add (unhide Hcl11) (unhide Hb) hg hA)
    have Hb11 := hide (below_add (unhide Hbt11) (unhide Hb) hg (unhide Hbt11).size)
    have Hlt11 := hide (fun i (b : Nat) (cs : List Value) (hi : _ = some (b, cs)) => Nat.lt_of_lt_of_le ((unhide HC10).at i hi).lt (unhide Hcl11).size)
    clear Hlt11 hA hg HA Hb Hcl11 Hbt11 HC10 Hb10 hs hs2
    generalize w11.heap.size = b11 at *
    clear HK
    have HF0 := hide ((unhide HC11).at 0 rfl)
    have HF1 := hide ((unhide HC11).at 1 rfl)
    have HF2 := hide ((unhide HC11).at 2 rfl)
    have HF3 := hide ((unhide HC11).at 3 rfl)
    have HF4 := hide ((unhide HC11).at 4 rfl)
    have HF5 := hide ((unhide HC11).at 5 rfl)
    have HF6 := hide ((unhide HC11).at 6 rfl)
    have HF7 := hide ((unhide HC11).at 7 rfl)
    go_wp2_with (first
      | refine wpList_loadAll 26 _ b3 AA.cs _ rfl rfl rfl (unhide HF7) Tryd.underlying26 rfl (unhide HiA) ?_
      | refine wpList_loadAll 26 _ b4 AA.cs _ rfl rfl rfl (unhide HF6) Tryd.underlying26 rfl (unhide HiA) ?_
      | refine wpList_guarded rfl (wpList_loadAll 26 _ b6 AB.cs _ rfl rfl rfl (unhide HF5) Tryd.underlying26 rfl (unhide HiB) ?_)
      | refine wpList_guarded rfl (wpList_loadAll 26 _ b7 AB.cs _ rfl rfl rfl (unhide HF4) Tryd.underlying26 rfl (unhide HiB) ?_)
      | refine wpList_guarded rfl (wpList_loadAll 26 _ b8 AC.cs _ rfl rfl rfl (unhide HF3) Tryd.underlying26 rfl (unhide HiC) ?_)
      | refine wpList_guarded rfl (wpList_loadAll 26 _ b9 AC.cs _ rfl rfl rfl (unhide HF2) Tryd.underlying26 rfl (unhide HiC) ?_)
      | refine wpList_guarded rfl (wpList_loadAll 26 _ b10 AD.cs _ rfl rfl rfl (unhide HF1) Tryd.underlying26 rfl (unhide HiD) ?_)
      | refine wpList_guarded rfl (wpList_loadAll 26 _ b11 AD.cs _ rfl rfl rfl (unhide HF0) Tryd.underlying26 rfl (unhide HiD) ?_))
    go_ret
    exact ⟨rfl, unhide Hb11⟩
  | false =>
    obtain ⟨ex, ez⟩ := unhide Hd (by simp)
    subst ex ez
    clear Hc Hd
    have HX4 := hide ((unhide HC5).at 0 rfl)
    go_wp2_with (first
      | refine wpList_build 26 _ zeroS.cs [] rfl rfl rfl (unhide HBz) ?_
      | refine wpList_storeAll 26 _ _ b4 zeroS.cs X.cs rfl rfl rfl rfl (unhide HX4) (by rw [unhide HXL, unhide HZL]) (unhide HZ) (unhide HZ1) ?_)
    intro w6 hA6 hg6 hs6
    have HC6 := hide (Cells.three (unhide HC5) hA6 hg6 (unhide HL34).1 (unhide HL34).2)
    have Hb6 := hide ((unhide Hb5).grown hg6 (unhide Hb5).size (fun k hk => by have := unhide HL34; simp at hk; omega))
    clear hA6 hg6 hs6 HX4 HC5 Hb5
    have HK := hide ((unhide HC6).at 2 rfl)
    go_wp2_with (refine wpList_loadAll 26 _ w.heap.size K _ rfl rfl rfl (unhide HK) Tryd.underlying26 rfl (unhide HS) ?_)
    refine (unhide HTr w6).mono ?_
    rintro e w7 ⟨rfl, hb7⟩
    have Hcl7 := hide hb7
    have Hbt7 := hide ((unhide Hb6).trans (hb7.mono (unhide Hb6).size))
    clear hb7
    go_wp2_with (refine wpList_alloc 26 26 zeroS.cs rfl rfl (unhide Hal) ?_)
    intro w7a hA hb hs
    have HA := hide hA
    have Hb := hide hb
    clear hA hb
    go_wp2_with (refine wpList_storeAll 26 _ _ w7.heap.size AB.cs zeroS.cs rfl rfl rfl rfl (unhide HA) (by rw [unhide HlB, unhide HZL]) (unhide HiB) (unhide HoB) ?_)
    intro w7b hA hg hs2
    have HC7 := hide ((unhide HC6).add (unhide Hcl7) (unhide Hb) hg hA)
    have Hb7 := hide (below_add (unhide Hbt7) (unhide Hb) hg (unhide Hbt7).size)
    have Hlt7 := hide (fun i (b : Nat) (cs : List Value) (hi : _ = some (b, cs)) => Nat.lt_of_lt_of_le ((unhide HC6).at i hi).lt (unhide Hcl7).size)
    clear Hlt7 hA hg HA Hb Hcl7 Hbt7 HC6 Hb6 hs hs2
    generalize w7.heap.size = b7 at *
    clear HK
    have HK := hide ((unhide HC7).at 3 rfl)
    go_wp2_with (refine wpList_loadAll 26 _ w.heap.size K _ rfl rfl rfl (unhide HK) Tryd.underlying26 rfl (unhide HS) ?_)
    refine (unhide HTd w7b).mono ?_
    rintro e w8 ⟨rfl, hb8⟩
    have Hcl8 := hide hb8
    have Hbt8 := hide ((unhide Hb7).trans (hb8.mono (unhide Hb7).size))
    clear hb8
    go_wp2_with (refine wpList_alloc 26 26 zeroS.cs rfl rfl (unhide Hal) ?_)
    intro w8a hA hb hs
    have HA := hide hA
    have Hb := hide hb
    clear hA hb
    go_wp2_with (refine wpList_storeAll 26 _ _ w8.heap.size AB.cs zeroS.cs rfl rfl rfl rfl (unhide HA) (by rw [unhide HlB, unhide HZL]) (unhide HiB) (unhide HoB) ?_)
    intro w8b hA hg hs2
    have HC8 := hide ((unhide HC7).add (unhide Hcl8) (unhide Hb) hg hA)
    have Hb8 := hide (below_add (unhide Hbt8) (unhide Hb) hg (unhide Hbt8).size)
    have Hlt8 := hide (fun i (b : Nat) (cs : List Value) (hi : _ = some (b, cs)) => Nat.lt_of_lt_of_le ((unhide HC7).at i hi).lt (unhide Hcl8).size)
    clear Hlt8 hA hg HA Hb Hcl8 Hbt8 HC7 Hb7 hs hs2
    generalize w8.heap.size = b8 at *
    clear HK
    have HK := hide ((unhide HC8).at 4 rfl)
    go_wp2_with (refine wpList_loadAll 26 _ w.heap.size K _ rfl rfl rfl (unhide HK) Tryd.underlying26 rfl (unhide HS) ?_)
    refine (unhide HGo w8b).mono ?_
    rintro e w9 ⟨rfl, hb9⟩
    have Hcl9 := hide hb9
    have Hbt9 := hide ((unhide Hb8).trans (hb9.mono (unhide Hb8).size))
    clear hb9
    go_wp2_with (refine wpList_alloc 26 26 zeroS.cs rfl rfl (unhide Hal) ?_)
    intro w9a hA hb hs
    have HA := hide hA
    have Hb := hide hb
    clear hA hb
    go_wp2_with (refine wpList_storeAll 26 _ _ w9.heap.size AC.cs zeroS.cs rfl rfl rfl rfl (unhide HA) (by rw [unhide HlC, unhide HZL]) (unhide HiC) (unhide HoC) ?_)
    intro w9b hA hg hs2
    have HC9 := hide ((unhide HC8).add (unhide Hcl9) (unhide Hb) hg hA)
    have Hb9 := hide (below_add (unhide Hbt9) (unhide Hb) hg (unhide Hbt9).size)
    have Hlt9 := hide (fun i (b : Nat) (cs : List Value) (hi : _ = some (b, cs)) => Nat.lt_of_lt_of_le ((unhide HC8).at i hi).lt (unhide Hcl9).size)
    clear Hlt9 hA hg HA Hb Hcl9 Hbt9 HC8 Hb8 hs hs2
    generalize w9.heap.size = b9 at *
    clear HK
    have HK := hide ((unhide HC9).at 5 rfl)
    go_wp2_with (refine wpList_loadAll 26 _ w.heap.size K _ rfl rfl rfl (unhide HK) Tryd.underlying26 rfl (unhide HS) ?_)
    refine (unhide HGd w9b).mono ?_
    rintro e w10 ⟨rfl, hb10⟩
    have Hcl10 := hide hb10
    have Hbt10 := hide ((unhide Hb9).trans (hb10.mono (unhide Hb9).size))
    clear hb10
    go_wp2_with (refine wpList_alloc 26 26 zeroS.cs rfl rfl (unhide Hal) ?_)
    intro w10a hA hb hs
    have HA := hide hA
    have Hb := hide hb
    clear hA hb
    go_wp2_with (refine wpList_storeAll 26 _ _ w10.heap.size AC.cs zeroS.cs rfl rfl rfl rfl (unhide HA) (by rw [unhide HlC, unhide HZL]) (unhide HiC) (unhide HoC) ?_)
    intro w10b hA hg hs2
    have HC10 := hide ((unhide HC9).add (unhide Hcl10) (unhide Hb) hg hA)
    have Hb10 := hide (below_add (unhide Hbt10) (unhide Hb) hg (unhide Hbt10).size)
    have Hlt10 := hide (fun i (b : Nat) (cs : List Value) (hi : _ = some (b, cs)) => Nat.lt_of_lt_of_le ((unhide HC9).at i hi).lt (unhide Hcl10).size)
    clear Hlt10 hA hg HA Hb Hcl10 Hbt10 HC9 Hb9 hs hs2
    generalize w10.heap.size = b10 at *
    clear HK
    have HK := hide ((unhide HC10).at 6 rfl)
    go_wp2_with (refine wpList_loadAll 26 _ w.heap.size K _ rfl rfl rfl (unhide HK) Tryd.underlying26 rfl (unhide HS) ?_)
    refine (unhide HBa w10b).mono ?_
    rintro e w11 ⟨rfl, hb11⟩
    have Hcl11 := hide hb11
    have Hbt11 := hide ((unhide Hb10).trans (hb11.mono (unhide Hb10).size))
    clear hb11
    go_wp2_with (refine wpList_alloc 26 26 zeroS.cs rfl rfl (unhide Hal) ?_)
    intro w11a hA hb hs
    have HA := hide hA
    have Hb := hide hb
    clear hA hb
    go_wp2_with (refine wpList_storeAll 26 _ _ w11.heap.size AD.cs zeroS.cs rfl rfl rfl rfl (unhide HA) (by rw [unhide HlD, unhide HZL]) (unhide HiD) (unhide HoD) ?_)
    intro w11b hA hg hs2
    have HC11 := hide ((unhide HC10).add (unhide Hcl11) (unhide Hb) hg hA)
    have Hb11 := hide (below_add (unhide Hbt11) (unhide Hb) hg (unhide Hbt11).size)
    have Hlt11 := hide (fun i (b : Nat) (cs : List Value) (hi : _ = some (b, cs)) => Nat.lt_of_lt_of_le ((unhide HC10).at i hi).lt (unhide Hcl11).size)
    clear Hlt11 hA hg HA Hb Hcl11 Hbt11 HC10 Hb10 hs hs2
    generalize w11.heap.size = b11 at *
    clear HK
    have HK := hide ((unhide HC11).at 7 rfl)
    go_wp2_with (refine wpList_loadAll 26 _ w.heap.size K _ rfl rfl rfl (unhide HK) Tryd.underlying26 rfl (unhide HS) ?_)
    refine (unhide HBd w11b).mono ?_
    rintro e w12 ⟨rfl, hb12⟩
    have Hcl12 := hide hb12
    have Hbt12 := hide ((unhide Hb11).trans (hb12.mono (unhide Hb11).size))
    clear hb12
    go_wp2_with (refine wpList_alloc 26 26 zeroS.cs rfl rfl (unhide Hal) ?_)
    intro w12a hA hb hs
    have HA := hide hA
    have Hb := hide hb
    clear hA hb
    go_wp2_with (refine wpList_storeAll 26 _ _ w12.heap.size AD.cs zeroS.cs rfl rfl rfl rfl (unhide HA) (by rw [unhide HlD, unhide HZL]) (unhide HiD) (unhide HoD) ?_)
    intro w12b hA hg hs2
    have HC12 := hide ((unhide HC11).add (unhide Hcl12) (unhide Hb) hg hA)
    have Hb12 := hide (below_add (unhide Hbt12) (unhide Hb) hg (unhide Hbt12).size)
    have Hlt12 := hide (fun i (b : Nat) (cs : List Value) (hi : _ = some (b, cs)) => Nat.lt_of_lt_of_le ((unhide HC11).at i hi).lt (unhide Hcl12).size)
    clear Hlt12 hA hg HA Hb Hcl12 Hbt12 HC11 Hb11 hs hs2
    generalize w12.heap.size = b12 at *
    clear HK
    have HF0 := hide ((unhide HC12).at 0 rfl)
    have HF1 := hide ((unhide HC12).at 1 rfl)
    have HF2 := hide ((unhide HC12).at 2 rfl)
    have HF3 := hide ((unhide HC12).at 3 rfl)
    have HF4 := hide ((unhide HC12).at 4 rfl)
    have HF5 := hide ((unhide HC12).at 5 rfl)
    have HF6 := hide ((unhide HC12).at 6 rfl)
    have HF7 := hide ((unhide HC12).at 7 rfl)
    go_wp2_with (first
      | refine wpList_loadAll 26 _ b3 zeroS.cs _ rfl rfl rfl (unhide HF7) Tryd.underlying26 rfl (unhide HiA) ?_
      | refine wpList_loadAll 26 _ b4 zeroS.cs _ rfl rfl rfl (unhide HF6) Tryd.underlying26 rfl (unhide HiA) ?_
      | refine wpList_guarded rfl (wpList_loadAll 26 _ b7 AB.cs _ rfl rfl rfl (unhide HF5) Tryd.underlying26 rfl (unhide HiB) ?_)
      | refine wpList_guarded rfl (wpList_loadAll 26 _ b8 AB.cs _ rfl rfl rfl (unhide HF4) Tryd.underlying26 rfl (unhide HiB) ?_)
      | refine wpList_guarded rfl (wpList_loadAll 26 _ b9 AC.cs _ rfl rfl rfl (unhide HF3) Tryd.underlying26 rfl (unhide HiC) ?_)
      | refine wpList_guarded rfl (wpList_loadAll 26 _ b10 AC.cs _ rfl rfl rfl (unhide HF2) Tryd.underlying26 rfl (unhide HiC) ?_)
      | refine wpList_guarded rfl (wpList_loadAll 26 _ b11 AD.cs _ rfl rfl rfl (unhide HF1) Tryd.underlying26 rfl (unhide HiD) ?_)
      | refine wpList_guarded rfl (wpList_loadAll 26 _ b12 AD.cs _ rfl rfl rfl (unhide HF0) Tryd.underlying26 rfl (unhide HiD) ?_))
    go_ret
    exact ⟨rfl, unhide Hb12⟩
end Go.Proofs.YtglphnmnnfpcoaaDoor.slotMoves
