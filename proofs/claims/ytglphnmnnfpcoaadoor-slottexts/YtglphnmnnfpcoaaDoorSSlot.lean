/-
  What slot.slotOf answers of words.
-/
import Derived.Test.YtglphnmnnfpcoaaDoorSTexs
import Derived.Test.YtglphnmnnfpcoaaDoorSBoot
namespace Go.Proofs.YtglphnmnnfpcoaaDoor
open Go.RowKit

theorem Txs.parts {B : Nat} {w : World} {v : Value} {ws : List (List UInt8)} (h : Txs B w v ws) (h1 : 1 ≤ ws.length) : ∃ g cap, v = .slice (some ⟨g, 0, none⟩) ws.length cap ∧ g < w.heap.size ∧ ∀ i, i < ws.length → w.cell? ⟨g, i, none⟩ = some (.string (tx (ws.getD i []))) := by
  obtain ⟨g, cap, e, _, hg, _, _⟩ := owns_at h (i := 0) (by omega)
  refine ⟨g, cap, e, hg, fun i hi => ?_⟩
  obtain ⟨g2, cap2, e2, _, _, _, hc⟩ := owns_at h hi
  rw [e] at e2
  simp only [Value.slice.injEq, Option.some.injEq, Addr.mk.injEq] at e2
  rw [e2.1.1, hc]
  exact texV_get ws hi
theorem has_iff (x : Int) : has x = true ↔ x = 2 ∨ x = 3 := by simp [has]
theorem wrap_rng (n : Nat) : -9223372036854775808 ≤ wrap64 (n : Int) ∧ wrap64 (n : Int) ≤ 9223372036854775807 := by
  unfold wrap64; omega
theorem wrap_eq (n : Int) : IntKind.i64.wrap n = wrap64 n := by unfold wrap64; rw [IntKind.wrap_i64]

set_option maxHeartbeats 3200000 in
set_option maxRecDepth 100000 in
theorem slotof_no (ws : List (List UInt8)) (hlen : ∀ x ∈ ws, x.length ≤ 1000000) (h1 : 1 ≤ ws.length) (w : World) (hT : Tabs w) (B : Nat) (v : Value) (hv : Txs B w v ws) (hno : ¬ (has (stF (ws.getD 0 [])) = true ∧ 4 ≤ ws.length)) :
    Calls Tryd.prog 35 #[v] w fun e w' => ∃ x, e = .returned (S.v x) ∧ SlotOf ws x ∧ Below w.heap.size w w' := by
  obtain ⟨g, cap, rfl, hg, hcell⟩ := hv.parts h1
  have HL : Hid (∀ i, (ws.getD i []).length ≤ 1000000) := by
    show ∀ i, _
    intro i
    rcases Nat.lt_or_ge i ws.length with h | h
    · rw [List.getD_eq_getElem?_getD, List.getElem?_eq_getElem h]; exact hlen _ (List.getElem_mem h)
    · rw [List.getD_eq_getElem?_getD, List.getElem?_eq_none h]; simp
  have HT := hide hT
  have HC := hide hcell
  have HG := hide hg
  have Hr := hide (stF_range (ws.getD 0 []))
  have Hal := hide alloc26
  have HBu := hide (built26_st (stF (ws.getD 0 [])))
  have HI := hide info26
  have HZ1 := hide (cs_one (bare (stF (ws.getD 0 []))))
  have c0 := hcell 0 (by omega)
  clear hT hcell hg hlen hv
  generalize hX : stF (ws.getD 0 []) = x at *
  have HX := hide hX
  clear hX
  generalize hN : ws.length = n at *
  have HN := hide hN
  clear hN
  have hn0 : (0 : Int) < (n : Int) := by omega
  have HNo := hide hno
  have hcase : has x = false ∨ has x = true ∧ decide (4 ≤ (n : Int)) = false := by
    cases hh : has x
    · exact .inl rfl
    · refine .inr ⟨rfl, ?_⟩
      rw [decide_eq_false_iff_not]
      exact fun h => hno ⟨hh, by omega⟩
  have hc2 : (x == 2) = false ∨ (x == 2) = true ∧ decide (5 ≤ (n : Int)) = false := by
    cases h2 : x == 2
    · exact .inl rfl
    · refine .inr ⟨rfl, ?_⟩
      rw [decide_eq_false_iff_not]
      have h2' : x = 2 := by simpa using h2
      exact fun h => hno ⟨(has_iff x).2 (.inl h2'), by omega⟩
  clear hno
  go_enter Tryd.func35, Tryd.ntmps35
  go_wp2_with (refine wpList_alloc 26 26 zeroS.cs rfl rfl (unhide Hal) ?_)
  intro w1 hA1 hb1 hs1
  have c0 := (hb1.cell (p := ⟨g, 0, none⟩) (unhide HG)).trans c0
  have HA1 := hide hA1
  have Hb1 := hide hb1
  have hT1 := (unhide HT).below hb1
  clear hA1 hb1
  go_wp2_with fail
  refine (status_walk (ws.getD 0 []) w1 hT1).mono ?_
  rintro e w2 ⟨rfl, hw2⟩
  subst w2
  rw [unhide HX]
  clear hT1
  go_wp2_with (first
    | refine wpList_build 26 _ (bare x).cs [(0, .int .i64 x)] rfl rfl rfl (unhide HBu) ?_
    | refine wpList_alloc 26 26 zeroS.cs rfl rfl (unhide Hal) ?_)
  intro w2 hA2 hb2 hs2
  have HA1 := hide ((unhide HA1).keep hb2 (by omega))
  have Hb2 := hide ((unhide Hb1).trans (hb2.mono (by omega)))
  have HA2 := hide hA2
  clear hA2 hb2 Hb1 c0
  go_wp2_with (refine wpList_storeAll 26 _ _ (w.heap.size + 1) (bare x).cs zeroS.cs rfl rfl rfl rfl (unhide HA2) rfl (unhide HI) (unhide HZ1) ?_)
  intro w3 hA3 hg3 hs3
  have HA1 := hide ((unhide HA1).grown hg3 (by simp))
  have Hb3 := hide ((unhide Hb2).grown hg3 (unhide Hb2).size (fun k hk => by simp at hk; omega))
  have HA3 := hide hA3
  have d0 := hA3.cell (i := 0) (v := .int .i64 x) rfl
  clear hA3 hg3 HA2 Hb2
  go_wp2_with fail
  refine (has_walk x w3).mono ?_
  rintro e w4 ⟨rfl, hw4⟩
  subst w4
  have HYL : Hid (zeroS.cs.length = (bare x).cs.length) := hide rfl
  have HY := hide (info26s (s := bare x) rfl)
  rcases hcase with hh | ⟨hh, h4⟩ <;> rcases hc2 with h2 | ⟨h2, h5⟩
  all_goals
    rw [hh]
    go_wp2_with (first
      | refine wpList_loadAll 26 _ (w.heap.size + 1) (bare x).cs _ rfl rfl rfl (unhide HA3) Tryd.underlying26 rfl (unhide HY) ?_
      | refine wpList_storeAll 26 _ _ w.heap.size (bare x).cs zeroS.cs rfl rfl rfl rfl (unhide HA1) (unhide HYL) (unhide HY) (unhide HZ1) ?_)
    intro w9 hA9 hg9 hs9
    have Hb9 := hide ((unhide Hb3).grown hg9 (unhide Hb3).size (fun k hk => by simp at hk; omega))
    have HA9 := hide hA9
    clear hA9 hg9
    go_wp2
    refine bodyPost_ret (v := S.v (bare x)) ?_ rfl ⟨(bare x), rfl, ?_, unhide Hb9⟩
    · exact results_arr Tryd.results35 rfl (unhide HA9) Tryd.underlying26 rfl (unhide HY)
    · have hr := unhide Hr
      refine ⟨⟨by simp only [bare]; omega, by simp only [bare]; omega, by simp only [bare]; decide, by simp only [bare]; decide, by simp only [bare]; decide, by simp only [bare]; decide, by simp only [bare]; decide, rfl⟩, (unhide HX).symm, ?_, fun _ => ⟨rfl, rfl, rfl⟩, ?_, fun _ => rfl⟩
      · intro h h4
        exact absurd ⟨h, by have := unhide HN; omega⟩ (unhide HNo)
      · intro h h5
        have h2 : x = 2 := h
        exact absurd ⟨(has_iff x).2 (.inl h2), by have := unhide HN; omega⟩ (unhide HNo)


set_option maxHeartbeats 3200000 in
set_option maxRecDepth 100000 in
theorem slotof_yes (ws : List (List UInt8)) (hlen : ∀ x ∈ ws, x.length ≤ 1000000) (h1 : 1 ≤ ws.length) (w : World) (hT : Tabs w) (B : Nat) (v : Value) (hv : Txs B w v ws) (hh : has (stF (ws.getD 0 [])) = true) (h4 : 4 ≤ ws.length) (hno : ¬ (stF (ws.getD 0 []) = 2 ∧ 5 ≤ ws.length)) :
    Calls Tryd.prog 35 #[v] w fun e w' => ∃ x, e = .returned (S.v x) ∧ SlotOf ws x ∧ Below w.heap.size w w' := by
  obtain ⟨g, cap, rfl, hg, hcell⟩ := hv.parts h1
  have HL : Hid (∀ i, (ws.getD i []).length ≤ 1000000) := by
    show ∀ i, _
    intro i
    rcases Nat.lt_or_ge i ws.length with h | h
    · rw [List.getD_eq_getElem?_getD, List.getElem?_eq_getElem h]; exact hlen _ (List.getElem_mem h)
    · rw [List.getD_eq_getElem?_getD, List.getElem?_eq_none h]; simp
  have HT := hide hT
  have HC := hide hcell
  have HG := hide hg
  have Hr := hide (stF_range (ws.getD 0 []))
  have Hal := hide alloc26
  have HBu := hide (built26_st (stF (ws.getD 0 [])))
  have HI := hide info26
  have HZ1 := hide (cs_one (bare (stF (ws.getD 0 []))))
  have c0 := hcell 0 (by omega)
  clear hT hcell hg hlen hv
  generalize hX : stF (ws.getD 0 []) = x at *
  have HX := hide hX
  clear hX
  generalize hN : ws.length = n at *
  have HN := hide hN
  clear hN
  have hn0 : (0 : Int) < (n : Int) := by omega
  have HNo := hide hno
  have Hhas := hide hh
  have hc2 : (x == 2) = false ∨ (x == 2) = true ∧ decide (5 ≤ (n : Int)) = false := by
    cases h2 : x == 2
    · exact .inl rfl
    · refine .inr ⟨rfl, ?_⟩
      rw [decide_eq_false_iff_not]
      have h2' : x = 2 := by simpa using h2
      exact fun h => hno ⟨h2', by omega⟩
  clear hno
  go_enter Tryd.func35, Tryd.ntmps35
  go_wp2_with (refine wpList_alloc 26 26 zeroS.cs rfl rfl (unhide Hal) ?_)
  intro w1 hA1 hb1 hs1
  have c0 := (hb1.cell (p := ⟨g, 0, none⟩) (unhide HG)).trans c0
  have HA1 := hide hA1
  have Hb1 := hide hb1
  have hT1 := (unhide HT).below hb1
  clear hA1 hb1
  go_wp2_with fail
  refine (status_walk (ws.getD 0 []) w1 hT1).mono ?_
  rintro e w2 ⟨rfl, hw2⟩
  subst w2
  rw [unhide HX]
  clear hT1
  go_wp2_with (first
    | refine wpList_build 26 _ (bare x).cs [(0, .int .i64 x)] rfl rfl rfl (unhide HBu) ?_
    | refine wpList_alloc 26 26 zeroS.cs rfl rfl (unhide Hal) ?_)
  intro w2 hA2 hb2 hs2
  have HA1 := hide ((unhide HA1).keep hb2 (by omega))
  have Hb2 := hide ((unhide Hb1).trans (hb2.mono (by omega)))
  have HA2 := hide hA2
  clear hA2 hb2 Hb1 c0
  go_wp2_with (refine wpList_storeAll 26 _ _ (w.heap.size + 1) (bare x).cs zeroS.cs rfl rfl rfl rfl (unhide HA2) rfl (unhide HI) (unhide HZ1) ?_)
  intro w3 hA3 hg3 hs3
  have HA1 := hide ((unhide HA1).grown hg3 (by simp))
  have Hb3 := hide ((unhide Hb2).grown hg3 (unhide Hb2).size (fun k hk => by simp at hk; omega))
  have HA3 := hide hA3
  have d0 := hA3.cell (i := 0) (v := .int .i64 x) rfl
  clear hA3 hg3 HA2 Hb2
  go_wp2_with fail
  refine (has_walk x w3).mono ?_
  rintro e w4 ⟨rfl, hw4⟩
  subst w4
  have e4 : decide (4 ≤ (n : Int)) = true := by rw [decide_eq_true_eq]; omega
  rw [hh]
  have c1 := (unhide Hb3).cell (p := ⟨g, 1, none⟩) (unhide HG) |>.trans (unhide HC 1 (by omega))
  have hT3 := (unhide HT).below (unhide Hb3)
  go_wp2_with fail
  refine (number_walk (ws.getD 1 []) (unhide HL 1) w3 hT3).mono ?_
  rintro e w4 ⟨rfl, hb4⟩
  have HA1 := hide ((unhide HA1).below hb4)
  have HA3 := hide ((unhide HA3).below hb4)
  have Hb4 := hide ((unhide Hb3).trans (hb4.mono (unhide Hb3).size))
  have f2 := (unhide HA3).free 2
  have l2 := (unhide HA3).cell (i := 2) (v := .int .u64 0) rfl
  clear hb4 hT3 c1 Hb3 d0
  generalize hV : num (ws.getD 1 []) = ver at *
  have HV := hide hV
  have Hver : Hid (ver < 18446744073709551616) := by show _ < _; rw [← hV]; exact num_lt _
  clear hV
  have HA3' : Hid (Arr (w4.setCell ⟨w.heap.size + 1, 2, none⟩ (.int .u64 (ver : Int))) (w.heap.size + 1) (S.mk x 0 ver 0 zeros32).cs) := hide ((unhide HA3).set 2 _)
  have HA1' := hide ((unhide HA1).other (⟨w.heap.size + 1, 2, none⟩ : Addr) (.int .u64 (ver : Int)) (by simp))
  have Hb4' := hide ((unhide Hb4).setCell (p := ⟨w.heap.size + 1, 2, none⟩) (by simp) (.int .u64 (ver : Int)))
  have c2 := (unhide Hb4').cell (p := ⟨g, 2, none⟩) (unhide HG) |>.trans (unhide HC 2 (by omega))
  have hT4 := (unhide HT).below (unhide Hb4')
  clear HA1 HA3 Hb4
  go_wp2_with fail
  refine (number_walk (ws.getD 2 []) (unhide HL 2) _ hT4).mono ?_
  rintro e w5 ⟨rfl, hb5⟩
  have HA1 := hide ((unhide HA1').below hb5)
  have HA3 := hide ((unhide HA3').below hb5)
  have Hb5 := hide ((unhide Hb4').trans (hb5.mono (unhide Hb4').size))
  have f3 := (unhide HA3).free 3
  have l3 := (unhide HA3).cell (i := 3) (v := .int .i64 0) rfl
  clear hb5 hT4 c2 Hb4' HA1' HA3' f2 l2
  generalize hZ : num (ws.getD 2 []) = zn at *
  have HZn := hide hZ
  clear hZ
  obtain ⟨z, hz⟩ : ∃ z, z = wrap64 (zn : Int) := ⟨_, rfl⟩
  have Hz := hide hz
  have HA3' : Hid (Arr (w5.setCell ⟨w.heap.size + 1, 3, none⟩ (.int .i64 (wrap64 (zn : Int)))) (w.heap.size + 1) (S.mk x 0 ver z zeros32).cs) := by rw [hz]; exact hide ((unhide HA3).set 3 _)
  have HA1' := hide ((unhide HA1).other (⟨w.heap.size + 1, 3, none⟩ : Addr) (.int .i64 (wrap64 (zn : Int))) (by simp))
  have Hb5' := hide ((unhide Hb5).setCell (p := ⟨w.heap.size + 1, 3, none⟩) (by simp) (.int .i64 (wrap64 (zn : Int))))
  have c3 := (unhide Hb5').cell (p := ⟨g, 3, none⟩) (unhide HG) |>.trans (unhide HC 3 (by omega))
  clear HA1 HA3 Hb5 hz
  go_wp2_with fail
  refine (hparse_walk (ws.getD 3 []) _).mono ?_
  rintro e w6 ⟨dg, okk, rfl, hdg, hb6⟩
  have Hdg := hide hdg
  have HDL := hide (info24s hdg.1)
  have HD1 := hide (bytesV_one dg)
  have HDn : Hid ((bytesV dg).length = 32) := by show _ = _; rw [bytesV_length]; exact hdg.1
  have HA1 := hide ((unhide HA1').below hb6)
  have HA3 := hide ((unhide HA3').below hb6)
  have Hb6 := hide ((unhide Hb5').trans (hb6.mono (unhide Hb5').size))
  have HTh : Hid (w6.there (w.heap.size + 1) 4 32) := hide ((unhide HA3).thereMid 4 32 (by show 4 + 32 ≤ 36; omega))
  clear hb6 c3 Hb5' HA1' HA3' f3 l3 hdg
  have HA3' : Hid (Arr (w6.setCells (w.heap.size + 1) 4 (bytesV dg)) (w.heap.size + 1) (S.mk x 0 ver z dg).cs) := by
    have h := (unhide HA3).mid 4 (bytesV dg) (by rw [unhide HDn]; show 4 + 32 ≤ 36; omega)
    rw [unhide HDn] at h
    have e : (S.mk x 0 ver z zeros32).cs.take 4 ++ (bytesV dg ++ (S.mk x 0 ver z zeros32).cs.drop (4 + 32)) = (S.mk x 0 ver z dg).cs := by
      show [_, _, _, _] ++ (bytesV dg ++ []) = _
      rw [List.append_nil]
      rfl
    rw [e] at h
    exact h
  have hgm : w6.grownBy (w6.setCells (w.heap.size + 1) 4 (bytesV dg)) (some (w.heap.size + 1)) := setCells_grown _ _ _ _
  have HA1' := hide ((unhide HA1).grown hgm (by simp))
  have Hb6' := hide ((unhide Hb6).grown hgm (unhide Hb6).size (fun k hk => by simp at hk; omega))
  clear HA1 HA3 Hb6 hgm
  have d0 := (unhide HA3').cell (i := 0) (v := .int .i64 x) rfl
  have HY := hide (info26s (s := (S.mk x 0 ver z dg)) (unhide Hdg).1)
  have HYL : Hid (zeroS.cs.length = (S.mk x 0 ver z dg).cs.length) := by show _ = _; rw [cs_length (s := (S.mk x 0 ver z dg)) (unhide Hdg).1]; rfl
  have HY1 := hide (cs_one (S.mk x 0 ver z dg))
  rcases hc2 with h2 | ⟨h2, h5⟩
  all_goals
    have HA1 := HA1'
    have HA3 := HA3'
    have Hb3 := Hb6'
    go_wp2_with (first
      | refine wpList_store_mid rfl 24 _ _ rfl (w.heap.size + 1) 4 (bytesV dg).toArray rfl rfl (by simpa [unhide HDn] using unhide HTh) (by simpa [unhide HDn] using info24) (all_oneCell_toArray (unhide HD1)) ?_
      | refine wpList_loadAll 26 _ (w.heap.size + 1) (S.mk x 0 ver z dg).cs _ rfl rfl rfl (unhide HA3) Tryd.underlying26 rfl (unhide HY) ?_
      | refine wpList_storeAll 26 _ _ w.heap.size (S.mk x 0 ver z dg).cs zeroS.cs rfl rfl rfl rfl (unhide HA1) (unhide HYL) (unhide HY) (unhide HY1) ?_)
    intro w9 hA9 hg9 hs9
    have Hb9 := hide ((unhide Hb3).grown hg9 (unhide Hb3).size (fun k hk => by simp at hk; omega))
    have HA9 := hide hA9
    clear hA9 hg9
    go_wp2
    refine bodyPost_ret (v := S.v (S.mk x 0 ver z dg)) ?_ rfl ⟨(S.mk x 0 ver z dg), rfl, ?_, unhide Hb9⟩
    · exact results_arr Tryd.results35 rfl (unhide HA9) Tryd.underlying26 rfl (unhide HY)
    · have hr := unhide Hr
      have hw := wrap_rng zn
      refine ⟨⟨by simp only; omega, by simp only; omega, by simp only; decide, by simp only; decide, unhide Hver, by simp only; rw [unhide Hz]; exact hw.1, by simp only; rw [unhide Hz]; exact hw.2, (unhide Hdg).1⟩, (unhide HX).symm, fun _ _ => ⟨(unhide HV).symm, by rw [unhide HZn, wrap_eq]; exact unhide Hz, unhide Hdg⟩, fun h => absurd ⟨unhide Hhas, by have := unhide HN; omega⟩ h, fun h h5 => absurd ⟨h, by have := unhide HN; omega⟩ (unhide HNo), fun _ => rfl⟩


set_option maxHeartbeats 3200000 in
set_option maxRecDepth 100000 in
theorem slotof_two (ws : List (List UInt8)) (hlen : ∀ x ∈ ws, x.length ≤ 1000000) (h1 : 1 ≤ ws.length) (w : World) (hT : Tabs w) (B : Nat) (v : Value) (hv : Txs B w v ws) (hh : has (stF (ws.getD 0 [])) = true) (h2 : stF (ws.getD 0 []) = 2) (h5 : 5 ≤ ws.length) :
    Calls Tryd.prog 35 #[v] w fun e w' => ∃ x, e = .returned (S.v x) ∧ SlotOf ws x ∧ Below w.heap.size w w' := by
  obtain ⟨g, cap, rfl, hg, hcell⟩ := hv.parts h1
  have HL : Hid (∀ i, (ws.getD i []).length ≤ 1000000) := by
    show ∀ i, _
    intro i
    rcases Nat.lt_or_ge i ws.length with h | h
    · rw [List.getD_eq_getElem?_getD, List.getElem?_eq_getElem h]; exact hlen _ (List.getElem_mem h)
    · rw [List.getD_eq_getElem?_getD, List.getElem?_eq_none h]; simp
  have HT := hide hT
  have HC := hide hcell
  have HG := hide hg
  have Hr := hide (stF_range (ws.getD 0 []))
  have Hal := hide alloc26
  have HBu := hide (built26_st (stF (ws.getD 0 [])))
  have HI := hide info26
  have HZ1 := hide (cs_one (bare (stF (ws.getD 0 []))))
  have c0 := hcell 0 (by omega)
  clear hT hcell hg hlen hv
  generalize hX : stF (ws.getD 0 []) = x at *
  have HX := hide hX
  clear hX
  generalize hN : ws.length = n at *
  have HN := hide hN
  clear hN
  have hn0 : (0 : Int) < (n : Int) := by omega
  have Hhas := hide hh
  have e2 : (x == 2) = true := by simpa using h2
  have e5 : decide (5 ≤ (n : Int)) = true := by rw [decide_eq_true_eq]; omega
  have H2 := hide h2
  clear h2
  go_enter Tryd.func35, Tryd.ntmps35
  go_wp2_with (refine wpList_alloc 26 26 zeroS.cs rfl rfl (unhide Hal) ?_)
  intro w1 hA1 hb1 hs1
  have c0 := (hb1.cell (p := ⟨g, 0, none⟩) (unhide HG)).trans c0
  have HA1 := hide hA1
  have Hb1 := hide hb1
  have hT1 := (unhide HT).below hb1
  clear hA1 hb1
  go_wp2_with fail
  refine (status_walk (ws.getD 0 []) w1 hT1).mono ?_
  rintro e w2 ⟨rfl, hw2⟩
  subst w2
  rw [unhide HX]
  clear hT1
  go_wp2_with (first
    | refine wpList_build 26 _ (bare x).cs [(0, .int .i64 x)] rfl rfl rfl (unhide HBu) ?_
    | refine wpList_alloc 26 26 zeroS.cs rfl rfl (unhide Hal) ?_)
  intro w2 hA2 hb2 hs2
  have HA1 := hide ((unhide HA1).keep hb2 (by omega))
  have Hb2 := hide ((unhide Hb1).trans (hb2.mono (by omega)))
  have HA2 := hide hA2
  clear hA2 hb2 Hb1 c0
  go_wp2_with (refine wpList_storeAll 26 _ _ (w.heap.size + 1) (bare x).cs zeroS.cs rfl rfl rfl rfl (unhide HA2) rfl (unhide HI) (unhide HZ1) ?_)
  intro w3 hA3 hg3 hs3
  have HA1 := hide ((unhide HA1).grown hg3 (by simp))
  have Hb3 := hide ((unhide Hb2).grown hg3 (unhide Hb2).size (fun k hk => by simp at hk; omega))
  have HA3 := hide hA3
  have d0 := hA3.cell (i := 0) (v := .int .i64 x) rfl
  clear hA3 hg3 HA2 Hb2
  go_wp2_with fail
  refine (has_walk x w3).mono ?_
  rintro e w4 ⟨rfl, hw4⟩
  subst w4
  have e4 : decide (4 ≤ (n : Int)) = true := by rw [decide_eq_true_eq]; omega
  rw [hh]
  have c1 := (unhide Hb3).cell (p := ⟨g, 1, none⟩) (unhide HG) |>.trans (unhide HC 1 (by omega))
  have hT3 := (unhide HT).below (unhide Hb3)
  go_wp2_with fail
  refine (number_walk (ws.getD 1 []) (unhide HL 1) w3 hT3).mono ?_
  rintro e w4 ⟨rfl, hb4⟩
  have HA1 := hide ((unhide HA1).below hb4)
  have HA3 := hide ((unhide HA3).below hb4)
  have Hb4 := hide ((unhide Hb3).trans (hb4.mono (unhide Hb3).size))
  have f2 := (unhide HA3).free 2
  have l2 := (unhide HA3).cell (i := 2) (v := .int .u64 0) rfl
  clear hb4 hT3 c1 Hb3 d0
  generalize hV : num (ws.getD 1 []) = ver at *
  have HV := hide hV
  have Hver : Hid (ver < 18446744073709551616) := by show _ < _; rw [← hV]; exact num_lt _
  clear hV
  have HA3' : Hid (Arr (w4.setCell ⟨w.heap.size + 1, 2, none⟩ (.int .u64 (ver : Int))) (w.heap.size + 1) (S.mk x 0 ver 0 zeros32).cs) := hide ((unhide HA3).set 2 _)
  have HA1' := hide ((unhide HA1).other (⟨w.heap.size + 1, 2, none⟩ : Addr) (.int .u64 (ver : Int)) (by simp))
  have Hb4' := hide ((unhide Hb4).setCell (p := ⟨w.heap.size + 1, 2, none⟩) (by simp) (.int .u64 (ver : Int)))
  have c2 := (unhide Hb4').cell (p := ⟨g, 2, none⟩) (unhide HG) |>.trans (unhide HC 2 (by omega))
  have hT4 := (unhide HT).below (unhide Hb4')
  clear HA1 HA3 Hb4
  go_wp2_with fail
  refine (number_walk (ws.getD 2 []) (unhide HL 2) _ hT4).mono ?_
  rintro e w5 ⟨rfl, hb5⟩
  have HA1 := hide ((unhide HA1').below hb5)
  have HA3 := hide ((unhide HA3').below hb5)
  have Hb5 := hide ((unhide Hb4').trans (hb5.mono (unhide Hb4').size))
  have f3 := (unhide HA3).free 3
  have l3 := (unhide HA3).cell (i := 3) (v := .int .i64 0) rfl
  clear hb5 hT4 c2 Hb4' HA1' HA3' f2 l2
  generalize hZ : num (ws.getD 2 []) = zn at *
  have HZn := hide hZ
  clear hZ
  obtain ⟨z, hz⟩ : ∃ z, z = wrap64 (zn : Int) := ⟨_, rfl⟩
  have Hz := hide hz
  have HA3' : Hid (Arr (w5.setCell ⟨w.heap.size + 1, 3, none⟩ (.int .i64 (wrap64 (zn : Int)))) (w.heap.size + 1) (S.mk x 0 ver z zeros32).cs) := by rw [hz]; exact hide ((unhide HA3).set 3 _)
  have HA1' := hide ((unhide HA1).other (⟨w.heap.size + 1, 3, none⟩ : Addr) (.int .i64 (wrap64 (zn : Int))) (by simp))
  have Hb5' := hide ((unhide Hb5).setCell (p := ⟨w.heap.size + 1, 3, none⟩) (by simp) (.int .i64 (wrap64 (zn : Int))))
  have c3 := (unhide Hb5').cell (p := ⟨g, 3, none⟩) (unhide HG) |>.trans (unhide HC 3 (by omega))
  clear HA1 HA3 Hb5 hz
  go_wp2_with fail
  refine (hparse_walk (ws.getD 3 []) _).mono ?_
  rintro e w6 ⟨dg, okk, rfl, hdg, hb6⟩
  have Hdg := hide hdg
  have HDL := hide (info24s hdg.1)
  have HD1 := hide (bytesV_one dg)
  have HDn : Hid ((bytesV dg).length = 32) := by show _ = _; rw [bytesV_length]; exact hdg.1
  have HA1 := hide ((unhide HA1').below hb6)
  have HA3 := hide ((unhide HA3').below hb6)
  have Hb6 := hide ((unhide Hb5').trans (hb6.mono (unhide Hb5').size))
  have HTh : Hid (w6.there (w.heap.size + 1) 4 32) := hide ((unhide HA3).thereMid 4 32 (by show 4 + 32 ≤ 36; omega))
  clear hb6 c3 Hb5' HA1' HA3' f3 l3 hdg
  have HA3' : Hid (Arr (w6.setCells (w.heap.size + 1) 4 (bytesV dg)) (w.heap.size + 1) (S.mk x 0 ver z dg).cs) := by
    have h := (unhide HA3).mid 4 (bytesV dg) (by rw [unhide HDn]; show 4 + 32 ≤ 36; omega)
    rw [unhide HDn] at h
    have e : (S.mk x 0 ver z zeros32).cs.take 4 ++ (bytesV dg ++ (S.mk x 0 ver z zeros32).cs.drop (4 + 32)) = (S.mk x 0 ver z dg).cs := by
      show [_, _, _, _] ++ (bytesV dg ++ []) = _
      rw [List.append_nil]
      rfl
    rw [e] at h
    exact h
  have hgm : w6.grownBy (w6.setCells (w.heap.size + 1) 4 (bytesV dg)) (some (w.heap.size + 1)) := setCells_grown _ _ _ _
  have HA1' := hide ((unhide HA1).grown hgm (by simp))
  have Hb6' := hide ((unhide Hb6).grown hgm (unhide Hb6).size (fun k hk => by simp at hk; omega))
  clear HA1 HA3 Hb6 hgm
  have d0 := (unhide HA3').cell (i := 0) (v := .int .i64 x) rfl
  have c4 := (unhide Hb6').cell (p := ⟨g, 4, none⟩) (unhide HG) |>.trans (unhide HC 4 (by omega))
  go_wp2_with (refine wpList_store_mid rfl 24 _ _ rfl (w.heap.size + 1) 4 (bytesV dg).toArray rfl rfl (by simpa [unhide HDn] using unhide HTh) (by simpa [unhide HDn] using info24) (all_oneCell_toArray (unhide HD1)) ?_)
  have HA1 := HA1'
  have HA3 := HA3'
  have Hb3 := Hb6'
  have HWs : Hid (w.heap.size ≤ (w6.setCells (w.heap.size + 1) 4 (bytesV dg)).heap.size) := hide (unhide Hb6').size
  clear HA1' HA3' Hb6' HTh
  generalize w6.setCells (w.heap.size + 1) 4 (bytesV dg) = w7 at *
  have hT7 := (unhide HT).below (unhide Hb3)
  refine (number_walk (ws.getD 4 []) (unhide HL 4) w7 hT7).mono ?_
  rintro e w8 ⟨rfl, hb8⟩
  have HA1' := hide ((unhide HA1).below hb8)
  have HA3' := hide ((unhide HA3).below hb8)
  have Hb8 := hide ((unhide Hb3).trans (hb8.mono (unhide Hb3).size))
  have f1 := (unhide HA3').free 1
  have l1 := (unhide HA3').cell (i := 1) (v := .int .i64 0) rfl
  clear hb8 hT7 c4 Hb3 HA1 HA3 d0
  generalize hR : num (ws.getD 4 []) = tn at *
  have HRn := hide hR
  clear hR
  obtain ⟨tr, htr⟩ : ∃ tr, tr = wrap64 (tn : Int) := ⟨_, rfl⟩
  have Htr := hide htr
  have HA3 : Hid (Arr (w8.setCell ⟨w.heap.size + 1, 1, none⟩ (.int .i64 (wrap64 (tn : Int)))) (w.heap.size + 1) (S.mk x tr ver z dg).cs) := by rw [htr]; exact hide ((unhide HA3').set 1 _)
  have HA1 := hide ((unhide HA1').other (⟨w.heap.size + 1, 1, none⟩ : Addr) (.int .i64 (wrap64 (tn : Int))) (by simp))
  have Hb3 := hide ((unhide Hb8).setCell (p := ⟨w.heap.size + 1, 1, none⟩) (by simp) (.int .i64 (wrap64 (tn : Int))))
  clear HA1' HA3' Hb8 htr
  have HY := hide (info26s (s := (S.mk x tr ver z dg)) (unhide Hdg).1)
  have HYL : Hid (zeroS.cs.length = (S.mk x tr ver z dg).cs.length) := by show _ = _; rw [cs_length (s := (S.mk x tr ver z dg)) (unhide Hdg).1]; rfl
  have HY1 := hide (cs_one (S.mk x tr ver z dg))
  go_wp2_with (first
    | refine wpList_loadAll 26 _ (w.heap.size + 1) (S.mk x tr ver z dg).cs _ rfl rfl rfl (unhide HA3) Tryd.underlying26 rfl (unhide HY) ?_
    | refine wpList_storeAll 26 _ _ w.heap.size (S.mk x tr ver z dg).cs zeroS.cs rfl rfl rfl rfl (unhide HA1) (unhide HYL) (unhide HY) (unhide HY1) ?_)
  intro w9 hA9 hg9 hs9
  have Hb9 := hide ((unhide Hb3).grown hg9 (unhide Hb3).size (fun k hk => by simp at hk; omega))
  have HA9 := hide hA9
  clear hA9 hg9
  go_wp2
  refine bodyPost_ret (v := S.v (S.mk x tr ver z dg)) ?_ rfl ⟨(S.mk x tr ver z dg), rfl, ?_, unhide Hb9⟩
  · exact results_arr Tryd.results35 rfl (unhide HA9) Tryd.underlying26 rfl (unhide HY)
  · have hr := unhide Hr
    have hw := wrap_rng zn
    refine ⟨⟨by simp only; omega, by simp only; omega, by simp only; rw [unhide Htr]; exact (wrap_rng tn).1, by simp only; rw [unhide Htr]; exact (wrap_rng tn).2, unhide Hver, by simp only; rw [unhide Hz]; exact hw.1, by simp only; rw [unhide Hz]; exact hw.2, (unhide Hdg).1⟩, (unhide HX).symm, fun _ _ => ⟨(unhide HV).symm, by rw [unhide HZn, wrap_eq]; exact unhide Hz, unhide Hdg⟩, fun h => absurd ⟨unhide Hhas, by have := unhide HN; omega⟩ h, fun _ _ => by rw [unhide HRn, wrap_eq]; exact unhide Htr, fun h => absurd ⟨unhide H2, by have := unhide HN; omega⟩ h⟩

theorem slotof_walk (ws : List (List UInt8)) (hlen : ∀ x ∈ ws, x.length ≤ 1000000) (h1 : 1 ≤ ws.length) (w : World) (hT : Tabs w) (B : Nat) (v : Value) (hv : Txs B w v ws) :
    Calls Tryd.prog 35 #[v] w fun e w' => ∃ x, e = .returned (S.v x) ∧ SlotOf ws x ∧ Below w.heap.size w w' := by
  by_cases hh : has (stF (ws.getD 0 [])) = true ∧ 4 ≤ ws.length
  · by_cases h2 : stF (ws.getD 0 []) = 2 ∧ 5 ≤ ws.length
    · exact slotof_two ws hlen h1 w hT B v hv hh.1 h2.1 h2.2
    · exact slotof_yes ws hlen h1 w hT B v hv hh.1 hh.2 h2
  · exact slotof_no ws hlen h1 w hT B v hv hh
end Go.Proofs.YtglphnmnnfpcoaaDoor
