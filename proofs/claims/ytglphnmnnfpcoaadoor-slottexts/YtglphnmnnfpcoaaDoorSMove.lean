/-
  What slot.checked, slot.Ready, slot.Try, slot.Good and slot.Bad answer, and the document's Try, Good and Bad.
-/
import Derived.Test.YtglphnmnnfpcoaaDoorSBoot
namespace Go.Proofs.YtglphnmnnfpcoaaDoor
open Go.RowKit

/-- What becomes of a slot, and the error. -/
def checkedF (s : S) : S × Int := if right s = true then (s, 0) else (zeroS, 101)
def tryF (s : S) : S × Int := if boot s = true ∧ s.st = 2 then ({ s with tr := s.tr - 1 }, 0) else (zeroS, 101)
def goodF (s : S) : S × Int := if whole s = true then ({ s with st := 3, tr := 0 }, 0) else (zeroS, 101)
def badF (s : S) : S × Int := if whole s = true then (bare 4, 0) else (zeroS, 101)

set_option maxHeartbeats 1600000 in
set_option maxRecDepth 100000 in
theorem checked_walk (s : S) (hf : Fit s) (w : World) : Calls Tryd.prog 50 #[s.v] w fun e w' => e = .returned (.tuple #[(checkedF s).1.v, .int .i64 (checkedF s).2]) ∧ Below w.heap.size w w' := by
  have HW : Hid (∀ w : World, Calls Tryd.prog 14 #[.agg s.cs.toArray] w fun e w' => e = .returned (.bool (right s)) ∧ Below w.heap.size w w') := hide (right_walk s hf)
  have HS := hide (info26s hf.dg)
  have HL := hide (cs_length hf.dg)
  have HS1 := hide (cs_one s)
  have HZ := hide (info26s (s := zeroS) rfl)
  have HZL : Hid (zeroS.cs.length = 36) := hide rfl
  have HZ1 := hide (cs_one zeroS)
  have HB := hide built26
  have Hal := hide alloc26
  have Hy : Hid (right s = true → checkedF s = (s, 0)) := by
    show right s = true → _
    intro h; unfold checkedF; rw [if_pos h]
  have Hn : Hid (right s = false → checkedF s = (zeroS, 101)) := by
    show right s = false → _
    intro h; unfold checkedF; rw [if_neg (by rw [h]; simp)]
  unfold S.v
  clear hf
  generalize right s = r at *
  go_enter Tryd.func50, Tryd.ntmps50
  go_wp2_with (refine wpList_box 26 _ s.cs rfl rfl rfl ?_)
  intro w1 hA1 hb1 hs1
  have HA1 := hide hA1
  have Hb1 := hide hb1
  clear hA1 hb1
  go_wp2_with (refine wpList_alloc 26 26 zeroS.cs rfl rfl (unhide Hal) ?_)
  intro w2 hA2 hb2 hs2
  have HA1 := hide ((unhide HA1).keep hb2 (by omega))
  have HA2 := hide hA2
  have Hb2 := hide ((unhide Hb1).trans (hb2.mono (by omega)))
  clear hA2 hb2 Hb1
  go_wp2_with (refine wpList_loadAll 26 _ w.heap.size s.cs _ rfl rfl rfl (unhide HA1) Tryd.underlying26 rfl (unhide HS) ?_)
  refine ((unhide HW) w2).mono ?_
  rintro e w3 ⟨rfl, hb3⟩
  have HA1 := hide ((unhide HA1).below hb3)
  have HA2 := hide ((unhide HA2).below hb3)
  have Hb3 := hide ((unhide Hb2).trans (hb3.mono (unhide Hb2).size))
  clear hb3 Hb2 HW
  cases r with
  | false =>
    go_wp2_with (first
      | refine wpList_build 26 _ zeroS.cs [] rfl rfl rfl (unhide HB) ?_
      | refine wpList_storeAll 26 _ _ (w.heap.size + 1) zeroS.cs zeroS.cs rfl rfl rfl rfl (unhide HA2) rfl (unhide HZ) (unhide HZ1) ?_)
    intro w5 hA5 hg5 hs5
    have Hb5 := hide ((unhide Hb3).grown hg5 (unhide Hb3).size (fun k hk => by simp at hk; omega))
    have HA5 := hide hA5
    clear hA5 hg5
    go_wp2
    refine bodyPost_ret (v := .tuple #[.agg zeroS.cs.toArray, .int .i64 101]) ?_ rfl ⟨?_, unhide Hb5⟩
    · exact results_two Tryd.results50 rfl rfl (unhide HA5) Tryd.underlying26 rfl (unhide HZ)
    · rw [unhide Hn (by simp)]
      try rfl
  | true =>
    go_wp2_with (first
      | refine wpList_loadAll 26 _ w.heap.size s.cs _ rfl rfl rfl (unhide HA1) Tryd.underlying26 rfl (unhide HS) ?_
      | refine wpList_storeAll 26 _ _ (w.heap.size + 1) s.cs zeroS.cs rfl rfl rfl rfl (unhide HA2) (by rw [unhide HL, unhide HZL]) (unhide HS) (unhide HS1) ?_)
    intro w5 hA5 hg5 hs5
    have Hb5 := hide ((unhide Hb3).grown hg5 (unhide Hb3).size (fun k hk => by simp at hk; omega))
    have HA5 := hide hA5
    clear hA5 hg5
    go_wp2
    refine bodyPost_ret (v := .tuple #[.agg s.cs.toArray, .int .i64 0]) ?_ rfl ⟨?_, unhide Hb5⟩
    · exact results_two Tryd.results50 rfl rfl (unhide HA5) Tryd.underlying26 rfl (unhide HS)
    · rw [unhide Hy (by simp)]

set_option maxHeartbeats 1600000 in
set_option maxRecDepth 100000 in
theorem ready_walk (v : Nat) (z : Int) (dg : List UInt8) (t : Int) (hf : Fit ⟨2, t, v, z, dg⟩) (w : World) : Calls Tryd.prog 27 #[.int .u64 (v : Int), .int .i64 z, .agg (bytesV dg).toArray, .int .i64 t] w fun e w' => e = .returned (.tuple #[(checkedF ⟨2, t, v, z, dg⟩).1.v, .int .i64 (checkedF ⟨2, t, v, z, dg⟩).2]) ∧ Below w.heap.size w w' := by
  have hdg : dg.length = 32 := hf.dg
  obtain ⟨s, hs⟩ : ∃ s, s = S.mk 2 t v z dg := ⟨_, rfl⟩
  have HBu := hide (built26_all 2 t z v dg hdg)
  rw [← hs] at hf HBu ⊢
  clear hs
  have HC : Hid (∀ w : World, Calls Tryd.prog 50 #[.agg s.cs.toArray] w fun e w' => e = .returned (.tuple #[(checkedF s).1.v, .int .i64 (checkedF s).2]) ∧ Below w.heap.size w w') := hide (checked_walk s hf)
  have HG := hide (info24s hdg)
  have Hal := hide alloc26
  have HZL : Hid (zeroS.cs.length = 36) := hide rfl
  obtain ⟨q, hq⟩ : ∃ q, q = checkedF s := ⟨_, rfl⟩
  have hq32 : q.1.dg.length = 32 := by
    rw [hq]; unfold checkedF; split
    · exact hf.dg
    · rfl
  rw [← hq] at HC ⊢
  have HQ := hide (info26s hq32)
  have HQL := hide (cs_length hq32)
  have HQ1 := hide (cs_one q.1)
  unfold S.v at HC ⊢
  clear hq hf hq32 hdg
  generalize bytesV dg = G at *
  go_enter Tryd.func27, Tryd.ntmps27
  go_wp2_with (refine wpList_box 24 _ G rfl rfl rfl ?_)
  intro w1 hA1 hb1 hs1
  have HA1 := hide hA1
  have Hb1 := hide hb1
  clear hA1 hb1
  go_wp2_with (refine wpList_alloc 26 26 zeroS.cs rfl rfl (unhide Hal) ?_)
  intro w2 hA2 hb2 hs2
  have HA1 := hide ((unhide HA1).keep hb2 (by omega))
  have HA2 := hide hA2
  have Hb2 := hide ((unhide Hb1).trans (hb2.mono (by omega)))
  clear hA2 hb2 Hb1
  go_wp2_with (first
    | refine wpList_loadAll 24 _ w.heap.size G _ rfl rfl rfl (unhide HA1) Tryd.underlying24 rfl (unhide HG) ?_
    | refine wpList_build 26 _ s.cs _ rfl rfl rfl (unhide HBu) ?_)
  refine ((unhide HC) w2).mono ?_
  rintro e w3 ⟨rfl, hb3⟩
  have HA2 := hide ((unhide HA2).below hb3)
  have Hb3 := hide ((unhide Hb2).trans (hb3.mono (unhide Hb2).size))
  clear hb3 Hb2 HC HA1
  go_wp2_with (first
    | refine wpList_storeAll 26 _ _ (w.heap.size + 1) q.1.cs zeroS.cs rfl rfl rfl rfl (unhide HA2) (by rw [unhide HQL, unhide HZL]) (unhide HQ) (unhide HQ1) ?_)
  intro w5 hA5 hg5 hs5
  have Hb5 := hide ((unhide Hb3).grown hg5 (unhide Hb3).size (fun k hk => by simp at hk; omega))
  have HA5 := hide hA5
  clear hA5 hg5
  go_wp2
  refine bodyPost_ret (v := .tuple #[.agg q.1.cs.toArray, .int .i64 q.2]) ?_ rfl ⟨?_, unhide Hb5⟩
  · exact results_two Tryd.results27 rfl rfl (unhide HA5) Tryd.underlying26 rfl (unhide HQ)
  · rfl

set_option maxHeartbeats 1600000 in
set_option maxRecDepth 100000 in
theorem try_walk (s : S) (hf : Fit s) (w : World) : Calls Tryd.prog 28 #[s.v] w fun e w' => e = .returned (.tuple #[(tryF s).1.v, .int .i64 (tryF s).2]) ∧ Below w.heap.size w w' := by
  have HW : Hid (∀ w : World, Calls Tryd.prog 16 #[.agg s.cs.toArray] w fun e w' => e = .returned (.bool (boot s)) ∧ Below w.heap.size w w') := hide (boot_walk s hf)
  have HS := hide (info26s hf.dg)
  have HL := hide (cs_length hf.dg)
  have HS1 := hide (cs_one s)
  have HZ := hide (info26s (s := zeroS) rfl)
  have HZL : Hid (zeroS.cs.length = 36) := hide rfl
  have HZ1 := hide (cs_one zeroS)
  have HB := hide built26
  have Hal := hide alloc26
  have Hf : Hid (boot s = false → tryF s = (zeroS, 101)) := by
    show boot s = false → _
    intro h; unfold tryF; rw [if_neg (by rw [h]; simp)]
  have Hn : Hid (¬ s.st = 2 → tryF s = (zeroS, 101)) := by
    show ¬ s.st = 2 → _
    intro h; unfold tryF; rw [if_neg (fun e => h e.2)]
  have Hy : Hid (boot s = true → s.st = 2 → tryF s = ({ s with tr := s.tr - 1 }, 0)) := by
    show boot s = true → s.st = 2 → _
    intro h h2; unfold tryF; rw [if_pos ⟨h, h2⟩]
  have Hg : Hid (boot s = true → s.st = 2 → 0 < s.tr ∧ s.tr ≤ 7) := by
    show boot s = true → s.st = 2 → _
    intro h h2
    unfold boot at h
    rw [Bool.and_eq_true, Bool.or_eq_true, decide_eq_true_eq, decide_eq_true_eq] at h
    have := right_range h.1
    omega
  have HT := hide (info26s (s := { s with tr := s.tr - 1 }) hf.dg)
  have HTL := hide (cs_length (s := { s with tr := s.tr - 1 }) hf.dg)
  have HT1 := hide (cs_one { s with tr := s.tr - 1 })
  have H0 : Hid (s.cs[0]? = some (.int .i64 s.st)) := hide rfl
  have H1 : Hid (s.cs[1]? = some (.int .i64 s.tr)) := hide rfl
  unfold S.v
  clear hf
  generalize boot s = r at *
  go_enter Tryd.func28, Tryd.ntmps28
  go_wp2_with (refine wpList_box 26 _ s.cs rfl rfl rfl ?_)
  intro w1 hA1 hb1 hs1
  have HA1 := hide hA1
  have Hb1 := hide hb1
  clear hA1 hb1
  go_wp2_with (refine wpList_alloc 26 26 zeroS.cs rfl rfl (unhide Hal) ?_)
  intro w2 hA2 hb2 hs2
  have HA1 := hide ((unhide HA1).keep hb2 (by omega))
  have HA2 := hide hA2
  have Hb2 := hide ((unhide Hb1).trans (hb2.mono (by omega)))
  clear hA2 hb2 Hb1
  go_wp2_with (refine wpList_loadAll 26 _ w.heap.size s.cs _ rfl rfl rfl (unhide HA1) Tryd.underlying26 rfl (unhide HS) ?_)
  refine ((unhide HW) w2).mono ?_
  rintro e w3 ⟨rfl, hb3⟩
  have HA1 := hide ((unhide HA1).below hb3)
  have HA2 := hide ((unhide HA2).below hb3)
  have Hb3 := hide ((unhide Hb2).trans (hb3.mono (unhide Hb2).size))
  clear hb3 Hb2 HW
  have c0 := (unhide HA1).cell (unhide H0)
  have c1 := (unhide HA1).cell (unhide H1)
  cases r with
  | false =>
    go_wp2_with (first
      | refine wpList_build 26 _ zeroS.cs [] rfl rfl rfl (unhide HB) ?_
      | refine wpList_storeAll 26 _ _ (w.heap.size + 1) zeroS.cs zeroS.cs rfl rfl rfl rfl (unhide HA2) rfl (unhide HZ) (unhide HZ1) ?_)
    intro w5 hA5 hg5 hs5
    have Hb5 := hide ((unhide Hb3).grown hg5 (unhide Hb3).size (fun k hk => by simp at hk; omega))
    have HA5 := hide hA5
    clear hA5 hg5
    go_wp2
    refine bodyPost_ret (v := .tuple #[.agg zeroS.cs.toArray, .int .i64 101]) ?_ rfl ⟨?_, unhide Hb5⟩
    · exact results_two Tryd.results28 rfl rfl (unhide HA5) Tryd.underlying26 rfl (unhide HZ)
    · rw [unhide Hf (by simp)]
      try rfl
  | true =>
    by_cases h2 : s.st = 2
    · have Hy2 := hide (unhide Hy (by simp) h2)
      obtain ⟨g0, g7⟩ := unhide Hg (by simp) h2
      clear Hn Hf Hg Hy
      rw [h2] at c0 H0
      clear h2
      have f1 := (unhide HA1).free 1
      have HA3 : Hid (Arr (w3.setCell ⟨w.heap.size, 1, none⟩ (.int .i64 (s.tr - 1))) w.heap.size ({ s with tr := s.tr - 1 } : S).cs) := hide ((unhide HA1).set 1 _)
      have HA2 := hide ((unhide HA2).other (⟨w.heap.size, 1, none⟩ : Addr) (.int .i64 (s.tr - 1)) (by simp))
      have Hb3 := hide ((unhide Hb3).setCell (p := ⟨w.heap.size, 1, none⟩) (by simp) (.int .i64 (s.tr - 1)))
      go_wp2_with (first
        | refine wpList_loadAll 26 _ w.heap.size (S.mk s.st (s.tr - 1) s.ver s.sz s.dg).cs _ rfl rfl rfl (unhide HA3) Tryd.underlying26 rfl (unhide HT) ?_
        | refine wpList_storeAll 26 _ _ (w.heap.size + 1) (S.mk s.st (s.tr - 1) s.ver s.sz s.dg).cs zeroS.cs rfl rfl rfl rfl (unhide HA2) (by rw [unhide HTL, unhide HZL]) (unhide HT) (unhide HT1) ?_)
      intro w5 hA5 hg5 hs5
      have Hb5 := hide ((unhide Hb3).grown hg5 (unhide Hb3).size (fun k hk => by simp at hk; omega))
      have HA5 := hide hA5
      clear hA5 hg5
      go_wp2
      refine bodyPost_ret (v := .tuple #[.agg (S.mk s.st (s.tr - 1) s.ver s.sz s.dg).cs.toArray, .int .i64 0]) ?_ rfl ⟨?_, unhide Hb5⟩
      · exact results_two Tryd.results28 rfl rfl (unhide HA5) Tryd.underlying26 rfl (unhide HT)
      · rw [unhide Hy2]
        try rfl
    · have e2 : (s.st != 2) = true := by simpa using h2
      have Hn2 := hide (unhide Hn h2)
      clear h2
      go_wp2_with (first
        | refine wpList_build 26 _ zeroS.cs [] rfl rfl rfl (unhide HB) ?_
        | refine wpList_storeAll 26 _ _ (w.heap.size + 1) zeroS.cs zeroS.cs rfl rfl rfl rfl (unhide HA2) rfl (unhide HZ) (unhide HZ1) ?_)
      intro w5 hA5 hg5 hs5
      have Hb5 := hide ((unhide Hb3).grown hg5 (unhide Hb3).size (fun k hk => by simp at hk; omega))
      have HA5 := hide hA5
      clear hA5 hg5
      go_wp2
      refine bodyPost_ret (v := .tuple #[.agg zeroS.cs.toArray, .int .i64 101]) ?_ rfl ⟨?_, unhide Hb5⟩
      · exact results_two Tryd.results28 rfl rfl (unhide HA5) Tryd.underlying26 rfl (unhide HZ)
      · rw [unhide Hn2]
        try rfl

set_option maxHeartbeats 1600000 in
set_option maxRecDepth 100000 in
theorem rtry_walk (s : S) (hf : Fit s) (w : World) : Calls Tryd.prog 29 #[s.v] w fun e w' => e = .returned (.tuple #[(tryF s).1.v, .int .i64 (tryF s).2]) ∧ Below w.heap.size w w' := by
  have HW : Hid (∀ w : World, Calls Tryd.prog 15 #[.agg s.cs.toArray] w fun e w' => e = .returned (.bool (right s)) ∧ Below w.heap.size w w') := hide (rright_walk s hf)
  have HS := hide (info26s hf.dg)
  have HL := hide (cs_length hf.dg)
  have HS1 := hide (cs_one s)
  have HZ := hide (info26s (s := zeroS) rfl)
  have HZL : Hid (zeroS.cs.length = 36) := hide rfl
  have HZ1 := hide (cs_one zeroS)
  have HB := hide built26
  have Hal := hide alloc26
  have Hf : Hid (right s = false → tryF s = (zeroS, 101)) := by
    show right s = false → _
    intro h; unfold tryF boot; rw [if_neg (by rw [h]; simp)]
  have Hn : Hid (¬ s.st = 2 → tryF s = (zeroS, 101)) := by
    show ¬ s.st = 2 → _
    intro h; unfold tryF; rw [if_neg (fun e => h e.2)]
  have Hm : Hid (s.st = 2 → s.tr < 1 → tryF s = (zeroS, 101)) := by
    show s.st = 2 → s.tr < 1 → _
    intro h h1
    unfold tryF boot
    rw [if_neg]
    intro e
    have e1 := e.1
    rw [Bool.and_eq_true, Bool.or_eq_true, decide_eq_true_eq, decide_eq_true_eq] at e1
    omega
  have Hy : Hid (right s = true → s.st = 2 → 1 ≤ s.tr → tryF s = ({ s with tr := s.tr - 1 }, 0)) := by
    show right s = true → s.st = 2 → 1 ≤ s.tr → _
    intro h h2 h1
    unfold tryF boot
    rw [if_pos ⟨by rw [h, Bool.true_and, Bool.or_eq_true, decide_eq_true_eq, decide_eq_true_eq]; omega, h2⟩]
  have Hg : Hid (right s = true → s.tr ≤ 7) := by
    show right s = true → _
    intro h
    have := right_range h
    omega
  have HT := hide (info26s (s := { s with tr := s.tr - 1 }) hf.dg)
  have HTL := hide (cs_length (s := { s with tr := s.tr - 1 }) hf.dg)
  have HT1 := hide (cs_one { s with tr := s.tr - 1 })
  have H0 : Hid (s.cs[0]? = some (.int .i64 s.st)) := hide rfl
  have H1 : Hid (s.cs[1]? = some (.int .i64 s.tr)) := hide rfl
  unfold S.v
  clear hf
  generalize right s = r at *
  go_enter Tryd.func29, Tryd.ntmps29
  go_wp2_with (refine wpList_box 26 _ s.cs rfl rfl rfl ?_)
  intro w1 hA1 hb1 hs1
  have HA1 := hide hA1
  have Hb1 := hide hb1
  clear hA1 hb1
  go_wp2_with (refine wpList_alloc 26 26 zeroS.cs rfl rfl (unhide Hal) ?_)
  intro w2 hA2 hb2 hs2
  have HA1 := hide ((unhide HA1).keep hb2 (by omega))
  have HA2 := hide hA2
  have Hb2 := hide ((unhide Hb1).trans (hb2.mono (by omega)))
  clear hA2 hb2 Hb1
  go_wp2_with (refine wpList_loadAll 26 _ w.heap.size s.cs _ rfl rfl rfl (unhide HA1) Tryd.underlying26 rfl (unhide HS) ?_)
  refine ((unhide HW) w2).mono ?_
  rintro e w3 ⟨rfl, hb3⟩
  have HA1 := hide ((unhide HA1).below hb3)
  have HA2 := hide ((unhide HA2).below hb3)
  have Hb3 := hide ((unhide Hb2).trans (hb3.mono (unhide Hb2).size))
  clear hb3 Hb2 HW
  have c0 := (unhide HA1).cell (unhide H0)
  have c1 := (unhide HA1).cell (unhide H1)
  cases r with
  | false =>
    go_wp2_with (first
      | refine wpList_build 26 _ zeroS.cs [] rfl rfl rfl (unhide HB) ?_
      | refine wpList_storeAll 26 _ _ (w.heap.size + 1) zeroS.cs zeroS.cs rfl rfl rfl rfl (unhide HA2) rfl (unhide HZ) (unhide HZ1) ?_)
    intro w5 hA5 hg5 hs5
    have Hb5 := hide ((unhide Hb3).grown hg5 (unhide Hb3).size (fun k hk => by simp at hk; omega))
    have HA5 := hide hA5
    clear hA5 hg5
    go_wp2
    refine bodyPost_ret (v := .tuple #[.agg zeroS.cs.toArray, .int .i64 101]) ?_ rfl ⟨?_, unhide Hb5⟩
    · exact results_two Tryd.results29 rfl rfl (unhide HA5) Tryd.underlying26 rfl (unhide HZ)
    · rw [unhide Hf (by simp)]
      try rfl
  | true =>
    by_cases h2 : s.st = 2
    · have g7 := unhide Hg (by simp)
      rw [h2] at c0 H0
      by_cases h1 : s.tr < 1
      · have e1 : decide (s.tr < 1) = true := by simpa using h1
        have Hm2 := hide (unhide Hm h2 h1)
        clear h2 Hn Hf Hg Hy Hm h1
        go_wp2_with (first
          | refine wpList_build 26 _ zeroS.cs [] rfl rfl rfl (unhide HB) ?_
          | refine wpList_storeAll 26 _ _ (w.heap.size + 1) zeroS.cs zeroS.cs rfl rfl rfl rfl (unhide HA2) rfl (unhide HZ) (unhide HZ1) ?_)
        intro w5 hA5 hg5 hs5
        have Hb5 := hide ((unhide Hb3).grown hg5 (unhide Hb3).size (fun k hk => by simp at hk; omega))
        have HA5 := hide hA5
        clear hA5 hg5
        go_wp2
        refine bodyPost_ret (v := .tuple #[.agg zeroS.cs.toArray, .int .i64 101]) ?_ rfl ⟨?_, unhide Hb5⟩
        · exact results_two Tryd.results29 rfl rfl (unhide HA5) Tryd.underlying26 rfl (unhide HZ)
        · rw [unhide Hm2]
          try rfl
      · have e1 : decide (s.tr < 1) = false := by simpa using h1
        have g0 : 1 ≤ s.tr := by omega
        have Hy2 := hide (unhide Hy (by simp) h2 g0)
        clear h2 Hn Hf Hg Hm Hy h1
        have f1 := (unhide HA1).free 1
        have HA3 : Hid (Arr (w3.setCell ⟨w.heap.size, 1, none⟩ (.int .i64 (s.tr - 1))) w.heap.size ({ s with tr := s.tr - 1 } : S).cs) := hide ((unhide HA1).set 1 _)
        have HA2 := hide ((unhide HA2).other (⟨w.heap.size, 1, none⟩ : Addr) (.int .i64 (s.tr - 1)) (by simp))
        have Hb3 := hide ((unhide Hb3).setCell (p := ⟨w.heap.size, 1, none⟩) (by simp) (.int .i64 (s.tr - 1)))
        go_wp2_with (first
          | refine wpList_loadAll 26 _ w.heap.size (S.mk s.st (s.tr - 1) s.ver s.sz s.dg).cs _ rfl rfl rfl (unhide HA3) Tryd.underlying26 rfl (unhide HT) ?_
          | refine wpList_storeAll 26 _ _ (w.heap.size + 1) (S.mk s.st (s.tr - 1) s.ver s.sz s.dg).cs zeroS.cs rfl rfl rfl rfl (unhide HA2) (by rw [unhide HTL, unhide HZL]) (unhide HT) (unhide HT1) ?_)
        intro w5 hA5 hg5 hs5
        have Hb5 := hide ((unhide Hb3).grown hg5 (unhide Hb3).size (fun k hk => by simp at hk; omega))
        have HA5 := hide hA5
        clear hA5 hg5
        go_wp2
        refine bodyPost_ret (v := .tuple #[.agg (S.mk s.st (s.tr - 1) s.ver s.sz s.dg).cs.toArray, .int .i64 0]) ?_ rfl ⟨?_, unhide Hb5⟩
        · exact results_two Tryd.results29 rfl rfl (unhide HA5) Tryd.underlying26 rfl (unhide HT)
        · rw [unhide Hy2]
          try rfl
    · have e2 : (s.st != 2) = true := by simpa using h2
      have Hn2 := hide (unhide Hn h2)
      clear h2
      go_wp2_with (first
        | refine wpList_build 26 _ zeroS.cs [] rfl rfl rfl (unhide HB) ?_
        | refine wpList_storeAll 26 _ _ (w.heap.size + 1) zeroS.cs zeroS.cs rfl rfl rfl rfl (unhide HA2) rfl (unhide HZ) (unhide HZ1) ?_)
      intro w5 hA5 hg5 hs5
      have Hb5 := hide ((unhide Hb3).grown hg5 (unhide Hb3).size (fun k hk => by simp at hk; omega))
      have HA5 := hide hA5
      clear hA5 hg5
      go_wp2
      refine bodyPost_ret (v := .tuple #[.agg zeroS.cs.toArray, .int .i64 101]) ?_ rfl ⟨?_, unhide Hb5⟩
      · exact results_two Tryd.results29 rfl rfl (unhide HA5) Tryd.underlying26 rfl (unhide HZ)
      · rw [unhide Hn2]
        try rfl
end Go.Proofs.YtglphnmnnfpcoaaDoor
