/-
  Erase and Program of a part's sector.
-/
import Derived.Test.YtlgknllcnkainaaDid
namespace Go.Proofs.Ytlgknllcnkainaa
open Go.RowKit

section
variable {F D : List Nat} {w w' : World} {m p : Nat} {x : MX} {d : DM}

set_option maxHeartbeats 800000 in
set_option maxRecDepth 100000 in
theorem merase_walk (h : PMap F D w m p d x) (i j : Int) (hj : -9223372036854775808 ≤ j ∧ j ≤ 9223372036854775807) (hlen : d.wait.length ≤ 1000000) (hop : x.ops.length ≤ 1000000) :
    Calls Try.prog 12 #[.pointer (some ⟨m, 0, none⟩), .int .i64 i, .int .i64 j] w fun e w' => e = .returned (.int .i64 (eraseM d x i j).1) ∧
      ∃ F' D', PMap F' D' w' m p (eraseM d x i j).2.1 (eraseM d x i j).2.2 ∧ Turns (F ++ D) (F' ++ D') w w' := by
  have HM := hide h
  have HPL := hide (place_walk h.map i j hj)
  obtain ⟨q1, q2, hq⟩ : ∃ q1 q2, placeX x.sz i j = (q1, q2) := ⟨_, _, rfl⟩
  rw [hq] at HPL
  clear h
  by_cases h0 : q2 = 0
  · subst h0
    obtain ⟨e1, d1, hed⟩ : ∃ e1 d1, eraseD d q1 = (e1, d1) := ⟨_, _, rfl⟩
    have HE : ∀ w1, Below w.heap.size w w1 → Hid (Calls Try.prog 43 #[.pointer (some ⟨p, 0, none⟩), .int .i64 q1] w1 fun e w' => e = .returned (.int .i64 e1) ∧ ∃ F', Dev F' w' p d1 ∧ Turns D F' w1 w') := fun w1 hb1 => by
      have := erase_walk ((unhide HM).dev.below hb1) q1 hlen
      rw [hed] at this
      exact hide this
    have HKL : Hid (d1.kept.length = d.kept.length) := hide (by
      have := erase_kept d q1
      rw [hed] at this
      rw [this])
    by_cases h1 : e1 = 0
    · subst h1
      rw [show eraseM d x i j = (0, d1, x.did 1 i j) by unfold eraseM opG; rw [hq, hed]; simp]
      clear hq hed
      go_enter Try.func12, Try.ntmps12
      go_wp2_with fail
      refine (unhide HPL).mono ?_
      rintro e w1 ⟨rfl, hb1, hs1⟩
      have HB1 := hide hb1
      have HM1 := hide ((unhide HM).below hb1)
      have hc0 := (unhide HM1).map.dev
      have HE1 := HE w1 hb1
      clear hb1 HPL HM HE
      go_wp2_with fail
      refine (unhide HE1).mono ?_
      rintro e w2 ⟨rfl, D', hD2, hT2⟩
      have HQ2 := hide ((unhide HM1).turnD hT2 hD2 (unhide HKL))
      clear hD2 hT2 HE1 HM1 hc0 HKL
      go_wp2_with fail
      refine (did_walk (unhide HQ2).1.map 1 i j hop).mono ?_
      rintro e w3 ⟨rfl, F', hF3, hT3⟩
      have HQ3 := hide ((unhide HQ2).1.turnM hT3 hF3 rfl)
      clear hF3 hT3
      go_wp2_with fail
      go_ret
      exact ⟨rfl, F', D', (unhide HQ3).1, Turns.after (unhide HB1) ((unhide HQ2).2.trans (unhide HQ3).2)⟩
    · rw [show eraseM d x i j = (e1, d1, x) by unfold eraseM opG; rw [hq, hed]; simp [h1]]
      clear hq hed
      go_enter Try.func12, Try.ntmps12
      go_wp2_with fail
      refine (unhide HPL).mono ?_
      rintro e w1 ⟨rfl, hb1, hs1⟩
      have HB1 := hide hb1
      have HM1 := hide ((unhide HM).below hb1)
      have hc0 := (unhide HM1).map.dev
      have HE1 := HE w1 hb1
      clear hb1 HPL HM HE
      go_wp2_with fail
      refine (unhide HE1).mono ?_
      rintro e w2 ⟨rfl, D', hD2, hT2⟩
      have HQ2 := hide ((unhide HM1).turnD hT2 hD2 (unhide HKL))
      clear hD2 hT2 HE1 HM1 hc0 HKL
      go_wp2_with fail
      go_ret
      exact ⟨rfl, F, D', (unhide HQ2).1, Turns.after (unhide HB1) (unhide HQ2).2⟩
  · rw [show eraseM d x i j = (q2, d, x) by unfold eraseM opG; rw [hq]; simp [h0]]
    clear hq
    go_enter Try.func12, Try.ntmps12
    go_wp2_with fail
    refine (unhide HPL).mono ?_
    rintro e w1 ⟨rfl, hb1, hs1⟩
    have HB1 := hide hb1
    clear hb1 HPL
    go_wp2_with fail
    go_ret
    exact ⟨rfl, F, D, (unhide HM).below (unhide HB1), Turns.of_below (unhide HB1)⟩

set_option maxHeartbeats 800000 in
set_option maxRecDepth 100000 in
theorem mprogram_walk (h : PMap F D w m p d x) (i j : Int) (hj : -9223372036854775808 ≤ j ∧ j ≤ 9223372036854775807) (s : Sec) (hs : s.length = 64) (hlen : d.wait.length ≤ 1000000) (hop : x.ops.length ≤ 1000000) :
    Calls Try.prog 11 #[.pointer (some ⟨m, 0, none⟩), .int .i64 i, .int .i64 j, secV s] w fun e w' => e = .returned (.int .i64 (programM s d x i j).1) ∧
      ∃ F' D', PMap F' D' w' m p (programM s d x i j).2.1 (programM s d x i j).2.2 ∧ Turns (F ++ D) (F' ++ D') w w' := by
  have HM := hide h
  have HS := hide hs
  have HPL : ∀ w1, Below w.heap.size w w1 → Hid (Calls Try.prog 40 #[.pointer (some ⟨m, 0, none⟩), .int .i64 i, .int .i64 j] w1 fun e w' => e = .returned (.tuple #[.int .i64 (placeX x.sz i j).1, .int .i64 (placeX x.sz i j).2]) ∧ Below w1.heap.size w1 w' ∧ w'.heap.size = w1.heap.size) := fun w1 hb1 => hide (place_walk (h.map.below hb1) i j hj)
  obtain ⟨q1, q2, hq⟩ : ∃ q1 q2, placeX x.sz i j = (q1, q2) := ⟨_, _, rfl⟩
  rw [hq] at HPL
  clear h
  by_cases h0 : q2 = 0
  · subst h0
    obtain ⟨e1, d1, hed⟩ : ∃ e1 d1, programD d q1 s = (e1, d1) := ⟨_, _, rfl⟩
    have HE : Hid (∀ w1, Dev D w1 p d → Calls Try.prog 41 #[.pointer (some ⟨p, 0, none⟩), .int .i64 q1, secV s] w1 fun e w' => e = .returned (.int .i64 e1) ∧ ∃ F', Dev F' w' p d1 ∧ Turns D F' w1 w') := hide fun w1 hd1 => by
      have := program_walk hd1 q1 s hs hlen
      rw [hed] at this
      exact this
    have HKL : Hid (d1.kept.length = d.kept.length) := hide (by
      have := program_kept d q1 s
      rw [hed] at this
      rw [this])
    by_cases h1 : e1 = 0
    · rw [show programM s d x i j = (0, d1, x.did 2 i j) by unfold programM opG; rw [hq]; simp [hed, h1]]
      clear hq hed
      go_enter Try.func11, Try.ntmps11
      go_wp2_with (refine wpList_box 30 _ (bytesV s) rfl rfl rfl ?_)
      intro w1 hA1 hb1 hs1
      have HA1 := hide hA1
      have Hb1 := hide hb1
      have HP1 := HPL w1 hb1
      clear hA1 hb1 HPL
      go_wp2_with fail
      refine (unhide HP1).mono ?_
      rintro e w2 ⟨rfl, hb2, hs2⟩
      have Hb2 := hide ((unhide Hb1).trans (hb2.mono (by omega)))
      have HA2 := hide ((unhide HA1).keep hb2 (by omega))
      have HM2 := hide ((unhide HM).below (unhide Hb2))
      have hc0 := (unhide HM2).map.dev
      have HT2 : Hid (∀ H, Turns H H w w2) := hide fun H => Turns.of_below (unhide Hb2)
      clear HP1 hb2 HA1 Hb1 HM Hb2
      generalize w.heap.size = q at *
      go_wp2_with fail
      have hr5 : w2.rangeAt q 0 (bytesV s) := (unhide HA2).range
      refine Flow.wp_region (Flow.VV (fun j => match j with | 0 => .pointer (some ⟨m, 0, none⟩) | 1 => .pointer (some ⟨m, 0, none⟩) | 2 => .pointer (some ⟨m, 0, none⟩) | 3 => .pointer (some ⟨p, 0, none⟩) | 4 => .int .i64 q1 | 5 => secV s | 6 => .int .i64 e1 | 7 => .int .i64 e1 | _ => undef)) (Flow.two 6 (fun _ w' => w' = w2.drew) (fun _ w' => ∃ D', Dev D' w' p d1 ∧ Turns D D' w2 w')) () (by kernel_rfl) (by kernel_rfl) (by unfold Flow.two; simp) ⟨?_, ?_, ?_, ?_, ?_, ?_, ?_, ?_, trivial⟩ ?_
      · exact Flow.move (Flow.goes_plain rfl) (Flow.two.upd (by decide)) (.inl rfl) fun a s w' hs hd => (hs 0 (by kernel_rfl))
      · refine Flow.pure (Flow.goes_plain rfl) (Flow.two.upd (by decide)) fun a L s w' hC hL hn hs hd => ?_
        skip
        exact ⟨_, op_nil rfl (hd 0 22 (by kernel_rfl)) w', rfl⟩
      · refine Flow.pure (Flow.goes_plain rfl) (Flow.two.upd (by decide)) fun a L s w' hC hL hn hs hd => ?_
        skip
        exact ⟨_, op_f84_0 rfl (hd 1 23 (by kernel_rfl)) w', rfl⟩
      · refine Flow.pure (Flow.goes_plain rfl) (Flow.two.upd (by decide)) fun a L s w' hC hL hn hs hd => ?_
        have hA := hC.pre (hn.after 6 (by kernel_rfl))
        exact ⟨_, op_load23 rfl (hd 2 24 (by kernel_rfl)) (by rw [hA]; exact hc0), rfl⟩
      · exact Flow.move (Flow.goes_plain rfl) (Flow.two.upd (by decide)) (.inl rfl) fun a s w' hs hd => (hs 9 (by kernel_rfl))
      · refine Flow.pure (Flow.goes_plain rfl) (Flow.two.upd (by decide)) fun a L s w' hC hL hn hs hd => ?_
        have hA := hC.pre (hn.after 6 (by kernel_rfl))
        exact ⟨_, op_load30 rfl (hs 7 (by kernel_rfl)) (by rw [hA]; exact hr5) (unhide HS), rfl⟩
      · refine Flow.call (Flow.goes_plain rfl) fun a L s0 w' hC hL hn hs hd => ⟨41, _, op_call41 rfl (hd 3 25 (by kernel_rfl)) (hd 4 26 (by kernel_rfl)) (hd 5 27 (by kernel_rfl)) rfl w', (unhide HE w' ?_).mono ?_⟩
        · have hA := hC.pre hL
          rw [hA]
          exact (unhide HM2).dev.drew
        · have hA := hC.pre hL
          rintro e w'' ⟨rfl, D', hD, hT⟩
          refine ⟨_, (), rfl, fun _ _ _ h => h, Flow.two.post ⟨D', hD, ?_⟩, rfl⟩
          rw [hA] at hT
          exact ⟨hT.1.undrew, hT.2⟩
      · exact Flow.move (Flow.goes_plain rfl) (Flow.two.upd (by decide)) (.inr rfl) fun a s w' hs hd => (hd 6 28 (by kernel_rfl))
      · intro L _ w4 hC hL vals hv
        obtain ⟨D', hD4, hT4⟩ := hC.end (hL 6 (by decide))
        have e7 : vals 7 = .int .i64 e1 := hv 7 _ 11 rfl rfl
        have e6 : vals 6 = .int .i64 e1 := hv 6 _ 28 rfl rfl
        have HQ4 := hide ((unhide HM2).turnD hT4 hD4 (unhide HKL))
        simp only [Free.putAll, Act.put, List.setIfInBounds_toArray, List.set_cons_succ, List.set_cons_zero, e6, e7]
        clear hC hL hv e6 e7 hD4 hT4 hc0 hr5 HM2 HKL
        generalize vals 0 = x0 at *
        generalize vals 1 = x1 at *
        generalize vals 2 = x2 at *
        generalize vals 3 = x3 at *
        generalize vals 4 = x4 at *
        generalize vals 5 = x5 at *
        subst h1
        go_wp2_with fail
        refine (did_walk (unhide HQ4).1.map 2 i j hop).mono ?_
        rintro e w5 ⟨rfl, F', hF5, hT5⟩
        have HQ5 := hide ((unhide HQ4).1.turnM hT5 hF5 rfl)
        clear hF5 hT5
        go_wp2_with fail
        go_ret
        exact ⟨rfl, F', D', (unhide HQ5).1, (unhide HT2 _).trans ((unhide HQ4).2.trans (unhide HQ5).2)⟩
    · rw [show programM s d x i j = (e1, d1, x) by unfold programM opG; rw [hq]; simp [hed, h1]]
      clear hq hed
      go_enter Try.func11, Try.ntmps11
      go_wp2_with (refine wpList_box 30 _ (bytesV s) rfl rfl rfl ?_)
      intro w1 hA1 hb1 hs1
      have HA1 := hide hA1
      have Hb1 := hide hb1
      have HP1 := HPL w1 hb1
      clear hA1 hb1 HPL
      go_wp2_with fail
      refine (unhide HP1).mono ?_
      rintro e w2 ⟨rfl, hb2, hs2⟩
      have Hb2 := hide ((unhide Hb1).trans (hb2.mono (by omega)))
      have HA2 := hide ((unhide HA1).keep hb2 (by omega))
      have HM2 := hide ((unhide HM).below (unhide Hb2))
      have hc0 := (unhide HM2).map.dev
      have HT2 : Hid (∀ H, Turns H H w w2) := hide fun H => Turns.of_below (unhide Hb2)
      clear HP1 hb2 HA1 Hb1 HM Hb2
      generalize w.heap.size = q at *
      go_wp2_with fail
      have hr5 : w2.rangeAt q 0 (bytesV s) := (unhide HA2).range
      refine Flow.wp_region (Flow.VV (fun j => match j with | 0 => .pointer (some ⟨m, 0, none⟩) | 1 => .pointer (some ⟨m, 0, none⟩) | 2 => .pointer (some ⟨m, 0, none⟩) | 3 => .pointer (some ⟨p, 0, none⟩) | 4 => .int .i64 q1 | 5 => secV s | 6 => .int .i64 e1 | 7 => .int .i64 e1 | _ => undef)) (Flow.two 6 (fun _ w' => w' = w2.drew) (fun _ w' => ∃ D', Dev D' w' p d1 ∧ Turns D D' w2 w')) () (by kernel_rfl) (by kernel_rfl) (by unfold Flow.two; simp) ⟨?_, ?_, ?_, ?_, ?_, ?_, ?_, ?_, trivial⟩ ?_
      · exact Flow.move (Flow.goes_plain rfl) (Flow.two.upd (by decide)) (.inl rfl) fun a s w' hs hd => (hs 0 (by kernel_rfl))
      · refine Flow.pure (Flow.goes_plain rfl) (Flow.two.upd (by decide)) fun a L s w' hC hL hn hs hd => ?_
        skip
        exact ⟨_, op_nil rfl (hd 0 22 (by kernel_rfl)) w', rfl⟩
      · refine Flow.pure (Flow.goes_plain rfl) (Flow.two.upd (by decide)) fun a L s w' hC hL hn hs hd => ?_
        skip
        exact ⟨_, op_f84_0 rfl (hd 1 23 (by kernel_rfl)) w', rfl⟩
      · refine Flow.pure (Flow.goes_plain rfl) (Flow.two.upd (by decide)) fun a L s w' hC hL hn hs hd => ?_
        have hA := hC.pre (hn.after 6 (by kernel_rfl))
        exact ⟨_, op_load23 rfl (hd 2 24 (by kernel_rfl)) (by rw [hA]; exact hc0), rfl⟩
      · exact Flow.move (Flow.goes_plain rfl) (Flow.two.upd (by decide)) (.inl rfl) fun a s w' hs hd => (hs 9 (by kernel_rfl))
      · refine Flow.pure (Flow.goes_plain rfl) (Flow.two.upd (by decide)) fun a L s w' hC hL hn hs hd => ?_
        have hA := hC.pre (hn.after 6 (by kernel_rfl))
        exact ⟨_, op_load30 rfl (hs 7 (by kernel_rfl)) (by rw [hA]; exact hr5) (unhide HS), rfl⟩
      · refine Flow.call (Flow.goes_plain rfl) fun a L s0 w' hC hL hn hs hd => ⟨41, _, op_call41 rfl (hd 3 25 (by kernel_rfl)) (hd 4 26 (by kernel_rfl)) (hd 5 27 (by kernel_rfl)) rfl w', (unhide HE w' ?_).mono ?_⟩
        · have hA := hC.pre hL
          rw [hA]
          exact (unhide HM2).dev.drew
        · have hA := hC.pre hL
          rintro e w'' ⟨rfl, D', hD, hT⟩
          refine ⟨_, (), rfl, fun _ _ _ h => h, Flow.two.post ⟨D', hD, ?_⟩, rfl⟩
          rw [hA] at hT
          exact ⟨hT.1.undrew, hT.2⟩
      · exact Flow.move (Flow.goes_plain rfl) (Flow.two.upd (by decide)) (.inr rfl) fun a s w' hs hd => (hd 6 28 (by kernel_rfl))
      · intro L _ w4 hC hL vals hv
        obtain ⟨D', hD4, hT4⟩ := hC.end (hL 6 (by decide))
        have e7 : vals 7 = .int .i64 e1 := hv 7 _ 11 rfl rfl
        have e6 : vals 6 = .int .i64 e1 := hv 6 _ 28 rfl rfl
        have HQ4 := hide ((unhide HM2).turnD hT4 hD4 (unhide HKL))
        simp only [Free.putAll, Act.put, List.setIfInBounds_toArray, List.set_cons_succ, List.set_cons_zero, e6, e7]
        clear hC hL hv e6 e7 hD4 hT4 hc0 hr5 HM2 HKL
        generalize vals 0 = x0 at *
        generalize vals 1 = x1 at *
        generalize vals 2 = x2 at *
        generalize vals 3 = x3 at *
        generalize vals 4 = x4 at *
        generalize vals 5 = x5 at *
        go_wp2_with fail
        go_ret
        exact ⟨rfl, F, D', (unhide HQ4).1, (unhide HT2 _).trans (unhide HQ4).2⟩
  · rw [show programM s d x i j = (q2, d, x) by unfold programM opG; rw [hq]; simp [h0]]
    clear hq
    go_enter Try.func11, Try.ntmps11
    go_wp2_with (refine wpList_box 30 _ (bytesV s) rfl rfl rfl ?_)
    intro w1 hA1 hb1 hs1
    have Hb1 := hide hb1
    have HP1 := HPL w1 hb1
    clear hA1 hb1 HPL
    go_wp2_with fail
    refine (unhide HP1).mono ?_
    rintro e w2 ⟨rfl, hb2, hs2⟩
    have Hb2 := hide ((unhide Hb1).trans (hb2.mono (by omega)))
    clear HP1 hb2 Hb1
    go_wp2_with fail
    go_ret
    exact ⟨rfl, F, D, (unhide HM).below (unhide Hb2), Turns.of_below (unhide Hb2)⟩
end
end Go.Proofs.Ytlgknllcnkainaa
