/-
  Program of the program's device.
-/
import Derived.Test.YtlgknllcnkainaaErase
namespace Go.Proofs.Ytlgknllcnkainaa
open Go.RowKit

section
variable {F : List Nat} {w : World} {p : Nat} {d : DM}

set_option maxHeartbeats 1600000 in
set_option maxRecDepth 100000 in
theorem program_walk (h : Dev F w p d) (i : Int) (s : Sec) (hs : s.length = 64) (hlen : d.wait.length ≤ 1000000) :
    Calls Try.prog 41 #[.pointer (some ⟨p, 0, none⟩), .int .i64 i, secV s] w fun e w' => e = .returned (.int .i64 (programD d i s).1) ∧ ∃ F', Dev F' w' p (programD d i s).2 ∧ Turns F F' w w' := by
  have HS := hide hs
  by_cases ho : openD d i = 0
  · obtain ⟨hh, hdn⟩ := openD_zero ho
    obtain ⟨k, rfl, hk⟩ := hasD_nat hh
    have HD := hide h
    have HK := hide hk
    have HN64 := hide (getD_mem64 h.ok.nowS (i := k) (by rw [h.ok.now]; exact hk))
    have HX : ∀ w1, Below w.heap.size w w1 → Hid (∃ bn, w1.cell? ⟨p, 1, none⟩ = some (.slice (some ⟨bn, 0, none⟩) d.kept.length d.kept.length) ∧ w1.rangeAt bn (k * 64) (bytesV (d.now.getD k [])) ∧ p < w1.heap.size ∧ bn < w1.heap.size) := fun w1 hb1 => by
      obtain ⟨bk, bn, bw, wv, rfl, hB⟩ := h.below hb1
      exact hide ⟨bn, hB.dev.cell (i := 1) rfl, hB.now.sec hB.ok.nowS (by rw [hB.ok.now]; exact hk), hB.dev.lt, hB.now.lt⟩
    clear h hh
    by_cases hw : d.now.getD k [] = blankS
    · obtain ⟨e1, d1, hst⟩ : ∃ e1 d1, stepD d = (e1, d1) := ⟨_, _, rfl⟩
      have HST : Hid (∀ w', Below w.heap.size w w' → Calls Try.prog 55 #[.pointer (some ⟨p, 0, none⟩)] w' fun e w'' => e = .returned (.int .i64 e1) ∧ Dev F w'' p d1 ∧ But F w' w'' ∧ w''.heap.size = w'.heap.size) := hide (fun w' hb' => by
        have := step_walk ((unhide HD).below hb')
        rw [hst] at this
        exact this)
      have hke : d1.kept = d.kept := by rw [← step_kept d, hst]
      have hwa : d1.wait = d.wait := by rw [← step_wait d, hst]
      by_cases h0 : e1 = 0
      · have E : Hid (programD d (k : Int) s = (0, doD d1 k s)) := hide (by
          unfold programD; rw [if_neg (by simp [ho]), if_neg (by simpa using hw), if_neg (by rw [hst]; simp [h0]), hst]; rfl)
        rw [unhide E]
        subst h0
        have HK1 : Hid (k < d1.kept.length) := hide (by rw [hke]; exact hk)
        have HL1 : Hid (d1.wait.length ≤ 1000000) := hide (by rw [hwa]; exact hlen)
        clear hst hke hwa E
        go_enter Try.func41, Try.ntmps41
        go_wp2_with (refine wpList_box 30 _ (bytesV s) rfl rfl rfl ?_)
        intro w1 hA1 hb1 hs1
        have HA1 := hide hA1
        have HB1 := hide hb1
        have HO := hide (open_walk ((unhide HD).below hb1) (k : Int))
        obtain ⟨bn, hc1, hr1, hpl, hbl⟩ := unhide (HX w1 hb1)
        have HQF : Hid (w.heap.size ∉ F) := hide (fun e => by have := (unhide HD).lt _ e; omega)
        have HRG := hide hr1
        rw [ho] at HO
        clear hA1 hb1 hr1 HX
        generalize hq : w.heap.size = q at HA1 HB1 HQF hs1 ⊢
        have HQ := hide hq
        clear hq
        go_wp2_with fail
        refine (unhide HO).mono ?_
        rintro e w2 ⟨rfl, hw2⟩
        subst w2
        clear HO
        go_wp2_with fail
        refine Flow.wp_region (Flow.VV (fun j => match j with | 0 => .pointer (some ⟨p, 0, none⟩) | 1 => .pointer (some ⟨p, 0, none⟩) | 2 => .pointer (some ⟨p, 1, none⟩) | 3 => .slice (some ⟨bn, 0, none⟩) d.kept.length d.kept.length | 4 => .int .i64 (k : Int) | 5 => .pointer (some ⟨bn, k * 64, none⟩) | 6 => secV (d.now.getD k []) | 7 => secV blankS | 8 => .bool false | _ => undef)) (fun _ (_ : Unit) w' => Below w1.heap.size w1 w') () (by kernel_rfl) (by kernel_rfl) (Below.refl _ w1).drew ⟨?_, ?_, ?_, ?_, ?_, ?_, ?_, ?_, ?_, trivial⟩ ?_
        · exact Flow.move (Flow.goes_plain rfl) (fun _ _ _ h => h) (.inl rfl) fun a s w' hs hd => (hs 0 (by kernel_rfl))
        · refine Flow.pure (Flow.goes_plain rfl) (fun _ _ _ h => h) fun a L s w' hC hL hn hs hd => ?_
          skip
          exact ⟨_, op_nil rfl (hd 0 15 (by kernel_rfl)) w', rfl⟩
        · refine Flow.pure (Flow.goes_plain rfl) (fun _ _ _ h => h) fun a L s w' hC hL hn hs hd => ?_
          skip
          exact ⟨_, op_f82_1 rfl (hd 1 16 (by kernel_rfl)) w', rfl⟩
        · refine Flow.pure (Flow.goes_plain rfl) (fun _ _ _ h => h) fun a L s w' hC hL hn hs hd => ?_
          skip
          exact ⟨_, op_load78 rfl (hd 2 17 (by kernel_rfl)) ((hC.cell (p := ⟨p, 1, none⟩) hpl).trans hc1), rfl⟩
        · exact Flow.move (Flow.goes_plain rfl) (fun _ _ _ h => h) (.inl rfl) fun a s w' hs hd => (hs 1 (by kernel_rfl))
        · refine Flow.pure (Flow.goes_plain rfl) (fun _ _ _ h => h) fun a L s w' hC hL hn hs hd => ?_
          skip
          exact ⟨_, op_idx78 rfl (hd 3 18 (by kernel_rfl)) (hd 4 19 (by kernel_rfl)) hk w', rfl⟩
        · refine Flow.pure (Flow.goes_plain rfl) (fun _ _ _ h => h) fun a L s w' hC hL hn hs hd => ?_
          skip
          exact ⟨_, op_load30 rfl (hd 5 20 (by kernel_rfl)) (fun j v hj => (hC.cell (p := ⟨bn, k * 64 + j, none⟩) hbl).trans (unhide HRG j v hj)) (unhide HN64), rfl⟩
        · refine Flow.call (Flow.goes_plain rfl) fun a L s0 w' hC hL hn hs hd => ⟨34, #[], op_call34 rfl rfl w', (blank_walk w').mono ?_⟩
          rintro e w'' ⟨rfl, hb⟩
          exact ⟨_, (), rfl, fun _ _ _ h => h, hC.trans (hb.mono hC.size), rfl⟩
        · refine Flow.pure (Flow.goes_plain rfl) (fun _ _ _ h => h) fun a L s w' hC hL hn hs hd => ?_
          skip
          exact ⟨_, op_neq30 rfl (hd 6 21 (by kernel_rfl)) (hd 7 22 (by kernel_rfl)) (by rw [hw]; rfl) (unhide HN64) blankS_len w', rfl⟩
        · intro L _ w4 hC hL vals hv
          have e8 : vals 8 = .bool false := hv 8 _ 23 rfl rfl
          simp only [Free.putAll, Act.put, List.setIfInBounds_toArray, List.set_cons_succ, List.set_cons_zero, e8]
          have HB4 : Hid (Below w.heap.size w w4) := hide (by rw [unhide HQ]; exact (unhide HB1).trans (hC.mono (by omega)))
          have HA4 : Hid (Arr w4 q (bytesV s)) := hide ((unhide HA1).below hC)
          clear hv hL e8 HA1 HB1
          generalize vals 0 = x0 at *
          generalize vals 1 = x1 at *
          generalize vals 2 = x2 at *
          generalize vals 3 = x3 at *
          generalize vals 4 = x4 at *
          generalize vals 5 = x5 at *
          generalize vals 6 = x6 at *
          generalize vals 7 = x7 at *
          go_wp2_with fail
          refine (unhide HST w4 (unhide HB4)).mono ?_
          rintro e w5 ⟨rfl, hD5, hB5, hs5⟩
          have HD5 := hide hD5
          have HB5 : Hid (But F w w5) := hide ((But.of_below (unhide HB4)).trans hB5 (fun _ h => .inl h))
          have HA5 : Hid (Arr w5 q (bytesV s)) := hide ((unhide HA4).same (hB5.block q (unhide HA4).lt (unhide HQF)))
          clear hD5 hB5 HST HB4 HA4 hC
          go_wp2_with (refine wpList_loadAll 30 _ q (bytesV s) _ rfl rfl rfl (unhide HA5) Try.underlying30 rfl (info30s (unhide HS)) ?_)
          refine (do_walk (unhide HD5) k (unhide HK1) s (unhide HS) (unhide HL1)).mono ?_
          rintro e w6 ⟨rfl, F', hD6, hT6⟩
          have HD6 := hide hD6
          have HT6 : Hid (Turns F F' w w6) := hide (Turns.trans ⟨unhide HB5, fun _ h => .inl h⟩ hT6)
          clear hD6 hT6 HD5 HB5
          go_wp2_with fail
          go_ret
          exact ⟨rfl, F', unhide HD6, unhide HT6⟩
      · have E : Hid (programD d (k : Int) s = (e1, d1)) := hide (by
          unfold programD; rw [if_neg (by simp [ho]), if_neg (by simpa using hw), if_pos (by rw [hst]; exact h0), hst])
        rw [unhide E]
        clear hst hke hwa E
        go_enter Try.func41, Try.ntmps41
        go_wp2_with (refine wpList_box 30 _ (bytesV s) rfl rfl rfl ?_)
        intro w1 hA1 hb1 hs1
        have HA1 := hide hA1
        have HB1 := hide hb1
        have HO := hide (open_walk ((unhide HD).below hb1) (k : Int))
        obtain ⟨bn, hc1, hr1, hpl, hbl⟩ := unhide (HX w1 hb1)
        have HQF : Hid (w.heap.size ∉ F) := hide (fun e => by have := (unhide HD).lt _ e; omega)
        have HRG := hide hr1
        rw [ho] at HO
        clear hA1 hb1 hr1 HX
        generalize hq : w.heap.size = q at HA1 HB1 HQF hs1 ⊢
        have HQ := hide hq
        clear hq
        go_wp2_with fail
        refine (unhide HO).mono ?_
        rintro e w2 ⟨rfl, hw2⟩
        subst w2
        clear HO
        go_wp2_with fail
        refine Flow.wp_region (Flow.VV (fun j => match j with | 0 => .pointer (some ⟨p, 0, none⟩) | 1 => .pointer (some ⟨p, 0, none⟩) | 2 => .pointer (some ⟨p, 1, none⟩) | 3 => .slice (some ⟨bn, 0, none⟩) d.kept.length d.kept.length | 4 => .int .i64 (k : Int) | 5 => .pointer (some ⟨bn, k * 64, none⟩) | 6 => secV (d.now.getD k []) | 7 => secV blankS | 8 => .bool false | _ => undef)) (fun _ (_ : Unit) w' => Below w1.heap.size w1 w') () (by kernel_rfl) (by kernel_rfl) (Below.refl _ w1).drew ⟨?_, ?_, ?_, ?_, ?_, ?_, ?_, ?_, ?_, trivial⟩ ?_
        · exact Flow.move (Flow.goes_plain rfl) (fun _ _ _ h => h) (.inl rfl) fun a s w' hs hd => (hs 0 (by kernel_rfl))
        · refine Flow.pure (Flow.goes_plain rfl) (fun _ _ _ h => h) fun a L s w' hC hL hn hs hd => ?_
          skip
          exact ⟨_, op_nil rfl (hd 0 15 (by kernel_rfl)) w', rfl⟩
        · refine Flow.pure (Flow.goes_plain rfl) (fun _ _ _ h => h) fun a L s w' hC hL hn hs hd => ?_
          skip
          exact ⟨_, op_f82_1 rfl (hd 1 16 (by kernel_rfl)) w', rfl⟩
        · refine Flow.pure (Flow.goes_plain rfl) (fun _ _ _ h => h) fun a L s w' hC hL hn hs hd => ?_
          skip
          exact ⟨_, op_load78 rfl (hd 2 17 (by kernel_rfl)) ((hC.cell (p := ⟨p, 1, none⟩) hpl).trans hc1), rfl⟩
        · exact Flow.move (Flow.goes_plain rfl) (fun _ _ _ h => h) (.inl rfl) fun a s w' hs hd => (hs 1 (by kernel_rfl))
        · refine Flow.pure (Flow.goes_plain rfl) (fun _ _ _ h => h) fun a L s w' hC hL hn hs hd => ?_
          skip
          exact ⟨_, op_idx78 rfl (hd 3 18 (by kernel_rfl)) (hd 4 19 (by kernel_rfl)) hk w', rfl⟩
        · refine Flow.pure (Flow.goes_plain rfl) (fun _ _ _ h => h) fun a L s w' hC hL hn hs hd => ?_
          skip
          exact ⟨_, op_load30 rfl (hd 5 20 (by kernel_rfl)) (fun j v hj => (hC.cell (p := ⟨bn, k * 64 + j, none⟩) hbl).trans (unhide HRG j v hj)) (unhide HN64), rfl⟩
        · refine Flow.call (Flow.goes_plain rfl) fun a L s0 w' hC hL hn hs hd => ⟨34, #[], op_call34 rfl rfl w', (blank_walk w').mono ?_⟩
          rintro e w'' ⟨rfl, hb⟩
          exact ⟨_, (), rfl, fun _ _ _ h => h, hC.trans (hb.mono hC.size), rfl⟩
        · refine Flow.pure (Flow.goes_plain rfl) (fun _ _ _ h => h) fun a L s w' hC hL hn hs hd => ?_
          skip
          exact ⟨_, op_neq30 rfl (hd 6 21 (by kernel_rfl)) (hd 7 22 (by kernel_rfl)) (by rw [hw]; rfl) (unhide HN64) blankS_len w', rfl⟩
        · intro L _ w4 hC hL vals hv
          have e8 : vals 8 = .bool false := hv 8 _ 23 rfl rfl
          simp only [Free.putAll, Act.put, List.setIfInBounds_toArray, List.set_cons_succ, List.set_cons_zero, e8]
          have HB4 : Hid (Below w.heap.size w w4) := hide (by rw [unhide HQ]; exact (unhide HB1).trans (hC.mono (by omega)))
          have HA4 : Hid (Arr w4 q (bytesV s)) := hide ((unhide HA1).below hC)
          clear hv hL e8 HA1 HB1
          generalize vals 0 = x0 at *
          generalize vals 1 = x1 at *
          generalize vals 2 = x2 at *
          generalize vals 3 = x3 at *
          generalize vals 4 = x4 at *
          generalize vals 5 = x5 at *
          generalize vals 6 = x6 at *
          generalize vals 7 = x7 at *
          go_wp2_with fail
          refine (unhide HST w4 (unhide HB4)).mono ?_
          rintro e w5 ⟨rfl, hD5, hB5, hs5⟩
          have HD5 := hide hD5
          have HB5 : Hid (But F w w5) := hide ((But.of_below (unhide HB4)).trans hB5 (fun _ h => .inl h))
          clear hD5 hB5 HST HB4 HA4 hC
          go_wp2_with fail
          go_ret
          exact ⟨rfl, F, unhide HD5, ⟨unhide HB5, fun _ h => .inl h⟩⟩
    · have E : Hid (programD d (k : Int) s = (63, d)) := hide (by unfold programD; rw [if_neg (by simp [ho]), if_pos (by simpa using hw)])
      rw [unhide E]
      go_enter Try.func41, Try.ntmps41
      go_wp2_with (refine wpList_box 30 _ (bytesV s) rfl rfl rfl ?_)
      intro w1 hA1 hb1 hs1
      have HA1 := hide hA1
      have HB1 := hide hb1
      have HO := hide (open_walk ((unhide HD).below hb1) (k : Int))
      obtain ⟨bn, hc1, hr1, hpl, hbl⟩ := unhide (HX w1 hb1)
      have HQF : Hid (w.heap.size ∉ F) := hide (fun e => by have := (unhide HD).lt _ e; omega)
      have HRG := hide hr1
      rw [ho] at HO
      clear hA1 hb1 hr1 HX
      generalize hq : w.heap.size = q at HA1 HB1 HQF hs1 ⊢
      have HQ := hide hq
      clear hq
      go_wp2_with fail
      refine (unhide HO).mono ?_
      rintro e w2 ⟨rfl, hw2⟩
      subst w2
      clear HO
      go_wp2_with fail
      refine Flow.wp_region (Flow.VV (fun j => match j with | 0 => .pointer (some ⟨p, 0, none⟩) | 1 => .pointer (some ⟨p, 0, none⟩) | 2 => .pointer (some ⟨p, 1, none⟩) | 3 => .slice (some ⟨bn, 0, none⟩) d.kept.length d.kept.length | 4 => .int .i64 (k : Int) | 5 => .pointer (some ⟨bn, k * 64, none⟩) | 6 => secV (d.now.getD k []) | 7 => secV blankS | 8 => .bool true | _ => undef)) (fun _ (_ : Unit) w' => Below w1.heap.size w1 w') () (by kernel_rfl) (by kernel_rfl) (Below.refl _ w1).drew ⟨?_, ?_, ?_, ?_, ?_, ?_, ?_, ?_, ?_, trivial⟩ ?_
      · exact Flow.move (Flow.goes_plain rfl) (fun _ _ _ h => h) (.inl rfl) fun a s w' hs hd => (hs 0 (by kernel_rfl))
      · refine Flow.pure (Flow.goes_plain rfl) (fun _ _ _ h => h) fun a L s w' hC hL hn hs hd => ?_
        skip
        exact ⟨_, op_nil rfl (hd 0 15 (by kernel_rfl)) w', rfl⟩
      · refine Flow.pure (Flow.goes_plain rfl) (fun _ _ _ h => h) fun a L s w' hC hL hn hs hd => ?_
        skip
        exact ⟨_, op_f82_1 rfl (hd 1 16 (by kernel_rfl)) w', rfl⟩
      · refine Flow.pure (Flow.goes_plain rfl) (fun _ _ _ h => h) fun a L s w' hC hL hn hs hd => ?_
        skip
        exact ⟨_, op_load78 rfl (hd 2 17 (by kernel_rfl)) ((hC.cell (p := ⟨p, 1, none⟩) hpl).trans hc1), rfl⟩
      · exact Flow.move (Flow.goes_plain rfl) (fun _ _ _ h => h) (.inl rfl) fun a s w' hs hd => (hs 1 (by kernel_rfl))
      · refine Flow.pure (Flow.goes_plain rfl) (fun _ _ _ h => h) fun a L s w' hC hL hn hs hd => ?_
        skip
        exact ⟨_, op_idx78 rfl (hd 3 18 (by kernel_rfl)) (hd 4 19 (by kernel_rfl)) hk w', rfl⟩
      · refine Flow.pure (Flow.goes_plain rfl) (fun _ _ _ h => h) fun a L s w' hC hL hn hs hd => ?_
        skip
        exact ⟨_, op_load30 rfl (hd 5 20 (by kernel_rfl)) (fun j v hj => (hC.cell (p := ⟨bn, k * 64 + j, none⟩) hbl).trans (unhide HRG j v hj)) (unhide HN64), rfl⟩
      · refine Flow.call (Flow.goes_plain rfl) fun a L s0 w' hC hL hn hs hd => ⟨34, #[], op_call34 rfl rfl w', (blank_walk w').mono ?_⟩
        rintro e w'' ⟨rfl, hb⟩
        exact ⟨_, (), rfl, fun _ _ _ h => h, hC.trans (hb.mono hC.size), rfl⟩
      · refine Flow.pure (Flow.goes_plain rfl) (fun _ _ _ h => h) fun a L s w' hC hL hn hs hd => ?_
        skip
        exact ⟨_, op_neq30 rfl (hd 6 21 (by kernel_rfl)) (hd 7 22 (by kernel_rfl)) (by simpa using hw) (unhide HN64) blankS_len w', rfl⟩
      · intro L _ w4 hC hL vals hv
        have e8 : vals 8 = .bool true := hv 8 _ 23 rfl rfl
        simp only [Free.putAll, Act.put, List.setIfInBounds_toArray, List.set_cons_succ, List.set_cons_zero, e8]
        have HB4 : Hid (Below w.heap.size w w4) := hide (by rw [unhide HQ]; exact (unhide HB1).trans (hC.mono (by omega)))
        have HA4 : Hid (Arr w4 q (bytesV s)) := hide ((unhide HA1).below hC)
        clear hv hL e8 HA1 HB1
        generalize vals 0 = x0 at *
        generalize vals 1 = x1 at *
        generalize vals 2 = x2 at *
        generalize vals 3 = x3 at *
        generalize vals 4 = x4 at *
        generalize vals 5 = x5 at *
        generalize vals 6 = x6 at *
        generalize vals 7 = x7 at *
        go_wp2_with fail
        go_ret
        exact ⟨rfl, F, (unhide HD).below (unhide HB4), Turns.of_below (unhide HB4)⟩
  · have E : Hid (programD d i s = (openD d i, d)) := hide (by unfold programD; rw [if_pos ho])
    rw [unhide E]
    have HD := hide h
    have HO : Hid (∀ w1, Below w.heap.size w w1 → Calls Try.prog 54 #[.pointer (some ⟨p, 0, none⟩), .int .i64 i] w1 fun e w' => e = .returned (.int .i64 (openD d i)) ∧ w' = w1) := hide fun w1 hb1 => open_walk (h.below hb1) i
    clear h
    generalize openD d i = x at *
    go_enter Try.func41, Try.ntmps41
    go_wp2_with (refine wpList_box 30 _ (bytesV s) rfl rfl rfl ?_)
    intro w1 hA1 hb1 hs1
    have HB1 := hide hb1
    clear hA1 hb1
    go_wp2_with fail
    refine (unhide HO w1 (unhide HB1)).mono ?_
    rintro e w2 ⟨rfl, hw2⟩
    subst w2
    clear HO
    go_wp2_with fail
    go_ret
    exact ⟨rfl, F, (unhide HD).below (unhide HB1), Turns.of_below (unhide HB1)⟩
end
end Go.Proofs.Ytlgknllcnkainaa
