/-
  Erase and Program of the program's device.
-/
import Derived.Test.YtlgknllcnkainaaOps2
namespace Go.Proofs.Ytlgknllcnkainaa
open Go.RowKit

theorem DevB.wearSet {bk bn bw : Nat} {wv : Value} {w : World} {p : Nat} {d : DM} (h : DevB bk bn bw wv w p d) {k : Nat} (hk : d.wear.getD k 0 < d.most) : DevB bk bn bw wv (w.setCell ⟨bw, k, none⟩ (.int .i64 ((d.wear.getD k 0 + 1 : Nat) : Int))) p (wornD d k) := by
  obtain ⟨n1, n2, n3, n4, n5, n6, n7, n8, n9, n10, _⟩ := nodupF h.nodup
  exact { ok := h.ok.worn hk, nodup := h.nodup, dev := h.dev.other _ _ n3, kept := h.kept.other _ _ n5, now := h.now.other _ _ n6, wear := by
            have := h.wear.set k (.int .i64 ((d.wear.getD k 0 + 1 : Nat) : Int))
            rw [intsV_set] at this
            exact this
          wait := owns_same h.wait fun j hj => Below.heap_setCell _ _ _ _ (n10 j hj).symm }
theorem Dev.drew {F : List Nat} {w : World} {p : Nat} {d : DM} (h : Dev F w p d) : Dev F w.drew p d := h.same fun _ _ => rfl

section
variable {F : List Nat} {w : World} {p : Nat} {d : DM}

set_option maxHeartbeats 1600000 in
set_option maxRecDepth 100000 in
theorem erase_walk (h : Dev F w p d) (i : Int) (hlen : d.wait.length ≤ 1000000) :
    Calls Try.prog 43 #[.pointer (some ⟨p, 0, none⟩), .int .i64 i] w fun e w' => e = .returned (.int .i64 (eraseD d i).1) ∧ ∃ F', Dev F' w' p (eraseD d i).2 ∧ Turns F F' w w' := by
  have HO := hide (open_walk h i)
  by_cases ho : openD d i = 0
  · obtain ⟨hh, hdn⟩ := openD_zero ho
    obtain ⟨k, rfl, hk⟩ := hasD_nat hh
    have HD := hide h
    have HDW := hide h.drew
    obtain ⟨bk, bn, bw, wv, rfl, hB⟩ := h
    have hc3 := hB.dev.cell (i := 3) rfl
    have hc4 := hB.dev.cell (i := 4) rfl
    have hcw := hB.wear.cell (intsV_get d.wear (i := k) (by rw [hB.ok.wear]; exact hk))
    have hwm : Hid (d.wear.getD k 0 ≤ 100000) := hide (by
      have h1 := hB.ok.most
      have h2 : d.wear.getD k 0 ≤ d.most := by
        rw [List.getD_eq_getElem?_getD, List.getElem?_eq_getElem (by rw [hB.ok.wear]; exact hk)]
        exact hB.ok.wearM _ (List.getElem_mem _)
      omega)
    rw [ho] at HO
    obtain ⟨F, hF⟩ : ∃ F, F = devF p bk bn bw wv := ⟨_, rfl⟩
    rw [← hF] at HD HDW ⊢
    have HK := hide hk
    clear hF hB hh
    by_cases hw : d.most ≤ d.wear.getD k 0
    · have E : Hid (eraseD d (k : Int) = (64, d)) := hide (by unfold eraseD; rw [if_neg (by simp [ho]), if_pos (by simpa using hw)])
      rw [unhide E]
      go_enter Try.func43, Try.ntmps43
      go_wp2_with fail
      refine (unhide HO).mono ?_
      rintro e w1 ⟨rfl, hw1⟩
      subst w1
      clear HO
      go_wp2_with fail
      refine Flow.wp_region (Flow.VV (fun j => match j with | 0 => .pointer (some ⟨p, 0, none⟩) | 1 => .pointer (some ⟨p, 0, none⟩) | 2 => .pointer (some ⟨p, 3, none⟩) | 3 => .slice (some ⟨bw, 0, none⟩) d.kept.length d.kept.length | 4 => .int .i64 (k : Int) | 5 => .pointer (some ⟨bw, k, none⟩) | 6 => .int .i64 ((d.wear.getD k 0 : Nat) : Int) | 7 => .pointer (some ⟨p, 0, none⟩) | 8 => .pointer (some ⟨p, 0, none⟩) | 9 => .pointer (some ⟨p, 4, none⟩) | 10 => .int .i64 (d.most : Int) | 11 => .bool true | _ => undef)) (fun _ (_ : Unit) w' => w' = w.drew) () (by kernel_rfl) (by kernel_rfl) rfl ⟨?_, ?_, ?_, ?_, ?_, ?_, ?_, ?_, ?_, ?_, ?_, ?_, trivial⟩ ?_
      · exact Flow.move (Flow.goes_plain rfl) (fun _ _ _ h => h) (.inl rfl) fun a s w' hs hd => (hs 0 (by kernel_rfl))
      · refine Flow.pure (Flow.goes_plain rfl) (fun _ _ _ h => h) fun a L s w' hC hL hn hs hd => ?_
        skip
        exact ⟨_, op_nil rfl (hd 0 13 (by kernel_rfl)) w', rfl⟩
      · refine Flow.pure (Flow.goes_plain rfl) (fun _ _ _ h => h) fun a L s w' hC hL hn hs hd => ?_
        skip
        exact ⟨_, op_f82_3 rfl (hd 1 14 (by kernel_rfl)) w', rfl⟩
      · refine Flow.pure (Flow.goes_plain rfl) (fun _ _ _ h => h) fun a L s w' hC hL hn hs hd => ?_
        skip
        exact ⟨_, op_load41 rfl (hd 2 15 (by kernel_rfl)) (by rw [hC]; exact hc3), rfl⟩
      · exact Flow.move (Flow.goes_plain rfl) (fun _ _ _ h => h) (.inl rfl) fun a s w' hs hd => (hs 1 (by kernel_rfl))
      · refine Flow.pure (Flow.goes_plain rfl) (fun _ _ _ h => h) fun a L s w' hC hL hn hs hd => ?_
        skip
        exact ⟨_, op_idx41 rfl (hd 3 16 (by kernel_rfl)) (hd 4 17 (by kernel_rfl)) hk w', rfl⟩
      · refine Flow.pure (Flow.goes_plain rfl) (fun _ _ _ h => h) fun a L s w' hC hL hn hs hd => ?_
        skip
        exact ⟨_, op_load3 rfl (hd 5 18 (by kernel_rfl)) (by rw [hC]; exact hcw), rfl⟩
      · exact Flow.move (Flow.goes_plain rfl) (fun _ _ _ h => h) (.inl rfl) fun a s w' hs hd => (hs 0 (by kernel_rfl))
      · refine Flow.pure (Flow.goes_plain rfl) (fun _ _ _ h => h) fun a L s w' hC hL hn hs hd => ?_
        skip
        exact ⟨_, op_nil rfl (hd 7 20 (by kernel_rfl)) w', rfl⟩
      · refine Flow.pure (Flow.goes_plain rfl) (fun _ _ _ h => h) fun a L s w' hC hL hn hs hd => ?_
        skip
        exact ⟨_, op_f82_4 rfl (hd 8 21 (by kernel_rfl)) w', rfl⟩
      · refine Flow.pure (Flow.goes_plain rfl) (fun _ _ _ h => h) fun a L s w' hC hL hn hs hd => ?_
        skip
        exact ⟨_, op_load3 rfl (hd 9 22 (by kernel_rfl)) (by rw [hC]; exact hc4), rfl⟩
      · refine Flow.pure (Flow.goes_plain rfl) (fun _ _ _ h => h) fun a L s w' hC hL hn hs hd => ?_
        skip
        exact ⟨_, op_geq3 rfl (hd 6 19 (by kernel_rfl)) (hd 10 23 (by kernel_rfl)) (decide_eq_true (by omega)) w', rfl⟩
      · intro L _ w4 hC hL vals hv
        have e11 : vals 11 = .bool true := hv 11 _ 24 rfl rfl
        simp only [Free.putAll, Act.put, List.setIfInBounds_toArray, List.set_cons_succ, List.set_cons_zero, e11]
        subst w4
        clear hv hL e11
        generalize vals 0 = x0 at *
        generalize vals 1 = x1 at *
        generalize vals 2 = x2 at *
        generalize vals 3 = x3 at *
        generalize vals 4 = x4 at *
        generalize vals 5 = x5 at *
        generalize vals 6 = x6 at *
        generalize vals 7 = x7 at *
        generalize vals 8 = x8 at *
        generalize vals 9 = x9 at *
        generalize vals 10 = x10 at *
        go_wp2_with fail
        go_ret
        exact ⟨rfl, F, unhide HDW, Turns.of_below (Below.refl _ w).drew⟩
    · obtain ⟨e1, d1, hst⟩ : ∃ e1 d1, stepD d = (e1, d1) := ⟨_, _, rfl⟩
      have hlt : d.wear.getD k 0 < d.most := by omega
      have HST := hide (step_walk (unhide HDW))
      rw [hst] at HST
      have hwe : d1.wear = d.wear := by rw [← step_wear d, hst]
      have hmo : d1.most = d.most := by rw [← step_most d, hst]
      have hke : d1.kept = d.kept := by rw [← step_kept d, hst]
      have hwa : d1.wait = d.wait := by rw [← step_wait d, hst]
      by_cases h0 : e1 = 0
      · have E : Hid (eraseD d (k : Int) = (0, doD (wornD d1 k) k blankS)) := hide (by
          unfold eraseD; rw [if_neg (by simp [ho]), if_neg (by simpa using hw), if_neg (by rw [hst]; simp [h0]), hst]; rfl)
        rw [unhide E]
        subst h0
        have HW := hide (And.intro hwe (And.intro hmo (And.intro hke hwa)))
        clear hst hwe hmo hke hwa E
        go_enter Try.func43, Try.ntmps43
        go_wp2_with fail
        refine (unhide HO).mono ?_
        rintro e w1 ⟨rfl, hw1⟩
        subst w1
        clear HO
        go_wp2_with fail
        refine Flow.wp_region (Flow.VV (fun j => match j with | 0 => .pointer (some ⟨p, 0, none⟩) | 1 => .pointer (some ⟨p, 0, none⟩) | 2 => .pointer (some ⟨p, 3, none⟩) | 3 => .slice (some ⟨bw, 0, none⟩) d.kept.length d.kept.length | 4 => .int .i64 (k : Int) | 5 => .pointer (some ⟨bw, k, none⟩) | 6 => .int .i64 ((d.wear.getD k 0 : Nat) : Int) | 7 => .pointer (some ⟨p, 0, none⟩) | 8 => .pointer (some ⟨p, 0, none⟩) | 9 => .pointer (some ⟨p, 4, none⟩) | 10 => .int .i64 (d.most : Int) | 11 => .bool false | _ => undef)) (fun _ (_ : Unit) w' => w' = w.drew) () (by kernel_rfl) (by kernel_rfl) rfl ⟨?_, ?_, ?_, ?_, ?_, ?_, ?_, ?_, ?_, ?_, ?_, ?_, trivial⟩ ?_
        · exact Flow.move (Flow.goes_plain rfl) (fun _ _ _ h => h) (.inl rfl) fun a s w' hs hd => (hs 0 (by kernel_rfl))
        · refine Flow.pure (Flow.goes_plain rfl) (fun _ _ _ h => h) fun a L s w' hC hL hn hs hd => ?_
          skip
          exact ⟨_, op_nil rfl (hd 0 13 (by kernel_rfl)) w', rfl⟩
        · refine Flow.pure (Flow.goes_plain rfl) (fun _ _ _ h => h) fun a L s w' hC hL hn hs hd => ?_
          skip
          exact ⟨_, op_f82_3 rfl (hd 1 14 (by kernel_rfl)) w', rfl⟩
        · refine Flow.pure (Flow.goes_plain rfl) (fun _ _ _ h => h) fun a L s w' hC hL hn hs hd => ?_
          skip
          exact ⟨_, op_load41 rfl (hd 2 15 (by kernel_rfl)) (by rw [hC]; exact hc3), rfl⟩
        · exact Flow.move (Flow.goes_plain rfl) (fun _ _ _ h => h) (.inl rfl) fun a s w' hs hd => (hs 1 (by kernel_rfl))
        · refine Flow.pure (Flow.goes_plain rfl) (fun _ _ _ h => h) fun a L s w' hC hL hn hs hd => ?_
          skip
          exact ⟨_, op_idx41 rfl (hd 3 16 (by kernel_rfl)) (hd 4 17 (by kernel_rfl)) hk w', rfl⟩
        · refine Flow.pure (Flow.goes_plain rfl) (fun _ _ _ h => h) fun a L s w' hC hL hn hs hd => ?_
          skip
          exact ⟨_, op_load3 rfl (hd 5 18 (by kernel_rfl)) (by rw [hC]; exact hcw), rfl⟩
        · exact Flow.move (Flow.goes_plain rfl) (fun _ _ _ h => h) (.inl rfl) fun a s w' hs hd => (hs 0 (by kernel_rfl))
        · refine Flow.pure (Flow.goes_plain rfl) (fun _ _ _ h => h) fun a L s w' hC hL hn hs hd => ?_
          skip
          exact ⟨_, op_nil rfl (hd 7 20 (by kernel_rfl)) w', rfl⟩
        · refine Flow.pure (Flow.goes_plain rfl) (fun _ _ _ h => h) fun a L s w' hC hL hn hs hd => ?_
          skip
          exact ⟨_, op_f82_4 rfl (hd 8 21 (by kernel_rfl)) w', rfl⟩
        · refine Flow.pure (Flow.goes_plain rfl) (fun _ _ _ h => h) fun a L s w' hC hL hn hs hd => ?_
          skip
          exact ⟨_, op_load3 rfl (hd 9 22 (by kernel_rfl)) (by rw [hC]; exact hc4), rfl⟩
        · refine Flow.pure (Flow.goes_plain rfl) (fun _ _ _ h => h) fun a L s w' hC hL hn hs hd => ?_
          skip
          exact ⟨_, op_geq3 rfl (hd 6 19 (by kernel_rfl)) (hd 10 23 (by kernel_rfl)) (decide_eq_false (by omega)) w', rfl⟩
        · intro L _ w4 hC hL vals hv
          have e11 : vals 11 = .bool false := hv 11 _ 24 rfl rfl
          simp only [Free.putAll, Act.put, List.setIfInBounds_toArray, List.set_cons_succ, List.set_cons_zero, e11]
          subst w4
          clear hv hL e11
          generalize vals 0 = x0 at *
          generalize vals 1 = x1 at *
          generalize vals 2 = x2 at *
          generalize vals 3 = x3 at *
          generalize vals 4 = x4 at *
          generalize vals 5 = x5 at *
          generalize vals 6 = x6 at *
          generalize vals 7 = x7 at *
          generalize vals 8 = x8 at *
          generalize vals 9 = x9 at *
          generalize vals 10 = x10 at *
          go_wp2_with fail
          refine (unhide HST).mono ?_
          rintro e w2 ⟨rfl, hD2, hB2, hs2⟩
          have HB2 := hide hB2
          have hDD := hD2
          obtain ⟨bk2, bn2, bw2, wv2, hF, hB⟩ := hD2
          obtain ⟨g1, g2, g3, g4⟩ := unhide HW
          have hc3 := hB.dev.cell (i := 3) rfl
          have hcw := hB.wear.cell (intsV_get d1.wear (i := k) (by rw [hB.ok.wear, g3]; exact hk))
          have hfw := hB.wear.free k
          rw [g3] at hc3
          have hset := hB.wearSet (k := k) (by rw [g1, g2]; exact hlt)
          rw [g1] at hset hcw
          have HK1 : Hid (k < d1.kept.length) := hide (by rw [g3]; exact hk)
          have HF := hide hF
          have HSET := hide hset
          have HMEM : Hid (bw2 ∈ F) := hide (by rw [hF]; simp [devF])
          clear hset hB hB2 hF hDD HST hw hlt HD HDW g1 g2 g3 g4
          have hwm2 := unhide hwm
          generalize d.wear.getD k 0 = c at *
          generalize d.kept.length = n at *
          go_wp2_with fail
          have HB3 : Hid (But F w (w2.setCell ⟨bw2, k, none⟩ (.int .i64 ((c + 1 : Nat) : Int)))) := hide ((unhide HB2).undrew.trans (But.of_grown (F := F) (set_grown _ _ _ _) (unhide HMEM)) (fun _ h => .inl h))
          have HSET2 : Hid (Dev F (w2.setCell ⟨bw2, k, none⟩ (.int .i64 ((c + 1 : Nat) : Int))) p (wornD d1 k)) := hide ⟨bk2, bn2, bw2, wv2, unhide HF, unhide HSET⟩
          have ec : ((c + 1 : Nat) : Int) = (c : Int) + 1 := by omega
          rw [ec] at HB3 HSET2
          clear HSET HF HB2 HMEM hc3 hcw hfw
          generalize w2.setCell ⟨bw2, k, none⟩ (.int .i64 ((c : Int) + 1)) = w3 at *
          refine (blank_walk w3).mono ?_
          rintro e w4 ⟨rfl, hb4⟩
          have HD4 := hide ((unhide HSET2).below hb4)
          have HB4 : Hid (But F w w4) := hide ((unhide HB3).trans (But.of_below (F := F) hb4) (fun _ h => .inl h))
          clear hb4 HSET2 HB3
          go_wp2_with fail
          refine (do_walk (unhide HD4) k (unhide HK1) blankS blankS_len (by have g := (unhide HW).2.2.2; show d1.wait.length ≤ _; rw [g]; exact hlen)).mono ?_
          rintro e w5 ⟨rfl, F', hD5, hT5⟩
          have HD5 := hide hD5
          have HT5 : Hid (Turns F F' w w5) := hide (Turns.trans ⟨unhide HB4, fun _ h => .inl h⟩ hT5)
          clear hD5 hT5 HD4 HB4
          go_wp2_with fail
          go_ret
          exact ⟨rfl, F', unhide HD5, unhide HT5⟩
      · have E : Hid (eraseD d (k : Int) = (e1, d1)) := hide (by
          unfold eraseD; rw [if_neg (by simp [ho]), if_neg (by simpa using hw), if_pos (by rw [hst]; exact h0), hst])
        rw [unhide E]
        clear hst hwe hmo hke hwa E
        go_enter Try.func43, Try.ntmps43
        go_wp2_with fail
        refine (unhide HO).mono ?_
        rintro e w1 ⟨rfl, hw1⟩
        subst w1
        clear HO
        go_wp2_with fail
        refine Flow.wp_region (Flow.VV (fun j => match j with | 0 => .pointer (some ⟨p, 0, none⟩) | 1 => .pointer (some ⟨p, 0, none⟩) | 2 => .pointer (some ⟨p, 3, none⟩) | 3 => .slice (some ⟨bw, 0, none⟩) d.kept.length d.kept.length | 4 => .int .i64 (k : Int) | 5 => .pointer (some ⟨bw, k, none⟩) | 6 => .int .i64 ((d.wear.getD k 0 : Nat) : Int) | 7 => .pointer (some ⟨p, 0, none⟩) | 8 => .pointer (some ⟨p, 0, none⟩) | 9 => .pointer (some ⟨p, 4, none⟩) | 10 => .int .i64 (d.most : Int) | 11 => .bool false | _ => undef)) (fun _ (_ : Unit) w' => w' = w.drew) () (by kernel_rfl) (by kernel_rfl) rfl ⟨?_, ?_, ?_, ?_, ?_, ?_, ?_, ?_, ?_, ?_, ?_, ?_, trivial⟩ ?_
        · exact Flow.move (Flow.goes_plain rfl) (fun _ _ _ h => h) (.inl rfl) fun a s w' hs hd => (hs 0 (by kernel_rfl))
        · refine Flow.pure (Flow.goes_plain rfl) (fun _ _ _ h => h) fun a L s w' hC hL hn hs hd => ?_
          skip
          exact ⟨_, op_nil rfl (hd 0 13 (by kernel_rfl)) w', rfl⟩
        · refine Flow.pure (Flow.goes_plain rfl) (fun _ _ _ h => h) fun a L s w' hC hL hn hs hd => ?_
          skip
          exact ⟨_, op_f82_3 rfl (hd 1 14 (by kernel_rfl)) w', rfl⟩
        · refine Flow.pure (Flow.goes_plain rfl) (fun _ _ _ h => h) fun a L s w' hC hL hn hs hd => ?_
          skip
          exact ⟨_, op_load41 rfl (hd 2 15 (by kernel_rfl)) (by rw [hC]; exact hc3), rfl⟩
        · exact Flow.move (Flow.goes_plain rfl) (fun _ _ _ h => h) (.inl rfl) fun a s w' hs hd => (hs 1 (by kernel_rfl))
        · refine Flow.pure (Flow.goes_plain rfl) (fun _ _ _ h => h) fun a L s w' hC hL hn hs hd => ?_
          skip
          exact ⟨_, op_idx41 rfl (hd 3 16 (by kernel_rfl)) (hd 4 17 (by kernel_rfl)) hk w', rfl⟩
        · refine Flow.pure (Flow.goes_plain rfl) (fun _ _ _ h => h) fun a L s w' hC hL hn hs hd => ?_
          skip
          exact ⟨_, op_load3 rfl (hd 5 18 (by kernel_rfl)) (by rw [hC]; exact hcw), rfl⟩
        · exact Flow.move (Flow.goes_plain rfl) (fun _ _ _ h => h) (.inl rfl) fun a s w' hs hd => (hs 0 (by kernel_rfl))
        · refine Flow.pure (Flow.goes_plain rfl) (fun _ _ _ h => h) fun a L s w' hC hL hn hs hd => ?_
          skip
          exact ⟨_, op_nil rfl (hd 7 20 (by kernel_rfl)) w', rfl⟩
        · refine Flow.pure (Flow.goes_plain rfl) (fun _ _ _ h => h) fun a L s w' hC hL hn hs hd => ?_
          skip
          exact ⟨_, op_f82_4 rfl (hd 8 21 (by kernel_rfl)) w', rfl⟩
        · refine Flow.pure (Flow.goes_plain rfl) (fun _ _ _ h => h) fun a L s w' hC hL hn hs hd => ?_
          skip
          exact ⟨_, op_load3 rfl (hd 9 22 (by kernel_rfl)) (by rw [hC]; exact hc4), rfl⟩
        · refine Flow.pure (Flow.goes_plain rfl) (fun _ _ _ h => h) fun a L s w' hC hL hn hs hd => ?_
          skip
          exact ⟨_, op_geq3 rfl (hd 6 19 (by kernel_rfl)) (hd 10 23 (by kernel_rfl)) (decide_eq_false (by omega)) w', rfl⟩
        · intro L _ w4 hC hL vals hv
          have e11 : vals 11 = .bool false := hv 11 _ 24 rfl rfl
          simp only [Free.putAll, Act.put, List.setIfInBounds_toArray, List.set_cons_succ, List.set_cons_zero, e11]
          subst w4
          clear hv hL e11
          generalize vals 0 = x0 at *
          generalize vals 1 = x1 at *
          generalize vals 2 = x2 at *
          generalize vals 3 = x3 at *
          generalize vals 4 = x4 at *
          generalize vals 5 = x5 at *
          generalize vals 6 = x6 at *
          generalize vals 7 = x7 at *
          generalize vals 8 = x8 at *
          generalize vals 9 = x9 at *
          generalize vals 10 = x10 at *
          go_wp2_with fail
          refine (unhide HST).mono ?_
          rintro e w2 ⟨rfl, hD2, hB2, hs2⟩
          have HD2 := hide hD2
          have HB2 := hide hB2
          clear hD2 hB2 HST
          go_wp2_with fail
          go_ret
          exact ⟨rfl, F, unhide HD2, ⟨(unhide HB2).undrew, fun _ h => .inl h⟩⟩
  · have E : Hid (eraseD d i = (openD d i, d)) := hide (by unfold eraseD; rw [if_pos ho])
    rw [unhide E]
    have HD := hide h
    clear h
    generalize openD d i = x at *
    go_enter Try.func43, Try.ntmps43
    go_wp2_with fail
    refine (unhide HO).mono ?_
    rintro e w1 ⟨rfl, hw1⟩
    subst w1
    clear HO
    go_wp2_with fail
    go_ret
    exact ⟨rfl, F, unhide HD, Turns.refl _ _⟩
end
end Go.Proofs.Ytlgknllcnkainaa
