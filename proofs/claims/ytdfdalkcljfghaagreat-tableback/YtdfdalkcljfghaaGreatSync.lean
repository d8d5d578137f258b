/-
  Erase and Program of the program's device. Program of the program's device. Sync of the program's device.
-/
import Derived.Test.YtdfdalkcljfghaaGreatOps2
namespace Go.Proofs.YtdfdalkcljfghaaGreat
open Go.RowKit

theorem DevB.wearSet {bk bn bw : Nat} {wv : Value} {w : World} {p : Nat} {d : DM} (h : DevB bk bn bw wv w p d) {k : Nat} (hk : d.wear.getD k 0 < d.most) : DevB bk bn bw wv (w.setCell ⟨bw, k, none⟩ (.int .i64 ((d.wear.getD k 0 + 1 : Nat) : Int))) p (wornD d k) := by
  obtain ⟨n1, n2, n3, n4, n5, n6, n7, n8, n9, n10, _⟩ := nodupF h.nodup
  exact { ok := h.ok.worn hk, nodup := h.nodup, dev := h.dev.other _ _ n3, kept := h.kept.other _ _ n5, now := h.now.other _ _ n6, wear := by
            have := h.wear.set k (.int .i64 ((d.wear.getD k 0 + 1 : Nat) : Int))
            rw [intsV_set] at this
            exact this
          wait := owns_same h.wait fun j hj => Below.heap_setCell _ _ _ _ (n10 j hj).symm }
theorem Dev.drew {F : List Nat} {w : World} {p : Nat} {d : DM} (h : Dev F w p d) : Dev F w.drew p d := h.same fun _ _ => rfl

section
variable {F : List Nat} {w : World} {p : Nat} {d : DM}

set_option maxHeartbeats 1600000 in
set_option maxRecDepth 100000 in
theorem erase_walk (h : Dev F w p d) (i : Int) (hlen : d.wait.length ≤ 1000000) :
    Calls Tryz.prog 164 #[.pointer (some ⟨p, 0, none⟩), .int .i64 i] w fun e w' => e = .returned (.int .i64 (eraseD d i).1) ∧ ∃ F', Dev F' w' p (eraseD d i).2 ∧ Turns F F' w w' := by
  have HO := hide (open_walk h i)
  by_cases ho : openD d i = 0
  · obtain ⟨hh, hdn⟩ := openD_zero ho
    obtain ⟨k, rfl, hk⟩ := hasD_nat hh
    have HD := hide h
    have HDW := hide h.drew
    obtain ⟨bk, bn, bw, wv, rfl, hB⟩ := h
    have hc3 := hB.dev.cell (i := 3) rfl
    have hc4 := hB.dev.cell (i := 4) rfl
    have hcw := hB.wear.cell (intsV_get d.wear (i := k) (by rw [hB.ok.wear]; exact hk))
    have hwm : Hid (d.wear.getD k 0 ≤ 100000) := hide (by
      have h1 := hB.ok.most
      have h2 : d.wear.getD k 0 ≤ d.most := by
        rw [List.getD_eq_getElem?_getD, List.getElem?_eq_getElem (by rw [hB.ok.wear]; exact hk)]
        exact hB.ok.wearM _ (List.getElem_mem _)
      omega)
    rw [ho] at HO
    obtain ⟨F, hF⟩ : ∃ F, F = devF p bk bn bw wv := ⟨_, rfl⟩
    rw [← hF] at HD HDW ⊢
    have HK := hide hk
    clear hF hB hh
    by_cases hw : d.most ≤ d.wear.getD k 0
    · have E : Hid (eraseD d (k : Int) = (64, d)) := hide (by unfold eraseD; rw [if_neg (by simp [ho]), if_pos (by simpa using hw)])
      rw [unhide E]
      go_enter Tryz.func164, Tryz.ntmps164
      go_wp2_with fail
      refine (unhide HO).mono ?_
      rintro e w1 ⟨rfl, hw1⟩
      subst w1
      clear HO
      go_wp2_with fail
      refine Flow.wp_region (Flow.VV (fun j => match j with | 0 => .pointer (some ⟨p, 0, none⟩) | 1 => .pointer (some ⟨p, 0, none⟩) | 2 => .pointer (some ⟨p, 3, none⟩) | 3 => .slice (some ⟨bw, 0, none⟩) d.kept.length d.kept.length | 4 => .int .i64 (k : Int) | 5 => .pointer (some ⟨bw, k, none⟩) | 6 => .int .i64 ((d.wear.getD k 0 : Nat) : Int) | 7 => .pointer (some ⟨p, 0, none⟩) | 8 => .pointer (some ⟨p, 0, none⟩) | 9 => .pointer (some ⟨p, 4, none⟩) | 10 => .int .i64 (d.most : Int) | 11 => .bool true | _ => undef)) (fun _ (_ : Unit) w' => w' = w.drew) () (by kernel_rfl) (by kernel_rfl) rfl ⟨?_, ?_, ?_, ?_, ?_, ?_, ?_, ?_, ?_, ?_, ?_, ?_, trivial⟩ ?_
      · exact Flow.move (Flow.goes_plain rfl) (fun _ _ _ h => h) (.inl rfl) fun a s w' hs hd => (hs 0 (by kernel_rfl))
      · refine Flow.pure (Flow.goes_plain rfl) (fun _ _ _ h => h) fun a L s w' hC hL hn hs hd => ?_
        skip
        exact ⟨_, op_nil rfl (hd 0 13 (by kernel_rfl)) w', rfl⟩
      · refine Flow.pure (Flow.goes_plain rfl) (fun _ _ _ h => h) fun a L s w' hC hL hn hs hd => ?_
        skip
        exact ⟨_, op_f149_3 rfl (hd 1 14 (by kernel_rfl)) w', rfl⟩
      · refine Flow.pure (Flow.goes_plain rfl) (fun _ _ _ h => h) fun a L s w' hC hL hn hs hd => ?_
        skip
        exact ⟨_, op_load63 rfl (hd 2 15 (by kernel_rfl)) (by rw [hC]; exact hc3), rfl⟩
      · exact Flow.move (Flow.goes_plain rfl) (fun _ _ _ h => h) (.inl rfl) fun a s w' hs hd => (hs 1 (by kernel_rfl))
      · refine Flow.pure (Flow.goes_plain rfl) (fun _ _ _ h => h) fun a L s w' hC hL hn hs hd => ?_
        skip
        exact ⟨_, op_idx63 rfl (hd 3 16 (by kernel_rfl)) (hd 4 17 (by kernel_rfl)) hk w', rfl⟩
      · refine Flow.pure (Flow.goes_plain rfl) (fun _ _ _ h => h) fun a L s w' hC hL hn hs hd => ?_
        skip
        exact ⟨_, op_load3 rfl (hd 5 18 (by kernel_rfl)) (by rw [hC]; exact hcw), rfl⟩
      · exact Flow.move (Flow.goes_plain rfl) (fun _ _ _ h => h) (.inl rfl) fun a s w' hs hd => (hs 0 (by kernel_rfl))
      · refine Flow.pure (Flow.goes_plain rfl) (fun _ _ _ h => h) fun a L s w' hC hL hn hs hd => ?_
        skip
        exact ⟨_, op_nil rfl (hd 7 20 (by kernel_rfl)) w', rfl⟩
      · refine Flow.pure (Flow.goes_plain rfl) (fun _ _ _ h => h) fun a L s w' hC hL hn hs hd => ?_
        skip
        exact ⟨_, op_f149_4 rfl (hd 8 21 (by kernel_rfl)) w', rfl⟩
      · refine Flow.pure (Flow.goes_plain rfl) (fun _ _ _ h => h) fun a L s w' hC hL hn hs hd => ?_
        skip
        exact ⟨_, op_load3 rfl (hd 9 22 (by kernel_rfl)) (by rw [hC]; exact hc4), rfl⟩
      · refine Flow.pure (Flow.goes_plain rfl) (fun _ _ _ h => h) fun a L s w' hC hL hn hs hd => ?_
        skip
        exact ⟨_, op_geq3 rfl (hd 6 19 (by kernel_rfl)) (hd 10 23 (by kernel_rfl)) (decide_eq_true (by omega)) w', rfl⟩
      · intro L _ w4 hC hL vals hv
        have e11 : vals 11 = .bool true := hv 11 _ 24 rfl rfl
        simp only [Free.putAll, Act.put, List.setIfInBounds_toArray, List.set_cons_succ, List.set_cons_zero, e11]
        subst w4
        clear hv hL e11
        generalize vals 0 = x0 at *
        generalize vals 1 = x1 at *
        generalize vals 2 = x2 at *
        generalize vals 3 = x3 at *
        generalize vals 4 = x4 at *
        generalize vals 5 = x5 at *
        generalize vals 6 = x6 at *
        generalize vals 7 = x7 at *
        generalize vals 8 = x8 at *
        generalize vals 9 = x9 at *
        generalize vals 10 = x10 at *
        go_wp2_with fail
        go_ret
        exact ⟨rfl, F, unhide HDW, Turns.of_below (Below.refl _ w).drew⟩
    · obtain ⟨e1, d1, hst⟩ : ∃ e1 d1, stepD d = (e1, d1) := ⟨_, _, rfl⟩
      have hlt : d.wear.getD k 0 < d.most := by omega
      have HST := hide (step_walk (unhide HDW))
      rw [hst] at HST
      have hwe : d1.wear = d.wear := by rw [← step_wear d, hst]
      have hmo : d1.most = d.most := by rw [← step_most d, hst]
      have hke : d1.kept = d.kept := by rw [← step_kept d, hst]
      have hwa : d1.wait = d.wait := by rw [← step_wait d, hst]
      by_cases h0 : e1 = 0
      · have E : Hid (eraseD d (k : Int) = (0, doD (wornD d1 k) k blankS)) := hide (by
          unfold eraseD; rw [if_neg (by simp [ho]), if_neg (by simpa using hw), if_neg (by rw [hst]; simp [h0]), hst]; rfl)
        rw [unhide E]
        subst h0
        have HW := hide (And.intro hwe (And.intro hmo (And.intro hke hwa)))
        clear hst hwe hmo hke hwa E
        go_enter Tryz.func164, Tryz.ntmps164
        go_wp2_with fail
        refine (unhide HO).mono ?_
        rintro e w1 ⟨rfl, hw1⟩
        subst w1
        clear HO
        go_wp2_with fail
        refine Flow.wp_region (Flow.VV (fun j => match j with | 0 => .pointer (some ⟨p, 0, none⟩) | 1 => .pointer (some ⟨p, 0, none⟩) | 2 => .pointer (some ⟨p, 3, none⟩) | 3 => .slice (some ⟨bw, 0, none⟩) d.kept.length d.kept.length | 4 => .int .i64 (k : Int) | 5 => .pointer (some ⟨bw, k, none⟩) | 6 => .int .i64 ((d.wear.getD k 0 : Nat) : Int) | 7 => .pointer (some ⟨p, 0, none⟩) | 8 => .pointer (some ⟨p, 0, none⟩) | 9 => .pointer (some ⟨p, 4, none⟩) | 10 => .int .i64 (d.most : Int) | 11 => .bool false | _ => undef)) (fun _ (_ : Unit) w' => w' = w.drew) () (by kernel_rfl) (by kernel_rfl) rfl ⟨?_, ?_, ?_, ?_, ?_, ?_, ?_, ?_, ?_, ?_, ?_, ?_, trivial⟩ ?_
        · exact Flow.move (Flow.goes_plain rfl) (fun _ _ _ h => h) (.inl rfl) fun a s w' hs hd => (hs 0 (by kernel_rfl))
        · refine Flow.pure (Flow.goes_plain rfl) (fun _ _ _ h => h) fun a L s w' hC hL hn hs hd => ?_
          skip
          exact ⟨_, op_nil rfl (hd 0 13 (by kernel_rfl)) w', rfl⟩
        · refine Flow.pure (Flow.goes_plain rfl) (fun _ _ _ h => h) fun a L s w' hC hL hn hs hd => ?_
          skip
          exact ⟨_, op_f149_3 rfl (hd 1 14 (by kernel_rfl)) w', rfl⟩
        · refine Flow.pure (Flow.goes_plain rfl) (fun _ _ _ h => h) fun a L s w' hC hL hn hs hd => ?_
          skip
          exact ⟨_, op_load63 rfl (hd 2 15 (by kernel_rfl)) (by rw [hC]; exact hc3), rfl⟩
        · exact Flow.move (Flow.goes_plain rfl) (fun _ _ _ h => h) (.inl rfl) fun a s w' hs hd => (hs 1 (by kernel_rfl))
        · refine Flow.pure (Flow.goes_plain rfl) (fun _ _ _ h => h) fun a L s w' hC hL hn hs hd => ?_
          skip
          exact ⟨_, op_idx63 rfl (hd 3 16 (by kernel_rfl)) (hd 4 17 (by kernel_rfl)) hk w', rfl⟩
        · refine Flow.pure (Flow.goes_plain rfl) (fun _ _ _ h => h) fun a L s w' hC hL hn hs hd => ?_
          skip
          exact ⟨_, op_load3 rfl (hd 5 18 (by kernel_rfl)) (by rw [hC]; exact hcw), rfl⟩
        · exact Flow.move (Flow.goes_plain rfl) (fun _ _ _ h => h) (.inl rfl) fun a s w' hs hd => (hs 0 (by kernel_rfl))
        · refine Flow.pure (Flow.goes_plain rfl) (fun _ _ _ h => h) fun a L s w' hC hL hn hs hd => ?_
          skip
          exact ⟨_, op_nil rfl (hd 7 20 (by kernel_rfl)) w', rfl⟩
        · refine Flow.pure (Flow.goes_plain rfl) (fun _ _ _ h => h) fun a L s w' hC hL hn hs hd => ?_
          skip
          exact ⟨_, op_f149_4 rfl (hd 8 21 (by kernel_rfl)) w', rfl⟩
        · refine Flow.pure (Flow.goes_plain rfl) (fun _ _ _ h => h) fun a L s w' hC hL hn hs hd => ?_
          skip
          exact ⟨_, op_load3 rfl (hd 9 22 (by kernel_rfl)) (by rw [hC]; exact hc4), rfl⟩
        · refine Flow.pure (Flow.goes_plain rfl) (fun _ _ _ h => h) fun a L s w' hC hL hn hs hd => ?_
          skip
          exact ⟨_, op_geq3 rfl (hd 6 19 (by kernel_rfl)) (hd 10 23 (by kernel_rfl)) (decide_eq_false (by omega)) w', rfl⟩
        · intro L _ w4 hC hL vals hv
          have e11 : vals 11 = .bool false := hv 11 _ 24 rfl rfl
          simp only [Free.putAll, Act.put, List.setIfInBounds_toArray, List.set_cons_succ, List.set_cons_zero, e11]
          subst w4
          clear hv hL e11
          generalize vals 0 = x0 at *
          generalize vals 1 = x1 at *
          generalize vals 2 = x2 at *
          generalize vals 3 = x3 at *
          generalize vals 4 = x4 at *
          generalize vals 5 = x5 at *
          generalize vals 6 = x6 at *
          generalize vals 7 = x7 at *
          generalize vals 8 = x8 at *
          generalize vals 9 = x9 at *
          generalize vals 10 = x10 at *
          go_wp2_with fail
          refine (unhide HST).mono ?_
          rintro e w2 ⟨rfl, hD2, hB2, hs2⟩
          have HB2 := hide hB2
          have hDD := hD2
          obtain ⟨bk2, bn2, bw2, wv2, hF, hB⟩ := hD2
          obtain ⟨g1, g2, g3, g4⟩ := unhide HW
          have hc3 := hB.dev.cell (i := 3) rfl
          have hcw := hB.wear.cell (intsV_get d1.wear (i := k) (by rw [hB.ok.wear, g3]; exact hk))
          have hfw := hB.wear.free k
          rw [g3] at hc3
          have hset := hB.wearSet (k := k) (by rw [g1, g2]; exact hlt)
          rw [g1] at hset hcw
          have HK1 : Hid (k < d1.kept.length) := hide (by rw [g3]; exact hk)
          have HF := hide hF
          have HSET := hide hset
          have HMEM : Hid (bw2 ∈ F) := hide (by rw [hF]; simp [devF])
          clear hset hB hB2 hF hDD HST hw hlt HD HDW g1 g2 g3 g4
          have hwm2 := unhide hwm
          generalize d.wear.getD k 0 = c at *
          generalize d.kept.length = n at *
          go_wp2_with fail
          have HB3 : Hid (But F w (w2.setCell ⟨bw2, k, none⟩ (.int .i64 ((c + 1 : Nat) : Int)))) := hide ((unhide HB2).undrew.trans (But.of_grown (F := F) (set_grown _ _ _ _) (unhide HMEM)) (fun _ h => .inl h))
          have HSET2 : Hid (Dev F (w2.setCell ⟨bw2, k, none⟩ (.int .i64 ((c + 1 : Nat) : Int))) p (wornD d1 k)) := hide ⟨bk2, bn2, bw2, wv2, unhide HF, unhide HSET⟩
          have ec : ((c + 1 : Nat) : Int) = (c : Int) + 1 := by omega
          rw [ec] at HB3 HSET2
          clear HSET HF HB2 HMEM hc3 hcw hfw
          generalize w2.setCell ⟨bw2, k, none⟩ (.int .i64 ((c : Int) + 1)) = w3 at *
          refine (blank_walk w3).mono ?_
          rintro e w4 ⟨rfl, hb4⟩
          have HD4 := hide ((unhide HSET2).below hb4)
          have HB4 : Hid (But F w w4) := hide ((unhide HB3).trans (But.of_below (F := F) hb4) (fun _ h => .inl h))
          clear hb4 HSET2 HB3
          go_wp2_with fail
          refine (do_walk (unhide HD4) k (unhide HK1) blankS blankS_len (by have g := (unhide HW).2.2.2; show d1.wait.length ≤ _; rw [g]; exact hlen)).mono ?_
          rintro e w5 ⟨rfl, F', hD5, hT5⟩
          have HD5 := hide hD5
          have HT5 : Hid (Turns F F' w w5) := hide (Turns.trans ⟨unhide HB4, fun _ h => .inl h⟩ hT5)
          clear hD5 hT5 HD4 HB4
          go_wp2_with fail
          go_ret
          exact ⟨rfl, F', unhide HD5, unhide HT5⟩
      · have E : Hid (eraseD d (k : Int) = (e1, d1)) := hide (by
          unfold eraseD; rw [if_neg (by simp [ho]), if_neg (by simpa using hw), if_pos (by rw [hst]; exact h0), hst])
        rw [unhide E]
        clear hst hwe hmo hke hwa E
        go_enter Tryz.func164, Tryz.ntmps164
        go_wp2_with fail
        refine (unhide HO).mono ?_
        rintro e w1 ⟨rfl, hw1⟩
        subst w1
        clear HO
        go_wp2_with fail
        refine Flow.wp_region (Flow.VV (fun j => match j with | 0 => .pointer (some ⟨p, 0, none⟩) | 1 => .pointer (some ⟨p, 0, none⟩) | 2 => .pointer (some ⟨p, 3, none⟩) | 3 => .slice (some ⟨bw, 0, none⟩) d.kept.length d.kept.length | 4 => .int .i64 (k : Int) | 5 => .pointer (some ⟨bw, k, none⟩) | 6 => .int .i64 ((d.wear.getD k 0 : Nat) : Int) | 7 => .pointer (some ⟨p, 0, none⟩) | 8 => .pointer (some ⟨p, 0, none⟩) | 9 => .pointer (some ⟨p, 4, none⟩) | 10 => .int .i64 (d.most : Int) | 11 => .bool false | _ => undef)) (fun _ (_ : Unit) w' => w' = w.drew) () (by kernel_rfl) (by kernel_rfl) rfl ⟨?_, ?_, ?_, ?_, ?_, ?_, ?_, ?_, ?_, ?_, ?_, ?_, trivial⟩ ?_
        · exact Flow.move (Flow.goes_plain rfl) (fun _ _ _ h => h) (.inl rfl) fun a s w' hs hd => (hs 0 (by kernel_rfl))
        · refine Flow.pure (Flow.goes_plain rfl) (fun _ _ _ h => h) fun a L s w' hC hL hn hs hd => ?_
          skip
          exact ⟨_, op_nil rfl (hd 0 13 (by kernel_rfl)) w', rfl⟩
        · refine Flow.pure (Flow.goes_plain rfl) (fun _ _ _ h => h) fun a L s w' hC hL hn hs hd => ?_
          skip
          exact ⟨_, op_f149_3 rfl (hd 1 14 (by kernel_rfl)) w', rfl⟩
        · refine Flow.pure (Flow.goes_plain rfl) (fun _ _ _ h => h) fun a L s w' hC hL hn hs hd => ?_
          skip
          exact ⟨_, op_load63 rfl (hd 2 15 (by kernel_rfl)) (by rw [hC]; exact hc3), rfl⟩
        · exact Flow.move (Flow.goes_plain rfl) (fun _ _ _ h => h) (.inl rfl) fun a s w' hs hd => (hs 1 (by kernel_rfl))
        · refine Flow.pure (Flow.goes_plain rfl) (fun _ _ _ h => h) fun a L s w' hC hL hn hs hd => ?_
          skip
          exact ⟨_, op_idx63 rfl (hd 3 16 (by kernel_rfl)) (hd 4 17 (by kernel_rfl)) hk w', rfl⟩
        · refine Flow.pure (Flow.goes_plain rfl) (fun _ _ _ h => h) fun a L s w' hC hL hn hs hd => ?_
          skip
          exact ⟨_, op_load3 rfl (hd 5 18 (by kernel_rfl)) (by rw [hC]; exact hcw), rfl⟩
        · exact Flow.move (Flow.goes_plain rfl) (fun _ _ _ h => h) (.inl rfl) fun a s w' hs hd => (hs 0 (by kernel_rfl))
        · refine Flow.pure (Flow.goes_plain rfl) (fun _ _ _ h => h) fun a L s w' hC hL hn hs hd => ?_
          skip
          exact ⟨_, op_nil rfl (hd 7 20 (by kernel_rfl)) w', rfl⟩
        · refine Flow.pure (Flow.goes_plain rfl) (fun _ _ _ h => h) fun a L s w' hC hL hn hs hd => ?_
          skip
          exact ⟨_, op_f149_4 rfl (hd 8 21 (by kernel_rfl)) w', rfl⟩
        · refine Flow.pure (Flow.goes_plain rfl) (fun _ _ _ h => h) fun a L s w' hC hL hn hs hd => ?_
          skip
          exact ⟨_, op_load3 rfl (hd 9 22 (by kernel_rfl)) (by rw [hC]; exact hc4), rfl⟩
        · refine Flow.pure (Flow.goes_plain rfl) (fun _ _ _ h => h) fun a L s w' hC hL hn hs hd => ?_
          skip
          exact ⟨_, op_geq3 rfl (hd 6 19 (by kernel_rfl)) (hd 10 23 (by kernel_rfl)) (decide_eq_false (by omega)) w', rfl⟩
        · intro L _ w4 hC hL vals hv
          have e11 : vals 11 = .bool false := hv 11 _ 24 rfl rfl
          simp only [Free.putAll, Act.put, List.setIfInBounds_toArray, List.set_cons_succ, List.set_cons_zero, e11]
          subst w4
          clear hv hL e11
          generalize vals 0 = x0 at *
          generalize vals 1 = x1 at *
          generalize vals 2 = x2 at *
          generalize vals 3 = x3 at *
          generalize vals 4 = x4 at *
          generalize vals 5 = x5 at *
          generalize vals 6 = x6 at *
          generalize vals 7 = x7 at *
          generalize vals 8 = x8 at *
          generalize vals 9 = x9 at *
          generalize vals 10 = x10 at *
          go_wp2_with fail
          refine (unhide HST).mono ?_
          rintro e w2 ⟨rfl, hD2, hB2, hs2⟩
          have HD2 := hide hD2
          have HB2 := hide hB2
          clear hD2 hB2 HST
          go_wp2_with fail
          go_ret
          exact ⟨rfl, F, unhide HD2, ⟨(unhide HB2).undrew, fun _ h => .inl h⟩⟩
  · have E : Hid (eraseD d i = (openD d i, d)) := hide (by unfold eraseD; rw [if_pos ho])
    rw [unhide E]
    have HD := hide h
    clear h
    generalize openD d i = x at *
    go_enter Tryz.func164, Tryz.ntmps164
    go_wp2_with fail
    refine (unhide HO).mono ?_
    rintro e w1 ⟨rfl, hw1⟩
    subst w1
    clear HO
    go_wp2_with fail
    go_ret
    exact ⟨rfl, F, unhide HD, Turns.refl _ _⟩
end
end Go.Proofs.YtdfdalkcljfghaaGreat

namespace Go.Proofs.YtdfdalkcljfghaaGreat
open Go.RowKit

section
variable {F : List Nat} {w : World} {p : Nat} {d : DM}

set_option maxHeartbeats 1600000 in
set_option maxRecDepth 100000 in
theorem program_walk (h : Dev F w p d) (i : Int) (s : Sec) (hs : s.length = 64) (hlen : d.wait.length ≤ 1000000) :
    Calls Tryz.prog 154 #[.pointer (some ⟨p, 0, none⟩), .int .i64 i, secV s] w fun e w' => e = .returned (.int .i64 (programD d i s).1) ∧ ∃ F', Dev F' w' p (programD d i s).2 ∧ Turns F F' w w' := by
  have HS := hide hs
  by_cases ho : openD d i = 0
  · obtain ⟨hh, hdn⟩ := openD_zero ho
    obtain ⟨k, rfl, hk⟩ := hasD_nat hh
    have HD := hide h
    have HK := hide hk
    have HN64 := hide (getD_mem64 h.ok.nowS (i := k) (by rw [h.ok.now]; exact hk))
    have HX : ∀ w1, Below w.heap.size w w1 → Hid (∃ bn, w1.cell? ⟨p, 1, none⟩ = some (.slice (some ⟨bn, 0, none⟩) d.kept.length d.kept.length) ∧ w1.rangeAt bn (k * 64) (bytesV (d.now.getD k [])) ∧ p < w1.heap.size ∧ bn < w1.heap.size) := fun w1 hb1 => by
      obtain ⟨bk, bn, bw, wv, rfl, hB⟩ := h.below hb1
      exact hide ⟨bn, hB.dev.cell (i := 1) rfl, hB.now.sec hB.ok.nowS (by rw [hB.ok.now]; exact hk), hB.dev.lt, hB.now.lt⟩
    clear h hh
    by_cases hw : d.now.getD k [] = blankS
    · obtain ⟨e1, d1, hst⟩ : ∃ e1 d1, stepD d = (e1, d1) := ⟨_, _, rfl⟩
      have HST : Hid (∀ w', Below w.heap.size w w' → Calls Tryz.prog 162 #[.pointer (some ⟨p, 0, none⟩)] w' fun e w'' => e = .returned (.int .i64 e1) ∧ Dev F w'' p d1 ∧ But F w' w'' ∧ w''.heap.size = w'.heap.size) := hide (fun w' hb' => by
        have := step_walk ((unhide HD).below hb')
        rw [hst] at this
        exact this)
      have hke : d1.kept = d.kept := by rw [← step_kept d, hst]
      have hwa : d1.wait = d.wait := by rw [← step_wait d, hst]
      by_cases h0 : e1 = 0
      · have E : Hid (programD d (k : Int) s = (0, doD d1 k s)) := hide (by
          unfold programD; rw [if_neg (by simp [ho]), if_neg (by simpa using hw), if_neg (by rw [hst]; simp [h0]), hst]; rfl)
        rw [unhide E]
        subst h0
        have HK1 : Hid (k < d1.kept.length) := hide (by rw [hke]; exact hk)
        have HL1 : Hid (d1.wait.length ≤ 1000000) := hide (by rw [hwa]; exact hlen)
        clear hst hke hwa E
        go_enter Tryz.func154, Tryz.ntmps154
        go_wp2_with (refine wpList_box 136 _ (bytesV s) rfl rfl rfl ?_)
        intro w1 hA1 hb1 hs1
        have HA1 := hide hA1
        have HB1 := hide hb1
        have HO := hide (open_walk ((unhide HD).below hb1) (k : Int))
        obtain ⟨bn, hc1, hr1, hpl, hbl⟩ := unhide (HX w1 hb1)
        have HQF : Hid (w.heap.size ∉ F) := hide (fun e => by have := (unhide HD).lt _ e; omega)
        have HRG := hide hr1
        rw [ho] at HO
        clear hA1 hb1 hr1 HX
        generalize hq : w.heap.size = q at HA1 HB1 HQF hs1 ⊢
        have HQ := hide hq
        clear hq
        go_wp2_with fail
        refine (unhide HO).mono ?_
        rintro e w2 ⟨rfl, hw2⟩
        subst w2
        clear HO
        go_wp2_with fail
        refine Flow.wp_region (Flow.VV (fun j => match j with | 0 => .pointer (some ⟨p, 0, none⟩) | 1 => .pointer (some ⟨p, 0, none⟩) | 2 => .pointer (some ⟨p, 1, none⟩) | 3 => .slice (some ⟨bn, 0, none⟩) d.kept.length d.kept.length | 4 => .int .i64 (k : Int) | 5 => .pointer (some ⟨bn, k * 64, none⟩) | 6 => secV (d.now.getD k []) | 7 => secV blankS | 8 => .bool false | _ => undef)) (fun _ (_ : Unit) w' => Below w1.heap.size w1 w') () (by kernel_rfl) (by kernel_rfl) (Below.refl _ w1).drew ⟨?_, ?_, ?_, ?_, ?_, ?_, ?_, ?_, ?_, trivial⟩ ?_
        · exact Flow.move (Flow.goes_plain rfl) (fun _ _ _ h => h) (.inl rfl) fun a s w' hs hd => (hs 0 (by kernel_rfl))
        · refine Flow.pure (Flow.goes_plain rfl) (fun _ _ _ h => h) fun a L s w' hC hL hn hs hd => ?_
          skip
          exact ⟨_, op_nil rfl (hd 0 15 (by kernel_rfl)) w', rfl⟩
        · refine Flow.pure (Flow.goes_plain rfl) (fun _ _ _ h => h) fun a L s w' hC hL hn hs hd => ?_
          skip
          exact ⟨_, op_f149_1 rfl (hd 1 16 (by kernel_rfl)) w', rfl⟩
        · refine Flow.pure (Flow.goes_plain rfl) (fun _ _ _ h => h) fun a L s w' hC hL hn hs hd => ?_
          skip
          exact ⟨_, op_load131 rfl (hd 2 17 (by kernel_rfl)) ((hC.cell (p := ⟨p, 1, none⟩) hpl).trans hc1), rfl⟩
        · exact Flow.move (Flow.goes_plain rfl) (fun _ _ _ h => h) (.inl rfl) fun a s w' hs hd => (hs 1 (by kernel_rfl))
        · refine Flow.pure (Flow.goes_plain rfl) (fun _ _ _ h => h) fun a L s w' hC hL hn hs hd => ?_
          skip
          exact ⟨_, op_idx131 rfl (hd 3 18 (by kernel_rfl)) (hd 4 19 (by kernel_rfl)) hk w', rfl⟩
        · refine Flow.pure (Flow.goes_plain rfl) (fun _ _ _ h => h) fun a L s w' hC hL hn hs hd => ?_
          skip
          exact ⟨_, op_load136 rfl (hd 5 20 (by kernel_rfl)) (fun j v hj => (hC.cell (p := ⟨bn, k * 64 + j, none⟩) hbl).trans (unhide HRG j v hj)) (unhide HN64), rfl⟩
        · refine Flow.call (Flow.goes_plain rfl) fun a L s0 w' hC hL hn hs hd => ⟨118, #[], op_call118 rfl rfl w', (blank_walk w').mono ?_⟩
          rintro e w'' ⟨rfl, hb⟩
          exact ⟨_, (), rfl, fun _ _ _ h => h, hC.trans (hb.mono hC.size), rfl⟩
        · refine Flow.pure (Flow.goes_plain rfl) (fun _ _ _ h => h) fun a L s w' hC hL hn hs hd => ?_
          skip
          exact ⟨_, op_neq136 rfl (hd 6 21 (by kernel_rfl)) (hd 7 22 (by kernel_rfl)) (by rw [hw]; rfl) (unhide HN64) blankS_len w', rfl⟩
        · intro L _ w4 hC hL vals hv
          have e8 : vals 8 = .bool false := hv 8 _ 23 rfl rfl
          simp only [Free.putAll, Act.put, List.setIfInBounds_toArray, List.set_cons_succ, List.set_cons_zero, e8]
          have HB4 : Hid (Below w.heap.size w w4) := hide (by rw [unhide HQ]; exact (unhide HB1).trans (hC.mono (by omega)))
          have HA4 : Hid (Arr w4 q (bytesV s)) := hide ((unhide HA1).below hC)
          clear hv hL e8 HA1 HB1
          generalize vals 0 = x0 at *
          generalize vals 1 = x1 at *
          generalize vals 2 = x2 at *
          generalize vals 3 = x3 at *
          generalize vals 4 = x4 at *
          generalize vals 5 = x5 at *
          generalize vals 6 = x6 at *
          generalize vals 7 = x7 at *
          go_wp2_with fail
          refine (unhide HST w4 (unhide HB4)).mono ?_
          rintro e w5 ⟨rfl, hD5, hB5, hs5⟩
          have HD5 := hide hD5
          have HB5 : Hid (But F w w5) := hide ((But.of_below (unhide HB4)).trans hB5 (fun _ h => .inl h))
          have HA5 : Hid (Arr w5 q (bytesV s)) := hide ((unhide HA4).same (hB5.block q (unhide HA4).lt (unhide HQF)))
          clear hD5 hB5 HST HB4 HA4 hC
          go_wp2_with (refine wpList_loadAll 136 _ q (bytesV s) _ rfl rfl rfl (unhide HA5) Tryz.underlying136 rfl (info136s (unhide HS)) ?_)
          refine (do_walk (unhide HD5) k (unhide HK1) s (unhide HS) (unhide HL1)).mono ?_
          rintro e w6 ⟨rfl, F', hD6, hT6⟩
          have HD6 := hide hD6
          have HT6 : Hid (Turns F F' w w6) := hide (Turns.trans ⟨unhide HB5, fun _ h => .inl h⟩ hT6)
          clear hD6 hT6 HD5 HB5
          go_wp2_with fail
          go_ret
          exact ⟨rfl, F', unhide HD6, unhide HT6⟩
      · have E : Hid (programD d (k : Int) s = (e1, d1)) := hide (by
          unfold programD; rw [if_neg (by simp [ho]), if_neg (by simpa using hw), if_pos (by rw [hst]; exact h0), hst])
        rw [unhide E]
        clear hst hke hwa E
        go_enter Tryz.func154, Tryz.ntmps154
        go_wp2_with (refine wpList_box 136 _ (bytesV s) rfl rfl rfl ?_)
        intro w1 hA1 hb1 hs1
        have HA1 := hide hA1
        have HB1 := hide hb1
        have HO := hide (open_walk ((unhide HD).below hb1) (k : Int))
        obtain ⟨bn, hc1, hr1, hpl, hbl⟩ := unhide (HX w1 hb1)
        have HQF : Hid (w.heap.size ∉ F) := hide (fun e => by have := (unhide HD).lt _ e; omega)
        have HRG := hide hr1
        rw [ho] at HO
        clear hA1 hb1 hr1 HX
        generalize hq : w.heap.size = q at HA1 HB1 HQF hs1 ⊢
        have HQ := hide hq
        clear hq
        go_wp2_with fail
        refine (unhide HO).mono ?_
        rintro e w2 ⟨rfl, hw2⟩
        subst w2
        clear HO
        go_wp2_with fail
        refine Flow.wp_region (Flow.VV (fun j => match j with | 0 => .pointer (some ⟨p, 0, none⟩) | 1 => .pointer (some ⟨p, 0, none⟩) | 2 => .pointer (some ⟨p, 1, none⟩) | 3 => .slice (some ⟨bn, 0, none⟩) d.kept.length d.kept.length | 4 => .int .i64 (k : Int) | 5 => .pointer (some ⟨bn, k * 64, none⟩) | 6 => secV (d.now.getD k []) | 7 => secV blankS | 8 => .bool false | _ => undef)) (fun _ (_ : Unit) w' => Below w1.heap.size w1 w') () (by kernel_rfl) (by kernel_rfl) (Below.refl _ w1).drew ⟨?_, ?_, ?_, ?_, ?_, ?_, ?_, ?_, ?_, trivial⟩ ?_
        · exact Flow.move (Flow.goes_plain rfl) (fun _ _ _ h => h) (.inl rfl) fun a s w' hs hd => (hs 0 (by kernel_rfl))
        · refine Flow.pure (Flow.goes_plain rfl) (fun _ _ _ h => h) fun a L s w' hC hL hn hs hd => ?_
          skip
          exact ⟨_, op_nil rfl (hd 0 15 (by kernel_rfl)) w', rfl⟩
        · refine Flow.pure (Flow.goes_plain rfl) (fun _ _ _ h => h) fun a L s w' hC hL hn hs hd => ?_
          skip
          exact ⟨_, op_f149_1 rfl (hd 1 16 (by kernel_rfl)) w', rfl⟩
        · refine Flow.pure (Flow.goes_plain rfl) (fun _ _ _ h => h) fun a L s w' hC hL hn hs hd => ?_
          skip
          exact ⟨_, op_load131 rfl (hd 2 17 (by kernel_rfl)) ((hC.cell (p := ⟨p, 1, none⟩) hpl).trans hc1), rfl⟩
        · exact Flow.move (Flow.goes_plain rfl) (fun _ _ _ h => h) (.inl rfl) fun a s w' hs hd => (hs 1 (by kernel_rfl))
        · refine Flow.pure (Flow.goes_plain rfl) (fun _ _ _ h => h) fun a L s w' hC hL hn hs hd => ?_
          skip
          exact ⟨_, op_idx131 rfl (hd 3 18 (by kernel_rfl)) (hd 4 19 (by kernel_rfl)) hk w', rfl⟩
        · refine Flow.pure (Flow.goes_plain rfl) (fun _ _ _ h => h) fun a L s w' hC hL hn hs hd => ?_
          skip
          exact ⟨_, op_load136 rfl (hd 5 20 (by kernel_rfl)) (fun j v hj => (hC.cell (p := ⟨bn, k * 64 + j, none⟩) hbl).trans (unhide HRG j v hj)) (unhide HN64), rfl⟩
        · refine Flow.call (Flow.goes_plain rfl) fun a L s0 w' hC hL hn hs hd => ⟨118, #[], op_call118 rfl rfl w', (blank_walk w').mono ?_⟩
          rintro e w'' ⟨rfl, hb⟩
          exact ⟨_, (), rfl, fun _ _ _ h => h, hC.trans (hb.mono hC.size), rfl⟩
        · refine Flow.pure (Flow.goes_plain rfl) (fun _ _ _ h => h) fun a L s w' hC hL hn hs hd => ?_
          skip
          exact ⟨_, op_neq136 rfl (hd 6 21 (by kernel_rfl)) (hd 7 22 (by kernel_rfl)) (by rw [hw]; rfl) (unhide HN64) blankS_len w', rfl⟩
        · intro L _ w4 hC hL vals hv
          have e8 : vals 8 = .bool false := hv 8 _ 23 rfl rfl
          simp only [Free.putAll, Act.put, List.setIfInBounds_toArray, List.set_cons_succ, List.set_cons_zero, e8]
          have HB4 : Hid (Below w.heap.size w w4) := hide (by rw [unhide HQ]; exact (unhide HB1).trans (hC.mono (by omega)))
          have HA4 : Hid (Arr w4 q (bytesV s)) := hide ((unhide HA1).below hC)
          clear hv hL e8 HA1 HB1
          generalize vals 0 = x0 at *
          generalize vals 1 = x1 at *
          generalize vals 2 = x2 at *
          generalize vals 3 = x3 at *
          generalize vals 4 = x4 at *
          generalize vals 5 = x5 at *
          generalize vals 6 = x6 at *
          generalize vals 7 = x7 at *
          go_wp2_with fail
          refine (unhide HST w4 (unhide HB4)).mono ?_
          rintro e w5 ⟨rfl, hD5, hB5, hs5⟩
          have HD5 := hide hD5
          have HB5 : Hid (But F w w5) := hide ((But.of_below (unhide HB4)).trans hB5 (fun _ h => .inl h))
          clear hD5 hB5 HST HB4 HA4 hC
          go_wp2_with fail
          go_ret
          exact ⟨rfl, F, unhide HD5, ⟨unhide HB5, fun _ h => .inl h⟩⟩
    · have E : Hid (programD d (k : Int) s = (63, d)) := hide (by unfold programD; rw [if_neg (by simp [ho]), if_pos (by simpa using hw)])
      rw [unhide E]
      go_enter Tryz.func154, Tryz.ntmps154
      go_wp2_with (refine wpList_box 136 _ (bytesV s) rfl rfl rfl ?_)
      intro w1 hA1 hb1 hs1
      have HA1 := hide hA1
      have HB1 := hide hb1
      have HO := hide (open_walk ((unhide HD).below hb1) (k : Int))
      obtain ⟨bn, hc1, hr1, hpl, hbl⟩ := unhide (HX w1 hb1)
      have HQF : Hid (w.heap.size ∉ F) := hide (fun e => by have := (unhide HD).lt _ e; omega)
      have HRG := hide hr1
      rw [ho] at HO
      clear hA1 hb1 hr1 HX
      generalize hq : w.heap.size = q at HA1 HB1 HQF hs1 ⊢
      have HQ := hide hq
      clear hq
      go_wp2_with fail
      refine (unhide HO).mono ?_
      rintro e w2 ⟨rfl, hw2⟩
      subst w2
      clear HO
      go_wp2_with fail
      refine Flow.wp_region (Flow.VV (fun j => match j with | 0 => .pointer (some ⟨p, 0, none⟩) | 1 => .pointer (some ⟨p, 0, none⟩) | 2 => .pointer (some ⟨p, 1, none⟩) | 3 => .slice (some ⟨bn, 0, none⟩) d.kept.length d.kept.length | 4 => .int .i64 (k : Int) | 5 => .pointer (some ⟨bn, k * 64, none⟩) | 6 => secV (d.now.getD k []) | 7 => secV blankS | 8 => .bool true | _ => undef)) (fun _ (_ : Unit) w' => Below w1.heap.size w1 w') () (by kernel_rfl) (by kernel_rfl) (Below.refl _ w1).drew ⟨?_, ?_, ?_, ?_, ?_, ?_, ?_, ?_, ?_, trivial⟩ ?_
      · exact Flow.move (Flow.goes_plain rfl) (fun _ _ _ h => h) (.inl rfl) fun a s w' hs hd => (hs 0 (by kernel_rfl))
      · refine Flow.pure (Flow.goes_plain rfl) (fun _ _ _ h => h) fun a L s w' hC hL hn hs hd => ?_
        skip
        exact ⟨_, op_nil rfl (hd 0 15 (by kernel_rfl)) w', rfl⟩
      · refine Flow.pure (Flow.goes_plain rfl) (fun _ _ _ h => h) fun a L s w' hC hL hn hs hd => ?_
        skip
        exact ⟨_, op_f149_1 rfl (hd 1 16 (by kernel_rfl)) w', rfl⟩
      · refine Flow.pure (Flow.goes_plain rfl) (fun _ _ _ h => h) fun a L s w' hC hL hn hs hd => ?_
        skip
        exact ⟨_, op_load131 rfl (hd 2 17 (by kernel_rfl)) ((hC.cell (p := ⟨p, 1, none⟩) hpl).trans hc1), rfl⟩
      · exact Flow.move (Flow.goes_plain rfl) (fun _ _ _ h => h) (.inl rfl) fun a s w' hs hd => (hs 1 (by kernel_rfl))
      · refine Flow.pure (Flow.goes_plain rfl) (fun _ _ _ h => h) fun a L s w' hC hL hn hs hd => ?_
        skip
        exact ⟨_, op_idx131 rfl (hd 3 18 (by kernel_rfl)) (hd 4 19 (by kernel_rfl)) hk w', rfl⟩
      · refine Flow.pure (Flow.goes_plain rfl) (fun _ _ _ h => h) fun a L s w' hC hL hn hs hd => ?_
        skip
        exact ⟨_, op_load136 rfl (hd 5 20 (by kernel_rfl)) (fun j v hj => (hC.cell (p := ⟨bn, k * 64 + j, none⟩) hbl).trans (unhide HRG j v hj)) (unhide HN64), rfl⟩
      · refine Flow.call (Flow.goes_plain rfl) fun a L s0 w' hC hL hn hs hd => ⟨118, #[], op_call118 rfl rfl w', (blank_walk w').mono ?_⟩
        rintro e w'' ⟨rfl, hb⟩
        exact ⟨_, (), rfl, fun _ _ _ h => h, hC.trans (hb.mono hC.size), rfl⟩
      · refine Flow.pure (Flow.goes_plain rfl) (fun _ _ _ h => h) fun a L s w' hC hL hn hs hd => ?_
        skip
        exact ⟨_, op_neq136 rfl (hd 6 21 (by kernel_rfl)) (hd 7 22 (by kernel_rfl)) (by simpa using hw) (unhide HN64) blankS_len w', rfl⟩
      · intro L _ w4 hC hL vals hv
        have e8 : vals 8 = .bool true := hv 8 _ 23 rfl rfl
        simp only [Free.putAll, Act.put, List.setIfInBounds_toArray, List.set_cons_succ, List.set_cons_zero, e8]
        have HB4 : Hid (Below w.heap.size w w4) := hide (by rw [unhide HQ]; exact (unhide HB1).trans (hC.mono (by omega)))
        have HA4 : Hid (Arr w4 q (bytesV s)) := hide ((unhide HA1).below hC)
        clear hv hL e8 HA1 HB1
        generalize vals 0 = x0 at *
        generalize vals 1 = x1 at *
        generalize vals 2 = x2 at *
        generalize vals 3 = x3 at *
        generalize vals 4 = x4 at *
        generalize vals 5 = x5 at *
        generalize vals 6 = x6 at *
        generalize vals 7 = x7 at *
        go_wp2_with fail
        go_ret
        exact ⟨rfl, F, (unhide HD).below (unhide HB4), Turns.of_below (unhide HB4)⟩
  · have E : Hid (programD d i s = (openD d i, d)) := hide (by unfold programD; rw [if_pos ho])
    rw [unhide E]
    have HD := hide h
    have HO : Hid (∀ w1, Below w.heap.size w w1 → Calls Tryz.prog 161 #[.pointer (some ⟨p, 0, none⟩), .int .i64 i] w1 fun e w' => e = .returned (.int .i64 (openD d i)) ∧ w' = w1) := hide fun w1 hb1 => open_walk (h.below hb1) i
    clear h
    generalize openD d i = x at *
    go_enter Tryz.func154, Tryz.ntmps154
    go_wp2_with (refine wpList_box 136 _ (bytesV s) rfl rfl rfl ?_)
    intro w1 hA1 hb1 hs1
    have HB1 := hide hb1
    clear hA1 hb1
    go_wp2_with fail
    refine (unhide HO w1 (unhide HB1)).mono ?_
    rintro e w2 ⟨rfl, hw2⟩
    subst w2
    clear HO
    go_wp2_with fail
    go_ret
    exact ⟨rfl, F, (unhide HD).below (unhide HB1), Turns.of_below (unhide HB1)⟩
end
end Go.Proofs.YtdfdalkcljfghaaGreat

namespace Go.Proofs.YtdfdalkcljfghaaGreat
open Go.RowKit

theorem DevB.keptSet {bk bn bw : Nat} {wv : Value} {w : World} {p : Nat} {d : DM} (h : DevB bk bn bw wv w p d) {k : Nat} (hk : k < d.kept.length) {s : Sec} (hs : s.length = 64) : DevB bk bn bw wv (w.setCells bk (k * 64) (bytesV s)) p { d with kept := d.kept.set k s } := by
  obtain ⟨n1, n2, n3, n4, n5, n6, n7, n8, n9, n10, _⟩ := nodupF h.nodup
  have hb := setCells_but bk (k * 64) (bytesV s) w
  have e : devV bk bn bw wv { d with kept := d.kept.set k s } = devV bk bn bw wv d := by simp [devV]
  have el : (d.kept.set k s).length = d.kept.length := List.length_set
  refine { ok := { h.ok with now := h.ok.now.trans el.symm, wear := h.ok.wear.trans el.symm, keptS := set_mem h.ok.keptS _ _ hs, waitS := ?_, few := by show (d.kept.set k s).length ≤ _; rw [el]; exact h.ok.few }, nodup := h.nodup, dev := by rw [e]; exact h.dev.same (hb _ n1), kept := h.kept.secSet h.ok.keptS hk hs, now := h.now.same (hb _ n4.symm), wear := h.wear.same (hb _ n5.symm), wait := owns_same h.wait fun j hj => hb j (n8 j hj).symm }
  intro x hx
  have := h.ok.waitS x hx
  show x.1 < (d.kept.set k s).length ∧ _
  rw [el]; exact this
theorem DevB.noWait {bk bn bw : Nat} {wv : Value} {w : World} {p : Nat} {d : DM} (h : DevB bk bn bw wv w p d) :
    DevB bk bn bw (.slice none 0 0) (w.setCell ⟨p, 2, none⟩ (.slice none 0 0)) p { d with wait := [] } ∧ Turns (devF p bk bn bw wv) (devF p bk bn bw (.slice none 0 0)) w (w.setCell ⟨p, 2, none⟩ (.slice none 0 0)) := by
  obtain ⟨n1, n2, n3, n4, n5, n6, n7, n8, n9, n10, _⟩ := nodupF h.nodup
  refine ⟨{ ok := { h.ok with waitS := fun x hx => by cases hx }, nodup := ?_, dev := h.dev.set 2 _, kept := h.kept.other _ _ n1.symm, now := h.now.other _ _ n2.symm, wear := h.wear.other _ _ n3.symm, wait := World.ownsRow_nil _ _ _ _ }, But.of_grown (set_grown _ _ _ _) (by simp [devF]), ?_⟩
  · simp [devF, Value.ownBlock, n1, n2, n3, n4, n5, n6]
  · intro k hk
    simp only [devF, List.mem_cons, Value.ownBlock, Option.toList_none, List.not_mem_nil, or_false] at hk ⊢
    rcases hk with e | e | e | e
    · exact .inl (.inl e)
    · exact .inl (.inr (.inl e))
    · exact .inl (.inr (.inr (.inl e)))
    · exact .inl (.inr (.inr (.inr (.inl e))))
theorem owns_range {w : World} {e : TypeId} {v : Value} {l : List (Nat × Sec)} (h : w.ownsRow 0 e 65 v l.length (donesV l)) (hl : ∀ x ∈ l, x.2.length = 64) {i : Nat} (hi : i < l.length) :
    ∃ g cap, v = .slice (some ⟨g, 0, none⟩) l.length cap ∧ w.rangeAt g (i * 65) (doneV (l.getD i (0, []))) := by
  rcases h.2 with ⟨_, h0⟩ | ⟨g, cap, cur, rfl, _, hg, hc, _⟩
  · omega
  · refine ⟨g, cap, rfl, fun j u hj => ?_⟩
    have := h.cells (g := g) rfl (i * 65 + j) u (donesV_range hl hi j u hj)
    rw [Addr.add_mid, Nat.zero_add] at this
    exact this
theorem alloc151 (w : World) : (Instr.alloc 151 true (.tuple #[])).run Tryz.prog w = .ok (.pointer (some ⟨w.heap.size, 0, none⟩)) (w.alloc (.cells (doneV (0, zeroS)).toArray 151)) := by kernel_rfl
theorem info151 {x : Nat × Sec} (h : x.2.length = 64) : (Tryz.prog.info? 151).map (·.size) = some (doneV x).length := by rw [doneV_length h]; kernel_rfl
theorem getD_mem_done {l : List (Nat × Sec)} {i : Nat} (hi : i < l.length) : l.getD i (0, []) ∈ l := by
  rw [List.getD_eq_getElem?_getD, List.getElem?_eq_getElem hi]
  exact List.getElem_mem hi
theorem layAll_take (k : List Sec) (l : List (Nat × Sec)) {i : Nat} (hi : i < l.length) : layAll k (l.take (i + 1)) = (layAll k (l.take i)).set (l.getD i (0, [])).1 (l.getD i (0, [])).2 := by
  rw [List.take_succ_eq_append_getElem hi, layAll_snoc, List.getD_eq_getElem?_getD, List.getElem?_eq_getElem hi]
  rfl
/-- A thing done in a block of its own: its sector. -/
theorem Arr.doneSec {w : World} {b : Nat} {n : Nat} {s : Sec} (h : Arr w b (doneV (n, s))) : w.rangeAt b 1 (bytesV s) := h.rangeMid 1 _ fun j v hj => by
  rw [Nat.add_comm]
  exact hj

section
variable {F : List Nat} {w : World} {p : Nat} {d : DM}

set_option maxHeartbeats 1600000 in
set_option maxRecDepth 100000 in
theorem sync_walk (h : Dev F w p d) (hlen : d.wait.length ≤ 1000000) :
    Calls Tryz.prog 156 #[.pointer (some ⟨p, 0, none⟩)] w fun e w' => e = .returned (.int .i64 (syncD d).1) ∧ ∃ F', Dev F' w' p (syncD d).2 ∧ Turns F F' w w' := by
  have HD := hide h
  have HST := hide (step_walk h)
  have hc6 : w.cell? ⟨p, 6, none⟩ = some (.bool d.down) := by
    obtain ⟨bk, bn, bw, wv, rfl, hB⟩ := h
    exact hB.dev.cell (i := 6) rfl
  clear h
  cases hdn : d.down with
  | true =>
    have E : Hid (syncD d = (62, d)) := hide (by unfold syncD; rw [if_pos hdn])
    rw [unhide E]
    rw [hdn] at hc6
    go_enter Tryz.func156, Tryz.ntmps156
    go_wp2_with fail
    go_ret
    exact ⟨rfl, F, unhide HD, Turns.refl _ _⟩
  | false =>
    rw [hdn] at hc6
    obtain ⟨e1, d1, hst⟩ : ∃ e1 d1, stepD d = (e1, d1) := ⟨_, _, rfl⟩
    rw [hst] at HST
    have hwa : d1.wait = d.wait := by rw [← step_wait d, hst]
    by_cases h0 : e1 = 0
    · have E : Hid (syncD d = (0, keepD d1)) := hide (by unfold syncD; rw [if_neg (by rw [hdn]; decide), if_neg (by rw [hst]; simp [h0]), hst])
      rw [unhide E]
      rw [← hwa] at hlen
      subst h0
      clear hst hwa E HD
      go_enter Tryz.func156, Tryz.ntmps156
      go_wp2_with fail
      refine (unhide HST).mono ?_
      rintro e w2 ⟨rfl, hD2, hB2, hs2⟩
      obtain ⟨bk, bn, bw, wv, hF, hB⟩ := hD2
      subst hF
      obtain ⟨ad, cap, rfl, hcap, _⟩ := owns_slice hB.wait
      have hc2 := hB.dev.cell (i := 2) rfl
      have HDB := hide hB
      have HB2 := hide hB2
      clear hB hB2 HST hs2 hc6
      go_wp2
      go_loopw [20] (fun ci wr => ∃ j : Nat, j ≤ d1.wait.length ∧ ci = .int .i64 (j : Int) ∧ DevB bk bn bw (.slice ad d1.wait.length cap) wr p { d1 with kept := layAll d1.kept (d1.wait.take j) } ∧ But (devF p bk bn bw (.slice ad d1.wait.length cap)) w wr) (fun ci _ => d1.wait.length - (intOf ci).toNat)
      case atStart => exact ⟨0, by omega, rfl, unhide HDB, unhide HB2⟩
      case round =>
        obtain ⟨j, hj, rfl, hB, hbu⟩ := hrel
        clear HDB HB2 hc2
        have HBU := hide hbu
        clear hbu
        by_cases hlt : j < d1.wait.length
        · have hmem := getD_mem_done hlt
          have hx := hB.ok.waitS _ hmem
          obtain ⟨g, cap', hv, hrg⟩ := owns_range hB.wait (fun x hx => (hB.ok.waitS x hx).2) hlt
          have HLT := hide (layAll_take d1.kept d1.wait hlt)
          obtain ⟨x, hxe⟩ : ∃ x, x = d1.wait.getD j (0, []) := ⟨_, rfl⟩
          rw [← hxe] at hx hrg HLT
          clear hxe hmem
          obtain ⟨xn, xs⟩ := x
          obtain ⟨hxn, hxs⟩ := hx
          have ev : ad = some ⟨g, 0, none⟩ := by
            simp only [Value.slice.injEq] at hv
            exact hv.1
          subst ev
          have HRG : Hid (wr.rangeAt g (j * 65) (doneV (xn, xs))) := hide hrg
          have HXS : Hid (xs.length = 64) := hide hxs
          have HXN : Hid (xn < (layAll d1.kept (d1.wait.take j)).length) := hide hxn
          have hke : (layAll d1.kept (d1.wait.take j)).length = d1.kept.length := layAll_len _ _
          have HKE := hide hke
          have HDB := hide hB
          have HWS := (unhide HBU).size
          clear hv hrg hxn hxs hB hke
          generalize hnn : d1.wait.length = n at *
          have HNN := hide hnn
          clear hnn
          go_wp2_with (first
            | refine wpList_load_mid rfl 151 _ rfl g (j * 65) rfl (doneV (xn, xs)) _ (unhide HRG) Tryz.underlying151 rfl (info151 (x := (xn, xs)) (unhide HXS)) ?_
            | refine wpList_alloc 151 151 (doneV (0, zeroS)) rfl rfl alloc151 ?_)
          intro w3 hA3 hb3 hs3
          have HA3 := hide hA3
          have hbl := (unhide HDB).lt
          have HDB3 := hide ((unhide HDB).same (w' := w3) fun k hk => hb3.block k (hbl k hk))
          have HBU3 := hide ((unhide HBU).trans (But.of_below (F := []) hb3) (fun k hk => by cases hk))
          have HQ : Hid (∀ k ∈ devF p bk bn bw (.slice (some ⟨g, 0, none⟩) n cap), k ≠ wr.heap.size) := hide (fun k hk e => by have := hbl k hk; omega)
          clear hA3 hb3 hbl HDB HBU HRG
          have HWQ : Hid (w.heap.size ≤ wr.heap.size) := hide HWS
          generalize wr.heap.size = q at *
          go_wp2_with (refine wpList_storeAll 151 _ _ q (doneV (xn, xs)) (doneV (0, zeroS)) rfl rfl rfl rfl (unhide HA3) (by rw [doneV_length (x := (xn, xs)) (unhide HXS)]; rfl) (info151 (x := (xn, xs)) (unhide HXS)) (doneV_one _) ?_)
          intro w4 hA4 hg4 hs4
          have HA4 := hide hA4
          have HDB4 := hide ((unhide HDB3).same (w' := w4) fun k hk => hg4.block k ((unhide HDB3).lt k hk) (by simpa using unhide HQ k hk))
          have HBU4 : Hid (But (devF p bk bn bw (.slice (some ⟨g, 0, none⟩) n cap)) w w4) := hide ⟨hg4.os.trans (unhide HBU3).os, hg4.tape.trans (unhide HBU3).tape, hg4.output.trans (unhide HBU3).output, Nat.le_trans (unhide HBU3).size hg4.size, fun k hk hn => by
            rw [hg4.block k (Nat.lt_of_lt_of_le hk (unhide HBU3).size) (by simp; intro e; have := (unhide HWQ); omega), (unhide HBU3).block k hk hn]⟩
          clear hA4 hg4 HA3 HDB3 HBU3
          go_wp2_with fail
          have hc0 := (unhide HDB4).dev.cell (i := 0) rfl
          have hcx := (unhide HA4).cell (i := 0) rfl
          have hrx : w4.rangeAt q 1 (bytesV xs) := (unhide HA4).doneSec
          have hth : w4.there bk (xn * 64) 64 := (unhide HDB4).kept.secThere (unhide HDB4).ok.keptS (unhide HXN)
          have hxk : xn < d1.kept.length := by have := unhide HXN; rw [unhide HKE] at this; exact this
          refine Flow.wp_region (Flow.VV (fun j => match j with | 0 => .pointer (some ⟨p, 0, none⟩) | 1 => .pointer (some ⟨p, 0, none⟩) | 2 => .pointer (some ⟨p, 0, none⟩) | 3 => .slice (some ⟨bk, 0, none⟩) d1.kept.length d1.kept.length | 4 => .pointer (some ⟨q, 0, none⟩) | 5 => .int .i64 (xn : Int) | 6 => .pointer (some ⟨q, 1, none⟩) | 7 => secV xs | 8 => .pointer (some ⟨bk, xn * 64, none⟩) | 9 => undef | _ => undef)) (Flow.two 9 (fun _ w' => w' = w4.drew) (fun _ w' => w' = w4.drew.setCells bk (xn * 64) (bytesV xs))) () (by kernel_rfl) (by kernel_rfl) (by unfold Flow.two; simp) ⟨?_, ?_, ?_, ?_, ?_, ?_, ?_, ?_, ?_, ?_, trivial⟩ ?_
          · exact Flow.move (Flow.goes_plain rfl) (Flow.two.upd (by decide)) (.inl rfl) fun a s w' hs hd => (hs 0 (by kernel_rfl))
          · refine Flow.pure (Flow.goes_plain rfl) (Flow.two.upd (by decide)) fun a L s w' hC hL hn hs hd => ?_
            skip
            exact ⟨_, op_nil rfl (hd 0 24 (by kernel_rfl)) w', rfl⟩
          · refine Flow.pure (Flow.goes_plain rfl) (Flow.two.upd (by decide)) fun a L s w' hC hL hn hs hd => ?_
            skip
            exact ⟨_, op_f149_0 rfl (hd 1 25 (by kernel_rfl)) w', rfl⟩
          · refine Flow.pure (Flow.goes_plain rfl) (Flow.two.upd (by decide)) fun a L s w' hC hL hn hs hd => ?_
            have hA := hC.pre (hn.after 9 (by kernel_rfl))
            exact ⟨_, op_load131 rfl (hd 2 26 (by kernel_rfl)) (by rw [hA]; exact (by rw [← unhide HKE]; exact hc0)), rfl⟩
          · refine Flow.pure (Flow.goes_plain rfl) (Flow.two.upd (by decide)) fun a L s w' hC hL hn hs hd => ?_
            skip
            exact ⟨_, op_f151_0 rfl (hs 5 (by kernel_rfl)) w', rfl⟩
          · refine Flow.pure (Flow.goes_plain rfl) (Flow.two.upd (by decide)) fun a L s w' hC hL hn hs hd => ?_
            have hA := hC.pre (hn.after 9 (by kernel_rfl))
            exact ⟨_, op_load3 rfl (hd 4 28 (by kernel_rfl)) (by rw [hA]; exact hcx), rfl⟩
          · refine Flow.pure (Flow.goes_plain rfl) (Flow.two.upd (by decide)) fun a L s w' hC hL hn hs hd => ?_
            skip
            exact ⟨_, op_f151_1 rfl (hs 5 (by kernel_rfl)) w', rfl⟩
          · refine Flow.pure (Flow.goes_plain rfl) (Flow.two.upd (by decide)) fun a L s w' hC hL hn hs hd => ?_
            have hA := hC.pre (hn.after 9 (by kernel_rfl))
            exact ⟨_, op_load136 rfl (hd 6 30 (by kernel_rfl)) (by rw [hA]; exact hrx) (unhide HXS), rfl⟩
          · refine Flow.pure (Flow.goes_plain rfl) (Flow.two.upd (by decide)) fun a L s w' hC hL hn hs hd => ?_
            have hA := hC.pre (hn.after 9 (by kernel_rfl))
            exact ⟨_, op_idx131 rfl (hd 3 27 (by kernel_rfl)) (hd 5 29 (by kernel_rfl)) hxk w', rfl⟩
          · refine Flow.store (Flow.goes_plain rfl) fun a L s0 w' hC hL hn hs hd => ?_
            have hA := hC.pre hL
            exact ⟨(), _, op_store136 rfl (hd 8 32 (by kernel_rfl)) (hd 7 31 (by kernel_rfl)) (by rw [hA]; exact hth) (unhide HXS), fun _ _ _ h => h, Flow.two.post (by rw [hA]), rfl⟩
          · intro L _ w5 hC hL vals hv
            have hA := hC.end (hL 9 (by decide))
            have HDB5 := hide (((unhide HDB4).same (w' := w4.drew) (fun _ _ => rfl)).keptSet (unhide HXN) (unhide HXS))
            have HBU5 : Hid (But (devF p bk bn bw (.slice (some ⟨g, 0, none⟩) n cap)) w w5) := hide (by
              rw [hA]
              exact (unhide HBU4).trans (But.of_grown (b := bk) (setCells_grown _ _ _ w4.drew) (by simp [devF])).undrew (fun _ h => .inl h))
            rw [← hA] at HDB5
            simp only [Free.putAll, Act.put, List.setIfInBounds_toArray, List.set_cons_succ, List.set_cons_zero]
            clear hA hC hL hv hc0 hcx hrx hth HDB4 HBU4 HA4
            generalize vals 0 = y0 at *
            generalize vals 1 = y1 at *
            generalize vals 2 = y2 at *
            generalize vals 3 = y3 at *
            generalize vals 4 = y4 at *
            generalize vals 5 = y5 at *
            generalize vals 6 = y6 at *
            generalize vals 7 = y7 at *
            generalize vals 8 = y8 at *
            go_wp2_with fail
            go_roundw
            case rel =>
              refine ⟨j + 1, by omega, by go_num, ?_, unhide HBU5⟩
              rw [unhide HLT]
              exact unhide HDB5
            case measure => simp [intOf]; omega
        · obtain rfl : j = d1.wait.length := by omega
          rw [List.take_length] at hB
          have hc2 := hB.dev.cell (i := 2) rfl
          have hf2 := hB.dev.free 2
          have HN := hide hB.noWait
          clear hB
          go_wp2_with fail
          go_ret
          refine ⟨rfl, _, ⟨bk, bn, bw, _, rfl, (unhide HN).1⟩, ?_⟩
          exact Turns.trans ⟨unhide HBU, fun _ h => .inl h⟩ (unhide HN).2
    · have E : Hid (syncD d = (e1, d1)) := hide (by unfold syncD; rw [if_neg (by rw [hdn]; decide), if_pos (by rw [hst]; exact h0), hst])
      rw [unhide E]
      clear hst hwa E HD
      go_enter Tryz.func156, Tryz.ntmps156
      go_wp2_with fail
      refine (unhide HST).mono ?_
      rintro e w2 ⟨rfl, hD2, hB2, hs2⟩
      have HD2 := hide hD2
      have HB2 := hide hB2
      clear hD2 hB2 HST
      go_wp2_with fail
      go_ret
      exact ⟨rfl, F, unhide HD2, ⟨unhide HB2, fun _ h => .inl h⟩⟩
end
end Go.Proofs.YtdfdalkcljfghaaGreat
