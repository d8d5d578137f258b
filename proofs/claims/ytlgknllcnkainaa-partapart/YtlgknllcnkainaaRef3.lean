/-
  Program and Sync of the document's device.
-/
import Derived.Test.YtlgknllcnkainaaRef2
namespace Go.Proofs.Ytlgknllcnkainaa
open Go.RowKit

section
variable {F : List Nat} {w : World} {p : Nat} {r : RM}

set_option maxHeartbeats 3200000 in
set_option maxRecDepth 100000 in
theorem rprogram_walk (h : Ref F w p r) (i : Int) (s : Sec) (hs : s.length = 64) (hlen : r.done.length ≤ 1000000) :
    Calls Try.prog 49 #[.pointer (some ⟨p, 0, none⟩), .int .i64 i, secV s] w fun e w' => e = .returned (.int .i64 (programR r i s).1) ∧ ∃ F', Ref F' w' p (programR r i s).2 ∧ Turns F F' w w' := by
  have HS := hide hs
  have HD := hide h
  have HRD : Hid (∀ w1, Below w.heap.size w w1 → Calls Try.prog 52 #[.pointer (some ⟨p, 0, none⟩), .int .i64 i] w1 fun e w' => e = .returned (.tuple #[secV (readR r i).1, .int .i64 (readR r i).2]) ∧ Below w1.heap.size w1 w') := hide (fun w1 hb1 => rread_walk (h.below hb1) i hlen)
  have HRL : Hid ((readR r i).1.length = 64) := hide (by
    unfold readR
    split
    · rename_i hh
      exact lastOf_64 _ _ _ (getD_mem64 h.ok.keptS (hasD_true hh).2) (fun x hx => (h.ok.doneS x hx).2)
    · exact zeroS_len)
  have HC6 : Hid (∀ w', Below w.heap.size w w' → w'.cell? ⟨p, 6, none⟩ = some (.bool r.down)) := hide (fun w' hb' => by
    obtain ⟨bk, bw, wv, hF, hB⟩ := h.below hb'
    exact hB.dev.cell (i := 6) rfl)
  have HQF : Hid (w.heap.size ∉ F) := hide (fun e => by have := h.lt _ e; omega)
  by_cases h0 : (readR r i).2 = 0
  · have hh : hasD r.kept.length i = true := by
      cases hh : hasD r.kept.length i with
      | true => rfl
      | false => simp [readR, hh] at h0
    obtain ⟨k, rfl, hk⟩ := hasD_nat hh
    rw [h0] at HRD
    have hn0 : ¬ (readR r (k : Int)).2 ≠ 0 := by rw [h0]; decide
    cases hdn : r.down with
    | true =>
      have E : Hid (programR r (k : Int) s = (62, r)) := hide (by unfold programR; rw [if_neg hn0, if_pos hdn])
      rw [unhide E]
      rw [hdn] at HC6
      clear h h0 hh hn0 E
      generalize (readR r (k : Int)).1 = s0 at *
      go_enter Try.func49, Try.ntmps49
      go_wp2_with (refine wpList_box 30 _ (bytesV s) rfl rfl rfl ?_)
      intro w1 hA1 hb1 hs1
      have HA1 := hide hA1
      have Hb1 := hide hb1
      clear hA1 hb1
      go_wp2_with fail
      refine (unhide HRD w1 (unhide Hb1)).mono ?_
      rintro e w2 ⟨rfl, hb2⟩
      have HA2 := hide ((unhide HA1).below hb2)
      have Hb2 := hide ((unhide Hb1).trans (hb2.mono (unhide Hb1).size))
      have hsq : w.heap.size < w2.heap.size := Nat.lt_of_lt_of_le (by omega) hb2.size
      clear hb2 HA1 Hb1 HRD
      go_wp2_with (refine wpList_alloc 30 30 (bytesV zeroS) rfl rfl alloc30 ?_)
      intro w3 hA3 hb3 hs3
      have HB3 := hide hA3
      have HA3 := hide ((unhide HA2).below hb3)
      have Hb3 := hide ((unhide Hb2).trans (hb3.mono (unhide Hb2).size))
      clear hA3 hb3 HA2 Hb2
      obtain ⟨q2, hq2⟩ : ∃ q2, q2 = w2.heap.size := ⟨_, rfl⟩
      rw [← hq2] at HB3 hs3 hsq ⊢
      clear hq2
      go_wp2_with (refine wpList_storeAll 30 _ _ q2 (bytesV s0) (bytesV zeroS) rfl rfl rfl rfl (unhide HB3) (by rw [bytesV_length, bytesV_length, unhide HRL]; rfl) (info30s (unhide HRL)) (bytesV_one _) ?_)
      intro w4 hA4 hg4 hs4
      have HB4 := hide hA4
      have HA4 := hide ((unhide HA3).grown hg4 (by simp; omega))
      have Hb4 := hide ((unhide Hb3).grown hg4 (unhide Hb3).size (fun k hk => by simp at hk; omega))
      have HD4 := hide ((unhide HD).below (unhide Hb4))
      have hc6 := unhide HC6 w4 (unhide Hb4)
      clear hA4 hg4 HB3 HA3 Hb3 HC6
      go_wp2_with fail
      go_ret
      exact ⟨rfl, F, unhide HD4, Turns.of_below (unhide Hb4)⟩
    | false =>
      have hdd : ¬ r.down = true := by rw [hdn]; decide
      rw [hdn] at HC6
      by_cases hw : (readR r (k : Int)).1 = blankS
      · have hww : ¬ (readR r (k : Int)).1 ≠ blankS := fun e => e hw
        obtain ⟨e1, r1, hst⟩ : ∃ e1 r1, spendR r = (e1, r1) := ⟨_, _, rfl⟩
        have HST : Hid (∀ w', Below w.heap.size w w' → Calls Try.prog 51 #[.pointer (some ⟨p, 0, none⟩)] w' fun e w'' => e = .returned (.bool e1) ∧ Ref F w'' p r1 ∧ But F w' w'' ∧ w''.heap.size = w'.heap.size) := hide (fun w' hb' => by
          have := spend_walk ((unhide HD).below hb')
          rw [hst] at this
          exact this)
        have hke : r1.kept = r.kept := by rw [← spend_kept r, hst]
        have hwa : r1.done = r.done := by rw [← spend_done r, hst]
        have HK1 : Hid (k < r1.kept.length) := hide (by rw [hke]; exact hk)
        have HL1 : Hid (r1.done.length ≤ 1000000) := hide (by rw [hwa]; exact hlen)
        cases e1 with
        | true =>
          have HW0 := hide hw
          have E : Hid (programR r (k : Int) s = (0, doneR r1 k s)) := hide (by unfold programR; rw [if_neg hn0, if_neg hdd, if_neg hww, if_neg (by rw [hst]; simp), hst]; rfl)
          rw [unhide E]
          clear h h0 hh hn0 E hst hke hwa hdd hww hw
          generalize (readR r (k : Int)).1 = s0 at *
          go_enter Try.func49, Try.ntmps49
          go_wp2_with (refine wpList_box 30 _ (bytesV s) rfl rfl rfl ?_)
          intro w1 hA1 hb1 hs1
          have HA1 := hide hA1
          have Hb1 := hide hb1
          clear hA1 hb1
          go_wp2_with fail
          refine (unhide HRD w1 (unhide Hb1)).mono ?_
          rintro e w2 ⟨rfl, hb2⟩
          have HA2 := hide ((unhide HA1).below hb2)
          have Hb2 := hide ((unhide Hb1).trans (hb2.mono (unhide Hb1).size))
          have hsq : w.heap.size < w2.heap.size := Nat.lt_of_lt_of_le (by omega) hb2.size
          clear hb2 HA1 Hb1 HRD
          go_wp2_with (refine wpList_alloc 30 30 (bytesV zeroS) rfl rfl alloc30 ?_)
          intro w3 hA3 hb3 hs3
          have HB3 := hide hA3
          have HA3 := hide ((unhide HA2).below hb3)
          have Hb3 := hide ((unhide Hb2).trans (hb3.mono (unhide Hb2).size))
          clear hA3 hb3 HA2 Hb2
          obtain ⟨q2, hq2⟩ : ∃ q2, q2 = w2.heap.size := ⟨_, rfl⟩
          rw [← hq2] at HB3 hs3 hsq ⊢
          clear hq2
          go_wp2_with (refine wpList_storeAll 30 _ _ q2 (bytesV s0) (bytesV zeroS) rfl rfl rfl rfl (unhide HB3) (by rw [bytesV_length, bytesV_length, unhide HRL]; rfl) (info30s (unhide HRL)) (bytesV_one _) ?_)
          intro w4 hA4 hg4 hs4
          have HB4 := hide hA4
          have HA4 := hide ((unhide HA3).grown hg4 (by simp; omega))
          have Hb4 := hide ((unhide Hb3).grown hg4 (unhide Hb3).size (fun k hk => by simp at hk; omega))
          have HD4 := hide ((unhide HD).below (unhide Hb4))
          have hc6 := unhide HC6 w4 (unhide Hb4)
          clear hA4 hg4 HB3 HA3 Hb3 HC6
          go_wp2_with fail
          have hr0 : w4.rangeAt q2 0 (bytesV s0) := (unhide HB4).range
          have HBQ : Hid (w.heap.size ≤ w4.heap.size) := hide (unhide Hb4).size
          obtain ⟨q, hq⟩ : ∃ q, q = w.heap.size := ⟨_, rfl⟩
          rw [← hq] at HA4 HQF
          have HQ := hide hq
          try rw [← hq]
          refine Flow.wp_region (Flow.VV (fun j => match j with | 0 => secV s0 | 1 => secV blankS | 2 => .bool false | _ => undef)) (fun _ (_ : Unit) w' => Below w4.heap.size w4 w') () (by kernel_rfl) (by kernel_rfl) (Below.refl _ w4).drew ⟨?_, ?_, ?_, trivial⟩ ?_
          · refine Flow.pure (Flow.goes_plain rfl) (fun _ _ _ h => h) fun a L s w' hC hL hn hs hd => ?_
            skip
            exact ⟨_, op_load30 rfl (hs 7 (by kernel_rfl)) (fun j v hj => (hC.cell (p := ⟨q2, 0 + j, none⟩) (unhide HB4).lt).trans (hr0 j v hj)) (unhide HRL), rfl⟩
          · refine Flow.call (Flow.goes_plain rfl) fun a L s0 w' hC hL hn hs hd => ⟨47, #[], op_call47 rfl rfl w', (rblank_walk w').mono ?_⟩
            rintro e w'' ⟨rfl, hb⟩
            exact ⟨_, (), rfl, fun _ _ _ h => h, hC.trans (hb.mono hC.size), rfl⟩
          · refine Flow.pure (Flow.goes_plain rfl) (fun _ _ _ h => h) fun a L s w' hC hL hn hs hd => ?_
            skip
            exact ⟨_, op_neq30 rfl (hd 0 22 (by kernel_rfl)) (hd 1 23 (by kernel_rfl)) (by rw [unhide HW0]; rfl) (unhide HRL) blankS_len w', rfl⟩
          · intro L _ w5 hC hL vals hv
            have e2 : vals 2 = .bool false := hv 2 _ 24 rfl rfl
            simp only [Free.putAll, Act.put, List.setIfInBounds_toArray, List.set_cons_succ, List.set_cons_zero, e2]
            have Hb5 : Hid (Below w.heap.size w w5) := hide ((unhide Hb4).trans (hC.mono (unhide HBQ)))
            have HA5 : Hid (Arr w5 q (bytesV s)) := hide ((unhide HA4).below hC)
            clear hv hL e2 HA4 Hb4 HB4 hr0 HD4 hc6 hq hsq hs1
            generalize vals 0 = y0 at *
            generalize vals 1 = y1 at *
            go_wp2_with fail
            refine (unhide HST w5 (unhide Hb5)).mono ?_
            rintro e w4 ⟨rfl, hD6, hB6, hs6⟩
            obtain ⟨bk2, bw2, wv2, hF, hB⟩ := hD6
            have HF := hide hF
            have HRB := hide hB
            have hc3 := hB.dev.cell (i := 3) rfl
            have HA6 : Hid (Arr w4 q (bytesV s)) := hide ((unhide HA5).same (hB6.block q (unhide HA5).lt (unhide HQF)))
            have HB6 : Hid (But F w w4) := hide ((But.of_below (unhide Hb5)).trans hB6 (fun _ h => .inl h))
            clear hF hB hB6 HST Hb5 HA5 hC
            go_wp2_with fail
            have hr5 : w4.rangeAt q 0 (bytesV s) := (unhide HA6).range
            refine Flow.wp_region (appV w4.drew (k, s) 8 9 (fun j => match j with | 0 => .pointer (some ⟨p, 0, none⟩) | 1 => .pointer (some ⟨p, 0, none⟩) | 2 => .pointer (some ⟨p, 0, none⟩) | 3 => .pointer (some ⟨p, 3, none⟩) | 4 => wv2 | 5 => .int .i64 (k : Int) | 6 => secV s | 7 => .agg (doneV (k, s)).toArray | 8 => undef | 9 => undef | 10 => .pointer (some ⟨p, 0, none⟩) | 11 => .pointer (some ⟨p, 3, none⟩) | 12 => undef | _ => undef)) (appC w4.drew 9 12 (fun v w' => w'.ownsRow 0 99 65 v (r1.done ++ [(k, s)]).length (donesV (r1.done ++ [(k, s)])) ∧ But wv2.ownBlock.toList w4 w' ∧ ∀ j ∈ v.ownBlock.toList, j ∈ wv2.ownBlock.toList ∨ w4.heap.size ≤ j) (fun w' => ∃ v w1, (w1.ownsRow 0 99 65 v (r1.done ++ [(k, s)]).length (donesV (r1.done ++ [(k, s)])) ∧ But wv2.ownBlock.toList w4 w1 ∧ ∀ j ∈ v.ownBlock.toList, j ∈ wv2.ownBlock.toList ∨ w4.heap.size ≤ j) ∧ w' = w1.setCell ⟨p, 3, none⟩ v)) none (by kernel_rfl) (by kernel_rfl) ⟨rfl, rfl, Below.refl _ _⟩ ⟨?_, ?_, ?_, ?_, ?_, ?_, ?_, ?_, ?_, ?_, ?_, ?_, ?_, trivial⟩ ?_
            · exact Flow.move (Flow.goes_plain rfl) (appC.upd (by decide) (by decide)) (.inl rfl) fun a s w' hs hd => (hs 0 (by kernel_rfl))
            · exact Flow.move (Flow.goes_plain rfl) (appC.upd (by decide) (by decide)) (.inl rfl) fun a s w' hs hd => (hs 0 (by kernel_rfl))
            · refine Flow.pure (Flow.goes_plain rfl) (appC.upd (by decide) (by decide)) fun a L s w' hC hL hn hs hd => ?_
              skip
              exact ⟨_, op_nil rfl (hd 1 29 (by kernel_rfl)) w', rfl⟩
            · refine Flow.pure (Flow.goes_plain rfl) (appC.upd (by decide) (by decide)) fun a L s w' hC hL hn hs hd => ?_
              skip
              exact ⟨_, op_f92_3 rfl (hd 2 30 (by kernel_rfl)) w', rfl⟩
            · refine Flow.pure (Flow.goes_plain rfl) (appC.upd (by decide) (by decide)) fun a L s w' hC hL hn hs hd => ?_
              have hA := hC.pre (hn.after 9 (by kernel_rfl))
              exact ⟨_, op_load90 rfl (hd 3 31 (by kernel_rfl)) ((hA.2.cell (p := ⟨p, 3, none⟩) (unhide HRB).dev.lt).trans hc3), rfl⟩
            · exact Flow.move (Flow.goes_plain rfl) (appC.upd (by decide) (by decide)) (.inl rfl) fun a s w' hs hd => (hs 1 (by kernel_rfl))
            · refine Flow.pure (Flow.goes_plain rfl) (appC.upd (by decide) (by decide)) fun a L s w' hC hL hn hs hd => ?_
              have hA := hC.pre (hn.after 9 (by kernel_rfl))
              exact ⟨_, op_load30 rfl (hs 5 (by kernel_rfl)) (fun j v hj => (hA.2.cell (p := ⟨q, 0 + j, none⟩) (unhide HA6).lt).trans (hr5 j v hj)) (unhide HS), rfl⟩
            · refine Flow.pure (Flow.goes_plain rfl) (appC.upd (by decide) (by decide)) fun a L s w' hC hL hn hs hd => ?_
              have hA := hC.pre (hn.after 9 (by kernel_rfl))
              exact ⟨_, op_build99 rfl (hd 5 33 (by kernel_rfl)) (hd 6 34 (by kernel_rfl)) (unhide HS) w', rfl⟩
            · refine Flow.value (Flow.goes_plain rfl) fun a L s0 w' hC hL hn hs hd => ?_
              obtain ⟨e0, hb0⟩ := hC.pre (hn.after 9 (by kernel_rfl))
              subst s0
              have hb8 : Below w'.heap.size w' (w'.alloc (.cells (doneV (k, s)).toArray 99)) := (Below.refl _ _).alloc (Nat.le_refl _) _
              exact ⟨_, none, _, op_slice90 rfl (hd 7 35 (by kernel_rfl)) (unhide HS) w', appV.grow hb8, appC.put (by decide) (by decide) hC hb8, fun _ => ⟨_, rfl, hb0.size, ⟨_, _, heap_alloc_new w' _, rfl⟩⟩⟩
            · refine Flow.value (Flow.goes_plain rfl) fun a L s0 w' hC hL hn hs hd => ?_
              obtain ⟨e0, hb0⟩ := hC.pre hL
              subst s0
              obtain ⟨b, hb1, hb2, hb3⟩ := (hd 8 36 (by kernel_rfl)) rfl
              have hwo : w'.ownsRow 0 99 65 wv2 r1.done.length (donesV r1.done) := owns_same (unhide HRB).done fun j hj => hb0.block j ((unhide HRB).lt j (by simp only [refF, List.mem_cons]; exact .inr (.inr (.inr hj))))
              obtain ⟨v', w9, hr9, q1, q2, q3⟩ := op_app90 (v := wv2) (hd 4 32 (by kernel_rfl)) hb1 hwo hb3 (unhide HS) (unhide HL1)
              refine ⟨v', some v', w9, hr9 _ rfl rfl, appV.app v', ?_, rfl⟩
              refine ⟨Flow.upd_eq, ?_⟩
              rw [Flow.upd_ne (by decide), hn.after 12 (by kernel_rfl)]
              refine ⟨q1, ⟨q2.os.trans hb0.os, q2.tape.trans hb0.tape, q2.output.trans hb0.output, Nat.le_trans hb0.size q2.size, fun j hj hne => ?_⟩, fun j hj => ?_⟩
              · rw [q2.block j (Nat.lt_of_lt_of_le hj hb0.size) (fun e => hne (by rw [← e]; simp)), hb0.block j hj]
                rfl
              · rcases q3 j hj with e1 | e1
                · exact .inl e1
                · exact .inr (Nat.le_trans hb0.size e1)
            · refine Flow.pure (Flow.goes_plain rfl) (appC.upd (by decide) (by decide)) fun a L s w' hC hL hn hs hd => ?_
              skip
              exact ⟨_, op_nil rfl (hd 0 28 (by kernel_rfl)) w', rfl⟩
            · refine Flow.pure (Flow.goes_plain rfl) (appC.upd (by decide) (by decide)) fun a L s w' hC hL hn hs hd => ?_
              skip
              exact ⟨_, op_f92_3 rfl (hd 10 38 (by kernel_rfl)) w', rfl⟩
            · refine Flow.store (Flow.goes_plain rfl) fun a L s0 w' hC hL hn hs hd => ?_
              obtain ⟨v, e0, hB⟩ := hC.mid (hn.done 9 (by kernel_rfl)) hL
              subst s0
              have e9 := (hd 9 37 (by kernel_rfl))
              have e9 : a.eval (.tmp 37) = v := (Option.some.inj e9).symm
              have hpd := (unhide HRB).dev.same (hB.2.1.block p (unhide HRB).dev.lt fun e => (nodupR (unhide HRB).nodup).2.2.2.1 p e rfl)
              obtain ⟨ad9, cap9, hv9, _, _⟩ := owns_slice hB.1
              rw [hv9] at e9
              refine ⟨some v, w'.setCell ⟨p, 3, none⟩ v, ?_, appV.set v, ⟨?_, ?_⟩, rfl⟩
              · rw [hv9]
                exact op_store90 rfl (hd 11 39 (by kernel_rfl)) e9 (hpd.cell (i := 3) rfl) (hpd.free 3)
              · rw [Flow.upd_ne (by decide)]; exact hn.done 9 (by kernel_rfl)
              · rw [Flow.upd_eq]
                exact ⟨v, w', hB, rfl⟩
            · intro L s0 w5 hC hL vals hv
              obtain ⟨v, w6, ⟨q1, q2, q3⟩, rfl⟩ := hC.end (hL 12 (by decide))
              have hfin := (unhide HRB).more (x := (k, s)) ⟨unhide HK1, unhide HS⟩ q1 q2 q3
              have HFN := hide hfin
              clear hC hL hv q1 q2 q3 hfin
              simp only [Free.putAll, Act.put, List.setIfInBounds_toArray, List.set_cons_succ, List.set_cons_zero]
              generalize vals 0 = z0 at *
              generalize vals 1 = z1 at *
              generalize vals 2 = z2 at *
              generalize vals 3 = z3 at *
              generalize vals 4 = z4 at *
              generalize vals 5 = z5 at *
              generalize vals 6 = z6 at *
              generalize vals 7 = z7 at *
              generalize vals 8 = z8 at *
              generalize vals 9 = z9 at *
              generalize vals 10 = z10 at *
              generalize vals 11 = z11 at *
              generalize w6.setCell ⟨p, 3, none⟩ v = w7 at *
              go_wp2_with fail
              go_ret
              refine ⟨rfl, _, ⟨bk2, bw2, v, rfl, (unhide HFN).1⟩, ?_⟩
              rw [unhide HF] at HB6 ⊢
              exact Turns.trans ⟨unhide HB6, fun _ h => .inl h⟩ (unhide HFN).2
        | false =>
          have HW0 := hide hw
          have E : Hid (programR r (k : Int) s = (62, r1)) := hide (by unfold programR; rw [if_neg hn0, if_neg hdd, if_neg hww, if_pos (by rw [hst]), hst])
          rw [unhide E]
          clear h h0 hh hn0 E hst hke hwa hdd hww hw
          generalize (readR r (k : Int)).1 = s0 at *
          go_enter Try.func49, Try.ntmps49
          go_wp2_with (refine wpList_box 30 _ (bytesV s) rfl rfl rfl ?_)
          intro w1 hA1 hb1 hs1
          have HA1 := hide hA1
          have Hb1 := hide hb1
          clear hA1 hb1
          go_wp2_with fail
          refine (unhide HRD w1 (unhide Hb1)).mono ?_
          rintro e w2 ⟨rfl, hb2⟩
          have HA2 := hide ((unhide HA1).below hb2)
          have Hb2 := hide ((unhide Hb1).trans (hb2.mono (unhide Hb1).size))
          have hsq : w.heap.size < w2.heap.size := Nat.lt_of_lt_of_le (by omega) hb2.size
          clear hb2 HA1 Hb1 HRD
          go_wp2_with (refine wpList_alloc 30 30 (bytesV zeroS) rfl rfl alloc30 ?_)
          intro w3 hA3 hb3 hs3
          have HB3 := hide hA3
          have HA3 := hide ((unhide HA2).below hb3)
          have Hb3 := hide ((unhide Hb2).trans (hb3.mono (unhide Hb2).size))
          clear hA3 hb3 HA2 Hb2
          obtain ⟨q2, hq2⟩ : ∃ q2, q2 = w2.heap.size := ⟨_, rfl⟩
          rw [← hq2] at HB3 hs3 hsq ⊢
          clear hq2
          go_wp2_with (refine wpList_storeAll 30 _ _ q2 (bytesV s0) (bytesV zeroS) rfl rfl rfl rfl (unhide HB3) (by rw [bytesV_length, bytesV_length, unhide HRL]; rfl) (info30s (unhide HRL)) (bytesV_one _) ?_)
          intro w4 hA4 hg4 hs4
          have HB4 := hide hA4
          have HA4 := hide ((unhide HA3).grown hg4 (by simp; omega))
          have Hb4 := hide ((unhide Hb3).grown hg4 (unhide Hb3).size (fun k hk => by simp at hk; omega))
          have HD4 := hide ((unhide HD).below (unhide Hb4))
          have hc6 := unhide HC6 w4 (unhide Hb4)
          clear hA4 hg4 HB3 HA3 Hb3 HC6
          go_wp2_with fail
          have hr0 : w4.rangeAt q2 0 (bytesV s0) := (unhide HB4).range
          have HBQ : Hid (w.heap.size ≤ w4.heap.size) := hide (unhide Hb4).size
          obtain ⟨q, hq⟩ : ∃ q, q = w.heap.size := ⟨_, rfl⟩
          rw [← hq] at HA4 HQF
          have HQ := hide hq
          try rw [← hq]
          refine Flow.wp_region (Flow.VV (fun j => match j with | 0 => secV s0 | 1 => secV blankS | 2 => .bool false | _ => undef)) (fun _ (_ : Unit) w' => Below w4.heap.size w4 w') () (by kernel_rfl) (by kernel_rfl) (Below.refl _ w4).drew ⟨?_, ?_, ?_, trivial⟩ ?_
          · refine Flow.pure (Flow.goes_plain rfl) (fun _ _ _ h => h) fun a L s w' hC hL hn hs hd => ?_
            skip
            exact ⟨_, op_load30 rfl (hs 7 (by kernel_rfl)) (fun j v hj => (hC.cell (p := ⟨q2, 0 + j, none⟩) (unhide HB4).lt).trans (hr0 j v hj)) (unhide HRL), rfl⟩
          · refine Flow.call (Flow.goes_plain rfl) fun a L s0 w' hC hL hn hs hd => ⟨47, #[], op_call47 rfl rfl w', (rblank_walk w').mono ?_⟩
            rintro e w'' ⟨rfl, hb⟩
            exact ⟨_, (), rfl, fun _ _ _ h => h, hC.trans (hb.mono hC.size), rfl⟩
          · refine Flow.pure (Flow.goes_plain rfl) (fun _ _ _ h => h) fun a L s w' hC hL hn hs hd => ?_
            skip
            exact ⟨_, op_neq30 rfl (hd 0 22 (by kernel_rfl)) (hd 1 23 (by kernel_rfl)) (by rw [unhide HW0]; rfl) (unhide HRL) blankS_len w', rfl⟩
          · intro L _ w5 hC hL vals hv
            have e2 : vals 2 = .bool false := hv 2 _ 24 rfl rfl
            simp only [Free.putAll, Act.put, List.setIfInBounds_toArray, List.set_cons_succ, List.set_cons_zero, e2]
            have Hb5 : Hid (Below w.heap.size w w5) := hide ((unhide Hb4).trans (hC.mono (unhide HBQ)))
            have HA5 : Hid (Arr w5 q (bytesV s)) := hide ((unhide HA4).below hC)
            clear hv hL e2 HA4 Hb4 HB4 hr0 HD4 hc6 hq hsq hs1
            generalize vals 0 = y0 at *
            generalize vals 1 = y1 at *
            go_wp2_with fail
            refine (unhide HST w5 (unhide Hb5)).mono ?_
            rintro e w6 ⟨rfl, hD6, hB6, hs6⟩
            have HD6 := hide hD6
            have HB6 : Hid (But F w w6) := hide ((But.of_below (unhide Hb5)).trans hB6 (fun _ h => .inl h))
            clear hD6 hB6 HST Hb5 HA5 hC
            go_wp2_with fail
            go_ret
            exact ⟨rfl, F, unhide HD6, ⟨unhide HB6, fun _ h => .inl h⟩⟩
      · have E : Hid (programR r (k : Int) s = (63, r)) := hide (by unfold programR; rw [if_neg hn0, if_neg hdd, if_pos hw])
        rw [unhide E]
        clear h h0 hh hn0 E hdd
        generalize (readR r (k : Int)).1 = s0 at *
        go_enter Try.func49, Try.ntmps49
        go_wp2_with (refine wpList_box 30 _ (bytesV s) rfl rfl rfl ?_)
        intro w1 hA1 hb1 hs1
        have HA1 := hide hA1
        have Hb1 := hide hb1
        clear hA1 hb1
        go_wp2_with fail
        refine (unhide HRD w1 (unhide Hb1)).mono ?_
        rintro e w2 ⟨rfl, hb2⟩
        have HA2 := hide ((unhide HA1).below hb2)
        have Hb2 := hide ((unhide Hb1).trans (hb2.mono (unhide Hb1).size))
        have hsq : w.heap.size < w2.heap.size := Nat.lt_of_lt_of_le (by omega) hb2.size
        clear hb2 HA1 Hb1 HRD
        go_wp2_with (refine wpList_alloc 30 30 (bytesV zeroS) rfl rfl alloc30 ?_)
        intro w3 hA3 hb3 hs3
        have HB3 := hide hA3
        have HA3 := hide ((unhide HA2).below hb3)
        have Hb3 := hide ((unhide Hb2).trans (hb3.mono (unhide Hb2).size))
        clear hA3 hb3 HA2 Hb2
        obtain ⟨q2, hq2⟩ : ∃ q2, q2 = w2.heap.size := ⟨_, rfl⟩
        rw [← hq2] at HB3 hs3 hsq ⊢
        clear hq2
        go_wp2_with (refine wpList_storeAll 30 _ _ q2 (bytesV s0) (bytesV zeroS) rfl rfl rfl rfl (unhide HB3) (by rw [bytesV_length, bytesV_length, unhide HRL]; rfl) (info30s (unhide HRL)) (bytesV_one _) ?_)
        intro w4 hA4 hg4 hs4
        have HB4 := hide hA4
        have HA4 := hide ((unhide HA3).grown hg4 (by simp; omega))
        have Hb4 := hide ((unhide Hb3).grown hg4 (unhide Hb3).size (fun k hk => by simp at hk; omega))
        have HD4 := hide ((unhide HD).below (unhide Hb4))
        have hc6 := unhide HC6 w4 (unhide Hb4)
        clear hA4 hg4 HB3 HA3 Hb3 HC6
        go_wp2_with fail
        have hr0 : w4.rangeAt q2 0 (bytesV s0) := (unhide HB4).range
        have HBQ : Hid (w.heap.size ≤ w4.heap.size) := hide (unhide Hb4).size
        obtain ⟨q, hq⟩ : ∃ q, q = w.heap.size := ⟨_, rfl⟩
        rw [← hq] at HA4 HQF
        have HQ := hide hq
        try rw [← hq]
        refine Flow.wp_region (Flow.VV (fun j => match j with | 0 => secV s0 | 1 => secV blankS | 2 => .bool true | _ => undef)) (fun _ (_ : Unit) w' => Below w4.heap.size w4 w') () (by kernel_rfl) (by kernel_rfl) (Below.refl _ w4).drew ⟨?_, ?_, ?_, trivial⟩ ?_
        · refine Flow.pure (Flow.goes_plain rfl) (fun _ _ _ h => h) fun a L s w' hC hL hn hs hd => ?_
          skip
          exact ⟨_, op_load30 rfl (hs 7 (by kernel_rfl)) (fun j v hj => (hC.cell (p := ⟨q2, 0 + j, none⟩) (unhide HB4).lt).trans (hr0 j v hj)) (unhide HRL), rfl⟩
        · refine Flow.call (Flow.goes_plain rfl) fun a L s0 w' hC hL hn hs hd => ⟨47, #[], op_call47 rfl rfl w', (rblank_walk w').mono ?_⟩
          rintro e w'' ⟨rfl, hb⟩
          exact ⟨_, (), rfl, fun _ _ _ h => h, hC.trans (hb.mono hC.size), rfl⟩
        · refine Flow.pure (Flow.goes_plain rfl) (fun _ _ _ h => h) fun a L s w' hC hL hn hs hd => ?_
          skip
          exact ⟨_, op_neq30 rfl (hd 0 22 (by kernel_rfl)) (hd 1 23 (by kernel_rfl)) (by simpa using hw) (unhide HRL) blankS_len w', rfl⟩
        · intro L _ w5 hC hL vals hv
          have e2 : vals 2 = .bool true := hv 2 _ 24 rfl rfl
          simp only [Free.putAll, Act.put, List.setIfInBounds_toArray, List.set_cons_succ, List.set_cons_zero, e2]
          have Hb5 : Hid (Below w.heap.size w w5) := hide ((unhide Hb4).trans (hC.mono (unhide HBQ)))
          have HA5 : Hid (Arr w5 q (bytesV s)) := hide ((unhide HA4).below hC)
          clear hv hL e2 HA4 Hb4 HB4 hr0 HD4 hc6 hq hsq hs1
          generalize vals 0 = y0 at *
          generalize vals 1 = y1 at *
          go_wp2_with fail
          go_ret
          exact ⟨rfl, F, (unhide HD).below (unhide Hb5), Turns.of_below (unhide Hb5)⟩
  · have E : Hid (programR r i s = ((readR r i).2, r)) := hide (by unfold programR; rw [if_pos h0])
    rw [unhide E]
    clear h E
    generalize (readR r i).1 = s0 at *
    generalize (readR r i).2 = e0 at *
    go_enter Try.func49, Try.ntmps49
    go_wp2_with (refine wpList_box 30 _ (bytesV s) rfl rfl rfl ?_)
    intro w1 hA1 hb1 hs1
    have HA1 := hide hA1
    have Hb1 := hide hb1
    clear hA1 hb1
    go_wp2_with fail
    refine (unhide HRD w1 (unhide Hb1)).mono ?_
    rintro e w2 ⟨rfl, hb2⟩
    have HA2 := hide ((unhide HA1).below hb2)
    have Hb2 := hide ((unhide Hb1).trans (hb2.mono (unhide Hb1).size))
    have hsq : w.heap.size < w2.heap.size := Nat.lt_of_lt_of_le (by omega) hb2.size
    clear hb2 HA1 Hb1 HRD
    go_wp2_with (refine wpList_alloc 30 30 (bytesV zeroS) rfl rfl alloc30 ?_)
    intro w3 hA3 hb3 hs3
    have HB3 := hide hA3
    have HA3 := hide ((unhide HA2).below hb3)
    have Hb3 := hide ((unhide Hb2).trans (hb3.mono (unhide Hb2).size))
    clear hA3 hb3 HA2 Hb2
    obtain ⟨q2, hq2⟩ : ∃ q2, q2 = w2.heap.size := ⟨_, rfl⟩
    rw [← hq2] at HB3 hs3 hsq ⊢
    clear hq2
    go_wp2_with (refine wpList_storeAll 30 _ _ q2 (bytesV s0) (bytesV zeroS) rfl rfl rfl rfl (unhide HB3) (by rw [bytesV_length, bytesV_length, unhide HRL]; rfl) (info30s (unhide HRL)) (bytesV_one _) ?_)
    intro w4 hA4 hg4 hs4
    have HB4 := hide hA4
    have HA4 := hide ((unhide HA3).grown hg4 (by simp; omega))
    have Hb4 := hide ((unhide Hb3).grown hg4 (unhide Hb3).size (fun k hk => by simp at hk; omega))
    have HD4 := hide ((unhide HD).below (unhide Hb4))
    have hc6 := unhide HC6 w4 (unhide Hb4)
    clear hA4 hg4 HB3 HA3 Hb3 HC6
    go_wp2_with fail
    go_ret
    exact ⟨rfl, F, unhide HD4, Turns.of_below (unhide Hb4)⟩

set_option maxHeartbeats 1600000 in
set_option maxRecDepth 100000 in
theorem rsync_walk (h : Ref F w p r) (hlen : r.done.length ≤ 1000000) :
    Calls Try.prog 21 #[.pointer (some ⟨p, 0, none⟩)] w fun e w' => e = .returned (.int .i64 (syncR r).1) ∧ ∃ F', Ref F' w' p (syncR r).2 ∧ Turns F F' w w' := by
  have HD := hide h
  have HST := hide (spend_walk h)
  have hc6 : w.cell? ⟨p, 6, none⟩ = some (.bool r.down) := by
    obtain ⟨bk, bw, wv, rfl, hB⟩ := h
    exact hB.dev.cell (i := 6) rfl
  clear h
  cases hdn : r.down with
  | true =>
    have E : Hid (syncR r = (62, r)) := hide (by unfold syncR; rw [if_pos hdn])
    rw [unhide E]
    rw [hdn] at hc6
    go_enter Try.func21, Try.ntmps21
    go_wp2_with fail
    go_ret
    exact ⟨rfl, F, unhide HD, Turns.refl _ _⟩
  | false =>
    rw [hdn] at hc6
    have hdd : ¬ r.down = true := by rw [hdn]; decide
    obtain ⟨e1, d1, hst⟩ : ∃ e1 d1, spendR r = (e1, d1) := ⟨_, _, rfl⟩
    rw [hst] at HST
    have hwa : d1.done = r.done := by rw [← spend_done r, hst]
    cases e1 with
    | true =>
      have E : Hid (syncR r = (0, keepR d1)) := hide (by unfold syncR; rw [if_neg hdd, if_neg (by rw [hst]; simp), hst])
      rw [unhide E]
      rw [← hwa] at hlen
      clear hst hwa E HD hdd
      go_enter Try.func21, Try.ntmps21
      go_wp2_with fail
      refine (unhide HST).mono ?_
      rintro e w2 ⟨rfl, hD2, hB2, hs2⟩
      obtain ⟨bk, bw, wv, hF, hB⟩ := hD2
      subst hF
      obtain ⟨ad, cap, rfl, hcap, _⟩ := owns_slice hB.done
      have hc3 := hB.dev.cell (i := 3) rfl
      have HDB := hide hB
      have HB2 := hide hB2
      clear hB hB2 HST hs2 hc6
      go_wp2
      go_loopw [19] (fun ci wr => ∃ j : Nat, j ≤ d1.done.length ∧ ci = .int .i64 (j : Int) ∧ RefB bk bw (.slice ad d1.done.length cap) wr p { d1 with kept := layAll d1.kept (d1.done.take j) } ∧ But (refF p bk bw (.slice ad d1.done.length cap)) w wr) (fun ci _ => d1.done.length - (intOf ci).toNat)
      case atStart => exact ⟨0, by omega, rfl, unhide HDB, unhide HB2⟩
      case round =>
        obtain ⟨j, hj, rfl, hB, hbu⟩ := hrel
        clear HDB HB2 hc3
        have HBU := hide hbu
        clear hbu
        by_cases hlt : j < d1.done.length
        · have hmem := getD_mem_done hlt
          have hx := hB.ok.doneS _ hmem
          obtain ⟨g, cap', hv, hrg⟩ := owns_range hB.done (fun x hx => (hB.ok.doneS x hx).2) hlt
          have HLT := hide (layAll_take d1.kept d1.done hlt)
          obtain ⟨x, hxe⟩ : ∃ x, x = d1.done.getD j (0, []) := ⟨_, rfl⟩
          rw [← hxe] at hx hrg HLT
          clear hxe hmem
          obtain ⟨xn, xs⟩ := x
          obtain ⟨hxn, hxs⟩ := hx
          have ev : ad = some ⟨g, 0, none⟩ := by
            simp only [Value.slice.injEq] at hv
            exact hv.1
          subst ev
          have HRG : Hid (wr.rangeAt g (j * 65) (doneV (xn, xs))) := hide hrg
          have HXS : Hid (xs.length = 64) := hide hxs
          have HXN : Hid (xn < (layAll d1.kept (d1.done.take j)).length) := hide hxn
          have hke : (layAll d1.kept (d1.done.take j)).length = d1.kept.length := layAll_len _ _
          have HKE := hide hke
          have HDB := hide hB
          have HWS := (unhide HBU).size
          clear hv hrg hxn hxs hB hke
          generalize hnn : d1.done.length = n at *
          have HNN := hide hnn
          clear hnn
          go_wp2_with (first
            | refine wpList_load_mid rfl 99 _ rfl g (j * 65) rfl (doneV (xn, xs)) _ (unhide HRG) Try.underlying99 rfl (info99 (x := (xn, xs)) (unhide HXS)) ?_
            | refine wpList_alloc 99 99 (doneV (0, zeroS)) rfl rfl alloc99 ?_)
          intro w3 hA3 hb3 hs3
          have HA3 := hide hA3
          have hbl := (unhide HDB).lt
          have HDB3 := hide ((unhide HDB).same (w' := w3) fun k hk => hb3.block k (hbl k hk))
          have HBU3 := hide ((unhide HBU).trans (But.of_below (F := []) hb3) (fun k hk => by cases hk))
          have HQ : Hid (∀ k ∈ refF p bk bw (.slice (some ⟨g, 0, none⟩) n cap), k ≠ wr.heap.size) := hide (fun k hk e => by have := hbl k hk; omega)
          have HWQ : Hid (w.heap.size ≤ wr.heap.size) := hide HWS
          clear hA3 hb3 hbl HDB HBU HRG HWS
          generalize wr.heap.size = q at *
          go_wp2_with (refine wpList_storeAll 99 _ _ q (doneV (xn, xs)) (doneV (0, zeroS)) rfl rfl rfl rfl (unhide HA3) (by rw [doneV_length (x := (xn, xs)) (unhide HXS)]; rfl) (info99 (x := (xn, xs)) (unhide HXS)) (doneV_one _) ?_)
          intro w4 hA4 hg4 hs4
          have HA4 := hide hA4
          have HDB4 := hide ((unhide HDB3).same (w' := w4) fun k hk => hg4.block k ((unhide HDB3).lt k hk) (by simpa using unhide HQ k hk))
          have HBU4 : Hid (But (refF p bk bw (.slice (some ⟨g, 0, none⟩) n cap)) w w4) := hide ⟨hg4.os.trans (unhide HBU3).os, hg4.tape.trans (unhide HBU3).tape, hg4.output.trans (unhide HBU3).output, Nat.le_trans (unhide HBU3).size hg4.size, fun k hk hn => by
            rw [hg4.block k (Nat.lt_of_lt_of_le hk (unhide HBU3).size) (by simp; intro e; have := (unhide HWQ); omega), (unhide HBU3).block k hk hn]⟩
          clear hA4 hg4 HA3 HDB3 HBU3
          go_wp2_with fail
          have hc0 := (unhide HDB4).dev.cell (i := 0) rfl
          have hcx := (unhide HA4).cell (i := 0) rfl
          have hrx : w4.rangeAt q 1 (bytesV xs) := (unhide HA4).doneSec
          have hth : w4.there bk (xn * 64) 64 := (unhide HDB4).kept.secThere (unhide HDB4).ok.keptS (unhide HXN)
          have hxk : xn < d1.kept.length := by have := unhide HXN; rw [unhide HKE] at this; exact this
          refine Flow.wp_region (Flow.VV (fun j => match j with | 0 => .pointer (some ⟨p, 0, none⟩) | 1 => .pointer (some ⟨p, 0, none⟩) | 2 => .pointer (some ⟨p, 0, none⟩) | 3 => .slice (some ⟨bk, 0, none⟩) d1.kept.length d1.kept.length | 4 => .pointer (some ⟨q, 0, none⟩) | 5 => .int .i64 (xn : Int) | 6 => .pointer (some ⟨q, 1, none⟩) | 7 => secV xs | 8 => .pointer (some ⟨bk, xn * 64, none⟩) | 9 => undef | _ => undef)) (Flow.two 9 (fun _ w' => w' = w4.drew) (fun _ w' => w' = w4.drew.setCells bk (xn * 64) (bytesV xs))) () (by kernel_rfl) (by kernel_rfl) (by unfold Flow.two; simp) ⟨?_, ?_, ?_, ?_, ?_, ?_, ?_, ?_, ?_, ?_, trivial⟩ ?_
          · exact Flow.move (Flow.goes_plain rfl) (Flow.two.upd (by decide)) (.inl rfl) fun a s w' hs hd => (hs 0 (by kernel_rfl))
          · refine Flow.pure (Flow.goes_plain rfl) (Flow.two.upd (by decide)) fun a L s w' hC hL hn hs hd => ?_
            skip
            exact ⟨_, op_nil rfl (hd 0 23 (by kernel_rfl)) w', rfl⟩
          · refine Flow.pure (Flow.goes_plain rfl) (Flow.two.upd (by decide)) fun a L s w' hC hL hn hs hd => ?_
            skip
            exact ⟨_, op_f92_0 rfl (hd 1 24 (by kernel_rfl)) w', rfl⟩
          · refine Flow.pure (Flow.goes_plain rfl) (Flow.two.upd (by decide)) fun a L s w' hC hL hn hs hd => ?_
            have hA := hC.pre (hn.after 9 (by kernel_rfl))
            exact ⟨_, op_load78 rfl (hd 2 25 (by kernel_rfl)) (by rw [hA]; exact (by rw [← unhide HKE]; exact hc0)), rfl⟩
          · refine Flow.pure (Flow.goes_plain rfl) (Flow.two.upd (by decide)) fun a L s w' hC hL hn hs hd => ?_
            skip
            exact ⟨_, op_f99_0 rfl (hs 4 (by kernel_rfl)) w', rfl⟩
          · refine Flow.pure (Flow.goes_plain rfl) (Flow.two.upd (by decide)) fun a L s w' hC hL hn hs hd => ?_
            have hA := hC.pre (hn.after 9 (by kernel_rfl))
            exact ⟨_, op_load3 rfl (hd 4 27 (by kernel_rfl)) (by rw [hA]; exact hcx), rfl⟩
          · refine Flow.pure (Flow.goes_plain rfl) (Flow.two.upd (by decide)) fun a L s w' hC hL hn hs hd => ?_
            skip
            exact ⟨_, op_f99_1 rfl (hs 4 (by kernel_rfl)) w', rfl⟩
          · refine Flow.pure (Flow.goes_plain rfl) (Flow.two.upd (by decide)) fun a L s w' hC hL hn hs hd => ?_
            have hA := hC.pre (hn.after 9 (by kernel_rfl))
            exact ⟨_, op_load30 rfl (hd 6 29 (by kernel_rfl)) (by rw [hA]; exact hrx) (unhide HXS), rfl⟩
          · refine Flow.pure (Flow.goes_plain rfl) (Flow.two.upd (by decide)) fun a L s w' hC hL hn hs hd => ?_
            have hA := hC.pre (hn.after 9 (by kernel_rfl))
            exact ⟨_, op_idx78 rfl (hd 3 26 (by kernel_rfl)) (hd 5 28 (by kernel_rfl)) hxk w', rfl⟩
          · refine Flow.store (Flow.goes_plain rfl) fun a L s0 w' hC hL hn hs hd => ?_
            have hA := hC.pre hL
            exact ⟨(), _, op_store30 rfl (hd 8 31 (by kernel_rfl)) (hd 7 30 (by kernel_rfl)) (by rw [hA]; exact hth) (unhide HXS), fun _ _ _ h => h, Flow.two.post (by rw [hA]), rfl⟩
          · intro L _ w5 hC hL vals hv
            have hA := hC.end (hL 9 (by decide))
            have HDB5 := hide (((unhide HDB4).same (w' := w4.drew) (fun _ _ => rfl)).keptSet (unhide HXN) (unhide HXS))
            have HBU5 : Hid (But (refF p bk bw (.slice (some ⟨g, 0, none⟩) n cap)) w w5) := hide (by
              rw [hA]
              exact (unhide HBU4).trans (But.of_grown (b := bk) (setCells_grown _ _ _ w4.drew) (by simp [refF])).undrew (fun _ h => .inl h))
            rw [← hA] at HDB5
            simp only [Free.putAll, Act.put, List.setIfInBounds_toArray, List.set_cons_succ, List.set_cons_zero]
            clear hA hC hL hv hc0 hcx hrx hth HDB4 HBU4 HA4
            generalize vals 0 = y0 at *
            generalize vals 1 = y1 at *
            generalize vals 2 = y2 at *
            generalize vals 3 = y3 at *
            generalize vals 4 = y4 at *
            generalize vals 5 = y5 at *
            generalize vals 6 = y6 at *
            generalize vals 7 = y7 at *
            generalize vals 8 = y8 at *
            go_wp2_with fail
            go_roundw
            case rel =>
              refine ⟨j + 1, by omega, by go_num, ?_, unhide HBU5⟩
              rw [unhide HLT]
              exact unhide HDB5
            case measure => simp [intOf]; omega
        · obtain rfl : j = d1.done.length := by omega
          rw [List.take_length] at hB
          have hc3 := hB.dev.cell (i := 3) rfl
          have hf3 := hB.dev.free 3
          have HN := hide hB.noDone
          clear hB
          go_wp2_with fail
          go_ret
          refine ⟨rfl, _, ⟨bk, bw, _, rfl, (unhide HN).1⟩, ?_⟩
          exact Turns.trans ⟨unhide HBU, fun _ h => .inl h⟩ (unhide HN).2
    | false =>
      have E : Hid (syncR r = (62, d1)) := hide (by unfold syncR; rw [if_neg hdd, if_pos (by rw [hst]), hst])
      rw [unhide E]
      clear hst hwa E HD
      go_enter Try.func21, Try.ntmps21
      go_wp2_with fail
      refine (unhide HST).mono ?_
      rintro e w2 ⟨rfl, hD2, hB2, hs2⟩
      have HD2 := hide hD2
      have HB2 := hide hB2
      clear hD2 hB2 HST
      go_wp2_with fail
      go_ret
      exact ⟨rfl, F, unhide HD2, ⟨unhide HB2, fun _ h => .inl h⟩⟩
end
end Go.Proofs.Ytlgknllcnkainaa
