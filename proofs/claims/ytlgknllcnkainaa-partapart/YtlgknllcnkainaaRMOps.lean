/-
  Erase and Program of the document's parts.
-/
import Derived.Test.YtlgknllcnkainaaRMap
namespace Go.Proofs.Ytlgknllcnkainaa
open Go.RowKit

theorem eraseR_kept (r : RM) (i : Int) : (eraseR r i).2.kept = r.kept := by
  unfold eraseR
  split
  · rfl
  · split
    · rfl
    · split
      · rfl
      · split
        · exact spend_kept r
        · show (spendR r).2.kept = _
          exact spend_kept r
theorem programR_kept (r : RM) (i : Int) (s : Sec) : (programR r i s).2.kept = r.kept := by
  unfold programR
  split
  · rfl
  · split
    · rfl
    · split
      · rfl
      · split
        · exact spend_kept r
        · show (spendR r).2.kept = _
          exact spend_kept r
section
variable {N sc : Nat} {sa : Option Addr} {F D : List Nat} {w w' : World} {m p : Nat} {x : MX} {r : RM}

/-- Behind the append. -/
theorem RPMap.fin {ov : Value} (h : RPMap N sa sc (opsF m ov) D w m p r x) (hB : RMapB N sa sc ov w m p x) (k a1 a2 : Int) : ∀ v w', OpsB (.pointer (some ⟨p, 0, none⟩)) (.slice sa x.sz.length sc) v w' m x.who (x.ops ++ [(k, a1, a2, x.who)]) → Turns (opsF m ov) (opsF m v) w w' →
    RPMap N sa sc (opsF m v) D w' m p r (x.did k a1 a2) ∧ Turns (opsF m ov ++ D) (opsF m v ++ D) w w' := fun v _ h1 h2 =>
  h.turnM h2 ⟨v, rfl, hB.more h.size h1 h2⟩ rfl

set_option maxHeartbeats 1600000 in
set_option maxRecDepth 100000 in
theorem rmerase_walk (h : RPMap N sa sc F D w m p r x) (a1 a2 : Int) (hj : -9223372036854775808 ≤ a2 ∧ a2 ≤ 9223372036854775807) (hlen : r.done.length ≤ 1000000) (hop : x.ops.length ≤ 1000000) :
    Calls Try.prog 20 #[.pointer (some ⟨m, 0, none⟩), .int .i64 a1, .int .i64 a2] w fun e w' => e = .returned (.int .i64 (opG 1 eraseR r x a1 a2).1) ∧
      ∃ F' D', RPMap N sa sc F' D' w' m p (opG 1 eraseR r x a1 a2).2.1 (opG 1 eraseR r x a1 a2).2.2 ∧ Turns (F ++ D) (F' ++ D') w w' := by
  have HM := hide h
  have HPL := hide (rplace_walk h.map a1 a2 hj)
  have hc0 := h.map.dev
  obtain ⟨q1, q2, hq⟩ : ∃ q1 q2, placeX x.sz a1 a2 = (q1, q2) := ⟨_, _, rfl⟩
  rw [hq] at HPL
  clear h
  by_cases h0 : q2 = 0
  · subst h0
    obtain ⟨e1, d1, hed⟩ : ∃ e1 d1, eraseR r q1 = (e1, d1) := ⟨_, _, rfl⟩
    have HE : Hid (Calls Try.prog 50 #[.pointer (some ⟨p, 0, none⟩), .int .i64 q1] w fun e w' => e = .returned (.int .i64 e1) ∧ ∃ F', Ref F' w' p d1 ∧ Turns D F' w w') := by
      have := rerase_walk (unhide HM).dev q1 hlen
      rw [hed] at this
      exact hide this
    have HKL : Hid (d1.kept.length = r.kept.length) := hide (by
      have := eraseR_kept r q1
      rw [hed] at this
      rw [this])
    by_cases h1 : e1 = 0
    · subst h1
      rw [show opG 1 eraseR r x a1 a2 = (0, d1, x.did 1 a1 a2) by unfold opG; rw [hq, hed]; simp]
      clear hq hed
      go_enter Try.func20, Try.ntmps20
      go_wp2_with fail
      refine (unhide HPL).mono ?_
      rintro e w1 ⟨rfl, hw1⟩
      subst w1
      clear HPL
      go_wp2_with fail
      refine (unhide HE).mono ?_
      rintro e w2 ⟨rfl, D', hD2, hT2⟩
      have HQ2 := hide ((unhide HM).turnD hT2 hD2 (unhide HKL))
      clear hD2 hT2 HE HM hc0 HKL
      go_wp2_with fail
      obtain ⟨ov, hF, hB⟩ := (unhide HQ2).1.map
      subst hF
      have HO := hide hB.ob
      have hc2 := hB.ob.arr.cell (i := 2) rfl
      have hc3 := hB.ob.arr.cell (i := 3) rfl
      have HFIN := hide ((unhide HQ2).1.fin hB 1 a1 a2)
      have HT2 := hide (unhide HQ2).2
      clear hB HQ2
      generalize (Value.slice sa x.sz.length sc) = c1 at *
      obtain ⟨l, hl⟩ : ∃ l, l = x.ops := ⟨_, rfl⟩
      obtain ⟨who, hwho⟩ : ∃ who, who = x.who := ⟨_, rfl⟩
      rw [← hl] at HO HFIN hop
      rw [← hwho] at HO HFIN hc2
      obtain ⟨r0, hr0⟩ : ∃ r0 : OpT, r0 = (1, a1, a2, who) := ⟨_, rfl⟩
      clear hl hwho
      refine Flow.wp_region (gappV w2.drew (opV r0) 12 13 (fun j => match j with | 0 => .pointer (some ⟨m, 0, none⟩) | 1 => .pointer (some ⟨m, 0, none⟩) | 2 => .pointer (some ⟨m, 0, none⟩) | 3 => .pointer (some ⟨m, 3, none⟩) | 4 => ov | 5 => .int .i64 a1 | 6 => .int .i64 a2 | 7 => .pointer (some ⟨m, 0, none⟩) | 8 => .pointer (some ⟨m, 0, none⟩) | 9 => .pointer (some ⟨m, 2, none⟩) | 10 => .int .i64 who | 11 => .agg (opV r0).toArray | 12 => undef | 13 => undef | 14 => .pointer (some ⟨m, 0, none⟩) | 15 => .pointer (some ⟨m, 3, none⟩) | 16 => undef | _ => undef)) (appC w2.drew 13 16 (fun v w' => w'.ownsRow 0 39 4 v (l ++ [r0]).length (opsV (l ++ [r0])) ∧ But ov.ownBlock.toList w2 w' ∧ ∀ j ∈ v.ownBlock.toList, j ∈ ov.ownBlock.toList ∨ w2.heap.size ≤ j)
        (fun w' => ∃ v w1, (w1.ownsRow 0 39 4 v (l ++ [r0]).length (opsV (l ++ [r0])) ∧ But ov.ownBlock.toList w2 w1 ∧ ∀ j ∈ v.ownBlock.toList, j ∈ ov.ownBlock.toList ∨ w2.heap.size ≤ j) ∧ w' = w1.setCell ⟨m, 3, none⟩ v)) none (by kernel_rfl) (by kernel_rfl) ⟨rfl, rfl, Below.refl _ _⟩ ⟨?_, ?_, ?_, ?_, ?_, ?_, ?_, ?_, ?_, ?_, ?_, ?_, ?_, ?_, ?_, ?_, ?_, trivial⟩ ?_
      · exact Flow.move (Flow.goes_plain rfl) (appC.upd (by decide) (by decide)) (.inl rfl) fun a s w' hs hd => (hs 0 (by kernel_rfl))
      · exact Flow.move (Flow.goes_plain rfl) (appC.upd (by decide) (by decide)) (.inl rfl) fun a s w' hs hd => (hs 0 (by kernel_rfl))
      · refine Flow.pure (Flow.goes_plain rfl) (appC.upd (by decide) (by decide)) fun a L s w' hC hL hn hs hd => ?_
        skip
        exact ⟨_, op_nil rfl (hd 1 27 (by kernel_rfl)) w', rfl⟩
      · refine Flow.pure (Flow.goes_plain rfl) (appC.upd (by decide) (by decide)) fun a L s w' hC hL hn hs hd => ?_
        skip
        exact ⟨_, op_f48_3 rfl (hd 2 28 (by kernel_rfl)) w', rfl⟩
      · refine Flow.pure (Flow.goes_plain rfl) (appC.upd (by decide) (by decide)) fun a L s w' hC hL hn hs hd => ?_
        have hA := hC.pre (hn.after 13 (by kernel_rfl))
        exact ⟨_, op_load36 rfl (hd 3 29 (by kernel_rfl)) ((hA.2.cell (p := ⟨m, 3, none⟩) (unhide HO).arr.lt).trans hc3), rfl⟩
      · exact Flow.move (Flow.goes_plain rfl) (appC.upd (by decide) (by decide)) (.inl rfl) fun a s w' hs hd => (hs 1 (by kernel_rfl))
      · exact Flow.move (Flow.goes_plain rfl) (appC.upd (by decide) (by decide)) (.inl rfl) fun a s w' hs hd => (hs 2 (by kernel_rfl))
      · exact Flow.move (Flow.goes_plain rfl) (appC.upd (by decide) (by decide)) (.inl rfl) fun a s w' hs hd => (hs 0 (by kernel_rfl))
      · refine Flow.pure (Flow.goes_plain rfl) (appC.upd (by decide) (by decide)) fun a L s w' hC hL hn hs hd => ?_
        skip
        exact ⟨_, op_nil rfl (hd 7 33 (by kernel_rfl)) w', rfl⟩
      · refine Flow.pure (Flow.goes_plain rfl) (appC.upd (by decide) (by decide)) fun a L s w' hC hL hn hs hd => ?_
        skip
        exact ⟨_, op_f48_2 rfl (hd 8 34 (by kernel_rfl)) w', rfl⟩
      · refine Flow.pure (Flow.goes_plain rfl) (appC.upd (by decide) (by decide)) fun a L s w' hC hL hn hs hd => ?_
        have hA := hC.pre (hn.after 13 (by kernel_rfl))
        exact ⟨_, op_load3 rfl (hd 9 35 (by kernel_rfl)) ((hA.2.cell (p := ⟨m, 2, none⟩) (unhide HO).arr.lt).trans hc2), rfl⟩
      · exact Flow.pure (Flow.goes_plain rfl) (appC.upd (by decide) (by decide)) fun a L s w' hC hL hn hs hd => ⟨_, hr0 ▸ op_build39 rfl rfl (hd 5 31 (by kernel_rfl)) (hd 6 32 (by kernel_rfl)) (hd 10 36 (by kernel_rfl)) w', rfl⟩
      · refine Flow.value (Flow.goes_plain rfl) fun a L s0 w' hC hL hn hs hd => ?_
        obtain ⟨e0, hb0⟩ := hC.pre (hn.after 13 (by kernel_rfl))
        subst s0
        have hb8 : Below w'.heap.size w' (w'.alloc (.cells (opV r0).toArray 39)) := (Below.refl _ _).alloc (Nat.le_refl _) _
        exact ⟨_, none, _, op_slice36 rfl (hd 11 37 (by kernel_rfl)) w', gappV.grow hb8, appC.put (by decide) (by decide) hC hb8, fun _ => ⟨_, rfl, hb0.size, ⟨_, _, heap_alloc_new w' _, rfl⟩⟩⟩
      · refine Flow.value (Flow.goes_plain rfl) fun a L s0 w' hC hL hn hs hd => ?_
        obtain ⟨e0, hb0⟩ := hC.pre hL
        subst s0
        obtain ⟨b, hb1, hb2, hb3⟩ := (hd 12 38 (by kernel_rfl)) rfl
        have hwo : w'.ownsRow 0 39 4 ov l.length (opsV l) := owns_same (unhide HO).ops fun j hj => hb0.block j ((unhide HO).lt j (by simp only [opsF, List.mem_cons]; exact .inr hj))
        obtain ⟨v', w9, hr9, q1, q2, q3⟩ := op_app36 (v := ov) (hd 4 30 (by kernel_rfl)) hb1 hwo hb3 hop
        refine ⟨v', some v', w9, hr9 _ rfl rfl, gappV.app v', ?_, rfl⟩
        refine ⟨Flow.upd_eq, ?_⟩
        rw [Flow.upd_ne (by decide), hn.after 16 (by kernel_rfl)]
        refine ⟨q1, ⟨q2.os.trans hb0.os, q2.tape.trans hb0.tape, q2.output.trans hb0.output, Nat.le_trans hb0.size q2.size, fun j hj hne => ?_⟩, fun j hj => ?_⟩
        · rw [q2.block j (Nat.lt_of_lt_of_le hj hb0.size) (fun e => hne (by rw [← e]; simp)), hb0.block j hj]
          rfl
        · rcases q3 j hj with e1 | e1
          · exact .inl e1
          · exact .inr (Nat.le_trans hb0.size e1)
      · refine Flow.pure (Flow.goes_plain rfl) (appC.upd (by decide) (by decide)) fun a L s w' hC hL hn hs hd => ?_
        skip
        exact ⟨_, op_nil rfl (hd 0 26 (by kernel_rfl)) w', rfl⟩
      · refine Flow.pure (Flow.goes_plain rfl) (appC.upd (by decide) (by decide)) fun a L s w' hC hL hn hs hd => ?_
        skip
        exact ⟨_, op_f48_3 rfl (hd 14 40 (by kernel_rfl)) w', rfl⟩
      · refine Flow.store (Flow.goes_plain rfl) fun a L s0 w' hC hL hn hs hd => ?_
        obtain ⟨v, e0, hB⟩ := hC.mid (hn.done 13 (by kernel_rfl)) hL
        subst s0
        have e9 := (hd 13 39 (by kernel_rfl))
        have e9 : a.eval (.tmp 39) = v := (Option.some.inj e9).symm
        have hpd := (unhide HO).arr.same (hB.2.1.block m (unhide HO).arr.lt fun e => (unhide HO).apart e)
        obtain ⟨ad9, cap9, hv9, _, _⟩ := owns_slice hB.1
        rw [hv9] at e9
        refine ⟨some v, w'.setCell ⟨m, 3, none⟩ v, ?_, gappV.set v, ⟨?_, ?_⟩, rfl⟩
        · rw [hv9]
          exact op_store36 rfl (hd 15 41 (by kernel_rfl)) e9 (hpd.cell (i := 3) rfl) (hpd.free 3)
        · rw [Flow.upd_ne (by decide)]; exact hn.done 13 (by kernel_rfl)
        · rw [Flow.upd_eq]
          exact ⟨v, w', hB, rfl⟩
      · intro L s0 w5 hC hL vals hv
        obtain ⟨v, w6, ⟨q1, q2, q3⟩, rfl⟩ := hC.end (hL 16 (by decide))
        have HF := hide ((unhide HO).more (r := r0) q1 q2 q3)
        clear hC hL hv q1 q2 q3
        simp only [Free.putAll, Act.put, List.setIfInBounds_toArray, List.set_cons_succ, List.set_cons_zero]
        generalize w6.setCell ⟨m, 3, none⟩ v = w7 at *
        generalize vals 0 = y0 at *
        generalize vals 1 = y1 at *
        generalize vals 2 = y2 at *
        generalize vals 3 = y3 at *
        generalize vals 4 = y4 at *
        generalize vals 5 = y5 at *
        generalize vals 6 = y6 at *
        generalize vals 7 = y7 at *
        generalize vals 8 = y8 at *
        generalize vals 9 = y9 at *
        generalize vals 10 = y10 at *
        generalize vals 11 = y11 at *
        generalize vals 12 = y12 at *
        generalize vals 13 = y13 at *
        generalize vals 14 = y14 at *
        generalize vals 15 = y15 at *
        go_wp2_with fail
        go_ret
        subst hr0
        exact ⟨rfl, _, D', (unhide HFIN v w7 (unhide HF).1 (unhide HF).2).1, (unhide HT2).trans (unhide HFIN v w7 (unhide HF).1 (unhide HF).2).2⟩
    · rw [show opG 1 eraseR r x a1 a2 = (e1, d1, x) by unfold opG; rw [hq, hed]; simp [h1]]
      clear hq hed
      go_enter Try.func20, Try.ntmps20
      go_wp2_with fail
      refine (unhide HPL).mono ?_
      rintro e w1 ⟨rfl, hw1⟩
      subst w1
      clear HPL
      go_wp2_with fail
      refine (unhide HE).mono ?_
      rintro e w2 ⟨rfl, D', hD2, hT2⟩
      have HQ2 := hide ((unhide HM).turnD hT2 hD2 (unhide HKL))
      clear hD2 hT2 HE HM hc0 HKL
      go_wp2_with fail
      go_ret
      exact ⟨rfl, F, D', (unhide HQ2).1, (unhide HQ2).2⟩
  · rw [show opG 1 eraseR r x a1 a2 = (q2, r, x) by unfold opG; rw [hq]; simp [h0]]
    clear hq
    go_enter Try.func20, Try.ntmps20
    go_wp2_with fail
    refine (unhide HPL).mono ?_
    rintro e w1 ⟨rfl, hw1⟩
    subst w1
    clear HPL
    go_wp2_with fail
    go_ret
    exact ⟨rfl, F, D, unhide HM, Turns.refl _ _⟩

set_option maxHeartbeats 1600000 in
set_option maxRecDepth 100000 in
theorem rmprogram_walk (h : RPMap N sa sc F D w m p r x) (a1 a2 : Int) (hj : -9223372036854775808 ≤ a2 ∧ a2 ≤ 9223372036854775807) (s : Sec) (hs : s.length = 64) (hlen : r.done.length ≤ 1000000) (hop : x.ops.length ≤ 1000000) :
    Calls Try.prog 19 #[.pointer (some ⟨m, 0, none⟩), .int .i64 a1, .int .i64 a2, secV s] w fun e w' => e = .returned (.int .i64 (opG 2 (fun r i => programR r i s) r x a1 a2).1) ∧
      ∃ F' D', RPMap N sa sc F' D' w' m p (opG 2 (fun r i => programR r i s) r x a1 a2).2.1 (opG 2 (fun r i => programR r i s) r x a1 a2).2.2 ∧ Turns (F ++ D) (F' ++ D') w w' := by
  have HM := hide h
  have HS := hide hs
  obtain ⟨q1, q2, hq⟩ : ∃ q1 q2, placeX x.sz a1 a2 = (q1, q2) := ⟨_, _, rfl⟩
  have HPL : ∀ w1, Below w.heap.size w w1 → Hid (Calls Try.prog 48 #[.pointer (some ⟨m, 0, none⟩), .int .i64 a1, .int .i64 a2] w1 fun e w' => e = .returned (.tuple #[.int .i64 q1, .int .i64 q2]) ∧ w' = w1) := fun w1 hb1 => by
    have := rplace_walk (h.below hb1).map a1 a2 hj
    rw [hq] at this
    exact hide this
  clear h
  by_cases h0 : q2 = 0
  · subst h0
    obtain ⟨e1, d1, hed⟩ : ∃ e1 d1, programR r q1 s = (e1, d1) := ⟨_, _, rfl⟩
    have HE : Hid (∀ w1, Ref D w1 p r → Calls Try.prog 49 #[.pointer (some ⟨p, 0, none⟩), .int .i64 q1, secV s] w1 fun e w' => e = .returned (.int .i64 e1) ∧ ∃ F', Ref F' w' p d1 ∧ Turns D F' w1 w') := hide fun w1 hd1 => by
      have := rprogram_walk hd1 q1 s hs hlen
      rw [hed] at this
      exact this
    have HKL : Hid (d1.kept.length = r.kept.length) := hide (by
      have := programR_kept r q1 s
      rw [hed] at this
      rw [this])
    by_cases h1 : e1 = 0
    · rw [show opG 2 (fun r i => programR r i s) r x a1 a2 = (0, d1, x.did 2 a1 a2) by unfold opG; rw [hq]; simp [hed, h1]]
      clear hq hed
      go_enter Try.func19, Try.ntmps19
      go_wp2_with (refine wpList_box 30 _ (bytesV s) rfl rfl rfl ?_)
      intro w1 hA1 hb1 hs1
      have HA1 := hide hA1
      have HM1 := hide ((unhide HM).below hb1)
      have HT1 : Hid (∀ H, Turns H H w w1) := hide fun H => Turns.of_below hb1
      have hc0 := (unhide HM1).map.dev
      have HP1 := HPL w1 hb1
      clear hA1 hb1 HPL HM
      generalize w.heap.size = q at *
      go_wp2_with fail
      refine (unhide HP1).mono ?_
      rintro e w2' ⟨rfl, hw2⟩
      subst w2'
      clear HP1
      go_wp2_with fail
      have hr5 : w1.rangeAt q 0 (bytesV s) := (unhide HA1).range
      refine Flow.wp_region (Flow.VV (fun j => match j with | 0 => .pointer (some ⟨m, 0, none⟩) | 1 => .pointer (some ⟨m, 0, none⟩) | 2 => .pointer (some ⟨m, 0, none⟩) | 3 => .pointer (some ⟨p, 0, none⟩) | 4 => .int .i64 q1 | 5 => secV s | 6 => .int .i64 e1 | 7 => .int .i64 e1 | _ => undef)) (Flow.two 6 (fun _ w' => w' = w1.drew) (fun _ w' => ∃ D', Ref D' w' p d1 ∧ Turns D D' w1 w')) () (by kernel_rfl) (by kernel_rfl) (by unfold Flow.two; simp) ⟨?_, ?_, ?_, ?_, ?_, ?_, ?_, ?_, trivial⟩ ?_
      · exact Flow.move (Flow.goes_plain rfl) (Flow.two.upd (by decide)) (.inl rfl) fun a s w' hs hd => (hs 0 (by kernel_rfl))
      · refine Flow.pure (Flow.goes_plain rfl) (Flow.two.upd (by decide)) fun a L s w' hC hL hn hs hd => ?_
        skip
        exact ⟨_, op_nil rfl (hd 0 20 (by kernel_rfl)) w', rfl⟩
      · refine Flow.pure (Flow.goes_plain rfl) (Flow.two.upd (by decide)) fun a L s w' hC hL hn hs hd => ?_
        skip
        exact ⟨_, op_f48_0 rfl (hd 1 21 (by kernel_rfl)) w', rfl⟩
      · refine Flow.pure (Flow.goes_plain rfl) (Flow.two.upd (by decide)) fun a L s w' hC hL hn hs hd => ?_
        have hA := hC.pre (hn.after 6 (by kernel_rfl))
        exact ⟨_, op_load45 rfl (hd 2 22 (by kernel_rfl)) (by rw [hA]; exact hc0), rfl⟩
      · exact Flow.move (Flow.goes_plain rfl) (Flow.two.upd (by decide)) (.inl rfl) fun a s w' hs hd => (hs 9 (by kernel_rfl))
      · refine Flow.pure (Flow.goes_plain rfl) (Flow.two.upd (by decide)) fun a L s w' hC hL hn hs hd => ?_
        have hA := hC.pre (hn.after 6 (by kernel_rfl))
        exact ⟨_, op_load30 rfl (hs 7 (by kernel_rfl)) (by rw [hA]; exact hr5) (unhide HS), rfl⟩
      · refine Flow.call (Flow.goes_plain rfl) fun a L s0 w' hC hL hn hs hd => ⟨49, _, op_call49 rfl (hd 3 23 (by kernel_rfl)) (hd 4 24 (by kernel_rfl)) (hd 5 25 (by kernel_rfl)) rfl w', (unhide HE w' ?_).mono ?_⟩
        · have hA := hC.pre hL
          rw [hA]
          exact (unhide HM1).dev.drew
        · have hA := hC.pre hL
          rintro e w'' ⟨rfl, D', hD, hT⟩
          refine ⟨_, (), rfl, fun _ _ _ h => h, Flow.two.post ⟨D', hD, ?_⟩, rfl⟩
          rw [hA] at hT
          exact ⟨hT.1.undrew, hT.2⟩
      · exact Flow.move (Flow.goes_plain rfl) (Flow.two.upd (by decide)) (.inr rfl) fun a s w' hs hd => (hd 6 26 (by kernel_rfl))
      · intro L _ w2 hC hL vals hv
        obtain ⟨D', hD4, hT4⟩ := hC.end (hL 6 (by decide))
        have e7 : vals 7 = .int .i64 e1 := hv 7 _ 10 rfl rfl
        have e6 : vals 6 = .int .i64 e1 := hv 6 _ 26 rfl rfl
        have HQ2 := hide ((unhide HM1).turnD hT4 hD4 (unhide HKL))
        simp only [Free.putAll, Act.put, List.setIfInBounds_toArray, List.set_cons_succ, List.set_cons_zero, e6, e7]
        clear hC hL hv e6 e7 hD4 hT4 hc0 hr5 HM1 HKL
        generalize vals 0 = x0 at *
        generalize vals 1 = x1 at *
        generalize vals 2 = x2 at *
        generalize vals 3 = x3 at *
        generalize vals 4 = x4 at *
        generalize vals 5 = x5 at *
        subst h1
        go_wp2_with fail
        obtain ⟨ov, hF, hB⟩ := (unhide HQ2).1.map
        subst hF
        have HO := hide hB.ob
        have hc2 := hB.ob.arr.cell (i := 2) rfl
        have hc3 := hB.ob.arr.cell (i := 3) rfl
        have HFIN := hide ((unhide HQ2).1.fin hB 2 a1 a2)
        have HT2 := hide (unhide HQ2).2
        clear hB HQ2
        generalize (Value.slice sa x.sz.length sc) = c1 at *
        obtain ⟨l, hl⟩ : ∃ l, l = x.ops := ⟨_, rfl⟩
        obtain ⟨who, hwho⟩ : ∃ who, who = x.who := ⟨_, rfl⟩
        rw [← hl] at HO HFIN hop
        rw [← hwho] at HO HFIN hc2
        obtain ⟨r0, hr0⟩ : ∃ r0 : OpT, r0 = (2, a1, a2, who) := ⟨_, rfl⟩
        clear hl hwho
        refine Flow.wp_region (gappV w2.drew (opV r0) 12 13 (fun j => match j with | 0 => .pointer (some ⟨m, 0, none⟩) | 1 => .pointer (some ⟨m, 0, none⟩) | 2 => .pointer (some ⟨m, 0, none⟩) | 3 => .pointer (some ⟨m, 3, none⟩) | 4 => ov | 5 => .int .i64 a1 | 6 => .int .i64 a2 | 7 => .pointer (some ⟨m, 0, none⟩) | 8 => .pointer (some ⟨m, 0, none⟩) | 9 => .pointer (some ⟨m, 2, none⟩) | 10 => .int .i64 who | 11 => .agg (opV r0).toArray | 12 => undef | 13 => undef | 14 => .pointer (some ⟨m, 0, none⟩) | 15 => .pointer (some ⟨m, 3, none⟩) | 16 => undef | _ => undef)) (appC w2.drew 13 16 (fun v w' => w'.ownsRow 0 39 4 v (l ++ [r0]).length (opsV (l ++ [r0])) ∧ But ov.ownBlock.toList w2 w' ∧ ∀ j ∈ v.ownBlock.toList, j ∈ ov.ownBlock.toList ∨ w2.heap.size ≤ j)
          (fun w' => ∃ v w1, (w1.ownsRow 0 39 4 v (l ++ [r0]).length (opsV (l ++ [r0])) ∧ But ov.ownBlock.toList w2 w1 ∧ ∀ j ∈ v.ownBlock.toList, j ∈ ov.ownBlock.toList ∨ w2.heap.size ≤ j) ∧ w' = w1.setCell ⟨m, 3, none⟩ v)) none (by kernel_rfl) (by kernel_rfl) ⟨rfl, rfl, Below.refl _ _⟩ ⟨?_, ?_, ?_, ?_, ?_, ?_, ?_, ?_, ?_, ?_, ?_, ?_, ?_, ?_, ?_, ?_, ?_, trivial⟩ ?_
        · exact Flow.move (Flow.goes_plain rfl) (appC.upd (by decide) (by decide)) (.inl rfl) fun a s w' hs hd => (hs 0 (by kernel_rfl))
        · exact Flow.move (Flow.goes_plain rfl) (appC.upd (by decide) (by decide)) (.inl rfl) fun a s w' hs hd => (hs 0 (by kernel_rfl))
        · refine Flow.pure (Flow.goes_plain rfl) (appC.upd (by decide) (by decide)) fun a L s w' hC hL hn hs hd => ?_
          skip
          exact ⟨_, op_nil rfl (hd 1 30 (by kernel_rfl)) w', rfl⟩
        · refine Flow.pure (Flow.goes_plain rfl) (appC.upd (by decide) (by decide)) fun a L s w' hC hL hn hs hd => ?_
          skip
          exact ⟨_, op_f48_3 rfl (hd 2 31 (by kernel_rfl)) w', rfl⟩
        · refine Flow.pure (Flow.goes_plain rfl) (appC.upd (by decide) (by decide)) fun a L s w' hC hL hn hs hd => ?_
          have hA := hC.pre (hn.after 13 (by kernel_rfl))
          exact ⟨_, op_load36 rfl (hd 3 32 (by kernel_rfl)) ((hA.2.cell (p := ⟨m, 3, none⟩) (unhide HO).arr.lt).trans hc3), rfl⟩
        · exact Flow.move (Flow.goes_plain rfl) (appC.upd (by decide) (by decide)) (.inl rfl) fun a s w' hs hd => (hs 1 (by kernel_rfl))
        · exact Flow.move (Flow.goes_plain rfl) (appC.upd (by decide) (by decide)) (.inl rfl) fun a s w' hs hd => (hs 2 (by kernel_rfl))
        · exact Flow.move (Flow.goes_plain rfl) (appC.upd (by decide) (by decide)) (.inl rfl) fun a s w' hs hd => (hs 0 (by kernel_rfl))
        · refine Flow.pure (Flow.goes_plain rfl) (appC.upd (by decide) (by decide)) fun a L s w' hC hL hn hs hd => ?_
          skip
          exact ⟨_, op_nil rfl (hd 7 36 (by kernel_rfl)) w', rfl⟩
        · refine Flow.pure (Flow.goes_plain rfl) (appC.upd (by decide) (by decide)) fun a L s w' hC hL hn hs hd => ?_
          skip
          exact ⟨_, op_f48_2 rfl (hd 8 37 (by kernel_rfl)) w', rfl⟩
        · refine Flow.pure (Flow.goes_plain rfl) (appC.upd (by decide) (by decide)) fun a L s w' hC hL hn hs hd => ?_
          have hA := hC.pre (hn.after 13 (by kernel_rfl))
          exact ⟨_, op_load3 rfl (hd 9 38 (by kernel_rfl)) ((hA.2.cell (p := ⟨m, 2, none⟩) (unhide HO).arr.lt).trans hc2), rfl⟩
        · exact Flow.pure (Flow.goes_plain rfl) (appC.upd (by decide) (by decide)) fun a L s w' hC hL hn hs hd => ⟨_, hr0 ▸ op_build39 rfl rfl (hd 5 34 (by kernel_rfl)) (hd 6 35 (by kernel_rfl)) (hd 10 39 (by kernel_rfl)) w', rfl⟩
        · refine Flow.value (Flow.goes_plain rfl) fun a L s0 w' hC hL hn hs hd => ?_
          obtain ⟨e0, hb0⟩ := hC.pre (hn.after 13 (by kernel_rfl))
          subst s0
          have hb8 : Below w'.heap.size w' (w'.alloc (.cells (opV r0).toArray 39)) := (Below.refl _ _).alloc (Nat.le_refl _) _
          exact ⟨_, none, _, op_slice36 rfl (hd 11 40 (by kernel_rfl)) w', gappV.grow hb8, appC.put (by decide) (by decide) hC hb8, fun _ => ⟨_, rfl, hb0.size, ⟨_, _, heap_alloc_new w' _, rfl⟩⟩⟩
        · refine Flow.value (Flow.goes_plain rfl) fun a L s0 w' hC hL hn hs hd => ?_
          obtain ⟨e0, hb0⟩ := hC.pre hL
          subst s0
          obtain ⟨b, hb1, hb2, hb3⟩ := (hd 12 41 (by kernel_rfl)) rfl
          have hwo : w'.ownsRow 0 39 4 ov l.length (opsV l) := owns_same (unhide HO).ops fun j hj => hb0.block j ((unhide HO).lt j (by simp only [opsF, List.mem_cons]; exact .inr hj))
          obtain ⟨v', w9, hr9, q1, q2, q3⟩ := op_app36 (v := ov) (hd 4 33 (by kernel_rfl)) hb1 hwo hb3 hop
          refine ⟨v', some v', w9, hr9 _ rfl rfl, gappV.app v', ?_, rfl⟩
          refine ⟨Flow.upd_eq, ?_⟩
          rw [Flow.upd_ne (by decide), hn.after 16 (by kernel_rfl)]
          refine ⟨q1, ⟨q2.os.trans hb0.os, q2.tape.trans hb0.tape, q2.output.trans hb0.output, Nat.le_trans hb0.size q2.size, fun j hj hne => ?_⟩, fun j hj => ?_⟩
          · rw [q2.block j (Nat.lt_of_lt_of_le hj hb0.size) (fun e => hne (by rw [← e]; simp)), hb0.block j hj]
            rfl
          · rcases q3 j hj with e1 | e1
            · exact .inl e1
            · exact .inr (Nat.le_trans hb0.size e1)
        · refine Flow.pure (Flow.goes_plain rfl) (appC.upd (by decide) (by decide)) fun a L s w' hC hL hn hs hd => ?_
          skip
          exact ⟨_, op_nil rfl (hd 0 29 (by kernel_rfl)) w', rfl⟩
        · refine Flow.pure (Flow.goes_plain rfl) (appC.upd (by decide) (by decide)) fun a L s w' hC hL hn hs hd => ?_
          skip
          exact ⟨_, op_f48_3 rfl (hd 14 43 (by kernel_rfl)) w', rfl⟩
        · refine Flow.store (Flow.goes_plain rfl) fun a L s0 w' hC hL hn hs hd => ?_
          obtain ⟨v, e0, hB⟩ := hC.mid (hn.done 13 (by kernel_rfl)) hL
          subst s0
          have e9 := (hd 13 42 (by kernel_rfl))
          have e9 : a.eval (.tmp 42) = v := (Option.some.inj e9).symm
          have hpd := (unhide HO).arr.same (hB.2.1.block m (unhide HO).arr.lt fun e => (unhide HO).apart e)
          obtain ⟨ad9, cap9, hv9, _, _⟩ := owns_slice hB.1
          rw [hv9] at e9
          refine ⟨some v, w'.setCell ⟨m, 3, none⟩ v, ?_, gappV.set v, ⟨?_, ?_⟩, rfl⟩
          · rw [hv9]
            exact op_store36 rfl (hd 15 44 (by kernel_rfl)) e9 (hpd.cell (i := 3) rfl) (hpd.free 3)
          · rw [Flow.upd_ne (by decide)]; exact hn.done 13 (by kernel_rfl)
          · rw [Flow.upd_eq]
            exact ⟨v, w', hB, rfl⟩
        · intro L s0 w5 hC hL vals hv
          obtain ⟨v, w6, ⟨q1, q2, q3⟩, rfl⟩ := hC.end (hL 16 (by decide))
          have HF := hide ((unhide HO).more (r := r0) q1 q2 q3)
          clear hC hL hv q1 q2 q3
          simp only [Free.putAll, Act.put, List.setIfInBounds_toArray, List.set_cons_succ, List.set_cons_zero]
          generalize w6.setCell ⟨m, 3, none⟩ v = w7 at *
          generalize vals 0 = y0 at *
          generalize vals 1 = y1 at *
          generalize vals 2 = y2 at *
          generalize vals 3 = y3 at *
          generalize vals 4 = y4 at *
          generalize vals 5 = y5 at *
          generalize vals 6 = y6 at *
          generalize vals 7 = y7 at *
          generalize vals 8 = y8 at *
          generalize vals 9 = y9 at *
          generalize vals 10 = y10 at *
          generalize vals 11 = y11 at *
          generalize vals 12 = y12 at *
          generalize vals 13 = y13 at *
          generalize vals 14 = y14 at *
          generalize vals 15 = y15 at *
          go_wp2_with fail
          go_ret
          subst hr0
          exact ⟨rfl, _, D', (unhide HFIN v w7 (unhide HF).1 (unhide HF).2).1, ((unhide HT1 _).trans (unhide HT2)).trans (unhide HFIN v w7 (unhide HF).1 (unhide HF).2).2⟩
    · rw [show opG 2 (fun r i => programR r i s) r x a1 a2 = (e1, d1, x) by unfold opG; rw [hq]; simp [hed, h1]]
      clear hq hed
      go_enter Try.func19, Try.ntmps19
      go_wp2_with (refine wpList_box 30 _ (bytesV s) rfl rfl rfl ?_)
      intro w1 hA1 hb1 hs1
      have HA1 := hide hA1
      have HM1 := hide ((unhide HM).below hb1)
      have HT1 : Hid (∀ H, Turns H H w w1) := hide fun H => Turns.of_below hb1
      have hc0 := (unhide HM1).map.dev
      have HP1 := HPL w1 hb1
      clear hA1 hb1 HPL HM
      generalize w.heap.size = q at *
      go_wp2_with fail
      refine (unhide HP1).mono ?_
      rintro e w2' ⟨rfl, hw2⟩
      subst w2'
      clear HP1
      go_wp2_with fail
      have hr5 : w1.rangeAt q 0 (bytesV s) := (unhide HA1).range
      refine Flow.wp_region (Flow.VV (fun j => match j with | 0 => .pointer (some ⟨m, 0, none⟩) | 1 => .pointer (some ⟨m, 0, none⟩) | 2 => .pointer (some ⟨m, 0, none⟩) | 3 => .pointer (some ⟨p, 0, none⟩) | 4 => .int .i64 q1 | 5 => secV s | 6 => .int .i64 e1 | 7 => .int .i64 e1 | _ => undef)) (Flow.two 6 (fun _ w' => w' = w1.drew) (fun _ w' => ∃ D', Ref D' w' p d1 ∧ Turns D D' w1 w')) () (by kernel_rfl) (by kernel_rfl) (by unfold Flow.two; simp) ⟨?_, ?_, ?_, ?_, ?_, ?_, ?_, ?_, trivial⟩ ?_
      · exact Flow.move (Flow.goes_plain rfl) (Flow.two.upd (by decide)) (.inl rfl) fun a s w' hs hd => (hs 0 (by kernel_rfl))
      · refine Flow.pure (Flow.goes_plain rfl) (Flow.two.upd (by decide)) fun a L s w' hC hL hn hs hd => ?_
        skip
        exact ⟨_, op_nil rfl (hd 0 20 (by kernel_rfl)) w', rfl⟩
      · refine Flow.pure (Flow.goes_plain rfl) (Flow.two.upd (by decide)) fun a L s w' hC hL hn hs hd => ?_
        skip
        exact ⟨_, op_f48_0 rfl (hd 1 21 (by kernel_rfl)) w', rfl⟩
      · refine Flow.pure (Flow.goes_plain rfl) (Flow.two.upd (by decide)) fun a L s w' hC hL hn hs hd => ?_
        have hA := hC.pre (hn.after 6 (by kernel_rfl))
        exact ⟨_, op_load45 rfl (hd 2 22 (by kernel_rfl)) (by rw [hA]; exact hc0), rfl⟩
      · exact Flow.move (Flow.goes_plain rfl) (Flow.two.upd (by decide)) (.inl rfl) fun a s w' hs hd => (hs 9 (by kernel_rfl))
      · refine Flow.pure (Flow.goes_plain rfl) (Flow.two.upd (by decide)) fun a L s w' hC hL hn hs hd => ?_
        have hA := hC.pre (hn.after 6 (by kernel_rfl))
        exact ⟨_, op_load30 rfl (hs 7 (by kernel_rfl)) (by rw [hA]; exact hr5) (unhide HS), rfl⟩
      · refine Flow.call (Flow.goes_plain rfl) fun a L s0 w' hC hL hn hs hd => ⟨49, _, op_call49 rfl (hd 3 23 (by kernel_rfl)) (hd 4 24 (by kernel_rfl)) (hd 5 25 (by kernel_rfl)) rfl w', (unhide HE w' ?_).mono ?_⟩
        · have hA := hC.pre hL
          rw [hA]
          exact (unhide HM1).dev.drew
        · have hA := hC.pre hL
          rintro e w'' ⟨rfl, D', hD, hT⟩
          refine ⟨_, (), rfl, fun _ _ _ h => h, Flow.two.post ⟨D', hD, ?_⟩, rfl⟩
          rw [hA] at hT
          exact ⟨hT.1.undrew, hT.2⟩
      · exact Flow.move (Flow.goes_plain rfl) (Flow.two.upd (by decide)) (.inr rfl) fun a s w' hs hd => (hd 6 26 (by kernel_rfl))
      · intro L _ w2 hC hL vals hv
        obtain ⟨D', hD4, hT4⟩ := hC.end (hL 6 (by decide))
        have e7 : vals 7 = .int .i64 e1 := hv 7 _ 10 rfl rfl
        have e6 : vals 6 = .int .i64 e1 := hv 6 _ 26 rfl rfl
        have HQ2 := hide ((unhide HM1).turnD hT4 hD4 (unhide HKL))
        simp only [Free.putAll, Act.put, List.setIfInBounds_toArray, List.set_cons_succ, List.set_cons_zero, e6, e7]
        clear hC hL hv e6 e7 hD4 hT4 hc0 hr5 HM1 HKL
        generalize vals 0 = x0 at *
        generalize vals 1 = x1 at *
        generalize vals 2 = x2 at *
        generalize vals 3 = x3 at *
        generalize vals 4 = x4 at *
        generalize vals 5 = x5 at *
        go_wp2_with fail
        go_ret
        exact ⟨rfl, F, D', (unhide HQ2).1, (unhide HT1 _).trans (unhide HQ2).2⟩
  · rw [show opG 2 (fun r i => programR r i s) r x a1 a2 = (q2, r, x) by unfold opG; rw [hq]; simp [h0]]
    clear hq
    go_enter Try.func19, Try.ntmps19
    go_wp2_with (refine wpList_box 30 _ (bytesV s) rfl rfl rfl ?_)
    intro w1 hA1 hb1 hs1
    have Hb1 := hide hb1
    have HP1 := HPL w1 hb1
    clear hA1 hb1 HPL
    go_wp2_with fail
    refine (unhide HP1).mono ?_
    rintro e w2 ⟨rfl, hw2⟩
    subst w2
    clear HP1
    go_wp2_with fail
    go_ret
    exact ⟨rfl, F, D, (unhide HM).below (unhide Hb1), Turns.of_below (unhide Hb1)⟩
end
end Go.Proofs.Ytlgknllcnkainaa
