/-
  FlashRuns: the walk.
-/
import Derived.Test.YtebahemgbpjldaaPair
namespace Go.Proofs.Ytebahemgbpjldaa
open Go.RowKit
namespace flashRuns

set_option maxHeartbeats 6400000 in
set_option maxRecDepth 100000 in
theorem main (sx wx : Int) (hsx : sx ≤ 30) (a : Option Addr) (len cap : Nat) (hlen : len ≤ 120) (w : World) (hA : Acts w.heap.size w a len) :
    Calls Try.prog 4 #[.int .i64 sx, .int .i64 wx, .slice a len cap] w fun e w' => e = .returned (.bool true) ∧ Below w.heap.size w w' := by
  have HACT := hide hA
  clear hA
  go_enter Try.func4, Try.ntmps4
  go_wp2_with fail
  refine (alive_walk w).mono ?_
  rintro e w1 ⟨rfl, hb1⟩
  have Hb1 := hide hb1
  clear hb1
  go_wp2_with fail
  refine (new_walk sx wx w1).mono ?_
  rintro e w2 ⟨F, p, rfl, hD, hF, hb⟩
  have hs1 := (unhide Hb1).size
  have HD2 := hide hD
  have HF2 : Hid (∀ k ∈ F, w.heap.size ≤ k) := hide (fun k hk => Nat.le_trans hs1 (hF k hk))
  have Hb2 := hide ((unhide Hb1).trans (hb.mono hs1))
  clear hD hF hb Hb1 hs1
  go_wp2_with fail
  refine (rnew_walk sx wx w2).mono ?_
  rintro e w3 ⟨G, q, rfl, hR, hG, hb⟩
  have hs2 := (unhide Hb2).size
  have HP3 : Hid (Pair w.heap.size F G w3 p q (newD sx wx) (newR sx wx)) := hide
    { dev := (unhide HD2).below hb, ref := hR, hF := unhide HF2, hG := fun k hk => Nat.le_trans hs2 (hG k hk), apart := fun k hk e => by have h1 := (unhide HD2).lt k hk; have h2 := hG k e; omega, size := Nat.le_trans hs2 hb.size }
  have HS3 := hide (Sim.new sx wx)
  have HW3 : Hid ((newD sx wx).wait.length ≤ 0) := hide (Nat.le_refl _)
  have Hb3 := hide ((unhide Hb2).trans (hb.mono hs2))
  clear hR hG hb HD2 HF2 Hb2 hs2
  generalize newD sx wx = d at *
  generalize newR sx wx = r at *
  go_wp2
  go_loopw [39] (fun ci wr => ∃ (j : Nat) (F G : List Nat) (d : DM) (r : RM), j ≤ len ∧ ci = .int .i64 (j : Int) ∧ Pair w.heap.size F G wr p q d r ∧ Sim d r ∧ d.wait.length ≤ j ∧ Below w.heap.size w wr) (fun ci _ => len - (intOf ci).toNat)
  case atStart => exact ⟨0, F, G, d, r, by omega, rfl, unhide HP3, unhide HS3, unhide HW3, unhide Hb3⟩
  case round =>
    clear HP3 HS3 HW3 Hb3
    obtain ⟨j, F, G, d, r, hj, rfl, hP, hS, hwt, hb⟩ := hrel
    have hN := hP.size
    have HP := hide hP
    have HS := hide hS
    have Hb := hide hb
    clear hP hS
    by_cases hlt : j < len
    · obtain ⟨ba, off, kd, pl, v, ka, kl, kc, rfl, hbN, c0, c1, c2, c3, hpl, hkk⟩ := ((unhide HACT).below hb) j hlt
      clear hb
      have hbl : ∀ C, Below wr.heap.size wr (wr.alloc (.cells C 42)) := fun C => (Below.refl _ _).alloc (Nat.le_refl _) _
      have HP0 : Hid (∀ C, Pair w.heap.size F G (wr.alloc (.cells C 42)) p q d r) := hide (fun C => (unhide HP).below (hbl C))
      have Hb0 : Hid (∀ C, Below w.heap.size w (wr.alloc (.cells C 42))) := hide (fun C => (unhide Hb).trans ((hbl C).mono hN))
      have HA0 : Hid (Arr (wr.alloc (.cells #[.int .i64 kd, .int .i64 pl, .int .u8 ((v.toNat : Nat) : Int), .slice ka kl kc] 42)) wr.heap.size [.int .i64 kd, .int .i64 pl, .int .u8 ((v.toNat : Nat) : Int), .slice ka kl kc]) := hide ⟨_, _, heap_alloc_new wr _, rfl⟩
      have HQ0 : Hid (wr.heap.size ∉ F ∧ wr.heap.size ∉ G ∧ w.heap.size ≤ wr.heap.size) := hide ⟨fun e => by have := (unhide HP).dev.lt _ e; omega, fun e => by have := (unhide HP).ref.lt _ e; omega, hN⟩
      have HKK : Hid (∀ C, KeptOk w.heap.size (wr.alloc (.cells C 42)) ka kl kc) := hide (fun C => ⟨hkk.1, hkk.2.1, fun hx => by
        obtain ⟨bs, hr⟩ := hkk.2.2 hx
        exact ⟨bs, hr.below ((hbl C).mono hN)⟩⟩)
      have HWT := hide hwt
      have HWL : Hid (d.wait.length ≤ 1000000 ∧ r.done.length ≤ 1000000) := hide ⟨by omega, by rw [(unhide HS).wait]; omega⟩
      have HPL := hide hpl
      clear hbl hkk hN HP Hb hwt
      obtain ⟨sb, hsb⟩ : ∃ sb, sb = wr.heap.size := ⟨_, rfl⟩
      have hkinds : kd = 0 ∨ kd = 1 ∨ kd = 2 ∨ kd = 4 ∨ kd = 5 ∨ (kd ≠ 0 ∧ kd ≠ 1 ∧ kd ≠ 2 ∧ kd ≠ 4 ∧ kd ≠ 5) := by omega
      rcases hkinds with rfl | rfl | rfl | rfl | rfl | ⟨k0, k1, k2, k4, k5⟩
      · go_wp2_with fail
        have HP1 := hide (unhide HP0 #[.int .i64 0, .int .i64 pl, .int .u8 ((v.toNat : Nat) : Int), .slice ka kl kc])
        have Hb1 := hide (unhide Hb0 #[.int .i64 0, .int .i64 pl, .int .u8 ((v.toNat : Nat) : Int), .slice ka kl kc])
        have HK1 := hide (unhide HKK #[.int .i64 0, .int .i64 pl, .int .u8 ((v.toNat : Nat) : Int), .slice ka kl kc])
        have HOK := hide (unhide HP1).dev.ok
        clear HP0 Hb0 HKK c0 c1 c2 c3 HACT
        rw [← hsb] at HA0 HQ0 ⊢
        generalize wr.alloc (.cells #[.int .i64 0, .int .i64 pl, .int .u8 ((v.toNat : Nat) : Int), .slice ka kl kc] 42) = w1 at *
        clear hsb
        obtain ⟨W0, hW0⟩ : ∃ W0, W0 = w1 := ⟨_, rfl⟩
        rw [← hW0] at HP1 Hb1 HA0 ⊢
        clear hW0 HK1
        have HAA := HA0
        have HSIM := (unhide HS).program pl (fullS v)
        refine Flow.wp_region (Flow.VV (fun j => match j with | 0 => .pointer (some ⟨p, 0, none⟩) | 1 => .pointer (some ⟨sb, 1, none⟩) | 2 => .int .i64 pl | 3 => .pointer (some ⟨sb, 2, none⟩) | 4 => .int .u8 ((v.toNat : Nat) : Int) | 5 => secV (fullS v) | 6 => .int .i64 (programD d pl (fullS v)).1 | 7 => .int .i64 (programD d pl (fullS v)).1 | _ => undef)) (Flow.two 6 (fun _ w' => Below W0.heap.size W0 w') (fun _ w' => ∃ F2, Pair w.heap.size F2 G w' p q (programD d pl (fullS v)).2 r ∧ Below w.heap.size W0 w' ∧ Arr w' sb [.int .i64 0, .int .i64 pl, .int .u8 ((v.toNat : Nat) : Int), .slice ka kl kc] ∧ sb ∉ G)) () (by kernel_rfl) (by kernel_rfl) (by unfold Flow.two; simp; exact (Below.refl _ W0).drew) ⟨?_, ?_, ?_, ?_, ?_, ?_, ?_, ?_, trivial⟩ ?_
        · exact Flow.move (Flow.goes_plain rfl) (Flow.two.upd (by decide)) (.inl rfl) fun a s w' hs hd => (hs 7 (by kernel_rfl))
        · refine Flow.pure (Flow.goes_plain rfl) (Flow.two.upd (by decide)) fun a L s w' hC hL hn hs hd => ?_
          skip
          exact ⟨_, op_f42_1 rfl (hs 10 (by kernel_rfl)) w', rfl⟩
        · refine Flow.pure (Flow.goes_plain rfl) (Flow.two.upd (by decide)) fun a L s w' hC hL hn hs hd => ?_
          have hA := hC.pre (hn.after 6 (by kernel_rfl))
          exact ⟨_, op_load3 rfl (hd 1 70 (by kernel_rfl)) ((hA.cell (p := ⟨sb, 1, none⟩) (unhide HAA).lt).trans ((unhide HAA).cell (i := 1) rfl)), rfl⟩
        · refine Flow.pure (Flow.goes_plain rfl) (Flow.two.upd (by decide)) fun a L s w' hC hL hn hs hd => ?_
          skip
          exact ⟨_, op_f42_2 rfl (hs 10 (by kernel_rfl)) w', rfl⟩
        · refine Flow.pure (Flow.goes_plain rfl) (Flow.two.upd (by decide)) fun a L s w' hC hL hn hs hd => ?_
          have hA := hC.pre (hn.after 6 (by kernel_rfl))
          exact ⟨_, op_load5 rfl (hd 3 72 (by kernel_rfl)) ((hA.cell (p := ⟨sb, 2, none⟩) (unhide HAA).lt).trans ((unhide HAA).cell (i := 2) rfl)), rfl⟩
        · refine Flow.call (Flow.goes_plain rfl) fun a L s0 w' hC hL hn hs hd => ⟨20, #[.int .u8 ((v.toNat : Nat) : Int)], op_call20 (v0 := .int .u8 ((v.toNat : Nat) : Int)) rfl (hd 4 73 (by kernel_rfl)) rfl w', (full_walk v w').mono ?_⟩
          rintro e w'' ⟨rfl, hb⟩
          have hA := hC.pre (hn.after 6 (by kernel_rfl))
          exact ⟨_, (), rfl, fun _ _ _ h => h, Flow.two.put (by decide) (hn.after 6 (by kernel_rfl)) (hA.trans (hb.mono hA.size)), rfl⟩
        · refine Flow.call (Flow.goes_plain rfl) fun a L s0 w' hC hL hn hs hd => ⟨12, #[.pointer (some ⟨p, 0, none⟩), .int .i64 pl, secV (fullS v)], op_call12 (v0 := .pointer (some ⟨p, 0, none⟩)) (v1 := .int .i64 pl) (v2 := secV (fullS v)) rfl (hd 0 69 (by kernel_rfl)) (hd 2 71 (by kernel_rfl)) (hd 5 74 (by kernel_rfl)) rfl w', ?_⟩
          have hA := hC.pre hL
          refine (program_walk ((unhide HP1).dev.below hA) pl (fullS v) (fullS_len v) (unhide HWL).1).mono ?_
          rintro e w'' ⟨rfl, F2, hD2, hT2⟩
          have hp2 := ((unhide HP1).below hA).turnD hT2 hD2
          have ha2 := hT2.keepArr ((unhide HAA).below hA) (unhide HQ0).1
          exact ⟨_, (), rfl, fun _ _ _ h => h, Flow.two.post ⟨F2, hp2.1, (hA.mono (unhide HP1).size).trans hp2.2, ha2.1, (unhide HQ0).2.1⟩, rfl⟩
        · exact Flow.move (Flow.goes_plain rfl) (Flow.two.upd (by decide)) (.inr rfl) fun a s w' hs hd => (hd 6 75 (by kernel_rfl))
        · intro L _ w2 hC hL vals hv
          obtain ⟨F2, hP2, hb2, hA2, hG2⟩ := hC.end (hL 6 (by decide))
          have e7 : vals 7 = .int .i64 (programD d pl (fullS v)).1 := hv 7 _ 11 rfl rfl
          simp only [Free.putAll, Act.put, List.setIfInBounds_toArray, List.set_cons_succ, List.set_cons_zero, e7]
          have HP2 := hide hP2
          have Hb2 := hide ((unhide Hb1).trans hb2)
          clear hv hL hC e7 HP1 Hb1 HAA HA0
          have HAA := hide hA2
          clear hP2 hb2 hA2
          generalize vals 0 = a0 at *
          generalize vals 1 = a1 at *
          generalize vals 2 = a2 at *
          generalize vals 3 = a3 at *
          generalize vals 4 = a4 at *
          generalize vals 5 = a5 at *
          generalize vals 6 = a6 at *
          go_wp2_with fail
          obtain ⟨W0, hW0⟩ : ∃ W0, W0 = w2 := ⟨_, rfl⟩
          rw [← hW0] at HP2 Hb2 HAA ⊢
          clear hW0
          refine Flow.wp_region (Flow.VV (fun j => match j with | 0 => .pointer (some ⟨q, 0, none⟩) | 1 => .pointer (some ⟨sb, 1, none⟩) | 2 => .int .i64 pl | 3 => .pointer (some ⟨sb, 2, none⟩) | 4 => .int .u8 ((v.toNat : Nat) : Int) | 5 => secV (fullS v) | 6 => .int .i64 (programD d pl (fullS v)).1 | 7 => .int .i64 (programD d pl (fullS v)).1 | _ => undef)) (Flow.two 6 (fun _ w' => Below W0.heap.size W0 w') (fun _ w' => ∃ G2, Pair w.heap.size F2 G2 w' p q (programD d pl (fullS v)).2 (programR r pl (fullS v)).2 ∧ Below w.heap.size W0 w')) () (by kernel_rfl) (by kernel_rfl) (by unfold Flow.two; simp; exact (Below.refl _ W0).drew) ⟨?_, ?_, ?_, ?_, ?_, ?_, ?_, ?_, trivial⟩ ?_
          · exact Flow.move (Flow.goes_plain rfl) (Flow.two.upd (by decide)) (.inl rfl) fun a s w' hs hd => (hs 8 (by kernel_rfl))
          · refine Flow.pure (Flow.goes_plain rfl) (Flow.two.upd (by decide)) fun a L s w' hC hL hn hs hd => ?_
            skip
            exact ⟨_, op_f42_1 rfl (hs 10 (by kernel_rfl)) w', rfl⟩
          · refine Flow.pure (Flow.goes_plain rfl) (Flow.two.upd (by decide)) fun a L s w' hC hL hn hs hd => ?_
            have hA := hC.pre (hn.after 6 (by kernel_rfl))
            exact ⟨_, op_load3 rfl (hd 1 77 (by kernel_rfl)) ((hA.cell (p := ⟨sb, 1, none⟩) (unhide HAA).lt).trans ((unhide HAA).cell (i := 1) rfl)), rfl⟩
          · refine Flow.pure (Flow.goes_plain rfl) (Flow.two.upd (by decide)) fun a L s w' hC hL hn hs hd => ?_
            skip
            exact ⟨_, op_f42_2 rfl (hs 10 (by kernel_rfl)) w', rfl⟩
          · refine Flow.pure (Flow.goes_plain rfl) (Flow.two.upd (by decide)) fun a L s w' hC hL hn hs hd => ?_
            have hA := hC.pre (hn.after 6 (by kernel_rfl))
            exact ⟨_, op_load5 rfl (hd 3 79 (by kernel_rfl)) ((hA.cell (p := ⟨sb, 2, none⟩) (unhide HAA).lt).trans ((unhide HAA).cell (i := 2) rfl)), rfl⟩
          · refine Flow.call (Flow.goes_plain rfl) fun a L s0 w' hC hL hn hs hd => ⟨20, #[.int .u8 ((v.toNat : Nat) : Int)], op_call20 (v0 := .int .u8 ((v.toNat : Nat) : Int)) rfl (hd 4 80 (by kernel_rfl)) rfl w', (full_walk v w').mono ?_⟩
            rintro e w'' ⟨rfl, hb⟩
            have hA := hC.pre (hn.after 6 (by kernel_rfl))
            exact ⟨_, (), rfl, fun _ _ _ h => h, Flow.two.put (by decide) (hn.after 6 (by kernel_rfl)) (hA.trans (hb.mono hA.size)), rfl⟩
          · refine Flow.call (Flow.goes_plain rfl) fun a L s0 w' hC hL hn hs hd => ⟨21, #[.pointer (some ⟨q, 0, none⟩), .int .i64 pl, secV (fullS v)], op_call21 (v0 := .pointer (some ⟨q, 0, none⟩)) (v1 := .int .i64 pl) (v2 := secV (fullS v)) rfl (hd 0 76 (by kernel_rfl)) (hd 2 78 (by kernel_rfl)) (hd 5 81 (by kernel_rfl)) rfl w', ?_⟩
            have hA := hC.pre hL
            refine (rprogram_walk ((unhide HP2).ref.below hA) pl (fullS v) (fullS_len v) (unhide HWL).2).mono ?_
            rw [← HSIM.1]
            rintro e w'' ⟨rfl, G2, hD2, hT2⟩
            have hp2 := ((unhide HP2).below hA).turnR hT2 hD2
            exact ⟨_, (), rfl, fun _ _ _ h => h, Flow.two.post ⟨G2, hp2.1, (hA.mono (unhide HP2).size).trans hp2.2⟩, rfl⟩
          · exact Flow.move (Flow.goes_plain rfl) (Flow.two.upd (by decide)) (.inr rfl) fun a s w' hs hd => (hd 6 82 (by kernel_rfl))
          · intro L _ w3 hC hL vals hv
            obtain ⟨G3, hP3, hb3⟩ := hC.end (hL 6 (by decide))
            have e7 : vals 7 = .int .i64 (programD d pl (fullS v)).1 := hv 7 _ 12 rfl rfl
            simp only [Free.putAll, Act.put, List.setIfInBounds_toArray, List.set_cons_succ, List.set_cons_zero, e7]
            have HP3 := hide hP3
            have Hb3 := hide ((unhide Hb2).trans hb3)
            have HS3 := hide HSIM.2
            have HW3 : Hid ((programD d pl (fullS v)).2.wait.length ≤ j + 1) := hide (Nat.le_trans (program_wait d pl (fullS v)) (Nat.succ_le_succ (unhide HWT)))
            clear hP3 hb3 hv hL hC e7 HP2 Hb2 HAA HSIM HS HWT HOK HWL HQ0
            generalize (programD d pl (fullS v)).1 = E at *
            generalize (programD d pl (fullS v)).2 = d3 at *
            generalize (programR r pl (fullS v)).2 = r3 at *
            generalize vals 0 = b0 at *
            generalize vals 1 = b1 at *
            generalize vals 2 = b2 at *
            generalize vals 3 = b3 at *
            generalize vals 4 = b4 at *
            generalize vals 5 = b5 at *
            generalize vals 6 = b6 at *
            obtain ⟨F3, hF3⟩ : ∃ F3, F3 = F2 := ⟨_, rfl⟩
            rw [← hF3] at HP3
            clear hF3
            go_wp2_with fail
            obtain ⟨bk, bw, wv, hG9, hRB⟩ := (unhide HP3).ref
            obtain ⟨ad, cp, hwv, _, _⟩ := owns_slice hRB.done
            subst hwv
            have hcq6 := hRB.dev.cell (i := 6) rfl
            have hcq3 := hRB.dev.cell (i := 3) rfl
            have hcq0 := hRB.dev.cell (i := 0) rfl
            clear hG9 hRB
            refine Flow.wp_region (Flow.VV (fun j => match j with | 0 => .int .i64 E | 1 => .int .i64 E | 2 => .bool false | 3 => .bool false | 4 => .pointer (some ⟨p, 0, none⟩) | 5 => .bool d3.down | 6 => .pointer (some ⟨q, 0, none⟩) | 7 => .pointer (some ⟨q, 0, none⟩) | 8 => .pointer (some ⟨q, 6, none⟩) | 9 => .bool r3.down | 10 => .bool false | 11 => .bool false | 12 => .bool false | 13 => .pointer (some ⟨p, 0, none⟩) | 14 => .int .i64 (d3.wait.length : Int) | 15 => .pointer (some ⟨q, 0, none⟩) | 16 => .pointer (some ⟨q, 0, none⟩) | 17 => .pointer (some ⟨q, 3, none⟩) | 18 => .slice ad r3.done.length cp | 19 => .int .i64 (r3.done.length : Int) | 20 => .bool false | 21 => .bool false | 22 => .bool false | 23 => .pointer (some ⟨p, 0, none⟩) | 24 => .int .i64 (d3.kept.length : Int) | 25 => .pointer (some ⟨q, 0, none⟩) | 26 => .pointer (some ⟨q, 0, none⟩) | 27 => .pointer (some ⟨q, 0, none⟩) | 28 => .slice (some ⟨bk, 0, none⟩) r3.kept.length r3.kept.length | 29 => .int .i64 (r3.kept.length : Int) | 30 => .bool false | 31 => .bool false | _ => undef)) (fun _ (_ : Unit) w' => w' = w3.drew) () (by kernel_rfl) (by kernel_rfl) rfl ⟨?_, ?_, ?_, ?_, ?_, ?_, ?_, ?_, ?_, ?_, ?_, ?_, ?_, ?_, ?_, ?_, ?_, ?_, ?_, ?_, ?_, ?_, ?_, ?_, ?_, ?_, ?_, ?_, ?_, ?_, ?_, ?_, trivial⟩ ?_
            · exact Flow.move (Flow.goes_plain rfl) (fun _ _ _ h => h) (.inl rfl) fun a s w' hs hd => (hs 11 (by kernel_rfl))
            · exact Flow.move (Flow.goes_plain rfl) (fun _ _ _ h => h) (.inl rfl) fun a s w' hs hd => (hs 12 (by kernel_rfl))
            · refine Flow.pure (Flow.goes_plain rfl) (fun _ _ _ h => h) fun a L s w' hC hL hn hs hd => ?_
              skip
              exact ⟨_, op_neq3 rfl (hd 0 123 (by kernel_rfl)) (hd 1 124 (by kernel_rfl)) (by simp) w', rfl⟩
            · exact Flow.move (Flow.goes_plain rfl) (fun _ _ _ h => h) (.inl rfl) fun a s w' hs hd => (hd 2 125 (by kernel_rfl))
            · exact Flow.move (Flow.goes_guard false rfl rfl rfl (by kernel_rfl) (fun _ _ _ h => h)) (fun _ _ _ h => h) (.inl rfl) fun a s w' hs hd => (hs 7 (by kernel_rfl))
            · refine Flow.call (Flow.goes_guard false rfl rfl rfl (by kernel_rfl) (fun _ _ _ h => h)) fun a L s0 w' hC hL hn hs hd => ⟨13, #[.pointer (some ⟨p, 0, none⟩)], op_call13 (v0 := .pointer (some ⟨p, 0, none⟩)) rfl (hd 4 127 (by kernel_rfl)) rfl w', ?_⟩
              subst hC
              refine (down_walk (unhide HP3).dev.drew).mono ?_
              rintro e w'' ⟨rfl, hw''⟩
              subst w''
              exact ⟨_, (), rfl, fun _ _ _ h => h, rfl, rfl⟩
            · exact Flow.move (Flow.goes_guard false rfl rfl rfl (by kernel_rfl) (fun _ _ _ h => h)) (fun _ _ _ h => h) (.inl rfl) fun a s w' hs hd => (hs 8 (by kernel_rfl))
            · refine Flow.pure (Flow.goes_guard false rfl rfl rfl (by kernel_rfl) (fun _ _ _ h => h)) (fun _ _ _ h => h) fun a L s w' hC hL hn hs hd => ?_
              skip
              exact ⟨_, op_nil rfl (hd 6 129 (by kernel_rfl)) w', rfl⟩
            · refine Flow.pure (Flow.goes_guard false rfl rfl rfl (by kernel_rfl) (fun _ _ _ h => h)) (fun _ _ _ h => h) fun a L s w' hC hL hn hs hd => ?_
              skip
              exact ⟨_, op_f56_6 rfl (hd 7 130 (by kernel_rfl)) w', rfl⟩
            · refine Flow.pure (Flow.goes_guard false rfl rfl rfl (by kernel_rfl) (fun _ _ _ h => h)) (fun _ _ _ h => h) fun a L s w' hC hL hn hs hd => ?_
              skip
              exact ⟨_, op_load4 rfl (hd 8 131 (by kernel_rfl)) (by rw [hC]; exact hcq6), rfl⟩
            · refine Flow.pure (Flow.goes_guard false rfl rfl rfl (by kernel_rfl) (fun _ _ _ h => h)) (fun _ _ _ h => h) fun a L s w' hC hL hn hs hd => ?_
              skip
              exact ⟨_, op_neq4 rfl (hd 5 128 (by kernel_rfl)) (hd 9 132 (by kernel_rfl)) (by rw [(unhide HS3).down]; simp) w', rfl⟩
            · refine Flow.pure (Flow.goes_plain rfl) (fun _ _ _ h => h) fun a L s w' hC hL hn hs hd => ?_
              skip
              exact ⟨_, op_pickF rfl (hd 3 126 (by kernel_rfl)) (hd 10 133 (by kernel_rfl)) w', rfl⟩
            · exact Flow.move (Flow.goes_plain rfl) (fun _ _ _ h => h) (.inl rfl) fun a s w' hs hd => (hd 11 134 (by kernel_rfl))
            · exact Flow.move (Flow.goes_guard false rfl rfl rfl (by kernel_rfl) (fun _ _ _ h => h)) (fun _ _ _ h => h) (.inl rfl) fun a s w' hs hd => (hs 7 (by kernel_rfl))
            · refine Flow.call (Flow.goes_guard false rfl rfl rfl (by kernel_rfl) (fun _ _ _ h => h)) fun a L s0 w' hC hL hn hs hd => ⟨28, #[.pointer (some ⟨p, 0, none⟩)], op_call28 (v0 := .pointer (some ⟨p, 0, none⟩)) rfl (hd 13 136 (by kernel_rfl)) rfl w', ?_⟩
              subst hC
              refine (waiting_walk (unhide HP3).dev.drew).mono ?_
              rintro e w'' ⟨rfl, hw''⟩
              subst w''
              exact ⟨_, (), rfl, fun _ _ _ h => h, rfl, rfl⟩
            · exact Flow.move (Flow.goes_guard false rfl rfl rfl (by kernel_rfl) (fun _ _ _ h => h)) (fun _ _ _ h => h) (.inl rfl) fun a s w' hs hd => (hs 8 (by kernel_rfl))
            · refine Flow.pure (Flow.goes_guard false rfl rfl rfl (by kernel_rfl) (fun _ _ _ h => h)) (fun _ _ _ h => h) fun a L s w' hC hL hn hs hd => ?_
              skip
              exact ⟨_, op_nil rfl (hd 15 138 (by kernel_rfl)) w', rfl⟩
            · refine Flow.pure (Flow.goes_guard false rfl rfl rfl (by kernel_rfl) (fun _ _ _ h => h)) (fun _ _ _ h => h) fun a L s w' hC hL hn hs hd => ?_
              skip
              exact ⟨_, op_f56_3 rfl (hd 16 139 (by kernel_rfl)) w', rfl⟩
            · refine Flow.pure (Flow.goes_guard false rfl rfl rfl (by kernel_rfl) (fun _ _ _ h => h)) (fun _ _ _ h => h) fun a L s w' hC hL hn hs hd => ?_
              skip
              exact ⟨_, op_load54 rfl (hd 17 140 (by kernel_rfl)) (by rw [hC]; exact hcq3), rfl⟩
            · refine Flow.pure (Flow.goes_guard false rfl rfl rfl (by kernel_rfl) (fun _ _ _ h => h)) (fun _ _ _ h => h) fun a L s w' hC hL hn hs hd => ?_
              skip
              exact ⟨_, op_len54 rfl (hd 18 141 (by kernel_rfl))  w', rfl⟩
            · refine Flow.pure (Flow.goes_guard false rfl rfl rfl (by kernel_rfl) (fun _ _ _ h => h)) (fun _ _ _ h => h) fun a L s w' hC hL hn hs hd => ?_
              skip
              exact ⟨_, op_neq3 rfl (hd 14 137 (by kernel_rfl)) (hd 19 142 (by kernel_rfl)) (by rw [(unhide HS3).wait]; simp) w', rfl⟩
            · refine Flow.pure (Flow.goes_plain rfl) (fun _ _ _ h => h) fun a L s w' hC hL hn hs hd => ?_
              skip
              exact ⟨_, op_pickF rfl (hd 12 135 (by kernel_rfl)) (hd 20 143 (by kernel_rfl)) w', rfl⟩
            · exact Flow.move (Flow.goes_plain rfl) (fun _ _ _ h => h) (.inl rfl) fun a s w' hs hd => (hd 21 144 (by kernel_rfl))
            · exact Flow.move (Flow.goes_guard false rfl rfl rfl (by kernel_rfl) (fun _ _ _ h => h)) (fun _ _ _ h => h) (.inl rfl) fun a s w' hs hd => (hs 7 (by kernel_rfl))
            · refine Flow.call (Flow.goes_guard false rfl rfl rfl (by kernel_rfl) (fun _ _ _ h => h)) fun a L s0 w' hC hL hn hs hd => ⟨18, #[.pointer (some ⟨p, 0, none⟩)], op_call18 (v0 := .pointer (some ⟨p, 0, none⟩)) rfl (hd 23 146 (by kernel_rfl)) rfl w', ?_⟩
              subst hC
              refine (size_walk (unhide HP3).dev.drew).mono ?_
              rintro e w'' ⟨rfl, hw''⟩
              subst w''
              exact ⟨_, (), rfl, fun _ _ _ h => h, rfl, rfl⟩
            · exact Flow.move (Flow.goes_guard false rfl rfl rfl (by kernel_rfl) (fun _ _ _ h => h)) (fun _ _ _ h => h) (.inl rfl) fun a s w' hs hd => (hs 8 (by kernel_rfl))
            · refine Flow.pure (Flow.goes_guard false rfl rfl rfl (by kernel_rfl) (fun _ _ _ h => h)) (fun _ _ _ h => h) fun a L s w' hC hL hn hs hd => ?_
              skip
              exact ⟨_, op_nil rfl (hd 25 148 (by kernel_rfl)) w', rfl⟩
            · refine Flow.pure (Flow.goes_guard false rfl rfl rfl (by kernel_rfl) (fun _ _ _ h => h)) (fun _ _ _ h => h) fun a L s w' hC hL hn hs hd => ?_
              skip
              exact ⟨_, op_f56_0 rfl (hd 26 149 (by kernel_rfl)) w', rfl⟩
            · refine Flow.pure (Flow.goes_guard false rfl rfl rfl (by kernel_rfl) (fun _ _ _ h => h)) (fun _ _ _ h => h) fun a L s w' hC hL hn hs hd => ?_
              skip
              exact ⟨_, op_load52 rfl (hd 27 150 (by kernel_rfl)) (by rw [hC]; exact hcq0), rfl⟩
            · refine Flow.pure (Flow.goes_guard false rfl rfl rfl (by kernel_rfl) (fun _ _ _ h => h)) (fun _ _ _ h => h) fun a L s w' hC hL hn hs hd => ?_
              skip
              exact ⟨_, op_len52 rfl (hd 28 151 (by kernel_rfl))  w', rfl⟩
            · refine Flow.pure (Flow.goes_guard false rfl rfl rfl (by kernel_rfl) (fun _ _ _ h => h)) (fun _ _ _ h => h) fun a L s w' hC hL hn hs hd => ?_
              skip
              exact ⟨_, op_neq3 rfl (hd 24 147 (by kernel_rfl)) (hd 29 152 (by kernel_rfl)) (by rw [(unhide HS3).kept]; simp) w', rfl⟩
            · refine Flow.pure (Flow.goes_plain rfl) (fun _ _ _ h => h) fun a L s w' hC hL hn hs hd => ?_
              skip
              exact ⟨_, op_pickF rfl (hd 22 145 (by kernel_rfl)) (hd 30 153 (by kernel_rfl)) w', rfl⟩
            · intro L _ w4 hC hL vals hv
              have e31 : vals 31 = .bool false := hv 31 _ 154 rfl rfl
              simp only [Free.putAll, Act.put, List.setIfInBounds_toArray, List.set_cons_succ, List.set_cons_zero, e31]
              have HP4 : Hid (Pair w.heap.size F3 G3 w4 p q d3 r3) := hide (by rw [hC]; exact (unhide HP3).below (Below.refl _ w3).drew)
              have Hb4 : Hid (Below w.heap.size w w4) := hide (by rw [hC]; exact (unhide Hb3).drew)
              clear hv hL e31 hC HP3 Hb3 hcq6 hcq3 hcq0
              generalize vals 0 = y0 at *
              generalize vals 1 = y1 at *
              generalize vals 2 = y2 at *
              generalize vals 3 = y3 at *
              generalize vals 4 = y4 at *
              generalize vals 5 = y5 at *
              generalize vals 6 = y6 at *
              generalize vals 7 = y7 at *
              generalize vals 8 = y8 at *
              generalize vals 9 = y9 at *
              generalize vals 10 = y10 at *
              generalize vals 11 = y11 at *
              generalize vals 12 = y12 at *
              generalize vals 13 = y13 at *
              generalize vals 14 = y14 at *
              generalize vals 15 = y15 at *
              generalize vals 16 = y16 at *
              generalize vals 17 = y17 at *
              generalize vals 18 = y18 at *
              generalize vals 19 = y19 at *
              generalize vals 20 = y20 at *
              generalize vals 21 = y21 at *
              generalize vals 22 = y22 at *
              generalize vals 23 = y23 at *
              generalize vals 24 = y24 at *
              generalize vals 25 = y25 at *
              generalize vals 26 = y26 at *
              generalize vals 27 = y27 at *
              generalize vals 28 = y28 at *
              generalize vals 29 = y29 at *
              generalize vals 30 = y30 at *
              go_wp2_with fail
              go_roundw
              case rel => exact ⟨j + 1, F3, G3, d3, r3, by omega, by go_num, unhide HP4, unhide HS3, unhide HW3, unhide Hb4⟩
              case measure => simp [intOf]; omega
      · go_wp2_with fail
        have HP1 := hide (unhide HP0 #[.int .i64 1, .int .i64 pl, .int .u8 ((v.toNat : Nat) : Int), .slice ka kl kc])
        have Hb1 := hide (unhide Hb0 #[.int .i64 1, .int .i64 pl, .int .u8 ((v.toNat : Nat) : Int), .slice ka kl kc])
        have HK1 := hide (unhide HKK #[.int .i64 1, .int .i64 pl, .int .u8 ((v.toNat : Nat) : Int), .slice ka kl kc])
        have HOK := hide (unhide HP1).dev.ok
        clear HP0 Hb0 HKK c0 c1 c2 c3 HACT
        rw [← hsb] at HA0 HQ0 ⊢
        generalize wr.alloc (.cells #[.int .i64 1, .int .i64 pl, .int .u8 ((v.toNat : Nat) : Int), .slice ka kl kc] 42) = w1 at *
        clear hsb
        refine (erase_walk (unhide HP1).dev pl (unhide HWL).1).mono ?_
        rintro e w2 ⟨rfl, F3, hD2, hT2⟩
        have hp2 := (unhide HP1).turnD hT2 hD2
        have ha2 := hT2.keepArr (unhide HA0) (unhide HQ0).1
        have HP2 := hide hp2.1
        have Hb2 := hide ((unhide Hb1).trans hp2.2)
        have hca1 := ha2.1.cell (i := 1) rfl
        have hca3 := ha2.1.cell (i := 3) rfl
        have HKN := hide hp2.2
        clear hD2 hT2 hp2 ha2 HP1 Hb1
        go_wp2_with fail
        have HSIM := (unhide HS).erase (unhide HOK) pl
        refine (rerase_walk (unhide HP2).ref pl (unhide HWL).2).mono ?_
        rw [← HSIM.1]
        rintro e w3 ⟨rfl, G3, hR3, hT3⟩
        have hp3 := (unhide HP2).turnR hT3 hR3
        have HP3 := hide hp3.1
        have Hb3 := hide ((unhide Hb2).trans hp3.2)
        have HS3 := hide HSIM.2
        have HW3 : Hid ((eraseD d pl).2.wait.length ≤ j + 1) := hide (Nat.le_trans (erase_wait d pl) (Nat.succ_le_succ (unhide HWT)))
        clear hR3 hT3 hp3 HP2 Hb2 hca1 hca3 HSIM
        generalize (eraseD d pl).1 = E at *
        generalize (eraseD d pl).2 = d3 at *
        generalize (eraseR r pl).2 = r3 at *
        clear HS HWT HOK HWL HA0 HQ0 HK1 HKN
        go_wp2_with fail
        obtain ⟨bk, bw, wv, hG9, hRB⟩ := (unhide HP3).ref
        obtain ⟨ad, cp, hwv, _, _⟩ := owns_slice hRB.done
        subst hwv
        have hcq6 := hRB.dev.cell (i := 6) rfl
        have hcq3 := hRB.dev.cell (i := 3) rfl
        have hcq0 := hRB.dev.cell (i := 0) rfl
        clear hG9 hRB
        refine Flow.wp_region (Flow.VV (fun j => match j with | 0 => .int .i64 E | 1 => .int .i64 E | 2 => .bool false | 3 => .bool false | 4 => .pointer (some ⟨p, 0, none⟩) | 5 => .bool d3.down | 6 => .pointer (some ⟨q, 0, none⟩) | 7 => .pointer (some ⟨q, 0, none⟩) | 8 => .pointer (some ⟨q, 6, none⟩) | 9 => .bool r3.down | 10 => .bool false | 11 => .bool false | 12 => .bool false | 13 => .pointer (some ⟨p, 0, none⟩) | 14 => .int .i64 (d3.wait.length : Int) | 15 => .pointer (some ⟨q, 0, none⟩) | 16 => .pointer (some ⟨q, 0, none⟩) | 17 => .pointer (some ⟨q, 3, none⟩) | 18 => .slice ad r3.done.length cp | 19 => .int .i64 (r3.done.length : Int) | 20 => .bool false | 21 => .bool false | 22 => .bool false | 23 => .pointer (some ⟨p, 0, none⟩) | 24 => .int .i64 (d3.kept.length : Int) | 25 => .pointer (some ⟨q, 0, none⟩) | 26 => .pointer (some ⟨q, 0, none⟩) | 27 => .pointer (some ⟨q, 0, none⟩) | 28 => .slice (some ⟨bk, 0, none⟩) r3.kept.length r3.kept.length | 29 => .int .i64 (r3.kept.length : Int) | 30 => .bool false | 31 => .bool false | _ => undef)) (fun _ (_ : Unit) w' => w' = w3.drew) () (by kernel_rfl) (by kernel_rfl) rfl ⟨?_, ?_, ?_, ?_, ?_, ?_, ?_, ?_, ?_, ?_, ?_, ?_, ?_, ?_, ?_, ?_, ?_, ?_, ?_, ?_, ?_, ?_, ?_, ?_, ?_, ?_, ?_, ?_, ?_, ?_, ?_, ?_, trivial⟩ ?_
        · exact Flow.move (Flow.goes_plain rfl) (fun _ _ _ h => h) (.inl rfl) fun a s w' hs hd => (hs 11 (by kernel_rfl))
        · exact Flow.move (Flow.goes_plain rfl) (fun _ _ _ h => h) (.inl rfl) fun a s w' hs hd => (hs 12 (by kernel_rfl))
        · refine Flow.pure (Flow.goes_plain rfl) (fun _ _ _ h => h) fun a L s w' hC hL hn hs hd => ?_
          skip
          exact ⟨_, op_neq3 rfl (hd 0 123 (by kernel_rfl)) (hd 1 124 (by kernel_rfl)) (by simp) w', rfl⟩
        · exact Flow.move (Flow.goes_plain rfl) (fun _ _ _ h => h) (.inl rfl) fun a s w' hs hd => (hd 2 125 (by kernel_rfl))
        · exact Flow.move (Flow.goes_guard false rfl rfl rfl (by kernel_rfl) (fun _ _ _ h => h)) (fun _ _ _ h => h) (.inl rfl) fun a s w' hs hd => (hs 7 (by kernel_rfl))
        · refine Flow.call (Flow.goes_guard false rfl rfl rfl (by kernel_rfl) (fun _ _ _ h => h)) fun a L s0 w' hC hL hn hs hd => ⟨13, #[.pointer (some ⟨p, 0, none⟩)], op_call13 (v0 := .pointer (some ⟨p, 0, none⟩)) rfl (hd 4 127 (by kernel_rfl)) rfl w', ?_⟩
          subst hC
          refine (down_walk (unhide HP3).dev.drew).mono ?_
          rintro e w'' ⟨rfl, hw''⟩
          subst w''
          exact ⟨_, (), rfl, fun _ _ _ h => h, rfl, rfl⟩
        · exact Flow.move (Flow.goes_guard false rfl rfl rfl (by kernel_rfl) (fun _ _ _ h => h)) (fun _ _ _ h => h) (.inl rfl) fun a s w' hs hd => (hs 8 (by kernel_rfl))
        · refine Flow.pure (Flow.goes_guard false rfl rfl rfl (by kernel_rfl) (fun _ _ _ h => h)) (fun _ _ _ h => h) fun a L s w' hC hL hn hs hd => ?_
          skip
          exact ⟨_, op_nil rfl (hd 6 129 (by kernel_rfl)) w', rfl⟩
        · refine Flow.pure (Flow.goes_guard false rfl rfl rfl (by kernel_rfl) (fun _ _ _ h => h)) (fun _ _ _ h => h) fun a L s w' hC hL hn hs hd => ?_
          skip
          exact ⟨_, op_f56_6 rfl (hd 7 130 (by kernel_rfl)) w', rfl⟩
        · refine Flow.pure (Flow.goes_guard false rfl rfl rfl (by kernel_rfl) (fun _ _ _ h => h)) (fun _ _ _ h => h) fun a L s w' hC hL hn hs hd => ?_
          skip
          exact ⟨_, op_load4 rfl (hd 8 131 (by kernel_rfl)) (by rw [hC]; exact hcq6), rfl⟩
        · refine Flow.pure (Flow.goes_guard false rfl rfl rfl (by kernel_rfl) (fun _ _ _ h => h)) (fun _ _ _ h => h) fun a L s w' hC hL hn hs hd => ?_
          skip
          exact ⟨_, op_neq4 rfl (hd 5 128 (by kernel_rfl)) (hd 9 132 (by kernel_rfl)) (by rw [(unhide HS3).down]; simp) w', rfl⟩
        · refine Flow.pure (Flow.goes_plain rfl) (fun _ _ _ h => h) fun a L s w' hC hL hn hs hd => ?_
          skip
          exact ⟨_, op_pickF rfl (hd 3 126 (by kernel_rfl)) (hd 10 133 (by kernel_rfl)) w', rfl⟩
        · exact Flow.move (Flow.goes_plain rfl) (fun _ _ _ h => h) (.inl rfl) fun a s w' hs hd => (hd 11 134 (by kernel_rfl))
        · exact Flow.move (Flow.goes_guard false rfl rfl rfl (by kernel_rfl) (fun _ _ _ h => h)) (fun _ _ _ h => h) (.inl rfl) fun a s w' hs hd => (hs 7 (by kernel_rfl))
        · refine Flow.call (Flow.goes_guard false rfl rfl rfl (by kernel_rfl) (fun _ _ _ h => h)) fun a L s0 w' hC hL hn hs hd => ⟨28, #[.pointer (some ⟨p, 0, none⟩)], op_call28 (v0 := .pointer (some ⟨p, 0, none⟩)) rfl (hd 13 136 (by kernel_rfl)) rfl w', ?_⟩
          subst hC
          refine (waiting_walk (unhide HP3).dev.drew).mono ?_
          rintro e w'' ⟨rfl, hw''⟩
          subst w''
          exact ⟨_, (), rfl, fun _ _ _ h => h, rfl, rfl⟩
        · exact Flow.move (Flow.goes_guard false rfl rfl rfl (by kernel_rfl) (fun _ _ _ h => h)) (fun _ _ _ h => h) (.inl rfl) fun a s w' hs hd => (hs 8 (by kernel_rfl))
        · refine Flow.pure (Flow.goes_guard false rfl rfl rfl (by kernel_rfl) (fun _ _ _ h => h)) (fun _ _ _ h => h) fun a L s w' hC hL hn hs hd => ?_
          skip
          exact ⟨_, op_nil rfl (hd 15 138 (by kernel_rfl)) w', rfl⟩
        · refine Flow.pure (Flow.goes_guard false rfl rfl rfl (by kernel_rfl) (fun _ _ _ h => h)) (fun _ _ _ h => h) fun a L s w' hC hL hn hs hd => ?_
          skip
          exact ⟨_, op_f56_3 rfl (hd 16 139 (by kernel_rfl)) w', rfl⟩
        · refine Flow.pure (Flow.goes_guard false rfl rfl rfl (by kernel_rfl) (fun _ _ _ h => h)) (fun _ _ _ h => h) fun a L s w' hC hL hn hs hd => ?_
          skip
          exact ⟨_, op_load54 rfl (hd 17 140 (by kernel_rfl)) (by rw [hC]; exact hcq3), rfl⟩
        · refine Flow.pure (Flow.goes_guard false rfl rfl rfl (by kernel_rfl) (fun _ _ _ h => h)) (fun _ _ _ h => h) fun a L s w' hC hL hn hs hd => ?_
          skip
          exact ⟨_, op_len54 rfl (hd 18 141 (by kernel_rfl))  w', rfl⟩
        · refine Flow.pure (Flow.goes_guard false rfl rfl rfl (by kernel_rfl) (fun _ _ _ h => h)) (fun _ _ _ h => h) fun a L s w' hC hL hn hs hd => ?_
          skip
          exact ⟨_, op_neq3 rfl (hd 14 137 (by kernel_rfl)) (hd 19 142 (by kernel_rfl)) (by rw [(unhide HS3).wait]; simp) w', rfl⟩
        · refine Flow.pure (Flow.goes_plain rfl) (fun _ _ _ h => h) fun a L s w' hC hL hn hs hd => ?_
          skip
          exact ⟨_, op_pickF rfl (hd 12 135 (by kernel_rfl)) (hd 20 143 (by kernel_rfl)) w', rfl⟩
        · exact Flow.move (Flow.goes_plain rfl) (fun _ _ _ h => h) (.inl rfl) fun a s w' hs hd => (hd 21 144 (by kernel_rfl))
        · exact Flow.move (Flow.goes_guard false rfl rfl rfl (by kernel_rfl) (fun _ _ _ h => h)) (fun _ _ _ h => h) (.inl rfl) fun a s w' hs hd => (hs 7 (by kernel_rfl))
        · refine Flow.call (Flow.goes_guard false rfl rfl rfl (by kernel_rfl) (fun _ _ _ h => h)) fun a L s0 w' hC hL hn hs hd => ⟨18, #[.pointer (some ⟨p, 0, none⟩)], op_call18 (v0 := .pointer (some ⟨p, 0, none⟩)) rfl (hd 23 146 (by kernel_rfl)) rfl w', ?_⟩
          subst hC
          refine (size_walk (unhide HP3).dev.drew).mono ?_
          rintro e w'' ⟨rfl, hw''⟩
          subst w''
          exact ⟨_, (), rfl, fun _ _ _ h => h, rfl, rfl⟩
        · exact Flow.move (Flow.goes_guard false rfl rfl rfl (by kernel_rfl) (fun _ _ _ h => h)) (fun _ _ _ h => h) (.inl rfl) fun a s w' hs hd => (hs 8 (by kernel_rfl))
        · refine Flow.pure (Flow.goes_guard false rfl rfl rfl (by kernel_rfl) (fun _ _ _ h => h)) (fun _ _ _ h => h) fun a L s w' hC hL hn hs hd => ?_
          skip
          exact ⟨_, op_nil rfl (hd 25 148 (by kernel_rfl)) w', rfl⟩
        · refine Flow.pure (Flow.goes_guard false rfl rfl rfl (by kernel_rfl) (fun _ _ _ h => h)) (fun _ _ _ h => h) fun a L s w' hC hL hn hs hd => ?_
          skip
          exact ⟨_, op_f56_0 rfl (hd 26 149 (by kernel_rfl)) w', rfl⟩
        · refine Flow.pure (Flow.goes_guard false rfl rfl rfl (by kernel_rfl) (fun _ _ _ h => h)) (fun _ _ _ h => h) fun a L s w' hC hL hn hs hd => ?_
          skip
          exact ⟨_, op_load52 rfl (hd 27 150 (by kernel_rfl)) (by rw [hC]; exact hcq0), rfl⟩
        · refine Flow.pure (Flow.goes_guard false rfl rfl rfl (by kernel_rfl) (fun _ _ _ h => h)) (fun _ _ _ h => h) fun a L s w' hC hL hn hs hd => ?_
          skip
          exact ⟨_, op_len52 rfl (hd 28 151 (by kernel_rfl))  w', rfl⟩
        · refine Flow.pure (Flow.goes_guard false rfl rfl rfl (by kernel_rfl) (fun _ _ _ h => h)) (fun _ _ _ h => h) fun a L s w' hC hL hn hs hd => ?_
          skip
          exact ⟨_, op_neq3 rfl (hd 24 147 (by kernel_rfl)) (hd 29 152 (by kernel_rfl)) (by rw [(unhide HS3).kept]; simp) w', rfl⟩
        · refine Flow.pure (Flow.goes_plain rfl) (fun _ _ _ h => h) fun a L s w' hC hL hn hs hd => ?_
          skip
          exact ⟨_, op_pickF rfl (hd 22 145 (by kernel_rfl)) (hd 30 153 (by kernel_rfl)) w', rfl⟩
        · intro L _ w4 hC hL vals hv
          have e31 : vals 31 = .bool false := hv 31 _ 154 rfl rfl
          simp only [Free.putAll, Act.put, List.setIfInBounds_toArray, List.set_cons_succ, List.set_cons_zero, e31]
          have HP4 : Hid (Pair w.heap.size F3 G3 w4 p q d3 r3) := hide (by rw [hC]; exact (unhide HP3).below (Below.refl _ w3).drew)
          have Hb4 : Hid (Below w.heap.size w w4) := hide (by rw [hC]; exact (unhide Hb3).drew)
          clear hv hL e31 hC HP3 Hb3 hcq6 hcq3 hcq0
          generalize vals 0 = y0 at *
          generalize vals 1 = y1 at *
          generalize vals 2 = y2 at *
          generalize vals 3 = y3 at *
          generalize vals 4 = y4 at *
          generalize vals 5 = y5 at *
          generalize vals 6 = y6 at *
          generalize vals 7 = y7 at *
          generalize vals 8 = y8 at *
          generalize vals 9 = y9 at *
          generalize vals 10 = y10 at *
          generalize vals 11 = y11 at *
          generalize vals 12 = y12 at *
          generalize vals 13 = y13 at *
          generalize vals 14 = y14 at *
          generalize vals 15 = y15 at *
          generalize vals 16 = y16 at *
          generalize vals 17 = y17 at *
          generalize vals 18 = y18 at *
          generalize vals 19 = y19 at *
          generalize vals 20 = y20 at *
          generalize vals 21 = y21 at *
          generalize vals 22 = y22 at *
          generalize vals 23 = y23 at *
          generalize vals 24 = y24 at *
          generalize vals 25 = y25 at *
          generalize vals 26 = y26 at *
          generalize vals 27 = y27 at *
          generalize vals 28 = y28 at *
          generalize vals 29 = y29 at *
          generalize vals 30 = y30 at *
          go_wp2_with fail
          go_roundw
          case rel => exact ⟨j + 1, F3, G3, d3, r3, by omega, by go_num, unhide HP4, unhide HS3, unhide HW3, unhide Hb4⟩
          case measure => simp [intOf]; omega
      · go_wp2_with fail
        have HP1 := hide (unhide HP0 #[.int .i64 2, .int .i64 pl, .int .u8 ((v.toNat : Nat) : Int), .slice ka kl kc])
        have Hb1 := hide (unhide Hb0 #[.int .i64 2, .int .i64 pl, .int .u8 ((v.toNat : Nat) : Int), .slice ka kl kc])
        have HK1 := hide (unhide HKK #[.int .i64 2, .int .i64 pl, .int .u8 ((v.toNat : Nat) : Int), .slice ka kl kc])
        have HOK := hide (unhide HP1).dev.ok
        clear HP0 Hb0 HKK c0 c1 c2 c3 HACT
        rw [← hsb] at HA0 HQ0 ⊢
        generalize wr.alloc (.cells #[.int .i64 2, .int .i64 pl, .int .u8 ((v.toNat : Nat) : Int), .slice ka kl kc] 42) = w1 at *
        clear hsb
        refine (sync_walk (unhide HP1).dev (unhide HWL).1).mono ?_
        rintro e w2 ⟨rfl, F3, hD2, hT2⟩
        have hp2 := (unhide HP1).turnD hT2 hD2
        have ha2 := hT2.keepArr (unhide HA0) (unhide HQ0).1
        have HP2 := hide hp2.1
        have Hb2 := hide ((unhide Hb1).trans hp2.2)
        have hca1 := ha2.1.cell (i := 1) rfl
        have hca3 := ha2.1.cell (i := 3) rfl
        have HKN := hide hp2.2
        clear hD2 hT2 hp2 ha2 HP1 Hb1
        go_wp2_with fail
        have HSIM := (unhide HS).sync
        refine (rsync_walk (unhide HP2).ref (unhide HWL).2).mono ?_
        rw [← HSIM.1]
        rintro e w3 ⟨rfl, G3, hR3, hT3⟩
        have hp3 := (unhide HP2).turnR hT3 hR3
        have HP3 := hide hp3.1
        have Hb3 := hide ((unhide Hb2).trans hp3.2)
        have HS3 := hide HSIM.2
        have HW3 : Hid ((syncD d).2.wait.length ≤ j + 1) := hide (Nat.le_trans (sync_wait d) (Nat.succ_le_succ (unhide HWT)))
        clear hR3 hT3 hp3 HP2 Hb2 hca1 hca3 HSIM
        generalize (syncD d).1 = E at *
        generalize (syncD d).2 = d3 at *
        generalize (syncR r).2 = r3 at *
        clear HS HWT HOK HWL HA0 HQ0 HK1 HKN
        go_wp2_with fail
        obtain ⟨bk, bw, wv, hG9, hRB⟩ := (unhide HP3).ref
        obtain ⟨ad, cp, hwv, _, _⟩ := owns_slice hRB.done
        subst hwv
        have hcq6 := hRB.dev.cell (i := 6) rfl
        have hcq3 := hRB.dev.cell (i := 3) rfl
        have hcq0 := hRB.dev.cell (i := 0) rfl
        clear hG9 hRB
        refine Flow.wp_region (Flow.VV (fun j => match j with | 0 => .int .i64 E | 1 => .int .i64 E | 2 => .bool false | 3 => .bool false | 4 => .pointer (some ⟨p, 0, none⟩) | 5 => .bool d3.down | 6 => .pointer (some ⟨q, 0, none⟩) | 7 => .pointer (some ⟨q, 0, none⟩) | 8 => .pointer (some ⟨q, 6, none⟩) | 9 => .bool r3.down | 10 => .bool false | 11 => .bool false | 12 => .bool false | 13 => .pointer (some ⟨p, 0, none⟩) | 14 => .int .i64 (d3.wait.length : Int) | 15 => .pointer (some ⟨q, 0, none⟩) | 16 => .pointer (some ⟨q, 0, none⟩) | 17 => .pointer (some ⟨q, 3, none⟩) | 18 => .slice ad r3.done.length cp | 19 => .int .i64 (r3.done.length : Int) | 20 => .bool false | 21 => .bool false | 22 => .bool false | 23 => .pointer (some ⟨p, 0, none⟩) | 24 => .int .i64 (d3.kept.length : Int) | 25 => .pointer (some ⟨q, 0, none⟩) | 26 => .pointer (some ⟨q, 0, none⟩) | 27 => .pointer (some ⟨q, 0, none⟩) | 28 => .slice (some ⟨bk, 0, none⟩) r3.kept.length r3.kept.length | 29 => .int .i64 (r3.kept.length : Int) | 30 => .bool false | 31 => .bool false | _ => undef)) (fun _ (_ : Unit) w' => w' = w3.drew) () (by kernel_rfl) (by kernel_rfl) rfl ⟨?_, ?_, ?_, ?_, ?_, ?_, ?_, ?_, ?_, ?_, ?_, ?_, ?_, ?_, ?_, ?_, ?_, ?_, ?_, ?_, ?_, ?_, ?_, ?_, ?_, ?_, ?_, ?_, ?_, ?_, ?_, ?_, trivial⟩ ?_
        · exact Flow.move (Flow.goes_plain rfl) (fun _ _ _ h => h) (.inl rfl) fun a s w' hs hd => (hs 11 (by kernel_rfl))
        · exact Flow.move (Flow.goes_plain rfl) (fun _ _ _ h => h) (.inl rfl) fun a s w' hs hd => (hs 12 (by kernel_rfl))
        · refine Flow.pure (Flow.goes_plain rfl) (fun _ _ _ h => h) fun a L s w' hC hL hn hs hd => ?_
          skip
          exact ⟨_, op_neq3 rfl (hd 0 123 (by kernel_rfl)) (hd 1 124 (by kernel_rfl)) (by simp) w', rfl⟩
        · exact Flow.move (Flow.goes_plain rfl) (fun _ _ _ h => h) (.inl rfl) fun a s w' hs hd => (hd 2 125 (by kernel_rfl))
        · exact Flow.move (Flow.goes_guard false rfl rfl rfl (by kernel_rfl) (fun _ _ _ h => h)) (fun _ _ _ h => h) (.inl rfl) fun a s w' hs hd => (hs 7 (by kernel_rfl))
        · refine Flow.call (Flow.goes_guard false rfl rfl rfl (by kernel_rfl) (fun _ _ _ h => h)) fun a L s0 w' hC hL hn hs hd => ⟨13, #[.pointer (some ⟨p, 0, none⟩)], op_call13 (v0 := .pointer (some ⟨p, 0, none⟩)) rfl (hd 4 127 (by kernel_rfl)) rfl w', ?_⟩
          subst hC
          refine (down_walk (unhide HP3).dev.drew).mono ?_
          rintro e w'' ⟨rfl, hw''⟩
          subst w''
          exact ⟨_, (), rfl, fun _ _ _ h => h, rfl, rfl⟩
        · exact Flow.move (Flow.goes_guard false rfl rfl rfl (by kernel_rfl) (fun _ _ _ h => h)) (fun _ _ _ h => h) (.inl rfl) fun a s w' hs hd => (hs 8 (by kernel_rfl))
        · refine Flow.pure (Flow.goes_guard false rfl rfl rfl (by kernel_rfl) (fun _ _ _ h => h)) (fun _ _ _ h => h) fun a L s w' hC hL hn hs hd => ?_
          skip
          exact ⟨_, op_nil rfl (hd 6 129 (by kernel_rfl)) w', rfl⟩
        · refine Flow.pure (Flow.goes_guard false rfl rfl rfl (by kernel_rfl) (fun _ _ _ h => h)) (fun _ _ _ h => h) fun a L s w' hC hL hn hs hd => ?_
          skip
          exact ⟨_, op_f56_6 rfl (hd 7 130 (by kernel_rfl)) w', rfl⟩
        · refine Flow.pure (Flow.goes_guard false rfl rfl rfl (by kernel_rfl) (fun _ _ _ h => h)) (fun _ _ _ h => h) fun a L s w' hC hL hn hs hd => ?_
          skip
          exact ⟨_, op_load4 rfl (hd 8 131 (by kernel_rfl)) (by rw [hC]; exact hcq6), rfl⟩
        · refine Flow.pure (Flow.goes_guard false rfl rfl rfl (by kernel_rfl) (fun _ _ _ h => h)) (fun _ _ _ h => h) fun a L s w' hC hL hn hs hd => ?_
          skip
          exact ⟨_, op_neq4 rfl (hd 5 128 (by kernel_rfl)) (hd 9 132 (by kernel_rfl)) (by rw [(unhide HS3).down]; simp) w', rfl⟩
        · refine Flow.pure (Flow.goes_plain rfl) (fun _ _ _ h => h) fun a L s w' hC hL hn hs hd => ?_
          skip
          exact ⟨_, op_pickF rfl (hd 3 126 (by kernel_rfl)) (hd 10 133 (by kernel_rfl)) w', rfl⟩
        · exact Flow.move (Flow.goes_plain rfl) (fun _ _ _ h => h) (.inl rfl) fun a s w' hs hd => (hd 11 134 (by kernel_rfl))
        · exact Flow.move (Flow.goes_guard false rfl rfl rfl (by kernel_rfl) (fun _ _ _ h => h)) (fun _ _ _ h => h) (.inl rfl) fun a s w' hs hd => (hs 7 (by kernel_rfl))
        · refine Flow.call (Flow.goes_guard false rfl rfl rfl (by kernel_rfl) (fun _ _ _ h => h)) fun a L s0 w' hC hL hn hs hd => ⟨28, #[.pointer (some ⟨p, 0, none⟩)], op_call28 (v0 := .pointer (some ⟨p, 0, none⟩)) rfl (hd 13 136 (by kernel_rfl)) rfl w', ?_⟩
          subst hC
          refine (waiting_walk (unhide HP3).dev.drew).mono ?_
          rintro e w'' ⟨rfl, hw''⟩
          subst w''
          exact ⟨_, (), rfl, fun _ _ _ h => h, rfl, rfl⟩
        · exact Flow.move (Flow.goes_guard false rfl rfl rfl (by kernel_rfl) (fun _ _ _ h => h)) (fun _ _ _ h => h) (.inl rfl) fun a s w' hs hd => (hs 8 (by kernel_rfl))
        · refine Flow.pure (Flow.goes_guard false rfl rfl rfl (by kernel_rfl) (fun _ _ _ h => h)) (fun _ _ _ h => h) fun a L s w' hC hL hn hs hd => ?_
          skip
          exact ⟨_, op_nil rfl (hd 15 138 (by kernel_rfl)) w', rfl⟩
        · refine Flow.pure (Flow.goes_guard false rfl rfl rfl (by kernel_rfl) (fun _ _ _ h => h)) (fun _ _ _ h => h) fun a L s w' hC hL hn hs hd => ?_
          skip
          exact ⟨_, op_f56_3 rfl (hd 16 139 (by kernel_rfl)) w', rfl⟩
        · refine Flow.pure (Flow.goes_guard false rfl rfl rfl (by kernel_rfl) (fun _ _ _ h => h)) (fun _ _ _ h => h) fun a L s w' hC hL hn hs hd => ?_
          skip
          exact ⟨_, op_load54 rfl (hd 17 140 (by kernel_rfl)) (by rw [hC]; exact hcq3), rfl⟩
        · refine Flow.pure (Flow.goes_guard false rfl rfl rfl (by kernel_rfl) (fun _ _ _ h => h)) (fun _ _ _ h => h) fun a L s w' hC hL hn hs hd => ?_
          skip
          exact ⟨_, op_len54 rfl (hd 18 141 (by kernel_rfl))  w', rfl⟩
        · refine Flow.pure (Flow.goes_guard false rfl rfl rfl (by kernel_rfl) (fun _ _ _ h => h)) (fun _ _ _ h => h) fun a L s w' hC hL hn hs hd => ?_
          skip
          exact ⟨_, op_neq3 rfl (hd 14 137 (by kernel_rfl)) (hd 19 142 (by kernel_rfl)) (by rw [(unhide HS3).wait]; simp) w', rfl⟩
        · refine Flow.pure (Flow.goes_plain rfl) (fun _ _ _ h => h) fun a L s w' hC hL hn hs hd => ?_
          skip
          exact ⟨_, op_pickF rfl (hd 12 135 (by kernel_rfl)) (hd 20 143 (by kernel_rfl)) w', rfl⟩
        · exact Flow.move (Flow.goes_plain rfl) (fun _ _ _ h => h) (.inl rfl) fun a s w' hs hd => (hd 21 144 (by kernel_rfl))
        · exact Flow.move (Flow.goes_guard false rfl rfl rfl (by kernel_rfl) (fun _ _ _ h => h)) (fun _ _ _ h => h) (.inl rfl) fun a s w' hs hd => (hs 7 (by kernel_rfl))
        · refine Flow.call (Flow.goes_guard false rfl rfl rfl (by kernel_rfl) (fun _ _ _ h => h)) fun a L s0 w' hC hL hn hs hd => ⟨18, #[.pointer (some ⟨p, 0, none⟩)], op_call18 (v0 := .pointer (some ⟨p, 0, none⟩)) rfl (hd 23 146 (by kernel_rfl)) rfl w', ?_⟩
          subst hC
          refine (size_walk (unhide HP3).dev.drew).mono ?_
          rintro e w'' ⟨rfl, hw''⟩
          subst w''
          exact ⟨_, (), rfl, fun _ _ _ h => h, rfl, rfl⟩
        · exact Flow.move (Flow.goes_guard false rfl rfl rfl (by kernel_rfl) (fun _ _ _ h => h)) (fun _ _ _ h => h) (.inl rfl) fun a s w' hs hd => (hs 8 (by kernel_rfl))
        · refine Flow.pure (Flow.goes_guard false rfl rfl rfl (by kernel_rfl) (fun _ _ _ h => h)) (fun _ _ _ h => h) fun a L s w' hC hL hn hs hd => ?_
          skip
          exact ⟨_, op_nil rfl (hd 25 148 (by kernel_rfl)) w', rfl⟩
        · refine Flow.pure (Flow.goes_guard false rfl rfl rfl (by kernel_rfl) (fun _ _ _ h => h)) (fun _ _ _ h => h) fun a L s w' hC hL hn hs hd => ?_
          skip
          exact ⟨_, op_f56_0 rfl (hd 26 149 (by kernel_rfl)) w', rfl⟩
        · refine Flow.pure (Flow.goes_guard false rfl rfl rfl (by kernel_rfl) (fun _ _ _ h => h)) (fun _ _ _ h => h) fun a L s w' hC hL hn hs hd => ?_
          skip
          exact ⟨_, op_load52 rfl (hd 27 150 (by kernel_rfl)) (by rw [hC]; exact hcq0), rfl⟩
        · refine Flow.pure (Flow.goes_guard false rfl rfl rfl (by kernel_rfl) (fun _ _ _ h => h)) (fun _ _ _ h => h) fun a L s w' hC hL hn hs hd => ?_
          skip
          exact ⟨_, op_len52 rfl (hd 28 151 (by kernel_rfl))  w', rfl⟩
        · refine Flow.pure (Flow.goes_guard false rfl rfl rfl (by kernel_rfl) (fun _ _ _ h => h)) (fun _ _ _ h => h) fun a L s w' hC hL hn hs hd => ?_
          skip
          exact ⟨_, op_neq3 rfl (hd 24 147 (by kernel_rfl)) (hd 29 152 (by kernel_rfl)) (by rw [(unhide HS3).kept]; simp) w', rfl⟩
        · refine Flow.pure (Flow.goes_plain rfl) (fun _ _ _ h => h) fun a L s w' hC hL hn hs hd => ?_
          skip
          exact ⟨_, op_pickF rfl (hd 22 145 (by kernel_rfl)) (hd 30 153 (by kernel_rfl)) w', rfl⟩
        · intro L _ w4 hC hL vals hv
          have e31 : vals 31 = .bool false := hv 31 _ 154 rfl rfl
          simp only [Free.putAll, Act.put, List.setIfInBounds_toArray, List.set_cons_succ, List.set_cons_zero, e31]
          have HP4 : Hid (Pair w.heap.size F3 G3 w4 p q d3 r3) := hide (by rw [hC]; exact (unhide HP3).below (Below.refl _ w3).drew)
          have Hb4 : Hid (Below w.heap.size w w4) := hide (by rw [hC]; exact (unhide Hb3).drew)
          clear hv hL e31 hC HP3 Hb3 hcq6 hcq3 hcq0
          generalize vals 0 = y0 at *
          generalize vals 1 = y1 at *
          generalize vals 2 = y2 at *
          generalize vals 3 = y3 at *
          generalize vals 4 = y4 at *
          generalize vals 5 = y5 at *
          generalize vals 6 = y6 at *
          generalize vals 7 = y7 at *
          generalize vals 8 = y8 at *
          generalize vals 9 = y9 at *
          generalize vals 10 = y10 at *
          generalize vals 11 = y11 at *
          generalize vals 12 = y12 at *
          generalize vals 13 = y13 at *
          generalize vals 14 = y14 at *
          generalize vals 15 = y15 at *
          generalize vals 16 = y16 at *
          generalize vals 17 = y17 at *
          generalize vals 18 = y18 at *
          generalize vals 19 = y19 at *
          generalize vals 20 = y20 at *
          generalize vals 21 = y21 at *
          generalize vals 22 = y22 at *
          generalize vals 23 = y23 at *
          generalize vals 24 = y24 at *
          generalize vals 25 = y25 at *
          generalize vals 26 = y26 at *
          generalize vals 27 = y27 at *
          generalize vals 28 = y28 at *
          generalize vals 29 = y29 at *
          generalize vals 30 = y30 at *
          go_wp2_with fail
          go_roundw
          case rel => exact ⟨j + 1, F3, G3, d3, r3, by omega, by go_num, unhide HP4, unhide HS3, unhide HW3, unhide Hb4⟩
          case measure => simp [intOf]; omega
      · go_wp2_with fail
        have HP1 := hide (unhide HP0 #[.int .i64 4, .int .i64 pl, .int .u8 ((v.toNat : Nat) : Int), .slice ka kl kc])
        have Hb1 := hide (unhide Hb0 #[.int .i64 4, .int .i64 pl, .int .u8 ((v.toNat : Nat) : Int), .slice ka kl kc])
        have HK1 := hide (unhide HKK #[.int .i64 4, .int .i64 pl, .int .u8 ((v.toNat : Nat) : Int), .slice ka kl kc])
        have HOK := hide (unhide HP1).dev.ok
        clear HP0 Hb0 HKK c0 c1 c2 c3 HACT
        rw [← hsb] at HA0 HQ0 ⊢
        generalize wr.alloc (.cells #[.int .i64 4, .int .i64 pl, .int .u8 ((v.toNat : Nat) : Int), .slice ka kl kc] 42) = w1 at *
        clear hsb
        refine (budget_walk (unhide HP1).dev pl (unhide HPL).2).mono ?_
        rintro e w2 ⟨rfl, hD2, hB2, _⟩
        have hp2 := (unhide HP1).turnD ⟨hB2, fun _ h => .inl h⟩ hD2
        have ha2 := Turns.keepArr (F' := F) ⟨hB2, fun _ h => .inl h⟩ (unhide HA0) (unhide HQ0).1
        have HP2 := hide hp2.1
        have Hb2 := hide ((unhide Hb1).trans hp2.2)
        have hca1 := ha2.1.cell (i := 1) rfl
        clear hD2 hB2 hp2 ha2 HP1 Hb1
        go_wp2_with fail
        refine (limit_walk (unhide HP2).ref pl (unhide HPL)).mono ?_
        rintro e w3 ⟨rfl, hR3, hB3, _⟩
        have hp3 := (unhide HP2).turnR ⟨hB3, fun _ h => .inl h⟩ hR3
        have HP3 := hide hp3.1
        have Hb3 := hide ((unhide Hb2).trans hp3.2)
        have HS3 := hide ((unhide HS).limit pl (unhide HPL).2)
        have HW3 : Hid ((budgetD d pl).wait.length ≤ j + 1) := hide (Nat.le_trans (unhide HWT) (Nat.le_succ _))
        clear hR3 hB3 hp3 HP2 Hb2 hca1
        generalize budgetD d pl = d3 at *
        generalize limitR r pl = r3 at *
        obtain ⟨F3, hF3⟩ : ∃ F3, F3 = F := ⟨_, rfl⟩
        obtain ⟨G3, hG3⟩ : ∃ G3, G3 = G := ⟨_, rfl⟩
        rw [← hF3, ← hG3] at HP3
        clear HS HWT HOK HWL HA0 HQ0 HK1 hF3 hG3
        go_wp2_with fail
        obtain ⟨bk, bw, wv, hG9, hRB⟩ := (unhide HP3).ref
        obtain ⟨ad, cp, hwv, _, _⟩ := owns_slice hRB.done
        subst hwv
        have hcq6 := hRB.dev.cell (i := 6) rfl
        have hcq3 := hRB.dev.cell (i := 3) rfl
        have hcq0 := hRB.dev.cell (i := 0) rfl
        clear hG9 hRB
        refine Flow.wp_region (Flow.VV (fun j => match j with | 0 => .int .i64 0 | 1 => .int .i64 0 | 2 => .bool false | 3 => .bool false | 4 => .pointer (some ⟨p, 0, none⟩) | 5 => .bool d3.down | 6 => .pointer (some ⟨q, 0, none⟩) | 7 => .pointer (some ⟨q, 0, none⟩) | 8 => .pointer (some ⟨q, 6, none⟩) | 9 => .bool r3.down | 10 => .bool false | 11 => .bool false | 12 => .bool false | 13 => .pointer (some ⟨p, 0, none⟩) | 14 => .int .i64 (d3.wait.length : Int) | 15 => .pointer (some ⟨q, 0, none⟩) | 16 => .pointer (some ⟨q, 0, none⟩) | 17 => .pointer (some ⟨q, 3, none⟩) | 18 => .slice ad r3.done.length cp | 19 => .int .i64 (r3.done.length : Int) | 20 => .bool false | 21 => .bool false | 22 => .bool false | 23 => .pointer (some ⟨p, 0, none⟩) | 24 => .int .i64 (d3.kept.length : Int) | 25 => .pointer (some ⟨q, 0, none⟩) | 26 => .pointer (some ⟨q, 0, none⟩) | 27 => .pointer (some ⟨q, 0, none⟩) | 28 => .slice (some ⟨bk, 0, none⟩) r3.kept.length r3.kept.length | 29 => .int .i64 (r3.kept.length : Int) | 30 => .bool false | 31 => .bool false | _ => undef)) (fun _ (_ : Unit) w' => w' = w3.drew) () (by kernel_rfl) (by kernel_rfl) rfl ⟨?_, ?_, ?_, ?_, ?_, ?_, ?_, ?_, ?_, ?_, ?_, ?_, ?_, ?_, ?_, ?_, ?_, ?_, ?_, ?_, ?_, ?_, ?_, ?_, ?_, ?_, ?_, ?_, ?_, ?_, ?_, ?_, trivial⟩ ?_
        · exact Flow.move (Flow.goes_plain rfl) (fun _ _ _ h => h) (.inl rfl) fun a s w' hs hd => (hs 11 (by kernel_rfl))
        · exact Flow.move (Flow.goes_plain rfl) (fun _ _ _ h => h) (.inl rfl) fun a s w' hs hd => (hs 12 (by kernel_rfl))
        · refine Flow.pure (Flow.goes_plain rfl) (fun _ _ _ h => h) fun a L s w' hC hL hn hs hd => ?_
          skip
          exact ⟨_, op_neq3 rfl (hd 0 123 (by kernel_rfl)) (hd 1 124 (by kernel_rfl)) (by simp) w', rfl⟩
        · exact Flow.move (Flow.goes_plain rfl) (fun _ _ _ h => h) (.inl rfl) fun a s w' hs hd => (hd 2 125 (by kernel_rfl))
        · exact Flow.move (Flow.goes_guard false rfl rfl rfl (by kernel_rfl) (fun _ _ _ h => h)) (fun _ _ _ h => h) (.inl rfl) fun a s w' hs hd => (hs 7 (by kernel_rfl))
        · refine Flow.call (Flow.goes_guard false rfl rfl rfl (by kernel_rfl) (fun _ _ _ h => h)) fun a L s0 w' hC hL hn hs hd => ⟨13, #[.pointer (some ⟨p, 0, none⟩)], op_call13 (v0 := .pointer (some ⟨p, 0, none⟩)) rfl (hd 4 127 (by kernel_rfl)) rfl w', ?_⟩
          subst hC
          refine (down_walk (unhide HP3).dev.drew).mono ?_
          rintro e w'' ⟨rfl, hw''⟩
          subst w''
          exact ⟨_, (), rfl, fun _ _ _ h => h, rfl, rfl⟩
        · exact Flow.move (Flow.goes_guard false rfl rfl rfl (by kernel_rfl) (fun _ _ _ h => h)) (fun _ _ _ h => h) (.inl rfl) fun a s w' hs hd => (hs 8 (by kernel_rfl))
        · refine Flow.pure (Flow.goes_guard false rfl rfl rfl (by kernel_rfl) (fun _ _ _ h => h)) (fun _ _ _ h => h) fun a L s w' hC hL hn hs hd => ?_
          skip
          exact ⟨_, op_nil rfl (hd 6 129 (by kernel_rfl)) w', rfl⟩
        · refine Flow.pure (Flow.goes_guard false rfl rfl rfl (by kernel_rfl) (fun _ _ _ h => h)) (fun _ _ _ h => h) fun a L s w' hC hL hn hs hd => ?_
          skip
          exact ⟨_, op_f56_6 rfl (hd 7 130 (by kernel_rfl)) w', rfl⟩
        · refine Flow.pure (Flow.goes_guard false rfl rfl rfl (by kernel_rfl) (fun _ _ _ h => h)) (fun _ _ _ h => h) fun a L s w' hC hL hn hs hd => ?_
          skip
          exact ⟨_, op_load4 rfl (hd 8 131 (by kernel_rfl)) (by rw [hC]; exact hcq6), rfl⟩
        · refine Flow.pure (Flow.goes_guard false rfl rfl rfl (by kernel_rfl) (fun _ _ _ h => h)) (fun _ _ _ h => h) fun a L s w' hC hL hn hs hd => ?_
          skip
          exact ⟨_, op_neq4 rfl (hd 5 128 (by kernel_rfl)) (hd 9 132 (by kernel_rfl)) (by rw [(unhide HS3).down]; simp) w', rfl⟩
        · refine Flow.pure (Flow.goes_plain rfl) (fun _ _ _ h => h) fun a L s w' hC hL hn hs hd => ?_
          skip
          exact ⟨_, op_pickF rfl (hd 3 126 (by kernel_rfl)) (hd 10 133 (by kernel_rfl)) w', rfl⟩
        · exact Flow.move (Flow.goes_plain rfl) (fun _ _ _ h => h) (.inl rfl) fun a s w' hs hd => (hd 11 134 (by kernel_rfl))
        · exact Flow.move (Flow.goes_guard false rfl rfl rfl (by kernel_rfl) (fun _ _ _ h => h)) (fun _ _ _ h => h) (.inl rfl) fun a s w' hs hd => (hs 7 (by kernel_rfl))
        · refine Flow.call (Flow.goes_guard false rfl rfl rfl (by kernel_rfl) (fun _ _ _ h => h)) fun a L s0 w' hC hL hn hs hd => ⟨28, #[.pointer (some ⟨p, 0, none⟩)], op_call28 (v0 := .pointer (some ⟨p, 0, none⟩)) rfl (hd 13 136 (by kernel_rfl)) rfl w', ?_⟩
          subst hC
          refine (waiting_walk (unhide HP3).dev.drew).mono ?_
          rintro e w'' ⟨rfl, hw''⟩
          subst w''
          exact ⟨_, (), rfl, fun _ _ _ h => h, rfl, rfl⟩
        · exact Flow.move (Flow.goes_guard false rfl rfl rfl (by kernel_rfl) (fun _ _ _ h => h)) (fun _ _ _ h => h) (.inl rfl) fun a s w' hs hd => (hs 8 (by kernel_rfl))
        · refine Flow.pure (Flow.goes_guard false rfl rfl rfl (by kernel_rfl) (fun _ _ _ h => h)) (fun _ _ _ h => h) fun a L s w' hC hL hn hs hd => ?_
          skip
          exact ⟨_, op_nil rfl (hd 15 138 (by kernel_rfl)) w', rfl⟩
        · refine Flow.pure (Flow.goes_guard false rfl rfl rfl (by kernel_rfl) (fun _ _ _ h => h)) (fun _ _ _ h => h) fun a L s w' hC hL hn hs hd => ?_
          skip
          exact ⟨_, op_f56_3 rfl (hd 16 139 (by kernel_rfl)) w', rfl⟩
        · refine Flow.pure (Flow.goes_guard false rfl rfl rfl (by kernel_rfl) (fun _ _ _ h => h)) (fun _ _ _ h => h) fun a L s w' hC hL hn hs hd => ?_
          skip
          exact ⟨_, op_load54 rfl (hd 17 140 (by kernel_rfl)) (by rw [hC]; exact hcq3), rfl⟩
        · refine Flow.pure (Flow.goes_guard false rfl rfl rfl (by kernel_rfl) (fun _ _ _ h => h)) (fun _ _ _ h => h) fun a L s w' hC hL hn hs hd => ?_
          skip
          exact ⟨_, op_len54 rfl (hd 18 141 (by kernel_rfl))  w', rfl⟩
        · refine Flow.pure (Flow.goes_guard false rfl rfl rfl (by kernel_rfl) (fun _ _ _ h => h)) (fun _ _ _ h => h) fun a L s w' hC hL hn hs hd => ?_
          skip
          exact ⟨_, op_neq3 rfl (hd 14 137 (by kernel_rfl)) (hd 19 142 (by kernel_rfl)) (by rw [(unhide HS3).wait]; simp) w', rfl⟩
        · refine Flow.pure (Flow.goes_plain rfl) (fun _ _ _ h => h) fun a L s w' hC hL hn hs hd => ?_
          skip
          exact ⟨_, op_pickF rfl (hd 12 135 (by kernel_rfl)) (hd 20 143 (by kernel_rfl)) w', rfl⟩
        · exact Flow.move (Flow.goes_plain rfl) (fun _ _ _ h => h) (.inl rfl) fun a s w' hs hd => (hd 21 144 (by kernel_rfl))
        · exact Flow.move (Flow.goes_guard false rfl rfl rfl (by kernel_rfl) (fun _ _ _ h => h)) (fun _ _ _ h => h) (.inl rfl) fun a s w' hs hd => (hs 7 (by kernel_rfl))
        · refine Flow.call (Flow.goes_guard false rfl rfl rfl (by kernel_rfl) (fun _ _ _ h => h)) fun a L s0 w' hC hL hn hs hd => ⟨18, #[.pointer (some ⟨p, 0, none⟩)], op_call18 (v0 := .pointer (some ⟨p, 0, none⟩)) rfl (hd 23 146 (by kernel_rfl)) rfl w', ?_⟩
          subst hC
          refine (size_walk (unhide HP3).dev.drew).mono ?_
          rintro e w'' ⟨rfl, hw''⟩
          subst w''
          exact ⟨_, (), rfl, fun _ _ _ h => h, rfl, rfl⟩
        · exact Flow.move (Flow.goes_guard false rfl rfl rfl (by kernel_rfl) (fun _ _ _ h => h)) (fun _ _ _ h => h) (.inl rfl) fun a s w' hs hd => (hs 8 (by kernel_rfl))
        · refine Flow.pure (Flow.goes_guard false rfl rfl rfl (by kernel_rfl) (fun _ _ _ h => h)) (fun _ _ _ h => h) fun a L s w' hC hL hn hs hd => ?_
          skip
          exact ⟨_, op_nil rfl (hd 25 148 (by kernel_rfl)) w', rfl⟩
        · refine Flow.pure (Flow.goes_guard false rfl rfl rfl (by kernel_rfl) (fun _ _ _ h => h)) (fun _ _ _ h => h) fun a L s w' hC hL hn hs hd => ?_
          skip
          exact ⟨_, op_f56_0 rfl (hd 26 149 (by kernel_rfl)) w', rfl⟩
        · refine Flow.pure (Flow.goes_guard false rfl rfl rfl (by kernel_rfl) (fun _ _ _ h => h)) (fun _ _ _ h => h) fun a L s w' hC hL hn hs hd => ?_
          skip
          exact ⟨_, op_load52 rfl (hd 27 150 (by kernel_rfl)) (by rw [hC]; exact hcq0), rfl⟩
        · refine Flow.pure (Flow.goes_guard false rfl rfl rfl (by kernel_rfl) (fun _ _ _ h => h)) (fun _ _ _ h => h) fun a L s w' hC hL hn hs hd => ?_
          skip
          exact ⟨_, op_len52 rfl (hd 28 151 (by kernel_rfl))  w', rfl⟩
        · refine Flow.pure (Flow.goes_guard false rfl rfl rfl (by kernel_rfl) (fun _ _ _ h => h)) (fun _ _ _ h => h) fun a L s w' hC hL hn hs hd => ?_
          skip
          exact ⟨_, op_neq3 rfl (hd 24 147 (by kernel_rfl)) (hd 29 152 (by kernel_rfl)) (by rw [(unhide HS3).kept]; simp) w', rfl⟩
        · refine Flow.pure (Flow.goes_plain rfl) (fun _ _ _ h => h) fun a L s w' hC hL hn hs hd => ?_
          skip
          exact ⟨_, op_pickF rfl (hd 22 145 (by kernel_rfl)) (hd 30 153 (by kernel_rfl)) w', rfl⟩
        · intro L _ w4 hC hL vals hv
          have e31 : vals 31 = .bool false := hv 31 _ 154 rfl rfl
          simp only [Free.putAll, Act.put, List.setIfInBounds_toArray, List.set_cons_succ, List.set_cons_zero, e31]
          have HP4 : Hid (Pair w.heap.size F3 G3 w4 p q d3 r3) := hide (by rw [hC]; exact (unhide HP3).below (Below.refl _ w3).drew)
          have Hb4 : Hid (Below w.heap.size w w4) := hide (by rw [hC]; exact (unhide Hb3).drew)
          clear hv hL e31 hC HP3 Hb3 hcq6 hcq3 hcq0
          generalize vals 0 = y0 at *
          generalize vals 1 = y1 at *
          generalize vals 2 = y2 at *
          generalize vals 3 = y3 at *
          generalize vals 4 = y4 at *
          generalize vals 5 = y5 at *
          generalize vals 6 = y6 at *
          generalize vals 7 = y7 at *
          generalize vals 8 = y8 at *
          generalize vals 9 = y9 at *
          generalize vals 10 = y10 at *
          generalize vals 11 = y11 at *
          generalize vals 12 = y12 at *
          generalize vals 13 = y13 at *
          generalize vals 14 = y14 at *
          generalize vals 15 = y15 at *
          generalize vals 16 = y16 at *
          generalize vals 17 = y17 at *
          generalize vals 18 = y18 at *
          generalize vals 19 = y19 at *
          generalize vals 20 = y20 at *
          generalize vals 21 = y21 at *
          generalize vals 22 = y22 at *
          generalize vals 23 = y23 at *
          generalize vals 24 = y24 at *
          generalize vals 25 = y25 at *
          generalize vals 26 = y26 at *
          generalize vals 27 = y27 at *
          generalize vals 28 = y28 at *
          generalize vals 29 = y29 at *
          generalize vals 30 = y30 at *
          go_wp2_with fail
          go_roundw
          case rel => exact ⟨j + 1, F3, G3, d3, r3, by omega, by go_num, unhide HP4, unhide HS3, unhide HW3, unhide Hb4⟩
          case measure => simp [intOf]; omega
      · by_cases hk : kl ≤ 200
        · skip
          go_wp2_with fail
          have HP1 := hide (unhide HP0 #[.int .i64 5, .int .i64 pl, .int .u8 ((v.toNat : Nat) : Int), .slice ka kl kc])
          have Hb1 := hide (unhide Hb0 #[.int .i64 5, .int .i64 pl, .int .u8 ((v.toNat : Nat) : Int), .slice ka kl kc])
          have HK1 := hide (unhide HKK #[.int .i64 5, .int .i64 pl, .int .u8 ((v.toNat : Nat) : Int), .slice ka kl kc])
          have HOK := hide (unhide HP1).dev.ok
          clear HP0 Hb0 HKK c0 c1 c2 c3 HACT
          rw [← hsb] at HA0 HQ0 ⊢
          generalize wr.alloc (.cells #[.int .i64 5, .int .i64 pl, .int .u8 ((v.toNat : Nat) : Int), .slice ka kl kc] 42) = w1 at *
          clear hsb
          obtain ⟨bs, hrow⟩ := (unhide HK1).2.2 (by omega)
          have HROW := hide hrow
          clear hrow
          refine (restart_walk (unhide HP1).dev (unhide HP1).hF (unhide HP1).size ka kl kc bs (unhide HROW) (unhide HWL).1).mono ?_
          rintro e w2 ⟨rfl, F3, hD2, hT2⟩
          have hp2 := (unhide HP1).turnD hT2 hD2
          have ha2 := hT2.keepArr (unhide HA0) (unhide HQ0).1
          have HP2 := hide hp2.1
          have Hb2 := hide ((unhide Hb1).trans hp2.2)
          have HROW2 := hide ((unhide HROW).below hp2.2)
          have hca3 := ha2.1.cell (i := 3) rfl
          clear hD2 hT2 hp2 ha2 HP1 Hb1 HROW
          go_wp2_with fail
          refine (rrestart_walk (unhide HP2).ref (unhide HP2).hG (unhide HP2).size ka kl kc bs (unhide HROW2) (unhide HWL).2).mono ?_
          rintro e w3 ⟨rfl, G3, hR3, hT3⟩
          have hp3 := (unhide HP2).turnR hT3 hR3
          have HP3 := hide hp3.1
          have Hb3 := hide ((unhide Hb2).trans hp3.2)
          have HS3 := hide ((unhide HS).restart bs)
          have HW3 : Hid ((restartD d bs).wait.length ≤ j + 1) := hide (Nat.zero_le _)
          clear hR3 hT3 hp3 HP2 Hb2 hca3 HROW2
          generalize restartD d bs = d3 at *
          generalize restartR r bs = r3 at *
          clear HS HWT HOK HWL HA0 HQ0 HK1
          go_wp2_with fail
          obtain ⟨bk, bw, wv, hG9, hRB⟩ := (unhide HP3).ref
          obtain ⟨ad, cp, hwv, _, _⟩ := owns_slice hRB.done
          subst hwv
          have hcq6 := hRB.dev.cell (i := 6) rfl
          have hcq3 := hRB.dev.cell (i := 3) rfl
          have hcq0 := hRB.dev.cell (i := 0) rfl
          clear hG9 hRB
          refine Flow.wp_region (Flow.VV (fun j => match j with | 0 => .int .i64 0 | 1 => .int .i64 0 | 2 => .bool false | 3 => .bool false | 4 => .pointer (some ⟨p, 0, none⟩) | 5 => .bool d3.down | 6 => .pointer (some ⟨q, 0, none⟩) | 7 => .pointer (some ⟨q, 0, none⟩) | 8 => .pointer (some ⟨q, 6, none⟩) | 9 => .bool r3.down | 10 => .bool false | 11 => .bool false | 12 => .bool false | 13 => .pointer (some ⟨p, 0, none⟩) | 14 => .int .i64 (d3.wait.length : Int) | 15 => .pointer (some ⟨q, 0, none⟩) | 16 => .pointer (some ⟨q, 0, none⟩) | 17 => .pointer (some ⟨q, 3, none⟩) | 18 => .slice ad r3.done.length cp | 19 => .int .i64 (r3.done.length : Int) | 20 => .bool false | 21 => .bool false | 22 => .bool false | 23 => .pointer (some ⟨p, 0, none⟩) | 24 => .int .i64 (d3.kept.length : Int) | 25 => .pointer (some ⟨q, 0, none⟩) | 26 => .pointer (some ⟨q, 0, none⟩) | 27 => .pointer (some ⟨q, 0, none⟩) | 28 => .slice (some ⟨bk, 0, none⟩) r3.kept.length r3.kept.length | 29 => .int .i64 (r3.kept.length : Int) | 30 => .bool false | 31 => .bool false | _ => undef)) (fun _ (_ : Unit) w' => w' = w3.drew) () (by kernel_rfl) (by kernel_rfl) rfl ⟨?_, ?_, ?_, ?_, ?_, ?_, ?_, ?_, ?_, ?_, ?_, ?_, ?_, ?_, ?_, ?_, ?_, ?_, ?_, ?_, ?_, ?_, ?_, ?_, ?_, ?_, ?_, ?_, ?_, ?_, ?_, ?_, trivial⟩ ?_
          · exact Flow.move (Flow.goes_plain rfl) (fun _ _ _ h => h) (.inl rfl) fun a s w' hs hd => (hs 11 (by kernel_rfl))
          · exact Flow.move (Flow.goes_plain rfl) (fun _ _ _ h => h) (.inl rfl) fun a s w' hs hd => (hs 12 (by kernel_rfl))
          · refine Flow.pure (Flow.goes_plain rfl) (fun _ _ _ h => h) fun a L s w' hC hL hn hs hd => ?_
            skip
            exact ⟨_, op_neq3 rfl (hd 0 123 (by kernel_rfl)) (hd 1 124 (by kernel_rfl)) (by simp) w', rfl⟩
          · exact Flow.move (Flow.goes_plain rfl) (fun _ _ _ h => h) (.inl rfl) fun a s w' hs hd => (hd 2 125 (by kernel_rfl))
          · exact Flow.move (Flow.goes_guard false rfl rfl rfl (by kernel_rfl) (fun _ _ _ h => h)) (fun _ _ _ h => h) (.inl rfl) fun a s w' hs hd => (hs 7 (by kernel_rfl))
          · refine Flow.call (Flow.goes_guard false rfl rfl rfl (by kernel_rfl) (fun _ _ _ h => h)) fun a L s0 w' hC hL hn hs hd => ⟨13, #[.pointer (some ⟨p, 0, none⟩)], op_call13 (v0 := .pointer (some ⟨p, 0, none⟩)) rfl (hd 4 127 (by kernel_rfl)) rfl w', ?_⟩
            subst hC
            refine (down_walk (unhide HP3).dev.drew).mono ?_
            rintro e w'' ⟨rfl, hw''⟩
            subst w''
            exact ⟨_, (), rfl, fun _ _ _ h => h, rfl, rfl⟩
          · exact Flow.move (Flow.goes_guard false rfl rfl rfl (by kernel_rfl) (fun _ _ _ h => h)) (fun _ _ _ h => h) (.inl rfl) fun a s w' hs hd => (hs 8 (by kernel_rfl))
          · refine Flow.pure (Flow.goes_guard false rfl rfl rfl (by kernel_rfl) (fun _ _ _ h => h)) (fun _ _ _ h => h) fun a L s w' hC hL hn hs hd => ?_
            skip
            exact ⟨_, op_nil rfl (hd 6 129 (by kernel_rfl)) w', rfl⟩
          · refine Flow.pure (Flow.goes_guard false rfl rfl rfl (by kernel_rfl) (fun _ _ _ h => h)) (fun _ _ _ h => h) fun a L s w' hC hL hn hs hd => ?_
            skip
            exact ⟨_, op_f56_6 rfl (hd 7 130 (by kernel_rfl)) w', rfl⟩
          · refine Flow.pure (Flow.goes_guard false rfl rfl rfl (by kernel_rfl) (fun _ _ _ h => h)) (fun _ _ _ h => h) fun a L s w' hC hL hn hs hd => ?_
            skip
            exact ⟨_, op_load4 rfl (hd 8 131 (by kernel_rfl)) (by rw [hC]; exact hcq6), rfl⟩
          · refine Flow.pure (Flow.goes_guard false rfl rfl rfl (by kernel_rfl) (fun _ _ _ h => h)) (fun _ _ _ h => h) fun a L s w' hC hL hn hs hd => ?_
            skip
            exact ⟨_, op_neq4 rfl (hd 5 128 (by kernel_rfl)) (hd 9 132 (by kernel_rfl)) (by rw [(unhide HS3).down]; simp) w', rfl⟩
          · refine Flow.pure (Flow.goes_plain rfl) (fun _ _ _ h => h) fun a L s w' hC hL hn hs hd => ?_
            skip
            exact ⟨_, op_pickF rfl (hd 3 126 (by kernel_rfl)) (hd 10 133 (by kernel_rfl)) w', rfl⟩
          · exact Flow.move (Flow.goes_plain rfl) (fun _ _ _ h => h) (.inl rfl) fun a s w' hs hd => (hd 11 134 (by kernel_rfl))
          · exact Flow.move (Flow.goes_guard false rfl rfl rfl (by kernel_rfl) (fun _ _ _ h => h)) (fun _ _ _ h => h) (.inl rfl) fun a s w' hs hd => (hs 7 (by kernel_rfl))
          · refine Flow.call (Flow.goes_guard false rfl rfl rfl (by kernel_rfl) (fun _ _ _ h => h)) fun a L s0 w' hC hL hn hs hd => ⟨28, #[.pointer (some ⟨p, 0, none⟩)], op_call28 (v0 := .pointer (some ⟨p, 0, none⟩)) rfl (hd 13 136 (by kernel_rfl)) rfl w', ?_⟩
            subst hC
            refine (waiting_walk (unhide HP3).dev.drew).mono ?_
            rintro e w'' ⟨rfl, hw''⟩
            subst w''
            exact ⟨_, (), rfl, fun _ _ _ h => h, rfl, rfl⟩
          · exact Flow.move (Flow.goes_guard false rfl rfl rfl (by kernel_rfl) (fun _ _ _ h => h)) (fun _ _ _ h => h) (.inl rfl) fun a s w' hs hd => (hs 8 (by kernel_rfl))
          · refine Flow.pure (Flow.goes_guard false rfl rfl rfl (by kernel_rfl) (fun _ _ _ h => h)) (fun _ _ _ h => h) fun a L s w' hC hL hn hs hd => ?_
            skip
            exact ⟨_, op_nil rfl (hd 15 138 (by kernel_rfl)) w', rfl⟩
          · refine Flow.pure (Flow.goes_guard false rfl rfl rfl (by kernel_rfl) (fun _ _ _ h => h)) (fun _ _ _ h => h) fun a L s w' hC hL hn hs hd => ?_
            skip
            exact ⟨_, op_f56_3 rfl (hd 16 139 (by kernel_rfl)) w', rfl⟩
          · refine Flow.pure (Flow.goes_guard false rfl rfl rfl (by kernel_rfl) (fun _ _ _ h => h)) (fun _ _ _ h => h) fun a L s w' hC hL hn hs hd => ?_
            skip
            exact ⟨_, op_load54 rfl (hd 17 140 (by kernel_rfl)) (by rw [hC]; exact hcq3), rfl⟩
          · refine Flow.pure (Flow.goes_guard false rfl rfl rfl (by kernel_rfl) (fun _ _ _ h => h)) (fun _ _ _ h => h) fun a L s w' hC hL hn hs hd => ?_
            skip
            exact ⟨_, op_len54 rfl (hd 18 141 (by kernel_rfl))  w', rfl⟩
          · refine Flow.pure (Flow.goes_guard false rfl rfl rfl (by kernel_rfl) (fun _ _ _ h => h)) (fun _ _ _ h => h) fun a L s w' hC hL hn hs hd => ?_
            skip
            exact ⟨_, op_neq3 rfl (hd 14 137 (by kernel_rfl)) (hd 19 142 (by kernel_rfl)) (by rw [(unhide HS3).wait]; simp) w', rfl⟩
          · refine Flow.pure (Flow.goes_plain rfl) (fun _ _ _ h => h) fun a L s w' hC hL hn hs hd => ?_
            skip
            exact ⟨_, op_pickF rfl (hd 12 135 (by kernel_rfl)) (hd 20 143 (by kernel_rfl)) w', rfl⟩
          · exact Flow.move (Flow.goes_plain rfl) (fun _ _ _ h => h) (.inl rfl) fun a s w' hs hd => (hd 21 144 (by kernel_rfl))
          · exact Flow.move (Flow.goes_guard false rfl rfl rfl (by kernel_rfl) (fun _ _ _ h => h)) (fun _ _ _ h => h) (.inl rfl) fun a s w' hs hd => (hs 7 (by kernel_rfl))
          · refine Flow.call (Flow.goes_guard false rfl rfl rfl (by kernel_rfl) (fun _ _ _ h => h)) fun a L s0 w' hC hL hn hs hd => ⟨18, #[.pointer (some ⟨p, 0, none⟩)], op_call18 (v0 := .pointer (some ⟨p, 0, none⟩)) rfl (hd 23 146 (by kernel_rfl)) rfl w', ?_⟩
            subst hC
            refine (size_walk (unhide HP3).dev.drew).mono ?_
            rintro e w'' ⟨rfl, hw''⟩
            subst w''
            exact ⟨_, (), rfl, fun _ _ _ h => h, rfl, rfl⟩
          · exact Flow.move (Flow.goes_guard false rfl rfl rfl (by kernel_rfl) (fun _ _ _ h => h)) (fun _ _ _ h => h) (.inl rfl) fun a s w' hs hd => (hs 8 (by kernel_rfl))
          · refine Flow.pure (Flow.goes_guard false rfl rfl rfl (by kernel_rfl) (fun _ _ _ h => h)) (fun _ _ _ h => h) fun a L s w' hC hL hn hs hd => ?_
            skip
            exact ⟨_, op_nil rfl (hd 25 148 (by kernel_rfl)) w', rfl⟩
          · refine Flow.pure (Flow.goes_guard false rfl rfl rfl (by kernel_rfl) (fun _ _ _ h => h)) (fun _ _ _ h => h) fun a L s w' hC hL hn hs hd => ?_
            skip
            exact ⟨_, op_f56_0 rfl (hd 26 149 (by kernel_rfl)) w', rfl⟩
          · refine Flow.pure (Flow.goes_guard false rfl rfl rfl (by kernel_rfl) (fun _ _ _ h => h)) (fun _ _ _ h => h) fun a L s w' hC hL hn hs hd => ?_
            skip
            exact ⟨_, op_load52 rfl (hd 27 150 (by kernel_rfl)) (by rw [hC]; exact hcq0), rfl⟩
          · refine Flow.pure (Flow.goes_guard false rfl rfl rfl (by kernel_rfl) (fun _ _ _ h => h)) (fun _ _ _ h => h) fun a L s w' hC hL hn hs hd => ?_
            skip
            exact ⟨_, op_len52 rfl (hd 28 151 (by kernel_rfl))  w', rfl⟩
          · refine Flow.pure (Flow.goes_guard false rfl rfl rfl (by kernel_rfl) (fun _ _ _ h => h)) (fun _ _ _ h => h) fun a L s w' hC hL hn hs hd => ?_
            skip
            exact ⟨_, op_neq3 rfl (hd 24 147 (by kernel_rfl)) (hd 29 152 (by kernel_rfl)) (by rw [(unhide HS3).kept]; simp) w', rfl⟩
          · refine Flow.pure (Flow.goes_plain rfl) (fun _ _ _ h => h) fun a L s w' hC hL hn hs hd => ?_
            skip
            exact ⟨_, op_pickF rfl (hd 22 145 (by kernel_rfl)) (hd 30 153 (by kernel_rfl)) w', rfl⟩
          · intro L _ w4 hC hL vals hv
            have e31 : vals 31 = .bool false := hv 31 _ 154 rfl rfl
            simp only [Free.putAll, Act.put, List.setIfInBounds_toArray, List.set_cons_succ, List.set_cons_zero, e31]
            have HP4 : Hid (Pair w.heap.size F3 G3 w4 p q d3 r3) := hide (by rw [hC]; exact (unhide HP3).below (Below.refl _ w3).drew)
            have Hb4 : Hid (Below w.heap.size w w4) := hide (by rw [hC]; exact (unhide Hb3).drew)
            clear hv hL e31 hC HP3 Hb3 hcq6 hcq3 hcq0
            generalize vals 0 = y0 at *
            generalize vals 1 = y1 at *
            generalize vals 2 = y2 at *
            generalize vals 3 = y3 at *
            generalize vals 4 = y4 at *
            generalize vals 5 = y5 at *
            generalize vals 6 = y6 at *
            generalize vals 7 = y7 at *
            generalize vals 8 = y8 at *
            generalize vals 9 = y9 at *
            generalize vals 10 = y10 at *
            generalize vals 11 = y11 at *
            generalize vals 12 = y12 at *
            generalize vals 13 = y13 at *
            generalize vals 14 = y14 at *
            generalize vals 15 = y15 at *
            generalize vals 16 = y16 at *
            generalize vals 17 = y17 at *
            generalize vals 18 = y18 at *
            generalize vals 19 = y19 at *
            generalize vals 20 = y20 at *
            generalize vals 21 = y21 at *
            generalize vals 22 = y22 at *
            generalize vals 23 = y23 at *
            generalize vals 24 = y24 at *
            generalize vals 25 = y25 at *
            generalize vals 26 = y26 at *
            generalize vals 27 = y27 at *
            generalize vals 28 = y28 at *
            generalize vals 29 = y29 at *
            generalize vals 30 = y30 at *
            go_wp2_with fail
            go_roundw
            case rel => exact ⟨j + 1, F3, G3, d3, r3, by omega, by go_num, unhide HP4, unhide HS3, unhide HW3, unhide Hb4⟩
            case measure => simp [intOf]; omega
        · have hk2 : (200 : Int) < (kl : Int) := by omega
          have Hb1 := hide (unhide Hb0 #[.int .i64 5, .int .i64 pl, .int .u8 ((v.toNat : Nat) : Int), .slice ka kl kc])
          go_wp2_with fail
          go_ret
          exact ⟨rfl, unhide Hb1⟩
      · go_wp2_with fail
        have HP1 := hide (unhide HP0 #[.int .i64 kd, .int .i64 pl, .int .u8 ((v.toNat : Nat) : Int), .slice ka kl kc])
        have Hb1 := hide (unhide Hb0 #[.int .i64 kd, .int .i64 pl, .int .u8 ((v.toNat : Nat) : Int), .slice ka kl kc])
        have HK1 := hide (unhide HKK #[.int .i64 kd, .int .i64 pl, .int .u8 ((v.toNat : Nat) : Int), .slice ka kl kc])
        have HOK := hide (unhide HP1).dev.ok
        clear HP0 Hb0 HKK c0 c1 c2 c3 HACT
        rw [← hsb] at HA0 HQ0 ⊢
        generalize wr.alloc (.cells #[.int .i64 kd, .int .i64 pl, .int .u8 ((v.toNat : Nat) : Int), .slice ka kl kc] 42) = w1 at *
        clear hsb
        have HSR := hide ((unhide HS).read pl)
        have HRL := hide (read_len (unhide HOK) pl)
        have HRD : Hid (∀ w2, Below w1.heap.size w1 w2 → Calls Try.prog 27 #[.pointer (some ⟨q, 0, none⟩), .int .i64 pl] w2 fun e w' => e = .returned (.tuple #[secV (readD d pl).1, .int .i64 (readD d pl).2]) ∧ Below w2.heap.size w2 w') := hide (fun w2 hb2 => by
          have := rread_walk ((unhide HP1).ref.below hb2) pl (unhide HWL).2
          rw [unhide HSR] at this
          exact this)
        refine (read_walk (unhide HP1).dev pl).mono ?_
        generalize (readD d pl).1 = xs at *
        generalize (readD d pl).2 = xe at *
        clear HSR
        rintro e w2 ⟨rfl, hb2⟩
        have Hb2 := hide hb2
        clear hb2
        go_wp2_with (refine wpList_alloc 26 26 (bytesV zeroS) rfl rfl alloc26 ?_)
        intro w3 hA3 hb3 hs3
        have HX3 := hide hA3
        have Hb3 := hide ((unhide Hb2).trans (hb3.mono (unhide Hb2).size))
        have hq1 := (unhide Hb2).size
        clear hA3 hb3 Hb2
        generalize w2.heap.size = q1 at *
        go_wp2_with (refine wpList_storeAll 26 _ _ q1 (bytesV xs) (bytesV zeroS) rfl rfl rfl rfl (unhide HX3) (by rw [bytesV_length, bytesV_length, unhide HRL]; rfl) (info26s (unhide HRL)) (bytesV_one _) ?_)
        intro w4 hA4 hg4 hs4
        have HX4 := hide hA4
        have Hb4 := hide ((unhide Hb3).grown hg4 (unhide Hb3).size (fun k hk => by simp at hk; omega))
        have hca1 := ((unhide HA0).below (unhide Hb4)).cell (i := 1) rfl
        clear hA4 hg4 HX3 Hb3
        go_wp2_with fail
        refine (unhide HRD w4 (unhide Hb4)).mono ?_
        rintro e w5 ⟨rfl, hb5⟩
        have HX5 := hide ((unhide HX4).below hb5)
        have Hb5 := hide ((unhide Hb4).trans (hb5.mono (unhide Hb4).size))
        have hq12 : q1 < w5.heap.size := (unhide HX5).lt
        clear hb5 HX4 Hb4 HRD hca1
        go_wp2_with (refine wpList_alloc 26 26 (bytesV zeroS) rfl rfl alloc26 ?_)
        intro w6 hA6 hb6 hs6
        have HY6 := hide hA6
        have HX6 := hide ((unhide HX5).below hb6)
        have Hb6 := hide ((unhide Hb5).trans (hb6.mono (unhide Hb5).size))
        have hq2 := (unhide Hb5).size
        clear hA6 hb6 Hb5 HX5
        generalize w5.heap.size = q2 at *
        go_wp2_with (refine wpList_storeAll 26 _ _ q2 (bytesV xs) (bytesV zeroS) rfl rfl rfl rfl (unhide HY6) (by rw [bytesV_length, bytesV_length, unhide HRL]; rfl) (info26s (unhide HRL)) (bytesV_one _) ?_)
        intro w7 hA7 hg7 hs7
        have HY7 := hide hA7
        have HX7 := hide ((unhide HX6).grown hg7 (by simp; omega))
        have Hb7 := hide ((unhide Hb6).grown hg7 (unhide Hb6).size (fun k hk => by simp at hk; omega))
        clear hA7 hg7 HX6 HY6 Hb6
        have heq : (Op.equalIn 10000 26 (.agg (bytesV xs).toArray) (.agg (bytesV xs).toArray)).run Try.prog w7 = .ok true w7 := by
          have := run_equal26 xs xs (unhide HRL) (unhide HRL) w7
          rw [beq_self_eq_true] at this
          exact this
        have HP3 : Hid (Pair w.heap.size F G w7 p q d r) := hide ((unhide HP1).below (unhide Hb7))
        have Hb3 : Hid (Below w.heap.size w w7) := hide ((unhide Hb1).trans ((unhide Hb7).mono (unhide HP1).size))
        have HS3 := HS
        have HW3 : Hid (d.wait.length ≤ j + 1) := hide (Nat.le_trans (unhide HWT) (Nat.le_succ _))
        clear HP1 Hb1 Hb7 HS HWT HOK HWL HA0 HQ0 HK1
        obtain ⟨w3, hw3⟩ : ∃ w3, w3 = w7 := ⟨_, rfl⟩
        obtain ⟨d3, hd3⟩ : ∃ d3, d3 = d := ⟨_, rfl⟩
        obtain ⟨r3, hr3⟩ : ∃ r3, r3 = r := ⟨_, rfl⟩
        obtain ⟨F3, hF3⟩ : ∃ F3, F3 = F := ⟨_, rfl⟩
        obtain ⟨G3, hG3⟩ : ∃ G3, G3 = G := ⟨_, rfl⟩
        rw [← hF3, ← hG3, ← hd3, ← hr3] at HP3
        rw [← hd3, ← hr3] at HS3
        rw [← hd3] at HW3
        clear hF3 hG3 hd3 hr3
        go_wp2_with (first
          | refine wpList_loadAll 26 _ q1 (bytesV xs) _ rfl rfl rfl (unhide HX7) Try.underlying26 rfl (info26s (unhide HRL)) ?_
          | refine wpList_loadAll 26 _ q2 (bytesV xs) _ rfl rfl rfl (unhide HY7) Try.underlying26 rfl (info26s (unhide HRL)) ?_)
        rw [← hw3] at HP3 Hb3 ⊢
        clear hw3 heq HX7 HY7
        go_wp2_with fail
        obtain ⟨bk, bw, wv, hG9, hRB⟩ := (unhide HP3).ref
        obtain ⟨ad, cp, hwv, _, _⟩ := owns_slice hRB.done
        subst hwv
        have hcq6 := hRB.dev.cell (i := 6) rfl
        have hcq3 := hRB.dev.cell (i := 3) rfl
        have hcq0 := hRB.dev.cell (i := 0) rfl
        clear hG9 hRB
        refine Flow.wp_region (Flow.VV (fun j => match j with | 0 => .int .i64 0 | 1 => .int .i64 0 | 2 => .bool false | 3 => .bool false | 4 => .pointer (some ⟨p, 0, none⟩) | 5 => .bool d3.down | 6 => .pointer (some ⟨q, 0, none⟩) | 7 => .pointer (some ⟨q, 0, none⟩) | 8 => .pointer (some ⟨q, 6, none⟩) | 9 => .bool r3.down | 10 => .bool false | 11 => .bool false | 12 => .bool false | 13 => .pointer (some ⟨p, 0, none⟩) | 14 => .int .i64 (d3.wait.length : Int) | 15 => .pointer (some ⟨q, 0, none⟩) | 16 => .pointer (some ⟨q, 0, none⟩) | 17 => .pointer (some ⟨q, 3, none⟩) | 18 => .slice ad r3.done.length cp | 19 => .int .i64 (r3.done.length : Int) | 20 => .bool false | 21 => .bool false | 22 => .bool false | 23 => .pointer (some ⟨p, 0, none⟩) | 24 => .int .i64 (d3.kept.length : Int) | 25 => .pointer (some ⟨q, 0, none⟩) | 26 => .pointer (some ⟨q, 0, none⟩) | 27 => .pointer (some ⟨q, 0, none⟩) | 28 => .slice (some ⟨bk, 0, none⟩) r3.kept.length r3.kept.length | 29 => .int .i64 (r3.kept.length : Int) | 30 => .bool false | 31 => .bool false | _ => undef)) (fun _ (_ : Unit) w' => w' = w3.drew) () (by kernel_rfl) (by kernel_rfl) rfl ⟨?_, ?_, ?_, ?_, ?_, ?_, ?_, ?_, ?_, ?_, ?_, ?_, ?_, ?_, ?_, ?_, ?_, ?_, ?_, ?_, ?_, ?_, ?_, ?_, ?_, ?_, ?_, ?_, ?_, ?_, ?_, ?_, trivial⟩ ?_
        · exact Flow.move (Flow.goes_plain rfl) (fun _ _ _ h => h) (.inl rfl) fun a s w' hs hd => (hs 11 (by kernel_rfl))
        · exact Flow.move (Flow.goes_plain rfl) (fun _ _ _ h => h) (.inl rfl) fun a s w' hs hd => (hs 12 (by kernel_rfl))
        · refine Flow.pure (Flow.goes_plain rfl) (fun _ _ _ h => h) fun a L s w' hC hL hn hs hd => ?_
          skip
          exact ⟨_, op_neq3 rfl (hd 0 123 (by kernel_rfl)) (hd 1 124 (by kernel_rfl)) (by simp) w', rfl⟩
        · exact Flow.move (Flow.goes_plain rfl) (fun _ _ _ h => h) (.inl rfl) fun a s w' hs hd => (hd 2 125 (by kernel_rfl))
        · exact Flow.move (Flow.goes_guard false rfl rfl rfl (by kernel_rfl) (fun _ _ _ h => h)) (fun _ _ _ h => h) (.inl rfl) fun a s w' hs hd => (hs 7 (by kernel_rfl))
        · refine Flow.call (Flow.goes_guard false rfl rfl rfl (by kernel_rfl) (fun _ _ _ h => h)) fun a L s0 w' hC hL hn hs hd => ⟨13, #[.pointer (some ⟨p, 0, none⟩)], op_call13 (v0 := .pointer (some ⟨p, 0, none⟩)) rfl (hd 4 127 (by kernel_rfl)) rfl w', ?_⟩
          subst hC
          refine (down_walk (unhide HP3).dev.drew).mono ?_
          rintro e w'' ⟨rfl, hw''⟩
          subst w''
          exact ⟨_, (), rfl, fun _ _ _ h => h, rfl, rfl⟩
        · exact Flow.move (Flow.goes_guard false rfl rfl rfl (by kernel_rfl) (fun _ _ _ h => h)) (fun _ _ _ h => h) (.inl rfl) fun a s w' hs hd => (hs 8 (by kernel_rfl))
        · refine Flow.pure (Flow.goes_guard false rfl rfl rfl (by kernel_rfl) (fun _ _ _ h => h)) (fun _ _ _ h => h) fun a L s w' hC hL hn hs hd => ?_
          skip
          exact ⟨_, op_nil rfl (hd 6 129 (by kernel_rfl)) w', rfl⟩
        · refine Flow.pure (Flow.goes_guard false rfl rfl rfl (by kernel_rfl) (fun _ _ _ h => h)) (fun _ _ _ h => h) fun a L s w' hC hL hn hs hd => ?_
          skip
          exact ⟨_, op_f56_6 rfl (hd 7 130 (by kernel_rfl)) w', rfl⟩
        · refine Flow.pure (Flow.goes_guard false rfl rfl rfl (by kernel_rfl) (fun _ _ _ h => h)) (fun _ _ _ h => h) fun a L s w' hC hL hn hs hd => ?_
          skip
          exact ⟨_, op_load4 rfl (hd 8 131 (by kernel_rfl)) (by rw [hC]; exact hcq6), rfl⟩
        · refine Flow.pure (Flow.goes_guard false rfl rfl rfl (by kernel_rfl) (fun _ _ _ h => h)) (fun _ _ _ h => h) fun a L s w' hC hL hn hs hd => ?_
          skip
          exact ⟨_, op_neq4 rfl (hd 5 128 (by kernel_rfl)) (hd 9 132 (by kernel_rfl)) (by rw [(unhide HS3).down]; simp) w', rfl⟩
        · refine Flow.pure (Flow.goes_plain rfl) (fun _ _ _ h => h) fun a L s w' hC hL hn hs hd => ?_
          skip
          exact ⟨_, op_pickF rfl (hd 3 126 (by kernel_rfl)) (hd 10 133 (by kernel_rfl)) w', rfl⟩
        · exact Flow.move (Flow.goes_plain rfl) (fun _ _ _ h => h) (.inl rfl) fun a s w' hs hd => (hd 11 134 (by kernel_rfl))
        · exact Flow.move (Flow.goes_guard false rfl rfl rfl (by kernel_rfl) (fun _ _ _ h => h)) (fun _ _ _ h => h) (.inl rfl) fun a s w' hs hd => (hs 7 (by kernel_rfl))
        · refine Flow.call (Flow.goes_guard false rfl rfl rfl (by kernel_rfl) (fun _ _ _ h => h)) fun a L s0 w' hC hL hn hs hd => ⟨28, #[.pointer (some ⟨p, 0, none⟩)], op_call28 (v0 := .pointer (some ⟨p, 0, none⟩)) rfl (hd 13 136 (by kernel_rfl)) rfl w', ?_⟩
          subst hC
          refine (waiting_walk (unhide HP3).dev.drew).mono ?_
          rintro e w'' ⟨rfl, hw''⟩
          subst w''
          exact ⟨_, (), rfl, fun _ _ _ h => h, rfl, rfl⟩
        · exact Flow.move (Flow.goes_guard false rfl rfl rfl (by kernel_rfl) (fun _ _ _ h => h)) (fun _ _ _ h => h) (.inl rfl) fun a s w' hs hd => (hs 8 (by kernel_rfl))
        · refine Flow.pure (Flow.goes_guard false rfl rfl rfl (by kernel_rfl) (fun _ _ _ h => h)) (fun _ _ _ h => h) fun a L s w' hC hL hn hs hd => ?_
          skip
          exact ⟨_, op_nil rfl (hd 15 138 (by kernel_rfl)) w', rfl⟩
        · refine Flow.pure (Flow.goes_guard false rfl rfl rfl (by kernel_rfl) (fun _ _ _ h => h)) (fun _ _ _ h => h) fun a L s w' hC hL hn hs hd => ?_
          skip
          exact ⟨_, op_f56_3 rfl (hd 16 139 (by kernel_rfl)) w', rfl⟩
        · refine Flow.pure (Flow.goes_guard false rfl rfl rfl (by kernel_rfl) (fun _ _ _ h => h)) (fun _ _ _ h => h) fun a L s w' hC hL hn hs hd => ?_
          skip
          exact ⟨_, op_load54 rfl (hd 17 140 (by kernel_rfl)) (by rw [hC]; exact hcq3), rfl⟩
        · refine Flow.pure (Flow.goes_guard false rfl rfl rfl (by kernel_rfl) (fun _ _ _ h => h)) (fun _ _ _ h => h) fun a L s w' hC hL hn hs hd => ?_
          skip
          exact ⟨_, op_len54 rfl (hd 18 141 (by kernel_rfl))  w', rfl⟩
        · refine Flow.pure (Flow.goes_guard false rfl rfl rfl (by kernel_rfl) (fun _ _ _ h => h)) (fun _ _ _ h => h) fun a L s w' hC hL hn hs hd => ?_
          skip
          exact ⟨_, op_neq3 rfl (hd 14 137 (by kernel_rfl)) (hd 19 142 (by kernel_rfl)) (by rw [(unhide HS3).wait]; simp) w', rfl⟩
        · refine Flow.pure (Flow.goes_plain rfl) (fun _ _ _ h => h) fun a L s w' hC hL hn hs hd => ?_
          skip
          exact ⟨_, op_pickF rfl (hd 12 135 (by kernel_rfl)) (hd 20 143 (by kernel_rfl)) w', rfl⟩
        · exact Flow.move (Flow.goes_plain rfl) (fun _ _ _ h => h) (.inl rfl) fun a s w' hs hd => (hd 21 144 (by kernel_rfl))
        · exact Flow.move (Flow.goes_guard false rfl rfl rfl (by kernel_rfl) (fun _ _ _ h => h)) (fun _ _ _ h => h) (.inl rfl) fun a s w' hs hd => (hs 7 (by kernel_rfl))
        · refine Flow.call (Flow.goes_guard false rfl rfl rfl (by kernel_rfl) (fun _ _ _ h => h)) fun a L s0 w' hC hL hn hs hd => ⟨18, #[.pointer (some ⟨p, 0, none⟩)], op_call18 (v0 := .pointer (some ⟨p, 0, none⟩)) rfl (hd 23 146 (by kernel_rfl)) rfl w', ?_⟩
          subst hC
          refine (size_walk (unhide HP3).dev.drew).mono ?_
          rintro e w'' ⟨rfl, hw''⟩
          subst w''
          exact ⟨_, (), rfl, fun _ _ _ h => h, rfl, rfl⟩
        · exact Flow.move (Flow.goes_guard false rfl rfl rfl (by kernel_rfl) (fun _ _ _ h => h)) (fun _ _ _ h => h) (.inl rfl) fun a s w' hs hd => (hs 8 (by kernel_rfl))
        · refine Flow.pure (Flow.goes_guard false rfl rfl rfl (by kernel_rfl) (fun _ _ _ h => h)) (fun _ _ _ h => h) fun a L s w' hC hL hn hs hd => ?_
          skip
          exact ⟨_, op_nil rfl (hd 25 148 (by kernel_rfl)) w', rfl⟩
        · refine Flow.pure (Flow.goes_guard false rfl rfl rfl (by kernel_rfl) (fun _ _ _ h => h)) (fun _ _ _ h => h) fun a L s w' hC hL hn hs hd => ?_
          skip
          exact ⟨_, op_f56_0 rfl (hd 26 149 (by kernel_rfl)) w', rfl⟩
        · refine Flow.pure (Flow.goes_guard false rfl rfl rfl (by kernel_rfl) (fun _ _ _ h => h)) (fun _ _ _ h => h) fun a L s w' hC hL hn hs hd => ?_
          skip
          exact ⟨_, op_load52 rfl (hd 27 150 (by kernel_rfl)) (by rw [hC]; exact hcq0), rfl⟩
        · refine Flow.pure (Flow.goes_guard false rfl rfl rfl (by kernel_rfl) (fun _ _ _ h => h)) (fun _ _ _ h => h) fun a L s w' hC hL hn hs hd => ?_
          skip
          exact ⟨_, op_len52 rfl (hd 28 151 (by kernel_rfl))  w', rfl⟩
        · refine Flow.pure (Flow.goes_guard false rfl rfl rfl (by kernel_rfl) (fun _ _ _ h => h)) (fun _ _ _ h => h) fun a L s w' hC hL hn hs hd => ?_
          skip
          exact ⟨_, op_neq3 rfl (hd 24 147 (by kernel_rfl)) (hd 29 152 (by kernel_rfl)) (by rw [(unhide HS3).kept]; simp) w', rfl⟩
        · refine Flow.pure (Flow.goes_plain rfl) (fun _ _ _ h => h) fun a L s w' hC hL hn hs hd => ?_
          skip
          exact ⟨_, op_pickF rfl (hd 22 145 (by kernel_rfl)) (hd 30 153 (by kernel_rfl)) w', rfl⟩
        · intro L _ w4 hC hL vals hv
          have e31 : vals 31 = .bool false := hv 31 _ 154 rfl rfl
          simp only [Free.putAll, Act.put, List.setIfInBounds_toArray, List.set_cons_succ, List.set_cons_zero, e31]
          have HP4 : Hid (Pair w.heap.size F3 G3 w4 p q d3 r3) := hide (by rw [hC]; exact (unhide HP3).below (Below.refl _ w3).drew)
          have Hb4 : Hid (Below w.heap.size w w4) := hide (by rw [hC]; exact (unhide Hb3).drew)
          clear hv hL e31 hC HP3 Hb3 hcq6 hcq3 hcq0
          generalize vals 0 = y0 at *
          generalize vals 1 = y1 at *
          generalize vals 2 = y2 at *
          generalize vals 3 = y3 at *
          generalize vals 4 = y4 at *
          generalize vals 5 = y5 at *
          generalize vals 6 = y6 at *
          generalize vals 7 = y7 at *
          generalize vals 8 = y8 at *
          generalize vals 9 = y9 at *
          generalize vals 10 = y10 at *
          generalize vals 11 = y11 at *
          generalize vals 12 = y12 at *
          generalize vals 13 = y13 at *
          generalize vals 14 = y14 at *
          generalize vals 15 = y15 at *
          generalize vals 16 = y16 at *
          generalize vals 17 = y17 at *
          generalize vals 18 = y18 at *
          generalize vals 19 = y19 at *
          generalize vals 20 = y20 at *
          generalize vals 21 = y21 at *
          generalize vals 22 = y22 at *
          generalize vals 23 = y23 at *
          generalize vals 24 = y24 at *
          generalize vals 25 = y25 at *
          generalize vals 26 = y26 at *
          generalize vals 27 = y27 at *
          generalize vals 28 = y28 at *
          generalize vals 29 = y29 at *
          generalize vals 30 = y30 at *
          go_wp2_with fail
          go_roundw
          case rel => exact ⟨j + 1, F3, G3, d3, r3, by omega, by go_num, unhide HP4, unhide HS3, unhide HW3, unhide Hb4⟩
          case measure => simp [intOf]; omega
    · clear HACT
      have hc0 : wr.cell? ⟨q, 0, none⟩ = some (.slice (some ⟨(0 : Nat), 0, none⟩) 0 0) ∨ True := .inr trivial
      clear hc0 hb
      obtain ⟨bk, bw, wv, hG9, hRB⟩ := (unhide HP).ref
      have hcq0 := hRB.dev.cell (i := 0) rfl
      have hn30 : r.kept.length ≤ 4096 := hRB.ok.few
      clear hG9 hRB
      go_wp2
      go_loopw [161] (fun ci wr => ∃ i : Nat, i ≤ r.kept.length ∧ ci = .int .i64 (i : Int) ∧ Pair w.heap.size F G wr p q d r ∧ Below w.heap.size w wr) (fun ci _ => r.kept.length - (intOf ci).toNat)
      case atStart => exact ⟨0, by omega, rfl, unhide HP, unhide Hb⟩
      case round =>
        obtain ⟨i, hi, rfl, hP, hb⟩ := hrel
        clear HP Hb hcq0
        have HP := hide hP
        have Hb := hide hb
        have HOK := hide hP.dev.ok
        clear hP hb
        by_cases hilt : i < r.kept.length
        · have hke := (unhide HS).kept
          have hik : i < d.kept.length := by rw [← hke]; exact hilt
          have hhas : hasD d.kept.length (i : Int) = true := by simp [hasD]; omega
          have HSR := hide ((unhide HS).read (i : Int))
          have HRL := hide (read_len (unhide HOK) (i : Int))
          have HRE : Hid ((readD d (i : Int)).2 = 0) := hide (by unfold readD; rw [if_pos hhas])
          have HWE : Hid (wearD d (i : Int) = d.wear.getD i 0) := hide (by unfold wearD; rw [if_pos hhas]; rfl)
          have HRD : Hid (∀ w2, Below wr.heap.size wr w2 → Calls Try.prog 27 #[.pointer (some ⟨q, 0, none⟩), .int .i64 (i : Int)] w2 fun e w' => e = .returned (.tuple #[secV (readD d (i : Int)).1, .int .i64 0]) ∧ Below w2.heap.size w2 w') := hide (fun w2 hb2 => by
            have := rread_walk ((unhide HP).ref.below hb2) (i : Int) (by rw [(unhide HS).wait]; omega)
            rw [unhide HSR, unhide HRE] at this
            exact this)
          have HRR := hide (read_walk (unhide HP).dev (i : Int))
          rw [unhide HRE] at HRR
          clear HSR HRE hke hhas
          generalize (readD d (i : Int)).1 = xs at *
          go_wp2_with fail
          refine (unhide HRR).mono ?_
          rintro e w2 ⟨rfl, hb2⟩
          have Hb2 := hide hb2
          clear hb2 HRR
          go_wp2_with (refine wpList_alloc 26 26 (bytesV zeroS) rfl rfl alloc26 ?_)
          intro w3 hA3 hb3 hs3
          have HX3 := hide hA3
          have Hb3 := hide ((unhide Hb2).trans (hb3.mono (unhide Hb2).size))
          have hq1 := (unhide Hb2).size
          clear hA3 hb3 Hb2
          generalize w2.heap.size = q1 at *
          go_wp2_with (refine wpList_storeAll 26 _ _ q1 (bytesV xs) (bytesV zeroS) rfl rfl rfl rfl (unhide HX3) (by rw [bytesV_length, bytesV_length, unhide HRL]; rfl) (info26s (unhide HRL)) (bytesV_one _) ?_)
          intro w4 hA4 hg4 hs4
          have HX4 := hide hA4
          have Hb4 := hide ((unhide Hb3).grown hg4 (unhide Hb3).size (fun k hk => by simp at hk; omega))
          clear hA4 hg4 HX3 Hb3
          go_wp2_with fail
          refine (unhide HRD w4 (unhide Hb4)).mono ?_
          rintro e w5 ⟨rfl, hb5⟩
          have HX5 := hide ((unhide HX4).below hb5)
          have Hb5 := hide ((unhide Hb4).trans (hb5.mono (unhide Hb4).size))
          have hq12 : q1 < w5.heap.size := (unhide HX5).lt
          clear hb5 HX4 Hb4 HRD
          go_wp2_with (refine wpList_alloc 26 26 (bytesV zeroS) rfl rfl alloc26 ?_)
          intro w6 hA6 hb6 hs6
          have HY6 := hide hA6
          have HX6 := hide ((unhide HX5).below hb6)
          have Hb6 := hide ((unhide Hb5).trans (hb6.mono (unhide Hb5).size))
          have hq2 := (unhide Hb5).size
          clear hA6 hb6 Hb5 HX5
          generalize w5.heap.size = q2 at *
          go_wp2_with (refine wpList_storeAll 26 _ _ q2 (bytesV xs) (bytesV zeroS) rfl rfl rfl rfl (unhide HY6) (by rw [bytesV_length, bytesV_length, unhide HRL]; rfl) (info26s (unhide HRL)) (bytesV_one _) ?_)
          intro w7 hA7 hg7 hs7
          have HY7 := hide hA7
          have HX7 := hide ((unhide HX6).grown hg7 (by simp; omega))
          have Hb7 := hide ((unhide Hb6).grown hg7 (unhide Hb6).size (fun k hk => by simp at hk; omega))
          have HP7 := hide ((unhide HP).below (unhide Hb7))
          have HbN := hide ((unhide Hb).trans ((unhide Hb7).mono (unhide HP).size))
          clear hA7 hg7 HX6 HY6 Hb6 HP Hb Hb7
          obtain ⟨bk, bw, wv, hG9, hRB⟩ := (unhide HP7).ref
          have hcq1 := hRB.dev.cell (i := 1) rfl
          have hcw := hRB.wear.cell (intsV_get r.wear (i := i) (by rw [hRB.ok.wear]; exact hilt))
          clear hG9 hRB
          go_wp2_with fail
          refine Flow.wp_region (Flow.VV (fun j => match j with | 0 => .int .i64 0 | 1 => .bool false | 2 => .bool false | 3 => secV xs | 4 => secV xs | 5 => .bool false | 6 => .bool false | 7 => .bool false | 8 => .pointer (some ⟨p, 0, none⟩) | 9 => .int .i64 (i : Int) | 10 => .int .i64 ((wearD d (i : Int) : Nat) : Int) | 11 => .pointer (some ⟨q, 0, none⟩) | 12 => .pointer (some ⟨q, 0, none⟩) | 13 => .pointer (some ⟨q, 1, none⟩) | 14 => .slice (some ⟨bw, 0, none⟩) r.kept.length r.kept.length | 15 => .int .i64 (i : Int) | 16 => .pointer (some ⟨bw, i, none⟩) | 17 => .int .i64 ((r.wear.getD i 0 : Nat) : Int) | 18 => .bool false | 19 => .bool false | _ => undef)) (fun _ (_ : Unit) w' => w' = w7.drew) () (by kernel_rfl) (by kernel_rfl) rfl ⟨?_, ?_, ?_, ?_, ?_, ?_, ?_, ?_, ?_, ?_, ?_, ?_, ?_, ?_, ?_, ?_, ?_, ?_, ?_, ?_, trivial⟩ ?_
          · exact Flow.move (Flow.goes_plain rfl) (fun _ _ _ h => h) (.inl rfl) fun a s w' hs hd => (hs 19 (by kernel_rfl))
          · refine Flow.pure (Flow.goes_plain rfl) (fun _ _ _ h => h) fun a L s w' hC hL hn hs hd => ?_
            skip
            exact ⟨_, op_neq27 rfl (hd 0 176 (by kernel_rfl)) rfl (by simp) w', rfl⟩
          · exact Flow.move (Flow.goes_plain rfl) (fun _ _ _ h => h) (.inl rfl) fun a s w' hs hd => (hd 1 177 (by kernel_rfl))
          · refine Flow.pure (Flow.goes_guard false rfl rfl rfl (by kernel_rfl) (fun _ _ _ h => h)) (fun _ _ _ h => h) fun a L s w' hC hL hn hs hd => ?_
            skip
            exact ⟨_, op_load26 rfl (hs 18 (by kernel_rfl)) (by rw [hC]; exact (unhide HX7).range) (unhide HRL), rfl⟩
          · refine Flow.pure (Flow.goes_guard false rfl rfl rfl (by kernel_rfl) (fun _ _ _ h => h)) (fun _ _ _ h => h) fun a L s w' hC hL hn hs hd => ?_
            skip
            exact ⟨_, op_load26 rfl (hs 20 (by kernel_rfl)) (by rw [hC]; exact (unhide HY7).range) (unhide HRL), rfl⟩
          · refine Flow.pure (Flow.goes_guard false rfl rfl rfl (by kernel_rfl) (fun _ _ _ h => h)) (fun _ _ _ h => h) fun a L s w' hC hL hn hs hd => ?_
            skip
            exact ⟨_, op_neq26 rfl (hd 3 179 (by kernel_rfl)) (hd 4 180 (by kernel_rfl)) (by simp) (unhide HRL) (unhide HRL) w', rfl⟩
          · refine Flow.pure (Flow.goes_plain rfl) (fun _ _ _ h => h) fun a L s w' hC hL hn hs hd => ?_
            skip
            exact ⟨_, op_pickF rfl (hd 2 178 (by kernel_rfl)) (hd 5 181 (by kernel_rfl)) w', rfl⟩
          · exact Flow.move (Flow.goes_plain rfl) (fun _ _ _ h => h) (.inl rfl) fun a s w' hs hd => (hd 6 182 (by kernel_rfl))
          · exact Flow.move (Flow.goes_guard false rfl rfl rfl (by kernel_rfl) (fun _ _ _ h => h)) (fun _ _ _ h => h) (.inl rfl) fun a s w' hs hd => (hs 7 (by kernel_rfl))
          · exact Flow.move (Flow.goes_guard false rfl rfl rfl (by kernel_rfl) (fun _ _ _ h => h)) (fun _ _ _ h => h) (.inl rfl) fun a s w' hs hd => (hs 17 (by kernel_rfl))
          · refine Flow.call (Flow.goes_guard false rfl rfl rfl (by kernel_rfl) (fun _ _ _ h => h)) fun a L s0 w' hC hL hn hs hd => ⟨15, #[.pointer (some ⟨p, 0, none⟩), .int .i64 (i : Int)], op_call15 (v0 := .pointer (some ⟨p, 0, none⟩)) (v1 := .int .i64 (i : Int)) rfl (hd 8 184 (by kernel_rfl)) (hd 9 185 (by kernel_rfl)) rfl w', ?_⟩
            subst hC
            refine (wear_walk (unhide HP7).dev.drew (i : Int)).mono ?_
            rintro e w'' ⟨rfl, hw''⟩
            subst w''
            exact ⟨_, (), rfl, fun _ _ _ h => h, rfl, rfl⟩
          · exact Flow.move (Flow.goes_guard false rfl rfl rfl (by kernel_rfl) (fun _ _ _ h => h)) (fun _ _ _ h => h) (.inl rfl) fun a s w' hs hd => (hs 8 (by kernel_rfl))
          · refine Flow.pure (Flow.goes_guard false rfl rfl rfl (by kernel_rfl) (fun _ _ _ h => h)) (fun _ _ _ h => h) fun a L s w' hC hL hn hs hd => ?_
            skip
            exact ⟨_, op_nil rfl (hd 11 187 (by kernel_rfl)) w', rfl⟩
          · refine Flow.pure (Flow.goes_guard false rfl rfl rfl (by kernel_rfl) (fun _ _ _ h => h)) (fun _ _ _ h => h) fun a L s w' hC hL hn hs hd => ?_
            skip
            exact ⟨_, op_f56_1 rfl (hd 12 188 (by kernel_rfl)) w', rfl⟩
          · refine Flow.pure (Flow.goes_guard false rfl rfl rfl (by kernel_rfl) (fun _ _ _ h => h)) (fun _ _ _ h => h) fun a L s w' hC hL hn hs hd => ?_
            skip
            exact ⟨_, op_load53 rfl (hd 13 189 (by kernel_rfl)) (by rw [hC]; exact hcq1), rfl⟩
          · exact Flow.move (Flow.goes_guard false rfl rfl rfl (by kernel_rfl) (fun _ _ _ h => h)) (fun _ _ _ h => h) (.inl rfl) fun a s w' hs hd => (hs 17 (by kernel_rfl))
          · refine Flow.pure (Flow.goes_guard false rfl rfl rfl (by kernel_rfl) (fun _ _ _ h => h)) (fun _ _ _ h => h) fun a L s w' hC hL hn hs hd => ?_
            skip
            exact ⟨_, op_idx53 rfl (hd 14 190 (by kernel_rfl)) (hd 15 191 (by kernel_rfl)) hilt w', rfl⟩
          · refine Flow.pure (Flow.goes_guard false rfl rfl rfl (by kernel_rfl) (fun _ _ _ h => h)) (fun _ _ _ h => h) fun a L s w' hC hL hn hs hd => ?_
            skip
            exact ⟨_, op_load3 rfl (hd 16 192 (by kernel_rfl)) (by rw [hC]; exact hcw), rfl⟩
          · refine Flow.pure (Flow.goes_guard false rfl rfl rfl (by kernel_rfl) (fun _ _ _ h => h)) (fun _ _ _ h => h) fun a L s w' hC hL hn hs hd => ?_
            skip
            exact ⟨_, op_neq3 rfl (hd 10 186 (by kernel_rfl)) (hd 17 193 (by kernel_rfl)) (by rw [unhide HWE, (unhide HS).wear]; simp) w', rfl⟩
          · refine Flow.pure (Flow.goes_plain rfl) (fun _ _ _ h => h) fun a L s w' hC hL hn hs hd => ?_
            skip
            exact ⟨_, op_pickF rfl (hd 7 183 (by kernel_rfl)) (hd 18 194 (by kernel_rfl)) w', rfl⟩
          · intro L _ w8 hC hL vals hv
            have e19 : vals 19 = .bool false := hv 19 _ 195 rfl rfl
            simp only [Free.putAll, Act.put, List.setIfInBounds_toArray, List.set_cons_succ, List.set_cons_zero, e19]
            have HP8 : Hid (Pair w.heap.size F G w8 p q d r) := hide (by rw [hC]; exact (unhide HP7).below (Below.refl _ w7).drew)
            have Hb8 : Hid (Below w.heap.size w w8) := hide (by rw [hC]; exact (unhide HbN).drew)
            clear hv hL e19 hC HP7 HbN hcq1 hcw HX7 HY7
            generalize vals 0 = y0 at *
            generalize vals 1 = y1 at *
            generalize vals 2 = y2 at *
            generalize vals 3 = y3 at *
            generalize vals 4 = y4 at *
            generalize vals 5 = y5 at *
            generalize vals 6 = y6 at *
            generalize vals 7 = y7 at *
            generalize vals 8 = y8 at *
            generalize vals 9 = y9 at *
            generalize vals 10 = y10 at *
            generalize vals 11 = y11 at *
            generalize vals 12 = y12 at *
            generalize vals 13 = y13 at *
            generalize vals 14 = y14 at *
            generalize vals 15 = y15 at *
            generalize vals 16 = y16 at *
            generalize vals 17 = y17 at *
            generalize vals 18 = y18 at *
            go_wp2_with fail
            go_roundw
            case rel => exact ⟨i + 1, by omega, by go_num, unhide HP8, unhide Hb8⟩
            case measure => simp [intOf]; omega
        · go_wp2_with fail
          go_ret
          exact ⟨rfl, unhide Hb⟩

set_option maxHeartbeats 1600000 in
set_option maxRecDepth 100000 in
theorem walk (sx wx : Int) (a : Option Addr) (len cap : Nat) (w : World) (_h0 : (Lit.int .i64 sx).wf = true) (_h1 : (Lit.int .i64 wx).wf = true) (_hm : len ≤ maxLen) (hA : Acts w.heap.size w a len) :
    Calls Try.prog 4 #[.int .i64 sx, .int .i64 wx, .slice a len cap] w fun e w' => e = .returned (.bool true) ∧ Below w.heap.size w w' := by
  by_cases h : sx ≤ 30 ∧ len ≤ 120
  · exact main sx wx h.1 a len cap h.2 w hA
  · clear hA
    have hn : 30 < sx ∨ (sx ≤ 30 ∧ 120 < len) := by omega
    clear h
    rcases hn with h | h
    all_goals (
      go_enter Try.func4, Try.ntmps4
      go_wp2_with fail
      refine (alive_walk w).mono ?_
      rintro e w1 ⟨rfl, hb1⟩
      have Hb1 := hide hb1
      clear hb1
      go_wp2_with fail
      go_ret
      exact ⟨rfl, unhide Hb1⟩)
end flashRuns
end Go.Proofs.Ytebahemgbpjldaa
