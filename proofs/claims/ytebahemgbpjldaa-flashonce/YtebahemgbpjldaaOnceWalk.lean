/-
  FlashOnce: the walk.
-/
import Derived.Test.YtebahemgbpjldaaAlive
import Derived.Test.YtebahemgbpjldaaKit
namespace Go.Proofs.Ytebahemgbpjldaa
open Go.RowKit
namespace flashOnce

theorem full_blank (v : UInt8) : fullS v ≠ blankS := by
  intro h
  have h0 : (fullS v)[0]? = blankS[0]? := by rw [h]
  have h63 : (fullS v)[63]? = blankS[63]? := by rw [h]
  have e0 : (fullS v)[0]? = some v := by simp [fullS]
  have e63 : (fullS v)[63]? = some (v ^^^ 1) := by simp [fullS]
  rw [e0] at h0
  rw [e63] at h63
  have b0 : blankS[0]? = some 255 := by decide
  have b63 : blankS[63]? = some 255 := by decide
  rw [b0] at h0
  rw [b63] at h63
  simp only [Option.some.injEq] at h0 h63
  rw [h0] at h63
  exact absurd h63 (by decide)

/-- What is known of the device in the midst of it. -/
structure Inv (m j : Nat) (b : Bool) (er : Nat) (d : DM) : Prop where
  ok : d.Ok
  kept : d.kept.length = 3
  down : d.down = false
  budget : d.budget = -1
  most : d.most = m
  now : (d.now.getD 1 [] == blankS) = b
  wear : d.wear.getD 1 0 = er
  less : er ≤ m
  wait : d.wait.length ≤ j
theorem Inv.open {m j : Nat} {b : Bool} {er : Nat} {d : DM} (h : Inv m j b er d) : openD d 1 = 0 := by
  unfold openD
  rw [h.kept, h.down]
  decide
theorem Inv.step {m j : Nat} {b : Bool} {er : Nat} {d : DM} (h : Inv m j b er d) : stepD d = (0, d) := by
  unfold stepD
  rw [h.budget, if_neg (by decide), if_pos rfl, ← h.budget]
theorem Inv.full {m j : Nat} {b : Bool} {er : Nat} {d : DM} (h : Inv m j b er d) (he : ¬ er < m) : eraseD d 1 = (64, d) := by
  unfold eraseD
  rw [if_neg (by rw [h.open]; simp), if_pos ?_]
  have h1 := h.wear
  have h2 := h.most
  have h3 : d.wear.getD (1 : Int).toNat 0 = er := h1
  omega
theorem Inv.erase {m j : Nat} {b : Bool} {er : Nat} {d : DM} (h : Inv m j b er d) (he : er < m) : (eraseD d 1).1 = 0 ∧ Inv m (j + 1) true (er + 1) (eraseD d 1).2 := by
  have h3 : d.wear.getD (1 : Int).toNat 0 = er := h.wear
  have hok := h.ok.erase 1
  have e : eraseD d 1 = (0, doD (wornD d 1) 1 blankS) := by
    unfold eraseD
    rw [if_neg (by rw [h.open]; simp), if_neg (by rw [h3, h.most]; omega), if_neg (by rw [h.step]; simp), h.step]
    rfl
  rw [e] at hok ⊢
  have hn := h.ok.now
  have hw := h.ok.wear
  have hk := h.kept
  refine ⟨rfl, ⟨hok, h.kept, h.down, h.budget, h.most, ?_, ?_, he, ?_⟩⟩
  · show ((d.now.set 1 blankS).getD 1 [] == blankS) = true
    rw [List.getD_eq_getElem?_getD, List.getElem?_set_self (by omega)]
    simp
  · show (d.wear.set 1 (d.wear.getD 1 0 + 1)).getD 1 0 = er + 1
    rw [List.getD_eq_getElem?_getD, List.getElem?_set_self (by omega), h.wear]
    rfl
  · show (d.wait ++ [(1, blankS)]).length ≤ j + 1
    have := h.wait
    simp; omega
theorem Inv.dirty {m j : Nat} {er : Nat} {d : DM} (h : Inv m j false er d) (s : Sec) : programD d 1 s = (63, d) := by
  unfold programD
  rw [if_neg (by rw [h.open]; simp), if_pos ?_]
  have := h.now
  intro e
  rw [show d.now.getD 1 [] = blankS from e] at this
  simp at this
theorem Inv.program {m j : Nat} {er : Nat} {d : DM} (h : Inv m j true er d) (v : UInt8) : (programD d 1 (fullS v)).1 = 0 ∧ Inv m (j + 1) false er (programD d 1 (fullS v)).2 := by
  have hok := h.ok.program 1 (fullS_len v)
  have e : programD d 1 (fullS v) = (0, doD d 1 (fullS v)) := by
    unfold programD
    rw [if_neg (by rw [h.open]; simp), if_neg (by
      have := h.now
      simp only [beq_iff_eq] at this
      intro q
      exact q this), if_neg (by rw [h.step]; simp), h.step]
    rfl
  rw [e] at hok ⊢
  have hn := h.ok.now
  have hk := h.kept
  refine ⟨rfl, ⟨hok, h.kept, h.down, h.budget, h.most, ?_, h.wear, h.less, ?_⟩⟩
  · show ((d.now.set 1 (fullS v)).getD 1 [] == blankS) = false
    rw [List.getD_eq_getElem?_getD, List.getElem?_set_self (by omega)]
    simp only [Option.getD_some, beq_eq_false_iff_ne]
    exact full_blank v
  · show (d.wait ++ [(1, fullS v)]).length ≤ j + 1
    have := h.wait
    simp; omega
theorem Inv.read {m j : Nat} {b : Bool} {er : Nat} {d : DM} (h : Inv m j b er d) : readD d 1 = (d.now.getD 1 [], 0) := by
  unfold readD
  rw [h.kept, if_pos (by decide)]
  rfl
theorem Inv.wearD {m j : Nat} {b : Bool} {er : Nat} {d : DM} (h : Inv m j b er d) : wearD d 1 = er := by
  unfold Ytebahemgbpjldaa.wearD
  rw [h.kept, if_pos (by decide)]
  exact h.wear
theorem Inv.up {m j : Nat} {b : Bool} {er : Nat} {d : DM} (h : Inv m j b er d) : Inv m (j + 1) b er d := { h with wait := Nat.le_succ_of_le h.wait }
theorem Inv.new (m : Nat) (hm : m ≤ 50) : Inv m 0 true 0 (newD 3 (m : Int)) := by
  have hc : clampD (m : Int) 100000 = m := by unfold clampD; omega
  exact ⟨newD_ok _ _, by rw [newD_kept]; decide, rfl, rfl, hc, by show ((List.replicate (clampD 3 4096) blankS).getD 1 [] == blankS) = true; decide +kernel, by show (List.replicate (clampD 3 4096) 0).getD 1 0 = 0; decide +kernel, Nat.zero_le _, Nat.le_refl _⟩

section
variable {F : List Nat} {w : World} {p : Nat} {d : DM}
/-- The calls, at such a device. -/
theorem c_full {m j : Nat} {b : Bool} {er : Nat} (h : Dev F w p d) (hI : Inv m j b er d) (he : ¬ er < m) (hj : j ≤ 1000) : Calls Try.prog 10 #[.pointer (some ⟨p, 0, none⟩), .int .i64 1] w fun e w' => e = .returned (.int .i64 64) ∧ ∃ F' d', Dev F' w' p d' ∧ Turns F F' w w' ∧ Inv m (j + 1) b er d' := by
  have := erase_walk h 1 (by have := hI.wait; omega)
  rw [hI.full he] at this
  refine this.mono ?_
  rintro e w' ⟨rfl, F', h1, h2⟩
  exact ⟨rfl, F', d, h1, h2, hI.up⟩
theorem c_erase {m j : Nat} {b : Bool} {er : Nat} (h : Dev F w p d) (hI : Inv m j b er d) (he : er < m) (hj : j ≤ 1000) : Calls Try.prog 10 #[.pointer (some ⟨p, 0, none⟩), .int .i64 1] w fun e w' => e = .returned (.int .i64 0) ∧ ∃ F' d', Dev F' w' p d' ∧ Turns F F' w w' ∧ Inv m (j + 1) true (er + 1) d' := by
  have := erase_walk h 1 (by have := hI.wait; omega)
  rw [(hI.erase he).1] at this
  refine this.mono ?_
  rintro e w' ⟨rfl, F', h1, h2⟩
  exact ⟨rfl, F', _, h1, h2, (hI.erase he).2⟩
theorem c_dirty {m j : Nat} {er : Nat} (h : Dev F w p d) (hI : Inv m j false er d) (v : UInt8) (hj : j ≤ 1000) : Calls Try.prog 12 #[.pointer (some ⟨p, 0, none⟩), .int .i64 1, secV (fullS v)] w fun e w' => e = .returned (.int .i64 63) ∧ ∃ F' d', Dev F' w' p d' ∧ Turns F F' w w' ∧ Inv m (j + 1) false er d' := by
  have := program_walk h 1 (fullS v) (fullS_len v) (by have := hI.wait; omega)
  rw [hI.dirty (fullS v)] at this
  refine this.mono ?_
  rintro e w' ⟨rfl, F', h1, h2⟩
  exact ⟨rfl, F', d, h1, h2, hI.up⟩
theorem c_program {m j : Nat} {er : Nat} (h : Dev F w p d) (hI : Inv m j true er d) (v : UInt8) (hj : j ≤ 1000) : Calls Try.prog 12 #[.pointer (some ⟨p, 0, none⟩), .int .i64 1, secV (fullS v)] w fun e w' => e = .returned (.int .i64 0) ∧ ∃ F' d', Dev F' w' p d' ∧ Turns F F' w w' ∧ Inv m (j + 1) false er d' := by
  have := program_walk h 1 (fullS v) (fullS_len v) (by have := hI.wait; omega)
  rw [(hI.program v).1] at this
  refine this.mono ?_
  rintro e w' ⟨rfl, F', h1, h2⟩
  exact ⟨rfl, F', _, h1, h2, (hI.program v).2⟩
theorem c_read {m j : Nat} {b : Bool} {er : Nat} (h : Dev F w p d) (hI : Inv m j b er d) : Calls Try.prog 9 #[.pointer (some ⟨p, 0, none⟩), .int .i64 1] w fun e w' => ∃ s : Sec, s.length = 64 ∧ (s == blankS) = b ∧ e = .returned (.tuple #[secV s, .int .i64 0]) ∧ Below w.heap.size w w' := by
  have := read_walk h 1
  rw [hI.read] at this
  refine this.mono ?_
  rintro e w' ⟨rfl, hb⟩
  exact ⟨_, getD_mem64 hI.ok.nowS (by rw [hI.ok.now, hI.kept]; decide), hI.now, rfl, hb⟩
theorem c_wear {m j : Nat} {b : Bool} {er : Nat} (h : Dev F w p d) (hI : Inv m j b er d) : Calls Try.prog 15 #[.pointer (some ⟨p, 0, none⟩), .int .i64 1] w fun e w' => e = .returned (.int .i64 (er : Int)) ∧ w' = w := by
  have := wear_walk h 1
  rw [hI.wearD] at this
  exact this
end

set_option maxHeartbeats 3200000 in
set_option maxRecDepth 100000 in
theorem main (m : Nat) (hm : m ≤ 50) (a : Option Addr) (len cap : Nat) (hlen : len ≤ 100) (bs : List UInt8) (w : World) (hB : RowV w.heap.size w (.slice a len cap) bs) :
    Calls Try.prog 6 #[.int .i64 (m : Int), .slice a len cap] w fun e w' => e = .returned (.bool true) ∧ Below w.heap.size w w' := by
  have HB := hide hB
  clear hB
  go_enter Try.func6, Try.ntmps6
  go_wp2_with fail
  refine (alive_walk w).mono ?_
  rintro e w1 ⟨rfl, hb1⟩
  have Hb1 := hide hb1
  clear hb1
  go_wp2_with fail
  refine (new_walk 3 (m : Int) w1).mono ?_
  rintro e w2 ⟨F, p, rfl, hD, hF, hb⟩
  have hs := (unhide Hb1).size
  have HD2 := hide hD
  have HF2 : Hid (∀ k ∈ F, w.heap.size ≤ k) := hide (fun k hk => Nat.le_trans hs (hF k hk))
  have Hb2 := hide ((unhide Hb1).trans (hb.mono hs))
  have HI2 := hide (Inv.new m hm)
  clear hD hF hb Hb1 hs
  generalize newD 3 (m : Int) = d at *
  go_wp2
  go_loopw [31, 6, 7] (fun ci cb ce wr => ∃ (j er : Nat) (b : Bool) (F : List Nat) (d : DM), j ≤ len ∧ ci = .int .i64 (j : Int) ∧ cb = .bool b ∧ ce = .int .i64 (er : Int) ∧ Dev F wr p d ∧ Inv m j b er d ∧ (∀ k ∈ F, w.heap.size ≤ k) ∧ Below w.heap.size w wr) (fun ci _ _ _ => len - (intOf ci).toNat)
  case atStart => exact ⟨0, 0, true, F, d, by omega, rfl, rfl, rfl, unhide HD2, unhide HI2, unhide HF2, unhide Hb2⟩
  case round =>
    clear HD2 HI2 HF2 Hb2
    obtain ⟨j, er, b, F, d, hj, rfl, rfl, rfl, hD, hI, hF, hb⟩ := hrel
    have HD := hide hD
    have HI := hide hI
    have HF := hide hF
    have Hb := hide hb
    have hle := hI.less
    clear hD hI hF
    by_cases hlt : j < len
    · obtain ⟨a', len', cap', e', _, _, _, hrow⟩ := (unhide HB).below hb
      cases e'
      obtain ⟨bb, off, rfl, _, hc⟩ := hrow.2.2 j hlt
      clear hb hrow
      generalize bs.getD j 0 = v at *
      by_cases h3 : v.toNat % 3 = 0
      · have h3' : ((v.toNat : Nat) : Int).tmod 3 = 0 := by
          rw [Int.tmod_eq_emod_of_nonneg (by omega)]; omega
        by_cases he : er < m
        · go_wp2_with fail
          refine (c_erase (unhide HD) (unhide HI) he (by omega)).mono ?_
          rintro e w3 ⟨rfl, F3, d3, hD3, hT3, hI3⟩
          have hu := hT3.under (unhide HF) (unhide Hb).size
          have HD3 := hide hD3
          have HI3 := hide hI3
          have HF3 := hide hu.2
          have Hb3 := hide ((unhide Hb).trans hu.1)
          have hle3 := hI3.less
          clear hD3 hT3 hu hI3 HD HI HF Hb
          go_wp2_with fail
          refine (c_read (unhide HD3) (unhide HI3)).mono ?_
          rintro e w4 ⟨xs, hxl, hxb, rfl, hb4⟩
          have HXL := hide hxl
          have HXB := hide hxb
          have HD4 := hide ((unhide HD3).below hb4)
          have Hb4 := hide ((unhide Hb3).trans (hb4.mono (unhide Hb3).size))
          clear hxl hxb hb4 HD3 Hb3
          go_wp2_with (refine wpList_alloc 26 26 (bytesV zeroS) rfl rfl alloc26 ?_)
          intro w5 hA5 hb5 hs5
          have HA5 := hide hA5
          have HD5 := hide ((unhide HD4).below hb5)
          have Hb5 := hide ((unhide Hb4).trans (hb5.mono (unhide Hb4).size))
          have HQ : Hid (w4.heap.size ∉ F3 ∧ w.heap.size ≤ w4.heap.size) := hide ⟨fun e => by have := (unhide HD4).lt _ e; omega, (unhide Hb4).size⟩
          clear hA5 hb5 HD4 Hb4
          generalize w4.heap.size = q at *
          go_wp2_with (refine wpList_storeAll 26 _ _ q (bytesV xs) (bytesV zeroS) rfl rfl rfl rfl (unhide HA5) (by rw [bytesV_length, bytesV_length, unhide HXL]; rfl) (info26s (unhide HXL)) (bytesV_one _) ?_)
          intro w6 hA6 hg6 hs6
          have HA6 := hide hA6
          have HD6 := hide ((unhide HD5).same (w' := w6) fun k hk => hg6.block k ((unhide HD5).lt k hk) (by intro e; cases e; exact (unhide HQ).1 hk))
          have Hb6 := hide ((unhide Hb5).grown hg6 (unhide Hb5).size (fun k hk => by cases hk; exact (unhide HQ).2))
          clear hA6 hg6 HA5 HD5 Hb5 HQ
          go_wp2_with fail
          refine Flow.wp_region (Flow.VV (fun j => match j with | 0 => secV xs | 1 => secV blankS | 2 => .bool true | 3 => .bool true | 4 => .bool false | 5 => .bool false | 6 => .pointer (some ⟨p, 0, none⟩) | 7 => .int .i64 ((er + 1 : Nat) : Int) | 8 => .int .i64 ((er + 1 : Nat) : Int) | 9 => .bool false | 10 => .bool false | _ => undef)) (fun _ (_ : Unit) w' => Below w6.heap.size w6 w') () (by kernel_rfl) (by kernel_rfl) (Below.refl _ w6).drew ⟨?_, ?_, ?_, ?_, ?_, ?_, ?_, ?_, ?_, ?_, ?_, trivial⟩ ?_
          · refine Flow.pure (Flow.goes_plain rfl) (fun _ _ _ h => h) fun a L s w' hC hL hn hs hd => ?_
            skip
            exact ⟨_, op_load26 rfl (hs 12 (by kernel_rfl)) (fun j v hj => (hC.cell (p := ⟨q, 0 + j, none⟩) (unhide HA6).lt).trans ((unhide HA6).range j v hj)) (unhide HXL), rfl⟩
          · refine Flow.call (Flow.goes_plain rfl) fun a L s0 w' hC hL hn hs hd => ⟨16, #[], op_call16 rfl rfl w', (blank_walk w').mono ?_⟩
            rintro e w'' ⟨rfl, hb⟩
            exact ⟨_, (), rfl, fun _ _ _ h => h, hC.trans (hb.mono hC.size), rfl⟩
          · refine Flow.pure (Flow.goes_plain rfl) (fun _ _ _ h => h) fun a L s w' hC hL hn hs hd => ?_
            skip
            exact ⟨_, op_eql26 rfl (hd 0 79 (by kernel_rfl)) (hd 1 80 (by kernel_rfl)) (unhide HXB) (unhide HXL) blankS_len w', rfl⟩
          · exact Flow.move (Flow.goes_plain rfl) (fun _ _ _ h => h) (.inl rfl) fun a s w' hs hd => (hs 6 (by kernel_rfl))
          · refine Flow.pure (Flow.goes_plain rfl) (fun _ _ _ h => h) fun a L s w' hC hL hn hs hd => ?_
            skip
            exact ⟨_, op_neq4 rfl (hd 2 81 (by kernel_rfl)) (hd 3 82 (by kernel_rfl)) (by first | rfl | simp) w', rfl⟩
          · exact Flow.move (Flow.goes_plain rfl) (fun _ _ _ h => h) (.inl rfl) fun a s w' hs hd => (hd 4 83 (by kernel_rfl))
          · exact Flow.move (Flow.goes_guard false rfl rfl rfl (by kernel_rfl) (fun _ _ _ h => h)) (fun _ _ _ h => h) (.inl rfl) fun a s w' hs hd => (hs 5 (by kernel_rfl))
          · refine Flow.call (Flow.goes_guard false rfl rfl rfl (by kernel_rfl) (fun _ _ _ h => h)) fun a L s0 w' hC hL hn hs hd => ⟨15, #[.pointer (some ⟨p, 0, none⟩), .int .i64 1], op_call15 (v0 := .pointer (some ⟨p, 0, none⟩)) (v1 := .int .i64 1) rfl (hd 6 85 (by kernel_rfl)) rfl rfl w', (c_wear ((unhide HD6).below hC) (unhide HI3)).mono ?_⟩
            rintro e w'' ⟨rfl, hw''⟩
            subst w''
            exact ⟨_, (), rfl, fun _ _ _ h => h, hC, rfl⟩
          · exact Flow.move (Flow.goes_guard false rfl rfl rfl (by kernel_rfl) (fun _ _ _ h => h)) (fun _ _ _ h => h) (.inl rfl) fun a s w' hs hd => (hs 7 (by kernel_rfl))
          · refine Flow.pure (Flow.goes_guard false rfl rfl rfl (by kernel_rfl) (fun _ _ _ h => h)) (fun _ _ _ h => h) fun a L s w' hC hL hn hs hd => ?_
            skip
            exact ⟨_, op_neq3 rfl (hd 7 86 (by kernel_rfl)) (hd 8 87 (by kernel_rfl)) (by simp) w', rfl⟩
          · refine Flow.pure (Flow.goes_plain rfl) (fun _ _ _ h => h) fun a L s w' hC hL hn hs hd => ?_
            skip
            exact ⟨_, op_pickF rfl (hd 5 84 (by kernel_rfl)) (hd 9 88 (by kernel_rfl)) w', rfl⟩
          · intro L _ w7 hC hL vals hv
            have e10 : vals 10 = .bool false := hv 10 _ 89 rfl rfl
            simp only [Free.putAll, Act.put, List.setIfInBounds_toArray, List.set_cons_succ, List.set_cons_zero, e10]
            have HD7 := hide ((unhide HD6).below hC)
            have Hb7 := hide ((unhide Hb6).trans (hC.mono (unhide Hb6).size))
            clear hv hL e10 hC HD6 Hb6 HA6
            generalize vals 0 = y0 at *
            generalize vals 1 = y1 at *
            generalize vals 2 = y2 at *
            generalize vals 3 = y3 at *
            generalize vals 4 = y4 at *
            generalize vals 5 = y5 at *
            generalize vals 6 = y6 at *
            generalize vals 7 = y7 at *
            generalize vals 8 = y8 at *
            generalize vals 9 = y9 at *
            go_wp2_with fail
            go_roundw
            case rel => exact ⟨j + 1, er + 1, true, F3, d3, by omega, by go_num, rfl, by first | rfl | go_num, unhide HD7, unhide HI3, unhide HF3, unhide Hb7⟩
            case measure => simp [intOf]; omega
        · go_wp2_with fail
          refine (c_full (unhide HD) (unhide HI) he (by omega)).mono ?_
          rintro e w3 ⟨rfl, F3, d3, hD3, hT3, hI3⟩
          have hu := hT3.under (unhide HF) (unhide Hb).size
          have HD3 := hide hD3
          have HI3 := hide hI3
          have HF3 := hide hu.2
          have Hb3 := hide ((unhide Hb).trans hu.1)
          have hle3 := hI3.less
          clear hD3 hT3 hu hI3 HD HI HF Hb
          go_wp2_with fail
          refine (c_read (unhide HD3) (unhide HI3)).mono ?_
          rintro e w4 ⟨xs, hxl, hxb, rfl, hb4⟩
          have HXL := hide hxl
          have HXB := hide hxb
          have HD4 := hide ((unhide HD3).below hb4)
          have Hb4 := hide ((unhide Hb3).trans (hb4.mono (unhide Hb3).size))
          clear hxl hxb hb4 HD3 Hb3
          go_wp2_with (refine wpList_alloc 26 26 (bytesV zeroS) rfl rfl alloc26 ?_)
          intro w5 hA5 hb5 hs5
          have HA5 := hide hA5
          have HD5 := hide ((unhide HD4).below hb5)
          have Hb5 := hide ((unhide Hb4).trans (hb5.mono (unhide Hb4).size))
          have HQ : Hid (w4.heap.size ∉ F3 ∧ w.heap.size ≤ w4.heap.size) := hide ⟨fun e => by have := (unhide HD4).lt _ e; omega, (unhide Hb4).size⟩
          clear hA5 hb5 HD4 Hb4
          generalize w4.heap.size = q at *
          go_wp2_with (refine wpList_storeAll 26 _ _ q (bytesV xs) (bytesV zeroS) rfl rfl rfl rfl (unhide HA5) (by rw [bytesV_length, bytesV_length, unhide HXL]; rfl) (info26s (unhide HXL)) (bytesV_one _) ?_)
          intro w6 hA6 hg6 hs6
          have HA6 := hide hA6
          have HD6 := hide ((unhide HD5).same (w' := w6) fun k hk => hg6.block k ((unhide HD5).lt k hk) (by intro e; cases e; exact (unhide HQ).1 hk))
          have Hb6 := hide ((unhide Hb5).grown hg6 (unhide Hb5).size (fun k hk => by cases hk; exact (unhide HQ).2))
          clear hA6 hg6 HA5 HD5 Hb5 HQ
          go_wp2_with fail
          refine Flow.wp_region (Flow.VV (fun j => match j with | 0 => secV xs | 1 => secV blankS | 2 => .bool b | 3 => .bool b | 4 => .bool false | 5 => .bool false | 6 => .pointer (some ⟨p, 0, none⟩) | 7 => .int .i64 ((er : Nat) : Int) | 8 => .int .i64 ((er : Nat) : Int) | 9 => .bool false | 10 => .bool false | _ => undef)) (fun _ (_ : Unit) w' => Below w6.heap.size w6 w') () (by kernel_rfl) (by kernel_rfl) (Below.refl _ w6).drew ⟨?_, ?_, ?_, ?_, ?_, ?_, ?_, ?_, ?_, ?_, ?_, trivial⟩ ?_
          · refine Flow.pure (Flow.goes_plain rfl) (fun _ _ _ h => h) fun a L s w' hC hL hn hs hd => ?_
            skip
            exact ⟨_, op_load26 rfl (hs 12 (by kernel_rfl)) (fun j v hj => (hC.cell (p := ⟨q, 0 + j, none⟩) (unhide HA6).lt).trans ((unhide HA6).range j v hj)) (unhide HXL), rfl⟩
          · refine Flow.call (Flow.goes_plain rfl) fun a L s0 w' hC hL hn hs hd => ⟨16, #[], op_call16 rfl rfl w', (blank_walk w').mono ?_⟩
            rintro e w'' ⟨rfl, hb⟩
            exact ⟨_, (), rfl, fun _ _ _ h => h, hC.trans (hb.mono hC.size), rfl⟩
          · refine Flow.pure (Flow.goes_plain rfl) (fun _ _ _ h => h) fun a L s w' hC hL hn hs hd => ?_
            skip
            exact ⟨_, op_eql26 rfl (hd 0 79 (by kernel_rfl)) (hd 1 80 (by kernel_rfl)) (unhide HXB) (unhide HXL) blankS_len w', rfl⟩
          · exact Flow.move (Flow.goes_plain rfl) (fun _ _ _ h => h) (.inl rfl) fun a s w' hs hd => (hs 6 (by kernel_rfl))
          · refine Flow.pure (Flow.goes_plain rfl) (fun _ _ _ h => h) fun a L s w' hC hL hn hs hd => ?_
            skip
            exact ⟨_, op_neq4 rfl (hd 2 81 (by kernel_rfl)) (hd 3 82 (by kernel_rfl)) (by first | rfl | simp) w', rfl⟩
          · exact Flow.move (Flow.goes_plain rfl) (fun _ _ _ h => h) (.inl rfl) fun a s w' hs hd => (hd 4 83 (by kernel_rfl))
          · exact Flow.move (Flow.goes_guard false rfl rfl rfl (by kernel_rfl) (fun _ _ _ h => h)) (fun _ _ _ h => h) (.inl rfl) fun a s w' hs hd => (hs 5 (by kernel_rfl))
          · refine Flow.call (Flow.goes_guard false rfl rfl rfl (by kernel_rfl) (fun _ _ _ h => h)) fun a L s0 w' hC hL hn hs hd => ⟨15, #[.pointer (some ⟨p, 0, none⟩), .int .i64 1], op_call15 (v0 := .pointer (some ⟨p, 0, none⟩)) (v1 := .int .i64 1) rfl (hd 6 85 (by kernel_rfl)) rfl rfl w', (c_wear ((unhide HD6).below hC) (unhide HI3)).mono ?_⟩
            rintro e w'' ⟨rfl, hw''⟩
            subst w''
            exact ⟨_, (), rfl, fun _ _ _ h => h, hC, rfl⟩
          · exact Flow.move (Flow.goes_guard false rfl rfl rfl (by kernel_rfl) (fun _ _ _ h => h)) (fun _ _ _ h => h) (.inl rfl) fun a s w' hs hd => (hs 7 (by kernel_rfl))
          · refine Flow.pure (Flow.goes_guard false rfl rfl rfl (by kernel_rfl) (fun _ _ _ h => h)) (fun _ _ _ h => h) fun a L s w' hC hL hn hs hd => ?_
            skip
            exact ⟨_, op_neq3 rfl (hd 7 86 (by kernel_rfl)) (hd 8 87 (by kernel_rfl)) (by simp) w', rfl⟩
          · refine Flow.pure (Flow.goes_plain rfl) (fun _ _ _ h => h) fun a L s w' hC hL hn hs hd => ?_
            skip
            exact ⟨_, op_pickF rfl (hd 5 84 (by kernel_rfl)) (hd 9 88 (by kernel_rfl)) w', rfl⟩
          · intro L _ w7 hC hL vals hv
            have e10 : vals 10 = .bool false := hv 10 _ 89 rfl rfl
            simp only [Free.putAll, Act.put, List.setIfInBounds_toArray, List.set_cons_succ, List.set_cons_zero, e10]
            have HD7 := hide ((unhide HD6).below hC)
            have Hb7 := hide ((unhide Hb6).trans (hC.mono (unhide Hb6).size))
            clear hv hL e10 hC HD6 Hb6 HA6
            generalize vals 0 = y0 at *
            generalize vals 1 = y1 at *
            generalize vals 2 = y2 at *
            generalize vals 3 = y3 at *
            generalize vals 4 = y4 at *
            generalize vals 5 = y5 at *
            generalize vals 6 = y6 at *
            generalize vals 7 = y7 at *
            generalize vals 8 = y8 at *
            generalize vals 9 = y9 at *
            go_wp2_with fail
            go_roundw
            case rel => exact ⟨j + 1, er, b, F3, d3, by omega, by go_num, rfl, by first | rfl | go_num, unhide HD7, unhide HI3, unhide HF3, unhide Hb7⟩
            case measure => simp [intOf]; omega
      · have h3' : ¬ ((v.toNat : Nat) : Int).tmod 3 = 0 := by
          rw [Int.tmod_eq_emod_of_nonneg (by omega)]; omega
        cases b with
        | true =>
          go_wp2_with fail
          refine (full_walk v wr).mono ?_
          rintro e w2 ⟨rfl, hbF⟩
          have HDm := hide ((unhide HD).below hbF)
          have Hbm := hide ((unhide Hb).trans (hbF.mono (unhide Hb).size))
          have HLF : Hid ((fullS v).length = 64) := hide (fullS_len v)
          clear hbF HD Hb
          go_wp2_with fail
          refine (c_program (unhide HDm) (unhide HI) v (by omega)).mono ?_
          rintro e w3 ⟨rfl, F3, d3, hD3, hT3, hI3⟩
          have hu := hT3.under (unhide HF) (unhide Hbm).size
          have HD3 := hide hD3
          have HI3 := hide hI3
          have HF3 := hide hu.2
          have Hb3 := hide ((unhide Hbm).trans hu.1)
          have hle3 := hI3.less
          clear hD3 hT3 hu hI3 HDm HI HF Hbm
          go_wp2_with fail
          refine (c_read (unhide HD3) (unhide HI3)).mono ?_
          rintro e w4 ⟨xs, hxl, hxb, rfl, hb4⟩
          have HXL := hide hxl
          have HXB := hide hxb
          have HD4 := hide ((unhide HD3).below hb4)
          have Hb4 := hide ((unhide Hb3).trans (hb4.mono (unhide Hb3).size))
          clear hxl hxb hb4 HD3 Hb3
          go_wp2_with (refine wpList_alloc 26 26 (bytesV zeroS) rfl rfl alloc26 ?_)
          intro w5 hA5 hb5 hs5
          have HA5 := hide hA5
          have HD5 := hide ((unhide HD4).below hb5)
          have Hb5 := hide ((unhide Hb4).trans (hb5.mono (unhide Hb4).size))
          have HQ : Hid (w4.heap.size ∉ F3 ∧ w.heap.size ≤ w4.heap.size) := hide ⟨fun e => by have := (unhide HD4).lt _ e; omega, (unhide Hb4).size⟩
          clear hA5 hb5 HD4 Hb4
          generalize w4.heap.size = q at *
          go_wp2_with (refine wpList_storeAll 26 _ _ q (bytesV xs) (bytesV zeroS) rfl rfl rfl rfl (unhide HA5) (by rw [bytesV_length, bytesV_length, unhide HXL]; rfl) (info26s (unhide HXL)) (bytesV_one _) ?_)
          intro w6 hA6 hg6 hs6
          have HA6 := hide hA6
          have HD6 := hide ((unhide HD5).same (w' := w6) fun k hk => hg6.block k ((unhide HD5).lt k hk) (by intro e; cases e; exact (unhide HQ).1 hk))
          have Hb6 := hide ((unhide Hb5).grown hg6 (unhide Hb5).size (fun k hk => by cases hk; exact (unhide HQ).2))
          clear hA6 hg6 HA5 HD5 Hb5 HQ
          go_wp2_with fail
          refine Flow.wp_region (Flow.VV (fun j => match j with | 0 => secV xs | 1 => secV blankS | 2 => .bool false | 3 => .bool false | 4 => .bool false | 5 => .bool false | 6 => .pointer (some ⟨p, 0, none⟩) | 7 => .int .i64 ((er : Nat) : Int) | 8 => .int .i64 ((er : Nat) : Int) | 9 => .bool false | 10 => .bool false | _ => undef)) (fun _ (_ : Unit) w' => Below w6.heap.size w6 w') () (by kernel_rfl) (by kernel_rfl) (Below.refl _ w6).drew ⟨?_, ?_, ?_, ?_, ?_, ?_, ?_, ?_, ?_, ?_, ?_, trivial⟩ ?_
          · refine Flow.pure (Flow.goes_plain rfl) (fun _ _ _ h => h) fun a L s w' hC hL hn hs hd => ?_
            skip
            exact ⟨_, op_load26 rfl (hs 12 (by kernel_rfl)) (fun j v hj => (hC.cell (p := ⟨q, 0 + j, none⟩) (unhide HA6).lt).trans ((unhide HA6).range j v hj)) (unhide HXL), rfl⟩
          · refine Flow.call (Flow.goes_plain rfl) fun a L s0 w' hC hL hn hs hd => ⟨16, #[], op_call16 rfl rfl w', (blank_walk w').mono ?_⟩
            rintro e w'' ⟨rfl, hb⟩
            exact ⟨_, (), rfl, fun _ _ _ h => h, hC.trans (hb.mono hC.size), rfl⟩
          · refine Flow.pure (Flow.goes_plain rfl) (fun _ _ _ h => h) fun a L s w' hC hL hn hs hd => ?_
            skip
            exact ⟨_, op_eql26 rfl (hd 0 79 (by kernel_rfl)) (hd 1 80 (by kernel_rfl)) (unhide HXB) (unhide HXL) blankS_len w', rfl⟩
          · exact Flow.move (Flow.goes_plain rfl) (fun _ _ _ h => h) (.inl rfl) fun a s w' hs hd => (hs 6 (by kernel_rfl))
          · refine Flow.pure (Flow.goes_plain rfl) (fun _ _ _ h => h) fun a L s w' hC hL hn hs hd => ?_
            skip
            exact ⟨_, op_neq4 rfl (hd 2 81 (by kernel_rfl)) (hd 3 82 (by kernel_rfl)) (by first | rfl | simp) w', rfl⟩
          · exact Flow.move (Flow.goes_plain rfl) (fun _ _ _ h => h) (.inl rfl) fun a s w' hs hd => (hd 4 83 (by kernel_rfl))
          · exact Flow.move (Flow.goes_guard false rfl rfl rfl (by kernel_rfl) (fun _ _ _ h => h)) (fun _ _ _ h => h) (.inl rfl) fun a s w' hs hd => (hs 5 (by kernel_rfl))
          · refine Flow.call (Flow.goes_guard false rfl rfl rfl (by kernel_rfl) (fun _ _ _ h => h)) fun a L s0 w' hC hL hn hs hd => ⟨15, #[.pointer (some ⟨p, 0, none⟩), .int .i64 1], op_call15 (v0 := .pointer (some ⟨p, 0, none⟩)) (v1 := .int .i64 1) rfl (hd 6 85 (by kernel_rfl)) rfl rfl w', (c_wear ((unhide HD6).below hC) (unhide HI3)).mono ?_⟩
            rintro e w'' ⟨rfl, hw''⟩
            subst w''
            exact ⟨_, (), rfl, fun _ _ _ h => h, hC, rfl⟩
          · exact Flow.move (Flow.goes_guard false rfl rfl rfl (by kernel_rfl) (fun _ _ _ h => h)) (fun _ _ _ h => h) (.inl rfl) fun a s w' hs hd => (hs 7 (by kernel_rfl))
          · refine Flow.pure (Flow.goes_guard false rfl rfl rfl (by kernel_rfl) (fun _ _ _ h => h)) (fun _ _ _ h => h) fun a L s w' hC hL hn hs hd => ?_
            skip
            exact ⟨_, op_neq3 rfl (hd 7 86 (by kernel_rfl)) (hd 8 87 (by kernel_rfl)) (by simp) w', rfl⟩
          · refine Flow.pure (Flow.goes_plain rfl) (fun _ _ _ h => h) fun a L s w' hC hL hn hs hd => ?_
            skip
            exact ⟨_, op_pickF rfl (hd 5 84 (by kernel_rfl)) (hd 9 88 (by kernel_rfl)) w', rfl⟩
          · intro L _ w7 hC hL vals hv
            have e10 : vals 10 = .bool false := hv 10 _ 89 rfl rfl
            simp only [Free.putAll, Act.put, List.setIfInBounds_toArray, List.set_cons_succ, List.set_cons_zero, e10]
            have HD7 := hide ((unhide HD6).below hC)
            have Hb7 := hide ((unhide Hb6).trans (hC.mono (unhide Hb6).size))
            clear hv hL e10 hC HD6 Hb6 HA6
            generalize vals 0 = y0 at *
            generalize vals 1 = y1 at *
            generalize vals 2 = y2 at *
            generalize vals 3 = y3 at *
            generalize vals 4 = y4 at *
            generalize vals 5 = y5 at *
            generalize vals 6 = y6 at *
            generalize vals 7 = y7 at *
            generalize vals 8 = y8 at *
            generalize vals 9 = y9 at *
            go_wp2_with fail
            go_roundw
            case rel => exact ⟨j + 1, er, false, F3, d3, by omega, by go_num, rfl, by first | rfl | go_num, unhide HD7, unhide HI3, unhide HF3, unhide Hb7⟩
            case measure => simp [intOf]; omega
        | false =>
          go_wp2_with fail
          refine (full_walk v wr).mono ?_
          rintro e w2 ⟨rfl, hbF⟩
          have HDm := hide ((unhide HD).below hbF)
          have Hbm := hide ((unhide Hb).trans (hbF.mono (unhide Hb).size))
          have HLF : Hid ((fullS v).length = 64) := hide (fullS_len v)
          clear hbF HD Hb
          go_wp2_with fail
          refine (c_dirty (unhide HDm) (unhide HI) v (by omega)).mono ?_
          rintro e w3 ⟨rfl, F3, d3, hD3, hT3, hI3⟩
          have hu := hT3.under (unhide HF) (unhide Hbm).size
          have HD3 := hide hD3
          have HI3 := hide hI3
          have HF3 := hide hu.2
          have Hb3 := hide ((unhide Hbm).trans hu.1)
          have hle3 := hI3.less
          clear hD3 hT3 hu hI3 HDm HI HF Hbm
          go_wp2_with fail
          refine (c_read (unhide HD3) (unhide HI3)).mono ?_
          rintro e w4 ⟨xs, hxl, hxb, rfl, hb4⟩
          have HXL := hide hxl
          have HXB := hide hxb
          have HD4 := hide ((unhide HD3).below hb4)
          have Hb4 := hide ((unhide Hb3).trans (hb4.mono (unhide Hb3).size))
          clear hxl hxb hb4 HD3 Hb3
          go_wp2_with (refine wpList_alloc 26 26 (bytesV zeroS) rfl rfl alloc26 ?_)
          intro w5 hA5 hb5 hs5
          have HA5 := hide hA5
          have HD5 := hide ((unhide HD4).below hb5)
          have Hb5 := hide ((unhide Hb4).trans (hb5.mono (unhide Hb4).size))
          have HQ : Hid (w4.heap.size ∉ F3 ∧ w.heap.size ≤ w4.heap.size) := hide ⟨fun e => by have := (unhide HD4).lt _ e; omega, (unhide Hb4).size⟩
          clear hA5 hb5 HD4 Hb4
          generalize w4.heap.size = q at *
          go_wp2_with (refine wpList_storeAll 26 _ _ q (bytesV xs) (bytesV zeroS) rfl rfl rfl rfl (unhide HA5) (by rw [bytesV_length, bytesV_length, unhide HXL]; rfl) (info26s (unhide HXL)) (bytesV_one _) ?_)
          intro w6 hA6 hg6 hs6
          have HA6 := hide hA6
          have HD6 := hide ((unhide HD5).same (w' := w6) fun k hk => hg6.block k ((unhide HD5).lt k hk) (by intro e; cases e; exact (unhide HQ).1 hk))
          have Hb6 := hide ((unhide Hb5).grown hg6 (unhide Hb5).size (fun k hk => by cases hk; exact (unhide HQ).2))
          clear hA6 hg6 HA5 HD5 Hb5 HQ
          go_wp2_with fail
          refine Flow.wp_region (Flow.VV (fun j => match j with | 0 => secV xs | 1 => secV blankS | 2 => .bool false | 3 => .bool false | 4 => .bool false | 5 => .bool false | 6 => .pointer (some ⟨p, 0, none⟩) | 7 => .int .i64 ((er : Nat) : Int) | 8 => .int .i64 ((er : Nat) : Int) | 9 => .bool false | 10 => .bool false | _ => undef)) (fun _ (_ : Unit) w' => Below w6.heap.size w6 w') () (by kernel_rfl) (by kernel_rfl) (Below.refl _ w6).drew ⟨?_, ?_, ?_, ?_, ?_, ?_, ?_, ?_, ?_, ?_, ?_, trivial⟩ ?_
          · refine Flow.pure (Flow.goes_plain rfl) (fun _ _ _ h => h) fun a L s w' hC hL hn hs hd => ?_
            skip
            exact ⟨_, op_load26 rfl (hs 12 (by kernel_rfl)) (fun j v hj => (hC.cell (p := ⟨q, 0 + j, none⟩) (unhide HA6).lt).trans ((unhide HA6).range j v hj)) (unhide HXL), rfl⟩
          · refine Flow.call (Flow.goes_plain rfl) fun a L s0 w' hC hL hn hs hd => ⟨16, #[], op_call16 rfl rfl w', (blank_walk w').mono ?_⟩
            rintro e w'' ⟨rfl, hb⟩
            exact ⟨_, (), rfl, fun _ _ _ h => h, hC.trans (hb.mono hC.size), rfl⟩
          · refine Flow.pure (Flow.goes_plain rfl) (fun _ _ _ h => h) fun a L s w' hC hL hn hs hd => ?_
            skip
            exact ⟨_, op_eql26 rfl (hd 0 79 (by kernel_rfl)) (hd 1 80 (by kernel_rfl)) (unhide HXB) (unhide HXL) blankS_len w', rfl⟩
          · exact Flow.move (Flow.goes_plain rfl) (fun _ _ _ h => h) (.inl rfl) fun a s w' hs hd => (hs 6 (by kernel_rfl))
          · refine Flow.pure (Flow.goes_plain rfl) (fun _ _ _ h => h) fun a L s w' hC hL hn hs hd => ?_
            skip
            exact ⟨_, op_neq4 rfl (hd 2 81 (by kernel_rfl)) (hd 3 82 (by kernel_rfl)) (by first | rfl | simp) w', rfl⟩
          · exact Flow.move (Flow.goes_plain rfl) (fun _ _ _ h => h) (.inl rfl) fun a s w' hs hd => (hd 4 83 (by kernel_rfl))
          · exact Flow.move (Flow.goes_guard false rfl rfl rfl (by kernel_rfl) (fun _ _ _ h => h)) (fun _ _ _ h => h) (.inl rfl) fun a s w' hs hd => (hs 5 (by kernel_rfl))
          · refine Flow.call (Flow.goes_guard false rfl rfl rfl (by kernel_rfl) (fun _ _ _ h => h)) fun a L s0 w' hC hL hn hs hd => ⟨15, #[.pointer (some ⟨p, 0, none⟩), .int .i64 1], op_call15 (v0 := .pointer (some ⟨p, 0, none⟩)) (v1 := .int .i64 1) rfl (hd 6 85 (by kernel_rfl)) rfl rfl w', (c_wear ((unhide HD6).below hC) (unhide HI3)).mono ?_⟩
            rintro e w'' ⟨rfl, hw''⟩
            subst w''
            exact ⟨_, (), rfl, fun _ _ _ h => h, hC, rfl⟩
          · exact Flow.move (Flow.goes_guard false rfl rfl rfl (by kernel_rfl) (fun _ _ _ h => h)) (fun _ _ _ h => h) (.inl rfl) fun a s w' hs hd => (hs 7 (by kernel_rfl))
          · refine Flow.pure (Flow.goes_guard false rfl rfl rfl (by kernel_rfl) (fun _ _ _ h => h)) (fun _ _ _ h => h) fun a L s w' hC hL hn hs hd => ?_
            skip
            exact ⟨_, op_neq3 rfl (hd 7 86 (by kernel_rfl)) (hd 8 87 (by kernel_rfl)) (by simp) w', rfl⟩
          · refine Flow.pure (Flow.goes_plain rfl) (fun _ _ _ h => h) fun a L s w' hC hL hn hs hd => ?_
            skip
            exact ⟨_, op_pickF rfl (hd 5 84 (by kernel_rfl)) (hd 9 88 (by kernel_rfl)) w', rfl⟩
          · intro L _ w7 hC hL vals hv
            have e10 : vals 10 = .bool false := hv 10 _ 89 rfl rfl
            simp only [Free.putAll, Act.put, List.setIfInBounds_toArray, List.set_cons_succ, List.set_cons_zero, e10]
            have HD7 := hide ((unhide HD6).below hC)
            have Hb7 := hide ((unhide Hb6).trans (hC.mono (unhide Hb6).size))
            clear hv hL e10 hC HD6 Hb6 HA6
            generalize vals 0 = y0 at *
            generalize vals 1 = y1 at *
            generalize vals 2 = y2 at *
            generalize vals 3 = y3 at *
            generalize vals 4 = y4 at *
            generalize vals 5 = y5 at *
            generalize vals 6 = y6 at *
            generalize vals 7 = y7 at *
            generalize vals 8 = y8 at *
            generalize vals 9 = y9 at *
            go_wp2_with fail
            go_roundw
            case rel => exact ⟨j + 1, er, false, F3, d3, by omega, by go_num, rfl, by first | rfl | go_num, unhide HD7, unhide HI3, unhide HF3, unhide Hb7⟩
            case measure => simp [intOf]; omega
    · go_wp2_with fail
      go_ret
      exact ⟨rfl, unhide Hb⟩

theorem walk (z : Int) (a : Option Addr) (len cap : Nat) (w : World) (_hz : (Lit.int .i64 z).wf = true) (hB : Bytes w a len cap) :
    Calls Try.prog 6 #[.int .i64 z, .slice a len cap] w fun e w' => e = .returned (.bool true) ∧ Below w.heap.size w w' := by
  by_cases h : 0 ≤ z ∧ z ≤ 50 ∧ len ≤ 100
  · obtain ⟨h1, h2, h3⟩ := h
    obtain ⟨m, rfl⟩ : ∃ m : Nat, z = (m : Int) := ⟨z.toNat, by omega⟩
    obtain ⟨bs, _, hr⟩ := hB.2.2 (by omega)
    exact main m (by omega) a len cap h3 bs w hr
  · have hl := hB.1
    have hm := hB.2.1
    clear hB
    have hn : z < 0 ∨ (0 ≤ z ∧ 50 < z) ∨ (0 ≤ z ∧ z ≤ 50 ∧ 100 < len) := by omega
    clear h
    rcases hn with h | h | h
    all_goals (
      go_enter Try.func6, Try.ntmps6
      go_wp2_with fail
      refine (alive_walk w).mono ?_
      rintro e w1 ⟨rfl, hb1⟩
      have Hb1 := hide hb1
      clear hb1
      go_wp2_with fail
      go_ret
      exact ⟨rfl, unhide Hb1⟩)
end flashOnce
end Go.Proofs.Ytebahemgbpjldaa
