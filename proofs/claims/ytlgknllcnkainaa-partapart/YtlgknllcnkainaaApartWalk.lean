/-
  PartApart: the walk.
-/
import Derived.Test.YtlgknllcnkainaaAReg
namespace Go.Proofs.Ytlgknllcnkainaa
open Go.RowKit
namespace partApart

set_option maxHeartbeats 12800000 in
set_option maxRecDepth 100000 in
theorem main (x0 y0 z0 : UInt8) (a : Option Addr) (len cap : Nat) (hlen : len ≤ 60) (w : World) (hA : Acts w.heap.size w a len) :
    Calls Try.prog 5 #[.agg #[.int .u8 ((x0.toNat : Nat) : Int), .int .u8 ((y0.toNat : Nat) : Int), .int .u8 ((z0.toNat : Nat) : Int)], .slice a len cap] w fun e w' => e = .returned (.bool true) ∧ Below w.heap.size w w' := by
  have HACT := hide hA
  clear hA
  have hx0 := x0.toNat_lt
  have hy0 := y0.toNat_lt
  have hz0 := z0.toNat_lt
  generalize x0.toNat = n0 at *
  generalize y0.toNat = n1 at *
  generalize z0.toNat = n2 at *
  go_enter Try.func5, Try.ntmps5
  go_wp2_with (refine wpList_box 70 _ [.int .u8 (n0 : Int), .int .u8 (n1 : Int), .int .u8 (n2 : Int)] rfl rfl rfl ?_)
  intro w1 hA1 hb1 hs1
  have HB1 := hide hA1
  have Hb1 := hide (hb1)
  clear hA1 hb1
  go_wp2_with fail
  refine (palive_walk w1).mono ?_
  rintro e w2 ⟨rfl, hb2⟩
  have HB2 := hide ((unhide HB1).below hb2)
  have Hb2 := hide ((unhide Hb1).trans (hb2.mono (unhide Hb1).size))
  have hs2 := (unhide Hb2).size
  have hc0 := (unhide HB2).cell (i := 0) rfl
  have hc1 := (unhide HB2).cell (i := 1) rfl
  have hc2 := (unhide HB2).cell (i := 2) rfl
  clear hb2 HB1 Hb1
  go_wp2_with (first
    | refine wpList_build 71 _ [.int .i64 ((n0 % 6 + 1 : Nat) : Int), .int .i64 ((n1 % 6 + 1 : Nat) : Int), .int .i64 ((n2 % 6 + 1 : Nat) : Int)] _ rfl rfl rfl (built71 _ _ _) ?_
    | refine wpList_alloc 71 71 [.int .i64 0, .int .i64 0, .int .i64 0] rfl rfl alloc71 ?_)
  intro w3 hA3 hb3 hs3
  have HN3 := hide hA3
  have Hb3 := hide hb3
  clear hA3 hb3
  go_wp2_with (refine wpList_storeAll 71 _ _ _ [.int .i64 ((n0 % 6 + 1 : Nat) : Int), .int .i64 ((n1 % 6 + 1 : Nat) : Int), .int .i64 ((n2 % 6 + 1 : Nat) : Int)] [.int .i64 0, .int .i64 0, .int .i64 0] rfl rfl rfl rfl (unhide HN3) rfl info71 (by simp [Value.oneCell']) ?_)
  intro w4 hA4 hg4 hs4
  have HN4 : Hid (Arr w4 w2.heap.size [.int .i64 ((n0 % 6 + 1 : Nat) : Int), .int .i64 ((n1 % 6 + 1 : Nat) : Int), .int .i64 ((n2 % 6 + 1 : Nat) : Int)]) := hide (by simpa using hA4)
  have Hb4 : Hid (Below w.heap.size w w4) := hide (((unhide Hb2).trans ((unhide Hb3).mono hs2)).grown hg4 (by omega) (fun k hk => by simp at hk; omega))
  have hbn : w2.heap.size < w4.heap.size := hA4.lt
  have h1 : 1 ≤ n0 % 6 + 1 ∧ n0 % 6 + 1 ≤ 6 := by omega
  have h2 : 1 ≤ n1 % 6 + 1 ∧ n1 % 6 + 1 ≤ 6 := by omega
  have h3 : 1 ≤ n2 % 6 + 1 ∧ n2 % 6 + 1 ≤ 6 := by omega
  clear hA4 hg4 hs4 hs3 hs1 HN3 Hb3 HB2 Hb2 hc0 hc1 hc2 hx0 hy0 hz0
  generalize n0 % 6 + 1 = s0 at *
  generalize n1 % 6 + 1 = s1 at *
  generalize n2 % 6 + 1 = s2 at *
  generalize w2.heap.size = bn at *
  have HRT := hide (right20 h1 h2 h3)
  have HGR := hide (sixG_grows w4.heap.size (newD 20 1000) ⟨[s0, s1, s2], 0, []⟩ [(s0 : Int), (s1 : Int), (s2 : Int)])
  go_wp2_with fail
  refine Flow.wp_region (VG (fun j => match j with | 0 => undef | 1 => .pointer (some ⟨bn, 0, none⟩) | 2 => .int .i64 (s0 : Int) | 3 => .pointer (some ⟨bn, 1, none⟩) | 4 => .int .i64 (s1 : Int) | 5 => .pointer (some ⟨bn, 2, none⟩) | 6 => .int .i64 (s2 : Int) | 7 => undef | 8 => undef | 9 => undef | 10 => undef | 11 => .int .i64 0 | 12 => undef | 13 => .int .i64 0 | _ => undef) (sixG w4.heap.size (newD 20 1000) ⟨[s0, s1, s2], 0, []⟩ [(s0 : Int), (s1 : Int), (s2 : Int)])) (fun _ (_ : Unit) w' => Below w4.heap.size w4 w') () (by kernel_rfl) (by kernel_rfl) (Below.refl _ _).drew ⟨?_, ?_, ?_, ?_, ?_, ?_, ?_, ?_, ?_, ?_, ?_, ?_, ?_, ?_, trivial⟩ ?_
  · refine Flow.call (Flow.goes_plain rfl) fun a L s0 w' hC hL hn hs hd => ⟨7, _, op_call7 rfl rfl rfl rfl w', ?_⟩
    refine (new_walk 20 1000 w').mono ?_
    rintro e w'' ⟨D, p, rfl, hD, hF, hb⟩
    exact ⟨_, (), rfl, VG.grow (unhide HGR) hb, hC.trans (hb.mono hC.size), D, p, rfl, hD, fun k hk => Nat.le_trans hC.size (hF k hk)⟩
  · refine Flow.pure (Flow.goes_plain rfl) (fun _ _ _ h => h) fun a L s w' hC hL hn hs hd => ?_
    exact ⟨_, op_idx71 (k := 0) rfl (hs 5 (by kernel_rfl)) rfl (by decide) w', rfl⟩
  · refine Flow.pure (Flow.goes_plain rfl) (fun _ _ _ h => h) fun a L s w' hC hL hn hs hd => ?_
    skip
    exact ⟨_, op_load3 rfl (hd 1 43 (by kernel_rfl)) ((hC.cell (p := ⟨bn, 0, none⟩) hbn).trans ((unhide HN4).cell (i := 0) rfl)), rfl⟩
  · refine Flow.pure (Flow.goes_plain rfl) (fun _ _ _ h => h) fun a L s w' hC hL hn hs hd => ?_
    exact ⟨_, op_idx71 (k := 1) rfl (hs 5 (by kernel_rfl)) rfl (by decide) w', rfl⟩
  · refine Flow.pure (Flow.goes_plain rfl) (fun _ _ _ h => h) fun a L s w' hC hL hn hs hd => ?_
    skip
    exact ⟨_, op_load3 rfl (hd 3 45 (by kernel_rfl)) ((hC.cell (p := ⟨bn, 1, none⟩) hbn).trans ((unhide HN4).cell (i := 1) rfl)), rfl⟩
  · refine Flow.pure (Flow.goes_plain rfl) (fun _ _ _ h => h) fun a L s w' hC hL hn hs hd => ?_
    exact ⟨_, op_idx71 (k := 2) rfl (hs 5 (by kernel_rfl)) rfl (by decide) w', rfl⟩
  · refine Flow.pure (Flow.goes_plain rfl) (fun _ _ _ h => h) fun a L s w' hC hL hn hs hd => ?_
    skip
    exact ⟨_, op_load3 rfl (hd 5 47 (by kernel_rfl)) ((hC.cell (p := ⟨bn, 2, none⟩) hbn).trans ((unhide HN4).cell (i := 2) rfl)), rfl⟩
  · refine Flow.value (Flow.goes_plain rfl) fun a L s w' hC hL hn hs hd => ?_
    have hb : ∀ C, Below w'.heap.size w' (w'.alloc (.cells C 3)) := fun C => (Below.refl _ _).alloc (Nat.le_refl _) _
    exact ⟨_, (), _, op_slice3 rfl (hd 2 44 (by kernel_rfl)) (hd 4 46 (by kernel_rfl)) (hd 6 48 (by kernel_rfl)) w', VG.grow (unhide HGR) (hb _), hC.trans ((hb _).mono hC.size), w'.heap.size, rfl, _, _, heap_alloc_new w' _, rfl⟩
  · refine Flow.call (Flow.goes_plain rfl) fun a L s w' hC hL hn hs hd => ?_
    obtain ⟨D, p, e0, hD, hF⟩ : AtDev w4.heap.size (newD 20 1000) _ s w' := (hd 0 42 (by kernel_rfl))
    obtain ⟨b, e7, hA⟩ : AtRow [(s0 : Int), (s1 : Int), (s2 : Int)] _ s w' := (hd 7 49 (by kernel_rfl))
    refine ⟨8, _, op_call8 rfl e0 e7 rfl w', ?_⟩
    refine (mnew_walk hD _ _ _ _ ((IRow.arr hA).up hA.lt) (by simp)).mono ?_
    intro e w'' hP
    unfold NewP at hP
    rw [if_pos (unhide HRT)] at hP
    obtain ⟨m, F, rfl, hM, hF2, hb⟩ := hP
    exact ⟨_, (), rfl, VG.grow (unhide HGR) hb, hC.trans (hb.mono hC.size), _, rfl, F, D, m, p, rfl, hM, fun k hk => by
      rcases List.mem_append.1 hk with e | e
      · exact Nat.le_trans hC.size (hF2 k e)
      · exact hF k e⟩
  · exact Flow.move (Flow.goes_plain rfl) (fun _ _ _ h => h) (.inl rfl) fun a s w' hs hd => (hd 8 50 (by kernel_rfl))
  · refine Flow.pure (Flow.goes_plain rfl) (fun _ _ _ h => h) fun a L s w' hC hL hn hs hd => ?_
    obtain ⟨u, e9, hu⟩ : AtMap2 w4.heap.size (newD 20 1000) ⟨[s0, s1, s2], 0, []⟩ _ s w' := (hd 9 41 (by kernel_rfl))
    exact ⟨_, op_ext0 rfl e9 w', hu⟩
  · refine Flow.pure (Flow.goes_plain rfl) (fun _ _ _ h => h) fun a L s w' hC hL hn hs hd => ?_
    obtain ⟨u, e9, hu⟩ : AtMap2 w4.heap.size (newD 20 1000) ⟨[s0, s1, s2], 0, []⟩ _ s w' := (hd 9 41 (by kernel_rfl))
    exact ⟨_, op_ext1 rfl e9 w', rfl⟩
  · exact Flow.move (Flow.goes_plain rfl) (fun _ _ _ h => h) (.inr rfl) fun a s w' hs hd => (hd 10 51 (by kernel_rfl))
  · exact Flow.move (Flow.goes_plain rfl) (fun _ _ _ h => h) (.inr rfl) fun a s w' hs hd => (hd 11 52 (by kernel_rfl))
  · intro L s5 w5 hC hL vals hv
    obtain ⟨F, D, m, p, e12, hM, hF⟩ : AtMap w4.heap.size (newD 20 1000) ⟨[s0, s1, s2], 0, []⟩ (vals 12) s5 w5 := hv 12 _ 6 rfl rfl
    have e13 : vals 13 = .int .i64 0 := hv 13 _ 7 rfl rfl
    simp only [Free.putAll, Act.put, List.setIfInBounds_toArray, List.set_cons_succ, List.set_cons_zero, e12, e13]
    have HP : Hid (Pre w.heap.size [(bn, [.int .i64 (s0 : Int), .int .i64 (s1 : Int), .int .i64 (s2 : Int)])] m p [s0, s1, s2] 0 w5) := hide ⟨F, D, newD 20 1000, _, {
        pm := hM
        above := fun k hk => Nat.le_trans (unhide Hb4).size (hF k hk)
        size := Nat.le_trans (unhide Hb4).size hC.size
        keep := fun y hy => by
          obtain rfl : y = (bn, [.int .i64 (s0 : Int), .int .i64 (s1 : Int), .int .i64 (s2 : Int)]) := by simpa using hy
          exact ⟨(unhide HN4).below hC, fun e => by have := hF _ e; omega⟩ }, new_inv, rfl, Nat.le_refl _, Nat.le_refl _⟩
    have Hb5 := hide ((unhide Hb4).trans (hC.mono (unhide Hb4).size))
    have hbn5 : bn < w5.heap.size := Nat.lt_of_lt_of_le hbn hC.size
    have HNN : Hid (w.heap.size ≤ bn) := hide hs2
    have HSZ : Hid (([s0, s1, s2] : List Nat).sum ≤ 20) := hide (by simp only [List.sum_cons, List.sum_nil]; omega)
    clear hC hL hv e12 e13 hM hF HN4 Hb4 HRT HGR hbn hs2
    generalize vals 0 = x0 at *
    generalize vals 1 = x1 at *
    generalize vals 2 = x2 at *
    generalize vals 3 = x3 at *
    generalize vals 4 = x4 at *
    generalize vals 5 = x5 at *
    generalize vals 6 = x6 at *
    generalize vals 7 = x7 at *
    generalize vals 8 = x8 at *
    generalize vals 9 = x9 at *
    generalize vals 10 = x10 at *
    generalize vals 11 = x11 at *
    go_wp2
    go_loopw [55] (fun ci wr => ∃ j : Nat, j ≤ 3 ∧ ci = .int .i64 (j : Int) ∧ Pre w.heap.size [(bn, [.int .i64 (s0 : Int), .int .i64 (s1 : Int), .int .i64 (s2 : Int)])] m p [s0, s1, s2] j wr ∧ Below w.heap.size w wr) (fun ci _ => 3 - (intOf ci).toNat)
    case atStart => exact ⟨0, by omega, rfl, unhide HP, unhide Hb5⟩
    case round =>
      obtain ⟨j, hj, rfl, hP, hb⟩ := hrel
      clear HP Hb5
      have HP := hide hP
      have Hb := hide hb
      clear hP hb
      by_cases hlt : j < 3
      · clear HACT
        have hjs : j = 0 ∨ j = 1 ∨ j = 2 := by omega
        rcases hjs with rfl | rfl | rfl
        · go_wp2_with fail
          refine (full_walk 0 wr).mono ?_
          rintro e w6 ⟨rfl, hb6⟩
          have HP6 := hide ((unhide HP).below hb6)
          have Hb6 := hide ((unhide Hb).trans (hb6.mono (unhide Hb).size))
          clear hb6 HP Hb
          go_wp2_with fail
          refine (pre_program (unhide HP6) (unhide HSZ) (by omega) 0 _ (fullS_len _)).mono ?_
          rintro e w7 ⟨⟨z, rfl⟩, hP7, hb7⟩
          have HP7 := hide hP7
          have Hb7 := hide ((unhide Hb6).trans hb7)
          clear hP7 hb7 HP6 Hb6
          go_wp2_with fail
          go_roundw
          case rel => exact ⟨1, by omega, by go_num, unhide HP7, unhide Hb7⟩
          case measure => simp [intOf]
        · go_wp2_with fail
          refine (full_walk 1 wr).mono ?_
          rintro e w6 ⟨rfl, hb6⟩
          have HP6 := hide ((unhide HP).below hb6)
          have Hb6 := hide ((unhide Hb).trans (hb6.mono (unhide Hb).size))
          clear hb6 HP Hb
          go_wp2_with fail
          refine (pre_program (unhide HP6) (unhide HSZ) (by omega) 1 _ (fullS_len _)).mono ?_
          rintro e w7 ⟨⟨z, rfl⟩, hP7, hb7⟩
          have HP7 := hide hP7
          have Hb7 := hide ((unhide Hb6).trans hb7)
          clear hP7 hb7 HP6 Hb6
          go_wp2_with fail
          go_roundw
          case rel => exact ⟨2, by omega, by go_num, unhide HP7, unhide Hb7⟩
          case measure => simp [intOf]
        · go_wp2_with fail
          refine (full_walk 2 wr).mono ?_
          rintro e w6 ⟨rfl, hb6⟩
          have HP6 := hide ((unhide HP).below hb6)
          have Hb6 := hide ((unhide Hb).trans (hb6.mono (unhide Hb).size))
          clear hb6 HP Hb
          go_wp2_with fail
          refine (pre_program (unhide HP6) (unhide HSZ) (by omega) 2 _ (fullS_len _)).mono ?_
          rintro e w7 ⟨⟨z, rfl⟩, hP7, hb7⟩
          have HP7 := hide hP7
          have Hb7 := hide ((unhide Hb6).trans hb7)
          clear hP7 hb7 HP6 Hb6
          go_wp2_with fail
          go_roundw
          case rel => exact ⟨3, by omega, by go_num, unhide HP7, unhide Hb7⟩
          case measure => simp [intOf]
      · obtain rfl : j = 3 := by omega
        obtain ⟨F, D, d, x, hS, hI, hx, hw, ho⟩ := unhide HP
        have HS := hide hS
        have HI := hide hI
        have HX := hide hx
        have HWO := hide (And.intro hw ho)
        clear hS hI hx hw ho HP hlt hj
        go_wp2_with fail
        obtain ⟨b0, hb0⟩ : ∃ b0, b0 = allM d x.sz 0 := ⟨_, rfl⟩
        obtain ⟨b2, hb2⟩ : ∃ b2, b2 = allM d x.sz 2 := ⟨_, rfl⟩
        have HB0 := hide hb0
        have HB2 := hide hb2
        have HSUM : Hid (x.sz.sum ≤ 4096) := hide (Nat.le_trans (by rw [unhide HX]; exact unhide HSZ) (by decide : 20 ≤ 4096))
        have HL0 : Hid (b0.length ≤ 140737488351232) := hide (by rw [hb0]; exact all_short2 (unhide HI).ok (unhide HSUM) 0)
        have HL2 : Hid (b2.length ≤ 140737488351232) := hide (by rw [hb2]; exact all_short2 (unhide HI).ok (unhide HSUM) 2)
        clear hb0 hb2
        refine Flow.wp_region (wasV (fun j => match j with | 0 => .pointer (some ⟨m, 0, none⟩) | 1 => undef | 2 => .string (tx b0) | 3 => .pointer (some ⟨m, 0, none⟩) | 4 => undef | 5 => .string (tx b2) | 6 => .agg [Value.string (tx b0), .string (tx b2)].toArray | 7 => undef | 8 => undef | _ => undef) b0 b2) (Flow.three 7 8 (WasA wr) (WasB wr) (WasD wr b0 b2)) (0, false) (by kernel_rfl) (by kernel_rfl) (by unfold Flow.three; simp; exact ⟨rfl, (Below.refl _ _).drew⟩) ⟨?_, ?_, ?_, ?_, ?_, ?_, ?_, ?_, ?_, trivial⟩ ?_
        · exact Flow.move (Flow.goes_plain rfl) (Flow.three.upd (by decide) (by decide)) (.inl rfl) fun a s w' hs hd => (hs 6 (by kernel_rfl))
        · refine Flow.call (Flow.goes_plain rfl) fun a L s w' hC hL hn hs hd => ⟨28, _, op_call28 rfl (hd 0 65 (by kernel_rfl)) rfl rfl w', ?_⟩
          have h8 := hn.after 8 (by kernel_rfl)
          have hlow := was_low hC h8
          refine (all_walk ((unhide HS).below hlow.2).pm 0).mono ?_
          rintro e w'' ⟨v, rfl, hO, hb⟩
          rw [← unhide HB0] at hO
          have hV : s.2 = true ∨ Shows b0 v w'' := .inr (hO.row (unhide HL0))
          exact ⟨v, s, rfl, wasV.grow hb rfl (.inl rfl), was_grow (by decide) (by decide) hC h8 hb, hV⟩
        · refine Flow.pure (Flow.goes_plain rfl) (Flow.three.upd (by decide) (by decide)) fun a L s w' hC hL hn hs hd => ?_
          have h : s.2 = true ∨ Shows b0 _ w' := (hd 1 66 (by kernel_rfl))
          have hlow := was_low hC (hn.after 8 (by kernel_rfl))
          have h2 := h.resolve_left (by rw [hlow.1]; decide)
          exact ⟨_, op_text rfl rfl h2, rfl⟩
        · exact Flow.move (Flow.goes_plain rfl) (Flow.three.upd (by decide) (by decide)) (.inl rfl) fun a s w' hs hd => (hs 6 (by kernel_rfl))
        · refine Flow.call (Flow.goes_plain rfl) fun a L s w' hC hL hn hs hd => ⟨28, _, op_call28 rfl (hd 3 68 (by kernel_rfl)) rfl rfl w', ?_⟩
          have h8 := hn.after 8 (by kernel_rfl)
          have hlow := was_low hC h8
          refine (all_walk ((unhide HS).below hlow.2).pm 2).mono ?_
          rintro e w'' ⟨v, rfl, hO, hb⟩
          rw [← unhide HB2] at hO
          have hV : s.2 = true ∨ Shows b2 v w'' := .inr (hO.row (unhide HL2))
          exact ⟨v, s, rfl, wasV.grow hb rfl (.inl rfl), was_grow (by decide) (by decide) hC h8 hb, hV⟩
        · refine Flow.pure (Flow.goes_plain rfl) (Flow.three.upd (by decide) (by decide)) fun a L s w' hC hL hn hs hd => ?_
          have h : s.2 = true ∨ Shows b2 _ w' := (hd 4 69 (by kernel_rfl))
          have hlow := was_low hC (hn.after 8 (by kernel_rfl))
          have h2 := h.resolve_left (by rw [hlow.1]; decide)
          exact ⟨_, op_text rfl rfl h2, rfl⟩
        · refine Flow.pure (Flow.goes_plain rfl) (Flow.three.upd (by decide) (by decide)) fun a L s w' hC hL hn hs hd => ?_
          skip
          exact ⟨_, op_build72 rfl (hd 2 67 (by kernel_rfl)) (hd 5 70 (by kernel_rfl))  w', rfl⟩
        · refine Flow.value (Flow.goes_plain rfl) fun a L s w' hC hL hn hs hd => ?_
          have h8 := hn.after 8 (by kernel_rfl)
          have hp := hC.pre hL h8
          have hb : ∀ C, Below w'.heap.size w' (w'.alloc (.cells C 72)) := fun C => (Below.refl _ _).alloc (Nat.le_refl _) _
          exact ⟨_, (w'.heap.size, false), _, op_alloc72 rfl w', wasV.grow (hb _) hp.1.symm (.inr hL), Flow.three.first (by decide) h8 ⟨rfl, hp.2.trans ((hb _).mono hp.2.size), ⟨_, _, heap_alloc_new w' _, rfl⟩, hp.2.size⟩, rfl⟩
        · refine Flow.store (Flow.goes_plain rfl) fun a L s w' hC hL hn hs hd => ?_
          have h7 : L 7 = true := hn.done 7 (by kernel_rfl)
          have hm := hC.mid h7 hL
          obtain ⟨b, q⟩ := s
          obtain rfl : q = false := hm.1
          exact ⟨(b, true), _, op_store72 rfl (hd 7 9 (by kernel_rfl)) (hd 6 71 (by kernel_rfl)) hm.2.2.1.there rfl (by simp [Value.oneCell']), fun j u _ h => wasV.done j u h, Flow.three.post ⟨hm.2.1.grown (setCells_grown _ _ _ _) hm.2.1.size (fun k hk => by simp at hk; have := hm.2.2.2; simp at this; omega), hm.2.2.1.sets _ rfl, hm.2.2.2⟩, rfl⟩
        · intro L s w5 hC hL vals hv
          obtain ⟨hbW, hAW, hbw⟩ := hC.end (hL 8 (by decide))
          have e7 : vals 7 = .pointer (some ⟨s.1, 0, none⟩) := hv 7 _ 9 rfl rfl
          simp only [Free.putAll, Act.put, List.setIfInBounds_toArray, List.set_cons_succ, List.set_cons_zero, e7]
          generalize s.1 = bw at *
          have HS5 := hide (((unhide HS).below hbW).add hAW (fun e => by have := (unhide HS).pm.lt _ e; omega))
          have Hb5 := hide ((unhide Hb).trans (hbW.mono (unhide Hb).size))
          clear hC hL hv e7 hbW hAW hbw HS Hb HL0 HL2 HSUM
          generalize vals 0 = y0 at *
          generalize vals 1 = y1 at *
          generalize vals 2 = y2 at *
          generalize vals 3 = y3 at *
          generalize vals 4 = y4 at *
          generalize vals 5 = y5 at *
          generalize vals 6 = y6 at *
          generalize vals 8 = y8 at *
          go_wp2_with fail
          refine (sit_ops (unhide HS5)).mono ?_
          rintro e w6 ⟨ov, F6, rfl, hO6, hS6, hb6⟩
          have HM6 : Hid (Mid w.heap.size [(bw, [Value.string (tx b0), .string (tx b2)]), (bn, [.int .i64 (s0 : Int), .int .i64 (s1 : Int), .int .i64 (s2 : Int)])] m p [s0, s1, s2] d 0 w6) := hide ⟨F6, D, d, x.told, hS6, unhide HI, unhide HX, Else.refl _ _ _, (unhide HWO).1, Nat.le_refl _, fun o ho => by cases ho⟩
          have Hb6 := hide ((unhide Hb5).trans hb6)
          have HXS := HX
          clear hO6 hS6 hb6 HS5 Hb5
          go_wp2
          go_loopw [76] (fun ci wr => ∃ j : Nat, j ≤ len ∧ ci = .int .i64 (j : Int) ∧ Mid w.heap.size [(bw, [Value.string (tx b0), .string (tx b2)]), (bn, [.int .i64 (s0 : Int), .int .i64 (s1 : Int), .int .i64 (s2 : Int)])] m p [s0, s1, s2] d j wr ∧ Below w.heap.size w wr) (fun ci _ => len - (intOf ci).toNat)
          case atStart => exact ⟨0, by omega, rfl, unhide HM6, unhide Hb6⟩
          case round =>
            clear HM6 Hb6
            obtain ⟨j, hj, rfl, hM, hb⟩ := hrel
            have HM := hide hM
            have Hb := hide hb
            clear hM hb
            by_cases hlt : j < len
            · skip
              obtain ⟨ba, off, kd, pt, pl, v, ka, kl, kc, rfl, hbN, c0, c1, c2, c3, c4, hpl, hkk⟩ := ((unhide HACT).below (unhide Hb)) j hlt
              have hbl : ∀ C, Below wr.heap.size wr (wr.alloc (.cells C 51)) := fun C => (Below.refl _ _).alloc (Nat.le_refl _) _
              have HM0 : Hid (∀ C, Mid w.heap.size [(bw, [Value.string (tx b0), .string (tx b2)]), (bn, [.int .i64 (s0 : Int), .int .i64 (s1 : Int), .int .i64 (s2 : Int)])] m p [s0, s1, s2] d j (wr.alloc (.cells C 51))) := hide (fun C => (unhide HM).below (hbl C))
              have Hb0 : Hid (∀ C, Below w.heap.size w (wr.alloc (.cells C 51))) := hide (fun C => (unhide Hb).trans ((hbl C).mono (unhide Hb).size))
              have HA0 : Hid (Arr (wr.alloc (.cells #[.int .i64 kd, .int .i64 pt, .int .i64 pl, .int .u8 ((v.toNat : Nat) : Int), .slice ka kl kc] 51)) wr.heap.size [.int .i64 kd, .int .i64 pt, .int .i64 pl, .int .u8 ((v.toNat : Nat) : Int), .slice ka kl kc]) := hide ⟨_, _, heap_alloc_new wr _, rfl⟩
              have HPL := hide hpl
              clear hbl hkk HM Hb HACT hpl
              obtain ⟨sb, hsb⟩ : ∃ sb, sb = wr.heap.size := ⟨_, rfl⟩
              by_cases hk : kd = 1
              · subst hk
                go_wp2_with fail
                have HM1 := hide (unhide HM0 #[.int .i64 1, .int .i64 pt, .int .i64 pl, .int .u8 ((v.toNat : Nat) : Int), .slice ka kl kc])
                have Hb1 := hide (unhide Hb0 #[.int .i64 1, .int .i64 pt, .int .i64 pl, .int .u8 ((v.toNat : Nat) : Int), .slice ka kl kc])
                clear HM0 Hb0 c0 c1 c2 c3 c4
                rw [← hsb] at HA0 ⊢
                generalize wr.alloc (.cells #[.int .i64 1, .int .i64 pt, .int .i64 pl, .int .u8 ((v.toNat : Nat) : Int), .slice ka kl kc] 51) = w7 at *
                clear hsb
                refine (mid_erase (unhide HM1) (unhide HSZ) (by omega) pl (unhide HPL)).mono ?_
                rintro e w8 ⟨⟨z, rfl⟩, hM8, hb8⟩
                have HM8 := hide hM8
                have Hb8 := hide ((unhide Hb1).trans hb8)
                clear hM8 hb8 HM1 Hb1 HA0
                go_wp2_with fail
                go_roundw
                case rel => exact ⟨j + 1, by omega, by go_num, unhide HM8, unhide Hb8⟩
                case measure => simp [intOf]; omega
              · go_wp2_with fail
                have HM1 := hide (unhide HM0 #[.int .i64 kd, .int .i64 pt, .int .i64 pl, .int .u8 ((v.toNat : Nat) : Int), .slice ka kl kc])
                have Hb1 := hide (unhide Hb0 #[.int .i64 kd, .int .i64 pt, .int .i64 pl, .int .u8 ((v.toNat : Nat) : Int), .slice ka kl kc])
                clear HM0 Hb0 c0 c1 c2 c3 c4
                rw [← hsb] at HA0 ⊢
                generalize wr.alloc (.cells #[.int .i64 kd, .int .i64 pt, .int .i64 pl, .int .u8 ((v.toNat : Nat) : Int), .slice ka kl kc] 51) = w7 at *
                clear hsb
                refine Flow.wp_region (VT (fun j => match j with | 0 => .pointer (some ⟨m, 0, none⟩) | 1 => .pointer (some ⟨sb, 2, none⟩) | 2 => .int .i64 pl | 3 => .pointer (some ⟨sb, 3, none⟩) | 4 => .int .u8 ((v.toNat : Nat) : Int) | 5 => secV (fullS v) | 6 => undef | _ => undef) 6) (Flow.two 6 (fun _ w' => Below w7.heap.size w7 w') (fun _ w' => Mid w.heap.size [(bw, [Value.string (tx b0), .string (tx b2)]), (bn, [.int .i64 (s0 : Int), .int .i64 (s1 : Int), .int .i64 (s2 : Int)])] m p [s0, s1, s2] d (j + 1) w' ∧ Below w.heap.size w w')) () (by kernel_rfl) (by kernel_rfl) (by unfold Flow.two; simp; exact (Below.refl _ w7).drew) ⟨?_, ?_, ?_, ?_, ?_, ?_, ?_, trivial⟩ ?_
                · exact Flow.move (Flow.goes_plain rfl) (Flow.two.upd (by decide)) (.inl rfl) fun a s w' hs hd => (hs 6 (by kernel_rfl))
                · refine Flow.pure (Flow.goes_plain rfl) (Flow.two.upd (by decide)) fun a L s w' hC hL hn hs hd => ?_
                  skip
                  exact ⟨_, op_f51_2 rfl (hs 11 (by kernel_rfl)) w', rfl⟩
                · refine Flow.pure (Flow.goes_plain rfl) (Flow.two.upd (by decide)) fun a L s w' hC hL hn hs hd => ?_
                  have hA := hC.pre (hn.after 6 (by kernel_rfl))
                  exact ⟨_, op_load3 rfl (hd 1 88 (by kernel_rfl)) ((hA.cell (p := ⟨sb, 2, none⟩) (unhide HA0).lt).trans ((unhide HA0).cell (i := 2) rfl)), rfl⟩
                · refine Flow.pure (Flow.goes_plain rfl) (Flow.two.upd (by decide)) fun a L s w' hC hL hn hs hd => ?_
                  skip
                  exact ⟨_, op_f51_3 rfl (hs 11 (by kernel_rfl)) w', rfl⟩
                · refine Flow.pure (Flow.goes_plain rfl) (Flow.two.upd (by decide)) fun a L s w' hC hL hn hs hd => ?_
                  have hA := hC.pre (hn.after 6 (by kernel_rfl))
                  exact ⟨_, op_load5 rfl (hd 3 90 (by kernel_rfl)) ((hA.cell (p := ⟨sb, 3, none⟩) (unhide HA0).lt).trans ((unhide HA0).cell (i := 3) rfl)), rfl⟩
                · refine Flow.call (Flow.goes_plain rfl) fun a L s0 w' hC hL hn hs hd => ⟨18, #[.int .u8 ((v.toNat : Nat) : Int)], op_call18 (v0 := .int .u8 ((v.toNat : Nat) : Int)) rfl (hd 4 91 (by kernel_rfl)) rfl w', (full_walk v w').mono ?_⟩
                  rintro e w'' ⟨rfl, hb⟩
                  have hA := hC.pre (hn.after 6 (by kernel_rfl))
                  exact ⟨_, (), rfl, fun _ _ _ h => h, Flow.two.put (by decide) (hn.after 6 (by kernel_rfl)) (hA.trans (hb.mono hA.size)), rfl⟩
                · refine Flow.call (Flow.goes_plain rfl) fun a L s0 w' hC hL hn hs hd => ⟨11, _, op_call11 rfl (hd 0 87 (by kernel_rfl)) rfl (hd 2 89 (by kernel_rfl)) (hd 5 92 (by kernel_rfl)) rfl w', ?_⟩
                  have hA := hC.pre hL
                  refine (mid_program ((unhide HM1).below hA) (unhide HSZ) (by omega) pl (unhide HPL) _ (fullS_len v)).mono ?_
                  rintro e w'' ⟨⟨z, rfl⟩, hM, hb⟩
                  exact ⟨_, (), rfl, fun _ _ _ h => h, Flow.two.post ⟨hM, ((unhide Hb1).trans (hA.mono (unhide Hb1).size)).trans hb⟩, trivial⟩
                · intro L _ w8 hC hL vals hv
                  obtain ⟨hM8, hb8⟩ := hC.end (hL 6 (by decide))
                  simp only [Free.putAll, Act.put, List.setIfInBounds_toArray, List.set_cons_succ, List.set_cons_zero]
                  have HM8 := hide hM8
                  have Hb8 := hide hb8
                  clear hC hL hv hM8 hb8 HM1 Hb1 HA0
                  generalize vals 0 = z0 at *
                  generalize vals 1 = z1 at *
                  generalize vals 2 = z2 at *
                  generalize vals 3 = z3 at *
                  generalize vals 4 = z4 at *
                  generalize vals 5 = z5 at *
                  generalize vals 6 = z6 at *
                  go_wp2_with fail
                  go_roundw
                  case rel => exact ⟨j + 1, by omega, by go_num, unhide HM8, unhide Hb8⟩
                  case measure => simp [intOf]; omega
            · obtain rfl : j = len := by omega
              clear HACT
              obtain ⟨F1, D1, d1, x1, hS1, hI1, hx1, hE1, hw1, ho1, hO1⟩ := unhide HM
              have HS1 := hide hS1
              have HI1 := hide hI1
              have HX1 := hide hx1
              have HE1 := hide hE1
              have HW1 : Hid (d1.wait.length ≤ 1000) := hide (by omega)
              have HO1 := hide hO1
              have HOL := hide ho1
              clear hS1 hI1 hx1 hE1 hw1 ho1 hO1 HM hlt hj
              go_wp2_with fail
              refine (sit_ops (unhide HS1)).mono ?_
              rintro e w3 ⟨ov, F3, rfl, hO3, hS3, hb3⟩
              obtain ⟨oa, oc, rfl, _, _⟩ := owns_slice hO3
              have HOR : Hid (∀ i, i < x1.ops.length → ∃ (g : Nat) (r : OpT), oa = some ⟨g, 0, none⟩ ∧ g < w3.heap.size ∧ w3.rangeAt g (i * 4) (opV r) ∧ r.2.1 = 1 ∧ 0 ≤ r.2.2.1 ∧ r.2.2.1 < (s1 : Int)) := hide fun i hi => by
                obtain ⟨g, c, e, hg, hr⟩ := ops_range hO3 hi
                simp only [Value.slice.injEq] at e
                exact ⟨g, _, e.1, hg, hr, unhide HO1 _ (getD_memO hi _)⟩
              have HS3 := hide hS3
              have Hb3 := hide ((unhide Hb).trans hb3)
              have hc3 := ((unhide HS3).keep (bn, [.int .i64 (s0 : Int), .int .i64 (s1 : Int), .int .i64 (s2 : Int)]) (by simp)).1.cell (i := 1) rfl
              have hbn3 := ((unhide HS3).keep (bn, [.int .i64 (s0 : Int), .int .i64 (s1 : Int), .int .i64 (s2 : Int)]) (by simp)).1.lt
              have hn60 : x1.ops.length ≤ 60 := Nat.le_trans (unhide HOL) hlen
              clear hO3 hS3 hb3 HS1 Hb HO1 HOL
              generalize x1.ops.length = n at *
              simp only [] at hc3 hbn3
              go_wp2
              go_loopw [98] (fun ci wr => ∃ i : Nat, i ≤ n ∧ ci = .int .i64 (i : Int) ∧ Below w3.heap.size w3 wr) (fun ci _ => n - (intOf ci).toNat)
              case atStart => exact ⟨0, by omega, rfl, Below.refl _ _⟩
              case round =>
                obtain ⟨i, hi, rfl, hb⟩ := hrel
                have Hb := hide hb
                by_cases hlt : i < n
                · obtain ⟨g, ⟨k1, k2, k3, k4⟩, rfl, hg, hr, e2, e3, e4⟩ := unhide HOR i hlt
                  obtain rfl : k2 = 1 := e2
                  have e3' : 0 ≤ k3 := e3
                  have e4' : k3 < (s1 : Int) := e4
                  have c0 : wr.cell? ⟨g, i * 4, none⟩ = some (.int .i64 k1) := (hb.cell (p := ⟨g, i * 4, none⟩) hg).trans (hr 0 _ rfl)
                  have c1 : wr.cell? ⟨g, i * 4 + 1, none⟩ = some (.int .i64 1) := (hb.cell (p := ⟨g, i * 4 + 1, none⟩) hg).trans (hr 1 _ rfl)
                  have c2 : wr.cell? ⟨g, i * 4 + 2, none⟩ = some (.int .i64 k3) := (hb.cell (p := ⟨g, i * 4 + 2, none⟩) hg).trans (hr 2 _ rfl)
                  have c3 : wr.cell? ⟨g, i * 4 + 3, none⟩ = some (.int .i64 k4) := (hb.cell (p := ⟨g, i * 4 + 3, none⟩) hg).trans (hr 3 _ rfl)
                  have hbl : ∀ C, Below wr.heap.size wr (wr.alloc (.cells C 39)) := fun C => (Below.refl _ _).alloc (Nat.le_refl _) _
                  have HbC : Hid (∀ C, Below w3.heap.size w3 (wr.alloc (.cells C 39))) := hide fun C => (unhide Hb).trans ((hbl C).mono (unhide Hb).size)
                  have hcn : ∀ C, (wr.alloc (.cells C 39)).cell? ⟨bn, 1, none⟩ = some (.int .i64 (s1 : Int)) := fun C => ((unhide HbC C).cell (p := ⟨bn, 1, none⟩) hbn3).trans hc3
                  clear hb hg hr e3 e4 hbl HOR hc3 hbn3 Hb
                  go_wp2_with fail
                  go_roundw
                  case rel => exact ⟨i + 1, by omega, by go_num, unhide HbC _⟩
                  case measure => simp [intOf]; omega
                · obtain rfl : i = n := by omega
                  clear HOR
                  have HS4 := hide ((unhide HS3).below (unhide Hb))
                  have Hb4 := hide ((unhide Hb3).trans ((unhide Hb).mono (unhide Hb3).size))
                  obtain ⟨bb, hbb⟩ : ∃ bb, bb = bnd [s0, s1, s2] 1 := ⟨_, rfl⟩
                  have HBB := hide hbb
                  have HCN : Hid (wr.cell? ⟨bn, 1, none⟩ = some (.int .i64 (s1 : Int))) := hide ((hb.cell (p := ⟨bn, 1, none⟩) hbn3).trans hc3)
                  have hbn4 : bn < wr.heap.size := Nat.lt_of_lt_of_le hbn3 hb.size
                  have HRD : Hid (∀ k : Nat, k < s1 → readM d1 x1.told.sz 1 (k : Int) = (d1.now.getD (bb + k) [], 0)) := hide fun k hk => by
                    have h20 := unhide HSZ
                    show readM d1 x1.sz 1 (k : Int) = _
                    rw [unhide HX1, unhide HBB]
                    exact read_in (k := 1) (by rw [(unhide HI1).len]; exact h20) (by simp) hk
                  have HNW : Hid (∀ k : Nat, k < s1 → (d1.now.getD (bb + k) []).length = 64) := hide fun k hk => getD_mem64 (unhide HI1).ok.nowS (by
                    have h20 := unhide HSZ
                    have h21 : bnd [s0, s1, s2] 1 + s1 ≤ ([s0, s1, s2] : List Nat).sum := bnd_part (sz := [s0, s1, s2]) (k := 1) (by simp)
                    rw [(unhide HI1).ok.now, (unhide HI1).len, unhide HBB]
                    omega)
                  clear hb hbb hlt hi hc3 hbn3 HS3 Hb3 Hb
                  generalize wr = w4 at *
                  go_wp2
                  go_loopw [14, 15] (fun cd ci wr => ∃ k : Nat, k ≤ s1 ∧ cd = .int .i64 ((dirtyN d1 bb 0 k : Nat) : Int) ∧ ci = .int .i64 (k : Int) ∧ Below w4.heap.size w4 wr) (fun _ ci _ => s1 - (intOf ci).toNat)
                  case atStart => exact ⟨0, by omega, rfl, rfl, Below.refl _ _⟩
                  case round =>
                    obtain ⟨k, hk, rfl, rfl, hb⟩ := hrel
                    have Hb := hide hb
                    have hcn : wr.cell? ⟨bn, 1, none⟩ = some (.int .i64 (s1 : Int)) := (hb.cell (p := ⟨bn, 1, none⟩) hbn4).trans (unhide HCN)
                    have hqk := dirtyN_le d1 bb k 0
                    clear hb
                    by_cases hlt : k < s1
                    · have HMR := hide (mread_walk ((unhide HS4).below (unhide Hb)).pm 1 (k : Int) (by omega))
                      rw [unhide HRD k hlt] at HMR
                      have HS64 := hide (unhide HNW k hlt)
                      have HDS := hide (dirtyN_snoc d1 bb k 0)
                      rw [Nat.zero_add] at HDS
                      generalize d1.now.getD (bb + k) [] = sx at *
                      generalize dirtyN d1 bb 0 k = q at *
                      go_wp2_with fail
                      refine (unhide HMR).mono ?_
                      clear HMR hcn
                      rintro e w5 ⟨rfl, hb5⟩
                      have Hb5 := hide hb5
                      clear hb5
                      go_wp2_with (refine wpList_alloc 30 30 (bytesV zeroS) rfl rfl alloc30 ?_)
                      intro w6 hA6 hb6 hs6
                      have HX6 := hide hA6
                      have Hb6 := hide ((unhide Hb5).trans (hb6.mono (unhide Hb5).size))
                      have hq1 := (unhide Hb5).size
                      clear hA6 hb6 Hb5
                      generalize w5.heap.size = q1 at *
                      go_wp2_with (refine wpList_storeAll 30 _ _ q1 (bytesV sx) (bytesV zeroS) rfl rfl rfl rfl (unhide HX6) (by rw [bytesV_length, bytesV_length, unhide HS64]; rfl) (info30s (unhide HS64)) (bytesV_one _) ?_)
                      intro w7 hA7 hg7 hs7
                      have HX7 := hide hA7
                      have Hb7 := hide ((unhide Hb6).grown hg7 (unhide Hb6).size (fun k hk => by simp at hk; omega))
                      clear hA7 hg7 HX6 Hb6
                      by_cases hs : sx = blankS
                      · have HE : Hid ((!(sx == blankS)) = false) := hide (by rw [hs]; simp)
                        have HQ : Hid (dirtyN d1 bb 0 (k + 1) = q + 0) := hide (by rw [unhide HDS, if_pos hs])
                        clear hs HDS
                        go_wp2_with fail
                        refine Flow.wp_region (Flow.VV (fun j => match j with | 0 => secV sx | 1 => secV blankS | 2 => .bool false | _ => undef)) (fun _ (_ : Unit) w' => Below w7.heap.size w7 w') () (by kernel_rfl) (by kernel_rfl) (Below.refl _ _).drew ⟨?_, ?_, ?_, trivial⟩ ?_
                        · refine Flow.pure (Flow.goes_plain rfl) (fun _ _ _ h => h) fun a L s w' hC hL hn hs hd => ?_
                          skip
                          exact ⟨_, op_load30 rfl (hs 16 (by kernel_rfl)) (((unhide HX7).below hC).range) (unhide HS64), rfl⟩
                        · refine Flow.call (Flow.goes_plain rfl) fun a L s0 w' hC hL hn hs hd => ⟨34, #[], op_call34 rfl rfl w', (blank_walk w').mono ?_⟩
                          rintro e w'' ⟨rfl, hb⟩
                          exact ⟨_, (), rfl, fun _ _ _ h => h, hC.trans (hb.mono hC.size), rfl⟩
                        · refine Flow.pure (Flow.goes_plain rfl) (fun _ _ _ h => h) fun a L s w' hC hL hn hs hd => ?_
                          skip
                          exact ⟨_, op_neq30 rfl (hd 0 130 (by kernel_rfl)) (hd 1 131 (by kernel_rfl)) (unhide HE) (unhide HS64) blankS_len w', rfl⟩
                        · intro L _ w8 hC hL vals hv
                          have e2 : vals 2 = .bool false := hv 2 _ 132 rfl rfl
                          simp only [Free.putAll, Act.put, List.setIfInBounds_toArray, List.set_cons_succ, List.set_cons_zero, e2]
                          have Hb8 := hide ((unhide Hb).trans (((unhide Hb7).trans (hC.mono (unhide Hb7).size)).mono (unhide Hb).size))
                          clear hC hL hv e2 HX7 Hb7 HE
                          generalize vals 0 = t0 at *
                          generalize vals 1 = t1 at *
                          go_wp2_with fail
                          go_roundw
                          case rel => exact ⟨k + 1, by omega, by rw [unhide HQ]; go_num, by go_num, unhide Hb8⟩
                          case measure => simp [intOf]; omega
                      · have HE : Hid ((!(sx == blankS)) = true) := hide (by simpa using hs)
                        have HQ : Hid (dirtyN d1 bb 0 (k + 1) = q + 1) := hide (by rw [unhide HDS, if_neg hs])
                        clear hs HDS
                        go_wp2_with fail
                        refine Flow.wp_region (Flow.VV (fun j => match j with | 0 => secV sx | 1 => secV blankS | 2 => .bool true | _ => undef)) (fun _ (_ : Unit) w' => Below w7.heap.size w7 w') () (by kernel_rfl) (by kernel_rfl) (Below.refl _ _).drew ⟨?_, ?_, ?_, trivial⟩ ?_
                        · refine Flow.pure (Flow.goes_plain rfl) (fun _ _ _ h => h) fun a L s w' hC hL hn hs hd => ?_
                          skip
                          exact ⟨_, op_load30 rfl (hs 16 (by kernel_rfl)) (((unhide HX7).below hC).range) (unhide HS64), rfl⟩
                        · refine Flow.call (Flow.goes_plain rfl) fun a L s0 w' hC hL hn hs hd => ⟨34, #[], op_call34 rfl rfl w', (blank_walk w').mono ?_⟩
                          rintro e w'' ⟨rfl, hb⟩
                          exact ⟨_, (), rfl, fun _ _ _ h => h, hC.trans (hb.mono hC.size), rfl⟩
                        · refine Flow.pure (Flow.goes_plain rfl) (fun _ _ _ h => h) fun a L s w' hC hL hn hs hd => ?_
                          skip
                          exact ⟨_, op_neq30 rfl (hd 0 130 (by kernel_rfl)) (hd 1 131 (by kernel_rfl)) (unhide HE) (unhide HS64) blankS_len w', rfl⟩
                        · intro L _ w8 hC hL vals hv
                          have e2 : vals 2 = .bool true := hv 2 _ 132 rfl rfl
                          simp only [Free.putAll, Act.put, List.setIfInBounds_toArray, List.set_cons_succ, List.set_cons_zero, e2]
                          have Hb8 := hide ((unhide Hb).trans (((unhide Hb7).trans (hC.mono (unhide Hb7).size)).mono (unhide Hb).size))
                          clear hC hL hv e2 HX7 Hb7 HE
                          generalize vals 0 = t0 at *
                          generalize vals 1 = t1 at *
                          go_wp2_with fail
                          go_roundw
                          case rel => exact ⟨k + 1, by omega, by rw [unhide HQ]; go_num, by go_num, unhide Hb8⟩
                          case measure => simp [intOf]; omega
                    · obtain rfl : s1 = k := by omega
                      have HWP := hide (sit_wipe ((unhide HS4).below (unhide Hb)) (unhide HI1) (by omega) (by rw [show x1.told.sz = _ from unhide HX1]; exact unhide HSZ) (by rw [show x1.told.sz = _ from unhide HX1]; simp) (unhide HW1) rfl)
                      rw [show x1.told.sz = _ from unhide HX1, ← unhide HBB] at HWP
                      have hq : dirtyN d1 bb 0 (([s0, s1, s2] : List Nat).getD 1 0) = dirtyN d1 bb 0 s1 := rfl
                      rw [hq] at HWP
                      have HBw := hide ((unhide Hb4).trans ((unhide Hb).mono (unhide Hb4).size))
                      clear hq hlt hk HS4 Hb Hb4 HRD HNW HCN hbn4
                      generalize dirtyN d1 bb 0 s1 = q at *
                      go_wp2_with fail
                      refine (unhide HWP).mono ?_
                      clear HWP hcn
                      rintro e w5 ⟨rfl, F5, D5, d5, x5, hS5, ⟨c5, hI5⟩, hx5, hE5, hB5, hq5, hb5⟩
                      have HS5 := hide hS5
                      have HI5 := hide hI5
                      have HX5 := hide hx5
                      have HE5 := hide hE5
                      have HBL := hide hB5
                      have HQ5 := hide hq5
                      have Hb5 := hide ((unhide HBw).trans hb5)
                      clear hS5 hI5 hx5 hE5 hB5 hq5 hb5 HBw
                      go_wp2_with fail
                      refine (sit_ops (unhide HS5)).mono ?_
                      rintro e w6 ⟨ov, F6, rfl, hO6, hS6, hb6⟩
                      obtain ⟨oa6, oc6, rfl, _, _⟩ := owns_slice hO6
                      have HS6 := hide hS6
                      have Hb6 := hide ((unhide Hb5).trans hb6)
                      clear hO6 hS6 hb6 HS5 Hb5
                      rw [unhide HQ5]
                      clear HQ5
                      go_wp2_with fail
                      refine (all_walk (unhide HS6).pm 1).mono ?_
                      rintro e w7 ⟨v7, rfl, hO7, hb7⟩
                      have HX6 : Hid (x5.told.sz = [s0, s1, s2]) := HX5
                      rw [unhide HX6] at hO7
                      have h20 : s0 + s1 + s2 ≤ 20 := by have := unhide HSZ; simp at this; omega
                      have HWH := hide (all_white (d := d5) (sz := [s0, s1, s2]) (unhide HI5).ok (by rw [(unhide HI5).len]; exact unhide HSZ) (by simp) (by rw [← unhide HBB]; exact unhide HBL))
                      have HEL := hide (all_else (d := d) (e := d5) (a := s0) (b := s1) (c := s2) (by rw [(unhide HI).len]; exact h20) (by rw [(unhide HI5).len]; exact h20) ((unhide HE1).trans (by rw [← unhide HBB]; exact unhide HE5)))
                      have HA0 : Hid (allM d5 x5.told.sz 0 = b0) := hide (by rw [unhide HX6, (unhide HEL).1, unhide HB0, unhide HX])
                      have HA2 : Hid (allM d5 x5.told.sz 2 = b2) := hide (by rw [unhide HX6, (unhide HEL).2, unhide HB2, unhide HX])
                      have HL0 : Hid (b0.length ≤ 140737488351232) := hide (by rw [← unhide HA0]; exact all_short2 (unhide HI5).ok (by rw [unhide HX6]; exact Nat.le_trans (unhide HSZ) (by decide)) 0)
                      have HL2 : Hid (b2.length ≤ 140737488351232) := hide (by rw [← unhide HA2]; exact all_short2 (unhide HI5).ok (by rw [unhide HX6]; exact Nat.le_trans (unhide HSZ) (by decide)) 2)
                      obtain ⟨b1, hb1⟩ : ∃ b1, b1 = allM d5 [s0, s1, s2] 1 := ⟨_, rfl⟩
                      have HA1 : Hid (allM d5 x5.told.sz 1 = b1) := hide (by rw [unhide HX6, hb1])
                      rw [← hb1] at hO7 HWH
                      have h64 : b1.length = s1 * 64 := (unhide HWH).2
                      obtain ⟨ra, rl, rc, rfl, _, _, _, hrow⟩ := hO7.row (by omega)
                      have hrl : rl = s1 * 64 := by rw [← hrow.1]; exact h64
                      have HROW : Hid (∀ i, i < rl → ∃ b off, ra = some ⟨b, off, none⟩ ∧ w7.cell? ⟨b, off + i, none⟩ = some (.int .u8 255)) := hide fun i hi => by
                        obtain ⟨b, off, e, _, hc⟩ := hrow.2.2 i hi
                        have hil : i < b1.length := by rw [hrow.1]; exact hi
                        have : b1.getD i 0 = 255 := (unhide HWH).1 _ (by rw [List.getD_eq_getElem?_getD, List.getElem?_eq_getElem hil]; exact List.getElem_mem hil)
                        exact ⟨b, off, e, by rw [hc, this]; rfl⟩
                      have HH64 := hide h64
                      have HS7 := hide ((unhide HS6).below hb7)
                      have Hb7 := hide ((unhide Hb6).trans (hb7.mono (unhide Hb6).size))
                      clear hO7 hb7 HS6 Hb6 HWH HEL hrow hb1 h64 HE5 HBL HE1 HI1 HW1 HX1 HBB HB0 HB2 HX HI HWO HXS h20
                      go_wp2
                      go_loopw [148] (fun ci wr => ∃ i : Nat, i ≤ rl ∧ ci = .int .i64 (i : Int) ∧ wr = w7) (fun ci _ => rl - (intOf ci).toNat)
                      case atStart => exact ⟨0, by omega, rfl, rfl⟩
                      case round =>
                        obtain ⟨i, hi, rfl, hw⟩ := hrel
                        obtain rfl : w7 = wr := hw.symm
                        clear hw
                        by_cases hlt : i < rl
                        · obtain ⟨b, off, rfl, hc⟩ := unhide HROW i hlt
                          clear HROW
                          go_wp2_with fail
                          go_roundw
                          case rel => exact ⟨i + 1, by omega, by go_num, by trivial⟩
                          case measure => simp [intOf]; omega
                        · obtain rfl : rl = i := by omega
                          clear HROW hlt hi
                          have HN7 := hide ((unhide HS7).keep (bn, [.int .i64 (s0 : Int), .int .i64 (s1 : Int), .int .i64 (s2 : Int)]) (by simp)).1
                          have HW7 := hide ((unhide HS7).keep (bw, [Value.string (tx b0), .string (tx b2)]) (by simp)).1
                          simp only [] at HN7 HW7
                          have HGE := hide (endG_grows b0 b1 b2)
                          go_wp2_with fail
                          refine Flow.wp_region (VG (fun j => match j with | 0 => .pointer (some ⟨m, 0, none⟩) | 1 => undef | 2 => .string (tx b0) | 3 => .pointer (some ⟨bw, 0, none⟩) | 4 => .string (tx b0) | 5 => .bool true | 6 => .bool true | 7 => .pointer (some ⟨m, 0, none⟩) | 8 => undef | 9 => .string (tx b2) | 10 => .pointer (some ⟨bw, 1, none⟩) | 11 => .string (tx b2) | 12 => .bool true | 13 => .bool true | 14 => .bool true | 15 => .pointer (some ⟨m, 0, none⟩) | 16 => undef | 17 => .int .i64 ((b1.length : Nat) : Int) | 18 => .pointer (some ⟨bn, 1, none⟩) | 19 => .int .i64 (s1 : Int) | 20 => .int .i64 ((b1.length : Nat) : Int) | 21 => .bool true | 22 => .bool true | 23 => .bool true | _ => undef) (endG b0 b1 b2)) (fun _ (_ : Unit) w' => Below w7.heap.size w7 w') () (by kernel_rfl) (by kernel_rfl) (Below.refl _ _).drew ⟨?_, ?_, ?_, ?_, ?_, ?_, ?_, ?_, ?_, ?_, ?_, ?_, ?_, ?_, ?_, ?_, ?_, ?_, ?_, ?_, ?_, ?_, ?_, ?_, trivial⟩ ?_
                          · exact Flow.move (Flow.goes_plain rfl) (fun _ _ _ h => h) (.inl rfl) fun a s w' hs hd => (hs 6 (by kernel_rfl))
                          · refine Flow.call (Flow.goes_plain rfl) fun a L s w' hC hL hn hs hd => ⟨28, _, op_call28 rfl (hd 0 155 (by kernel_rfl)) rfl rfl w', ?_⟩
                            refine (all_walk ((unhide HS7).below hC).pm 0).mono ?_
                            rintro e w'' ⟨v, rfl, hO, hb⟩
                            rw [unhide HA0] at hO
                            have hV : Sees b0 v () w'' := hO.row (unhide HL0)
                            exact ⟨v, (), rfl, VG.grow (unhide HGE) hb, hC.trans (hb.mono hC.size), hV⟩
                          · refine Flow.pure (Flow.goes_plain rfl) (fun _ _ _ h => h) fun a L s w' hC hL hn hs hd => ?_
                            have h : Sees b0 _ () w' := (hd 1 156 (by kernel_rfl))
                            exact ⟨_, op_text rfl rfl h, rfl⟩
                          · refine Flow.pure (Flow.goes_plain rfl) (fun _ _ _ h => h) fun a L s w' hC hL hn hs hd => ?_
                            exact ⟨_, op_idx72 (k := 0) rfl (hs 9 (by kernel_rfl)) rfl (by decide) w', rfl⟩
                          · refine Flow.pure (Flow.goes_plain rfl) (fun _ _ _ h => h) fun a L s w' hC hL hn hs hd => ?_
                            skip
                            exact ⟨_, op_load9 rfl (hd 3 158 (by kernel_rfl)) ((hC.cell (p := ⟨bw, 0, none⟩) (unhide HW7).lt).trans ((unhide HW7).cell (i := 0) rfl)), rfl⟩
                          · refine Flow.pure (Flow.goes_plain rfl) (fun _ _ _ h => h) fun a L s w' hC hL hn hs hd => ?_
                            skip
                            exact ⟨_, op_eql9 rfl (hd 2 157 (by kernel_rfl)) (hd 4 159 (by kernel_rfl)) (tx_self b0) w', rfl⟩
                          · exact Flow.move (Flow.goes_plain rfl) (fun _ _ _ h => h) (.inl rfl) fun a s w' hs hd => (hd 5 160 (by kernel_rfl))
                          · exact Flow.move (Flow.goes_guard true rfl rfl rfl (by kernel_rfl) (fun _ _ _ h => h)) (fun _ _ _ h => h) (.inl rfl) fun a s w' hs hd => (hs 6 (by kernel_rfl))
                          · refine Flow.call (Flow.goes_guard true rfl rfl rfl (by kernel_rfl) (fun _ _ _ h => h)) fun a L s w' hC hL hn hs hd => ⟨28, _, op_call28 rfl (hd 7 162 (by kernel_rfl)) rfl rfl w', ?_⟩
                            refine (all_walk ((unhide HS7).below hC).pm 2).mono ?_
                            rintro e w'' ⟨v, rfl, hO, hb⟩
                            rw [unhide HA2] at hO
                            have hV : Sees b2 v () w'' := hO.row (unhide HL2)
                            exact ⟨v, (), rfl, VG.grow (unhide HGE) hb, hC.trans (hb.mono hC.size), hV⟩
                          · refine Flow.pure (Flow.goes_guard true rfl rfl rfl (by kernel_rfl) (fun _ _ _ h => h)) (fun _ _ _ h => h) fun a L s w' hC hL hn hs hd => ?_
                            have h : Sees b2 _ () w' := (hd 8 163 (by kernel_rfl))
                            exact ⟨_, op_text rfl rfl h, rfl⟩
                          · refine Flow.pure (Flow.goes_guard true rfl rfl rfl (by kernel_rfl) (fun _ _ _ h => h)) (fun _ _ _ h => h) fun a L s w' hC hL hn hs hd => ?_
                            exact ⟨_, op_idx72 (k := 1) rfl (hs 9 (by kernel_rfl)) rfl (by decide) w', rfl⟩
                          · refine Flow.pure (Flow.goes_guard true rfl rfl rfl (by kernel_rfl) (fun _ _ _ h => h)) (fun _ _ _ h => h) fun a L s w' hC hL hn hs hd => ?_
                            skip
                            exact ⟨_, op_load9 rfl (hd 10 165 (by kernel_rfl)) ((hC.cell (p := ⟨bw, 1, none⟩) (unhide HW7).lt).trans ((unhide HW7).cell (i := 1) rfl)), rfl⟩
                          · refine Flow.pure (Flow.goes_guard true rfl rfl rfl (by kernel_rfl) (fun _ _ _ h => h)) (fun _ _ _ h => h) fun a L s w' hC hL hn hs hd => ?_
                            skip
                            exact ⟨_, op_eql9 rfl (hd 9 164 (by kernel_rfl)) (hd 11 166 (by kernel_rfl)) (tx_self b2) w', rfl⟩
                          · refine Flow.pure (Flow.goes_plain rfl) (fun _ _ _ h => h) fun a L s w' hC hL hn hs hd => ?_
                            skip
                            exact ⟨_, op_pickT rfl (hd 6 161 (by kernel_rfl)) (hd 12 167 (by kernel_rfl)) w', rfl⟩
                          · exact Flow.move (Flow.goes_plain rfl) (fun _ _ _ h => h) (.inl rfl) fun a s w' hs hd => (hd 13 168 (by kernel_rfl))
                          · exact Flow.move (Flow.goes_guard true rfl rfl rfl (by kernel_rfl) (fun _ _ _ h => h)) (fun _ _ _ h => h) (.inl rfl) fun a s w' hs hd => (hs 6 (by kernel_rfl))
                          · refine Flow.call (Flow.goes_guard true rfl rfl rfl (by kernel_rfl) (fun _ _ _ h => h)) fun a L s w' hC hL hn hs hd => ⟨28, _, op_call28 rfl (hd 15 170 (by kernel_rfl)) rfl rfl w', ?_⟩
                            refine (all_walk ((unhide HS7).below hC).pm 1).mono ?_
                            rintro e w'' ⟨v, rfl, hO, hb⟩
                            rw [unhide HA1] at hO
                            have hV : Sees b1 v () w'' := hO.row (by have := unhide HH64; omega)
                            exact ⟨v, (), rfl, VG.grow (unhide HGE) hb, hC.trans (hb.mono hC.size), hV⟩
                          · refine Flow.pure (Flow.goes_guard true rfl rfl rfl (by kernel_rfl) (fun _ _ _ h => h)) (fun _ _ _ h => h) fun a L s w' hC hL hn hs hd => ?_
                            obtain ⟨ra, rl, rc, e, _, _, _, hrow⟩ : Sees b1 _ () w' := (hd 16 171 (by kernel_rfl))
                            obtain rfl := hrow.1
                            exact ⟨_, op_len49 rfl e w', rfl⟩
                          · refine Flow.pure (Flow.goes_guard true rfl rfl rfl (by kernel_rfl) (fun _ _ _ h => h)) (fun _ _ _ h => h) fun a L s w' hC hL hn hs hd => ?_
                            exact ⟨_, op_idx71 (k := 1) rfl (hs 5 (by kernel_rfl)) rfl (by decide) w', rfl⟩
                          · refine Flow.pure (Flow.goes_guard true rfl rfl rfl (by kernel_rfl) (fun _ _ _ h => h)) (fun _ _ _ h => h) fun a L s w' hC hL hn hs hd => ?_
                            skip
                            exact ⟨_, op_load3 rfl (hd 18 173 (by kernel_rfl)) ((hC.cell (p := ⟨bn, 1, none⟩) (unhide HN7).lt).trans ((unhide HN7).cell (i := 1) rfl)), rfl⟩
                          · refine Flow.pure (Flow.goes_guard true rfl rfl rfl (by kernel_rfl) (fun _ _ _ h => h)) (fun _ _ _ h => h) fun a L s w' hC hL hn hs hd => ?_
                            skip
                            exact ⟨_, op_mul3 rfl rfl (hd 19 174 (by kernel_rfl)) (by have := unhide HH64; omega) (by omega) (by have := unhide HH64; omega) w', rfl⟩
                          · refine Flow.pure (Flow.goes_guard true rfl rfl rfl (by kernel_rfl) (fun _ _ _ h => h)) (fun _ _ _ h => h) fun a L s w' hC hL hn hs hd => ?_
                            skip
                            exact ⟨_, op_eql3 rfl (hd 17 172 (by kernel_rfl)) (hd 20 175 (by kernel_rfl)) (by simp) w', rfl⟩
                          · refine Flow.pure (Flow.goes_plain rfl) (fun _ _ _ h => h) fun a L s w' hC hL hn hs hd => ?_
                            skip
                            exact ⟨_, op_pickT rfl (hd 14 169 (by kernel_rfl)) (hd 21 176 (by kernel_rfl)) w', rfl⟩
                          · exact Flow.move (Flow.goes_plain rfl) (fun _ _ _ h => h) (.inr rfl) fun a s w' hs hd => (hd 22 177 (by kernel_rfl))
                          · intro L _ w8 hC hL vals hv
                            have e23 : vals 23 = .bool true := hv 23 _ 4 rfl rfl
                            simp only [Free.putAll, Act.put, List.setIfInBounds_toArray, List.set_cons_succ, List.set_cons_zero, e23]
                            have Hb8 := hide ((unhide Hb7).trans (hC.mono (unhide Hb7).size))
                            clear hC hL hv e23
                            generalize vals 0 = u0 at *
                            generalize vals 1 = u1 at *
                            generalize vals 2 = u2 at *
                            generalize vals 3 = u3 at *
                            generalize vals 4 = u4 at *
                            generalize vals 5 = u5 at *
                            generalize vals 6 = u6 at *
                            generalize vals 7 = u7 at *
                            generalize vals 8 = u8 at *
                            generalize vals 9 = u9 at *
                            generalize vals 10 = u10 at *
                            generalize vals 11 = u11 at *
                            generalize vals 12 = u12 at *
                            generalize vals 13 = u13 at *
                            generalize vals 14 = u14 at *
                            generalize vals 15 = u15 at *
                            generalize vals 16 = u16 at *
                            generalize vals 17 = u17 at *
                            generalize vals 18 = u18 at *
                            generalize vals 19 = u19 at *
                            generalize vals 20 = u20 at *
                            generalize vals 21 = u21 at *
                            generalize vals 22 = u22 at *
                            go_wp2_with fail
                            go_ret
                            exact ⟨rfl, unhide Hb8⟩

set_option maxHeartbeats 1600000 in
set_option maxRecDepth 100000 in
theorem walk (x0 y0 z0 : UInt8) (a : Option Addr) (len cap : Nat) (w : World) (_hm : len ≤ maxLen) (hA : Acts w.heap.size w a len) :
    Calls Try.prog 5 #[.agg #[.int .u8 ((x0.toNat : Nat) : Int), .int .u8 ((y0.toNat : Nat) : Int), .int .u8 ((z0.toNat : Nat) : Int)], .slice a len cap] w fun e w' => e = .returned (.bool true) ∧ Below w.heap.size w w' := by
  by_cases hlen : len ≤ 60
  · exact main x0 y0 z0 a len cap hlen w hA
  · clear hA
    have h : (60 : Int) < (len : Int) := by omega
    generalize x0.toNat = n0 at *
    generalize y0.toNat = n1 at *
    generalize z0.toNat = n2 at *
    go_enter Try.func5, Try.ntmps5
    go_wp2_with (refine wpList_box 70 _ [.int .u8 (n0 : Int), .int .u8 (n1 : Int), .int .u8 (n2 : Int)] rfl rfl rfl ?_)
    intro w1 hA1 hb1 hs1
    have Hb1 := hide (hb1)
    clear hA1 hb1
    go_wp2_with fail
    refine (palive_walk w1).mono ?_
    rintro e w2 ⟨rfl, hb2⟩
    have Hb2 := hide ((unhide Hb1).trans (hb2.mono (unhide Hb1).size))
    clear hb2 Hb1
    go_wp2_with fail
    go_ret
    exact ⟨rfl, unhide Hb2⟩
end partApart
end Go.Proofs.Ytlgknllcnkainaa
