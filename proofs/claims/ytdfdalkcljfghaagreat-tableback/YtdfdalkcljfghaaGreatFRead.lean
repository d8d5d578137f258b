/-
  frame.told, frame.read, slices.Equal of sectors.
-/
import Derived.Test.YtdfdalkcljfghaaGreatFOps
import Derived.Test.YtdfdalkcljfghaaGreatFlow
namespace Go.Proofs.YtdfdalkcljfghaaGreat
open Go.RowKit

theorem fixL_long {l : List UInt8} {e m : Int} (h : sizeN m ≤ l.length) : fixL l e m = (numL (l.take (sizeN m)), l.drop (sizeN m), e) := by
  unfold fixL
  rw [takeL_long (by omega)]
/-- The bytes of one sector of a slice, as a slice of their own. -/
theorem sec_row {N : Nat} {w : World} {b off : Nat} {s : Sec} (hs : s.length = 64) (hb : b < N) (hr : w.rangeAt b off (bytesV s)) : RowV N w (.slice (some ⟨b, off, none⟩) 64 64) s := by
  refine ⟨_, _, _, rfl, Nat.le_refl _, by decide, by simp, hs, by decide, fun i hi => ⟨b, off, rfl, hb, ?_⟩⟩
  exact hr i _ (bytesV_get s (i := i) (by omega))

set_option maxRecDepth 100000 in
set_option maxHeartbeats 1000000 in
theorem told_walk (N : Nat) (v : Value) (ss : List Sec) (w : World) (hN : N ≤ w.heap.size) (hr : SRowV N w v ss) :
    Calls Tryz.prog 138 #[v] w fun e w' => e = .returned (.int .i64 ((toldF ss : Nat) : Int)) ∧ Below w.heap.size w w' := by
  obtain ⟨a, len, cap, rfl, q1, q2, q3, hrow⟩ := hr
  have hlen := hrow.1
  by_cases h0 : len = 0
  · have HT : Hid (toldF ss = 0) := hide (by unfold toldF; rw [if_pos (by omega)])
    subst h0
    go_enter Tryz.func138, Tryz.ntmps138
    go_wp2
    go_ret
    exact ⟨by rw [unhide HT]; rfl, Below.refl _ _⟩
  · obtain ⟨b, off, rfl, hbN, hrg⟩ := hrow.2.2 0 (by omega)
    have hs0 : (ss.getD 0 []).length = 64 := hrow.2.1 _ (by
      rw [List.getD_eq_getElem?_getD, List.getElem?_eq_getElem (by omega)]
      exact List.getElem_mem _)
    have HT : Hid (toldF ss = sizeF (lenF (ss.getD 0 []))) := hide (by unfold toldF; rw [if_neg (by omega)])
    have hl2 := lenF_lt (ss.getD 0 [])
    rw [Nat.zero_mul, Nat.add_zero] at hrg
    have hR := sec_row hs0 hbN hrg
    obtain ⟨s, hs⟩ : ∃ s, s = ss.getD 0 [] := ⟨_, rfl⟩
    rw [← hs] at hR HT hs0 hl2
    have e1 : takeL s 0 (11 : Int).toNat = (s.take 11, s.drop 11, 0) := takeL_long (by show ¬ s.length < 11; omega)
    have e2 : fixL (s.drop 11) 0 2 = (lenF s, (s.drop 11).drop 2, 0) := by
      rw [fixL_long (by show 2 ≤ (s.drop 11).length; rw [List.length_drop]; omega)]
      rfl
    have H1 := hide (new_walk8 N _ s w hN hR)
    have HE1 := hide e1
    have HE2 := hide e2
    clear hrow hlen hrg hs hs0 e1 e2 hR
    go_enter Tryz.func138, Tryz.ntmps138
    go_wp2_with fail
    refine (unhide H1).mono ?_
    rintro e w1 ⟨rfl, hR1, hb1⟩
    have H2 := hide (rraw_walk N _ 11 (by decide) s 0 w1 hR1)
    have Hb1 := hide hb1
    clear hR1 hb1 H1
    go_wp2_with fail
    refine (unhide H2).mono ?_
    rintro e w2 ⟨v2, rfl, hO2, hR2, hg2⟩
    rw [unhide HE1] at hR2
    have H3 := hide (rfixed_walk N _ 2 (s.drop 11) 0 w2 hR2)
    rw [unhide HE2] at H3
    have Hb2 : Hid (Below w.heap.size w w2) := hide ((unhide Hb1).grown hg2 (unhide Hb1).size (fun k hk => by cases hk; exact Nat.le_refl _))
    clear hR2 hg2 hO2 H2 Hb1
    generalize lenF s = n at *
    go_wp2_with fail
    refine (unhide H3).mono ?_
    rintro e w3 ⟨rfl, hR3, hg3⟩
    have Hb3 : Hid (Below w.heap.size w w3) := hide ((unhide Hb2).grown hg3 (unhide Hb2).size (fun k hk => by cases hk; exact Nat.le_refl _))
    clear hR3 hg3 H3 Hb2
    have H4 := hide (size_walk8 n w3)
    go_wp2_with fail
    refine (unhide H4).mono ?_
    rintro e w4 ⟨rfl, hw4⟩
    subst w4
    have hsz := sizeF_le n
    clear H4
    go_wp2_with fail
    go_ret
    exact ⟨by rw [unhide HT]; rfl, unhide Hb3⟩

set_option maxRecDepth 100000 in
set_option maxHeartbeats 1000000 in
theorem read_walk8 (N : Nat) (v : Value) (r : List UInt8) (w : World) (hN : N ≤ w.heap.size) (hr : RowV N w v r) (h13 : 13 ≤ r.length) :
    Calls Tryz.prog 139 #[v] w fun e w' => ∃ v', e = .returned (.tuple #[.int .u8 (((kF r).toNat : Nat) : Int), .int .u64 (seqF r : Int), v']) ∧ Own w.heap.size w' v' (bodyF r) ∧ Below w.heap.size w w' := by
  have e1 : takeL r 0 (2 : Int).toNat = (r.take 2, r.drop 2, 0) := takeL_long (by show ¬ r.length < 2; omega)
  have e2 : fixL (r.drop 2) 0 1 = ((kF r).toNat, r.drop 3, 0) := by
    rw [fixL_long (by show 1 ≤ (r.drop 2).length; rw [List.length_drop]; omega)]
    show (numL ((r.drop 2).take 1), (r.drop 2).drop 1, (0 : Int)) = _
    rw [List.drop_drop]
    have e : (r.drop 2).take 1 = [r.getD 2 0] := by
      rw [List.getD_eq_getElem?_getD, List.getElem?_eq_getElem (by omega), List.drop_eq_getElem_cons (by omega)]
      rfl
    rw [e]
    simp [numL, kF]
  have e3 : fixL (r.drop 3) 0 8 = (seqF r, r.drop 11, 0) := by
    rw [fixL_long (by show 8 ≤ (r.drop 3).length; rw [List.length_drop]; omega)]
    show (numL ((r.drop 3).take 8), (r.drop 3).drop 8, (0 : Int)) = _
    rw [List.drop_drop]
    rfl
  have e4 : fixL (r.drop 11) 0 2 = (lenF r, r.drop 13, 0) := by
    rw [fixL_long (by show 2 ≤ (r.drop 11).length; rw [List.length_drop]; omega)]
    show (numL ((r.drop 11).take 2), (r.drop 11).drop 2, (0 : Int)) = _
    rw [List.drop_drop]
    rfl
  have e5 : (takeL (r.drop 13) 0 ((lenF r : Nat) : Int).toNat).1 = bodyF r := by rw [Int.toNat_natCast]; rfl
  have H1 := hide (new_walk8 N v r w hN hr)
  obtain ⟨a, len, cap, rfl, q1, q2, q3, hrow⟩ := hr
  have hk := (kF r).toNat_lt
  have hn := lenF_lt r
  have hs := seqF_lt r
  have HE1 := hide e1
  have HE2 := hide e2
  have HE3 := hide e3
  have HE4 := hide e4
  have HE5 := hide e5
  clear hrow e1 e2 e3 e4 e5
  generalize (kF r).toNat = kn at *
  generalize lenF r = n at *
  generalize seqF r = sq at *
  go_enter Tryz.func139, Tryz.ntmps139
  go_wp2_with fail
  refine (unhide H1).mono ?_
  rintro e w1 ⟨rfl, hR1, hb1⟩
  have H2 := hide (rraw_walk N _ 2 (by decide) r 0 w1 hR1)
  have Hb1 := hide hb1
  clear hR1 hb1 H1
  go_wp2_with fail
  refine (unhide H2).mono ?_
  rintro e w2 ⟨v2, rfl, hO2, hR2, hg2⟩
  rw [unhide HE1] at hR2
  have H3 := hide (rfixed_walk N _ 1 (r.drop 2) 0 w2 hR2)
  rw [unhide HE2] at H3
  have Hb2 : Hid (Below w.heap.size w w2) := hide ((unhide Hb1).grown hg2 (unhide Hb1).size (fun k hk => by cases hk; exact Nat.le_refl _))
  clear hR2 hg2 hO2 H2 Hb1
  go_wp2_with fail
  refine (unhide H3).mono ?_
  rintro e w3 ⟨rfl, hR3, hg3⟩
  have H4 := hide (rfixed_walk N _ 8 (r.drop 3) 0 w3 hR3)
  rw [unhide HE3] at H4
  have Hb3 : Hid (Below w.heap.size w w3) := hide ((unhide Hb2).grown hg3 (unhide Hb2).size (fun k hk => by cases hk; exact Nat.le_refl _))
  clear hR3 hg3 H3 Hb2
  go_wp2_with fail
  refine (unhide H4).mono ?_
  rintro e w4 ⟨rfl, hR4, hg4⟩
  have H5 := hide (rfixed_walk N _ 2 (r.drop 11) 0 w4 hR4)
  rw [unhide HE4] at H5
  have Hb4 : Hid (Below w.heap.size w w4) := hide ((unhide Hb3).grown hg4 (unhide Hb3).size (fun k hk => by cases hk; exact Nat.le_refl _))
  clear hR4 hg4 H4 Hb3
  go_wp2_with fail
  refine (unhide H5).mono ?_
  rintro e w5 ⟨rfl, hR5, hg5⟩
  have H6 := hide (rraw_walk N _ (n : Int) (by omega) (r.drop 13) 0 w5 hR5)
  rw [unhide HE5] at H6
  have Hb5 : Hid (Below w.heap.size w w5) := hide ((unhide Hb4).grown hg5 (unhide Hb4).size (fun k hk => by cases hk; exact Nat.le_refl _))
  clear hR5 hg5 H5 Hb4
  go_wp2_with fail
  refine (unhide H6).mono ?_
  rintro e w6 ⟨v6, rfl, hO6, hR6, hg6⟩
  have HO6 := hide (hO6.lower (unhide Hb5).size)
  have Hb6 : Hid (Below w.heap.size w w6) := hide ((unhide Hb5).grown hg6 (unhide Hb5).size (fun k hk => by cases hk; exact Nat.le_refl _))
  clear hO6 hR6 hg6 H6 Hb5
  go_wp2_with fail
  refine ⟨rfl, .tuple #[.int .u8 (kn : Int), .int .u64 (sq : Int), v6], by simp [results, Tryz.results139], ?_⟩
  exact ⟨_, rfl, unhide HO6, unhide Hb6⟩

/-- Sectors held against each other, one by one. -/
theorem sec_eq_step {xs ys : List Sec} {k : Nat} (hx : k < xs.length) (hy : k < ys.length) : xs.take (k + 1) = ys.take (k + 1) ↔ xs.take k = ys.take k ∧ xs.getD k [] = ys.getD k [] := by
  rw [take_snoc [] xs k hx, take_snoc [] ys k hy]
  constructor
  · intro h
    have hl : (xs.take k).length = (ys.take k).length := by rw [List.length_take, List.length_take]; omega
    have := List.append_inj h hl
    exact ⟨this.1, by simpa using this.2⟩
  · rintro ⟨h1, h2⟩
    rw [h1, h2]

set_option maxRecDepth 100000 in
set_option maxHeartbeats 1000000 in
theorem equal_walk (N : Nat) (v v2 : Value) (xs ys : List Sec) (w : World) (hr : SRowV N w v xs) (hr2 : SRowV N w v2 ys) (hl : xs.length ≤ 100000) :
    Calls Tryz.prog 141 #[v, v2] w fun e w' => e = .returned (.bool (decide (xs = ys))) ∧ Below w.heap.size w w' := by
  obtain ⟨a, len, cap, rfl, q1, q2, q3, hrow⟩ := hr
  obtain ⟨a', len', cap', rfl, q1', q2', q3', hrow'⟩ := hr2
  have hlen := hrow.1
  have hlen' := hrow'.1
  by_cases hne : len = len'
  · subst hne
    have hlb : len ≤ 100000 := by omega
    have HR := hide hrow
    have HR' := hide hrow'
    have HL := hide hlen
    have HL' := hide hlen'
    clear hrow hrow' hlen hlen' hl
    go_enter Tryz.func141, Tryz.ntmps141
    go_wp2
    go_loopw [13] (fun ci wr => ∃ k : Nat, k ≤ len ∧ ci = .int .i64 (k : Int) ∧ xs.take k = ys.take k ∧ Below w.heap.size w wr ∧ wr.heap = w.heap) (fun ci _ => len - (intOf ci).toNat)
    case atStart => exact ⟨0, by omega, rfl, by simp, Below.refl _ _, rfl⟩
    case round =>
      obtain ⟨k, hk, rfl, htk, hb, hh⟩ := hrel
      by_cases hlt : k < len
      · obtain ⟨b, off, rfl, hbN, hrg⟩ := (unhide HR).2.2 k hlt
        obtain ⟨b', off', rfl, hbN', hrg'⟩ := (unhide HR').2.2 k hlt
        have hs1 : (xs.getD k []).length = 64 := (unhide HR).2.1 _ (by
          rw [List.getD_eq_getElem?_getD, List.getElem?_eq_getElem (by rw [unhide HL]; exact hlt)]
          exact List.getElem_mem _)
        have hs2 : (ys.getD k []).length = 64 := (unhide HR').2.1 _ (by
          rw [List.getD_eq_getElem?_getD, List.getElem?_eq_getElem (by rw [unhide HL']; exact hlt)]
          exact List.getElem_mem _)
        have HST := hide (sec_eq_step (xs := xs) (ys := ys) (k := k) (by rw [unhide HL]; exact hlt) (by rw [unhide HL']; exact hlt))
        generalize xs.getD k [] = x at *
        generalize ys.getD k [] = y at *
        have hrg1 : ∀ W : World, W.heap = w.heap → W.rangeAt b (off + k * 64) (bytesV x) := fun W e j u hj => by
          have := hrg j u hj
          unfold World.cell? at this ⊢
          rw [e]; exact this
        have hrg2 : ∀ W : World, W.heap = w.heap → W.rangeAt b' (off' + k * 64) (bytesV y) := fun W e j u hj => by
          have := hrg' j u hj
          unfold World.cell? at this ⊢
          rw [e]; exact this
        have HI1 := hide hs1
        have HI2 := hide hs2
        have HRG1 := hide hrg1
        have HRG2 := hide hrg2
        have HH := hide hh
        have HB := hide hb
        have HTK := hide htk
        clear hrg hrg' hrg1 hrg2 hs1 hs2 hh hb htk
        by_cases hxy : x = y
        · have HE : Hid ((!(x == y)) = false) := hide (by rw [hxy]; simp)
          have HQ : Hid (xs.take (k + 1) = ys.take (k + 1)) := hide ((unhide HST).2 ⟨unhide HTK, hxy⟩)
          clear hxy
          go_wp2
          refine Flow.wp_region (Flow.VV (fun j => match j with | 0 => .slice (some ⟨b, off, none⟩) len cap | 1 => .int .i64 (k : Int) | 2 => .pointer (some ⟨b, off + k * 64, none⟩) | 3 => secV x | 4 => .slice (some ⟨b', off', none⟩) len cap' | 5 => .int .i64 (k : Int) | 6 => .pointer (some ⟨b', off' + k * 64, none⟩) | 7 => secV y | 8 => .bool false | _ => undef)) (fun _ (_ : Unit) w' => w' = wr.drew) () (by kernel_rfl) (by kernel_rfl) rfl ⟨?_, ?_, ?_, ?_, ?_, ?_, ?_, ?_, ?_, trivial⟩ ?_
          · exact Flow.move (Flow.goes_plain rfl) (fun _ _ _ h => h) (.inl rfl) fun a s w' hs hd => (hs 0 (by kernel_rfl))
          · exact Flow.move (Flow.goes_plain rfl) (fun _ _ _ h => h) (.inl rfl) fun a s w' hs hd => (hs 5 (by kernel_rfl))
          · refine Flow.pure (Flow.goes_plain rfl) (fun _ _ _ h => h) fun a L s w' hC hL hn hs hd => ?_
            skip
            exact ⟨_, op_idx638 rfl (hd 0 16 (by kernel_rfl)) (hd 1 17 (by kernel_rfl)) (by omega) w', rfl⟩
          · refine Flow.pure (Flow.goes_plain rfl) (fun _ _ _ h => h) fun a L s w' hC hL hn hs hd => ?_
            skip
            exact ⟨_, op_load758 rfl (hd 2 18 (by kernel_rfl)) (by rw [hC]; exact unhide HRG1 _ (unhide HH)) (by rw [bytesV_length]; exact unhide HI1), rfl⟩
          · exact Flow.move (Flow.goes_plain rfl) (fun _ _ _ h => h) (.inl rfl) fun a s w' hs hd => (hs 1 (by kernel_rfl))
          · exact Flow.move (Flow.goes_plain rfl) (fun _ _ _ h => h) (.inl rfl) fun a s w' hs hd => (hs 5 (by kernel_rfl))
          · refine Flow.pure (Flow.goes_plain rfl) (fun _ _ _ h => h) fun a L s w' hC hL hn hs hd => ?_
            skip
            exact ⟨_, op_idx638 rfl (hd 4 20 (by kernel_rfl)) (hd 5 21 (by kernel_rfl)) (by omega) w', rfl⟩
          · refine Flow.pure (Flow.goes_plain rfl) (fun _ _ _ h => h) fun a L s w' hC hL hn hs hd => ?_
            skip
            exact ⟨_, op_load758 rfl (hd 6 22 (by kernel_rfl)) (by rw [hC]; exact unhide HRG2 _ (unhide HH)) (by rw [bytesV_length]; exact unhide HI2), rfl⟩
          · refine Flow.pure (Flow.goes_plain rfl) (fun _ _ _ h => h) fun a L s w' hC hL hn hs hd => ?_
            skip
            exact ⟨_, op_neq758 rfl (hd 3 19 (by kernel_rfl)) (hd 7 23 (by kernel_rfl)) (unhide HE) (unhide HI1) (unhide HI2) w', rfl⟩
          · intro L _ w8 hC hL vals hv
            subst hC
            have e8 : vals 8 = .bool false := hv 8 _ 24 rfl rfl
            simp only [Free.putAll, Act.put, List.setIfInBounds_toArray, List.set_cons_succ, List.set_cons_zero, e8]
            have HB8 := hide (unhide HB).drew
            have HH8 : Hid (wr.drew.heap = w.heap) := hide (unhide HH)
            clear hL hv e8
            generalize vals 0 = t0 at *
            generalize vals 1 = t1 at *
            generalize vals 2 = t2 at *
            generalize vals 3 = t3 at *
            generalize vals 4 = t4 at *
            generalize vals 5 = t5 at *
            generalize vals 6 = t6 at *
            generalize vals 7 = t7 at *
            go_wp2
            go_roundw
            case rel => exact ⟨k + 1, by omega, by go_num, unhide HQ, unhide HB8, unhide HH8⟩
            case measure => simp [intOf]; omega
        · have HE : Hid ((!(x == y)) = true) := hide (by simpa using hxy)
          have HQ : Hid (decide (xs = ys) = false) := hide (by
            rw [decide_eq_false_iff_not]
            intro e
            exact hxy ((unhide HST).1 (by rw [e])).2)
          clear hxy
          go_wp2
          refine Flow.wp_region (Flow.VV (fun j => match j with | 0 => .slice (some ⟨b, off, none⟩) len cap | 1 => .int .i64 (k : Int) | 2 => .pointer (some ⟨b, off + k * 64, none⟩) | 3 => secV x | 4 => .slice (some ⟨b', off', none⟩) len cap' | 5 => .int .i64 (k : Int) | 6 => .pointer (some ⟨b', off' + k * 64, none⟩) | 7 => secV y | 8 => .bool true | _ => undef)) (fun _ (_ : Unit) w' => w' = wr.drew) () (by kernel_rfl) (by kernel_rfl) rfl ⟨?_, ?_, ?_, ?_, ?_, ?_, ?_, ?_, ?_, trivial⟩ ?_
          · exact Flow.move (Flow.goes_plain rfl) (fun _ _ _ h => h) (.inl rfl) fun a s w' hs hd => (hs 0 (by kernel_rfl))
          · exact Flow.move (Flow.goes_plain rfl) (fun _ _ _ h => h) (.inl rfl) fun a s w' hs hd => (hs 5 (by kernel_rfl))
          · refine Flow.pure (Flow.goes_plain rfl) (fun _ _ _ h => h) fun a L s w' hC hL hn hs hd => ?_
            skip
            exact ⟨_, op_idx638 rfl (hd 0 16 (by kernel_rfl)) (hd 1 17 (by kernel_rfl)) (by omega) w', rfl⟩
          · refine Flow.pure (Flow.goes_plain rfl) (fun _ _ _ h => h) fun a L s w' hC hL hn hs hd => ?_
            skip
            exact ⟨_, op_load758 rfl (hd 2 18 (by kernel_rfl)) (by rw [hC]; exact unhide HRG1 _ (unhide HH)) (by rw [bytesV_length]; exact unhide HI1), rfl⟩
          · exact Flow.move (Flow.goes_plain rfl) (fun _ _ _ h => h) (.inl rfl) fun a s w' hs hd => (hs 1 (by kernel_rfl))
          · exact Flow.move (Flow.goes_plain rfl) (fun _ _ _ h => h) (.inl rfl) fun a s w' hs hd => (hs 5 (by kernel_rfl))
          · refine Flow.pure (Flow.goes_plain rfl) (fun _ _ _ h => h) fun a L s w' hC hL hn hs hd => ?_
            skip
            exact ⟨_, op_idx638 rfl (hd 4 20 (by kernel_rfl)) (hd 5 21 (by kernel_rfl)) (by omega) w', rfl⟩
          · refine Flow.pure (Flow.goes_plain rfl) (fun _ _ _ h => h) fun a L s w' hC hL hn hs hd => ?_
            skip
            exact ⟨_, op_load758 rfl (hd 6 22 (by kernel_rfl)) (by rw [hC]; exact unhide HRG2 _ (unhide HH)) (by rw [bytesV_length]; exact unhide HI2), rfl⟩
          · refine Flow.pure (Flow.goes_plain rfl) (fun _ _ _ h => h) fun a L s w' hC hL hn hs hd => ?_
            skip
            exact ⟨_, op_neq758 rfl (hd 3 19 (by kernel_rfl)) (hd 7 23 (by kernel_rfl)) (unhide HE) (unhide HI1) (unhide HI2) w', rfl⟩
          · intro L _ w8 hC hL vals hv
            subst hC
            have e8 : vals 8 = .bool true := hv 8 _ 24 rfl rfl
            simp only [Free.putAll, Act.put, List.setIfInBounds_toArray, List.set_cons_succ, List.set_cons_zero, e8]
            have HB8 := hide (unhide HB).drew
            clear hL hv e8
            generalize vals 0 = t0 at *
            generalize vals 1 = t1 at *
            generalize vals 2 = t2 at *
            generalize vals 3 = t3 at *
            generalize vals 4 = t4 at *
            generalize vals 5 = t5 at *
            generalize vals 6 = t6 at *
            generalize vals 7 = t7 at *
            go_wp2
            go_ret
            exact ⟨by rw [unhide HQ]; rfl, unhide HB8⟩
      · obtain rfl : k = len := by omega
        have HQ : Hid (decide (xs = ys) = true) := hide (by
          rw [decide_eq_true_eq]
          rw [List.take_of_length_le (by rw [unhide HL]; exact Nat.le_refl _), List.take_of_length_le (by rw [unhide HL']; exact Nat.le_refl _)] at htk
          exact htk)
        have HB := hide hb
        clear hb hh htk
        go_wp2
        go_ret
        exact ⟨by rw [unhide HQ]; rfl, unhide HB⟩
  · have HD : Hid (decide (xs = ys) = false) := hide (by
      rw [decide_eq_false_iff_not]
      intro e
      rw [e] at hlen
      omega)
    have hl1 : len ≤ 100000 := by omega
    clear hrow hrow' hlen hlen'
    go_enter Tryz.func141, Tryz.ntmps141
    go_wp2
    go_ret
    exact ⟨by rw [unhide HD]; rfl, Below.refl _ _⟩
end Go.Proofs.YtdfdalkcljfghaaGreat
