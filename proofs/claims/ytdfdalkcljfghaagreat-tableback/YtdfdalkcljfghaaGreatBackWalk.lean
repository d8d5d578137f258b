/-
  TableBack, walked.
-/
import Derived.Test.YtdfdalkcljfghaaGreatTAlive
import Derived.Test.YtdfdalkcljfghaaGreatTSame
import Derived.Test.YtdfdalkcljfghaaGreatTKit
import Derived.Test.YtdfdalkcljfghaaGreatNamesWalk
namespace Go.Proofs.YtdfdalkcljfghaaGreat.tableBack
open Go.RowKit Slot


set_option maxHeartbeats 3200000 in
set_option maxRecDepth 100000 in
theorem walk (t : T) (v : Value) (l : List C) (w : World) (ht : FitT t) (hv : CRowV w.heap.size w v l) : Calls Tryz.prog 8 #[t.v, v] w fun e w' => e = .returned (.bool true) ∧ Below w.heap.size w w' := by
  have HAl := hide alive_walk
  have HTI := hide (info37t ht)
  have HT1 := hide (tcs_one t)
  have HTL := hide (tcs_length ht)
  have HTF := hide ht
  have HTB := hide (tbytes_walk t ht)
  have HRT := hide (rightT_walk t ht)
  have HPU := hide (fun (w' : World) (h : w.heap.size ≤ w'.heap.size) (h2 : CRowV w.heap.size w' v l) => Slot.put_walk w.heap.size v l w' h h2)
  have HV0 := hide hv
  obtain ⟨a, len, cap, rfl, q1, q2, q3, hrow⟩ := hv
  have hlen := hrow.1
  have HROW0 := hide hrow
  have HFC := hide hrow.2.1
  have HLEN := hide hlen
  clear hrow hlen
  have HEX : Hid (∀ w : World, (Op.equalIn 10000 37 (.agg t.cs.toArray) (.agg t.cs.toArray)).run Tryz.prog w = .ok true w) := hide fun w => (run_equal37 t t ht ht w).trans (by simp)
  unfold T.v at HTB HRT ⊢
  obtain ⟨X, hX⟩ : ∃ X, X = t.cs := ⟨_, rfl⟩
  have HX := hide hX
  rw [← hX] at HTI HT1 HTL HTB HRT HEX ⊢
  clear hX ht
  go_enter Tryz.func8, Tryz.ntmps8
  go_wp2_with (refine wpList_box 37 _ X rfl rfl rfl ?_)
  intro w1 hA1 hb1 hs1
  have HA1 := hide hA1
  have Hb1 := hide hb1
  clear hA1 hb1 hs1
  go_wp2_with fail
  refine (unhide HAl w1).mono ?_
  rintro e w2 ⟨rfl, hb2⟩
  have HA2 := hide ((unhide HA1).below hb2)
  have Hb2 := hide ((unhide Hb1).trans (hb2.mono (unhide Hb1).size))
  clear hb2 HA1 Hb1 HAl
  go_wp2_with (refine wpList_loadAll 37 _ w.heap.size X _ rfl rfl rfl (unhide HA2) Tryz.underlying37 rfl (unhide HTI) ?_)
  refine (unhide HTB w2).mono ?_
  rintro e w3 ⟨vb, rfl, hrb, hb3⟩
  have HA3 := hide ((unhide HA2).below hb3)
  have Hb3 := hide ((unhide Hb2).trans (hb3.mono (unhide Hb2).size))
  have HRB3 := hide hrb
  have HPU3 := hide (unhide HPU w3 (unhide Hb3).size ((unhide HV0).below (unhide Hb3)))
  clear hrb hb3 HA2 Hb2 HTB HPU
  go_wp2_with fail
  refine (unhide HPU3).mono ?_
  rintro e w4 ⟨vg, rfl, hrg, hb4⟩
  have HA4 := hide ((unhide HA3).below hb4)
  have Hb4 := hide ((unhide Hb3).trans (hb4.mono (unhide Hb3).size))
  have HRB4 := hide (((unhide HRB3).below hb4).up hb4.size)
  have HRG4 := hide hrg
  clear hrg hb4 HA3 Hb3 HRB3 HPU3
  obtain ⟨ab, nb, cb, rfl, b1, b2, b3, hrb⟩ := unhide HRB4
  obtain ⟨ag, ng, cg, rfl, g1, g2, g3, hrg⟩ := unhide HRG4
  have hnb := hrb.1
  have hng := hrg.1
  clear hrb hrg
  by_cases h30 : 30 < len
  · have hd30 : decide ((30 : Int) < ((len : Nat) : Int)) = true := decide_eq_true (by omega)
    go_wp2
    go_ret
    exact ⟨rfl, unhide Hb4⟩
  have hd30 : decide ((30 : Int) < ((len : Nat) : Int)) = false := decide_eq_false (by omega)
  cases hr : rightT t with
  | false =>
    obtain rfl : nb = 0 := by rw [← hnb]; unfold bytesT; rw [if_neg (by rw [hr]; simp)]; rfl
    have HRT' := hide (unhide HRT w4)
    rw [hr] at HRT'
    go_wp2_with ((with_reducible refine wpList_guarded ?_ ?_); rfl; refine wpList_loadAll 37 _ w.heap.size X _ rfl rfl rfl (unhide HA4) Tryz.underlying37 rfl (unhide HTI) ?_)
    refine (unhide HRT').mono ?_
    rintro e w5 ⟨rfl, hb5⟩
    have Hb5 := hide ((unhide Hb4).trans (hb5.mono (unhide Hb4).size))
    clear hb5
    go_wp2
    go_ret
    exact ⟨rfl, unhide Hb5⟩
  | true =>
    obtain rfl : nb = 102 := by rw [← hnb]; exact bytesT_len hr (unhide HTF)
    cases ha : allC l with
    | false =>
      obtain rfl : ng = 0 := by rw [← hng]; unfold putL; rw [if_neg (by rw [ha]; simp)]; rfl
      have HRT' := hide (unhide HRT w4)
      rw [hr] at HRT'
      go_wp2_with ((with_reducible refine wpList_guarded ?_ ?_); rfl; refine wpList_loadAll 37 _ w.heap.size X _ rfl rfl rfl (unhide HA4) Tryz.underlying37 rfl (unhide HTI) ?_)
      refine (unhide HRT').mono ?_
      rintro e w5 ⟨rfl, hb5⟩
      have Hb5 := hide ((unhide Hb4).trans (hb5.mono (unhide Hb4).size))
      clear hb5
      go_wp2
      go_ret
      exact ⟨rfl, unhide Hb5⟩
    | true =>
      have hne : ng ≠ 0 := fun e => putL_ne ha (List.length_eq_zero_iff.1 (by omega))
      obtain ⟨n, rfl⟩ : ∃ n, ng = n + 1 := ⟨ng - 1, by omega⟩
      have hd0 : ((((n + 1 : Nat)) : Int) == 0) = false := by simp; omega
      have hd0' : (((n : Int) + 1) == 0) = false := by simp; omega
      have hPB : Hid (∀ (N : Nat) (v : Value) (w : World), N ≤ w.heap.size → RowV N w v (bytesT t) → Calls Tryz.prog 15 #[v] w fun e w' => e = .returned (.tuple #[.agg X.toArray, .int .i64 0]) ∧ Below w.heap.size w w') := hide fun N v w h1 h2 => by
        have := parse_walk N v _ w h1 h2
        rw [parse_bytes hr (unhide HTF)] at this
        unfold T.v at this
        rw [← unhide HX] at this
        exact this
      have hPS : Hid (∀ (N : Nat) (v : Value) (w : World), N ≤ w.heap.size → RowV N w v ((bytesT t).take 101) → Calls Tryz.prog 15 #[v] w fun e w' => e = .returned (.tuple #[.agg zeroT.cs.toArray, .int .i64 111]) ∧ Below w.heap.size w w') := hide fun N v w h1 h2 => by
        have := parse_walk N v _ w h1 h2
        rw [parse_short hr (unhide HTF)] at this
        exact this
      have hPL : Hid (∀ (N : Nat) (v : Value) (w : World), N ≤ w.heap.size → RowV N w v (bytesT t ++ [0]) → Calls Tryz.prog 15 #[v] w fun e w' => e = .returned (.tuple #[.agg zeroT.cs.toArray, .int .i64 111]) ∧ Below w.heap.size w w') := hide fun N v w h1 h2 => by
        have := parse_walk N v _ w h1 h2
        rw [parse_long hr (unhide HTF)] at this
        exact this
      have hGB : Hid (∀ (N : Nat) (v : Value) (w : World), N ≤ w.heap.size → RowV N w v (putL l) → Calls Tryz.prog 16 #[v] w fun e w' => ∃ u, e = .returned (.tuple #[u, .int .i64 0]) ∧ CRowV w'.heap.size w' u l ∧ Below w.heap.size w w') := hide fun N v w h1 h2 => by
        have := Slot.get_walk N v _ w h1 h2
        rw [get_put ha (unhide HFC)] at this
        exact this
      have hGS : Hid (∀ (N : Nat) (v : Value) (w : World), N ≤ w.heap.size → RowV N w v ((putL l).take n) → Calls Tryz.prog 16 #[v] w fun e w' => ∃ u, e = .returned (.tuple #[u, .int .i64 111]) ∧ CRowV w'.heap.size w' u [] ∧ Below w.heap.size w w') := hide fun N v w h1 h2 => by
        have := Slot.get_walk N v _ w h1 h2
        rw [get_short ha (unhide HFC) n (by omega)] at this
        exact this
      have hGL : Hid (∀ (N : Nat) (v : Value) (w : World), N ≤ w.heap.size → RowV N w v (putL l ++ [0]) → Calls Tryz.prog 16 #[v] w fun e w' => ∃ u, e = .returned (.tuple #[u, .int .i64 111]) ∧ CRowV w'.heap.size w' u [] ∧ Below w.heap.size w w') := hide fun N v w h1 h2 => by
        have := Slot.get_walk N v _ w h1 h2
        rw [get_long ha (unhide HFC)] at this
        exact this
      have hSAME : Hid (∀ (w' : World) (u : Value), CRowV w'.heap.size w' u l → CRowV w'.heap.size w' (.slice a len cap) l → Calls Tryz.prog 26 #[u, .slice a len cap] w' fun e w'' => e = .returned (.bool true) ∧ Below w'.heap.size w' w'') := hide fun w' u h1 h2 => by
        have := same_walk w'.heap.size u _ l l w' h1 h2 (by rw [unhide HLEN]; omega)
        rw [decide_eq_true rfl] at this
        exact this
      have HSTEP := hide (steps_all hr ha)
      have HAPA : Hid (∀ w' : World, w.heap.size ≤ w'.heap.size → CRowV w.heap.size w' (.slice a len cap) l → Calls Tryz.prog 14 #[.agg X.toArray, .slice a len cap] w' fun e w'' => e = .returned (.tuple #[.agg (applyT t l).1.cs.toArray, .int .i64 (applyT t l).2]) ∧ Below w'.heap.size w' w'') := hide fun w' h h2 => by
        have := apply_walk w.heap.size _ t (unhide HTF) l w' h h2
        unfold T.v at this
        rw [← unhide HX] at this
        exact this
      have HEW : Hid (∀ w : World, (Op.equalIn 10000 37 (.agg (applyT t l).1.cs.toArray) (.agg (applyT t l).1.cs.toArray)).run Tryz.prog w = .ok true w) := hide fun w => (run_equal37 _ _ (apply_fit (unhide HTF) (unhide HFC)) (apply_fit (unhide HTF) (unhide HFC)) w).trans (by simp)
      have HAF := hide (apply_fit (unhide HTF) (unhide HFC))
      have HAL := hide alloc37
      have HALC := hide alloc41
      have HZL := hide (tcs_length zeroT_fit)
      have HZI := hide (info37t zeroT_fit)
      have HZ1 := hide (tcs_one zeroT)
      have hb102 : (bytesT t).length = 102 := hnb
      have hgn : (putL l).length = n + 1 := hng
      have hg400 : n + 1 ≤ 400 := by rw [← hgn]; exact putL_len (unhide HFC)
      obtain ⟨BB, hBB⟩ : ∃ BB, BB = bytesT t := ⟨_, rfl⟩
      rw [← hBB] at hPB hPS hPL HRB4 hb102
      obtain ⟨GG, hGG⟩ : ∃ GG, GG = putL l := ⟨_, rfl⟩
      rw [← hGG] at hGB hGS hGL HRG4 hgn
      clear hBB hGG hnb hng
      have HRT' := hide (unhide HRT w4)
      rw [hr] at HRT'
      clear HRT hne
      obtain ⟨Z, hZ⟩ : ∃ Z, Z = zeroT.cs := ⟨_, rfl⟩
      have HZ := hide hZ
      rw [← hZ] at hPS hPL HAL HZL HZI HZ1
      clear hZ
      have h101 : 101 ≤ cb := by omega
      have hgc : n ≤ cg := by omega
      -- read from its bytes
      go_wp2_with fail
      refine (unhide hPB _ _ w4 (Nat.le_refl _) (unhide HRB4)).mono ?_
      rintro e w5 ⟨rfl, hb5⟩
      have HA5 := hide ((unhide HA4).below hb5)
      have Hb5 := hide ((unhide Hb4).trans (hb5.mono (unhide Hb4).size))
      have HRB5 := hide (((unhide HRB4).below hb5).up hb5.size)
      have HRG5 := hide (((unhide HRG4).below hb5).up hb5.size)
      clear hb5 HA4 Hb4 HRB4 HRG4
      go_wp2_with (refine wpList_alloc 37 37 Z rfl rfl (unhide HAL) ?_)
      intro w6 hA6 hb6 hs6
      have HU6 := hide hA6
      have HA6 := hide ((unhide HA5).below hb6)
      have Hb6 := hide ((unhide Hb5).trans (hb6.mono (unhide Hb5).size))
      have HRB6 := hide (((unhide HRB5).below hb6).up hb6.size)
      have HRG6 := hide (((unhide HRG5).below hb6).up hb6.size)
      have HA4' := HA5
      have Hb5' := Hb5
      have HRB6' := hide ((unhide HRB5).below hb6)
      have HRG6' := hide ((unhide HRG5).below hb6)
      clear hb6 HA5 Hb5 HRB5 HRG5 HRB6 HRG6
      generalize hbu : w5.heap.size = bu at *
      go_wp2_with (refine wpList_storeAll 37 _ _ bu X Z rfl rfl rfl rfl (unhide HU6) (by rw [unhide HTL, unhide HZL]) (unhide HTI) (unhide HT1) ?_)
      intro w7 hA7 hg7 hs7
      have HU7 := hide hA7
      have Hb7 := hide ((unhide Hb6).grown hg7 (unhide Hb6).size (fun k hk => by have := (unhide Hb5').size; simp at hk; omega))
      have hbm : Below bu w6 w7 := (Below.refl bu w6).grown hg7 (by omega) (fun k hk => by simp at hk; omega)
      have HA7 := hide ((unhide HA6).grown hg7 (by have := (unhide HA4').lt; have := (unhide Hb5').size; simp; omega))
      have HRB7 := hide (((unhide HRB6').below hbm).up (show bu ≤ w7.heap.size by omega))
      have HRG7 := hide (((unhide HRG6').below hbm).up (show bu ≤ w7.heap.size by omega))
      clear hA7 hg7 hbm HU6 HA6 Hb6 HRB6' HRG6' HA4' Hb5'
      have HV7 := hide ((unhide HV0).below (unhide Hb7))
      have HRS7 : Hid (RowV w7.heap.size w7 (.slice ab 101 cb) (BB.take 101)) := by
        obtain ⟨_, _, _, e, p1, p2, p3, hrow⟩ := unhide HRB7
        cases e
        exact hide ⟨ab, 101, cb, rfl, h101, p2, p3, hrow.take 101 (by omega)⟩
      have HGS7 : Hid (RowV w7.heap.size w7 (.slice ag n cg) (GG.take n)) := by
        obtain ⟨_, _, _, e, p1, p2, p3, hrow⟩ := unhide HRG7
        cases e
        exact hide ⟨ag, n, cg, rfl, hgc, p2, p3, hrow.take n (by omega)⟩
      have hsz7 : w.heap.size ≤ w7.heap.size := (unhide Hb7).size
      clear hs6 hs7 hbu
      go_wp2_with fail
      refine (unhide hPS _ _ w7 (Nat.le_refl _) (unhide HRS7)).mono ?_
      rintro e w8 ⟨rfl, hb8⟩
      have HC8 := hide hb8
      clear hb8 HRS7 hPS
      go_wp2_with (refine wpList_alloc 37 37 Z rfl rfl (unhide HAL) ?_)
      intro w9 hA9 hb9 hs9
      have HT9 := hide hA9
      have HC9 := hide ((unhide HC8).trans (hb9.mono (unhide HC8).size))
      have hq8 : w7.heap.size ≤ w8.heap.size := (unhide HC8).size
      clear hA9 hb9 HC8
      generalize w8.heap.size = c8 at *
      go_wp2_with (refine wpList_storeAll 37 _ _ c8 Z Z rfl rfl rfl rfl (unhide HT9) rfl (unhide HZI) (unhide HZ1) ?_)
      intro w10 hA10 hg10 hs10
      have HC10 := hide ((unhide HC9).grown hg10 (unhide HC9).size (fun k hk => by simp at hk; omega))
      clear hA10 hg10 hs10 hs9 HT9 HC9
      have HE10 := hide (Own.empty w10)
      have HN10 := hide ((unhide HC10).alloc (unhide HC10).size (.cells #[] 5))
      have hz10 : w7.heap.size ≤ w10.heap.size := (unhide HC10).size
      have HRT10 := hide ((unhide HRB7).below ((unhide HN10)))
      clear HC10
      go_wp2_with (refine wpList_appRow rfl _ _ rfl w10.heap.size _ _ [] rfl (unhide HE10) _ rfl BB (unhide HRT10) ?_ ?_ ?_)
      · simp; omega
      · simp
      intro v11 w11 hO11 hG11
      have hn11 := (unhide HE10).below hG11 (by simp)
      have hz11 : w10.heap.size ≤ w11.heap.size := by have := hn11.size; simp at this; omega
      have HC11 := hide ((unhide HN10).trans (hn11.mono hz10))
      have HO11 := hide hO11
      clear hO11 hG11 HE10 HN10 HRT10 hn11
      go_wp2_with (refine wpList_one46 _ 0 rfl rfl rfl ?_)
      intro w12 hr12 hb12 hs12
      have HO12 := hide ((unhide HO11).keepB hb12)
      have HR12 := hide hr12
      have HC12 := hide ((unhide HC11).trans (hb12.mono (unhide HC11).size))
      have hz12 : w10.heap.size ≤ w12.heap.size := Nat.le_trans hz11 hb12.size
      clear hr12 hb12 hs12 HC11 HO11
      go_wp2_with (refine wpList_appRow rfl _ _ rfl w10.heap.size w12.heap.size _ BB rfl (unhide HO12) _ rfl [0] (unhide HR12) ?_ ?_ ?_)
      · simp; omega
      · exact hz12
      intro v13 w13 hO13 hG13
      have hn13 := (unhide HO12).below hG13 hz12
      have HC13 := hide ((unhide HC12).trans (hn13.mono hz10))
      have HL13 := hide (hO13.row (by simp; omega))
      clear hO13 hG13 hn13 HC12 HO12 HR12 hz10 hz11 hz12
      go_wp2_with fail
      refine (unhide hPL _ _ w13 (Nat.le_refl _) (unhide HL13)).mono ?_
      rintro e w14 ⟨rfl, hb14⟩
      have HC14 := hide ((unhide HC13).trans (hb14.mono (unhide HC13).size))
      clear hb14 HC13 HL13
      go_wp2_with (refine wpList_alloc 37 37 Z rfl rfl (unhide HAL) ?_)
      intro w15 hA15 hb15 hs15
      have HT15 := hide hA15
      have HC15 := hide ((unhide HC14).trans (hb15.mono (unhide HC14).size))
      have hq14 : w7.heap.size ≤ w14.heap.size := (unhide HC14).size
      clear hA15 hb15 HC14
      generalize w14.heap.size = c14 at *
      go_wp2_with (refine wpList_storeAll 37 _ _ c14 Z Z rfl rfl rfl rfl (unhide HT15) rfl (unhide HZI) (unhide HZ1) ?_)
      intro w16 hA16 hg16 hs16
      have HC16 := hide ((unhide HC15).grown hg16 (unhide HC15).size (fun k hk => by simp at hk; omega))
      clear hA16 hg16 hs16 hs15 HT15 HC15
      have hz16 : w7.heap.size ≤ w16.heap.size := (unhide HC16).size
      have HRG16 := hide ((unhide HRG7).below (unhide HC16))
      have HGS16 := hide ((unhide HGS7).below (unhide HC16))
      go_wp2_with fail
      refine (unhide hGB _ _ w16 hz16 (unhide HRG16)).mono ?_
      rintro e w17 ⟨u17, rfl, hr17, hb17⟩
      have HC17 := hide ((unhide HC16).trans (hb17.mono hz16))
      have hz17 : w7.heap.size ≤ w17.heap.size := (unhide HC17).size
      have HR17 := hide hr17
      have HA17 := hide ((unhide HA7).below (unhide HC17))
      have HU17 := hide ((unhide HU7).below (unhide HC17))
      have HRG17 := hide (((unhide HRG7).below (unhide HC17)).up hz17)
      have HGS17 := hide (((unhide HGS7).below (unhide HC17)).up hz17)
      have HV17 := hide ((unhide HV7).below ((unhide HC17).mono hsz7))
      have Hb17 := hide ((unhide Hb7).trans ((unhide HC17).mono hsz7))
      have hsz17 : w.heap.size ≤ w17.heap.size := Nat.le_trans hsz7 hz17
      clear hr17 hb17 HC16 HC17 HA7 HU7 HRG7 HGS7 HV7 Hb7 HRG16 HGS16 hz16 HRB7
      go_wp2_with fail
      refine (unhide hGS _ _ w17 (Nat.le_refl _) (unhide HGS17)).mono ?_
      rintro e w18 ⟨u18, rfl, _, hb18⟩
      have HD18 := hide hb18
      clear hb18 HGS17
      have HE18 := hide (Own.empty w18)
      have HN18 := hide ((unhide HD18).alloc (unhide HD18).size (.cells #[] 5))
      have hz18 : w17.heap.size ≤ w18.heap.size := (unhide HD18).size
      have HRT18 := hide ((unhide HRG17).below ((unhide HN18)))
      clear HD18
      go_wp2_with (refine wpList_appRow rfl _ _ rfl w18.heap.size _ _ [] rfl (unhide HE18) _ rfl GG (unhide HRT18) ?_ ?_ ?_)
      · simp; omega
      · simp
      intro v19 w19 hO19 hG19
      have hn19 := (unhide HE18).below hG19 (by simp)
      have hz19 : w18.heap.size ≤ w19.heap.size := by have := hn19.size; simp at this; omega
      have HD19 := hide ((unhide HN18).trans (hn19.mono hz18))
      have HO19 := hide hO19
      clear hO19 hG19 HE18 HN18 HRT18 hn19
      go_wp2_with (refine wpList_one46 _ 0 rfl rfl rfl ?_)
      intro w20 hr20 hb20 hs20
      have HO20 := hide ((unhide HO19).keepB hb20)
      have HR20 := hide hr20
      have HD20 := hide ((unhide HD19).trans (hb20.mono (unhide HD19).size))
      have hz20 : w18.heap.size ≤ w20.heap.size := Nat.le_trans hz19 hb20.size
      clear hr20 hb20 hs20 HD19 HO19
      go_wp2_with (refine wpList_appRow rfl _ _ rfl w18.heap.size w20.heap.size _ GG rfl (unhide HO20) _ rfl [0] (unhide HR20) ?_ ?_ ?_)
      · simp; omega
      · exact hz20
      intro v21 w21 hO21 hG21
      have hn21 := (unhide HO20).below hG21 hz20
      have HD21 := hide ((unhide HD20).trans (hn21.mono hz18))
      have HL21 := hide (hO21.row (by simp; omega))
      clear hO21 hG21 hn21 HD20 HO20 HR20 hz18 hz19 hz20
      go_wp2_with fail
      refine (unhide hGL _ _ w21 (Nat.le_refl _) (unhide HL21)).mono ?_
      rintro e w22 ⟨u22, rfl, _, hb22⟩
      have HD22 := hide ((unhide HD21).trans (hb22.mono (unhide HD21).size))
      clear hb22 HD21 HL21
      have HA22 := hide ((unhide HA17).below (unhide HD22))
      have HU22 := hide ((unhide HU17).below (unhide HD22))
      have hz22 : w17.heap.size ≤ w22.heap.size := (unhide HD22).size
      have HR22 := hide (((unhide HR17).below (unhide HD22)).up hz22)
      have HV22 := hide ((unhide HV17).below ((unhide HD22).mono hsz17))
      have Hb22 := hide ((unhide Hb17).trans ((unhide HD22).mono hsz17))
      have hsz22 : w.heap.size ≤ w22.heap.size := by omega
      have hSM := hide (unhide hSAME w22 _ (unhide HR22) ((unhide HV22).up hsz22))
      clear HA17 HU17 HR17 HV17 Hb17 HD22 HRG17 hSAME
      have hex := unhide HEX
      go_wp2_with (first
        | refine wpList_loadAll 37 _ bu X _ rfl rfl rfl (unhide HU22) Tryz.underlying37 rfl (unhide HTI) ?_
        | refine wpList_loadAll 37 _ w.heap.size X _ rfl rfl rfl (unhide HA22) Tryz.underlying37 rfl (unhide HTI) ?_)
      refine (unhide hSM).mono ?_
      rintro e w23 ⟨rfl, hb23⟩
      have HA23 := hide ((unhide HA22).below hb23)
      have HV23 := hide ((unhide HV22).below (hb23.mono hsz22))
      have Hb23 := hide ((unhide Hb22).trans (hb23.mono hsz22))
      have hsz23 : w.heap.size ≤ w23.heap.size := (unhide Hb23).size
      clear hb23 HA22 HU22 HR22 HV22 Hb22 hSM
      clear hz22 hsz22 hz17 hsz17 hsz7
      go_wp2_with (refine wpList_loadAll 37 _ w.heap.size X _ rfl rfl rfl (unhide HA23) Tryz.underlying37 rfl (unhide HTI) ?_)
      refine (unhide HAPA w23 hsz23 (unhide HV23)).mono ?_
      rintro e w24 ⟨rfl, hb24⟩
      have HA24 := hide ((unhide HA23).below hb24)
      have Hb24 := hide ((unhide Hb23).trans (hb24.mono hsz23))
      have hsz24 : w.heap.size < w24.heap.size := (unhide HA24).lt
      clear hb24 HA23 Hb23 HV23 HAPA hex
      have HWL := hide (tcs_length (unhide HAF))
      have HWI := hide (info37t (unhide HAF))
      have HW1 := hide (tcs_one (applyT t l).1)
      obtain ⟨R, hR⟩ : ∃ R, R = applyT t l := ⟨_, rfl⟩
      rw [← hR] at HWL HWI HW1 HEW HSTEP
      have HRW := hide hR
      rw [← hR]
      clear hR HAF
      obtain ⟨W2, hW2⟩ : ∃ W2, W2 = R.1.cs := ⟨_, rfl⟩
      have HW2 := hide hW2
      rw [← hW2] at HWL HWI HW1 HEW ⊢
      obtain ⟨RE, hRE⟩ : ∃ RE, RE = R.2 := ⟨_, rfl⟩
      have HRE := hide hRE
      rw [← hRE]
      clear hW2 hRE
      go_wp2_with (refine wpList_alloc 37 37 Z rfl rfl (unhide HAL) ?_)
      intro w25 hA25 hb25 hs25
      have HM25 := hide hA25
      have HA25 := hide ((unhide HA24).below hb25)
      have Hb25 := hide ((unhide Hb24).trans (hb25.mono (unhide Hb24).size))
      clear hA25 hb25 HA24 Hb24
      generalize w24.heap.size = bm at *
      go_wp2_with (refine wpList_storeAll 37 _ _ bm W2 Z rfl rfl rfl rfl (unhide HM25) (by rw [unhide HWL, unhide HZL]) (unhide HWI) (unhide HW1) ?_)
      intro w26 hA26 hg26 hs26
      have HM26 := hide hA26
      have HA26 := hide ((unhide HA25).grown hg26 (by simp; omega))
      have Hb26 := hide ((unhide Hb25).grown hg26 (unhide Hb25).size (fun k hk => by simp at hk; omega))
      clear hA26 hg26 HM25 HA25 Hb25 hs25 hs26
      go_wp2_with (first
        | refine wpList_loadAll 37 _ w.heap.size X _ rfl rfl rfl (unhide HA26) Tryz.underlying37 rfl (unhide HTI) ?_
        | refine wpList_alloc 37 37 Z rfl rfl (unhide HAL) ?_)
      intro w27 hA27 hb27 hs27
      have HO27 := hide hA27
      have HM27 := hide ((unhide HM26).below hb27)
      have Hb27 := hide ((unhide Hb26).trans (hb27.mono (unhide Hb26).size))
      have hmo : bm < w26.heap.size := (unhide HM26).lt
      clear hA27 hb27 HM26 HA26 Hb26
      generalize w26.heap.size = bo at *
      go_wp2_with (refine wpList_storeAll 37 _ _ bo X Z rfl rfl rfl rfl (unhide HO27) (by rw [unhide HTL, unhide HZL]) (unhide HTI) (unhide HT1) ?_)
      intro w28 hA28 hg28 hs28
      have HO28 : Hid (Arr w28 bo t.cs) := hide (by rw [← unhide HX]; exact hA28)
      have HM28 := hide ((unhide HM27).grown hg28 (by simp; omega))
      have Hb28 := hide ((unhide Hb27).grown hg28 (unhide Hb27).size (fun k hk => by simp at hk; omega))
      clear hA28 hg28 HO27 HM27 Hb27 hs27 hs28
      go_wp2_with fail
      go_loopw [22, 145] (fun y ci wr => ∃ k : Nat, k ≤ len ∧ ci = .int .i64 (k : Int) ∧ y = .int .i64 ((l.take k).foldl stepA (t, 0)).2 ∧ FitT ((l.take k).foldl stepA (t, 0)).1 ∧ Arr wr bo ((l.take k).foldl stepA (t, 0)).1.cs ∧ Arr wr bm W2 ∧ Below w.heap.size w wr) (fun _ ci _ => len - (intOf ci).toNat)
      case atStart => exact ⟨0, by omega, rfl, rfl, unhide HTF, unhide HO28, unhide HM28, unhide Hb28⟩
      case round =>
        obtain ⟨k, hk, rfl, rfl, hfit, hAo, hAm, hb⟩ := hrel
        have hor := hAo.lt
        have hszr := hb.size
        by_cases hlt : k < len
        · obtain ⟨b, off, rfl, hbN, hrange⟩ := ((unhide HROW0).below hb).2.2 k hlt
          have hkl : k < l.length := by rw [unhide HLEN]; exact hlt
          have hmem := getD_memC hkl
          have hsn := steps_snoc l k hkl (t, 0)
          generalize (l.take k).foldl stepA (t, 0) = p at *
          obtain ⟨pt, pe⟩ := p
          simp only at hfit hAo
          generalize l.getD k zeroC = c at *
          have hfc := unhide HFC c hmem
          have HSN := hide hsn
          have HFIT := hide hfit
          have HFCc := hide hfc
          have HNk := hide (info41c hfc)
          have HLk := hide (ccs_length hfc)
          have H1 := hide (ccs_one c)
          have HRG := hide hrange
          have Hbr := hide hb
          have HAo := hide hAo
          have HAm := hide hAm
          have HPI := hide (info37t hfit)
          have HPL := hide (tcs_length hfit)
          have HSF := hide (step_fit (p := (pt, pe)) (c := c) hfit hfc)
          have HAW : Hid (∀ (v : Value) (w' : World), CRowV w'.heap.size w' v [c] → Calls Tryz.prog 14 #[.agg pt.cs.toArray, v] w' fun e w'' => e = .returned (.tuple #[.agg (applyT pt [c]).1.cs.toArray, .int .i64 (applyT pt [c]).2]) ∧ Below w'.heap.size w' w'') := hide fun v w' h => apply_walk _ v pt hfit [c] w' (Nat.le_refl _) h
          have haf : FitT (applyT pt [c]).1 := apply_fit hfit fun x hx => by obtain rfl := List.mem_singleton.1 hx; exact hfc
          have HAFI := hide (info37t haf)
          have HAFL := hide (tcs_length haf)
          have HAF1 := hide (tcs_one (applyT pt [c]).1)
          clear hfit hAo hAm hb hrange hmem hsn hfc hbN haf
          obtain ⟨Y, hY⟩ : ∃ Y, Y = c.cs := ⟨_, rfl⟩
          have HY := hide hY
          rw [← hY] at HNk HLk H1 HRG
          clear hY
          go_wp2_with (first
            | refine wpList_loadPart 41 _ b (off + k * 40) Y _ rfl rfl rfl (unhide HRG) Tryz.underlying41 rfl (unhide HNk) ?_
            | refine wpList_alloc 41 41 zeroC.cs rfl rfl (unhide HALC) ?_)
          intro w29 hA29 hb29 hs29
          have HC29 := hide hA29
          have HAo29 := hide ((unhide HAo).below hb29)
          have HAm29 := hide ((unhide HAm).below hb29)
          have Hb29 := hide ((unhide Hbr).trans (hb29.mono hszr))
          clear hA29 hb29 HAo HAm Hbr HRG hs29
          generalize wr.heap.size = mb at *
          go_wp2_with (refine wpList_storeAll 41 _ _ mb Y zeroC.cs rfl rfl rfl rfl (unhide HC29) (by rw [unhide HLk]; rfl) (unhide HNk) (unhide H1) ?_)
          intro w30 hA30 hg30 hs30
          have HC30 := hide hA30
          have HAo30 := hide ((unhide HAo29).grown hg30 (by simp; omega))
          have HAm30 := hide ((unhide HAm29).grown hg30 (by simp; omega))
          have Hb30 := hide ((unhide Hb29).grown hg30 (unhide Hb29).size (fun k hk => by simp at hk; omega))
          have hs30' : w.heap.size ≤ w30.heap.size := (unhide Hb30).size
          clear hA30 hg30 HC29 HAo29 HAm29 Hb29 hs30
          by_cases hp : pe = 0
          · subst hp
            have hst : stepA (pt, 0) c = applyT pt [c] := if_pos rfl
            rw [hst] at HSN HSF
            clear hst
            go_wp2_with (first
              | refine wpList_loadAll 37 _ bo pt.cs _ rfl rfl rfl (unhide HAo30) Tryz.underlying37 rfl (unhide HPI) ?_
              | refine wpList_loadAll 41 _ mb Y _ rfl rfl rfl (unhide HC30) Tryz.underlying41 rfl (unhide HNk) ?_
              | refine wpList_one43 _ c (unhide HFCc) rfl rfl (by rw [← unhide HY]; rfl) ?_)
            intro w31 hr31 hb31 hs31
            have HAW31 := hide (unhide HAW _ w31 hr31)
            have HAo31 := hide ((unhide HAo30).below hb31)
            have HAm31 := hide ((unhide HAm30).below hb31)
            have Hb31 := hide ((unhide Hb30).trans (hb31.mono hs30'))
            clear hr31 hb31 HAW HAo30 HAm30 Hb30 HC30 hs31
            obtain ⟨P, hP⟩ : ∃ P, P = applyT pt [c] := ⟨_, rfl⟩
            rw [← hP] at HAW31 HAFI HAFL HAF1 HSN HSF
            clear hP
            go_wp2_with fail
            refine (unhide HAW31).mono ?_
            rintro e w32 ⟨rfl, hb32⟩
            have HAo32 := hide ((unhide HAo31).below hb32)
            have HAm32 := hide ((unhide HAm31).below hb32)
            have Hb32 := hide ((unhide Hb31).trans (hb32.mono (unhide Hb31).size))
            clear hb32 HAW31 HAo31 HAm31 Hb31
            go_wp2_with (refine wpList_storeAll 37 _ _ bo P.1.cs pt.cs rfl rfl rfl rfl (unhide HAo32) (by rw [unhide HPL, unhide HAFL]) (unhide HAFI) (unhide HAF1) ?_)
            intro w33 hA33 hg33 hs33
            have HAo33 := hide hA33
            have HAm33 := hide ((unhide HAm32).grown hg33 (by simp; omega))
            have Hb33 := hide ((unhide Hb32).grown hg33 (unhide Hb32).size (fun k hk => by simp at hk; omega))
            clear hA33 hg33 HAo32 HAm32 Hb32 hs33
            go_wp2
            go_roundw
            case rel => exact ⟨k + 1, by omega, by simp, by rw [unhide HSN], by rw [unhide HSN]; exact unhide HSF, by rw [unhide HSN]; exact unhide HAo33, unhide HAm33, unhide Hb33⟩
            case measure => simp [intOf]; omega
          · have hst : stepA (pt, pe) c = (pt, pe) := if_neg hp
            rw [hst] at HSN HSF
            clear hst
            have hpe : (pe == 0) = false := by simpa using hp
            go_wp2
            go_roundw
            case rel => exact ⟨k + 1, by omega, by simp, by rw [unhide HSN], by rw [unhide HSN]; exact unhide HSF, by rw [unhide HSN]; exact unhide HAo30, unhide HAm30, unhide Hb30⟩
            case measure => simp [intOf]; omega
        · obtain rfl : k = len := by omega
          rw [List.take_of_length_le (by rw [unhide HLEN]; exact Nat.le_refl _), unhide HSTEP] at hAo
          rw [List.take_of_length_le (by rw [unhide HLEN]; exact Nat.le_refl _), unhide HSTEP]
          rw [← unhide HW2] at hAo
          rw [← unhide HRE]
          have HAo := hide hAo
          have HAm := hide hAm
          have Hbr := hide hb
          have hew := unhide HEW
          clear hAo hAm hb hfit
          go_wp2_with (first
            | refine wpList_loadAll 37 _ bm W2 _ rfl rfl rfl (unhide HAm) Tryz.underlying37 rfl (unhide HWI) ?_
            | refine wpList_loadAll 37 _ bo W2 _ rfl rfl rfl (unhide HAo) Tryz.underlying37 rfl (unhide HWI) ?_)
          go_ret
          exact ⟨rfl, unhide Hbr⟩
end Go.Proofs.YtdfdalkcljfghaaGreat.tableBack
