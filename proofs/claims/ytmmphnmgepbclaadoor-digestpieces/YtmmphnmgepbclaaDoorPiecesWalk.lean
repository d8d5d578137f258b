/-
  DigestPieces returns true, whatever the slices.
-/
import Derived.Test.YtmmphnmgepbclaaDoorEq
namespace Go.Proofs.YtmmphnmgepbclaaDoor.digestPieces
open Go.RowKit

theorem run_min (x : BitVec 8) (l : Nat) (w : World) : (Builtin.min_ #[3, 3] 3 #[.int .i64 ((x.toNat : Nat) : Int), .int .i64 (l : Int)]).run Tryd.prog w = .ok (.int .i64 ((min x.toNat l : Nat) : Int)) w := by
  simp [Builtin.min_, Builtin.min2]
  split <;> omega

/-- What is left of a slice behind its first q elements, wherever it is said to begin. -/
theorem rest_ok {w : World} {a' : Option Addr} {l c q : Nat} {y : List (BitVec 8)} (h : Row w a' l y) (hlc : l ≤ c) (hq : q ≤ l) : ∀ a2 : Option Addr, (c = q ∨ a2 = a'.map fun x => x.add q) → Row w a2 (l - q) (y.drop q) := by
  intro a2 ha
  by_cases hc : c = q
  · have : l - q = 0 := by omega
    rw [this, List.drop_of_length_le (by have := h.1; omega)]
    exact Row.nil _ _
  · rcases ha with ha | ha
    · exact absurd ha hc
    · have := Row.drop h hlc q hq
      rw [if_neg hc] at this
      rw [ha]; exact this

set_option maxRecDepth 100000 in
set_option maxHeartbeats 800000 in
theorem main (a0 a1 a2 : Option Addr) (len0 cap0 len1 cap1 len2 cap2 : Nat) (B S T : List (BitVec 8)) (w : World) (hT : Tabs w) (hB : Row w a0 len0 B) (hS : Row w a1 len1 S) (hU : Row w a2 len2 T)
    (c0 : len0 ≤ cap0) (l0 : len0 ≤ 1500) (l1 : len1 ≤ 40) (l2 : len2 ≤ 40) :
    Calls Tryd.prog 6 #[.slice a0 len0 cap0, .agg #[.slice a1 len1 cap1, .slice a2 len2 cap2]] w fun e w' => e = .returned (.bool true) ∧ Below w.heap.size w w' := by
  have HT := hide hT
  have hsz := hT.size
  have HB := hide hB
  have HS := hide hS
  have HU := hide hU
  have HlB := hide hB.1
  clear hT hB hS hU
  go_enter Tryd.func6, Tryd.ntmps6
  go_wp2_with fail
  obtain ⟨v, hv⟩ : ∃ v, v = w.alloc (.cells #[.slice a1 len1 cap1, .slice a2 len2 cap2] 41) := ⟨_, rfl⟩
  have hbv : Below w.heap.size w v := by rw [hv]; exact (Below.refl _ _).alloc (Nat.le_refl _) _
  have k0 : v.cell? ⟨w.heap.size, 0, none⟩ = some (.slice a1 len1 cap1) := by rw [hv, cell_new]; rfl
  have k1 : v.cell? ⟨w.heap.size, 1, none⟩ = some (.slice a2 len2 cap2) := by rw [hv, cell_new]; rfl
  rw [← hv]
  have HTv := hide ((unhide HT).below hbv hsz)
  have HBv := hide ((unhide HB).below hbv)
  have HSv := hide ((unhide HS).below hbv)
  have HUv := hide ((unhide HU).below hbv)
  have Hbv := hide hbv
  have K0 := hide k0
  have K1 := hide k1
  have hvs : 2 ≤ v.heap.size := by have := hbv.size; omega
  have hwv : w.heap.size < v.heap.size := lt_of_cell k0
  clear hv hbv k0 k1 HT HB HS HU
  refine (alive_any _ (unhide HTv)).mono ?_
  rintro e w1 ⟨rfl, hb1⟩
  have Hb1 := hide hb1
  have k0 := kept_cell (unhide K0) hb1
  have k1 := kept_cell (unhide K1) hb1
  clear hb1
  go_wp2_with fail
  refine (new_any _ ((unhide HTv).below (unhide Hb1) hvs)).mono ?_
  rintro e w2 ⟨d, rfl, hD2, hd2, hb2⟩
  have hdv : v.heap.size ≤ d := Nat.le_trans (unhide Hb1).size hd2
  have Hb2 := hide ((unhide Hb1).trans (hb2.mono (unhide Hb1).size))
  have HD2 := hide hD2
  clear hD2 hd2 hb2 Hb1 k0 k1
  go_wp2_with fail
  refine (new_any _ ((unhide HTv).below (unhide Hb2) hvs)).mono ?_
  rintro e w3 ⟨f, rfl, hE3, hf3, hb3⟩
  have hdf : d < f := Nat.lt_of_lt_of_le (unhide HD2).lt hf3
  have hfv : v.heap.size ≤ f := by omega
  have HD3 := hide ((unhide HD2).below hb3 (unhide HD2).lt)
  have Hb3 := hide ((unhide Hb2).trans (hb3.mono (unhide Hb2).size))
  have HE3 := hide hE3
  have k0 := kept_cell (unhide K0) (unhide Hb3)
  clear hE3 hf3 hb3 HD2 Hb2
  go_wp2_with fail
  clear k0
  go_loopw [7, 39] (fun s i wr => ∃ (k : Nat) (a' : Option Addr) (l c : Nat) (x y : List (BitVec 8)), k ≤ len1 ∧ i = .int .i64 k ∧ s = .slice a' l c ∧ l ≤ c ∧ Row v a' l y ∧ B = x ++ y ∧ Dig wr d x ∧ Dig wr f [] ∧ Below v.heap.size v wr) (fun _ i _ => len1 - (intOf i).toNat)
  case atStart => exact ⟨0, a0, len0, cap0, [], B, by omega, rfl, rfl, c0, unhide HBv, rfl, unhide HD3, unhide HE3, unhide Hb3⟩
  case round =>
    obtain ⟨k, a', l, c, x, y, hk, rfl, rfl, hlc, hrow, hxy, hD, hE, hb⟩ := hrel
    clear HD3 HE3 Hb3
    have Hrow := hide hrow
    have HD := hide hD
    have HE := hide hE
    have Hb := hide hb
    have Hxy := hide hxy
    have hyl := hrow.1
    have hbl : x.length + l = len0 := by have h1 := unhide HlB; rw [hxy, List.length_append] at h1; omega
    have Hbl := hide hbl
    have hl15 : l ≤ 1500 := by omega
    clear hrow hD hE hb hxy hbl
    by_cases hlt : k < len1
    · obtain ⟨b1, o1, rfl, hc1⟩ := (unhide HSv).2.2 k hlt
      have hcell := kept_cell hc1 (unhide Hb)
      clear hc1
      generalize S.getD k 0 = n at *
      have hmin := run_min n l
      obtain ⟨q, hq⟩ : ∃ q, q = min n.toNat l := ⟨_, rfl⟩
      rw [← hq] at hmin
      have hql : q ≤ l := by rw [hq]; exact Nat.min_le_right _ _
      clear hq
      have hxl : x.length + l ≤ 1500 := by have := unhide Hbl; omega
      have Hxl := hide hxl
      clear hxl
      go_wp2_with fail
      clear hmin
      refine (write_any d x (y.take q) _ _ _ _ ((unhide HTv).below (unhide Hb) hvs) (unhide HD) (((unhide Hrow).take q hql).below (unhide Hb)) (by omega) (Row.apart ((unhide Hrow).take q hql) hdv) (by have := unhide Hxl; omega)).mono ?_
      rintro e w4 ⟨rfl, hD4, hg4⟩
      have HE4 := hide ((unhide HE).other hg4 (by omega))
      have Hb4 := hide ((unhide Hb).grown hg4 (unhide Hb).size (fun k hk => by simp at hk; omega))
      have HD4 := hide hD4
      have Hlx : Hid ((x ++ y.take q).length = x.length + q) := by show _ = _; rw [List.length_append, List.length_take]; omega
      clear hD4 hg4 HD HE Hb hcell
      go_wp2_with fail
      refine (write_any d (x ++ y.take q) [] none 0 0 _ ((unhide HTv).below (unhide Hb4) hvs) (unhide HD4) (Row.nil _ _) (Nat.le_refl _) (fun h => by omega) (by rw [unhide Hlx]; have := unhide Hxl; omega)).mono ?_
      rintro e w5 ⟨rfl, hD5, hg5⟩
      rw [List.append_nil] at hD5
      have HE5 := hide ((unhide HE4).other hg5 (by omega))
      have Hb5 := hide ((unhide Hb4).grown hg5 (unhide Hb4).size (fun k hk => by simp at hk; omega))
      have HD5 := hide hD5
      have HR := hide (rest_ok (unhide Hrow) hlc hql)
      clear hD5 hg5 HD4 HE4 Hb4
      have Hsp : Hid (B = (x ++ y.take q) ++ y.drop q) := by show _ = _; rw [unhide Hxy, List.append_assoc, List.take_append_drop]
      by_cases hcq : c = q
      all_goals
        go_wp2
        go_roundw
        case rel => exact ⟨k + 1, _, _, _, x ++ y.take q, y.drop q, by omega, by go_num, rfl, by omega, unhide HR _ (by first | exact .inl hcq | exact .inr rfl), unhide Hsp, unhide HD5, unhide HE5, unhide Hb5⟩
        case measure => simp [intOf]; omega
    · clear hk
      have k1 := kept_cell (unhide K1) (unhide Hb)
      go_wp2_with fail
      clear k1
      go_loopw [8, 62] (fun s i wr => ∃ (k2 : Nat) (a2' : Option Addr) (l2' c2' : Nat) (x2 y2 : List (BitVec 8)), k2 ≤ len2 ∧ i = .int .i64 k2 ∧ s = .slice a2' l2' c2' ∧ l2' ≤ c2' ∧ Row v a2' l2' y2 ∧ B = x2 ++ y2 ∧ Dig wr f x2 ∧ Dig wr d x ∧ Below v.heap.size v wr) (fun _ i _ => len2 - (intOf i).toNat)
      case atStart => exact ⟨0, a0, len0, cap0, [], B, by omega, rfl, rfl, c0, unhide HBv, rfl, unhide HE, unhide HD, unhide Hb⟩
      case round =>
        clear HE HD Hb
        obtain ⟨k2, a2', l2', c2', x2, y2, hk2, rfl, rfl, hlc2, hrow2, hxy2, hE, hD, hb⟩ := hrel
        have Hrow2 := hide hrow2
        have HD := hide hD
        have HE := hide hE
        have Hb := hide hb
        have Hxy2 := hide hxy2
        have hyl2 := hrow2.1
        have hbl2 : x2.length + l2' = len0 := by have h1 := unhide HlB; rw [hxy2, List.length_append] at h1; omega
        have Hbl2 := hide hbl2
        have hl215 : l2' ≤ 1500 := by omega
        have hxl2 : x2.length + l2' ≤ 1500 := by omega
        have Hxl2 := hide hxl2
        clear hrow2 hD hE hb hxy2 hbl2 hxl2
        by_cases hlt2 : k2 < len2
        · obtain ⟨b2, o2, rfl, hc2⟩ := (unhide HUv).2.2 k2 hlt2
          have hcell := kept_cell hc2 (unhide Hb)
          clear hc2
          generalize T.getD k2 0 = n at *
          have hmin := run_min n l2'
          obtain ⟨q, hq⟩ : ∃ q, q = min n.toNat l2' := ⟨_, rfl⟩
          rw [← hq] at hmin
          have hql : q ≤ l2' := by rw [hq]; exact Nat.min_le_right _ _
          clear hq
          go_wp2_with fail
          clear hmin
          refine (write_any f x2 (y2.take q) _ _ _ _ ((unhide HTv).below (unhide Hb) hvs) (unhide HE) (((unhide Hrow2).take q hql).below (unhide Hb)) (by omega) (Row.apart ((unhide Hrow2).take q hql) hfv) (by have := unhide Hxl2; omega)).mono ?_
          rintro e w4 ⟨rfl, hE4, hg4⟩
          have HD4 := hide ((unhide HD).other hg4 (by omega))
          have Hb4 := hide ((unhide Hb).grown hg4 (unhide Hb).size (fun k hk => by simp at hk; omega))
          have HE4 := hide hE4
          have Hlx : Hid ((x2 ++ y2.take q).length = x2.length + q) := by show _ = _; rw [List.length_append, List.length_take]; omega
          clear hE4 hg4 HD HE Hb hcell
          go_wp2_with fail
          refine (dsum_any f (x2 ++ y2.take q) _ ((unhide HTv).below (unhide Hb4) hvs) (unhide HE4) (by rw [unhide Hlx]; have := unhide Hxl2; omega)).mono ?_
          rintro e w5 ⟨rfl, hb5⟩
          generalize bytesV (Sha.sum (x2 ++ y2.take q)) = H5
          have HD5 := hide ((unhide HD4).below hb5 (unhide HD4).lt)
          have HE5 := hide ((unhide HE4).below hb5 (unhide HE4).lt)
          have Hb5 := hide ((unhide Hb4).trans (hb5.mono (unhide Hb4).size))
          have HR := hide (rest_ok (unhide Hrow2) hlc2 hql)
          clear hb5 HD4 HE4 Hb4
          have Hsp : Hid (B = (x2 ++ y2.take q) ++ y2.drop q) := by show _ = _; rw [unhide Hxy2, List.append_assoc, List.take_append_drop]
          by_cases hcq : c2' = q
          all_goals
            go_wp2
            go_roundw
            case rel => exact ⟨k2 + 1, _, _, _, x2 ++ y2.take q, y2.drop q, by omega, by go_num, rfl, by omega, unhide HR _ (by first | exact .inl hcq | exact .inr rfl), unhide Hsp, unhide HE5, unhide HD5, unhide Hb5⟩
            case measure => simp [intOf]; omega
        · clear hk2
          have Hxl : Hid (x.length + l ≤ 1500) := by show _ ≤ _; have := unhide Hbl; omega
          go_wp2_with fail
          refine (write_any d x y _ _ _ _ ((unhide HTv).below (unhide Hb) hvs) (unhide HD) ((unhide Hrow).below (unhide Hb)) hlc (Row.apart (unhide Hrow) hdv) (by have := unhide Hxl; omega)).mono ?_
          rintro e w4 ⟨rfl, hD4, hg4⟩
          rw [← unhide Hxy] at hD4
          have HE4 := hide ((unhide HE).other hg4 (by omega))
          have Hb4 := hide ((unhide Hb).grown hg4 (unhide Hb).size (fun k hk => by simp at hk; omega))
          have HD4 := hide hD4
          clear hD4 hg4 HD HE Hb
          go_wp2_with fail
          refine (write_any f x2 y2 _ _ _ _ ((unhide HTv).below (unhide Hb4) hvs) (unhide HE4) ((unhide Hrow2).below (unhide Hb4)) hlc2 (Row.apart (unhide Hrow2) hfv) (by have := unhide Hxl2; omega)).mono ?_
          rintro e w5 ⟨rfl, hE5, hg5⟩
          rw [← unhide Hxy2] at hE5
          have HD5 := hide ((unhide HD4).other hg5 (by omega))
          have Hb5 := hide ((unhide Hb4).grown hg5 (unhide Hb4).size (fun k hk => by simp at hk; omega))
          have HE5 := hide hE5
          have HlB' := hide (show B.length < 1152921504606840000 by have := unhide HlB; omega)
          clear hE5 hg5 HD4 HE4 Hb4
          go_wp2_with fail
          refine (dsum_any d B _ ((unhide HTv).below (unhide Hb5) hvs) (unhide HD5) (unhide HlB')).mono ?_
          rintro e w6 ⟨rfl, hb6⟩
          have HD6 := hide ((unhide HD5).below hb6 (unhide HD5).lt)
          have HE6 := hide ((unhide HE5).below hb6 (unhide HE5).lt)
          have Hb6 := hide ((unhide Hb5).trans (hb6.mono (unhide Hb5).size))
          generalize hH : bytesV (Sha.sum B) = H
          have HH := hide hH
          clear hH hb6 HD5 HE5 Hb5
          go_wp2_with fail
          refine (dsum_any f B _ ((unhide HTv).below (unhide Hb6) hvs) (unhide HE6) (unhide HlB')).mono ?_
          rintro e w7 ⟨rfl, hb7⟩
          rw [unhide HH]
          have hE := run_same26 H (Sha.sum B) (unhide HH).symm (Sha.sum_length _)
          have HD7 := hide ((unhide HD6).below hb7 (unhide HD6).lt)
          have HE7 := hide ((unhide HE6).below hb7 (unhide HE6).lt)
          have Hb7 := hide ((unhide Hb6).trans (hb7.mono (unhide Hb6).size))
          clear hb7 HD6 HE6 Hb6
          go_wp2_with fail
          refine (len_any d B _ (unhide HD7)).mono ?_
          rintro e w' ⟨rfl, rfl⟩
          rw [unhide HlB]
          go_wp2_with fail
          refine (len_any f B _ (unhide HE7)).mono ?_
          rintro e w' ⟨rfl, rfl⟩
          rw [unhide HlB]
          go_wp2_with fail
          refine (len_any d B _ (unhide HD7)).mono ?_
          rintro e w' ⟨rfl, rfl⟩
          rw [unhide HlB]
          go_wp2_with fail
          refine (dsum_any d B _ ((unhide HTv).below (unhide Hb7) hvs) (unhide HD7) (unhide HlB')).mono ?_
          rintro e w8 ⟨rfl, hb8⟩
          rw [unhide HH]
          have Hb8 := hide ((unhide Hb7).trans (hb8.mono (unhide Hb7).size))
          clear hb8 HD7 HE7 Hb7
          have HOB : Hid (Sl.Ok v ⟨a0, len0, cap0, B⟩) := ⟨unhide HBv, c0⟩
          go_wp2_with fail
          refine (sum_fresh w8 [⟨a0, len0, cap0, B⟩] B _ 1 (by simp) rfl rfl ((unhide HTv).below (unhide Hb8) hvs) (by intro s hs; simp at hs; rcases hs with rfl; exact (unhide HOB).below (unhide Hb8)) (unhide HlB') (by omega)).mono ?_
          rintro e w9 ⟨rfl, hb9⟩
          rw [unhide HH]
          have Hb9 := hide ((unhide Hbv).trans (((unhide Hb8).trans (hb9.mono (unhide Hb8).size)).mono (by omega)))
          clear hb9 Hb8
          go_wp2
          go_ret
          exact ⟨rfl, unhide Hb9⟩

theorem early (a0 a1 a2 : Option Addr) (len0 cap0 len1 cap1 len2 cap2 : Nat) (w : World) (hT : Tabs w) (h : ¬ (len0 ≤ 1500 ∧ len1 ≤ 40 ∧ len2 ≤ 40)) :
    Calls Tryd.prog 6 #[.slice a0 len0 cap0, .agg #[.slice a1 len1 cap1, .slice a2 len2 cap2]] w fun e w' => e = .returned (.bool true) ∧ Below w.heap.size w w' := by
  have HT := hide hT
  have hsz := hT.size
  clear hT
  have hd : (decide (1500 < (len0 : Int)) || decide (40 < (len1 : Int)) || decide (40 < (len2 : Int))) = true := by simp; omega
  have h' : ¬ (((len0 : Int) ≤ 1500 ∧ (len1 : Int) ≤ 40) ∧ (len2 : Int) ≤ 40) := by omega
  clear h
  go_enter Tryd.func6, Tryd.ntmps6
  go_wp2_with fail
  obtain ⟨v, hv⟩ : ∃ v, v = w.alloc (.cells #[.slice a1 len1 cap1, .slice a2 len2 cap2] 41) := ⟨_, rfl⟩
  have hbv : Below w.heap.size w v := by rw [hv]; exact (Below.refl _ _).alloc (Nat.le_refl _) _
  have k0 : v.cell? ⟨w.heap.size, 0, none⟩ = some (.slice a1 len1 cap1) := by rw [hv, cell_new]; rfl
  have k1 : v.cell? ⟨w.heap.size, 1, none⟩ = some (.slice a2 len2 cap2) := by rw [hv, cell_new]; rfl
  rw [← hv]
  have HTv := hide ((unhide HT).below hbv hsz)
  have Hbv := hide hbv
  have K0 := hide k0
  have K1 := hide k1
  clear hv hbv k0 k1 HT
  refine (alive_any _ (unhide HTv)).mono ?_
  rintro e w1 ⟨rfl, hb1⟩
  have Hb1 := hide ((unhide Hbv).trans (hb1.mono (unhide Hbv).size))
  have k0 := kept_cell (unhide K0) hb1
  have k1 := kept_cell (unhide K1) hb1
  clear hb1
  go_wp2
  all_goals
    go_ret
    exact ⟨rfl, unhide Hb1⟩

theorem walk (a0 : Option Addr) (len0 cap0 : Nat) (z0 : List Int) (a1 : Option Addr) (len1 cap1 : Nat) (z1 : List Int) (a2 : Option Addr) (len2 cap2 : Nat) (z2 : List Int) (w : World) (hT : Tabs w) (w0 : IsRow .u8 w a0 len0 cap0 z0) (w1 : IsRow .u8 w a1 len1 cap1 z1) (w2 : IsRow .u8 w a2 len2 cap2 z2) :
    Calls Tryd.prog 6 #[.slice a0 len0 cap0, .agg #[.slice a1 len1 cap1, .slice a2 len2 cap2]] w fun e w' => e = .returned (.bool true) ∧ Below w.heap.size w w' := by
  by_cases h : len0 ≤ 1500 ∧ len1 ≤ 40 ∧ len2 ≤ 40
  · obtain ⟨l0, l1, l2⟩ := h
    obtain ⟨B, hB⟩ := w0.row (by omega)
    obtain ⟨S, hS⟩ := w1.row (by omega)
    obtain ⟨T, hU⟩ := w2.row (by omega)
    exact main a0 a1 a2 len0 cap0 len1 cap1 len2 cap2 B S T w hT hB hS hU w0.room l0 l1 l2
  · exact early a0 a1 a2 len0 cap0 len1 cap1 len2 cap2 w hT h

end Go.Proofs.YtmmphnmgepbclaaDoor.digestPieces
