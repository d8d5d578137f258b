/-
  DigestCopies returns true, whatever the slices.
-/
import Derived.Test.YtmmphnmgepbclaaDoorEq
namespace Go.Proofs.YtmmphnmgepbclaaDoor.digestCopies
open Go.RowKit

theorem early (a0 a1 a2 : Option Addr) (len0 cap0 len1 cap1 len2 cap2 : Nat) (w : World) (hT : Tabs w) (h : ¬ (len0 ≤ 500 ∧ len1 ≤ 500 ∧ len2 ≤ 500)) :
    Calls Tryd.prog 5 #[.slice a0 len0 cap0, .slice a1 len1 cap1, .slice a2 len2 cap2] w fun e w' => e = .returned (.bool true) ∧ Below w.heap.size w w' := by
  have HT := hide hT
  clear hT
  have hd : (decide (500 < (len0 : Int)) || decide (500 < (len1 : Int)) || decide (500 < (len2 : Int))) = true := by simp; omega
  have h' : ¬ (((len0 : Int) ≤ 500 ∧ (len1 : Int) ≤ 500) ∧ (len2 : Int) ≤ 500) := by omega
  clear h
  go_enter Tryd.func5, Tryd.ntmps5
  go_wp2_with fail
  refine (alive_any _ (unhide HT)).mono ?_
  rintro e w1 ⟨rfl, hb1⟩
  have Hb1 := hide hb1
  clear hb1
  go_wp2
  all_goals
    go_ret
    exact ⟨rfl, unhide Hb1⟩

set_option maxRecDepth 100000 in
set_option maxHeartbeats 800000 in
theorem main (a0 a1 a2 : Option Addr) (len0 cap0 len1 cap1 len2 cap2 : Nat) (A B C : List (BitVec 8)) (w : World) (hT : Tabs w) (hA : Row w a0 len0 A) (hB : Row w a1 len1 B) (hC : Row w a2 len2 C)
    (c0 : len0 ≤ cap0) (c1 : len1 ≤ cap1) (c2 : len2 ≤ cap2) (l0 : len0 ≤ 500) (l1 : len1 ≤ 500) (l2 : len2 ≤ 500) :
    Calls Tryd.prog 5 #[.slice a0 len0 cap0, .slice a1 len1 cap1, .slice a2 len2 cap2] w fun e w' => e = .returned (.bool true) ∧ Below w.heap.size w w' := by
  have HT := hide hT
  have hsz := hT.size
  have HA := hide hA
  have HB := hide hB
  have HC := hide hC
  have HlA := hide hA.1
  have HlB := hide hB.1
  have HlC := hide hC.1
  clear hT hA hB hC
  go_enter Tryd.func5, Tryd.ntmps5
  go_wp2_with fail
  refine (alive_any _ (unhide HT)).mono ?_
  rintro e w1 ⟨rfl, hb1⟩
  have Hb1 := hide hb1
  clear hb1
  go_wp2_with fail
  refine (new_any _ ((unhide HT).below (unhide Hb1) hsz)).mono ?_
  rintro e w2 ⟨d, rfl, hD2, hd2, hb2⟩
  have hdw : w.heap.size ≤ d := Nat.le_trans (unhide Hb1).size hd2
  have Hb2 := hide ((unhide Hb1).trans (hb2.mono (unhide Hb1).size))
  have HD2 := hide hD2
  clear hD2 hd2 hb2 Hb1
  go_wp2_with fail
  refine (write_any d [] A _ _ _ _ ((unhide HT).below (unhide Hb2) hsz) (unhide HD2) ((unhide HA).below (unhide Hb2)) c0 (Row.apart (unhide HA) hdw) (by simp; omega)).mono ?_
  rintro e w3 ⟨rfl, hD3, hg3⟩
  rw [List.nil_append] at hD3
  have Hb3 := hide ((unhide Hb2).grown hg3 (unhide Hb2).size (fun k hk => by simp at hk; omega))
  have HD3 := hide hD3
  clear hD3 hg3 HD2 Hb2
  go_wp2_with fail
  refine (copy_any d A _ (unhide HD3)).mono ?_
  rintro e w4 ⟨f, rfl, hE4, hf4, hb4⟩
  have hfd : d < f := Nat.lt_of_lt_of_le (unhide HD3).lt hf4
  have hfw : w.heap.size ≤ f := by omega
  have HD4 := hide ((unhide HD3).below hb4 (unhide HD3).lt)
  have HE4 := hide hE4
  have Hb4 := hide ((unhide Hb3).trans (hb4.mono (unhide Hb3).size))
  clear hE4 hf4 hb4 HD3 Hb3
  go_wp2_with fail
  refine (write_any d A B _ _ _ _ ((unhide HT).below (unhide Hb4) hsz) (unhide HD4) ((unhide HB).below (unhide Hb4)) c1 (Row.apart (unhide HB) hdw) (by rw [unhide HlA]; omega)).mono ?_
  rintro e w5 ⟨rfl, hD5, hg5⟩
  have HE5 := hide ((unhide HE4).other hg5 (by omega))
  have Hb5 := hide ((unhide Hb4).grown hg5 (unhide Hb4).size (fun k hk => by simp at hk; omega))
  have HD5 := hide hD5
  clear hD5 hg5 HD4 HE4 Hb4
  go_wp2_with fail
  refine (write_any f A C _ _ _ _ ((unhide HT).below (unhide Hb5) hsz) (unhide HE5) ((unhide HC).below (unhide Hb5)) c2 (Row.apart (unhide HC) hfw) (by rw [unhide HlA]; omega)).mono ?_
  rintro e w6 ⟨rfl, hE6, hg6⟩
  have HD6 := hide ((unhide HD5).other hg6 (by omega))
  have Hb6 := hide ((unhide Hb5).grown hg6 (unhide Hb5).size (fun k hk => by simp at hk; omega))
  have HE6 := hide hE6
  clear hE6 hg6 HD5 HE5 Hb5
  have HlAB : Hid ((A ++ B).length = len0 + len1) := by show _ = _; rw [List.length_append, unhide HlA, unhide HlB]
  have HlAC : Hid ((A ++ C).length = len0 + len2) := by show _ = _; rw [List.length_append, unhide HlA, unhide HlC]
  have HOA : Hid (Sl.Ok w ⟨a0, len0, cap0, A⟩) := ⟨unhide HA, c0⟩
  have HOB : Hid (Sl.Ok w ⟨a1, len1, cap1, B⟩) := ⟨unhide HB, c1⟩
  have HOC : Hid (Sl.Ok w ⟨a2, len2, cap2, C⟩) := ⟨unhide HC, c2⟩
  go_wp2_with fail
  refine (dsum_any d (A ++ B) _ ((unhide HT).below (unhide Hb6) hsz) (unhide HD6) (by rw [unhide HlAB]; omega)).mono ?_
  rintro e w7 ⟨rfl, hb7⟩
  generalize hH : bytesV (Sha.sum (A ++ B)) = H7
  have HH7 := hide hH
  clear hH
  have HD7 := hide ((unhide HD6).below hb7 (unhide HD6).lt)
  have HE7 := hide ((unhide HE6).below hb7 (unhide HE6).lt)
  have Hb7 := hide ((unhide Hb6).trans (hb7.mono (unhide Hb6).size))
  clear hb7 HD6 HE6 Hb6
  go_wp2_with fail
  refine (sum_fresh w7 [⟨a0, len0, cap0, A⟩, ⟨a1, len1, cap1, B⟩] (A ++ B) _ 2 (by simp) rfl rfl ((unhide HT).below (unhide Hb7) hsz) (by intro s hs; simp at hs; rcases hs with rfl | rfl <;> first | exact (unhide HOA).below (unhide Hb7) | exact (unhide HOB).below (unhide Hb7) | exact (unhide HOC).below (unhide Hb7)) (by rw [unhide HlAB]; omega) (by omega)).mono ?_
  rintro e w8 ⟨rfl, hb8⟩
  have HD8 := hide ((unhide HD7).below hb8 (unhide HD7).lt)
  have HE8 := hide ((unhide HE7).below hb8 (unhide HE7).lt)
  have Hb8 := hide ((unhide Hb7).trans (hb8.mono (unhide Hb7).size))
  clear hb8 HD7 HE7 Hb7
  have hE := run_same26 H7 (Sha.sum (A ++ B)) (unhide HH7).symm (Sha.sum_length _)
  rw [unhide HH7]
  clear HH7
  go_wp2_with fail
  refine (dsum_any f (A ++ C) _ ((unhide HT).below (unhide Hb8) hsz) (unhide HE8) (by rw [unhide HlAC]; omega)).mono ?_
  rintro e w9 ⟨rfl, hb9⟩
  generalize hH : bytesV (Sha.sum (A ++ C)) = H9
  have HH9 := hide hH
  clear hH
  have HD9 := hide ((unhide HD8).below hb9 (unhide HD8).lt)
  have HE9 := hide ((unhide HE8).below hb9 (unhide HE8).lt)
  have Hb9 := hide ((unhide Hb8).trans (hb9.mono (unhide Hb8).size))
  clear hb9 HD8 HE8 Hb8
  clear hE
  go_wp2_with fail
  refine (sum_fresh w9 [⟨a0, len0, cap0, A⟩, ⟨a2, len2, cap2, C⟩] (A ++ C) _ 2 (by simp) rfl rfl ((unhide HT).below (unhide Hb9) hsz) (by intro s hs; simp at hs; rcases hs with rfl | rfl <;> first | exact (unhide HOA).below (unhide Hb9) | exact (unhide HOB).below (unhide Hb9) | exact (unhide HOC).below (unhide Hb9)) (by rw [unhide HlAC]; omega) (by omega)).mono ?_
  rintro e w10 ⟨rfl, hb10⟩
  have HD10 := hide ((unhide HD9).below hb10 (unhide HD9).lt)
  have HE10 := hide ((unhide HE9).below hb10 (unhide HE9).lt)
  have Hb10 := hide ((unhide Hb9).trans (hb10.mono (unhide Hb9).size))
  clear hb10 HD9 HE9 Hb9
  have hE := run_same26 H9 (Sha.sum (A ++ C)) (unhide HH9).symm (Sha.sum_length _)
  rw [unhide HH9]
  clear HH9
  go_wp2_with fail
  refine (len_any d (A ++ B) _ (unhide HD10)).mono ?_
  rintro e w' ⟨rfl, rfl⟩
  rw [unhide HlAB]
  clear hE
  go_wp2_with fail
  refine (write_any f (A ++ C) B _ _ _ _ ((unhide HT).below (unhide Hb10) hsz) (unhide HE10) ((unhide HB).below (unhide Hb10)) c1 (Row.apart (unhide HB) hfw) (by rw [unhide HlAC]; omega)).mono ?_
  rintro e w11 ⟨rfl, hE11, hg11⟩
  have HD11 := hide ((unhide HD10).other hg11 (by omega))
  have Hb11 := hide ((unhide Hb10).grown hg11 (unhide Hb10).size (fun k hk => by simp at hk; omega))
  have HE11 := hide hE11
  clear hE11 hg11 HD10 HE10 Hb10
  go_wp2_with fail
  refine (copy_any f (A ++ C ++ B) _ (unhide HE11)).mono ?_
  rintro e w12 ⟨g, rfl, hF12, hn12, hb12⟩
  have hltD : d < g := Nat.lt_of_lt_of_le (unhide HD11).lt hn12
  have hltE : f < g := Nat.lt_of_lt_of_le (unhide HE11).lt hn12
  have hgw : w.heap.size ≤ g := by omega
  have HD12 := hide ((unhide HD11).below hb12 (unhide HD11).lt)
  have HE12 := hide ((unhide HE11).below hb12 (unhide HE11).lt)
  have HF12 := hide hF12
  have Hb12 := hide ((unhide Hb11).trans (hb12.mono (unhide Hb11).size))
  clear hF12 hn12 hb12 HD11 HE11 Hb11
  go_wp2_with fail
  refine (write_any d (A ++ B) C _ _ _ _ ((unhide HT).below (unhide Hb12) hsz) (unhide HD12) ((unhide HC).below (unhide Hb12)) c2 (Row.apart (unhide HC) hdw) (by rw [unhide HlAB]; omega)).mono ?_
  rintro e w13 ⟨rfl, hD13, hg13⟩
  have HE13 := hide ((unhide HE12).other hg13 (by omega))
  have HF13 := hide ((unhide HF12).other hg13 (by omega))
  have Hb13 := hide ((unhide Hb12).grown hg13 (unhide Hb12).size (fun k hk => by simp at hk; omega))
  have HD13 := hide hD13
  clear hD13 hg13 HD12 HE12 HF12 Hb12
  have HlACB : Hid ((A ++ C ++ B).length = len0 + len2 + len1) := by show _ = _; simp only [List.length_append, unhide HlA, unhide HlB, unhide HlC]
  go_wp2_with fail
  refine (write_any g (A ++ C ++ B) A _ _ _ _ ((unhide HT).below (unhide Hb13) hsz) (unhide HF13) ((unhide HA).below (unhide Hb13)) c0 (Row.apart (unhide HA) hgw) (by rw [unhide HlACB]; omega)).mono ?_
  rintro e w14 ⟨rfl, hF14, hg14⟩
  have HD14 := hide ((unhide HD13).other hg14 (by omega))
  have HE14 := hide ((unhide HE13).other hg14 (by omega))
  have Hb14 := hide ((unhide Hb13).grown hg14 (unhide Hb13).size (fun k hk => by simp at hk; omega))
  have HF14 := hide hF14
  clear hF14 hg14 HD13 HE13 HF13 Hb13
  have HlABC : Hid ((A ++ B ++ C).length = len0 + len1 + len2) := by show _ = _; simp only [List.length_append, unhide HlA, unhide HlB, unhide HlC]
  go_wp2_with fail
  refine (dsum_any d (A ++ B ++ C) _ ((unhide HT).below (unhide Hb14) hsz) (unhide HD14) (by rw [unhide HlABC]; omega)).mono ?_
  rintro e w15 ⟨rfl, hb15⟩
  generalize hH : bytesV (Sha.sum (A ++ B ++ C)) = H15
  have HH15 := hide hH
  clear hH
  have HD15 := hide ((unhide HD14).below hb15 (unhide HD14).lt)
  have HE15 := hide ((unhide HE14).below hb15 (unhide HE14).lt)
  have HF15 := hide ((unhide HF14).below hb15 (unhide HF14).lt)
  have Hb15 := hide ((unhide Hb14).trans (hb15.mono (unhide Hb14).size))
  clear hb15 HD14 HE14 HF14 Hb14
  go_wp2_with fail
  refine (sum_fresh w15 [⟨a0, len0, cap0, A⟩, ⟨a1, len1, cap1, B⟩, ⟨a2, len2, cap2, C⟩] (A ++ B ++ C) _ 3 (by simp) rfl rfl ((unhide HT).below (unhide Hb15) hsz) (by intro s hs; simp at hs; rcases hs with rfl | rfl | rfl <;> first | exact (unhide HOA).below (unhide Hb15) | exact (unhide HOB).below (unhide Hb15) | exact (unhide HOC).below (unhide Hb15)) (by rw [unhide HlABC]; omega) (by omega)).mono ?_
  rintro e w16 ⟨rfl, hb16⟩
  have HD16 := hide ((unhide HD15).below hb16 (unhide HD15).lt)
  have HE16 := hide ((unhide HE15).below hb16 (unhide HE15).lt)
  have HF16 := hide ((unhide HF15).below hb16 (unhide HF15).lt)
  have Hb16 := hide ((unhide Hb15).trans (hb16.mono (unhide Hb15).size))
  clear hb16 HD15 HE15 HF15 Hb15
  have hE := run_same26 H15 (Sha.sum (A ++ B ++ C)) (unhide HH15).symm (Sha.sum_length _)
  rw [unhide HH15]
  clear HH15
  go_wp2_with fail
  refine (dsum_any f (A ++ C ++ B) _ ((unhide HT).below (unhide Hb16) hsz) (unhide HE16) (by rw [unhide HlACB]; omega)).mono ?_
  rintro e w17 ⟨rfl, hb17⟩
  generalize hH : bytesV (Sha.sum (A ++ C ++ B)) = H17
  have HH17 := hide hH
  clear hH
  have HD17 := hide ((unhide HD16).below hb17 (unhide HD16).lt)
  have HE17 := hide ((unhide HE16).below hb17 (unhide HE16).lt)
  have HF17 := hide ((unhide HF16).below hb17 (unhide HF16).lt)
  have Hb17 := hide ((unhide Hb16).trans (hb17.mono (unhide Hb16).size))
  clear hb17 HD16 HE16 HF16 Hb16
  clear hE
  go_wp2_with fail
  refine (sum_fresh w17 [⟨a0, len0, cap0, A⟩, ⟨a2, len2, cap2, C⟩, ⟨a1, len1, cap1, B⟩] (A ++ C ++ B) _ 3 (by simp) rfl rfl ((unhide HT).below (unhide Hb17) hsz) (by intro s hs; simp at hs; rcases hs with rfl | rfl | rfl <;> first | exact (unhide HOA).below (unhide Hb17) | exact (unhide HOB).below (unhide Hb17) | exact (unhide HOC).below (unhide Hb17)) (by rw [unhide HlACB]; omega) (by omega)).mono ?_
  rintro e w18 ⟨rfl, hb18⟩
  have HD18 := hide ((unhide HD17).below hb18 (unhide HD17).lt)
  have HE18 := hide ((unhide HE17).below hb18 (unhide HE17).lt)
  have HF18 := hide ((unhide HF17).below hb18 (unhide HF17).lt)
  have Hb18 := hide ((unhide Hb17).trans (hb18.mono (unhide Hb17).size))
  clear hb18 HD17 HE17 HF17 Hb17
  have hE := run_same26 H17 (Sha.sum (A ++ C ++ B)) (unhide HH17).symm (Sha.sum_length _)
  rw [unhide HH17]
  clear HH17
  have HlACBA : Hid ((A ++ C ++ B ++ A).length = len0 + len2 + len1 + len0) := by show _ = _; simp only [List.length_append, unhide HlA, unhide HlB, unhide HlC]
  go_wp2_with fail
  refine (dsum_any g (A ++ C ++ B ++ A) _ ((unhide HT).below (unhide Hb18) hsz) (unhide HF18) (by rw [unhide HlACBA]; omega)).mono ?_
  rintro e w19 ⟨rfl, hb19⟩
  generalize hH : bytesV (Sha.sum (A ++ C ++ B ++ A)) = H19
  have HH19 := hide hH
  clear hH
  have HD19 := hide ((unhide HD18).below hb19 (unhide HD18).lt)
  have HE19 := hide ((unhide HE18).below hb19 (unhide HE18).lt)
  have HF19 := hide ((unhide HF18).below hb19 (unhide HF18).lt)
  have Hb19 := hide ((unhide Hb18).trans (hb19.mono (unhide Hb18).size))
  clear hb19 HD18 HE18 HF18 Hb18
  clear hE
  go_wp2_with fail
  refine (sum_fresh w19 [⟨a0, len0, cap0, A⟩, ⟨a2, len2, cap2, C⟩, ⟨a1, len1, cap1, B⟩, ⟨a0, len0, cap0, A⟩] (A ++ C ++ B ++ A) _ 4 (by simp) rfl rfl ((unhide HT).below (unhide Hb19) hsz) (by intro s hs; simp at hs; rcases hs with rfl | rfl | rfl | rfl <;> first | exact (unhide HOA).below (unhide Hb19) | exact (unhide HOB).below (unhide Hb19) | exact (unhide HOC).below (unhide Hb19)) (by rw [unhide HlACBA]; omega) (by omega)).mono ?_
  rintro e w20 ⟨rfl, hb20⟩
  have HD20 := hide ((unhide HD19).below hb20 (unhide HD19).lt)
  have HE20 := hide ((unhide HE19).below hb20 (unhide HE19).lt)
  have HF20 := hide ((unhide HF19).below hb20 (unhide HF19).lt)
  have Hb20 := hide ((unhide Hb19).trans (hb20.mono (unhide Hb19).size))
  clear hb20 HD19 HE19 HF19 Hb19
  have hE := run_same26 H19 (Sha.sum (A ++ C ++ B ++ A)) (unhide HH19).symm (Sha.sum_length _)
  rw [unhide HH19]
  clear HH19
  go_wp2_with fail
  refine (len_any f (A ++ C ++ B) _ (unhide HE20)).mono ?_
  rintro e w' ⟨rfl, rfl⟩
  rw [unhide HlACB]
  clear hE
  go_wp2_with fail
  refine (len_any d (A ++ B ++ C) _ (unhide HD20)).mono ?_
  rintro e w' ⟨rfl, rfl⟩
  rw [unhide HlABC]
  have hfin : ((len0 : Int) + (len2 : Int) + (len1 : Int) == (len0 : Int) + (len1 : Int) + (len2 : Int)) = true := by rw [beq_iff_eq]; omega
  go_wp2
  go_ret
  exact ⟨rfl, unhide Hb20⟩

end Go.Proofs.YtmmphnmgepbclaaDoor.digestCopies
