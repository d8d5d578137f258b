/-
  CodeBack returns true, whatever the number, the size and the texts.
-/
import Derived.Test.YtpejbpmdfbdphaaReader
import Derived.Test.YtpejbpmdfbdphaaBackMath
import Derived.Test.YtpejbpmdfbdphaaKit
namespace Go.Proofs.Ytpejbpmdfbdphaa.codeBack
open Go.RowKit

theorem bits_and64 (a b : Nat) (ha : a < 2 ^ 64) (hb : b < 2 ^ 64) : bits .and .u64 (a : Int) (b : Int) = ((a &&& b : Nat) : Int) := by
  show IntKind.u64.wrap ((BitVec.ofInt 64 (a : Int) &&& BitVec.ofInt 64 (b : Int)).toNat : Int) = _
  have e : (BitVec.ofInt 64 (a : Int) &&& BitVec.ofInt 64 (b : Int)).toNat = a &&& b := by
    rw [BitVec.ofInt_natCast, BitVec.ofInt_natCast, BitVec.toNat_and, BitVec.toNat_ofNat, BitVec.toNat_ofNat, Nat.mod_eq_of_lt ha, Nat.mod_eq_of_lt hb]
  rw [e]
  have := Nat.and_lt_two_pow a hb
  rw [IntKind.wrap_u64]
  omega
theorem and_low (n k : Nat) (hn : n < 18446744073709551616) (hk : k < 8) : bits .and .u64 (n : Int) (IntKind.u64.wrap (IntKind.u64.wrap (2 ^ (8 * (k : Int)).toNat) - 1)) = ((n % 256 ^ k : Nat) : Int) := by
  have e1 : 256 ^ k = 2 ^ (8 * k) := by rw [show (256 : Nat) = 2 ^ 8 by rfl, ← Nat.pow_mul]
  have e2 : (8 * (k : Int)).toNat = 8 * k := by omega
  have h1 : 2 ^ (8 * k) < 2 ^ 64 := Nat.pow_lt_pow_right (by decide) (by omega)
  have h0 : 0 < 2 ^ (8 * k) := Nat.pow_pos (by decide)
  have e3 : ((2 : Int) ^ (8 * k)) = ((2 ^ (8 * k) : Nat) : Int) := by simp
  rw [e1, e2, e3]
  have e4 : IntKind.u64.wrap (IntKind.u64.wrap ((2 ^ (8 * k) : Nat) : Int) - 1) = ((2 ^ (8 * k) - 1 : Nat) : Int) := by
    rw [IntKind.wrap_u64, IntKind.wrap_u64]; omega
  rw [e4, bits_and64 _ _ hn (by omega), Nat.and_two_pow_sub_one_eq_mod]

set_option maxHeartbeats 3200000 in
set_option maxRecDepth 100000 in
theorem main (n k : Nat) (kI : Int) (hkI : Hid (kI = (k : Int))) (hn : n < 18446744073709551616) (hk : k ≤ 8) (hk0 : 0 ≤ kI) (hk8 : kI ≤ 8) (a : Option Addr) (len cap : Nat) (ss : List ByteArray) (hlen : len ≤ 10) (w : World) (hS : Strs w.heap.size w a len ss) (hM : ∀ s ∈ ss, s.size ≤ maxLen) :
    Calls Try.prog 6 #[.int .u64 (n : Int), .int .i64 kI, .slice a len cap] w fun e w' => e = .returned (.bool true) ∧ Below w.heap.size w w' := by
  have HS := hide hS
  have HL := hide hS.1
  have HM := hide hM
  clear hS hM
  go_enter Try.func6, Try.ntmps6
  go_wp2_with fail
  refine (alive_walk w).mono ?_
  rintro e w1 ⟨rfl, hb1⟩
  have Hb1 := hide hb1
  clear hb1
  go_wp2_with fail
  refine (fixed_walk 0 _ [] n hn kI w1 (Nat.zero_le _) (RowV.nil _ _) (by simp)).mono ?_
  rintro e w2 ⟨v2, rfl, hO2, hb2⟩
  rw [List.nil_append, unhide hkI, sizeN_nat k hk] at hO2
  have HO2 := hide hO2
  have Hb2 := hide ((unhide Hb1).trans (hb2.mono (unhide Hb1).size))
  have hw12 := hb2.size
  have hw1 := (unhide Hb1).size
  clear hO2 hb2 Hb1
  go_wp2_with fail
  go_loopw [33] (fun ci wr => ∃ i : Nat, i ≤ len ∧ ci = .int .i64 (i : Int) ∧ wr = w2 ∧ Hid (∀ s ∈ ss.take i, s.size ≤ 500)) (fun ci _ => len - (intOf ci).toNat)
  case atStart => exact ⟨0, by omega, rfl, rfl, hide (by simp)⟩
  case round =>
    obtain ⟨i, hi, rfl, rfl, HI⟩ := hrel
    by_cases hlt : i < len
    · obtain ⟨b, off, rfl, hbN, hcell⟩ := ((unhide HS).below (unhide Hb2)).2 i hlt
      have hst := take_snoc ByteArray.empty ss i (by rw [unhide HL]; exact hlt)
      have hmx : (ss.getD i ByteArray.empty).size ≤ maxLen := unhide HM _ (by
        rw [List.getD_eq_getElem?_getD, List.getElem?_eq_getElem (by rw [unhide HL]; exact hlt)]
        exact List.getElem_mem _)
      generalize ss.getD i ByteArray.empty = t at *
      have HST := hide hst
      clear hst
      by_cases h5 : t.size ≤ 500
      · go_wp2
        go_roundw
        case rel =>
          refine ⟨i + 1, by omega, by go_num, trivial, hide ?_⟩
          rw [unhide HST]
          intro s hs
          rcases List.mem_append.1 hs with hs | hs
          · exact unhide HI s hs
          · obtain rfl := List.mem_singleton.1 hs
            exact h5
        case measure => simp [intOf]; omega
      · go_wp2
        go_ret
        exact ⟨rfl, unhide Hb2⟩
    · obtain rfl : i = len := by omega
      have hall : ∀ s ∈ ss, s.size ≤ 500 := by
        have := unhide HI
        rwa [List.take_of_length_le (by rw [unhide HL]; exact Nat.le_refl _)] at this
      have HALL := hide hall
      have HT := hide (text_walk wr.heap.size _ (fixedL n k) a i cap ss wr (Nat.le_refl _) ((unhide HO2).row (by rw [fixedL_length]; omega)) (((unhide HS).below (unhide Hb2)).up (unhide Hb2).size) (by rw [fixedL_length]; omega) hall hlen)
      have htl : (fixedL n k ++ textsL ss).length ≤ 5100 := by
        have h1 := textsL_le ss hall
        have h2 := unhide HL
        rw [List.length_append, fixedL_length]
        omega
      clear hall HI HO2
      go_wp2_with fail
      refine (unhide HT).mono ?_
      rintro e w3 ⟨v3, rfl, hO3, hb3⟩
      have Hb3 := hide ((unhide Hb2).trans (hb3.mono (unhide Hb2).size))
      have hV3 := hO3.row (by omega)
      have hw3 := (unhide Hb3).size
      have HV3 := hide hV3
      clear hO3 hb3 HT
      obtain ⟨a3, len3, cap3, rfl, q1, q2, q3, hrow⟩ := hV3
      have hl3 : (fixedL n k ++ textsL ss).length = len3 := hrow.1
      have HROW := hide hrow
      clear hrow
      go_wp2_with fail
      refine (new_walk w3.heap.size _ _ w3 (Nat.le_refl _) (unhide HV3)).mono ?_
      rintro e w4 ⟨rfl, hR4, hb4⟩
      have hf := rfixed_walk _ _ kI _ _ _ hR4
      have e1 : fixL (fixedL n k ++ textsL ss) 0 kI = (n % 256 ^ k, textsL ss, 0) := by rw [unhide hkI, fix_back n k _ hk]
      rw [e1] at hf
      simp only at hf
      have HF := hide hf
      have Hb4 := hide hb4
      clear hf hR4 hb4
      go_wp2_with fail
      refine (unhide HF).mono ?_
      rintro e w5 ⟨rfl, hR5, hg5⟩
      have Hb5 := hide ((unhide Hb4).grown hg5 (unhide Hb4).size (fun k hk => by cases hk; exact Nat.le_refl _))
      have HR5 := hide hR5
      clear hR5 hg5 HF
      have HX : Hid (n % 256 ^ k < 18446744073709551616) := hide (Nat.lt_of_le_of_lt (Nat.mod_le _ _) hn)
      obtain ⟨x, hx⟩ : ∃ x, x = n % 256 ^ k := ⟨_, rfl⟩
      rw [← hx] at HX
      rw [← hx]
      have HXE := hide hx
      clear hx
      have HTF : Hid (∀ w', Below w3.heap.size w3 w' → ∀ N r, w3.heap.size ≤ N → Rd N w' r (fixedL n k ++ textsL ss).dropLast 0 → fixedL n k ++ textsL ss ≠ [] → Calls Try.prog 9 #[.pointer (some ⟨r, 0, none⟩), .int .i64 kI] w' fun z w'' =>
          ∃ y, z = .returned (.int .u64 y) ∧ ∃ rest e, Short (textsL ss) rest e ∧ Rd N w'' r rest e ∧ w'.grownBy w'' (some r)) := hide (fun w' _ N r _ hR hne => by
        refine (rfixed_walk N r kI _ _ w' hR).mono ?_
        rintro z w'' ⟨rfl, hR', hg'⟩
        have := short_fix n k (textsL ss) hk hne
        rw [← unhide hkI] at this
        exact ⟨_, rfl, _, _, this, hR', hg'⟩)
      have hcase : kI = 8 ∧ x = n ∨ kI < 8 ∧ bits .and .u64 (n : Int) (IntKind.u64.wrap (IntKind.u64.wrap (2 ^ (8 * kI).toNat) - 1)) = (x : Int) := by
        have h0 := unhide hkI
        by_cases h8 : k = 8
        · refine .inl ⟨by omega, ?_⟩
          rw [unhide HXE, h8]
          exact Nat.mod_eq_of_lt (by simpa using hn)
        · refine .inr ⟨by omega, ?_⟩
          rw [unhide HXE, h0]
          exact and_low n k hn (by omega)
      clear HXE HX hkI hk e1
      generalize fixedL n k ++ textsL ss = L at *
      rcases hcase with ⟨rfl, rfl⟩ | ⟨h8, hand⟩
      all_goals
        go_wp2_with fail
        go_loopw [72] (fun ci wq => ∃ j : Nat, j ≤ i ∧ ci = .int .i64 (j : Int) ∧ Rd w3.heap.size wq w3.heap.size (textsL (ss.drop j)) 0 ∧ Below w3.heap.size w3 wq) (fun ci _ => i - (intOf ci).toNat)
        case atStart => exact ⟨0, by omega, rfl, by simpa using unhide HR5, unhide Hb5⟩
        case round =>
          clear HR5 Hb5
          obtain ⟨j, hj, rfl, hR, hb⟩ := hrel
          have Hb := hide hb
          have Hbw := hide ((unhide Hb3).trans (hb.mono hw3))
          by_cases hlt2 : j < i
          · obtain ⟨b, off, rfl, hbN, hcell⟩ := ((unhide HS).below (unhide Hbw)).2 j hlt2
            have hst := textsL_drop ss j (by rw [unhide HL]; exact hlt2)
            have h5 : (ss.getD j ByteArray.empty).size ≤ 500 := unhide HALL _ (by
              rw [List.getD_eq_getElem?_getD, List.getElem?_eq_getElem (by rw [unhide HL]; exact hlt2)]
              exact List.getElem_mem _)
            generalize ss.getD j ByteArray.empty = t at *
            rw [hst] at hR
            have ht := rtext_walk _ _ 500 _ _ _ hR
            rw [txt_back _ _ (by rw [len_of]; exact h5), tx_of] at ht
            simp only at ht
            have HT := hide ht
            clear hst ht hR hb
            go_wp2_with fail
            refine (unhide HT).mono ?_
            rintro e w6 ⟨rfl, hR6, hg6⟩
            have Hb6 := hide ((unhide Hb).grown hg6 (unhide Hb).size (fun k hk => by cases hk; exact Nat.le_refl _))
            have HR6 := hide hR6
            clear hR6 hg6 HT Hb
            go_wp2
            go_roundw
            case rel => exact ⟨j + 1, by omega, by go_num, unhide HR6, unhide Hb6⟩
            case measure => simp [intOf]; omega
          · obtain rfl : j = i := by omega
            have e0 : ss.drop j = [] := List.drop_of_length_le (by rw [unhide HL]; exact Nat.le_refl _)
            have he := rend_walk _ _ _ _ _ hR
            rw [e0] at he
            have e1 : endL (textsL []) 0 = 0 := by decide
            rw [e1] at he
            have HE := hide he
            clear he e1 hR hb e0
            go_wp2_with fail
            refine (unhide HE).mono ?_
            rintro e w6 ⟨rfl, hw6⟩
            subst w6
            clear HE
            by_cases h0 : len3 = 0
            · go_wp2_with fail
              go_ret
              exact ⟨rfl, unhide Hbw⟩
            · have hpos : 0 < len3 := by omega
              have hV : RowV w3.heap.size wr (.slice a3 (len3 - 1) cap3) L.dropLast := by
                have h1 := ((unhide HROW).take (len3 - 1) (by omega)).below (unhide Hb)
                rw [← hl3, ← List.dropLast_eq_take] at h1
                rw [← hl3] at q1 ⊢
                exact ⟨_, _, _, rfl, by omega, q2, q3, h1⟩
              have HV := hide hV
              have hne : L ≠ [] := by intro e; rw [e] at hl3; simp at hl3; omega
              have HNE := hide hne
              clear hV hne
              go_wp2_with fail
              refine (new_walk w3.heap.size _ _ wr (unhide Hb).size (unhide HV)).mono ?_
              rintro e w7 ⟨rfl, hR7, hb7⟩
              have Hb7 := hide ((unhide Hb).trans (hb7.mono (unhide Hb).size))
              have HF7 := hide (unhide HTF w7 (unhide Hb7) _ _ (Nat.le_refl _) hR7 (unhide HNE))
              have hr7 := hR7.1
              clear hR7 hb7 Hb
              generalize wr.heap.size = r7 at *
              go_wp2_with fail
              refine (unhide HF7).mono ?_
              rintro e w8 ⟨y8, rfl, rest8, e8, hsh8, hR8, hg8⟩
              have Hb8 := hide ((unhide Hb7).grown hg8 (unhide Hb7).size (fun k hk => by cases hk; exact hr7))
              have HR8 := hide hR8
              have HSH := hide hsh8
              clear hR8 hg8 hsh8 HF7 Hb7 HTF
              go_wp2_with fail
              go_loopw [98] (fun ci wq => ∃ (m : Nat) (rest : List UInt8) (e : Int), m ≤ j ∧ ci = .int .i64 (m : Int) ∧ Hid (Short (textsL (ss.drop m)) rest e) ∧ Rd w3.heap.size wq r7 rest e ∧ Below w3.heap.size w3 wq) (fun ci _ => j - (intOf ci).toNat)
              case atStart => exact ⟨0, rest8, e8, by omega, rfl, by simpa using HSH, unhide HR8, unhide Hb8⟩
              case round =>
                clear HR8 Hb8 HSH
                obtain ⟨m, rest, e, hm, rfl, HSH, hR, hb⟩ := hrel
                have Hb := hide hb
                by_cases hlt3 : m < j
                · have hst := textsL_drop ss m (by rw [unhide HL]; exact hlt3)
                  have h5 : (ss.getD m ByteArray.empty).size ≤ 500 := unhide HALL _ (by
                    rw [List.getD_eq_getElem?_getD, List.getElem?_eq_getElem (by rw [unhide HL]; exact hlt3)]
                    exact List.getElem_mem _)
                  have hsh := unhide HSH
                  rw [hst] at hsh
                  have hnext := short_txt _ _ _ _ (by rw [len_of]; exact h5) hsh
                  have HNX := hide hnext
                  have HT := hide (rtext_walk _ _ 500 _ _ _ hR)
                  clear hst h5 hsh hnext hR hb HSH
                  go_wp2_with fail
                  refine (unhide HT).mono ?_
                  rintro z w9 ⟨rfl, hR9, hg9⟩
                  have Hb9 := hide ((unhide Hb).grown hg9 (unhide Hb).size (fun k hk => by cases hk; exact hr7))
                  have HR9 := hide hR9
                  clear hR9 hg9 HT Hb
                  go_wp2
                  go_roundw
                  case rel => exact ⟨m + 1, _, _, by omega, by go_num, HNX, unhide HR9, unhide Hb9⟩
                  case measure => simp [intOf]; omega
                · obtain rfl : m = j := by omega
                  have e0 : ss.drop m = [] := List.drop_of_length_le (by rw [unhide HL]; exact Nat.le_refl _)
                  have hsh := unhide HSH
                  rw [e0] at hsh
                  obtain rfl : e = 51 := by
                    rcases hsh with ⟨h, _⟩ | ⟨_, h, _⟩
                    · exact h
                    · exact absurd rfl h
                  have HE := hide (rerr_walk _ _ _ _ _ hR)
                  have Hbw9 := hide ((unhide Hb3).trans (hb.mono hw3))
                  clear hsh e0 hR hb HSH
                  go_wp2_with fail
                  refine (unhide HE).mono ?_
                  rintro z w9 ⟨rfl, hw9⟩
                  subst w9
                  go_wp2_with fail
                  go_ret
                  exact ⟨rfl, unhide Hbw9⟩

set_option maxHeartbeats 800000 in
set_option maxRecDepth 100000 in
theorem walk (a0 a1 : Int) (a2 : Option Addr) (len2 cap2 : Nat) (w : World) (w0 : (Lit.int .u64 a0).wf = true) (_ : (Lit.int .i64 a1).wf = true) (w2 : Texts w a2 len2) :
    Calls Try.prog 6 #[.int .u64 a0, .int .i64 a1, .slice a2 len2 cap2] w fun e w' => e = .returned (.bool true) ∧ Below w.heap.size w w' := by
  obtain ⟨n, rfl, hn⟩ := wf_u64 w0
  obtain ⟨hlen, ss, hS, hM⟩ := w2
  by_cases hc : 0 ≤ a1 ∧ a1 ≤ 8 ∧ len2 ≤ 10
  · exact main n a1.toNat a1 (hide (by omega)) hn (by omega) hc.1 hc.2.1 a2 len2 cap2 ss hc.2.2 w hS hM
  · have hL : len2 ≤ 9223372036854775807 := hlen
    clear hS hM w0 hlen
    have hA := hide (alive_walk w)
    by_cases h1 : a1 < 0
    · go_enter Try.func6, Try.ntmps6
      go_wp2_with fail
      refine (unhide hA).mono ?_
      rintro e w1 ⟨rfl, hb1⟩
      go_wp2_with fail
      go_ret
      exact ⟨rfl, hb1⟩
    · by_cases h2 : 8 < a1
      · go_enter Try.func6, Try.ntmps6
        go_wp2_with fail
        refine (unhide hA).mono ?_
        rintro e w1 ⟨rfl, hb1⟩
        go_wp2_with fail
        go_ret
        exact ⟨rfl, hb1⟩
      · have h3 : 10 < len2 := by omega
        clear hc
        go_enter Try.func6, Try.ntmps6
        go_wp2_with fail
        refine (unhide hA).mono ?_
        rintro e w1 ⟨rfl, hb1⟩
        go_wp2_with fail
        go_ret
        exact ⟨rfl, hb1⟩
end Go.Proofs.Ytpejbpmdfbdphaa.codeBack
