/-
  CodeWrites returns true, whatever the bytes, the number and the texts.
-/
import Derived.Test.YtpejbpmdfbdphaaOps
import Derived.Test.YtpejbpmdfbdphaaBackMath
import Derived.Test.YtpejbpmdfbdphaaKit
namespace Go.Proofs.Ytpejbpmdfbdphaa.codeWrites
open Go.RowKit

def V15 (xv yv bv : Value) (XL YL bs : List UInt8) : Nat → Yield
  | 0 => .inl xv
  | 1 => .inl (.string (tx XL))
  | 2 => .inl (.string (tx XL))
  | 3 => .inl (.bool false)
  | 4 => .inl (.bool false)
  | 5 => .inl yv
  | 6 => .inl (.string (tx YL))
  | 7 => .inl bv
  | 8 => .inl (.string (tx bs))
  | 9 => .inl (.string (tx YL))
  | 10 => .inl (.bool false)
  | 11 => .inl (.bool false)
  | 12 => .inl (.bool false)
  | 13 => .inl bv
  | 14 => .inl bv
  | 15 => .inr (Shows [7])
  | 16 => .inr (ShowsAll 3 [bs, [], [7]])
  | 17 => .inr (Shows (bs ++ [bs, [], [7]].flatten))
  | 18 => .inl (.string (tx (bs ++ [bs, [], [7]].flatten)))
  | 19 => .inl bv
  | 20 => .inl (.string (tx bs))
  | 21 => .inl bv
  | 22 => .inl (.string (tx bs))
  | 23 => .inl (.string (tx (bs ++ bs)))
  | 24 => .inl (.string (tx (bs ++ [bs, [], [7]].flatten)))
  | 25 => .inl (.bool false)
  | 26 => .inl (.bool false)
  | _ => .inl (.bool false)

theorem V15.stable {xv yv bv : Value} {XL YL bs : List UInt8} : ∀ j v w w', VM (V15 xv yv bv XL YL bs) j v w → Below w.heap.size w w' → VM (V15 xv yv bv XL YL bs) j v w' :=
  VM.stable fun j p h => by
    unfold V15 at h
    split at h <;> first | (cases h; exact Shows.stable) | (cases h; exact ShowsAll.stable) | (cases h)
def V20 (bv : Value) (n : Nat) (m : Int) (bs : List UInt8) : Nat → Yield
  | 0 => .inl bv
  | 1 => .inl (.int .u64 (n : Int))
  | 2 => .inl (.int .i64 m)
  | 3 => .inr (Shows (bs ++ fixedL n (sizeN m)))
  | 4 => .inl (.string (tx (bs ++ fixedL n (sizeN m))))
  | 5 => .inl bv
  | 6 => .inl (.string (tx bs))
  | 7 => .inl (.int .u64 (n : Int))
  | 8 => .inl (.int .i64 m)
  | 9 => .inr (Shows (fixedL n (sizeN m)))
  | 10 => .inl (.string (tx (fixedL n (sizeN m))))
  | 11 => .inl (.string (tx (bs ++ fixedL n (sizeN m))))
  | 12 => .inl (.bool false)
  | _ => .inl (.bool false)

theorem V20.stable {bv : Value} {n : Nat} {m : Int} {bs : List UInt8} : ∀ j v w w', VM (V20 bv n m bs) j v w → Below w.heap.size w w' → VM (V20 bv n m bs) j v w' :=
  VM.stable fun j p h => by
    unfold V20 at h
    split at h <;> first | (cases h; exact Shows.stable) | (cases h)

set_option maxHeartbeats 3200000 in
set_option maxRecDepth 100000 in
theorem main (n : Nat) (hn : n < 18446744073709551616) (ab : Option Addr) (lenb capb : Nat) (bs : List UInt8) (hlb : lenb ≤ 300) (a : Option Addr) (len cap : Nat) (ss : List ByteArray) (hlen : len ≤ 10) (w : World)
    (hBl : bs.length = lenb) (hB : RowV w.heap.size w (.slice ab lenb capb) bs) (hS : Strs w.heap.size w a len ss) (hM : ∀ s ∈ ss, s.size ≤ maxLen) :
    Calls Try.prog 4 #[.slice ab lenb capb, .int .u64 (n : Int), .slice a len cap] w fun e w' => e = .returned (.bool true) ∧ Below w.heap.size w w' := by
  have HB := hide hB
  have HS := hide hS
  have HL := hide hS.1
  have HM := hide hM
  have HBL := hide hBl
  clear hS hM hB hBl
  go_enter Try.func4, Try.ntmps4
  go_wp2_with fail
  refine (alive_walk w).mono ?_
  rintro e w1 ⟨rfl, hb1⟩
  obtain ⟨w2, hmk, hO2, hb2, hs2⟩ := make_bytes w1 (lenb + 64) (by omega)
  have hmk' : (Instr.makeSlice 25 (.int .i64 0) (.int .i64 ((lenb : Int) + 64))).run Try.prog w1 = .ok (.slice (some ⟨w1.heap.size, 0, none⟩) 0 (lenb + 64)) w2 := hmk
  have Hb1 := hide hb1
  have Hb2 := hide (hb1.trans (hb2.mono hb1.size))
  have HO2 := hide hO2
  have HB2 := hide ((unhide HB).below (unhide Hb2))
  clear hb1 hb2 hO2 hmk
  go_wp2_with (refine wpList_appRow rfl _ _ rfl w1.heap.size _ _ [] rfl (unhide HO2) _ rfl bs (unhide HB2) ?_ ?_ ?_)
  · rw [unhide HBL]; simp; omega
  · omega
  intro v3 w3 hO3 hG3
  have hw1 := (unhide Hb1).size
  have Hb3 := hide ((unhide Hb2).trans (((unhide HO2).below hG3 (by omega)).mono hw1))
  have HO3 := hide hO3
  have HB3 := hide ((unhide HB).below (unhide Hb3))
  have hq := run_text (unhide HB3)
  clear hO3 hG3 HO2 HB2 Hb2 hmk' Hb1
  go_wp2_with fail
  have hw3 := (unhide Hb3).size
  clear hq
  go_loopw [8, 34] (fun cw ci wr => ∃ i : Nat, i ≤ len ∧ ci = .int .i64 (i : Int) ∧ cw = .string (tx (bs ++ textsL (ss.take i))) ∧ Below w3.heap.size w3 wr ∧ Hid (∀ s ∈ ss.take i, s.size ≤ 500)) (fun _ ci _ => len - (intOf ci).toNat)
  case atStart => exact ⟨0, by omega, rfl, by simp [textsL], Below.refl _ _, hide (by simp)⟩
  case round =>
    obtain ⟨i, hi, rfl, rfl, hb, HI⟩ := hrel
    have Hb := hide hb
    have Hbw := hide ((unhide Hb3).trans (hb.mono hw3))
    clear hb
    by_cases hlt : i < len
    · obtain ⟨b, off, rfl, hbN, hcell⟩ := ((unhide HS).below (unhide Hbw)).2 i hlt
      have hst := take_snoc ByteArray.empty ss i (by rw [unhide HL]; exact hlt)
      have hmx : (ss.getD i ByteArray.empty).size ≤ maxLen := unhide HM _ (by
        rw [List.getD_eq_getElem?_getD, List.getElem?_eq_getElem (by rw [unhide HL]; exact hlt)]
        exact List.getElem_mem _)
      have hlen' := textsL_le (ss.take i) (unhide HI)
      rw [List.length_take] at hlen'
      generalize ss.getD i ByteArray.empty = t at *
      have HST := hide hst
      clear hst
      by_cases h5 : t.size ≤ 500
      · have HT := hide (rtxt_walk t h5 wr)
        have HX : Hid (bs ++ textsL (ss.take (i + 1)) = bs ++ textsL (ss.take i) ++ textL t.data.toList) := hide (by rw [unhide HST]; simp [textsL])
        have hz : (tx (bs ++ textsL (ss.take i))).size + (tx (textL t.data.toList)).size ≤ 9223372036854775807 := by
          rw [tx_size, tx_size, List.length_append, unhide HBL, textL_length, len_of]; omega
        have hap := tx_append (bs ++ textsL (ss.take i)) (textL t.data.toList)
        rw [← unhide HX] at hap
        generalize tx (bs ++ textsL (ss.take i)) = p at *
        go_wp2_with fail
        refine (unhide HT).mono ?_
        rintro e w4 ⟨v4, rfl, hO4, hb4⟩
        have hq4 := run_text (hO4.row (by rw [textL_length, len_of]; omega))
        have Hb4 := hide ((unhide Hb).trans (hb4.mono (unhide Hb).size))
        clear hO4 hb4 HT Hb Hbw
        generalize tx (textL t.data.toList) = q at *
        go_wp2
        go_roundw
        case rel =>
          refine ⟨i + 1, by omega, by go_num, ?_, unhide Hb4, hide ?_⟩
          · first | rfl | (rw [← hap]) | (rw [hap])
          · rw [unhide HST]
            intro s hs
            rcases List.mem_append.1 hs with hs | hs
            · exact unhide HI s hs
            · obtain rfl := List.mem_singleton.1 hs
              exact h5
        case measure => simp [intOf]; omega
      · go_wp2
        go_ret
        exact ⟨rfl, unhide Hbw⟩
    · obtain rfl : i = len := by omega
      have e1 : ss.take i = ss := List.take_of_length_le (by rw [unhide HL]; exact Nat.le_refl _)
      have hall : ∀ s ∈ ss, s.size ≤ 500 := by
        have := unhide HI
        rwa [e1] at this
      rw [e1]
      have hbl := unhide HBL
      have hOr := (unhide HO3).keepB (unhide Hb)
      have htl := textsL_le ss hall
      rw [unhide HL] at htl
      have HT := hide (text_walk wr.heap.size _ bs a i cap ss wr (Nat.le_refl _) (hOr.row (by omega)) (((unhide HS).below (unhide Hbw)).up (unhide Hbw).size) (by omega) hall hlen)
      have HOr := hide hOr
      clear hall HI hOr e1
      go_wp2_with fail
      refine (unhide HT).mono ?_
      rintro e w5 ⟨v5, rfl, hO5, hb5⟩
      have hO35 := (unhide HOr).keepB hb5
      have Hb5 := hide ((unhide Hbw).trans (hb5.mono (unhide Hbw).size))
      have HF := hide (fixed_walk w5.heap.size _ bs 9 (by decide) 8 w5 (Nat.le_refl _) (hO35.row (by omega)) (by omega))
      have HO5 := hide hO5
      clear hO5 hb5 hO35 HT HOr HO3 Hb Hbw
      go_wp2_with fail
      refine (unhide HF).mono ?_
      rintro e w6 ⟨v6, rfl, hO6, hb6⟩
      have e8 : sizeN 8 = 8 := by decide
      rw [e8] at hO6
      have Hb6 := hide ((unhide Hb5).trans (hb6.mono (unhide Hb5).size))
      have RX := hide (((unhide HO5).keepB hb6).row (by rw [List.length_append]; omega))
      have RY := hide (hO6.row (by rw [List.length_append, fixedL_length]; omega))
      have RB := hide (((unhide HB).below (unhide Hb6)).up (unhide Hb6).size)
      have F61 : Hid (tx bs ++ ⟨#[9, 0, 0, 0, 0, 0, 0, 0]⟩ = tx (bs ++ fixedL 9 8) ∧ (tx bs).size + (⟨#[9, 0, 0, 0, 0, 0, 0, 0]⟩ : ByteArray).size ≤ 9223372036854775807) := hide ⟨tx_append bs (fixedL 9 8), by rw [tx_size]; show bs.length + 8 ≤ _; omega⟩
      have F75 : Hid (tx bs ++ tx bs = tx (bs ++ bs) ∧ (tx bs).size + (tx bs).size ≤ 9223372036854775807) := hide ⟨tx_append bs bs, by rw [tx_size]; omega⟩
      have F76 : Hid (tx (bs ++ bs) ++ ⟨#[7]⟩ = tx (bs ++ [bs, [], [7]].flatten) ∧ (tx (bs ++ bs)).size + (⟨#[7]⟩ : ByteArray).size ≤ 9223372036854775807) := hide ⟨by rw [show (⟨#[7]⟩ : ByteArray) = tx [7] by rfl, tx_append]; simp, by rw [tx_size, List.length_append]; show bs.length + bs.length + 1 ≤ _; omega⟩
      clear hO6 hb6 HO5 HF Hb5 e8
      generalize bs ++ textsL ss = XL at *
      generalize bs ++ fixedL 9 8 = YL at *
      go_wp2_with fail
      refine Free.wp_region_owes (VM (V15 v5 v6 (.slice ab lenb capb) XL YL bs)) (fun w' => Below w6.heap.size w6 w') (by kernel_rfl) (by kernel_rfl) V15.stable (Below.drew (Below.refl _ _)) ⟨?_, ?_, ?_, ?_, ?_, ?_, ?_, ?_, ?_, ?_, ?_, ?_, ?_, ?_, ?_, ?_, ?_, ?_, ?_, ?_, ?_, ?_, ?_, ?_, ?_, ?_, ?_, trivial⟩ ?_
      · exact Free.owed_move (Free.goes_plain rfl) (.inl rfl) fun a w' _ hs hd => (hs 11 (by kernel_rfl))
      · exact Free.owed_pure (Free.goes_plain rfl) fun a w' hC hs hd => ⟨_, op_text rfl (hd 0 52 (by kernel_rfl)) ((unhide RX).below hC), rfl⟩
      · exact Free.owed_move (Free.goes_plain rfl) (.inl rfl) fun a w' _ hs hd => (hs 8 (by kernel_rfl))
      · exact Free.owed_pure (Free.goes_plain rfl) fun a w' hC hs hd => ⟨_, op_neq9 rfl (hd 1 53 (by kernel_rfl)) (hd 2 54 (by kernel_rfl)) (by simp) w', rfl⟩
      · exact Free.owed_move (Free.goes_plain rfl) (.inl rfl) fun a w' _ hs hd => (hd 3 55 (by kernel_rfl))
      · exact Free.owed_move (Free.goes_guard false rfl rfl rfl (by kernel_rfl) fun _ _ h => h) (.inl rfl) fun a w' _ hs hd => (hs 12 (by kernel_rfl))
      · exact Free.owed_pure (Free.goes_guard false rfl rfl rfl (by kernel_rfl) fun _ _ h => h) fun a w' hC hs hd => ⟨_, op_text rfl (hd 5 57 (by kernel_rfl)) ((unhide RY).below hC), rfl⟩
      · exact Free.owed_move (Free.goes_guard false rfl rfl rfl (by kernel_rfl) fun _ _ h => h) (.inl rfl) fun a w' _ hs hd => (hs 0 (by kernel_rfl))
      · exact Free.owed_pure (Free.goes_guard false rfl rfl rfl (by kernel_rfl) fun _ _ h => h) fun a w' hC hs hd => ⟨_, op_text rfl (hd 7 59 (by kernel_rfl)) ((unhide RB).below hC), rfl⟩
      · exact Free.owed_pure (Free.goes_guard false rfl rfl rfl (by kernel_rfl) fun _ _ h => h) fun a w' hC hs hd => ⟨_, op_add9 rfl (hd 8 60 (by kernel_rfl)) rfl (unhide F61).1 (unhide F61).2 w', rfl⟩
      · exact Free.owed_pure (Free.goes_guard false rfl rfl rfl (by kernel_rfl) fun _ _ h => h) fun a w' hC hs hd => ⟨_, op_neq9 rfl (hd 6 58 (by kernel_rfl)) (hd 9 61 (by kernel_rfl)) (by simp) w', rfl⟩
      · exact Free.owed_pure (Free.goes_plain rfl) fun a w' hC hs hd => ⟨_, op_pickF rfl (hd 4 56 (by kernel_rfl)) (hd 10 62 (by kernel_rfl)) w', rfl⟩
      · exact Free.owed_move (Free.goes_plain rfl) (.inl rfl) fun a w' _ hs hd => (hd 11 63 (by kernel_rfl))
      · exact Free.owed_move (Free.goes_guard false rfl rfl rfl (by kernel_rfl) fun _ _ h => h) (.inl rfl) fun a w' _ hs hd => (hs 0 (by kernel_rfl))
      · exact Free.owed_move (Free.goes_guard false rfl rfl rfl (by kernel_rfl) fun _ _ h => h) (.inl rfl) fun a w' _ hs hd => (hs 0 (by kernel_rfl))
      · exact Free.owed_made (Shows [7]) (Free.goes_guard false rfl rfl rfl (by kernel_rfl) fun _ _ h => h) (fun _ _ hC hb => hC.trans (hb.mono hC.size)) (fun _ _ h => h) fun a w' hC hs hd => op_build1 (c := 7) rfl rfl w'
      · exact Free.owed_made (ShowsAll 3 [bs, [], [7]]) (Free.goes_guard false rfl rfl rfl (by kernel_rfl) fun _ _ h => h) (fun _ _ hC hb => hC.trans (hb.mono hC.size)) (fun _ _ h => h) fun a w' hC hs hd =>
          op_build3 (w := w') rfl (hd 14 66 (by kernel_rfl)) rfl rfl ((((unhide RB).below hC).up hC.size) : Shows bs (Value.slice ab lenb capb) w') (RowV.nil _ _) (hd 15 67 (by kernel_rfl))
      · refine Free.owed_call (Free.goes_guard false rfl rfl rfl (by kernel_rfl) fun _ _ h => h) fun a w' hC hs hd => ?_
        obtain ⟨ap, ep, hp⟩ : ShowsAll 3 [bs, [], [7]] _ w' := hd 16 68 (by kernel_rfl)
        refine ⟨17, _, op_call17 rfl (hd 13 65 (by kernel_rfl)) ep rfl w', (raw_walk w'.heap.size (Value.slice ab lenb capb) bs ap 3 3 _ w' (Nat.le_refl _) (((unhide RB).below hC).up hC.size) hp (by omega) (fun p hp' => by simp at hp'; rcases hp' with rfl | rfl | rfl <;> first | omega | simp) (by decide)).mono ?_⟩
        rintro e w7 ⟨v7, rfl, hO7, hb7⟩
        exact ⟨_, rfl, hb7, hC.trans (hb7.mono hC.size), hO7.row (by simp; omega)⟩
      · exact Free.owed_pure (Free.goes_guard false rfl rfl rfl (by kernel_rfl) fun _ _ h => h) fun a w' hC hs hd => ⟨_, op_text rfl rfl (hd 17 69 (by kernel_rfl)), rfl⟩
      · exact Free.owed_move (Free.goes_guard false rfl rfl rfl (by kernel_rfl) fun _ _ h => h) (.inl rfl) fun a w' _ hs hd => (hs 0 (by kernel_rfl))
      · exact Free.owed_pure (Free.goes_guard false rfl rfl rfl (by kernel_rfl) fun _ _ h => h) fun a w' hC hs hd => ⟨_, op_text rfl (hd 19 71 (by kernel_rfl)) ((unhide RB).below hC), rfl⟩
      · exact Free.owed_move (Free.goes_guard false rfl rfl rfl (by kernel_rfl) fun _ _ h => h) (.inl rfl) fun a w' _ hs hd => (hs 0 (by kernel_rfl))
      · exact Free.owed_pure (Free.goes_guard false rfl rfl rfl (by kernel_rfl) fun _ _ h => h) fun a w' hC hs hd => ⟨_, op_text rfl (hd 21 73 (by kernel_rfl)) ((unhide RB).below hC), rfl⟩
      · exact Free.owed_pure (Free.goes_guard false rfl rfl rfl (by kernel_rfl) fun _ _ h => h) fun a w' hC hs hd => ⟨_, op_add9 rfl (hd 20 72 (by kernel_rfl)) (hd 22 74 (by kernel_rfl)) (unhide F75).1 (unhide F75).2 w', rfl⟩
      · exact Free.owed_pure (Free.goes_guard false rfl rfl rfl (by kernel_rfl) fun _ _ h => h) fun a w' hC hs hd => ⟨_, op_add9 rfl (hd 23 75 (by kernel_rfl)) rfl (unhide F76).1 (unhide F76).2 w', rfl⟩
      · exact Free.owed_pure (Free.goes_guard false rfl rfl rfl (by kernel_rfl) fun _ _ h => h) fun a w' hC hs hd => ⟨_, op_neq9 rfl (hd 18 70 (by kernel_rfl)) (hd 24 76 (by kernel_rfl)) (by simp) w', rfl⟩
      · exact Free.owed_pure (Free.goes_plain rfl) fun a w' hC hs hd => ⟨_, op_pickF rfl (hd 12 64 (by kernel_rfl)) (hd 25 77 (by kernel_rfl)) w', rfl⟩

      intro w7 hC vals hv
      have e26 : vals 26 = .bool false := hv 26 _ 78 rfl rfl
      clear hv F61 F75 F76 RX RY
      simp only [Free.putAll, Act.put, List.setIfInBounds_toArray, List.set_cons_succ, List.set_cons_zero, e26]
      have Hb7 := hide ((unhide Hb6).trans (hC.mono (unhide Hb6).size))
      clear hC e26 Hb6 RB
      go_wp2_with fail
      go_loopw [13] (fun ci wq => ∃ m : Int, -1 ≤ m ∧ m ≤ 10 ∧ ci = .int .i64 m ∧ Below w.heap.size w wq) (fun ci _ => (10 - intOf ci).toNat)
      case atStart => exact ⟨-1, by omega, by omega, rfl, unhide Hb7⟩
      case round =>
        clear Hb7
        obtain ⟨m, hm1, hm2, rfl, hb⟩ := hrel
        have Hb := hide hb
        clear hb
        by_cases h9 : m ≤ 9
        · have RB := hide (((unhide HB).below (unhide Hb)).up (unhide Hb).size)
          have hm8 := sizeN_le m
          have F94 : Hid (tx bs ++ tx (fixedL n (sizeN m)) = tx (bs ++ fixedL n (sizeN m)) ∧ (tx bs).size + (tx (fixedL n (sizeN m))).size ≤ 9223372036854775807) := hide ⟨tx_append _ _, by rw [tx_size, tx_size, fixedL_length]; omega⟩
          go_wp2_with fail
          refine Free.wp_region_owes (VM (V20 (.slice ab lenb capb) n m bs)) (fun w' => Below wr.heap.size wr w') (by kernel_rfl) (by kernel_rfl) V20.stable (Below.drew (Below.refl _ _)) ⟨?_, ?_, ?_, ?_, ?_, ?_, ?_, ?_, ?_, ?_, ?_, ?_, ?_, trivial⟩ ?_
          · exact Free.owed_move (Free.goes_plain rfl) (.inl rfl) fun a w' _ hs hd => (hs 0 (by kernel_rfl))
          · exact Free.owed_move (Free.goes_plain rfl) (.inl rfl) fun a w' _ hs hd => (hs 1 (by kernel_rfl))
          · exact Free.owed_move (Free.goes_plain rfl) (.inl rfl) fun a w' _ hs hd => (hs 13 (by kernel_rfl))
          · refine Free.owed_call (Free.goes_plain rfl) fun a w' hC hs hd => ?_
            refine ⟨16, _, op_call16 rfl (hd 0 83 (by kernel_rfl)) (hd 1 84 (by kernel_rfl)) (hd 2 85 (by kernel_rfl)) rfl w', (fixed_walk w'.heap.size (Value.slice ab lenb capb) bs n hn m w' (Nat.le_refl _) (((unhide RB).below hC).up hC.size) (by omega)).mono ?_⟩
            rintro e w7 ⟨v7, rfl, hO7, hb7⟩
            exact ⟨_, rfl, hb7, hC.trans (hb7.mono hC.size), hO7.row (by rw [List.length_append, fixedL_length]; have := sizeN_le m; omega)⟩
          · exact Free.owed_pure (Free.goes_plain rfl) fun a w' hC hs hd => ⟨_, op_text rfl rfl (hd 3 86 (by kernel_rfl)), rfl⟩
          · exact Free.owed_move (Free.goes_plain rfl) (.inl rfl) fun a w' _ hs hd => (hs 0 (by kernel_rfl))
          · exact Free.owed_pure (Free.goes_plain rfl) fun a w' hC hs hd => ⟨_, op_text rfl (hd 5 88 (by kernel_rfl)) ((unhide RB).below hC), rfl⟩
          · exact Free.owed_move (Free.goes_plain rfl) (.inl rfl) fun a w' _ hs hd => (hs 1 (by kernel_rfl))
          · exact Free.owed_move (Free.goes_plain rfl) (.inl rfl) fun a w' _ hs hd => (hs 13 (by kernel_rfl))
          · refine Free.owed_call (Free.goes_plain rfl) fun a w' hC hs hd => ?_
            refine ⟨18, _, op_call18 rfl (hd 7 90 (by kernel_rfl)) (hd 8 91 (by kernel_rfl)) rfl w', (rfix_walk n hn m w').mono ?_⟩
            rintro e w7 ⟨v7, rfl, hO7, hb7⟩
            exact ⟨_, rfl, hb7, hC.trans (hb7.mono hC.size), hO7.row (by rw [fixedL_length]; have := sizeN_le m; omega)⟩
          · exact Free.owed_pure (Free.goes_plain rfl) fun a w' hC hs hd => ⟨_, op_text rfl rfl (hd 9 92 (by kernel_rfl)), rfl⟩
          · exact Free.owed_pure (Free.goes_plain rfl) fun a w' hC hs hd => ⟨_, op_add9 rfl (hd 6 89 (by kernel_rfl)) (hd 10 93 (by kernel_rfl)) (unhide F94).1 (unhide F94).2 w', rfl⟩
          · exact Free.owed_pure (Free.goes_plain rfl) fun a w' hC hs hd => ⟨_, op_neq9 rfl (hd 4 87 (by kernel_rfl)) (hd 11 94 (by kernel_rfl)) (by simp) w', rfl⟩

          intro w8 hC vals hv
          have e12 : vals 12 = .bool false := hv 12 _ 95 rfl rfl
          clear hv F94 RB
          simp only [Free.putAll, Act.put, List.setIfInBounds_toArray, List.set_cons_succ, List.set_cons_zero, e12]
          have Hb8 := hide ((unhide Hb).trans (hC.mono (unhide Hb).size))
          clear hC e12 Hb
          go_wp2
          go_roundw
          case rel => exact ⟨m + 1, by omega, by omega, by go_num, unhide Hb8⟩
          case measure => simp [intOf]; omega
        · go_wp2
          go_ret
          exact ⟨rfl, unhide Hb⟩

set_option maxHeartbeats 800000 in
set_option maxRecDepth 100000 in
theorem walk (a0 : Option Addr) (len0 cap0 : Nat) (a1 : Int) (a2 : Option Addr) (len2 cap2 : Nat) (w : World) (w0 : Bytes w a0 len0 cap0) (w1 : (Lit.int .u64 a1).wf = true) (w2 : Texts w a2 len2) :
    Calls Try.prog 4 #[.slice a0 len0 cap0, .int .u64 a1, .slice a2 len2 cap2] w fun e w' => e = .returned (.bool true) ∧ Below w.heap.size w w' := by
  obtain ⟨n, rfl, hn⟩ := wf_u64 w1
  obtain ⟨hlen, ss, hS, hM⟩ := w2
  obtain ⟨hlc, hcm, hrow⟩ := w0
  by_cases hc : len0 ≤ 300 ∧ len2 ≤ 10
  · obtain ⟨bs, hbl, hB⟩ := hrow (by omega)
    exact main n hn a0 len0 cap0 bs hc.1 a2 len2 cap2 ss hc.2 w hbl hB hS hM
  · have hL : len2 ≤ 9223372036854775807 := hlen
    have hL0 : len0 ≤ 9223372036854775807 := Nat.le_trans hlc hcm
    clear hS hM w1 hlen hrow
    have hA := hide (alive_walk w)
    by_cases h1 : 300 < len0
    · go_enter Try.func4, Try.ntmps4
      go_wp2_with fail
      refine (unhide hA).mono ?_
      rintro e w1 ⟨rfl, hb1⟩
      go_wp2_with fail
      go_ret
      exact ⟨rfl, hb1⟩
    · have h3 : 10 < len2 := by omega
      clear hc
      go_enter Try.func4, Try.ntmps4
      go_wp2_with fail
      refine (unhide hA).mono ?_
      rintro e w1 ⟨rfl, hb1⟩
      go_wp2_with fail
      go_ret
      exact ⟨rfl, hb1⟩
end Go.Proofs.Ytpejbpmdfbdphaa.codeWrites
