/-
  What frame.Size, bootjackref08.Size and frame.rowOf answer.
-/
import Derived.Test.YtjebejdcjfnleaaFMath
import Derived.Test.YtjebejdcjfnleaaCReader
import Derived.Test.YtjebejdcjfnleaaKSum
import Derived.Lib.SlBytesConst
namespace Go.Proofs.Ytjebejdcjfnleaa
open Go.RowKit

set_option maxHeartbeats 800000 in
set_option maxRecDepth 100000 in
theorem size_walk8 (n : Int) (w : World) : Calls Try.prog 24 #[.int .i64 n] w fun e w' => e = .returned (.int .i64 (sizeF n : Int)) ∧ w' = w := by
  by_cases h1 : n < 0
  · have HS : Hid (sizeF n = 0) := hide (by unfold sizeF; rw [if_pos (.inl h1)])
    go_enter Try.func24, Try.ntmps24
    go_wp2
    go_ret
    exact ⟨by rw [unhide HS]; rfl, rfl⟩
  · by_cases h2 : 4000 < n
    · have HS : Hid (sizeF n = 0) := hide (by unfold sizeF; rw [if_pos (.inr h2)])
      go_enter Try.func24, Try.ntmps24
      go_wp2
      go_ret
      exact ⟨by rw [unhide HS]; rfl, rfl⟩
    · obtain ⟨m, rfl⟩ : ∃ m : Nat, n = (m : Int) := ⟨n.toNat, by omega⟩
      have hm : m ≤ 4000 := by omega
      have HS := hide (sizeF_pos hm)
      go_enter Try.func24, Try.ntmps24
      go_wp2
      go_ret
      refine ⟨?_, rfl⟩
      rw [unhide HS]
      show Ending.returned (Value.int IntKind.i64 ((13 + (m : Int) + 4 + 63 - 1) / 63)) = _
      congr 2
      omega

/-- A slice of bytes as crc.Sum's walk has it. -/
theorem bv_getD (l : List UInt8) (i : Nat) : ((bv l).getD i 0).toNat = (l.getD i 0).toNat := by
  unfold bv
  rw [List.getD_eq_getElem?_getD, List.getElem?_map, List.getD_eq_getElem?_getD]
  cases l[i]? with
  | none => rfl
  | some c => rfl
theorem crow {N : Nat} {w : World} {a : Option Addr} {len : Nat} {l : List UInt8} (h : Row N w a len l) : CRow w a len (bv l) := by
  refine ⟨by rw [bv, List.length_map]; exact h.1, h.2.1, fun i hi => ?_⟩
  obtain ⟨b, off, ha, _, hc⟩ := h.2.2 i hi
  exact ⟨b, off, ha, by rw [bv_getD]; exact hc⟩
theorem csum_walk (N : Nat) (v : Value) (l : List UInt8) (w : World) (hN : N ≤ w.heap.size) (hr : RowV N w v l) :
    Calls Try.prog 52 #[.slice (some ⟨w.heap.size, 0, none⟩) 1 1] (w.alloc (.cells #[v] 32)) fun e w2 => e = .returned (.int .u32 ((crcN l : Nat) : Int)) ∧ w2 = w.alloc (.cells #[v] 32) := by
  have hr2 := hr.below (((Below.refl _ w).alloc (Nat.le_refl _) (.cells #[v] 32)).mono hN)
  obtain ⟨a, len, cap, rfl, h1, h2, h3, hrow⟩ := hr2
  have hP : CParts (w.alloc (.cells #[.slice a len cap] 32)) (some ⟨w.heap.size, 0, none⟩) 1 [bv l] := ⟨rfl, by decide, fun i hi => by
    obtain rfl : i = 0 := by omega
    exact ⟨w.heap.size, 0, a, len, cap, rfl, by rw [cell_fresh]; rfl, crow hrow⟩⟩
  refine (sum_any _ 1 1 _ _ hP).mono ?_
  rintro e w2 ⟨rfl, rfl⟩
  refine ⟨?_, rfl⟩
  rw [List.flatten_singleton]
  rfl

theorem cell_marked (w : World) (C : Array Value) (e : TypeId) (fz : Nat × Nat) (i : Nat) : (w.alloc (.cells C e fz)).cell? ⟨w.heap.size, i, none⟩ = C[i]? :=
  cell_of_row _ _ _ C e _ (heap_alloc_new w _)
theorem bj_bytes (w : World) : RowV (w.heap.size + 1) (w.alloc (.cells #[.int .u8 66, .int .u8 74] 5 (2, 3))) (.slice (some ⟨w.heap.size, 0, none⟩) 2 2) [66, 74] := by
  refine ⟨_, _, _, rfl, Nat.le_refl _, by decide, by simp, rfl, by decide, fun i hi => ⟨w.heap.size, 0, rfl, by omega, ?_⟩⟩
  rw [Nat.zero_add, cell_marked]
  match i, hi with
  | 0, _ => rfl
  | 1, _ => rfl
theorem one_part (w : World) {N : Nat} {v : Value} {l : List UInt8} (hN : N ≤ w.heap.size) (hr : RowV N w v l) : Parts (w.heap.size + 1) (w.alloc (.cells #[v] 32)) (some ⟨w.heap.size, 0, none⟩) 1 [l] :=
  ⟨rfl, fun i hi => by
    obtain rfl : i = 0 := by omega
    exact ⟨w.heap.size, 0, v, rfl, by omega, by rw [cell_fresh]; rfl, (hr.below (((Below.refl _ w).alloc (Nat.le_refl _) (.cells #[v] 32)).mono hN)).up (by omega)⟩⟩

set_option maxHeartbeats 1600000 in
set_option maxRecDepth 100000 in
theorem rowOf_walk (N : Nat) (k : UInt8) (s : Nat) (hs : s < 18446744073709551616) (v : Value) (b : List UInt8) (w : World) (hN : N ≤ w.heap.size) (hr : RowV N w v b) (hb : b.length ≤ 4000) :
    Calls Try.prog 38 #[.int .u8 ((k.toNat : Nat) : Int), .int .u64 (s : Int), v] w fun e w' => ∃ v', e = .returned v' ∧ Own w.heap.size w' v' (rowF k s b) ∧ Below w.heap.size w w' := by
  have hk := k.toNat_lt
  have HR := hide hr
  have H1 := hide (fixed_walk (w.heap.size + 1) _ [66, 74] k.toNat (by omega) 1 _ (by simp) (bj_bytes w) (by simp))
  obtain ⟨ba, blen, bcap, rfl, q1, q2, q3, hrow⟩ := hr
  have hbl : b.length = blen := hrow.1
  have hbl4 : blen ≤ 4000 := by omega
  have HBL := hide hbl
  clear hrow hb hbl
  have kc := fun (w : World) (C : Array Value) (n c : Nat) => Lib.run_convert_bytes_const (P := Try.prog) w 32 5 C n c Try.underlying32 Try.underlying5
  go_enter Try.func38, Try.ntmps38
  go_wp2_with fail
  refine (unhide H1).mono ?_
  rintro e w1 ⟨v1, rfl, hO1, hb1⟩
  have Hb1 : Hid (Below w.heap.size w w1) := hide (((Below.refl _ w).alloc (Nat.le_refl _) _).trans (hb1.mono (by simp)))
  have hl1 : ([66, 74] ++ fixedL k.toNat (sizeN 1)).length = 3 := by rw [List.length_append, fixedL_length]; rfl
  have H2 := hide (fixed_walk w1.heap.size v1 _ s hs 8 w1 (Nat.le_refl _) (hO1.row (by rw [hl1]; omega)) (by rw [hl1]; omega))
  clear hO1 hb1 H1
  go_wp2_with fail
  refine (unhide H2).mono ?_
  rintro e w2 ⟨v2, rfl, hO2, hb2⟩
  have Hb2 : Hid (Below w.heap.size w w2) := hide ((unhide Hb1).trans (hb2.mono (unhide Hb1).size))
  have hl2 : ([66, 74] ++ fixedL k.toNat (sizeN 1) ++ fixedL s (sizeN 8)).length = 11 := by rw [List.length_append, hl1, fixedL_length]; rfl
  have H3 := hide (fixed_walk w2.heap.size v2 _ blen (by omega) 2 w2 (Nat.le_refl _) (hO2.row (by rw [hl2]; omega)) (by rw [hl2]; omega))
  clear hO2 hb2 H2 Hb1
  go_wp2_with fail
  refine (unhide H3).mono ?_
  rintro e w3 ⟨v3, rfl, hO3, hb3⟩
  have Hb3 : Hid (Below w.heap.size w w3) := hide ((unhide Hb2).trans (hb3.mono (unhide Hb2).size))
  have hl3 : ([66, 74] ++ fixedL k.toNat (sizeN 1) ++ fixedL s (sizeN 8) ++ fixedL blen (sizeN 2)).length = 13 := by rw [List.length_append, hl2, fixedL_length]; rfl
  have hR3 := (unhide HR).below ((unhide Hb3).mono hN)
  have hr3 := hO3.row (by rw [hl3]; omega)
  have H4 := hide (raw_walk (w3.heap.size + 1) v3 _ _ 1 1 [b] (w3.alloc (.cells #[.slice ba blen bcap] 32)) (by simp) ((hr3.below ((Below.refl _ w3).alloc (Nat.le_refl _) _)).up (by omega)) (one_part w3 (Nat.le_trans hN (unhide Hb3).size) hR3) (by rw [hl3]; omega) (fun p hp => by obtain rfl := List.mem_singleton.1 hp; rw [unhide HBL]; omega) (by omega))
  clear hO3 hb3 H3 Hb2 hR3 hr3
  have HE : Hid ([66, 74] ++ fixedL k.toNat (sizeN 1) ++ fixedL s (sizeN 8) ++ fixedL blen (sizeN 2) ++ [b].flatten = headF k s b) := hide (by
    unfold headF h13
    rw [unhide HBL, List.flatten_singleton]
    simp only [List.append_assoc]
    rfl)
  go_wp2_with fail
  refine (unhide H4).mono ?_
  rintro e w4 ⟨v4, rfl, hO4, hb4⟩
  rw [unhide HE] at hO4
  have Hb4 : Hid (Below w.heap.size w w4) := hide ((unhide Hb3).trans ((((Below.refl _ w3).alloc (Nat.le_refl _) _).trans (hb4.mono (by simp))).mono (unhide Hb3).size))
  have hl4 : (headF k s b).length = 13 + blen := by rw [headF_length, unhide HBL]
  have hr4 := hO4.row (by rw [hl4]; omega)
  have H5 := hide (csum_walk w4.heap.size v4 _ w4 (Nat.le_refl _) hr4)
  have H6 := hide (fixed_walk w4.heap.size v4 (headF k s b) (crcN (headF k s b)) (Nat.lt_trans (crcN_lt _) (by decide)) 4 (w4.alloc (.cells #[v4] 32)) (by simp) (hr4.below ((Below.refl _ w4).alloc (Nat.le_refl _) _)) (by rw [hl4]; omega))
  have hc := crcN_lt (headF k s b)
  have HROW : Hid (headF k s b ++ fixedL (crcN (headF k s b)) (sizeN 4) = rowF k s b) := hide rfl
  have hr4' := hr4
  obtain ⟨a4, l4, c4, rfl, _⟩ := hr4'
  clear hO4 hb4 H4 Hb3 hr4 HE hl1 hl2 hl3
  generalize crcN (headF k s b) = cc at *
  go_wp2_with fail
  refine (unhide H5).mono ?_
  rintro e w5 ⟨rfl, hw5⟩
  subst w5
  go_wp2_with fail
  refine (unhide H6).mono ?_
  rintro e w6 ⟨v6, rfl, hO6, hb6⟩
  rw [unhide HROW] at hO6
  have HO6 := hide hO6
  have HW : Hid (Below w.heap.size w w6) := hide ((unhide Hb4).trans ((((Below.refl _ w4).alloc (Nat.le_refl _) _).trans (hb6.mono (by simp))).mono (unhide Hb4).size))
  have HSZ : Hid (w.heap.size ≤ (w4.alloc (.cells #[.slice a4 l4 c4] 32)).heap.size) := hide (by have := (unhide Hb4).size; simp; omega)
  clear hO6 hb6 H5 H6
  go_wp2_with fail
  go_ret
  exact ⟨_, rfl, (unhide HO6).lower (unhide HSZ), unhide HW⟩
end Go.Proofs.Ytjebejdcjfnleaa
