/-
  What crc.step, crc.More and crc.Sum answer, for every argument: the plain functions of YtdfdalkcljfghaaGreatMath. They change no memory. What crc.More and crc.Sum answer, for every argument. They change no memory. What frame.Size, bootjackref08.Size and frame.rowOf answer.
-/
import Derived.Test.YtdfdalkcljfghaaGreatOwn
import Derived.Test.YtdfdalkcljfghaaGreatFMath
import Derived.WalkKit
import Derived.WalkSpells
import Derived.WalkLawsBesides
import Derived.Test.YtdfdalkcljfghaaGreatCReader
import Derived.Lib.SlBytesConst
namespace Go.Proofs.YtdfdalkcljfghaaGreat
open Go.RowKit

/-- A number of 32 bits, as the walk has it. -/
def N32 (x : BitVec 32) : Int := (x.toNat : Int)

theorem N32_lo (x : BitVec 32) : 0 ≤ N32 x := by unfold N32; omega
theorem N32_hi (x : BitVec 32) : N32 x < 4294967296 := by unfold N32; have := x.isLt; omega

theorem ofInt_N32 (x : BitVec 32) : BitVec.ofInt 32 (N32 x) = x := by
  unfold N32; simp

theorem bits_xor32 (a b : BitVec 32) : bits .xor .u32 (N32 a) (N32 b) = N32 (a ^^^ b) := by
  show IntKind.u32.wrap ((BitVec.ofInt 32 (N32 a) ^^^ BitVec.ofInt 32 (N32 b)).toNat : Int) = _
  rw [ofInt_N32, ofInt_N32, IntKind.wrap_u32']
  have := (a ^^^ b).isLt
  unfold N32
  omega

theorem N32_byte (c : BitVec 8) : ((c.toNat : Nat) : Int) = N32 (c.setWidth 32) := by
  unfold N32
  rw [BitVec.toNat_setWidth, Nat.mod_eq_of_lt (by have := c.isLt; omega)]

theorem N32_poly : N32 Crc.poly = 3988292384 := by decide

theorem N32_shr (x : BitVec 32) : N32 x / (2 : Int) = N32 (x >>> (1 : Nat)) := by
  unfold N32
  rw [BitVec.toNat_ushiftRight, Nat.shiftRight_eq_div_pow]
  simp

theorem and_one (x : BitVec 32) : bits .and .u32 (N32 x) 1 = if x.getLsbD 0 then 1 else 0 := by
  have h := u32_and (N32 x) 1 (N32_lo x) (N32_hi x) (by decide) (by decide)
  rw [h]
  have e : (N32 x).toNat = x.toNat := by unfold N32; exact Int.toNat_natCast _
  rw [e, show (1 : Int).toNat = 1 from rfl, nat_mask1]
  have g : x.getLsbD 0 = decide (x.toNat % 2 = 1) := by
    rw [BitVec.getLsbD, Nat.testBit_zero]
  rw [g]
  have : x.toNat % 2 = 0 ∨ x.toNat % 2 = 1 := by omega
  rcases this with h | h <;> simp [h]

theorem step_any (r : BitVec 32) (c : BitVec 8) (w : World) :
    Calls Tryz.prog 165 #[.int .u32 (N32 r), .int .u8 (c.toNat : Int)] w fun e w' => e = .returned (.int .u32 (N32 (Crc.step r c))) ∧ w' = w := by
  have hx : bits BinOp.xor IntKind.u32 (N32 r) (c.toNat : Int) = N32 (r ^^^ c.setWidth 32) := by rw [N32_byte, bits_xor32]
  go_enter Tryz.func165, Tryz.ntmps165
  go_wp2
  go_loop [0, 10] (fun g i => ∃ k : Nat, k ≤ 8 ∧ i = .int .i64 k ∧ g = .int .u32 (N32 (Crc.iter k (r ^^^ c.setWidth 32)))) (fun _ i => 8 - (intOf i).toNat)
  case atStart => exact ⟨0, by omega, rfl, rfl⟩
  case round =>
    obtain ⟨k, hk, rfl, rfl⟩ := hrel
    clear hx
    have hs : Crc.iter (k + 1) (r ^^^ c.setWidth 32) = Crc.bit (Crc.iter k (r ^^^ c.setWidth 32)) := rfl
    have Hs : Hid (Crc.iter (k + 1) (r ^^^ c.setWidth 32) = Crc.bit (Crc.iter k (r ^^^ c.setWidth 32))) := hs
    clear hs
    generalize hx : Crc.iter k (r ^^^ c.setWidth 32) = x at *
    have h1 := and_one x
    have h2 := N32_shr x
    have h3 : bits BinOp.xor IntKind.u32 (N32 (x >>> 1)) 3988292384 = N32 ((x >>> 1) ^^^ Crc.poly) := by rw [← N32_poly, bits_xor32]
    by_cases hlt : k < 8
    · cases hb : x.getLsbD 0
      · rw [hb] at h1
        have hbit : Crc.bit x = x >>> 1 := by unfold Crc.bit; rw [hb]; rfl
        have Hb := hide hbit
        have Hx := hide hx
        clear hb hbit hx h3
        simp only [Bool.false_eq_true, if_false] at h1
        go_wp2
        go_round
        case rel => exact ⟨k + 1, by omega, by go_num, by rw [Hs.out, unhide Hb]⟩
        case measure => simp [intOf]; omega
      · rw [hb] at h1
        have hbit : Crc.bit x = (x >>> 1) ^^^ Crc.poly := by unfold Crc.bit; rw [hb]; rfl
        have Hb := hide hbit
        have Hx := hide hx
        clear hb hbit hx
        simp only [if_true] at h1
        go_wp2
        go_round
        case rel => exact ⟨k + 1, by omega, by go_num, by rw [Hs.out, unhide Hb]⟩
        case measure => simp [intOf]; omega
    · have Hx := hide hx
      clear hx h1 h2 h3
      go_wp2
      go_ret
      have : k = 8 := by omega
      subst this
      refine ⟨?_, rfl⟩
      rw [← unhide Hx]; rfl

end Go.Proofs.YtdfdalkcljfghaaGreat

namespace Go.Proofs.YtdfdalkcljfghaaGreat
open Go.RowKit

/-- A slice of bytes: its length is the list's; its cells hold the list's bytes. -/
def CRow (w : World) (a : Option Addr) (len : Nat) (bs : List (BitVec 8)) : Prop :=
  bs.length = len ∧ len ≤ 140737488351232 ∧ ∀ i, i < len → ∃ b off, a = some ⟨b, off, none⟩ ∧ w.cell? ⟨b, off + i, none⟩ = some (.int .u8 (((bs.getD i 0).toNat : Nat) : Int))

theorem ctake_snoc (bs : List (BitVec 8)) (k : Nat) (h : k < bs.length) : bs.take (k + 1) = bs.take k ++ [bs.getD k 0] := by
  rw [List.take_succ_eq_append_getElem h, List.getD_eq_getElem?_getD, List.getElem?_eq_getElem h]
  rfl

theorem not_N32 (x : BitVec 32) : bits .xor .u32 IntKind.u32.max (N32 x) = N32 (~~~ x) := by
  have h : IntKind.u32.max = N32 (BitVec.allOnes 32) := by decide
  rw [h, bits_xor32, BitVec.allOnes_xor]

theorem more_any (s : BitVec 32) (a : Option Addr) (len cap : Nat) (bs : List (BitVec 8)) (w : World) (hr : CRow w a len bs) :
    Calls Tryz.prog 160 #[.int .u32 (N32 s), .slice a len cap] w fun e w' => e = .returned (.int .u32 (N32 (Crc.more s bs))) ∧ w' = w := by
  obtain ⟨hl, hm, hc⟩ := hr
  have hn := not_N32 s
  go_enter Tryz.func160, Tryz.ntmps160
  go_wp2
  go_loop [5, 12] (fun g i => ∃ k : Nat, k ≤ len ∧ i = .int .i64 k ∧ g = .int .u32 (N32 (Crc.run (~~~ s) (bs.take k)))) (fun _ i => len - (intOf i).toNat)
  case atStart => exact ⟨0, by omega, rfl, rfl⟩
  case round =>
    obtain ⟨k, hk, rfl, rfl⟩ := hrel
    clear hn
    by_cases hlt : k < len
    · obtain ⟨b, off, rfl, hcell⟩ := hc k hlt
      have hts := ctake_snoc bs k (by omega)
      have Hs : Hid (Crc.run (~~~ s) (bs.take (k + 1)) = Crc.step (Crc.run (~~~ s) (bs.take k)) (bs.getD k 0)) := by
        show Crc.run (~~~ s) (bs.take (k + 1)) = _
        rw [hts, Crc.run_append]; rfl
      clear hts hc
      generalize bs.getD k 0 = c at *
      generalize Crc.run (~~~ s) (bs.take k) = x at *
      go_wp2_with (go_at_call 165; refine (step_any _ _ _).mono ?_; rintro e w' ⟨rfl, rfl⟩)
      go_round
      case rel => exact ⟨k + 1, by omega, by go_num, by rw [Hs.out]⟩
      case measure => simp [intOf]; omega
    · have hk' : k = len := by omega
      have e : bs.take k = bs := List.take_of_length_le (by omega)
      rw [e]
      have hn := not_N32 (Crc.run (~~~ s) bs)
      clear hc e
      go_wp2
      go_ret
      exact ⟨rfl, rfl⟩

/-- A slice of slices of bytes. -/
def CParts (w : World) (a : Option Addr) (n : Nat) (ps : List (List (BitVec 8))) : Prop :=
  ps.length = n ∧ n ≤ 140737488351232 ∧ ∀ i, i < n → ∃ b off ai li ci, a = some ⟨b, off, none⟩ ∧ w.cell? ⟨b, off + i, none⟩ = some (.slice ai li ci) ∧ CRow w ai li (ps.getD i [])

theorem ctake_snoc2 (ps : List (List (BitVec 8))) (k : Nat) (h : k < ps.length) : ps.take (k + 1) = ps.take k ++ [ps.getD k []] := by
  rw [List.take_succ_eq_append_getElem h, List.getD_eq_getElem?_getD, List.getElem?_eq_getElem h]
  rfl

theorem sum_any (a : Option Addr) (n cap : Nat) (ps : List (List (BitVec 8))) (w : World) (hr : CParts w a n ps) :
    Calls Tryz.prog 153 #[.slice a n cap] w fun e w' => e = .returned (.int .u32 (N32 (Crc.more 0#32 ps.flatten))) ∧ w' = w := by
  obtain ⟨hl, hm, hc⟩ := hr
  go_enter Tryz.func153, Tryz.ntmps153
  go_wp2
  go_loop [3, 8] (fun g i => ∃ k : Nat, k ≤ n ∧ i = .int .i64 k ∧ g = .int .u32 (N32 (Crc.more 0#32 (ps.take k).flatten))) (fun _ i => n - (intOf i).toNat)
  case atStart => exact ⟨0, by omega, rfl, by rw [List.take_zero, List.flatten_nil, Crc.more_nil]; rfl⟩
  case round =>
    obtain ⟨k, hk, rfl, rfl⟩ := hrel
    by_cases hlt : k < n
    · obtain ⟨b, off, ai, li, ci, rfl, hcell, hrow⟩ := hc k hlt
      have hts := ctake_snoc2 ps k (by omega)
      have Hs : Hid (Crc.more 0#32 (ps.take (k + 1)).flatten = Crc.more (Crc.more 0#32 (ps.take k).flatten) (ps.getD k [])) := by
        show Crc.more 0#32 (ps.take (k + 1)).flatten = _
        rw [hts, List.flatten_append, Crc.more_append]; simp
      clear hts hc
      have Hr := hide hrow
      clear hrow
      generalize ps.getD k [] = c at *
      generalize Crc.more 0#32 (ps.take k).flatten = x at *
      go_wp2_with (go_at_call 160; refine (more_any _ _ _ _ _ _ (unhide Hr)).mono ?_; rintro e w' ⟨rfl, rfl⟩)
      go_round
      case rel => exact ⟨k + 1, by omega, by go_num, by rw [Hs.out]⟩
      case measure => simp [intOf]; omega
    · have e : ps.take k = ps := List.take_of_length_le (by omega)
      rw [e]
      clear hc e
      go_wp2
      go_ret
      exact ⟨rfl, rfl⟩

end Go.Proofs.YtdfdalkcljfghaaGreat

namespace Go.Proofs.YtdfdalkcljfghaaGreat
open Go.RowKit

set_option maxHeartbeats 800000 in
set_option maxRecDepth 100000 in
theorem size_walk8 (n : Int) (w : World) : Calls Tryz.prog 125 #[.int .i64 n] w fun e w' => e = .returned (.int .i64 (sizeF n : Int)) ∧ w' = w := by
  by_cases h1 : n < 0
  · have HS : Hid (sizeF n = 0) := hide (by unfold sizeF; rw [if_pos (.inl h1)])
    go_enter Tryz.func125, Tryz.ntmps125
    go_wp2
    go_ret
    exact ⟨by rw [unhide HS]; rfl, rfl⟩
  · by_cases h2 : 4000 < n
    · have HS : Hid (sizeF n = 0) := hide (by unfold sizeF; rw [if_pos (.inr h2)])
      go_enter Tryz.func125, Tryz.ntmps125
      go_wp2
      go_ret
      exact ⟨by rw [unhide HS]; rfl, rfl⟩
    · obtain ⟨m, rfl⟩ : ∃ m : Nat, n = (m : Int) := ⟨n.toNat, by omega⟩
      have hm : m ≤ 4000 := by omega
      have HS := hide (sizeF_pos hm)
      go_enter Tryz.func125, Tryz.ntmps125
      go_wp2
      go_ret
      refine ⟨?_, rfl⟩
      rw [unhide HS]
      show Ending.returned (Value.int IntKind.i64 ((13 + (m : Int) + 4 + 63 - 1) / 63)) = _
      congr 2
      omega

/-- A slice of bytes as crc.Sum's walk has it. -/
theorem bv_getD (l : List UInt8) (i : Nat) : ((bv l).getD i 0).toNat = (l.getD i 0).toNat := by
  unfold bv
  rw [List.getD_eq_getElem?_getD, List.getElem?_map, List.getD_eq_getElem?_getD]
  cases l[i]? with
  | none => rfl
  | some c => rfl
theorem crow {N : Nat} {w : World} {a : Option Addr} {len : Nat} {l : List UInt8} (h : Row N w a len l) : CRow w a len (bv l) := by
  refine ⟨by rw [bv, List.length_map]; exact h.1, h.2.1, fun i hi => ?_⟩
  obtain ⟨b, off, ha, _, hc⟩ := h.2.2 i hi
  exact ⟨b, off, ha, by rw [bv_getD]; exact hc⟩
theorem csum_walk (N : Nat) (v : Value) (l : List UInt8) (w : World) (hN : N ≤ w.heap.size) (hr : RowV N w v l) :
    Calls Tryz.prog 153 #[.slice (some ⟨w.heap.size, 0, none⟩) 1 1] (w.alloc (.cells #[v] 46)) fun e w2 => e = .returned (.int .u32 ((crcN l : Nat) : Int)) ∧ w2 = w.alloc (.cells #[v] 46) := by
  have hr2 := hr.below (((Below.refl _ w).alloc (Nat.le_refl _) (.cells #[v] 46)).mono hN)
  obtain ⟨a, len, cap, rfl, h1, h2, h3, hrow⟩ := hr2
  have hP : CParts (w.alloc (.cells #[.slice a len cap] 46)) (some ⟨w.heap.size, 0, none⟩) 1 [bv l] := ⟨rfl, by decide, fun i hi => by
    obtain rfl : i = 0 := by omega
    exact ⟨w.heap.size, 0, a, len, cap, rfl, by rw [cell_fresh]; rfl, crow hrow⟩⟩
  refine (sum_any _ 1 1 _ _ hP).mono ?_
  rintro e w2 ⟨rfl, rfl⟩
  refine ⟨?_, rfl⟩
  rw [List.flatten_singleton]
  rfl

theorem cell_marked (w : World) (C : Array Value) (e : TypeId) (fz : Nat × Nat) (i : Nat) : (w.alloc (.cells C e fz)).cell? ⟨w.heap.size, i, none⟩ = C[i]? :=
  cell_of_row _ _ _ C e _ (heap_alloc_new w _)
theorem bj_bytes (w : World) : RowV (w.heap.size + 1) (w.alloc (.cells #[.int .u8 66, .int .u8 74] 5 (2, 3))) (.slice (some ⟨w.heap.size, 0, none⟩) 2 2) [66, 74] := by
  refine ⟨_, _, _, rfl, Nat.le_refl _, by decide, by simp, rfl, by decide, fun i hi => ⟨w.heap.size, 0, rfl, by omega, ?_⟩⟩
  rw [Nat.zero_add, cell_marked]
  match i, hi with
  | 0, _ => rfl
  | 1, _ => rfl
theorem one_part (w : World) {N : Nat} {v : Value} {l : List UInt8} (hN : N ≤ w.heap.size) (hr : RowV N w v l) : Parts (w.heap.size + 1) (w.alloc (.cells #[v] 46)) (some ⟨w.heap.size, 0, none⟩) 1 [l] :=
  ⟨rfl, fun i hi => by
    obtain rfl : i = 0 := by omega
    exact ⟨w.heap.size, 0, v, rfl, by omega, by rw [cell_fresh]; rfl, (hr.below (((Below.refl _ w).alloc (Nat.le_refl _) (.cells #[v] 46)).mono hN)).up (by omega)⟩⟩

set_option maxHeartbeats 1600000 in
set_option maxRecDepth 100000 in
theorem rowOf_walk (N : Nat) (k : UInt8) (s : Nat) (hs : s < 18446744073709551616) (v : Value) (b : List UInt8) (w : World) (hN : N ≤ w.heap.size) (hr : RowV N w v b) (hb : b.length ≤ 4000) :
    Calls Tryz.prog 145 #[.int .u8 ((k.toNat : Nat) : Int), .int .u64 (s : Int), v] w fun e w' => ∃ v', e = .returned v' ∧ Own w.heap.size w' v' (rowF k s b) ∧ Below w.heap.size w w' := by
  have hk := k.toNat_lt
  have HR := hide hr
  have H1 := hide (fixed_walk (w.heap.size + 1) _ [66, 74] k.toNat (by omega) 1 _ (by simp) (bj_bytes w) (by simp))
  obtain ⟨ba, blen, bcap, rfl, q1, q2, q3, hrow⟩ := hr
  have hbl : b.length = blen := hrow.1
  have hbl4 : blen ≤ 4000 := by omega
  have HBL := hide hbl
  clear hrow hb hbl
  have kc := fun (w : World) (C : Array Value) (n c : Nat) => Lib.run_convert_bytes_const (P := Tryz.prog) w 46 5 C n c Tryz.underlying46 Tryz.underlying5
  go_enter Tryz.func145, Tryz.ntmps145
  go_wp2_with fail
  refine (unhide H1).mono ?_
  rintro e w1 ⟨v1, rfl, hO1, hb1⟩
  have Hb1 : Hid (Below w.heap.size w w1) := hide (((Below.refl _ w).alloc (Nat.le_refl _) _).trans (hb1.mono (by simp)))
  have hl1 : ([66, 74] ++ fixedL k.toNat (sizeN 1)).length = 3 := by rw [List.length_append, fixedL_length]; rfl
  have H2 := hide (fixed_walk w1.heap.size v1 _ s hs 8 w1 (Nat.le_refl _) (hO1.row (by rw [hl1]; omega)) (by rw [hl1]; omega))
  clear hO1 hb1 H1
  go_wp2_with fail
  refine (unhide H2).mono ?_
  rintro e w2 ⟨v2, rfl, hO2, hb2⟩
  have Hb2 : Hid (Below w.heap.size w w2) := hide ((unhide Hb1).trans (hb2.mono (unhide Hb1).size))
  have hl2 : ([66, 74] ++ fixedL k.toNat (sizeN 1) ++ fixedL s (sizeN 8)).length = 11 := by rw [List.length_append, hl1, fixedL_length]; rfl
  have H3 := hide (fixed_walk w2.heap.size v2 _ blen (by omega) 2 w2 (Nat.le_refl _) (hO2.row (by rw [hl2]; omega)) (by rw [hl2]; omega))
  clear hO2 hb2 H2 Hb1
  go_wp2_with fail
  refine (unhide H3).mono ?_
  rintro e w3 ⟨v3, rfl, hO3, hb3⟩
  have Hb3 : Hid (Below w.heap.size w w3) := hide ((unhide Hb2).trans (hb3.mono (unhide Hb2).size))
  have hl3 : ([66, 74] ++ fixedL k.toNat (sizeN 1) ++ fixedL s (sizeN 8) ++ fixedL blen (sizeN 2)).length = 13 := by rw [List.length_append, hl2, fixedL_length]; rfl
  have hR3 := (unhide HR).below ((unhide Hb3).mono hN)
  have hr3 := hO3.row (by rw [hl3]; omega)
  have H4 := hide (raw_walk (w3.heap.size + 1) v3 _ _ 1 1 [b] (w3.alloc (.cells #[.slice ba blen bcap] 46)) (by simp) ((hr3.below ((Below.refl _ w3).alloc (Nat.le_refl _) _)).up (by omega)) (one_part w3 (Nat.le_trans hN (unhide Hb3).size) hR3) (by rw [hl3]; omega) (fun p hp => by obtain rfl := List.mem_singleton.1 hp; rw [unhide HBL]; omega) (by omega))
  clear hO3 hb3 H3 Hb2 hR3 hr3
  have HE : Hid ([66, 74] ++ fixedL k.toNat (sizeN 1) ++ fixedL s (sizeN 8) ++ fixedL blen (sizeN 2) ++ [b].flatten = headF k s b) := hide (by
    unfold headF h13
    rw [unhide HBL, List.flatten_singleton]
    simp only [List.append_assoc]
    rfl)
  go_wp2_with fail
  refine (unhide H4).mono ?_
  rintro e w4 ⟨v4, rfl, hO4, hb4⟩
  rw [unhide HE] at hO4
  have Hb4 : Hid (Below w.heap.size w w4) := hide ((unhide Hb3).trans ((((Below.refl _ w3).alloc (Nat.le_refl _) _).trans (hb4.mono (by simp))).mono (unhide Hb3).size))
  have hl4 : (headF k s b).length = 13 + blen := by rw [headF_length, unhide HBL]
  have hr4 := hO4.row (by rw [hl4]; omega)
  have H5 := hide (csum_walk w4.heap.size v4 _ w4 (Nat.le_refl _) hr4)
  have H6 := hide (fixed_walk w4.heap.size v4 (headF k s b) (crcN (headF k s b)) (Nat.lt_trans (crcN_lt _) (by decide)) 4 (w4.alloc (.cells #[v4] 46)) (by simp) (hr4.below ((Below.refl _ w4).alloc (Nat.le_refl _) _)) (by rw [hl4]; omega))
  have hc := crcN_lt (headF k s b)
  have HROW : Hid (headF k s b ++ fixedL (crcN (headF k s b)) (sizeN 4) = rowF k s b) := hide rfl
  have hr4' := hr4
  obtain ⟨a4, l4, c4, rfl, _⟩ := hr4'
  clear hO4 hb4 H4 Hb3 hr4 HE hl1 hl2 hl3
  generalize crcN (headF k s b) = cc at *
  go_wp2_with fail
  refine (unhide H5).mono ?_
  rintro e w5 ⟨rfl, hw5⟩
  subst w5
  go_wp2_with fail
  refine (unhide H6).mono ?_
  rintro e w6 ⟨v6, rfl, hO6, hb6⟩
  rw [unhide HROW] at hO6
  have HO6 := hide hO6
  have HW : Hid (Below w.heap.size w w6) := hide ((unhide Hb4).trans ((((Below.refl _ w4).alloc (Nat.le_refl _) _).trans (hb6.mono (by simp))).mono (unhide Hb4).size))
  have HSZ : Hid (w.heap.size ≤ (w4.alloc (.cells #[.slice a4 l4 c4] 46)).heap.size) := hide (by have := (unhide Hb4).size; simp; omega)
  clear hO6 hb6 H5 H6
  go_wp2_with fail
  go_ret
  exact ⟨_, rfl, (unhide HO6).lower (unhide HSZ), unhide HW⟩
end Go.Proofs.YtdfdalkcljfghaaGreat
