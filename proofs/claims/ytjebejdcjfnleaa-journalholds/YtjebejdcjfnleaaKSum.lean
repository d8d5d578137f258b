/-
  What crc.step, crc.More and crc.Sum answer, for every argument: the plain functions of YtjebejdcjfnleaaMath. They change no memory. What crc.More and crc.Sum answer, for every argument. They change no memory.
-/
import Derived.Test.YtjebejdcjfnleaaOwn
import Derived.Test.YtjebejdcjfnleaaFMath
import Derived.WalkKit
import Derived.WalkSpells
import Derived.WalkLawsBesides
namespace Go.Proofs.Ytjebejdcjfnleaa
open Go.RowKit

/-- A number of 32 bits, as the walk has it. -/
def N32 (x : BitVec 32) : Int := (x.toNat : Int)

theorem N32_lo (x : BitVec 32) : 0 ≤ N32 x := by unfold N32; omega
theorem N32_hi (x : BitVec 32) : N32 x < 4294967296 := by unfold N32; have := x.isLt; omega

theorem ofInt_N32 (x : BitVec 32) : BitVec.ofInt 32 (N32 x) = x := by
  unfold N32; simp

theorem bits_xor32 (a b : BitVec 32) : bits .xor .u32 (N32 a) (N32 b) = N32 (a ^^^ b) := by
  show IntKind.u32.wrap ((BitVec.ofInt 32 (N32 a) ^^^ BitVec.ofInt 32 (N32 b)).toNat : Int) = _
  rw [ofInt_N32, ofInt_N32, IntKind.wrap_u32']
  have := (a ^^^ b).isLt
  unfold N32
  omega

theorem N32_byte (c : BitVec 8) : ((c.toNat : Nat) : Int) = N32 (c.setWidth 32) := by
  unfold N32
  rw [BitVec.toNat_setWidth, Nat.mod_eq_of_lt (by have := c.isLt; omega)]

theorem N32_poly : N32 Crc.poly = 3988292384 := by decide

theorem N32_shr (x : BitVec 32) : N32 x / (2 : Int) = N32 (x >>> (1 : Nat)) := by
  unfold N32
  rw [BitVec.toNat_ushiftRight, Nat.shiftRight_eq_div_pow]
  simp

theorem and_one (x : BitVec 32) : bits .and .u32 (N32 x) 1 = if x.getLsbD 0 then 1 else 0 := by
  have h := u32_and (N32 x) 1 (N32_lo x) (N32_hi x) (by decide) (by decide)
  rw [h]
  have e : (N32 x).toNat = x.toNat := by unfold N32; exact Int.toNat_natCast _
  rw [e, show (1 : Int).toNat = 1 from rfl, nat_mask1]
  have g : x.getLsbD 0 = decide (x.toNat % 2 = 1) := by
    rw [BitVec.getLsbD, Nat.testBit_zero]
  rw [g]
  have : x.toNat % 2 = 0 ∨ x.toNat % 2 = 1 := by omega
  rcases this with h | h <;> simp [h]

theorem step_any (r : BitVec 32) (c : BitVec 8) (w : World) :
    Calls Try.prog 75 #[.int .u32 (N32 r), .int .u8 (c.toNat : Int)] w fun e w' => e = .returned (.int .u32 (N32 (Crc.step r c))) ∧ w' = w := by
  have hx : bits BinOp.xor IntKind.u32 (N32 r) (c.toNat : Int) = N32 (r ^^^ c.setWidth 32) := by rw [N32_byte, bits_xor32]
  go_enter Try.func75, Try.ntmps75
  go_wp2
  go_loop [0, 10] (fun g i => ∃ k : Nat, k ≤ 8 ∧ i = .int .i64 k ∧ g = .int .u32 (N32 (Crc.iter k (r ^^^ c.setWidth 32)))) (fun _ i => 8 - (intOf i).toNat)
  case atStart => exact ⟨0, by omega, rfl, rfl⟩
  case round =>
    obtain ⟨k, hk, rfl, rfl⟩ := hrel
    clear hx
    have hs : Crc.iter (k + 1) (r ^^^ c.setWidth 32) = Crc.bit (Crc.iter k (r ^^^ c.setWidth 32)) := rfl
    have Hs : Hid (Crc.iter (k + 1) (r ^^^ c.setWidth 32) = Crc.bit (Crc.iter k (r ^^^ c.setWidth 32))) := hs
    clear hs
    generalize hx : Crc.iter k (r ^^^ c.setWidth 32) = x at *
    have h1 := and_one x
    have h2 := N32_shr x
    have h3 : bits BinOp.xor IntKind.u32 (N32 (x >>> 1)) 3988292384 = N32 ((x >>> 1) ^^^ Crc.poly) := by rw [← N32_poly, bits_xor32]
    by_cases hlt : k < 8
    · cases hb : x.getLsbD 0
      · rw [hb] at h1
        have hbit : Crc.bit x = x >>> 1 := by unfold Crc.bit; rw [hb]; rfl
        have Hb := hide hbit
        have Hx := hide hx
        clear hb hbit hx h3
        simp only [Bool.false_eq_true, if_false] at h1
        go_wp2
        go_round
        case rel => exact ⟨k + 1, by omega, by go_num, by rw [Hs.out, unhide Hb]⟩
        case measure => simp [intOf]; omega
      · rw [hb] at h1
        have hbit : Crc.bit x = (x >>> 1) ^^^ Crc.poly := by unfold Crc.bit; rw [hb]; rfl
        have Hb := hide hbit
        have Hx := hide hx
        clear hb hbit hx
        simp only [if_true] at h1
        go_wp2
        go_round
        case rel => exact ⟨k + 1, by omega, by go_num, by rw [Hs.out, unhide Hb]⟩
        case measure => simp [intOf]; omega
    · have Hx := hide hx
      clear hx h1 h2 h3
      go_wp2
      go_ret
      have : k = 8 := by omega
      subst this
      refine ⟨?_, rfl⟩
      rw [← unhide Hx]; rfl

end Go.Proofs.Ytjebejdcjfnleaa

namespace Go.Proofs.Ytjebejdcjfnleaa
open Go.RowKit

/-- A slice of bytes: its length is the list's; its cells hold the list's bytes. -/
def CRow (w : World) (a : Option Addr) (len : Nat) (bs : List (BitVec 8)) : Prop :=
  bs.length = len ∧ len ≤ 140737488351232 ∧ ∀ i, i < len → ∃ b off, a = some ⟨b, off, none⟩ ∧ w.cell? ⟨b, off + i, none⟩ = some (.int .u8 (((bs.getD i 0).toNat : Nat) : Int))

theorem ctake_snoc (bs : List (BitVec 8)) (k : Nat) (h : k < bs.length) : bs.take (k + 1) = bs.take k ++ [bs.getD k 0] := by
  rw [List.take_succ_eq_append_getElem h, List.getD_eq_getElem?_getD, List.getElem?_eq_getElem h]
  rfl

theorem not_N32 (x : BitVec 32) : bits .xor .u32 IntKind.u32.max (N32 x) = N32 (~~~ x) := by
  have h : IntKind.u32.max = N32 (BitVec.allOnes 32) := by decide
  rw [h, bits_xor32, BitVec.allOnes_xor]

theorem more_any (s : BitVec 32) (a : Option Addr) (len cap : Nat) (bs : List (BitVec 8)) (w : World) (hr : CRow w a len bs) :
    Calls Try.prog 66 #[.int .u32 (N32 s), .slice a len cap] w fun e w' => e = .returned (.int .u32 (N32 (Crc.more s bs))) ∧ w' = w := by
  obtain ⟨hl, hm, hc⟩ := hr
  have hn := not_N32 s
  go_enter Try.func66, Try.ntmps66
  go_wp2
  go_loop [5, 12] (fun g i => ∃ k : Nat, k ≤ len ∧ i = .int .i64 k ∧ g = .int .u32 (N32 (Crc.run (~~~ s) (bs.take k)))) (fun _ i => len - (intOf i).toNat)
  case atStart => exact ⟨0, by omega, rfl, rfl⟩
  case round =>
    obtain ⟨k, hk, rfl, rfl⟩ := hrel
    clear hn
    by_cases hlt : k < len
    · obtain ⟨b, off, rfl, hcell⟩ := hc k hlt
      have hts := ctake_snoc bs k (by omega)
      have Hs : Hid (Crc.run (~~~ s) (bs.take (k + 1)) = Crc.step (Crc.run (~~~ s) (bs.take k)) (bs.getD k 0)) := by
        show Crc.run (~~~ s) (bs.take (k + 1)) = _
        rw [hts, Crc.run_append]; rfl
      clear hts hc
      generalize bs.getD k 0 = c at *
      generalize Crc.run (~~~ s) (bs.take k) = x at *
      go_wp2_with (go_at_call 75; refine (step_any _ _ _).mono ?_; rintro e w' ⟨rfl, rfl⟩)
      go_round
      case rel => exact ⟨k + 1, by omega, by go_num, by rw [Hs.out]⟩
      case measure => simp [intOf]; omega
    · have hk' : k = len := by omega
      have e : bs.take k = bs := List.take_of_length_le (by omega)
      rw [e]
      have hn := not_N32 (Crc.run (~~~ s) bs)
      clear hc e
      go_wp2
      go_ret
      exact ⟨rfl, rfl⟩

/-- A slice of slices of bytes. -/
def CParts (w : World) (a : Option Addr) (n : Nat) (ps : List (List (BitVec 8))) : Prop :=
  ps.length = n ∧ n ≤ 140737488351232 ∧ ∀ i, i < n → ∃ b off ai li ci, a = some ⟨b, off, none⟩ ∧ w.cell? ⟨b, off + i, none⟩ = some (.slice ai li ci) ∧ CRow w ai li (ps.getD i [])

theorem ctake_snoc2 (ps : List (List (BitVec 8))) (k : Nat) (h : k < ps.length) : ps.take (k + 1) = ps.take k ++ [ps.getD k []] := by
  rw [List.take_succ_eq_append_getElem h, List.getD_eq_getElem?_getD, List.getElem?_eq_getElem h]
  rfl

theorem sum_any (a : Option Addr) (n cap : Nat) (ps : List (List (BitVec 8))) (w : World) (hr : CParts w a n ps) :
    Calls Try.prog 52 #[.slice a n cap] w fun e w' => e = .returned (.int .u32 (N32 (Crc.more 0#32 ps.flatten))) ∧ w' = w := by
  obtain ⟨hl, hm, hc⟩ := hr
  go_enter Try.func52, Try.ntmps52
  go_wp2
  go_loop [3, 8] (fun g i => ∃ k : Nat, k ≤ n ∧ i = .int .i64 k ∧ g = .int .u32 (N32 (Crc.more 0#32 (ps.take k).flatten))) (fun _ i => n - (intOf i).toNat)
  case atStart => exact ⟨0, by omega, rfl, by rw [List.take_zero, List.flatten_nil, Crc.more_nil]; rfl⟩
  case round =>
    obtain ⟨k, hk, rfl, rfl⟩ := hrel
    by_cases hlt : k < n
    · obtain ⟨b, off, ai, li, ci, rfl, hcell, hrow⟩ := hc k hlt
      have hts := ctake_snoc2 ps k (by omega)
      have Hs : Hid (Crc.more 0#32 (ps.take (k + 1)).flatten = Crc.more (Crc.more 0#32 (ps.take k).flatten) (ps.getD k [])) := by
        show Crc.more 0#32 (ps.take (k + 1)).flatten = _
        rw [hts, List.flatten_append, Crc.more_append]; simp
      clear hts hc
      have Hr := hide hrow
      clear hrow
      generalize ps.getD k [] = c at *
      generalize Crc.more 0#32 (ps.take k).flatten = x at *
      go_wp2_with (go_at_call 66; refine (more_any _ _ _ _ _ _ (unhide Hr)).mono ?_; rintro e w' ⟨rfl, rfl⟩)
      go_round
      case rel => exact ⟨k + 1, by omega, by go_num, by rw [Hs.out]⟩
      case measure => simp [intOf]; omega
    · have e : ps.take k = ps := List.take_of_length_le (by omega)
      rw [e]
      clear hc e
      go_wp2
      go_ret
      exact ⟨rfl, rfl⟩

end Go.Proofs.Ytjebejdcjfnleaa
