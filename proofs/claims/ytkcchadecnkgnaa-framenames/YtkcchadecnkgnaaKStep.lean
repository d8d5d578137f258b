
/-
  What crc.step, crc.More and crc.Sum answer, for every argument: the plain functions of YtkcchadecnkgnaaMath. They change no memory.
-/
import Derived.Test.YtkcchadecnkgnaaOwn
import Derived.Test.YtkcchadecnkgnaaKMath
import Derived.WalkKit
import Derived.WalkSpells
import Derived.WalkLawsBesides
namespace Go.Proofs.Ytkcchadecnkgnaa
open Go.RowKit

/-- A number of 32 bits, as the walk has it. -/
def N32 (x : BitVec 32) : Int := (x.toNat : Int)

theorem N32_lo (x : BitVec 32) : 0 ≤ N32 x := by unfold N32; omega
theorem N32_hi (x : BitVec 32) : N32 x < 4294967296 := by unfold N32; have := x.isLt; omega

theorem ofInt_N32 (x : BitVec 32) : BitVec.ofInt 32 (N32 x) = x := by
  unfold N32; simp

theorem bits_xor32 (a b : BitVec 32) : bits .xor .u32 (N32 a) (N32 b) = N32 (a ^^^ b) := by
  show IntKind.u32.wrap ((BitVec.ofInt 32 (N32 a) ^^^ BitVec.ofInt 32 (N32 b)).toNat : Int) = _
  rw [ofInt_N32, ofInt_N32, IntKind.wrap_u32']
  have := (a ^^^ b).isLt
  unfold N32
  omega

theorem N32_byte (c : BitVec 8) : ((c.toNat : Nat) : Int) = N32 (c.setWidth 32) := by
  unfold N32
  rw [BitVec.toNat_setWidth, Nat.mod_eq_of_lt (by have := c.isLt; omega)]

theorem N32_poly : N32 Crc.poly = 3988292384 := by decide

theorem N32_shr (x : BitVec 32) : N32 x / (2 : Int) = N32 (x >>> (1 : Nat)) := by
  unfold N32
  rw [BitVec.toNat_ushiftRight, Nat.shiftRight_eq_div_pow]
  simp

theorem and_one (x : BitVec 32) : bits .and .u32 (N32 x) 1 = if x.getLsbD 0 then 1 else 0 := by
  have h := u32_and (N32 x) 1 (N32_lo x) (N32_hi x) (by decide) (by decide)
  rw [h]
  have e : (N32 x).toNat = x.toNat := by unfold N32; exact Int.toNat_natCast _
  rw [e, show (1 : Int).toNat = 1 from rfl, nat_mask1]
  have g : x.getLsbD 0 = decide (x.toNat % 2 = 1) := by
    rw [BitVec.getLsbD, Nat.testBit_zero]
  rw [g]
  have : x.toNat % 2 = 0 ∨ x.toNat % 2 = 1 := by omega
  rcases this with h | h <;> simp [h]

theorem step_any (r : BitVec 32) (c : BitVec 8) (w : World) :
    Calls Try.prog 41 #[.int .u32 (N32 r), .int .u8 (c.toNat : Int)] w fun e w' => e = .returned (.int .u32 (N32 (Crc.step r c))) ∧ w' = w := by
  have hx : bits BinOp.xor IntKind.u32 (N32 r) (c.toNat : Int) = N32 (r ^^^ c.setWidth 32) := by rw [N32_byte, bits_xor32]
  go_enter Try.func41, Try.ntmps41
  go_wp2
  go_loop [0, 10] (fun g i => ∃ k : Nat, k ≤ 8 ∧ i = .int .i64 k ∧ g = .int .u32 (N32 (Crc.iter k (r ^^^ c.setWidth 32)))) (fun _ i => 8 - (intOf i).toNat)
  case atStart => exact ⟨0, by omega, rfl, rfl⟩
  case round =>
    obtain ⟨k, hk, rfl, rfl⟩ := hrel
    clear hx
    have hs : Crc.iter (k + 1) (r ^^^ c.setWidth 32) = Crc.bit (Crc.iter k (r ^^^ c.setWidth 32)) := rfl
    have Hs : Hid (Crc.iter (k + 1) (r ^^^ c.setWidth 32) = Crc.bit (Crc.iter k (r ^^^ c.setWidth 32))) := hs
    clear hs
    generalize hx : Crc.iter k (r ^^^ c.setWidth 32) = x at *
    have h1 := and_one x
    have h2 := N32_shr x
    have h3 : bits BinOp.xor IntKind.u32 (N32 (x >>> 1)) 3988292384 = N32 ((x >>> 1) ^^^ Crc.poly) := by rw [← N32_poly, bits_xor32]
    by_cases hlt : k < 8
    · cases hb : x.getLsbD 0
      · rw [hb] at h1
        have hbit : Crc.bit x = x >>> 1 := by unfold Crc.bit; rw [hb]; rfl
        have Hb := hide hbit
        have Hx := hide hx
        clear hb hbit hx h3
        simp only [Bool.false_eq_true, if_false] at h1
        go_wp2
        go_round
        case rel => exact ⟨k + 1, by omega, by go_num, by rw [Hs.out, unhide Hb]⟩
        case measure => simp [intOf]; omega
      · rw [hb] at h1
        have hbit : Crc.bit x = (x >>> 1) ^^^ Crc.poly := by unfold Crc.bit; rw [hb]; rfl
        have Hb := hide hbit
        have Hx := hide hx
        clear hb hbit hx
        simp only [if_true] at h1
        go_wp2
        go_round
        case rel => exact ⟨k + 1, by omega, by go_num, by rw [Hs.out, unhide Hb]⟩
        case measure => simp [intOf]; omega
    · have Hx := hide hx
      clear hx h1 h2 h3
      go_wp2
      go_ret
      have : k = 8 := by omega
      subst this
      refine ⟨?_, rfl⟩
      rw [← unhide Hx]; rfl

end Go.Proofs.Ytkcchadecnkgnaa
