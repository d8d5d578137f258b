/-
  Plain facts for the walk of the document's Sum.
-/
import Derived.Test.YtkcchadecnkgnaaKSum
import Derived.Test.YtkcchadecnkgnaaKBurst
namespace Go.Proofs.Ytkcchadecnkgnaa.Ref
open Go.RowKit

/-- An array of thirty-two ints. -/
def ints (f : Nat → Int) : List Value := (List.range 32).map fun i => Value.int .i64 (f i)

theorem ints_length (f : Nat → Int) : (ints f).length = 32 := by simp [ints]
theorem ints_get (f : Nat → Int) {i : Nat} (h : i < 32) : (ints f)[i]? = some (.int .i64 (f i)) := by simp [ints, h]
theorem ints_one (f : Nat → Int) : ∀ v ∈ ints f, v.oneCell' = true := by
  intro v hv
  simp only [ints, List.mem_map] at hv
  obtain ⟨i, _, rfl⟩ := hv
  rfl
theorem ints_congr {f g : Nat → Int} (h : ∀ i, i < 32 → f i = g i) : ints f = ints g := by
  unfold ints
  apply List.map_congr_left
  intro i hi
  rw [h i (by simpa using hi)]
theorem ints_set (f : Nat → Int) (i : Nat) (v : Int) : (ints f).set i (.int .i64 v) = ints fun j => if j = i then v else f j := by
  apply List.ext_getElem?
  intro j
  by_cases hj : j < 32
  · rw [ints_get _ hj, List.getElem?_set]
    by_cases h : i = j
    · subst h; simp [ints_length, hj]
    · rw [if_neg h, ints_get _ hj, if_neg (fun e => h e.symm)]
  · rw [List.getElem?_eq_none (by simp [ints_length]; omega), List.getElem?_eq_none (by simp [ints_length]; omega)]

/-- The register's bits, the highest first. -/
def bitf (r : BitVec 32) (j : Nat) : Int := if r.getLsbD (31 - j) then 1 else 0

def ofBit (b : Bool) : Int := if b then 1 else 0

theorem xor_bits (a b : Bool) : bits .xor .i64 (ofBit a) (ofBit b) = ofBit (a ^^ b) := by cases a <;> cases b <;> decide

theorem byte_bit (c : BitVec 8) (j : Nat) : (wrap64 (((c.toNat : Nat) : Int) / 2 ^ j)).tmod 2 = ofBit (c.getLsbD j) := by
  have hc := c.isLt
  have e1 : (((c.toNat : Nat) : Int) / 2 ^ j) = ((c.toNat / 2 ^ j : Nat) : Int) := by simp
  have hle : c.toNat / 2 ^ j ≤ c.toNat := Nat.div_le_self _ _
  have e2 : c.getLsbD j = decide (c.toNat / 2 ^ j % 2 = 1) := by
    rw [BitVec.getLsbD, Nat.testBit_eq_decide_div_mod_eq]
  rw [e1, e2]
  generalize c.toNat / 2 ^ j = q at *
  rw [IntWalk.wrap64_in _ ⟨by omega, by omega⟩, Int.tmod_eq_emod_of_nonneg (by omega)]
  have : q % 2 = 0 ∨ q % 2 = 1 := by omega
  rcases this with h | h
  · simp [h, ofBit]; omega
  · simp [h, ofBit]; omega

/-- One bit of the byte goes in. -/
theorem in_step (r : BitVec 32) (c : BitVec 8) (j : Nat) (hj : j < 8) :
    (ints fun i => if i = 31 - j then bits .xor .i64 (bitf (r ^^^ Crc.low c.getLsbD j) (31 - j)) ((wrap64 (((c.toNat : Nat) : Int) / 2 ^ j)).tmod 2) else bitf (r ^^^ Crc.low c.getLsbD j) i) = ints (bitf (r ^^^ Crc.low c.getLsbD (j + 1))) := by
  apply ints_congr
  intro i hi
  by_cases h : i = 31 - j
  · rw [if_pos h, byte_bit]
    subst h
    show bits .xor .i64 (ofBit _) (ofBit _) = ofBit _
    rw [xor_bits]
    congr 1
    rw [BitVec.getLsbD_xor, BitVec.getLsbD_xor, Crc.low_get _ _ (by omega), Crc.low_get _ _ (by omega), show 31 - (31 - j) = j by omega]
    simp
  · rw [if_neg h]
    unfold bitf
    rw [BitVec.getLsbD_xor, BitVec.getLsbD_xor, Crc.low_get _ _ (by omega), Crc.low_get _ _ (by omega)]
    have e : decide (31 - i < j + 1) = decide (31 - i < j) := by
      rw [decide_eq_decide]; omega
    rw [e]

/-- A shift. -/
theorem shift_step (r : BitVec 32) (i : Nat) (h1 : 1 ≤ i) (h2 : i < 32) :
    (ints fun j => if j = i then bitf r (i - 1) else if 1 ≤ j ∧ j < i then bitf r (j - 1) else 0) = ints fun j => if 1 ≤ j ∧ j < i + 1 then bitf r (j - 1) else 0 := by
  apply ints_congr
  intro j _
  by_cases h : j = i
  · subst h
    rw [if_pos rfl, if_pos ⟨h1, by omega⟩]
  · rw [if_neg h]
    by_cases h' : 1 ≤ j ∧ j < i
    · rw [if_pos h', if_pos ⟨h'.1, by omega⟩]
    · rw [if_neg h', if_neg (by omega)]

theorem shift_done (r : BitVec 32) : (ints fun j => if 1 ≤ j ∧ j < 32 then bitf r (j - 1) else 0) = ints (bitf (r >>> 1)) := by
  apply ints_congr
  intro j hj
  unfold bitf
  rw [BitVec.getLsbD_ushiftRight]
  by_cases h : 1 ≤ j
  · rw [if_pos ⟨h, hj⟩, show 1 + (31 - j) = 31 - (j - 1) by omega]
  · obtain rfl : j = 0 := by omega
    simp

theorem bitf_31 (r : BitVec 32) : bitf r 31 = ofBit (r.getLsbD 0) := rfl

/-- The polynomial goes in, bit by bit. -/
theorem poly_step (s : BitVec 32) (i : Nat) (_hi : i < 32) :
    (ints fun j => if j = i then bits .xor .i64 (bitf s i) (bitf Crc.poly i) else if j < i then bitf (s ^^^ Crc.poly) j else bitf s j) = ints fun j => if j < i + 1 then bitf (s ^^^ Crc.poly) j else bitf s j := by
  apply ints_congr
  intro j _
  by_cases h : j = i
  · subst h
    rw [if_pos rfl, if_pos (by omega)]
    show bits .xor .i64 (ofBit _) (ofBit _) = ofBit _
    rw [xor_bits, BitVec.getLsbD_xor]
  · rw [if_neg h]
    by_cases h' : j < i
    · rw [if_pos h', if_pos (by omega)]
    · rw [if_neg h', if_neg (by omega)]

theorem bit_yes (r : BitVec 32) (h : r.getLsbD 0 = true) : Crc.bit r = (r >>> 1) ^^^ Crc.poly := by unfold Crc.bit; rw [h]; rfl
theorem bit_no (r : BitVec 32) (h : r.getLsbD 0 = false) : Crc.bit r = r >>> 1 := by unfold Crc.bit; rw [h]; rfl

/-- The number, from the highest bit on. -/
theorem out_step (x : BitVec 32) (k : Nat) (hk : k < 32) : 2 * (x.toNat / 2 ^ (32 - k)) + (if x.getLsbD (31 - k) then 1 else 0) = x.toNat / 2 ^ (32 - (k + 1)) := by
  have e : x.getLsbD (31 - k) = decide (x.toNat / 2 ^ (31 - k) % 2 = 1) := by
    rw [BitVec.getLsbD, Nat.testBit_eq_decide_div_mod_eq]
  rw [e, show 32 - (k + 1) = 31 - k by omega, show 32 - k = (31 - k) + 1 by omega, Nat.pow_succ, ← Nat.div_div_eq_div_mul]
  have : x.toNat / 2 ^ (31 - k) % 2 = 0 ∨ x.toNat / 2 ^ (31 - k) % 2 = 1 := by omega
  rcases this with h | h <;> simp [h] <;> omega

theorem out_small (x : BitVec 32) (k : Nat) (hk : k < 32) : x.toNat / 2 ^ (32 - k) < 2147483648 := by
  have h1 : 2 ^ 1 ≤ 2 ^ (32 - k) := Nat.pow_le_pow_right (by decide) (by omega)
  have h2 : x.toNat < 4294967296 := x.isLt
  apply Nat.div_lt_of_lt_mul
  have h3 : 2 ^ 1 * 2147483648 ≤ 2 ^ (32 - k) * 2147483648 := Nat.mul_le_mul_right _ h1
  omega

theorem out_val (r : BitVec 32) (k q : Nat) (hk : k < 32) (hq : q < 2147483648) :
    (2 * (q : Int) + wrap64 (1 - bitf r k) % 4294967296) % 4294967296 = ((2 * q + (if (~~~ r).getLsbD (31 - k) then 1 else 0) : Nat) : Int) := by
  have e : (~~~ r).getLsbD (31 - k) = !r.getLsbD (31 - k) := by
    rw [BitVec.getLsbD_not]
    simp [show 31 - k < 32 by omega]
  rw [e]
  unfold bitf
  cases r.getLsbD (31 - k)
  · rw [IntWalk.wrap64_in _ ⟨by simp, by simp⟩]
    simp
    omega
  · rw [IntWalk.wrap64_in _ ⟨by simp, by simp⟩]
    simp
    omega

end Go.Proofs.Ytkcchadecnkgnaa.Ref
