/-
  How the document's own Sum goes through a block: plain facts.
-/
import Derived.Test.YtnfgakbfnmmhcaaDoorQuad
namespace Go.Proofs.YtnfgakbfnmmhcaaDoor
open Go.RowKit

theorem join_byte (x : BitVec 32) (c : BitVec 8) (h : x.toNat < 16777216) : (256 : Int) * N32 x + ((c.toNat : Nat) : Int) = N32 (x <<< (8 : Nat) ||| c.setWidth 32) := by
  unfold N32
  rw [BitVec.toNat_or, BitVec.toNat_shiftLeft, BitVec.toNat_setWidth, Nat.mod_eq_of_lt (show c.toNat < 2 ^ 32 by have := c.isLt; omega), Nat.mod_eq_of_lt (show x.toNat <<< 8 < 2 ^ 32 by rw [Nat.shiftLeft_eq]; omega)]
  rw [← Nat.shiftLeft_add_eq_or_of_lt (show c.toNat < 2 ^ 8 from c.isLt), Nat.shiftLeft_eq]
  omega

theorem word_lt (bs : List (BitVec 8)) : bs.length ≤ 4 → (Sha.word bs).toNat < 256 ^ bs.length := by
  intro h
  match bs, h with
  | [], _ => decide
  | [a], _ => 
    have e : Sha.word [a] = Sha.word ([] ++ [a]) := rfl
    rw [e, Sha.word_snoc]
    have := join_byte (Sha.word []) a (by decide)
    have h0 : N32 (Sha.word []) = 0 := by decide
    rw [h0] at this
    unfold N32 at this
    have := a.isLt
    simp only [List.length_cons, List.length_nil]
    omega
  | [a, b], _ =>
    have h1 := word_lt [a] (by simp)
    have e : Sha.word [a, b] = Sha.word ([a] ++ [b]) := rfl
    rw [e, Sha.word_snoc]
    simp only [List.length_cons, List.length_nil] at h1 ⊢
    have := join_byte (Sha.word [a]) b (by omega)
    unfold N32 at this
    have := b.isLt
    omega
  | [a, b, c], _ =>
    have h1 := word_lt [a, b] (by simp)
    have e : Sha.word [a, b, c] = Sha.word ([a, b] ++ [c]) := rfl
    rw [e, Sha.word_snoc]
    simp only [List.length_cons, List.length_nil] at h1 ⊢
    have := join_byte (Sha.word [a, b]) c (by omega)
    unfold N32 at this
    have := c.isLt
    omega
  | [a, b, c, d], _ =>
    have := (Sha.word [a, b, c, d]).isLt
    simpa using this

/-- The next byte of a block, in the document's way. -/
theorem words_join (blk : List (BitVec 8)) (k : Nat) (hk : k < 64) (hl : blk.length = 64) :
    (256 : Int) * N32 ((Sha.words blk k).getD (k / 4) 0) + (((blk.getD k 0).toNat : Nat) : Int) = N32 ((Sha.words blk k).getD (k / 4) 0 <<< (8 : Nat) ||| (blk.getD k 0).setWidth 32) := by
  apply join_byte
  rw [Sha.words_getD _ _ _ (by omega)]
  have hlen : (((blk.take k).drop (4 * (k / 4))).take 4).length ≤ 3 := by simp; omega
  have h := word_lt (((blk.take k).drop (4 * (k / 4))).take 4) (by omega)
  have h3 : 256 ^ (((blk.take k).drop (4 * (k / 4))).take 4).length ≤ 256 ^ 3 := Nat.pow_le_pow_right (by decide) hlen
  omega

/-- The words as they stand when word t is next. -/
def wsAt (blk : List (BitVec 8)) (t : Nat) : List (BitVec 32) := if t < 16 then Sha.words blk (4 * t) else Sha.sched (Sha.words blk 64) (t - 16)
theorem wsAt_length (blk : List (BitVec 8)) (t : Nat) : (wsAt blk t).length = 64 := by
  unfold wsAt
  split
  · exact Sha.words_length _ _
  · rw [Sha.sched_length, Sha.words_length]
theorem wsAt_low (blk : List (BitVec 8)) (t : Nat) (h : t ≤ 16) : wsAt blk t = Sha.words blk (4 * t) := by
  unfold wsAt
  split
  · rfl
  · obtain rfl : t = 16 := by omega
    rfl
theorem wsAt_high (blk : List (BitVec 8)) (t : Nat) (h1 : 16 ≤ t) :
    wsAt blk (t + 1) = (wsAt blk t).set t ((wsAt blk t).getD (t - 16) 0 + Sha.s0 ((wsAt blk t).getD (t - 15) 0) + (wsAt blk t).getD (t - 7) 0 + Sha.s1 ((wsAt blk t).getD (t - 2) 0)) := by
  unfold wsAt
  rw [if_neg (by omega), if_neg (by omega), show t + 1 - 16 = (t - 16) + 1 by omega, Sha.sched, show 16 + (t - 16) = t by omega, show t - 16 + 1 = t - 15 by omega, show t - 16 + 9 = t - 7 by omega, show t - 16 + 14 = t - 2 by omega]
theorem wsAt_all (blk : List (BitVec 8)) : wsAt blk 64 = Sha.spread blk := rfl

/-- What has been written so far when j noughts stand. -/
def padTo (bs : List (BitVec 8)) (j : Nat) : List (BitVec 8) := bs ++ 128#8 :: List.replicate j 0#8
theorem padTo_length (bs : List (BitVec 8)) (j : Nat) : (padTo bs j).length = bs.length + 1 + j := by simp [padTo]; omega
theorem padTo_succ (bs : List (BitVec 8)) (j : Nat) : padTo bs j ++ [0#8] = padTo bs (j + 1) := by
  rw [padTo, padTo, List.replicate_succ', List.append_assoc]; rfl
def numTo (bs : List (BitVec 8)) (k : Nat) : List (BitVec 8) := padTo bs ((119 - bs.length % 64) % 64) ++ (Sha.be8 (bs.length * 8)).take k
theorem numTo_zero (bs : List (BitVec 8)) : numTo bs 0 = padTo bs ((119 - bs.length % 64) % 64) := by simp [numTo]
theorem numTo_length (bs : List (BitVec 8)) (k : Nat) (h : k ≤ 8) : (numTo bs k).length = bs.length + 1 + (119 - bs.length % 64) % 64 + k := by
  rw [numTo, List.length_append, padTo_length, List.length_take]
  simp [Sha.be8]; omega
theorem numTo_succ (bs : List (BitVec 8)) (k : Nat) (h : k < 8) : numTo bs k ++ [BitVec.ofNat 8 ((bs.length * 8) >>> (8 * (7 - k)))] = numTo bs (k + 1) := by
  have hb : (Sha.be8 (bs.length * 8)).getD k 0 = BitVec.ofNat 8 ((bs.length * 8) >>> (8 * (7 - k))) := by
    rw [Sha.be8, List.getD_eq_getElem?_getD, List.getElem?_map, List.getElem?_range h]; rfl
  rw [numTo, numTo, take_snoc _ k (by simp [Sha.be8]; omega), hb, List.append_assoc]
theorem numTo_all (bs : List (BitVec 8)) : numTo bs 8 = Sha.whole bs := by
  rw [numTo, List.take_of_length_le (by simp [Sha.be8]), Sha.whole, Sha.ending, padTo, List.append_assoc]
  rfl
theorem whole_length (bs : List (BitVec 8)) : (Sha.whole bs).length = bs.length + 9 + (119 - bs.length % 64) % 64 := by
  rw [Sha.whole, List.length_append, Sha.ending_length]; omega
theorem whole_mod (bs : List (BitVec 8)) : (Sha.whole bs).length % 64 = 0 := by rw [whole_length]; omega

/-- The weight of byte k. -/
def weight (k : Nat) : Nat := 256 ^ 7 / 256 ^ k
theorem weight_zero : weight 0 = 72057594037927936 := by decide
theorem weight_succ (k : Nat) : weight k / 256 = weight (k + 1) := by
  unfold weight
  rw [Nat.div_div_eq_div_mul, ← Nat.pow_succ]
theorem weight_at (k : Nat) (h : k < 8) : weight k = 2 ^ (8 * (7 - k)) := by
  have : ∀ i : Fin 8, weight i.val = 2 ^ (8 * (7 - i.val)) := by decide +kernel
  exact this ⟨k, h⟩
theorem weight_pos (k : Nat) (h : k < 8) : 0 < weight k := by rw [weight_at k h]; exact Nat.two_pow_pos _
theorem weight_le (k : Nat) : weight k ≤ 72057594037927936 := Nat.le_trans (Nat.div_le_self _ _) (by decide)
theorem weight_byte (n k : Nat) (h : k < 8) : (n : Int) / (weight k : Int) % 256 = (((BitVec.ofNat 8 (n >>> (8 * (7 - k)))).toNat : Nat) : Int) := by
  rw [weight_at k h, BitVec.toNat_ofNat, Nat.shiftRight_eq_div_pow, Int.natCast_emod, Int.natCast_ediv]
  rfl

theorem ch64 (e f g : BitVec 32) : bits .xor .u64 (bits .and .u64 (N32 e) (N32 f)) (bits .and .u64 (4294967295 - N32 e) (N32 g)) = N32 (e &&& f ^^^ ~~~ e &&& g) := by
  rw [not64, and64, and64, xor64]
theorem ch64w (e f g : BitVec 32) : bits .xor .u64 (bits .and .u64 (N32 e) (N32 f)) (bits .and .u64 (IntKind.u64.wrap (4294967295 - N32 e)) (N32 g)) = N32 (e &&& f ^^^ ~~~ e &&& g) := by
  have : IntKind.u64.wrap (4294967295 - N32 e) = 4294967295 - N32 e := by rw [wrap64u]; have := N32_lo e; have := N32_hi e; omega
  rw [this, ch64]
theorem maj64 (a b c : BitVec 32) : bits .xor .u64 (bits .xor .u64 (bits .and .u64 (N32 a) (N32 b)) (bits .and .u64 (N32 a) (N32 c))) (bits .and .u64 (N32 b) (N32 c)) = N32 (a &&& b ^^^ a &&& c ^^^ b &&& c) := by
  rw [and64, and64, and64, xor64, xor64]

theorem t1_64 (e h ch k x : BitVec 32) : (IntKind.u64.wrap (IntKind.u64.wrap (IntKind.u64.wrap (IntKind.u64.wrap (N32 h + bits .xor .u64 (bits .xor .u64 (N32 (Sha.rotr e 6)) (N32 (Sha.rotr e 11))) (N32 (Sha.rotr e 25))) + N32 ch) + N32 k) + N32 x)) % 4294967296 = N32 (h + (Sha.rotr e 6 ^^^ Sha.rotr e 11 ^^^ Sha.rotr e 25) + ch + k + x) := by
  rw [xor64, xor64, wrap64u, wrap64u, wrap64u, wrap64u, ← add_N32, ← add_N32, ← add_N32, ← add_N32]
  generalize N32 h = a1
  generalize N32 (Sha.rotr e 6 ^^^ Sha.rotr e 11 ^^^ Sha.rotr e 25) = a2
  generalize N32 ch = a3
  generalize N32 k = a4
  generalize N32 x = a5
  omega
theorem t2_64 (a maj : BitVec 32) : (IntKind.u64.wrap (bits .xor .u64 (bits .xor .u64 (N32 (Sha.rotr a 2)) (N32 (Sha.rotr a 13))) (N32 (Sha.rotr a 22)) + N32 maj)) % 4294967296 = N32 ((Sha.rotr a 2 ^^^ Sha.rotr a 13 ^^^ Sha.rotr a 22) + maj) := by
  rw [xor64, xor64, wrap64u, ← add_N32]
  generalize N32 (Sha.rotr a 2 ^^^ Sha.rotr a 13 ^^^ Sha.rotr a 22) = a1
  generalize N32 maj = a2
  omega
theorem fin64 (x y : Int) (a b : BitVec 32) (hx : x % 4294967296 = N32 a) (hy : y % 4294967296 = N32 b) : (IntKind.u64.wrap (x + y)).tmod 4294967296 = N32 (a + b) := by
  rw [wrap64u, Int.tmod_eq_emod_of_nonneg (by omega), ← add_N32, ← hx, ← hy]
  omega
theorem mod_N32 (a : BitVec 32) : N32 a % 4294967296 = N32 a := by have := N32_lo a; have := N32_hi a; omega

theorem blk_length (S : List (BitVec 8)) (j : Nat) (h : 64 * j + 64 ≤ S.length) : ((S.drop (64 * j)).take 64).length = 64 := by simp; omega
theorem blk_get (S : List (BitVec 8)) (j k : Nat) (hk : k < 64) : ((S.drop (64 * j)).take 64).getD k 0 = S.getD (64 * j + k) 0 := by
  rw [List.getD_eq_getElem?_getD, List.getElem?_take_of_lt hk, List.getElem?_drop, ← List.getD_eq_getElem?_getD]

end Go.Proofs.YtnfgakbfnmmhcaaDoor
