/-
  Plain facts on CRC-32: of three rows of one length the sums, exclusive or with one another, are that of the rows so.
-/
import Derived.Test.YtcbiaggdfhifmaaMath
namespace Go.Proofs.Ytcbiaggdfhifmaa.Crc

def xor3 (a b c : List (BitVec 8)) : List (BitVec 8) := List.zipWith (· ^^^ ·) (List.zipWith (· ^^^ ·) a b) c

theorem xor3_length (a b c : List (BitVec 8)) (n : Nat) (ha : a.length = n) (hb : b.length = n) (hc : c.length = n) : (xor3 a b c).length = n := by
  simp [xor3, ha, hb, hc]

theorem xor3_getD (a b c : List (BitVec 8)) (n k : Nat) (ha : a.length = n) (hb : b.length = n) (hc : c.length = n) (hk : k < n) :
    (xor3 a b c).getD k 0 = a.getD k 0 ^^^ b.getD k 0 ^^^ c.getD k 0 := by
  simp only [List.getD_eq_getElem?_getD]
  rw [List.getElem?_eq_getElem (by rw [xor3_length a b c n ha hb hc]; exact hk), List.getElem?_eq_getElem (by omega), List.getElem?_eq_getElem (by omega), List.getElem?_eq_getElem (by omega)]
  simp [xor3]

theorem not_xor3 (x y z : BitVec 32) : ~~~ (x ^^^ y ^^^ z) = ~~~ x ^^^ ~~~ y ^^^ ~~~ z := by
  apply BitVec.eq_of_getLsbD_eq
  intro i hi
  simp [hi]

theorem more_xor3 (a b c : List (BitVec 8)) (n : Nat) (s : BitVec 32) (ha : a.length = n) (hb : b.length = n) (hc : c.length = n) :
    more s (xor3 a b c) = more s a ^^^ more s b ^^^ more s c := by
  unfold more xor3
  rw [← not_xor3, ← run_xor a b _ _ (by omega), ← run_xor _ c _ _ (by simp; omega)]
  rw [BitVec.xor_self, BitVec.zero_xor]

end Go.Proofs.Ytcbiaggdfhifmaa.Crc
