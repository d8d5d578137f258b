/-
  HMAC over SHA-256, as lists of bytes.
-/
import Derived.Test.YtnfgakbfnmmhcaaDoorMath
namespace Go.Proofs.YtnfgakbfnmmhcaaDoor
namespace Mac

/-- The key, or what tells it if it is long. -/
def key (k : List (BitVec 8)) : List (BitVec 8) := if 64 < k.length then Sha.sum k else k
/-- With noughts behind it. -/
def block (k : List (BitVec 8)) : List (BitVec 8) := key k ++ List.replicate (64 - (key k).length) 0#8
def turned (b : List (BitVec 8)) (x : BitVec 8) : List (BitVec 8) := b.map (· ^^^ x)
def sum (k m : List (BitVec 8)) : List (BitVec 8) := Sha.sum (turned (block k) 92#8 ++ Sha.sum (turned (block k) 54#8 ++ m))

theorem key_length (k : List (BitVec 8)) : (key k).length ≤ 64 := by
  unfold key
  split
  · rw [Sha.sum_length]; decide
  · omega
theorem block_length (k : List (BitVec 8)) : (block k).length = 64 := by
  have := key_length k
  simp only [block, List.length_append, List.length_replicate]; omega
theorem turned_length (b : List (BitVec 8)) (x : BitVec 8) : (turned b x).length = b.length := by simp [turned]
theorem sum_length (k m : List (BitVec 8)) : (sum k m).length = 32 := Sha.sum_length _

def jefe : List (BitVec 8) := [74#8, 101#8, 102#8, 101#8]
def what : List (BitVec 8) := [119#8, 104#8, 97#8, 116#8, 32#8, 100#8, 111#8, 32#8, 121#8, 97#8, 32#8, 119#8, 97#8, 110#8, 116#8, 32#8]
def nothing : List (BitVec 8) := [102#8, 111#8, 114#8, 32#8, 110#8, 111#8, 116#8, 104#8, 105#8, 110#8, 103#8, 63#8]
theorem known : Sha.text (sum jefe (what ++ nothing)) = [53#8, 98#8, 100#8, 99#8, 99#8, 49#8, 52#8, 54#8, 98#8, 102#8, 54#8, 48#8, 55#8, 53#8, 52#8, 101#8, 54#8, 97#8, 48#8, 52#8, 50#8, 52#8, 50#8, 54#8, 48#8, 56#8, 57#8, 53#8, 55#8, 53#8, 99#8, 55#8, 53#8, 97#8, 48#8, 48#8, 51#8, 102#8, 48#8, 56#8, 57#8, 100#8, 50#8, 55#8, 51#8, 57#8, 56#8, 51#8, 57#8, 100#8, 101#8, 99#8, 53#8, 56#8, 98#8, 57#8, 54#8, 52#8, 101#8, 99#8, 51#8, 56#8, 52#8, 51#8] := by decide +kernel

/-- A key with noughts behind it is the same. -/
theorem block_more (k : List (BitVec 8)) (n : Nat) (h : k.length + n ≤ 64) : block (k ++ List.replicate n 0#8) = block k := by
  have e1 : key (k ++ List.replicate n 0#8) = k ++ List.replicate n 0#8 := by unfold key; rw [if_neg (by simp; omega)]
  have e2 : key k = k := by unfold key; rw [if_neg (by omega)]
  unfold block
  rw [e1, e2, List.append_assoc, List.replicate_append_replicate]
  congr 2
  simp; omega
theorem sum_more (k m : List (BitVec 8)) (n : Nat) (h : k.length + n ≤ 64) : sum (k ++ List.replicate n 0#8) m = sum k m := by unfold sum; rw [block_more k n h]
/-- So is a long one and what tells it. -/
theorem sum_long (k m : List (BitVec 8)) (h : 64 < k.length) : sum (Sha.sum k) m = sum k m := by
  have e : block (Sha.sum k) = block k := by
    unfold block key
    rw [if_neg (by rw [Sha.sum_length]; decide), if_pos h]
  unfold sum; rw [e]

/-- The first i bytes are turned, the others noughts. -/
def turnedTo (b : List (BitVec 8)) (x : BitVec 8) (i : Nat) : List (BitVec 8) := turned (b.take i) x ++ List.replicate (b.length - i) 0#8
theorem turnedTo_zero (b : List (BitVec 8)) (x : BitVec 8) : turnedTo b x 0 = List.replicate b.length 0#8 := by simp [turnedTo, turned]
theorem turnedTo_all (b : List (BitVec 8)) (x : BitVec 8) : turnedTo b x b.length = turned b x := by simp [turnedTo]
theorem turnedTo_length (b : List (BitVec 8)) (x : BitVec 8) (i : Nat) (h : i ≤ b.length) : (turnedTo b x i).length = b.length := by simp [turnedTo, turned]; omega
theorem turnedTo_step (b : List (BitVec 8)) (x : BitVec 8) (i : Nat) (h : i < b.length) : (turnedTo b x i).set i (b.getD i 0 ^^^ x) = turnedTo b x (i + 1) := by
  have hl : (turned (b.take i) x).length = i := by simp [turned]; omega
  unfold turnedTo
  rw [List.set_append_right _ _ (by omega), hl, Nat.sub_self]
  rw [show b.length - i = (b.length - (i + 1)) + 1 by omega, List.replicate_succ, List.set_cons_zero]
  have : turned (b.take (i + 1)) x = turned (b.take i) x ++ [b.getD i 0 ^^^ x] := by
    rw [List.take_succ_eq_append_getElem h, List.getD_eq_getElem?_getD, List.getElem?_eq_getElem h]
    simp only [turned, List.map_append, List.map_cons, List.map_nil, Option.getD_some]
  rw [this, List.append_assoc]
  rfl

end Mac
end Go.Proofs.YtnfgakbfnmmhcaaDoor
