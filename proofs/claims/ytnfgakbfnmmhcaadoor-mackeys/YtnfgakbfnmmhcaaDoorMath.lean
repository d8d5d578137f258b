/-
  SHA-256 as plain functions on lists of bits: the words of a block, the rounds, the chain over a message's blocks, its end. Nothing of the program.
-/
namespace Go.Proofs.YtnfgakbfnmmhcaaDoor.Sha

def rotr (x : BitVec 32) (n : Nat) : BitVec 32 := (x <<< (32 - n)) ||| (x >>> n)

def K : List (BitVec 32) := [0x428a2f98#32, 0x71374491#32, 0xb5c0fbcf#32, 0xe9b5dba5#32, 0x3956c25b#32, 0x59f111f1#32, 0x923f82a4#32, 0xab1c5ed5#32,
  0xd807aa98#32, 0x12835b01#32, 0x243185be#32, 0x550c7dc3#32, 0x72be5d74#32, 0x80deb1fe#32, 0x9bdc06a7#32, 0xc19bf174#32,
  0xe49b69c1#32, 0xefbe4786#32, 0x0fc19dc6#32, 0x240ca1cc#32, 0x2de92c6f#32, 0x4a7484aa#32, 0x5cb0a9dc#32, 0x76f988da#32,
  0x983e5152#32, 0xa831c66d#32, 0xb00327c8#32, 0xbf597fc7#32, 0xc6e00bf3#32, 0xd5a79147#32, 0x06ca6351#32, 0x14292967#32,
  0x27b70a85#32, 0x2e1b2138#32, 0x4d2c6dfc#32, 0x53380d13#32, 0x650a7354#32, 0x766a0abb#32, 0x81c2c92e#32, 0x92722c85#32,
  0xa2bfe8a1#32, 0xa81a664b#32, 0xc24b8b70#32, 0xc76c51a3#32, 0xd192e819#32, 0xd6990624#32, 0xf40e3585#32, 0x106aa070#32,
  0x19a4c116#32, 0x1e376c08#32, 0x2748774c#32, 0x34b0bcb5#32, 0x391c0cb3#32, 0x4ed8aa4a#32, 0x5b9cca4f#32, 0x682e6ff3#32,
  0x748f82ee#32, 0x78a5636f#32, 0x84c87814#32, 0x8cc70208#32, 0x90befffa#32, 0xa4506ceb#32, 0xbef9a3f7#32, 0xc67178f2#32]

def start : List (BitVec 32) := [0x6a09e667#32, 0xbb67ae85#32, 0x3c6ef372#32, 0xa54ff53a#32, 0x510e527f#32, 0x9b05688c#32, 0x1f83d9ab#32, 0x5be0cd19#32]

theorem K_length : K.length = 64 := rfl
theorem start_length : start.length = 8 := rfl

/-- Bytes as one word, the highest first. -/
def word (bs : List (BitVec 8)) : BitVec 32 := bs.foldl (fun a c => a <<< 8 ||| c.setWidth 32) 0#32

/-- The words of a block's first i bytes, and noughts. -/
def words (blk : List (BitVec 8)) (i : Nat) : List (BitVec 32) := (List.range 64).map fun j => word (((blk.take i).drop (4 * j)).take 4)

def s0 (x : BitVec 32) : BitVec 32 := rotr x 7 ^^^ rotr x 18 ^^^ x >>> 3
def s1 (x : BitVec 32) : BitVec 32 := rotr x 17 ^^^ rotr x 19 ^^^ x >>> 10

/-- n words more. -/
def sched (w : List (BitVec 32)) : Nat → List (BitVec 32)
  | 0 => w
  | n + 1 => (sched w n).set (16 + n) ((sched w n).getD n 0 + s0 ((sched w n).getD (n + 1) 0) + (sched w n).getD (n + 9) 0 + s1 ((sched w n).getD (n + 14) 0))

def spread (blk : List (BitVec 8)) : List (BitVec 32) := sched (words blk 64) 48

structure St where
  a : BitVec 32
  b : BitVec 32
  c : BitVec 32
  d : BitVec 32
  e : BitVec 32
  f : BitVec 32
  g : BitVec 32
  h : BitVec 32

def t1 (s : St) (k w : BitVec 32) : BitVec 32 := s.h + (rotr s.e 6 ^^^ rotr s.e 11 ^^^ rotr s.e 25) + (s.e &&& s.f ^^^ ~~~ s.e &&& s.g) + k + w
def t2 (s : St) : BitVec 32 := (rotr s.a 2 ^^^ rotr s.a 13 ^^^ rotr s.a 22) + (s.a &&& s.b ^^^ s.a &&& s.c ^^^ s.b &&& s.c)
def round (s : St) (k w : BitVec 32) : St := ⟨t1 s k w + t2 s, s.a, s.b, s.c, s.d + t1 s k w, s.e, s.f, s.g⟩

def run (ws : List (BitVec 32)) (s : St) : Nat → St
  | 0 => s
  | t + 1 => round (run ws s t) (K.getD t 0) (ws.getD t 0)

def ofL (l : List (BitVec 32)) : St := ⟨l.getD 0 0, l.getD 1 0, l.getD 2 0, l.getD 3 0, l.getD 4 0, l.getD 5 0, l.getD 6 0, l.getD 7 0⟩
def toL (s : St) : List (BitVec 32) := [s.a, s.b, s.c, s.d, s.e, s.f, s.g, s.h]

/-- The first i of eight added. -/
def addTo (st v : List (BitVec 32)) : Nat → List (BitVec 32)
  | 0 => st
  | i + 1 => (addTo st v i).set i ((addTo st v i).getD i 0 + v.getD i 0)

def mix (st : List (BitVec 32)) (blk : List (BitVec 8)) : List (BitVec 32) := addTo st (toL (run (spread blk) (ofL st) 64)) 8

theorem words_length (blk : List (BitVec 8)) (i : Nat) : (words blk i).length = 64 := by simp [words]
theorem sched_length (w : List (BitVec 32)) : ∀ n, (sched w n).length = w.length
  | 0 => rfl
  | n + 1 => by rw [sched, List.length_set, sched_length w n]
theorem spread_length (blk : List (BitVec 8)) : (spread blk).length = 64 := by rw [spread, sched_length, words_length]
theorem addTo_length (st v : List (BitVec 32)) : ∀ n, (addTo st v n).length = st.length
  | 0 => rfl
  | n + 1 => by rw [addTo, List.length_set, addTo_length st v n]
theorem mix_length (st : List (BitVec 32)) (blk : List (BitVec 8)) : (mix st blk).length = st.length := addTo_length _ _ _

theorem range_map_set {α : Type} (n i : Nat) (f g : Nat → α) (x : α) (hx : g i = x) (h : ∀ j, j < n → j ≠ i → g j = f j) :
    ((List.range n).map f).set i x = (List.range n).map g := by
  apply List.ext_getElem
  · simp
  · intro j h1 h2
    simp at h1 h2
    rw [List.getElem_set]
    by_cases e : i = j
    · subst e; simp [hx]
    · rw [if_neg e]; simp [h j h2 (fun e' => e e'.symm)]

theorem words_getD (blk : List (BitVec 8)) (i j : Nat) (h : j < 64) : (words blk i).getD j 0 = word (((blk.take i).drop (4 * j)).take 4) := by
  rw [words, List.getD_eq_getElem?_getD, List.getElem?_map, List.getElem?_range h]; rfl

theorem word_snoc (bs : List (BitVec 8)) (c : BitVec 8) : word (bs ++ [c]) = word bs <<< 8 ||| c.setWidth 32 := by
  rw [word, word, List.foldl_append]; rfl

/-- One byte more. -/
theorem words_step (blk : List (BitVec 8)) (k : Nat) (hk : k < 64) (hl : blk.length = 64) :
    (words blk k).set (k / 4) ((words blk k).getD (k / 4) 0 <<< 8 ||| (blk.getD k 0).setWidth 32) = words blk (k + 1) := by
  have ht : blk.take (k + 1) = blk.take k ++ [blk.getD k 0] := by
    rw [List.take_succ_eq_append_getElem (by omega), List.getD_eq_getElem?_getD, List.getElem?_eq_getElem (by omega)]; rfl
  rw [words_getD _ _ _ (by omega), ← word_snoc]
  apply range_map_set
  · have e1 : ((blk.take k).drop (4 * (k / 4))).take 4 = (blk.take k).drop (4 * (k / 4)) := List.take_of_length_le (by simp; omega)
    have e2 : ((blk.take k).drop (4 * (k / 4)) ++ [blk.getD k 0]).take 4 = (blk.take k).drop (4 * (k / 4)) ++ [blk.getD k 0] := List.take_of_length_le (by simp; omega)
    rw [ht, List.drop_append_of_le_length (by simp; omega), e1, e2]
  · intro j hj hne
    rw [ht]
    by_cases h : j < k / 4
    · rw [List.drop_append_of_le_length (by simp; omega), List.take_append_of_le_length (by simp; omega)]
    · rw [List.drop_of_length_le (by simp; omega), List.drop_of_length_le (by simp; omega)]

theorem words_zero (blk : List (BitVec 8)) : words blk 0 = List.replicate 64 0#32 := by
  simp only [words, List.take_zero, List.drop_nil, List.take_nil]
  rfl

/-- Behind k whole blocks. -/
def chain (m : List (BitVec 8)) : Nat → List (BitVec 32)
  | 0 => start
  | k + 1 => mix (chain m k) ((m.drop (64 * k)).take 64)

theorem chain_length (m : List (BitVec 8)) : ∀ k, (chain m k).length = 8
  | 0 => rfl
  | k + 1 => by rw [chain, mix_length, chain_length m k]

theorem chain_append (m x : List (BitVec 8)) : ∀ k, 64 * k ≤ m.length → chain (m ++ x) k = chain m k
  | 0, _ => rfl
  | k + 1, h => by
    rw [chain, chain, chain_append m x k (by omega)]
    congr 1
    rw [List.drop_append_of_le_length (by omega), List.take_append_of_le_length (by simp; omega)]

/-- A number in eight bytes, the highest first. -/
def be8 (n : Nat) : List (BitVec 8) := (List.range 8).map fun i => BitVec.ofNat 8 (n >>> (8 * (7 - i)))

/-- What stands behind n bytes. -/
def ending (n : Nat) : List (BitVec 8) := 128#8 :: (List.replicate ((119 - n % 64) % 64) 0#8 ++ be8 (n * 8))

/-- The words' bytes, the highest first. -/
def out (st : List (BitVec 32)) : List (BitVec 8) := (List.range 32).map fun i => (st.getD (i / 4) 0 >>> (8 * (3 - i % 4))).setWidth 8

/-- All bytes with their end. -/
def whole (m : List (BitVec 8)) : List (BitVec 8) := m ++ ending m.length

def sum (m : List (BitVec 8)) : List (BitVec 8) := out (chain (whole m) ((whole m).length / 64))

theorem out_length (st : List (BitVec 32)) : (out st).length = 32 := by simp [out]
theorem sum_length (m : List (BitVec 8)) : (sum m).length = 32 := out_length _

theorem ending_length (n : Nat) : (ending n).length = 9 + (119 - n % 64) % 64 := by simp [ending, be8]; omega

def hex (n : Nat) : BitVec 8 := [48#8, 49#8, 50#8, 51#8, 52#8, 53#8, 54#8, 55#8, 56#8, 57#8, 97#8, 98#8, 99#8, 100#8, 101#8, 102#8].getD n 0
def text (h : List (BitVec 8)) : List (BitVec 8) := h.flatMap fun c => [hex (c.toNat / 16), hex (c.toNat % 16)]

theorem abc : text (sum [97#8, 98#8, 99#8]) = [98#8, 97#8, 55#8, 56#8, 49#8, 54#8, 98#8, 102#8, 56#8, 102#8, 48#8, 49#8, 99#8, 102#8, 101#8, 97#8, 52#8, 49#8, 52#8, 49#8, 52#8, 48#8, 100#8, 101#8, 53#8, 100#8, 97#8, 101#8, 50#8, 50#8, 50#8, 51#8, 98#8, 48#8, 48#8, 51#8, 54#8, 49#8, 97#8, 51#8, 57#8, 54#8, 49#8, 55#8, 55#8, 97#8, 57#8, 99#8, 98#8, 52#8, 49#8, 48#8, 102#8, 102#8, 54#8, 49#8, 102#8, 50#8, 48#8, 48#8, 49#8, 53#8, 97#8, 100#8] := by decide +kernel

end Go.Proofs.YtnfgakbfnmmhcaaDoor.Sha
