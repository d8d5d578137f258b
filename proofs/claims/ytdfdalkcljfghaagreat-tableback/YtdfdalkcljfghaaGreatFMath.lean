/-
  Numbers as bytes, and what a reader of bytes answers: plain Lean. Plain facts on CRC-32 as a function on bit vectors: no program, no model. One bit's step is linear and injective; so is a byte's, and a row's. Frames as lists of bytes: what the program lays and reads, what the document lays and reads; that both tell the same.
-/
import Derived.Test.YtdfdalkcljfghaaGreatMath
namespace Go.Proofs.YtdfdalkcljfghaaGreat

/-- So many lowest bytes of n, the lowest first. -/
def fixedL : Nat → Nat → List UInt8
  | _, 0 => []
  | n, k + 1 => UInt8.ofNat n :: fixedL (n / 256) k

/-- The number that bytes are. -/
def numL : List UInt8 → Nat
  | [] => 0
  | c :: l => c.toNat + 256 * numL l

theorem fixedL_length : ∀ (k n : Nat), (fixedL n k).length = k
  | 0, _ => rfl
  | k + 1, n => by simp [fixedL, fixedL_length k]

theorem fixedL_snoc : ∀ (k n : Nat), fixedL n (k + 1) = fixedL n k ++ [UInt8.ofNat (n / 256 ^ k)]
  | 0, n => by simp [fixedL]
  | k + 1, n => by
    rw [fixedL, fixedL_snoc k (n / 256), fixedL, List.cons_append, Nat.div_div_eq_div_mul, Nat.pow_succ, Nat.mul_comm 256]

theorem numL_fixedL : ∀ (k n : Nat), numL (fixedL n k) = n % 256 ^ k
  | 0, n => by simp [fixedL, numL, Nat.mod_one]
  | k + 1, n => by
    rw [fixedL, numL, numL_fixedL k, Nat.pow_succ, Nat.mul_comm (256 ^ k), Nat.mod_mul]
    simp

theorem numL_snoc : ∀ (l : List UInt8) (c : UInt8), numL (l ++ [c]) = numL l + 256 ^ l.length * c.toNat
  | [], c => by simp [numL]
  | d :: l, c => by
    rw [List.cons_append, numL, numL_snoc l c, numL, List.length_cons, Nat.pow_succ, Nat.mul_add, Nat.mul_comm (256 ^ l.length) 256, Nat.mul_assoc, Nat.add_assoc]

theorem numL_lt : ∀ (l : List UInt8), numL l < 256 ^ l.length
  | [] => by simp [numL]
  | c :: l => by
    have := numL_lt l
    have := c.toNat_lt
    rw [numL, List.length_cons, Nat.pow_succ]
    omega

/-- From 0 to 8. -/
def sizeN (m : Int) : Nat := if m < 0 then 0 else if 8 < m then 8 else m.toNat
theorem sizeN_le (m : Int) : sizeN m ≤ 8 := by unfold sizeN; split <;> (try split) <;> omega

/-- A text with its length. -/
def textL (s : List UInt8) : List UInt8 := fixedL s.length 2 ++ s
theorem textL_length (s : List UInt8) : (textL s).length = s.length + 2 := by simp [textL, fixedL_length]; omega
def textsL (ss : List ByteArray) : List UInt8 := ss.flatMap fun s => textL s.data.toList

/-- What a reader answers, what is left, its error. -/
def takeL (l : List UInt8) (e : Int) (k : Nat) : List UInt8 × List UInt8 × Int :=
  if l.length < k then ([], [], if e = 0 then 51 else e) else (l.take k, l.drop k, e)
/-- An error. -/
def failL (e x : Int) : Int := if e = 0 then x else e
def fixL (l : List UInt8) (e : Int) (m : Int) : Nat × List UInt8 × Int := (numL (takeL l e (sizeN m)).1, (takeL l e (sizeN m)).2)
def txtL (l : List UInt8) (e : Int) (most : Int) : List UInt8 × List UInt8 × Int :=
  let f := fixL l e 2
  if most < (f.1 : Int) then takeL [] (failL f.2.2 52) f.1 else takeL f.2.1 f.2.2 f.1
def endL (l : List UInt8) (e : Int) : Int := if l.length = 0 then e else 52

/-- Behind an error nothing is left. -/
def Over (l : List UInt8) (e : Int) : Prop := e ≠ 0 → l = []

theorem takeL_over {l : List UInt8} {e : Int} {k : Nat} (h : Over l e) : Over (takeL l e k).2.1 (takeL l e k).2.2 := by
  unfold takeL
  split
  · intro _; rfl
  · intro he
    rw [h he]
    simp
theorem failL_ne (e x : Int) (hx : x ≠ 0) : failL e x ≠ 0 := by unfold failL; split <;> assumption
theorem takeL_short {l : List UInt8} {e : Int} {k : Nat} (h : l.length < k) : takeL l e k = ([], [], failL e 51) := by unfold takeL failL; rw [if_pos h]
theorem takeL_long {l : List UInt8} {e : Int} {k : Nat} (h : ¬ l.length < k) : takeL l e k = (l.take k, l.drop k, e) := by unfold takeL; rw [if_neg h]
theorem takeL_err {e : Int} (h : e ≠ 0) (k : Nat) : takeL [] e k = ([], [], e) := by
  unfold takeL
  by_cases hk : ([] : List UInt8).length < k
  · rw [if_pos hk, if_neg h]
  · rw [if_neg hk]; simp
theorem txtL_over {l : List UInt8} {e : Int} {most : Int} (h : Over l e) : Over (txtL l e most).2.1 (txtL l e most).2.2 := by
  unfold txtL
  simp only
  split
  · rw [takeL_err (failL_ne _ _ (by decide))]
    intro _; rfl
  · exact takeL_over (takeL_over h)
theorem takeL_answer {l : List UInt8} {e : Int} {k : Nat} : (takeL l e k).1.length ≤ k := by
  unfold takeL
  split
  · simp
  · rw [List.length_take]; omega
theorem fixL_lt (l : List UInt8) (e m : Int) : (fixL l e m).1 < 256 ^ (sizeN m) := by
  refine Nat.lt_of_lt_of_le (numL_lt _) (Nat.pow_le_pow_right (by decide) takeL_answer)
/-- 'append(b, t..)' of a list, one more. -/
theorem take_snoc {α : Type} (d : α) (bs : List α) (k : Nat) (h : k < bs.length) : bs.take (k + 1) = bs.take k ++ [bs.getD k d] := by
  rw [List.take_succ_eq_append_getElem h, List.getD_eq_getElem?_getD, List.getElem?_eq_getElem h]
  rfl
end Go.Proofs.YtdfdalkcljfghaaGreat

namespace Go.Proofs.YtdfdalkcljfghaaGreat.Crc

def poly : BitVec 32 := 0xEDB88320#32
def bit (r : BitVec 32) : BitVec 32 := if r.getLsbD 0 then (r >>> 1) ^^^ poly else r >>> 1
def iter : Nat → BitVec 32 → BitVec 32
  | 0, r => r
  | n + 1, r => bit (iter n r)
def step (r : BitVec 32) (c : BitVec 8) : BitVec 32 := iter 8 (r ^^^ c.setWidth 32)
def run (r : BitVec 32) (bs : List (BitVec 8)) : BitVec 32 := bs.foldl step r
def more (s : BitVec 32) (bs : List (BitVec 8)) : BitVec 32 := ~~~ run (~~~ s) bs

theorem bit_xor (a b : BitVec 32) : bit (a ^^^ b) = bit a ^^^ bit b := by
  unfold bit
  rw [BitVec.getLsbD_xor, BitVec.ushiftRight_xor_distrib]
  generalize a >>> 1 = x
  generalize b >>> 1 = y
  cases a.getLsbD 0 <;> cases b.getLsbD 0 <;> simp
  · ac_rfl
  · ac_rfl
  · rw [show x ^^^ poly ^^^ (y ^^^ poly) = (poly ^^^ poly) ^^^ (x ^^^ y) from by ac_rfl]
    simp

theorem bit_zero : bit 0#32 = 0#32 := by decide

theorem getLsbD_poly_31 : poly.getLsbD 31 = true := by decide

/-- The highest bit of what comes out is the bit that fell out. -/
theorem bit_msb (r : BitVec 32) : (bit r).getLsbD 31 = r.getLsbD 0 := by
  unfold bit
  cases h : r.getLsbD 0 <;> simp [getLsbD_poly_31]

theorem bit_eq_zero {r : BitVec 32} (h : bit r = 0#32) : r = 0#32 := by
  have h0 : r.getLsbD 0 = false := by rw [← bit_msb, h]; rfl
  have h1 : r >>> 1 = 0#32 := by
    unfold bit at h
    rw [h0] at h
    simpa using h
  apply BitVec.eq_of_getLsbD_eq
  intro i hi
  rcases i with _ | i
  · rw [h0]; simp
  · have : (r >>> 1).getLsbD i = false := by rw [h1]; simp
    rw [BitVec.getLsbD_ushiftRight, Nat.add_comm] at this
    rw [this]; simp

theorem iter_xor (n : Nat) (a b : BitVec 32) : iter n (a ^^^ b) = iter n a ^^^ iter n b := by
  induction n with
  | zero => rfl
  | succ n ih => rw [iter, iter, iter, ih, bit_xor]

theorem iter_zero (n : Nat) : iter n 0#32 = 0#32 := by
  induction n with
  | zero => rfl
  | succ n ih => rw [iter, ih, bit_zero]

theorem iter_eq_zero (n : Nat) {r : BitVec 32} (h : iter n r = 0#32) : r = 0#32 := by
  induction n with
  | zero => exact h
  | succ n ih => exact ih (bit_eq_zero h)

theorem iter_add (m n : Nat) (r : BitVec 32) : iter (m + n) r = iter m (iter n r) := by
  induction m with
  | zero => rw [Nat.zero_add]; rfl
  | succ m ih => rw [Nat.add_right_comm, iter, iter, ih]

theorem xor_eq_zero {w : Nat} {a b : BitVec w} (h : a ^^^ b = 0#w) : a = b := by
  have : a ^^^ b ^^^ b = 0#w ^^^ b := by rw [h]
  rw [BitVec.xor_assoc, BitVec.xor_self, BitVec.xor_zero, BitVec.zero_xor] at this
  exact this

theorem iter_inj (n : Nat) {a b : BitVec 32} (h : iter n a = iter n b) : a = b :=
  xor_eq_zero (iter_eq_zero n (by rw [iter_xor, h, BitVec.xor_self]))

theorem step_xor (a b : BitVec 32) (c d : BitVec 8) : step (a ^^^ b) (c ^^^ d) = step a c ^^^ step b d := by
  unfold step
  rw [← iter_xor, BitVec.setWidth_xor]
  congr 1
  ac_rfl

theorem setWidth_inj {c d : BitVec 8} (h : c.setWidth 32 = d.setWidth 32) : c = d := by
  have h1 : (c.setWidth 32).setWidth 8 = (d.setWidth 32).setWidth 8 := by rw [h]
  rwa [BitVec.setWidth_setWidth_of_le _ (by decide), BitVec.setWidth_setWidth_of_le _ (by decide), BitVec.setWidth_eq, BitVec.setWidth_eq] at h1

theorem step_inj {r : BitVec 32} {c d : BitVec 8} (h : step r c = step r d) : c = d := by
  have h1 := iter_inj 8 h
  have h2 : r ^^^ (r ^^^ c.setWidth 32) = r ^^^ (r ^^^ d.setWidth 32) := by rw [h1]
  rw [← BitVec.xor_assoc, ← BitVec.xor_assoc, BitVec.xor_self, BitVec.zero_xor, BitVec.zero_xor] at h2
  exact setWidth_inj h2

theorem run_xor : ∀ (x y : List (BitVec 8)) (a b : BitVec 32), x.length = y.length → run (a ^^^ b) (List.zipWith (· ^^^ ·) x y) = run a x ^^^ run b y
  | [], [], _, _, _ => rfl
  | c :: x, d :: y, a, b, h => by
    simp only [List.zipWith_cons_cons, run, List.foldl_cons, step_xor]
    exact run_xor x y (step a c) (step b d) (by simpa using h)
  | [], _ :: _, _, _, h => by simp at h
  | _ :: _, [], _, _, h => by simp at h

theorem run_append (r : BitVec 32) (x y : List (BitVec 8)) : run r (x ++ y) = run (run r x) y := by
  unfold run; rw [List.foldl_append]

theorem not_not (x : BitVec 32) : ~~~ (~~~ x) = x := BitVec.not_not

theorem more_append (s : BitVec 32) (x y : List (BitVec 8)) : more s (x ++ y) = more (more s x) y := by
  unfold more; rw [run_append, BitVec.not_not]

theorem more_nil (s : BitVec 32) : more s [] = s := by unfold more run; simp [BitVec.not_not]

theorem more_one_inj {s : BitVec 32} {c d : BitVec 8} (h : more s [c] = more s [d]) : c = d := by
  unfold more run at h
  simp only [List.foldl_cons, List.foldl_nil] at h
  exact step_inj (BitVec.not_inj.1 h)

end Go.Proofs.YtdfdalkcljfghaaGreat.Crc

namespace Go.Proofs.YtdfdalkcljfghaaGreat

/-- The sum of bytes. -/
def bv (l : List UInt8) : List (BitVec 8) := l.map UInt8.toBitVec
def crcN (l : List UInt8) : Nat := (Crc.more 0#32 (bv l)).toNat
theorem crcN_lt (l : List UInt8) : crcN l < 4294967296 := (Crc.more 0#32 (bv l)).isLt

/-- The thirteen bytes ahead of a body; a frame's bytes up to its sum; with it. -/
def h13 (k : UInt8) (s n : Nat) : List UInt8 := [66, 74] ++ (fixedL k.toNat 1 ++ (fixedL s 8 ++ fixedL n 2))
def headF (k : UInt8) (s : Nat) (b : List UInt8) : List UInt8 := h13 k s b.length ++ b
def rowF (k : UInt8) (s : Nat) (b : List UInt8) : List UInt8 := headF k s b ++ fixedL (crcN (headF k s b)) 4
def sizeF (n : Int) : Nat := if n < 0 ∨ 4000 < n then 0 else (n.toNat + 79) / 63
def piece (r : List UInt8) (k : Nat) : List UInt8 := (r.drop (63 * k)).take 63
def secF (p : List UInt8) : Sec := p ++ (List.replicate (63 - p.length) 255 ++ [0])
def cutN (r : List UInt8) : Nat := (r.length + 62) / 63
def cutF (r : List UInt8) : List Sec := (List.range (cutN r)).map fun k => secF (piece r k)
def putF (k : UInt8) (s : Nat) (b : List UInt8) : List Sec := if 4000 < b.length then [] else cutF (rowF k s b)
def joinedF (l : List Sec) : List UInt8 := (l.map fun s => s.take 63).flatten
def kF (r : List UInt8) : UInt8 := r.getD 2 0
def seqF (r : List UInt8) : Nat := numL ((r.drop 3).take 8)
def lenF (r : List UInt8) : Nat := numL ((r.drop 11).take 2)
def bodyF (r : List UInt8) : List UInt8 := (takeL (r.drop 13) 0 (lenF r)).1
def toldF (l : List Sec) : Nat := if l.length = 0 then 0 else sizeF (lenF (l.getD 0 []))
def noF : UInt8 × Nat × List UInt8 × Nat := (0, 0, [], 0)
def getF (l : List Sec) : UInt8 × Nat × List UInt8 × Nat :=
  if toldF l = 0 ∨ l.length < toldF l then noF
  else
    let r := joinedF (l.take (toldF l))
    if putF (kF r) (seqF r) (bodyF r) = l.take (toldF l) then (kF r, seqF r, bodyF r, toldF l) else noF

/-! ### lengths -/
theorem h13_length (k : UInt8) (s n : Nat) : (h13 k s n).length = 13 := by simp [h13, fixedL_length]
theorem headF_length (k : UInt8) (s : Nat) (b : List UInt8) : (headF k s b).length = 13 + b.length := by simp [headF, h13_length]
theorem rowF_length (k : UInt8) (s : Nat) (b : List UInt8) : (rowF k s b).length = 17 + b.length := by
  simp [rowF, headF_length, fixedL_length]; omega
theorem piece_length (r : List UInt8) (k : Nat) : (piece r k).length = min 63 (r.length - 63 * k) := by simp [piece]
theorem piece_le (r : List UInt8) (k : Nat) : (piece r k).length ≤ 63 := by rw [piece_length]; omega
theorem secF_length {p : List UInt8} (h : p.length ≤ 63) : (secF p).length = 64 := by simp [secF]; omega
theorem cutF_length (r : List UInt8) : (cutF r).length = cutN r := by simp [cutF]
theorem cutF_sec (r : List UInt8) : ∀ s ∈ cutF r, s.length = 64 := by
  intro s hs
  obtain ⟨k, _, rfl⟩ := List.mem_map.1 hs
  exact secF_length (piece_le r k)
theorem putF_sec (k : UInt8) (s : Nat) (b : List UInt8) : ∀ x ∈ putF k s b, x.length = 64 := by
  intro x hx
  unfold putF at hx
  split at hx
  · simp at hx
  · exact cutF_sec _ x hx
theorem sizeF_pos {n : Nat} (h : n ≤ 4000) : sizeF n = (n + 79) / 63 := by
  unfold sizeF
  rw [if_neg (by omega)]
  simp
theorem sizeF_le (n : Int) : sizeF n ≤ 64 := by unfold sizeF; split <;> omega
theorem putF_length {b : List UInt8} (h : b.length ≤ 4000) (k : UInt8) (s : Nat) : (putF k s b).length = sizeF b.length := by
  unfold putF
  rw [if_neg (by omega), cutF_length, cutN, rowF_length, sizeF_pos h, show 17 + b.length + 62 = b.length + 79 by omega]
theorem putF_none {b : List UInt8} (h : ¬ b.length ≤ 4000) (k : UInt8) (s : Nat) : putF k s b = [] := by
  unfold putF
  rw [if_pos (by omega)]

/-! ### a row, filled up -/
def fillF (r : List UInt8) : List UInt8 := r ++ List.replicate (63 * cutN r - r.length) 255
theorem fillF_length (r : List UInt8) : (fillF r).length = 63 * cutN r := by
  simp [fillF, cutN]; omega
theorem secF_fill (r : List UInt8) {k : Nat} (hk : k < cutN r) : secF (piece r k) = ((fillF r).drop (63 * k)).take 63 ++ [0] := by
  have hlen : 63 * k < r.length := by unfold cutN at hk; omega
  unfold secF piece fillF
  rw [← List.append_assoc]
  congr 1
  rw [List.drop_append, List.take_append, show 63 * k - r.length = 0 by omega, List.drop_zero]
  congr 1
  rw [List.take_replicate]
  congr 1
  simp
  unfold cutN at *
  omega
theorem cutF_fill (r : List UInt8) : cutF r = (List.range (cutN r)).map fun k => ((fillF r).drop (63 * k)).take 63 ++ [0] := by
  unfold cutF
  apply List.map_congr_left
  intro k hk
  exact secF_fill r (by simpa using hk)
theorem chunks_take (p : List UInt8) : ∀ n, 63 * n ≤ p.length → ((List.range n).map fun k => (p.drop (63 * k)).take 63).flatten = p.take (63 * n)
  | 0, _ => by simp
  | n + 1, h => by
    rw [List.range_succ, List.map_append, List.flatten_append, chunks_take p n (by omega), show 63 * (n + 1) = 63 * n + 63 by omega, List.take_add]
    simp
theorem joinedF_cut (r : List UInt8) : joinedF (cutF r) = fillF r := by
  unfold joinedF
  rw [cutF_fill, List.map_map]
  have e : ((List.range (cutN r)).map ((fun s : Sec => s.take 63) ∘ fun k => ((fillF r).drop (63 * k)).take 63 ++ [0])) = (List.range (cutN r)).map fun k => ((fillF r).drop (63 * k)).take 63 := by
    apply List.map_congr_left
    intro k hk
    have hk' : k < cutN r := by simpa using hk
    have hl : (((fillF r).drop (63 * k)).take 63).length = 63 := by
      rw [List.length_take, List.length_drop, fillF_length]; omega
    simp only [Function.comp]
    rw [List.take_append_of_le_length (by omega), List.take_of_length_le (by omega)]
  rw [e, chunks_take _ _ (by rw [fillF_length]; exact Nat.le_refl _), List.take_of_length_le (by rw [fillF_length]; exact Nat.le_refl _)]
theorem cutF_last (r : List UInt8) : ∀ s ∈ cutF r, s.getD 63 1 = 0 := by
  intro s hs
  rw [cutF_fill] at hs
  obtain ⟨k, hk, rfl⟩ := List.mem_map.1 hs
  have hk' : k < cutN r := by simpa using hk
  have hl : (((fillF r).drop (63 * k)).take 63).length = 63 := by
    rw [List.length_take, List.length_drop, fillF_length]; omega
  rw [List.getD_eq_getElem?_getD, List.getElem?_append_right (by omega), hl]
  rfl
theorem putF_last (k : UInt8) (s : Nat) (b : List UInt8) : ∀ x ∈ putF k s b, x.getD 63 1 = 0 := by
  intro x hx
  unfold putF at hx
  split at hx
  · simp at hx
  · exact cutF_last _ x hx

/-! ### what thirteen bytes say -/
theorem field (x : List UInt8) {i j : Nat} (h : i + j ≤ 13) : (x.drop i).take j = ((x.take 13).drop i).take j := by
  rw [List.drop_take, List.take_take, Nat.min_eq_left (by omega)]
theorem getD_take {x : List UInt8} {i m : Nat} (d : UInt8) (h : i < m) : (x.take m).getD i d = x.getD i d := by
  rw [List.getD_eq_getElem?_getD, List.getElem?_take_of_lt h, ← List.getD_eq_getElem?_getD]
theorem one_byte (k : UInt8) : fixedL k.toNat 1 = [k] := by simp [fixedL]
theorem h13_cons (k : UInt8) (s n : Nat) : h13 k s n = 66 :: 74 :: k :: (fixedL s 8 ++ fixedL n 2) := by simp [h13, one_byte]
theorem said0 {x : List UInt8} {k : UInt8} {s n : Nat} (h : x.take 13 = h13 k s n) : x.getD 0 0 = 66 := by
  rw [← getD_take (m := 13) 0 (by omega), h, h13_cons]; rfl
theorem said1 {x : List UInt8} {k : UInt8} {s n : Nat} (h : x.take 13 = h13 k s n) : x.getD 1 0 = 74 := by
  rw [← getD_take (m := 13) 0 (by omega), h, h13_cons]; rfl
theorem saidK {x : List UInt8} {k : UInt8} {s n : Nat} (h : x.take 13 = h13 k s n) : kF x = k := by
  unfold kF
  rw [← getD_take (m := 13) 0 (by omega), h, h13_cons]; rfl
theorem saidS {x : List UInt8} {k : UInt8} {s n : Nat} (h : x.take 13 = h13 k s n) (hs : s < 18446744073709551616) : seqF x = s := by
  unfold seqF
  rw [field x (by omega), h, h13_cons]
  show numL ((fixedL s 8 ++ fixedL n 2).take 8) = s
  rw [List.take_append_of_le_length (by rw [fixedL_length]; omega), List.take_of_length_le (by rw [fixedL_length]; omega), numL_fixedL]
  exact Nat.mod_eq_of_lt (by simpa using hs)
theorem saidN {x : List UInt8} {k : UInt8} {s n : Nat} (h : x.take 13 = h13 k s n) (hn : n < 65536) : lenF x = n := by
  unfold lenF
  rw [field x (by omega), h, h13_cons]
  show numL (((fixedL s 8 ++ fixedL n 2).drop 8).take 2) = n
  rw [List.drop_append, List.drop_eq_nil_of_le (by rw [fixedL_length]; omega), fixedL_length, List.nil_append, Nat.sub_self, List.drop_zero, List.take_of_length_le (by rw [fixedL_length]; omega), numL_fixedL]
  exact Nat.mod_eq_of_lt (by simpa using hn)
theorem same_fields {x y : List UInt8} (h : x.take 13 = y.take 13) : kF x = kF y ∧ seqF x = seqF y ∧ lenF x = lenF y ∧ x.getD 0 0 = y.getD 0 0 ∧ x.getD 1 0 = y.getD 1 0 := by
  refine ⟨?_, ?_, ?_, ?_, ?_⟩
  · unfold kF; rw [← getD_take (m := 13) 0 (by omega), h, getD_take 0 (by omega)]
  · unfold seqF; rw [field x (by omega), h, ← field y (by omega)]
  · unfold lenF; rw [field x (by omega), h, ← field y (by omega)]
  · rw [← getD_take (m := 13) 0 (by omega), h, getD_take 0 (by omega)]
  · rw [← getD_take (m := 13) 0 (by omega), h, getD_take 0 (by omega)]
theorem lenF_lt (x : List UInt8) : lenF x < 65536 := by
  unfold lenF
  refine Nat.lt_of_lt_of_le (numL_lt _) (Nat.le_trans (Nat.pow_le_pow_right (by decide) (List.length_take_le 2 _)) (by decide))
theorem seqF_lt (x : List UInt8) : seqF x < 18446744073709551616 := by
  unfold seqF
  refine Nat.lt_of_lt_of_le (numL_lt _) (Nat.le_trans (Nat.pow_le_pow_right (by decide) (List.length_take_le 8 _)) (by decide))

/-- The first thirteen bytes of a row, filled up. -/
theorem fill_13 (k : UInt8) (s : Nat) (b : List UInt8) : (fillF (rowF k s b)).take 13 = h13 k s b.length := by
  unfold fillF rowF headF
  rw [List.append_assoc, List.append_assoc, List.take_append_of_le_length (by rw [h13_length]; omega), List.take_of_length_le (by rw [h13_length]; omega)]
theorem fill_body (k : UInt8) (s : Nat) (b : List UInt8) : ((fillF (rowF k s b)).drop 13).take b.length = b := by
  unfold fillF rowF headF
  rw [List.append_assoc, List.append_assoc, List.drop_append, List.drop_eq_nil_of_le (by rw [h13_length]; omega), h13_length, Nat.sub_self, List.drop_zero, List.nil_append, List.take_append_of_le_length (by omega), List.take_of_length_le (by omega)]
theorem fill_head (k : UInt8) (s : Nat) (b : List UInt8) : (fillF (rowF k s b)).take (13 + b.length) = headF k s b := by
  unfold fillF rowF
  rw [List.append_assoc, List.take_append_of_le_length (by rw [headF_length]; omega), List.take_of_length_le (by rw [headF_length]; omega)]
theorem fill_sum (k : UInt8) (s : Nat) (b : List UInt8) : ((fillF (rowF k s b)).drop (13 + b.length)).take 4 = fixedL (crcN (headF k s b)) 4 := by
  unfold fillF rowF
  rw [List.append_assoc, List.drop_append, List.drop_eq_nil_of_le (by rw [headF_length]; omega), headF_length, Nat.sub_self, List.drop_zero, List.nil_append, List.take_append_of_le_length (by rw [fixedL_length]; omega), List.take_of_length_le (by rw [fixedL_length]; omega)]

theorem joinedF_take13 {l : List Sec} (h0 : 0 < l.length) (hs : ∀ s ∈ l, s.length = 64) : (joinedF l).take 13 = (l.getD 0 []).take 13 := by
  cases l with
  | nil => simp at h0
  | cons x l =>
    have hx : x.length = 64 := hs x (by simp)
    show (x.take 63 ++ _).take 13 = x.take 13
    rw [List.take_append_of_le_length (by rw [List.length_take]; omega), List.take_take]
    rfl
theorem joinedF_length {l : List Sec} (hs : ∀ s ∈ l, s.length = 64) : (joinedF l).length = 63 * l.length := by
  induction l with
  | nil => rfl
  | cons x l ih =>
    have hx : x.length = 64 := hs x (by simp)
    have := ih fun s h => hs s (by simp [h])
    show (x.take 63 ++ joinedF l).length = _
    rw [List.length_append, List.length_take, this, List.length_cons]
    omega

/-! ### what was put is got -/
theorem cutN_row {b : List UInt8} (h : b.length ≤ 4000) (k : UInt8) (s : Nat) : cutN (rowF k s b) = sizeF b.length := by
  rw [sizeF_pos h, cutN, rowF_length, show 17 + b.length + 62 = b.length + 79 by omega]
theorem sizeF_one {n : Nat} (h : n ≤ 4000) : 1 ≤ sizeF n ∧ n + 17 ≤ 63 * sizeF n := by
  rw [sizeF_pos h]; omega
theorem sizeF_ne {n : Nat} (h : sizeF n ≠ 0) : n ≤ 4000 := by
  unfold sizeF at h
  by_cases h' : (n : Int) < 0 ∨ 4000 < (n : Int)
  · rw [if_pos h'] at h; exact absurd rfl h
  · omega
theorem putF_cut {b : List UInt8} (h : b.length ≤ 4000) (k : UInt8) (s : Nat) : putF k s b = cutF (rowF k s b) := by
  unfold putF
  rw [if_neg (by omega)]
theorem putF_joined {b : List UInt8} (h : b.length ≤ 4000) (k : UInt8) (s : Nat) : joinedF (putF k s b) = fillF (rowF k s b) := by
  rw [putF_cut h, joinedF_cut]
theorem putF_first {b : List UInt8} (h : b.length ≤ 4000) (k : UInt8) (s : Nat) : ((putF k s b).getD 0 []).take 13 = h13 k s b.length := by
  have h1 := sizeF_one h
  have hl := putF_length h k s
  rw [← joinedF_take13 (by omega) (putF_sec k s b), putF_joined h, fill_13]
theorem bodyF_long {r : List UInt8} (h : 13 + lenF r ≤ r.length) : bodyF r = (r.drop 13).take (lenF r) := by
  unfold bodyF
  rw [takeL_long (by simp; omega)]
theorem bodyF_fill {b : List UInt8} (h : b.length ≤ 4000) (k : UInt8) (s : Nat) : bodyF (fillF (rowF k s b)) = b := by
  have hn := saidN (fill_13 k s b) (by omega)
  have h1 := sizeF_one h
  have hc := cutN_row h k s
  rw [bodyF_long (by rw [hn, fillF_length, hc]; omega), hn, fill_body]
theorem toldF_first {l : List Sec} {k : UInt8} {s n : Nat} (h0 : 0 < l.length) (h : (l.getD 0 []).take 13 = h13 k s n) (hn : n < 65536) : toldF l = sizeF n := by
  unfold toldF
  rw [if_neg (by omega), saidN h hn]
theorem getF_put {b : List UInt8} (h : b.length ≤ 4000) (k : UInt8) (s : Nat) (hs : s < 18446744073709551616) (T : List Sec) : getF (putF k s b ++ T) = (k, s, b, (putF k s b).length) := by
  have h1 := sizeF_one h
  have hl := putF_length h k s
  have hf : ((putF k s b ++ T).getD 0 []).take 13 = h13 k s b.length := by
    rw [List.getD_eq_getElem?_getD, List.getElem?_append_left (by omega), ← List.getD_eq_getElem?_getD]
    exact putF_first h k s
  have ht := toldF_first (by rw [List.length_append]; omega) hf (by omega)
  unfold getF
  rw [ht, if_neg (by rw [List.length_append]; omega)]
  have e : (putF k s b ++ T).take (sizeF b.length) = putF k s b := by rw [← hl, List.take_left]
  simp only [e]
  rw [putF_joined h, saidK (fill_13 k s b), saidS (fill_13 k s b) hs, bodyF_fill h, if_pos rfl, hl]
theorem getF_less {b : List UInt8} (h : b.length ≤ 4000) (k : UInt8) (s : Nat) : getF ((putF k s b).take ((putF k s b).length - 1)) = noF := by
  have h1 := sizeF_one h
  have hl := putF_length h k s
  unfold getF
  by_cases h2 : (putF k s b).length - 1 = 0
  · rw [if_pos (.inl (by rw [h2]; rfl))]
  · have hf : (((putF k s b).take ((putF k s b).length - 1)).getD 0 []).take 13 = h13 k s b.length := by
      rw [List.getD_eq_getElem?_getD, List.getElem?_take_of_lt (by omega), ← List.getD_eq_getElem?_getD]
      exact putF_first h k s
    have ht := toldF_first (by rw [List.length_take]; omega) hf (by omega)
    rw [ht, if_pos (.inr (by rw [List.length_take]; omega))]

/-! ### half written, or with a byte turned -/
/-- If something is got, each of its sectors ends in 0. -/
theorem getF_zero {l : List Sec} {q : Nat} (hq : q < l.length) (hz : toldF l ≤ q ∨ (l.getD q []).getD 63 1 ≠ 0) (hq0 : q < toldF l) : getF l = noF := by
  unfold getF
  split
  · rfl
  · rename_i h
    rw [not_or] at h
    simp only
    rw [if_neg]
    intro e
    have hm : l.getD q [] ∈ l.take (toldF l) := by
      rw [List.getD_eq_getElem?_getD, List.getElem?_eq_getElem hq]
      have : (l.take (toldF l))[q]? = some l[q] := by rw [List.getElem?_take_of_lt hq0, List.getElem?_eq_getElem hq]
      exact List.mem_of_getElem? this
    rw [← e] at hm
    have := putF_last _ _ _ _ hm
    rcases hz with h | h
    · omega
    · exact h this
theorem step_inj_state {r t : BitVec 32} {c : BitVec 8} (h : Crc.step r c = Crc.step t c) : r = t := by
  have h1 := Crc.iter_inj 8 h
  have h2 : (r ^^^ c.setWidth 32) ^^^ c.setWidth 32 = (t ^^^ c.setWidth 32) ^^^ c.setWidth 32 := by rw [h1]
  rwa [BitVec.xor_assoc, BitVec.xor_self, BitVec.xor_zero, BitVec.xor_assoc, BitVec.xor_self, BitVec.xor_zero] at h2
theorem run_inj_state : ∀ (y : List (BitVec 8)) {r t : BitVec 32}, Crc.run r y = Crc.run t y → r = t
  | [], _, _, h => h
  | c :: y, r, t, h => step_inj_state (run_inj_state y (r := Crc.step r c) (t := Crc.step t c) h)
/-- One byte turned: another sum. -/
theorem crcN_set {x : List UInt8} {i : Nat} (hi : i < x.length) {c : UInt8} (hc : c ≠ x.getD i 0) : crcN (x.set i c) ≠ crcN x := by
  intro h
  have e1 : Crc.more 0#32 (bv (x.set i c)) = Crc.more 0#32 (bv x) := BitVec.eq_of_toNat_eq h
  have e2 := BitVec.not_inj.1 e1
  have hx : x = x.take i ++ x.getD i 0 :: x.drop (i + 1) := by
    rw [List.getD_eq_getElem?_getD, List.getElem?_eq_getElem hi]
    simp
  have hs : x.set i c = x.take i ++ c :: x.drop (i + 1) := List.set_eq_take_append_cons_drop ▸ by simp [hi]
  rw [hs] at e2
  have e3 : Crc.run (~~~ 0#32) (bv x) = Crc.run (~~~ 0#32) (bv (x.take i ++ x.getD i 0 :: x.drop (i + 1))) := by rw [← hx]
  rw [e3] at e2
  simp only [bv, List.map_append, List.map_cons, Crc.run_append] at e2
  have e4 := run_inj_state (List.map UInt8.toBitVec (x.drop (i + 1))) (r := Crc.step _ c.toBitVec) (t := Crc.step _ (x.getD i 0).toBitVec) e2
  exact hc (UInt8.toBitVec_inj.1 (Crc.step_inj e4))
theorem joinedF_set {l : List Sec} (hs : ∀ s ∈ l, s.length = 64) {q r : Nat} (hq : q < l.length) (hr : r < 63) (c : UInt8) : joinedF (l.set q ((l.getD q []).set r c)) = (joinedF l).set (63 * q + r) c := by
  induction l generalizing q with
  | nil => simp at hq
  | cons x l ih =>
    have hx : x.length = 64 := hs x (by simp)
    have h63 : (x.take 63).length = 63 := by rw [List.length_take]; omega
    cases q with
    | zero =>
      show (x.set r c).take 63 ++ joinedF l = (x.take 63 ++ joinedF l).set (63 * 0 + r) c
      rw [List.set_append_left _ _ (by omega), List.take_set, show 63 * 0 + r = r by omega]
    | succ q =>
      show x.take 63 ++ joinedF (l.set q ((l.getD q []).set r c)) = (x.take 63 ++ joinedF l).set (63 * (q + 1) + r) c
      rw [ih (fun s h => hs s (by simp [h])) (by simpa using hq), List.set_append_right _ _ (by omega), h63, show 63 * (q + 1) + r - 63 = 63 * q + r by omega]
theorem fixedL_inj4 {a b : Nat} (ha : a < 4294967296) (hb : b < 4294967296) (h : fixedL a 4 = fixedL b 4) : a = b := by
  have := congrArg numL h
  rw [numL_fixedL, numL_fixedL, Nat.mod_eq_of_lt (by simpa using ha), Nat.mod_eq_of_lt (by simpa using hb)] at this
  exact this
/-- A frame with one byte turned, but for the two that say how long it is, is none. -/
theorem getF_turned {b : List UInt8} (h : b.length ≤ 4000) (k : UInt8) (s : Nat) {q r : Nat} (hq : q < (putF k s b).length) (hr : r < 64) (hne : ¬ (q = 0 ∧ (r = 11 ∨ r = 12))) {c : UInt8} (hc : c ≠ ((putF k s b).getD q []).getD r 0) :
    getF ((putF k s b).set q (((putF k s b).getD q []).set r c)) = noF := by
  have h1 := sizeF_one h
  have hl := putF_length h k s
  have hsec := putF_sec k s b
  have hj := putF_joined h k s
  have h0 : (((putF k s b).set q (((putF k s b).getD q []).set r c)).getD 0 []).length = 64 ∧ lenF (((putF k s b).set q (((putF k s b).getD q []).set r c)).getD 0 []) = b.length := by
    have h00 : (putF k s b).getD 0 [] ∈ putF k s b := by
      rw [List.getD_eq_getElem?_getD, List.getElem?_eq_getElem (by omega)]
      exact List.getElem_mem _
    by_cases hq0 : q = 0
    · subst hq0
      rw [List.getD_eq_getElem?_getD, List.getElem?_set_self hq]
      simp only [Option.getD_some]
      refine ⟨by rw [List.length_set]; exact hsec _ h00, ?_⟩
      have : lenF (((putF k s b).getD 0 []).set r c) = lenF ((putF k s b).getD 0 []) := by
        unfold lenF
        congr 1
        apply List.ext_getElem?
        intro i
        rw [List.getElem?_take, List.getElem?_take, List.getElem?_drop, List.getElem?_drop]
        split
        · rw [List.getElem?_set_ne (by omega)]
        · rfl
      rw [this]
      exact saidN (putF_first h k s) (by omega)
    · rw [List.getD_eq_getElem?_getD, List.getElem?_set_ne hq0, ← List.getD_eq_getElem?_getD]
      exact ⟨hsec _ h00, saidN (putF_first h k s) (by omega)⟩
  have ht : toldF ((putF k s b).set q (((putF k s b).getD q []).set r c)) = (putF k s b).length := by
    unfold toldF
    rw [if_neg (by rw [List.length_set]; omega), h0.2, hl]
  have hqm : (putF k s b).getD q [] ∈ putF k s b := by
    rw [List.getD_eq_getElem?_getD, List.getElem?_eq_getElem hq]
    exact List.getElem_mem _
  by_cases hr63 : r = 63
  · subst hr63
    refine getF_zero (q := q) (by rw [List.length_set]; exact hq) (.inr ?_) (by rw [ht]; exact hq)
    have hgq : ((putF k s b).set q (((putF k s b).getD q []).set 63 c)).getD q [] = ((putF k s b).getD q []).set 63 c := by
      rw [List.getD_eq_getElem?_getD, List.getElem?_set_self hq]; rfl
    rw [hgq]
    have hl64 := hsec _ hqm
    generalize (putF k s b).getD q [] = x at *
    rw [List.getD_eq_getElem?_getD, List.getElem?_set_self (by omega)]
    simp only [Option.getD_some]
    have := putF_last k s b _ hqm
    rw [List.getD_eq_getElem?_getD, List.getElem?_eq_getElem (by omega)] at this hc
    simp only [Option.getD_some] at this hc
    rw [this] at hc
    exact hc
  · have hjs := joinedF_set hsec hq (show r < 63 by omega) c
    rw [hj] at hjs
    unfold getF
    rw [ht, if_neg (by rw [List.length_set]; omega)]
    simp only
    rw [List.take_of_length_le (by rw [List.length_set]; exact Nat.le_refl _), hjs, if_neg]
    intro e
    have hcn := cutN_row h k s
    have hfl := fillF_length (rowF k s b)
    have hil : 63 * q + r < (fillF (rowF k s b)).length := by rw [hfl, hcn, ← hl]; omega
    have hlen : lenF ((fillF (rowF k s b)).set (63 * q + r) c) = b.length := by
      rw [← saidN (fill_13 k s b) (by omega)]
      unfold lenF
      congr 1
      apply List.ext_getElem?
      intro i
      rw [List.getElem?_take, List.getElem?_take, List.getElem?_drop, List.getElem?_drop]
      split
      · rw [List.getElem?_set_ne (by omega)]
      · rfl
    have hcv : c ≠ (fillF (rowF k s b)).getD (63 * q + r) 0 := by
      intro hcc
      apply hc
      rw [hcc, ← hj]
      have hlq := hsec _ hqm
      have : ∀ (l : List Sec), (∀ s ∈ l, s.length = 64) → ∀ q, q < l.length → (joinedF l).getD (63 * q + r) 0 = (l.getD q []).getD r 0 := by
        intro l
        induction l with
        | nil => intro _ q hq; simp at hq
        | cons x l ih =>
          intro hs q hq
          have hx : x.length = 64 := hs x (by simp)
          have h63 : (x.take 63).length = 63 := by rw [List.length_take]; omega
          show (x.take 63 ++ joinedF l).getD (63 * q + r) 0 = _
          cases q with
          | zero =>
            rw [List.getD_eq_getElem?_getD, List.getElem?_append_left (by omega), List.getElem?_take_of_lt (by omega), ← List.getD_eq_getElem?_getD]
            simp
          | succ q =>
            rw [List.getD_eq_getElem?_getD, List.getElem?_append_right (by omega), h63, show 63 * (q + 1) + r - 63 = 63 * q + r by omega, ← List.getD_eq_getElem?_getD, ih (fun s h => hs s (by simp [h])) q (by simpa using hq)]
            simp
      exact this _ hsec q hq
    generalize hR : fillF (rowF k s b) = R at *
    have hbl : 13 + lenF (R.set (63 * q + r) c) ≤ (R.set (63 * q + r) c).length := by rw [hlen, List.length_set, hfl, hcn]; omega
    have hbody : (bodyF (R.set (63 * q + r) c)).length = b.length := by
      rw [bodyF_long hbl, hlen, List.length_take, List.length_drop, List.length_set, hfl, hcn]; omega
    generalize hk' : kF (R.set (63 * q + r) c) = k' at *
    generalize hs' : seqF (R.set (63 * q + r) c) = s' at *
    generalize hb' : bodyF (R.set (63 * q + r) c) = b' at *
    have e2 : fillF (rowF k' s' b') = R.set (63 * q + r) c := by
      rw [← putF_joined (by omega) k' s', e, hjs]
    by_cases hin : 63 * q + r < 13 + b.length
    · have hh : headF k' s' b' = (headF k s b).set (63 * q + r) c := by
        rw [← fill_head k' s' b', e2, hbody, List.take_set, ← hR, fill_head]
      have hsum : fixedL (crcN (headF k' s' b')) 4 = fixedL (crcN (headF k s b)) 4 := by
        rw [← fill_sum k' s' b', e2, hbody, ← fill_sum k s b, hR]
        apply List.ext_getElem?
        intro i
        rw [List.getElem?_take, List.getElem?_take, List.getElem?_drop, List.getElem?_drop]
        split
        · rw [List.getElem?_set_ne (by omega)]
        · rfl
      have := fixedL_inj4 (crcN_lt _) (crcN_lt _) hsum
      rw [hh] at this
      refine crcN_set (by rw [headF_length]; exact hin) ?_ this
      intro hcc
      apply hcv
      rw [hcc, ← fill_head k s b, hR, getD_take 0 hin]
    · have hh : headF k' s' b' = headF k s b := by
        rw [← fill_head k' s' b', e2, hbody, ← fill_head k s b, hR]
        apply List.ext_getElem?
        intro i
        rw [List.getElem?_take, List.getElem?_take]
        split
        · rw [List.getElem?_set_ne (by omega)]
        · rfl
      have hrow : fillF (rowF k' s' b') = R := by
        rw [← hR]
        unfold rowF
        rw [hh]
      rw [hrow] at e2
      apply hcv
      have := congrArg (fun l => l.getD (63 * q + r) 0) e2
      simp only [List.getD_eq_getElem?_getD, List.getElem?_set_self hil, Option.getD_some] at this
      rw [List.getD_eq_getElem?_getD, this]
/-- A frame with a sector that isn't written up to its end is none. -/
theorem getF_torn {b : List UInt8} (h : b.length ≤ 4000) (k : UInt8) (s : Nat) {q : Nat} (hq : q < (putF k s b).length) {x : Sec} (hx : x.getD 63 1 ≠ 0) : getF ((putF k s b).set q x) = noF := by
  have h1 := sizeF_one h
  have hl := putF_length h k s
  have hget : ((putF k s b).set q x).getD q [] = x := by
    rw [List.getD_eq_getElem?_getD, List.getElem?_set_self hq]; rfl
  by_cases hq0 : q = 0
  · subst hq0
    by_cases ht : toldF ((putF k s b).set 0 x) = 0
    · unfold getF
      rw [if_pos (.inl ht)]
    · exact getF_zero (q := 0) (by rw [List.length_set]; exact hq) (.inr (by rw [hget]; exact hx)) (by omega)
  · have ht : toldF ((putF k s b).set q x) = (putF k s b).length := by
      rw [toldF_first (k := k) (s := s) (n := b.length) (by rw [List.length_set]; omega) ?_ (by omega), hl]
      rw [List.getD_eq_getElem?_getD, List.getElem?_set_ne hq0, ← List.getD_eq_getElem?_getD]
      exact putF_first h k s
    exact getF_zero (q := q) (by rw [List.length_set]; exact hq) (.inr (by rw [hget]; exact hx)) (by rw [ht]; exact hq)
theorem flat_length : ∀ {l : List Sec}, (∀ s ∈ l, s.length = 64) → l.flatten.length = 64 * l.length
  | [], _ => rfl
  | x :: l, hs => by
    rw [List.flatten_cons, List.length_append, hs x (by simp), flat_length (fun s h => hs s (by simp [h])), List.length_cons]; omega
end Go.Proofs.YtdfdalkcljfghaaGreat
