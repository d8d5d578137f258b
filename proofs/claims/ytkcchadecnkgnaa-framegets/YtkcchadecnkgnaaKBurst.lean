/-
  Plain facts on CRC-32: bytes of which up to thirty-two bits, side by side, are turned have another sum. No program, no model.
-/
import Derived.Test.YtkcchadecnkgnaaKMath
namespace Go.Proofs.Ytkcchadecnkgnaa.Crc

def one (b : Bool) : BitVec 32 := if b then 1#32 else 0#32

/-- The register, bit by bit. -/
def fb (f : Nat → Bool) : Nat → BitVec 32 → BitVec 32
  | 0, s => s
  | n + 1, s => bit (fb f n s ^^^ one (f n))

theorem one_xor (a b : Bool) : one (a ^^ b) = one a ^^^ one b := by cases a <;> cases b <;> decide

theorem fb_xor (f g : Nat → Bool) (n : Nat) (s t : BitVec 32) : fb (fun i => f i ^^ g i) n (s ^^^ t) = fb f n s ^^^ fb g n t := by
  induction n with
  | zero => rfl
  | succ n ih =>
    simp only [fb]
    rw [ih, ← bit_xor, one_xor]
    congr 1
    ac_rfl

theorem fb_congr (f g : Nat → Bool) (n : Nat) (s : BitVec 32) (h : ∀ i, i < n → f i = g i) : fb f n s = fb g n s := by
  induction n with
  | zero => rfl
  | succ n ih =>
    simp only [fb]
    rw [ih fun i hi => h i (by omega), h n (by omega)]

theorem fb_add (f : Nat → Bool) (m n : Nat) (s : BitVec 32) : fb f (m + n) s = fb (fun i => f (m + i)) n (fb f m s) := by
  induction n with
  | zero => rfl
  | succ n ih =>
    rw [← Nat.add_assoc]
    simp only [fb]
    rw [ih]

theorem fb_none (n : Nat) (s : BitVec 32) : fb (fun _ => false) n s = iter n s := by
  induction n with
  | zero => rfl
  | succ n ih =>
    simp only [fb, iter]
    rw [ih]
    simp [one]

/-- The first m bits as a number. -/
def low (f : Nat → Bool) : Nat → BitVec 32
  | 0 => 0#32
  | m + 1 => low f m ^^^ (one (f m) <<< m)

theorem iter_one (m : Nat) (h : m < 32) : iter m (1#32 <<< m) = 1#32 := by
  have : ∀ m : Fin 32, iter m.val (1#32 <<< m.val) = 1#32 := by decide +kernel
  exact this ⟨m, h⟩

theorem fb_low (f : Nat → Bool) (m : Nat) (h : m ≤ 32) : fb f m 0#32 = iter m (low f m) := by
  induction m with
  | zero => rfl
  | succ m ih =>
    simp only [fb, iter, low]
    rw [ih (by omega), iter_xor]
    congr 2
    cases f m
    · show 0#32 = iter m (0#32 <<< m)
      rw [BitVec.zero_shiftLeft, iter_zero]
    · show 1#32 = iter m (1#32 <<< m)
      rw [iter_one m (by omega)]

theorem getLsbD_one (b : Bool) (i : Nat) : (one b).getLsbD i = (decide (i = 0) && b) := by
  cases b
  · simp [one]
  · simp only [one, if_true, Bool.and_true]
    rcases i with _ | i
    · rfl
    · simp [BitVec.getLsbD_one]

theorem low_get (f : Nat → Bool) (m : Nat) (h : m ≤ 32) (i : Nat) : (low f m).getLsbD i = (decide (i < m) && f i) := by
  induction m with
  | zero => simp [low]
  | succ m ih =>
    simp only [low]
    rw [BitVec.getLsbD_xor, ih (by omega), BitVec.getLsbD_shiftLeft, getLsbD_one]
    by_cases h1 : i < m
    · simp [h1, show i < m + 1 by omega]
    · by_cases h2 : i = m
      · subst h2; simp [show i < 32 by omega]
      · simp [h1, show ¬ i < m + 1 by omega, show ¬ i - m = 0 by omega]

theorem low_self (x : BitVec 32) : low x.getLsbD 32 = x := by
  apply BitVec.eq_of_getLsbD_eq
  intro i hi
  rw [low_get _ _ (by omega)]
  simp [hi]

theorem low_byte (c : BitVec 8) : low c.getLsbD 8 = c.setWidth 32 := by
  apply BitVec.eq_of_getLsbD_eq
  intro i hi
  rw [low_get _ _ (by omega), BitVec.getLsbD_setWidth]
  by_cases h : i < 8
  · simp [h, hi]
  · simp [h, hi, BitVec.getLsbD_of_ge c i (by omega)]

theorem fb_split (f : Nat → Bool) (n : Nat) (s : BitVec 32) : fb f n s = iter n s ^^^ fb f n 0#32 := by
  have h := fb_xor (fun _ => false) f n s 0#32
  rw [fb_none, BitVec.xor_zero] at h
  rw [← h]
  apply fb_congr
  intro i _
  simp

theorem step_fb (r : BitVec 32) (c : BitVec 8) : step r c = fb c.getLsbD 8 r := by
  rw [fb_split, fb_low _ 8 (by omega), low_byte]
  unfold step
  rw [iter_xor]

def bitOf (bs : List (BitVec 8)) (p : Nat) : Bool := (bs.getD (p / 8) 0).getLsbD (p % 8)

theorem run_fb : ∀ (bs : List (BitVec 8)) (r : BitVec 32), run r bs = fb (bitOf bs) (8 * bs.length) r
  | [], _ => rfl
  | c :: bs, r => by
    rw [List.length_cons, show 8 * (bs.length + 1) = 8 + 8 * bs.length by omega, fb_add]
    have h1 : fb (bitOf (c :: bs)) 8 r = step r c := by
      rw [step_fb]
      apply fb_congr
      intro i hi
      unfold bitOf
      rw [show i / 8 = 0 by omega, show i % 8 = i by omega]
      rfl
    have h2 : (fun i => bitOf (c :: bs) (8 + i)) = bitOf bs := by
      funext i
      unfold bitOf
      rw [show (8 + i) / 8 = i / 8 + 1 by omega, show (8 + i) % 8 = i % 8 by omega, List.getD_cons_succ]
    rw [h1, h2]
    show run (step r c) bs = _
    rw [run_fb bs]

/-- Bits side by side, up to thirty-two of them, turned. -/
theorem burst (b b' : List (BitVec 8)) (r t : BitVec 32) (k : Nat) (hl : b'.length = b.length) (hk : k + 32 ≤ 8 * b.length) (ht : t ≠ 0#32)
    (h : ∀ p, p < 8 * b.length → bitOf b' p = (bitOf b p ^^ (decide (k ≤ p ∧ p < k + 32) && t.getLsbD (p - k)))) : run r b' ≠ run r b := by
  intro he
  have e1 : run r b' = run r b ^^^ fb (fun p => decide (k ≤ p ∧ p < k + 32) && t.getLsbD (p - k)) (8 * b.length) 0#32 := by
    rw [run_fb, run_fb, hl, ← fb_xor, BitVec.xor_zero]
    exact fb_congr _ _ _ _ h
  have e2 : fb (fun p => decide (k ≤ p ∧ p < k + 32) && t.getLsbD (p - k)) (8 * b.length) 0#32 = 0#32 := by
    have : run r b ^^^ run r b' = run r b ^^^ run r b := by rw [he]
    rw [e1, ← BitVec.xor_assoc, BitVec.xor_self, BitVec.zero_xor] at this
    exact this
  obtain ⟨m, hm⟩ : ∃ m, 8 * b.length = k + (32 + m) := ⟨8 * b.length - k - 32, by omega⟩
  rw [hm, fb_add, fb_add] at e2
  have e3 : fb (fun p => decide (k ≤ p ∧ p < k + 32) && t.getLsbD (p - k)) k 0#32 = 0#32 := by
    rw [fb_congr _ (fun _ => false) k _ (fun i hi => by simp [show ¬ k ≤ i by omega]), fb_none, iter_zero]
  rw [e3] at e2
  have e4 : fb (fun i => decide (k ≤ k + i ∧ k + i < k + 32) && t.getLsbD (k + i - k)) 32 0#32 = iter 32 t := by
    rw [fb_congr _ t.getLsbD 32 _ (fun i hi => by rw [Nat.add_sub_cancel_left]; simp [hi]), fb_low _ 32 (by omega), low_self]
  rw [e4] at e2
  have e5 : fb (fun i => decide (k ≤ k + (32 + i) ∧ k + (32 + i) < k + 32) && t.getLsbD (k + (32 + i) - k)) m (iter 32 t) = iter m (iter 32 t) := by
    rw [fb_congr _ (fun _ => false) m _ (fun i hi => by simp), fb_none]
  rw [e5] at e2
  exact ht (iter_eq_zero 32 (iter_eq_zero m e2))

/-- What the loop makes of the bytes, bit by bit. -/
def turn (bs : List (BitVec 8)) (k0 : Nat) (t : BitVec 32) : Nat → List (BitVec 8)
  | 0 => bs
  | k + 1 => if t.getLsbD k then (turn bs k0 t k).set ((k0 + k) / 8) ((turn bs k0 t k).getD ((k0 + k) / 8) 0 ^^^ (1#8 <<< ((k0 + k) % 8))) else turn bs k0 t k

theorem turn_length (bs : List (BitVec 8)) (k0 : Nat) (t : BitVec 32) (k : Nat) : (turn bs k0 t k).length = bs.length := by
  induction k with
  | zero => rfl
  | succ k ih =>
    simp only [turn]
    split
    · rw [List.length_set, ih]
    · exact ih

theorem bitOf_set (L : List (BitVec 8)) (i : Nat) (v : BitVec 8) (p : Nat) (hp : p < 8 * L.length) : bitOf (L.set i v) p = if p / 8 = i then v.getLsbD (p % 8) else bitOf L p := by
  unfold bitOf
  rw [List.getD_eq_getElem?_getD, List.getElem?_set]
  by_cases h : i = p / 8
  · subst h
    simp [show p / 8 < L.length by omega]
  · rw [if_neg h, if_neg (fun e => h e.symm), ← List.getD_eq_getElem?_getD]

theorem one_shl (j i : Nat) (hj : j < 8) (hi : i < 8) : (1#8 <<< j).getLsbD i = decide (i = j) := by
  have : ∀ (j i : Fin 8), (1#8 <<< j.val).getLsbD i.val = decide (i.val = j.val) := by decide
  exact this ⟨j, hj⟩ ⟨i, hi⟩

theorem turn_bit (bs : List (BitVec 8)) (k0 : Nat) (t : BitVec 32) (k : Nat) (p : Nat) (hp : p < 8 * bs.length) :
    bitOf (turn bs k0 t k) p = (bitOf bs p ^^ (decide (k0 ≤ p ∧ p < k0 + k) && t.getLsbD (p - k0))) := by
  induction k with
  | zero => simp [turn, show ¬ (k0 ≤ p ∧ p < k0) by omega]
  | succ k ih =>
    simp only [turn]
    by_cases hpk : p = k0 + k
    · subst hpk
      rw [show k0 + k - k0 = k by omega] at ih ⊢
      simp only [show ¬ (k0 ≤ k0 + k ∧ k0 + k < k0 + k) by omega, decide_false, Bool.false_and, Bool.xor_false] at ih
      cases ht : t.getLsbD k
      · simp only [Bool.false_eq_true, if_false]
        rw [ih]; simp
      · simp only [if_true]
        rw [bitOf_set _ _ _ _ (by rw [turn_length]; exact hp), if_pos rfl, BitVec.getLsbD_xor, one_shl _ _ (by omega) (by omega)]
        show (bitOf (turn bs k0 t k) (k0 + k) ^^ _) = _
        rw [ih]; simp
    · have e : decide (k0 ≤ p ∧ p < k0 + (k + 1)) = decide (k0 ≤ p ∧ p < k0 + k) := by
        rw [decide_eq_decide]; omega
      rw [e, ← ih]
      split
      · rw [bitOf_set _ _ _ _ (by rw [turn_length]; exact hp)]
        split
        · rename_i h
          rw [BitVec.getLsbD_xor, one_shl _ _ (by omega) (by omega), show decide (p % 8 = (k0 + k) % 8) = false by simp; omega, Bool.xor_false, ← h]
          rfl
        · rfl
      · rfl

theorem turn_run (bs : List (BitVec 8)) (r t : BitVec 32) (k0 : Nat) (hk : k0 + 32 ≤ 8 * bs.length) (ht : t ≠ 0#32) : run r (turn bs k0 t 32) ≠ run r bs :=
  burst bs _ r t k0 (turn_length _ _ _ _) hk ht fun p hp => turn_bit bs k0 t 32 p hp

theorem turn_more (bs : List (BitVec 8)) (s t : BitVec 32) (k0 : Nat) (hk : k0 + 32 ≤ 8 * bs.length) (ht : t ≠ 0#32) : more s (turn bs k0 t 32) ≠ more s bs :=
  fun e => turn_run bs _ t k0 hk ht (BitVec.not_inj.1 e)

end Go.Proofs.Ytkcchadecnkgnaa.Crc
