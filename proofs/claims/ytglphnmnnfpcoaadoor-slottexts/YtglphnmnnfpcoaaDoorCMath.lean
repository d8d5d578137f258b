/-
  Numbers as bytes, and what a reader of bytes answers: plain Lean.
-/
namespace Go.Proofs.YtglphnmnnfpcoaaDoor

/-- So many lowest bytes of n, the lowest first. -/
def fixedL : Nat → Nat → List UInt8
  | _, 0 => []
  | n, k + 1 => UInt8.ofNat n :: fixedL (n / 256) k

/-- The number that bytes are. -/
def numL : List UInt8 → Nat
  | [] => 0
  | c :: l => c.toNat + 256 * numL l

theorem fixedL_length : ∀ (k n : Nat), (fixedL n k).length = k
  | 0, _ => rfl
  | k + 1, n => by simp [fixedL, fixedL_length k]

theorem fixedL_snoc : ∀ (k n : Nat), fixedL n (k + 1) = fixedL n k ++ [UInt8.ofNat (n / 256 ^ k)]
  | 0, n => by simp [fixedL]
  | k + 1, n => by
    rw [fixedL, fixedL_snoc k (n / 256), fixedL, List.cons_append, Nat.div_div_eq_div_mul, Nat.pow_succ, Nat.mul_comm 256]

theorem numL_fixedL : ∀ (k n : Nat), numL (fixedL n k) = n % 256 ^ k
  | 0, n => by simp [fixedL, numL, Nat.mod_one]
  | k + 1, n => by
    rw [fixedL, numL, numL_fixedL k, Nat.pow_succ, Nat.mul_comm (256 ^ k), Nat.mod_mul]
    simp

theorem numL_snoc : ∀ (l : List UInt8) (c : UInt8), numL (l ++ [c]) = numL l + 256 ^ l.length * c.toNat
  | [], c => by simp [numL]
  | d :: l, c => by
    rw [List.cons_append, numL, numL_snoc l c, numL, List.length_cons, Nat.pow_succ, Nat.mul_add, Nat.mul_comm (256 ^ l.length) 256, Nat.mul_assoc, Nat.add_assoc]

theorem numL_lt : ∀ (l : List UInt8), numL l < 256 ^ l.length
  | [] => by simp [numL]
  | c :: l => by
    have := numL_lt l
    have := c.toNat_lt
    rw [numL, List.length_cons, Nat.pow_succ]
    omega

/-- From 0 to 8. -/
def sizeN (m : Int) : Nat := if m < 0 then 0 else if 8 < m then 8 else m.toNat
theorem sizeN_le (m : Int) : sizeN m ≤ 8 := by unfold sizeN; split <;> (try split) <;> omega

/-- A text with its length. -/
def textL (s : List UInt8) : List UInt8 := fixedL s.length 2 ++ s
theorem textL_length (s : List UInt8) : (textL s).length = s.length + 2 := by simp [textL, fixedL_length]; omega
def textsL (ss : List ByteArray) : List UInt8 := ss.flatMap fun s => textL s.data.toList

/-- What a reader answers, what is left, its error. -/
def takeL (l : List UInt8) (e : Int) (k : Nat) : List UInt8 × List UInt8 × Int :=
  if l.length < k then ([], [], if e = 0 then 51 else e) else (l.take k, l.drop k, e)
/-- An error. -/
def failL (e x : Int) : Int := if e = 0 then x else e
def fixL (l : List UInt8) (e : Int) (m : Int) : Nat × List UInt8 × Int := (numL (takeL l e (sizeN m)).1, (takeL l e (sizeN m)).2)
def txtL (l : List UInt8) (e : Int) (most : Int) : List UInt8 × List UInt8 × Int :=
  let f := fixL l e 2
  if most < (f.1 : Int) then takeL [] (failL f.2.2 52) f.1 else takeL f.2.1 f.2.2 f.1
def endL (l : List UInt8) (e : Int) : Int := if l.length = 0 then e else 52

/-- Behind an error nothing is left. -/
def Over (l : List UInt8) (e : Int) : Prop := e ≠ 0 → l = []

theorem takeL_over {l : List UInt8} {e : Int} {k : Nat} (h : Over l e) : Over (takeL l e k).2.1 (takeL l e k).2.2 := by
  unfold takeL
  split
  · intro _; rfl
  · intro he
    rw [h he]
    simp
theorem failL_ne (e x : Int) (hx : x ≠ 0) : failL e x ≠ 0 := by unfold failL; split <;> assumption
theorem takeL_short {l : List UInt8} {e : Int} {k : Nat} (h : l.length < k) : takeL l e k = ([], [], failL e 51) := by unfold takeL failL; rw [if_pos h]
theorem takeL_long {l : List UInt8} {e : Int} {k : Nat} (h : ¬ l.length < k) : takeL l e k = (l.take k, l.drop k, e) := by unfold takeL; rw [if_neg h]
theorem takeL_err {e : Int} (h : e ≠ 0) (k : Nat) : takeL [] e k = ([], [], e) := by
  unfold takeL
  by_cases hk : ([] : List UInt8).length < k
  · rw [if_pos hk, if_neg h]
  · rw [if_neg hk]; simp
theorem txtL_over {l : List UInt8} {e : Int} {most : Int} (h : Over l e) : Over (txtL l e most).2.1 (txtL l e most).2.2 := by
  unfold txtL
  simp only
  split
  · rw [takeL_err (failL_ne _ _ (by decide))]
    intro _; rfl
  · exact takeL_over (takeL_over h)
theorem takeL_answer {l : List UInt8} {e : Int} {k : Nat} : (takeL l e k).1.length ≤ k := by
  unfold takeL
  split
  · simp
  · rw [List.length_take]; omega
theorem fixL_lt (l : List UInt8) (e m : Int) : (fixL l e m).1 < 256 ^ (sizeN m) := by
  refine Nat.lt_of_lt_of_le (numL_lt _) (Nat.pow_le_pow_right (by decide) takeL_answer)
end Go.Proofs.YtglphnmnnfpcoaaDoor
