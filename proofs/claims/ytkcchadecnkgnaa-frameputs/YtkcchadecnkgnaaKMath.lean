/-
  Plain facts on CRC-32 as a function on bit vectors: no program, no model. One bit's step is linear and injective; so is a byte's, and a row's.
-/
namespace Go.Proofs.Ytkcchadecnkgnaa.Crc

def poly : BitVec 32 := 0xEDB88320#32
def bit (r : BitVec 32) : BitVec 32 := if r.getLsbD 0 then (r >>> 1) ^^^ poly else r >>> 1
def iter : Nat → BitVec 32 → BitVec 32
  | 0, r => r
  | n + 1, r => bit (iter n r)
def step (r : BitVec 32) (c : BitVec 8) : BitVec 32 := iter 8 (r ^^^ c.setWidth 32)
def run (r : BitVec 32) (bs : List (BitVec 8)) : BitVec 32 := bs.foldl step r
def more (s : BitVec 32) (bs : List (BitVec 8)) : BitVec 32 := ~~~ run (~~~ s) bs

theorem bit_xor (a b : BitVec 32) : bit (a ^^^ b) = bit a ^^^ bit b := by
  unfold bit
  rw [BitVec.getLsbD_xor, BitVec.ushiftRight_xor_distrib]
  generalize a >>> 1 = x
  generalize b >>> 1 = y
  cases a.getLsbD 0 <;> cases b.getLsbD 0 <;> simp
  · ac_rfl
  · ac_rfl
  · rw [show x ^^^ poly ^^^ (y ^^^ poly) = (poly ^^^ poly) ^^^ (x ^^^ y) from by ac_rfl]
    simp

theorem bit_zero : bit 0#32 = 0#32 := by decide

theorem getLsbD_poly_31 : poly.getLsbD 31 = true := by decide

/-- The highest bit of what comes out is the bit that fell out. -/
theorem bit_msb (r : BitVec 32) : (bit r).getLsbD 31 = r.getLsbD 0 := by
  unfold bit
  cases h : r.getLsbD 0 <;> simp [getLsbD_poly_31]

theorem bit_eq_zero {r : BitVec 32} (h : bit r = 0#32) : r = 0#32 := by
  have h0 : r.getLsbD 0 = false := by rw [← bit_msb, h]; rfl
  have h1 : r >>> 1 = 0#32 := by
    unfold bit at h
    rw [h0] at h
    simpa using h
  apply BitVec.eq_of_getLsbD_eq
  intro i hi
  rcases i with _ | i
  · rw [h0]; simp
  · have : (r >>> 1).getLsbD i = false := by rw [h1]; simp
    rw [BitVec.getLsbD_ushiftRight, Nat.add_comm] at this
    rw [this]; simp

theorem iter_xor (n : Nat) (a b : BitVec 32) : iter n (a ^^^ b) = iter n a ^^^ iter n b := by
  induction n with
  | zero => rfl
  | succ n ih => rw [iter, iter, iter, ih, bit_xor]

theorem iter_zero (n : Nat) : iter n 0#32 = 0#32 := by
  induction n with
  | zero => rfl
  | succ n ih => rw [iter, ih, bit_zero]

theorem iter_eq_zero (n : Nat) {r : BitVec 32} (h : iter n r = 0#32) : r = 0#32 := by
  induction n with
  | zero => exact h
  | succ n ih => exact ih (bit_eq_zero h)

theorem iter_add (m n : Nat) (r : BitVec 32) : iter (m + n) r = iter m (iter n r) := by
  induction m with
  | zero => rw [Nat.zero_add]; rfl
  | succ m ih => rw [Nat.add_right_comm, iter, iter, ih]

theorem xor_eq_zero {w : Nat} {a b : BitVec w} (h : a ^^^ b = 0#w) : a = b := by
  have : a ^^^ b ^^^ b = 0#w ^^^ b := by rw [h]
  rw [BitVec.xor_assoc, BitVec.xor_self, BitVec.xor_zero, BitVec.zero_xor] at this
  exact this

theorem iter_inj (n : Nat) {a b : BitVec 32} (h : iter n a = iter n b) : a = b :=
  xor_eq_zero (iter_eq_zero n (by rw [iter_xor, h, BitVec.xor_self]))

theorem step_xor (a b : BitVec 32) (c d : BitVec 8) : step (a ^^^ b) (c ^^^ d) = step a c ^^^ step b d := by
  unfold step
  rw [← iter_xor, BitVec.setWidth_xor]
  congr 1
  ac_rfl

theorem setWidth_inj {c d : BitVec 8} (h : c.setWidth 32 = d.setWidth 32) : c = d := by
  have h1 : (c.setWidth 32).setWidth 8 = (d.setWidth 32).setWidth 8 := by rw [h]
  rwa [BitVec.setWidth_setWidth_of_le _ (by decide), BitVec.setWidth_setWidth_of_le _ (by decide), BitVec.setWidth_eq, BitVec.setWidth_eq] at h1

theorem step_inj {r : BitVec 32} {c d : BitVec 8} (h : step r c = step r d) : c = d := by
  have h1 := iter_inj 8 h
  have h2 : r ^^^ (r ^^^ c.setWidth 32) = r ^^^ (r ^^^ d.setWidth 32) := by rw [h1]
  rw [← BitVec.xor_assoc, ← BitVec.xor_assoc, BitVec.xor_self, BitVec.zero_xor, BitVec.zero_xor] at h2
  exact setWidth_inj h2

theorem run_xor : ∀ (x y : List (BitVec 8)) (a b : BitVec 32), x.length = y.length → run (a ^^^ b) (List.zipWith (· ^^^ ·) x y) = run a x ^^^ run b y
  | [], [], _, _, _ => rfl
  | c :: x, d :: y, a, b, h => by
    simp only [List.zipWith_cons_cons, run, List.foldl_cons, step_xor]
    exact run_xor x y (step a c) (step b d) (by simpa using h)
  | [], _ :: _, _, _, h => by simp at h
  | _ :: _, [], _, _, h => by simp at h

theorem run_append (r : BitVec 32) (x y : List (BitVec 8)) : run r (x ++ y) = run (run r x) y := by
  unfold run; rw [List.foldl_append]

theorem not_not (x : BitVec 32) : ~~~ (~~~ x) = x := BitVec.not_not

theorem more_append (s : BitVec 32) (x y : List (BitVec 8)) : more s (x ++ y) = more (more s x) y := by
  unfold more; rw [run_append, BitVec.not_not]

theorem more_nil (s : BitVec 32) : more s [] = s := by unfold more run; simp [BitVec.not_not]

theorem more_one_inj {s : BitVec 32} {c d : BitVec 8} (h : more s [c] = more s [d]) : c = d := by
  unfold more run at h
  simp only [List.foldl_cons, List.foldl_nil] at h
  exact step_inj (BitVec.not_inj.1 h)

end Go.Proofs.Ytkcchadecnkgnaa.Crc
