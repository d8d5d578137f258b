/-
  The document's frames as lists of bytes; that the program tells the same.
-/
import Derived.Test.YtkcchadecnkgnaaFMath
namespace Go.Proofs.Ytkcchadecnkgnaa

/-- A byte 0 behind each 63; the bytes but for each sixty-fourth. -/
def zin : Nat → List UInt8 → List UInt8
  | _, [] => []
  | i, x :: xs => x :: (if i % 63 = 62 then 0 :: zin (i + 1) xs else zin (i + 1) xs)
def zout : Nat → List UInt8 → List UInt8
  | _, [] => []
  | i, x :: xs => if i % 64 = 63 then zout (i + 1) xs else x :: zout (i + 1) xs
def bytesD (k : UInt8) (s : Nat) (b : List UInt8) : List UInt8 := zin 0 (fillF (rowF k s b))
def getD' (b : List UInt8) : UInt8 × Nat × List UInt8 × Nat :=
  if b.length < 64 ∨ b.getD 0 0 ≠ 66 ∨ b.getD 1 0 ≠ 74 then noF
  else if 64 * sizeF (lenF b) = 0 ∨ b.length < 64 * sizeF (lenF b) then noF
  else
    let p := ((zout 0 (b.take (64 * sizeF (lenF b)))).drop 13).take (lenF b)
    if bytesD (kF b) (seqF b) p = b.take (64 * sizeF (lenF b)) then (kF b, seqF b, p, 64 * sizeF (lenF b)) else noF

theorem zin_append : ∀ (a b : List UInt8) (i : Nat), zin i (a ++ b) = zin i a ++ zin (i + a.length) b
  | [], b, i => rfl
  | x :: a, b, i => by
    rw [List.cons_append, zin, zin, zin_append a b (i + 1), List.length_cons, show i + 1 + a.length = i + (a.length + 1) by omega]
    split <;> rfl
theorem zin_snoc (a : List UInt8) (x : UInt8) : zin 0 (a ++ [x]) = zin 0 a ++ (x :: if a.length % 63 = 62 then [0] else []) := by
  rw [zin_append, Nat.zero_add]
  simp only [zin]
theorem zin_few : ∀ (a : List UInt8) (i : Nat), i % 63 + a.length ≤ 62 → zin i a = a
  | [], _, _ => rfl
  | x :: a, i, h => by
    rw [List.length_cons] at h
    rw [zin, if_neg (by omega), zin_few a (i + 1) (by omega)]
theorem zin_block {a : List UInt8} {i : Nat} (hi : i % 63 = 0) (ha : a.length = 63) : zin i a = a ++ [0] := by
  obtain ⟨x, hx⟩ : ∃ x, a = a.take 62 ++ [x] := ⟨a.getD 62 0, by
    rw [List.getD_eq_getElem?_getD, List.getElem?_eq_getElem (by omega)]
    have := List.take_succ_eq_append_getElem (show 62 < a.length by omega)
    simp only [Option.getD_some]
    rw [← this, List.take_of_length_le (by omega)]⟩
  have hl : (a.take 62).length = 62 := by rw [List.length_take]; omega
  rw [hx, zin_append, zin_few _ _ (by omega), hl]
  simp only [zin]
  rw [if_pos (by omega), List.append_assoc]
  rfl
theorem zin_chunks (p : List UInt8) : ∀ n, 63 * n ≤ p.length → zin 0 (p.take (63 * n)) = ((List.range n).map fun k => (p.drop (63 * k)).take 63 ++ [0]).flatten
  | 0, _ => by simp [zin]
  | n + 1, h => by
    have hl : (p.take (63 * n)).length = 63 * n := by rw [List.length_take]; omega
    rw [show 63 * (n + 1) = 63 * n + 63 by omega, List.take_add, zin_append, zin_chunks p n (by omega), hl, zin_block (by omega) (by rw [List.length_take, List.length_drop]; omega), List.range_succ, List.map_append, List.flatten_append]
    simp
/-- The sectors of a frame hold the document's bytes. -/
theorem putF_flat {b : List UInt8} (h : b.length ≤ 4000) (k : UInt8) (s : Nat) : (putF k s b).flatten = bytesD k s b := by
  rw [putF_cut h, cutF_fill, ← zin_chunks _ _ (by rw [fillF_length]; exact Nat.le_refl _), List.take_of_length_le (by rw [fillF_length]; exact Nat.le_refl _), bytesD]

theorem zout_append : ∀ (a b : List UInt8) (i : Nat), zout i (a ++ b) = zout i a ++ zout (i + a.length) b
  | [], b, i => rfl
  | x :: a, b, i => by
    rw [List.cons_append, zout, zout, zout_append a b (i + 1), List.length_cons, show i + 1 + a.length = i + (a.length + 1) by omega]
    split <;> rfl
theorem zout_snoc (a : List UInt8) (x : UInt8) : zout 0 (a ++ [x]) = zout 0 a ++ (if a.length % 64 = 63 then [] else [x]) := by
  rw [zout_append, Nat.zero_add]
  simp only [zout]
theorem zout_few : ∀ (a : List UInt8) (i : Nat), i % 64 + a.length ≤ 63 → zout i a = a
  | [], _, _ => rfl
  | x :: a, i, h => by
    rw [List.length_cons] at h
    rw [zout, if_neg (by omega), zout_few a (i + 1) (by omega)]
theorem zout_sec {a : Sec} {i : Nat} (hi : i % 64 = 0) (ha : a.length = 64) : zout i a = a.take 63 := by
  obtain ⟨x, hx⟩ : ∃ x, a = a.take 63 ++ [x] := ⟨a.getD 63 0, by
    rw [List.getD_eq_getElem?_getD, List.getElem?_eq_getElem (by omega)]
    have := List.take_succ_eq_append_getElem (show 63 < a.length by omega)
    simp only [Option.getD_some]
    rw [← this, List.take_of_length_le (by omega)]⟩
  have hl : (a.take 63).length = 63 := by rw [List.length_take]; omega
  have h2 : zout i (a.take 63 ++ [x]) = a.take 63 := by
    rw [zout_append, zout_few _ _ (by omega), hl]
    simp only [zout]
    rw [if_pos (by omega), List.append_nil]
  rw [← h2, ← hx]
theorem zout_flat : ∀ (l : List Sec) (i : Nat), (∀ s ∈ l, s.length = 64) → i % 64 = 0 → zout i l.flatten = joinedF l
  | [], _, _, _ => rfl
  | x :: l, i, hs, hi => by
    have hx : x.length = 64 := hs x (by simp)
    show zout i (x ++ l.flatten) = x.take 63 ++ joinedF l
    rw [zout_append, zout_sec hi hx, zout_flat l _ (fun s h => hs s (by simp [h])) (by omega)]
theorem flat_length : ∀ {l : List Sec}, (∀ s ∈ l, s.length = 64) → l.flatten.length = 64 * l.length
  | [], _ => rfl
  | x :: l, hs => by
    rw [List.flatten_cons, List.length_append, hs x (by simp), flat_length (fun s h => hs s (by simp [h])), List.length_cons]; omega
theorem flat_take : ∀ {l : List Sec}, (∀ s ∈ l, s.length = 64) → ∀ n, l.flatten.take (64 * n) = (l.take n).flatten
  | [], _, n => by simp
  | x :: l, hs, 0 => by simp
  | x :: l, hs, n + 1 => by
    have hx : x.length = 64 := hs x (by simp)
    rw [List.flatten_cons, List.take_append, List.take_of_length_le (by omega), hx, show 64 * (n + 1) - 64 = 64 * n by omega, flat_take (fun s h => hs s (by simp [h])) n, List.take_succ_cons, List.flatten_cons]
theorem flat_inj : ∀ {l m : List Sec}, (∀ s ∈ l, s.length = 64) → (∀ s ∈ m, s.length = 64) → l.flatten = m.flatten → l = m
  | [], [], _, _, _ => rfl
  | [], y :: m, _, hm, h => by
    have := congrArg List.length h
    rw [flat_length hm] at this
    simp at this
  | x :: l, [], hl, _, h => by
    have := congrArg List.length h
    rw [flat_length hl] at this
    simp at this
  | x :: l, y :: m, hl, hm, h => by
    rw [List.flatten_cons, List.flatten_cons] at h
    obtain ⟨h1, h2⟩ := List.append_inj h (by rw [hl x (by simp), hm y (by simp)])
    rw [h1, flat_inj (fun s hs => hl s (by simp [hs])) (fun s hs => hm s (by simp [hs])) h2]
theorem putF_small_none {k : UInt8} {s : Nat} {b : List UInt8} {l : List Sec} (h : putF k s b = l) (h0 : 0 < l.length) : b.length ≤ 4000 := by
  rcases Nat.lt_or_ge 4000 b.length with h' | h'
  · rw [putF_none (by omega)] at h
    rw [← h] at h0
    simp at h0
  · exact h'

/-- Whatever sectors: the program gets what the document gets. -/
theorem getF_doc {l : List Sec} (hs : ∀ s ∈ l, s.length = 64) : getD' l.flatten = ((getF l).1, (getF l).2.1, (getF l).2.2.1, 64 * (getF l).2.2.2) := by
  have hfl := flat_length hs
  by_cases h0 : l.length = 0
  · obtain rfl : l = [] := List.length_eq_zero_iff.1 h0
    unfold getD' getF
    rw [if_pos (.inl (by simp)), if_pos (.inl rfl)]
    rfl
  · have hx : l.flatten.take 13 = (l.getD 0 []).take 13 := by
      cases l with
      | nil => simp at h0
      | cons x l =>
        have hx : x.length = 64 := hs x (by simp)
        show (x ++ l.flatten).take 13 = x.take 13
        rw [List.take_append_of_le_length (by omega)]
    obtain ⟨f1, f2, f3, f4, f5⟩ := same_fields hx
    have ht : toldF l = sizeF (lenF l.flatten) := by
      unfold toldF
      rw [if_neg h0, f3]
    have hts : ∀ n, ∀ s ∈ l.take n, s.length = 64 := fun n s h => hs s (List.mem_of_mem_take h)
    by_cases hl : l.flatten.getD 0 0 ≠ 66 ∨ l.flatten.getD 1 0 ≠ 74
    · have hg : getF l = noF := by
        unfold getF
        split
        · rfl
        · rename_i h
          rw [not_or] at h
          simp only
          rw [if_neg]
          intro e
          have hb := putF_small_none e (by rw [List.length_take]; omega)
          have hf := putF_first hb (kF (joinedF (l.take (toldF l)))) (seqF (joinedF (l.take (toldF l))))
          rw [e, List.getD_eq_getElem?_getD, List.getElem?_take_of_lt (by omega), ← List.getD_eq_getElem?_getD] at hf
          rw [f4, f5, said0 hf, said1 hf] at hl
          simp at hl
      unfold getD'
      rw [if_pos (.inr hl), hg]
      rfl
    · unfold getD' getF
      rw [if_neg (by rw [not_or]; exact ⟨by rw [hfl]; omega, hl⟩), ht]
      by_cases hz : 64 * sizeF (lenF l.flatten) = 0 ∨ l.flatten.length < 64 * sizeF (lenF l.flatten)
      · have hz2 : sizeF (lenF l.flatten) = 0 ∨ l.length < sizeF (lenF l.flatten) := by omega
        rw [if_pos hz, if_pos hz2]
        rfl
      · have hz2 : ¬ (sizeF (lenF l.flatten) = 0 ∨ l.length < sizeF (lenF l.flatten)) := by omega
        rw [if_neg hz, if_neg hz2]
        have hn4 := sizeF_ne (n := lenF l.flatten) (by omega)
        have h1 := sizeF_one hn4
        have hj13 : (joinedF (l.take (sizeF (lenF l.flatten)))).take 13 = l.flatten.take 13 := by
          rw [joinedF_take13 (by rw [List.length_take]; omega) (hts _), hx, List.getD_eq_getElem?_getD, List.getElem?_take_of_lt (by omega), ← List.getD_eq_getElem?_getD]
        obtain ⟨g1, g2, g3, _, _⟩ := same_fields hj13
        have hjl := joinedF_length (hts (sizeF (lenF l.flatten)))
        have hb : bodyF (joinedF (l.take (sizeF (lenF l.flatten)))) = ((zout 0 (l.flatten.take (64 * sizeF (lenF l.flatten)))).drop 13).take (lenF l.flatten) := by
          rw [bodyF_long (by rw [hjl, g3, List.length_take]; omega), g3, flat_take hs, zout_flat _ _ (hts _) rfl]
        simp only
        rw [← hb, g1, g2]
        have hbl : (bodyF (joinedF (l.take (sizeF (lenF l.flatten))))).length ≤ 4000 := by
          rw [bodyF_long (by rw [hjl, g3, List.length_take]; omega), g3, List.length_take]; omega
        have hiff : bytesD (kF l.flatten) (seqF l.flatten) (bodyF (joinedF (l.take (sizeF (lenF l.flatten))))) = l.flatten.take (64 * sizeF (lenF l.flatten)) ↔ putF (kF l.flatten) (seqF l.flatten) (bodyF (joinedF (l.take (sizeF (lenF l.flatten))))) = l.take (sizeF (lenF l.flatten)) := by
          rw [← putF_flat hbl, flat_take hs]
          exact ⟨fun e => flat_inj (putF_sec _ _ _) (hts _) e, fun e => by rw [e]⟩
        by_cases he : putF (kF l.flatten) (seqF l.flatten) (bodyF (joinedF (l.take (sizeF (lenF l.flatten))))) = l.take (sizeF (lenF l.flatten))
        · rw [if_pos (hiff.2 he), if_pos he]
        · rw [if_neg (fun e => he (hiff.1 e)), if_neg he]
          rfl
/-- What is told of no frame. -/
theorem getF_no_len {l : List Sec} (h : getF l = noF) : (getF l).2.2.2 = 0 := by rw [h]; rfl
end Go.Proofs.Ytkcchadecnkgnaa
