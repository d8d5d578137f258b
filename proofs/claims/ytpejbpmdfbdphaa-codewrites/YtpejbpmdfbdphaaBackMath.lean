/-
  What is written is read back; a byte fewer is too short: plain Lean.
-/
import Derived.Test.YtpejbpmdfbdphaaMath
namespace Go.Proofs.Ytpejbpmdfbdphaa

theorem sizeN_nat (k : Nat) (hk : k ≤ 8) : sizeN (k : Int) = k := by unfold sizeN; split <;> (try split) <;> omega
theorem takeL_app (l T : List UInt8) (e : Int) (k : Nat) (h : l.length = k) : takeL (l ++ T) e k = (l, T, e) := by
  rw [takeL_long (by rw [List.length_append]; omega), ← h]
  simp
theorem fix_back (n k : Nat) (T : List UInt8) (hk : k ≤ 8) : fixL (fixedL n k ++ T) 0 (k : Int) = (n % 256 ^ k, T, 0) := by
  unfold fixL
  rw [sizeN_nat k hk, takeL_app _ _ _ _ (fixedL_length k n), numL_fixedL]
theorem fix_two (n : Nat) (T : List UInt8) (h : n < 65536) : fixL (fixedL n 2 ++ T) 0 2 = (n, T, 0) := by
  have := fix_back n 2 T (by decide)
  rw [Nat.mod_eq_of_lt (by simpa using h)] at this
  exact this
theorem txt_two (n : Nat) (T : List UInt8) (h : n ≤ 500) : txtL (fixedL n 2 ++ T) 0 500 = takeL T 0 n := by
  unfold txtL
  rw [fix_two n T (by omega)]
  simp only
  rw [if_neg (by omega)]
theorem txt_back (s T : List UInt8) (h : s.length ≤ 500) : txtL (textL s ++ T) 0 500 = (s, T, 0) := by
  rw [textL, List.append_assoc, txt_two _ _ h, takeL_app _ _ _ _ rfl]
theorem txt_err : txtL [] 51 500 = ([], [], 51) := by decide

/-- Of bytes of which the last one is missing: what is left, and the error. -/
def Short (R rest : List UInt8) (e : Int) : Prop := (e = 51 ∧ rest = []) ∨ (e = 0 ∧ R ≠ [] ∧ rest = R.dropLast)

theorem dropLast_app (l T : List UInt8) (h : T ≠ []) : (l ++ T).dropLast = l ++ T.dropLast := List.dropLast_append_of_ne_nil h
theorem short_take (l T : List UInt8) (h : l ++ T ≠ []) (k : Nat) (hk : l.length = k) : Short T (takeL (l ++ T).dropLast 0 k).2.1 (takeL (l ++ T).dropLast 0 k).2.2 := by
  by_cases hT : T = []
  · subst hT
    rw [List.append_nil] at h ⊢
    have hp : 0 < l.length := List.length_pos_iff.2 h
    rw [takeL_short (by rw [List.length_dropLast]; omega)]
    exact .inl ⟨rfl, rfl⟩
  · rw [dropLast_app _ _ hT, takeL_app _ _ _ _ hk]
    exact .inr ⟨rfl, hT, rfl⟩
theorem short_fix (n k : Nat) (T : List UInt8) (hk : k ≤ 8) (h : fixedL n k ++ T ≠ []) : Short T (fixL (fixedL n k ++ T).dropLast 0 (k : Int)).2.1 (fixL (fixedL n k ++ T).dropLast 0 (k : Int)).2.2 := by
  unfold fixL
  rw [sizeN_nat k hk]
  exact short_take _ _ h k (fixedL_length k n)
theorem short_txt (s T rest : List UInt8) (e : Int) (hs : s.length ≤ 500) (h : Short (textL s ++ T) rest e) : Short T (txtL rest e 500).2.1 (txtL rest e 500).2.2 := by
  rcases h with ⟨rfl, rfl⟩ | ⟨rfl, hR, rfl⟩
  · rw [txt_err]
    exact .inl ⟨rfl, rfl⟩
  · by_cases h0 : s ++ T = []
    · obtain ⟨rfl, rfl⟩ := List.append_eq_nil_iff.1 h0
      exact .inl (by decide)
    · rw [textL, List.append_assoc, dropLast_app _ _ h0, txt_two _ _ hs]
      exact short_take s T h0 _ rfl

theorem textsL_cons (s : ByteArray) (ss : List ByteArray) : textsL (s :: ss) = textL s.data.toList ++ textsL ss := by simp [textsL]
theorem textsL_drop (ss : List ByteArray) (i : Nat) (h : i < ss.length) : textsL (ss.drop i) = textL (ss.getD i ByteArray.empty).data.toList ++ textsL (ss.drop (i + 1)) := by
  rw [List.drop_eq_getElem_cons h, textsL_cons, List.getD_eq_getElem?_getD, List.getElem?_eq_getElem h]
  rfl
theorem textsL_le : ∀ (ss : List ByteArray), (∀ s ∈ ss, s.size ≤ 500) → (textsL ss).length ≤ 502 * ss.length
  | [], _ => by simp [textsL]
  | s :: ss, h => by
    have h1 := textsL_le ss (fun x hx => h x (by simp [hx]))
    have h2 := h s (by simp)
    have h3 : s.data.toList.length = s.size := by rw [Array.length_toList]; rfl
    rw [textsL_cons, List.length_append, textL_length, List.length_cons]
    omega
end Go.Proofs.Ytpejbpmdfbdphaa
