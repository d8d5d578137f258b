/-
  Digits to sixteen, there and back: plain facts.
-/
import Derived.Test.YtmmphnmgepbclaaDoorMath
namespace Go.Proofs.YtmmphnmgepbclaaDoor.Sha

/-- The number that a digit stands for. -/
def dig (c : BitVec 8) : Option Nat := if 48 ≤ c.toNat ∧ c.toNat ≤ 57 then some (c.toNat - 48) else if 97 ≤ c.toNat ∧ c.toNat ≤ 102 then some (c.toNat - 87) else none

theorem dig_hex {n : Nat} (h : n < 16) : dig (hex n) = some n := by
  have : ∀ i : Fin 16, dig (hex i.val) = some i.val := by decide +kernel
  exact this ⟨n, h⟩
theorem hex_dig {c : BitVec 8} {a : Nat} (h : dig c = some a) : a < 16 ∧ hex a = c := by
  have : ∀ i : Fin 256, (match dig (BitVec.ofNat 8 i.val) with | some a => decide (a < 16) && hex a == BitVec.ofNat 8 i.val | none => true) = true := by decide +kernel
  have e : BitVec.ofNat 8 c.toNat = c := by simp
  have := this ⟨c.toNat, c.isLt⟩
  simp only [e, h, Bool.and_eq_true, decide_eq_true_eq, beq_iff_eq] at this
  exact this

theorem text_length (h : List (BitVec 8)) : (text h).length = 2 * h.length := by
  induction h with
  | nil => rfl
  | cons c h ih => rw [text, List.flatMap_cons, List.length_append, List.length_cons]; unfold text at ih; rw [ih]; simp; omega
theorem text_snoc (h : List (BitVec 8)) (c : BitVec 8) : text (h ++ [c]) = text h ++ [hex (c.toNat / 16), hex (c.toNat % 16)] := by simp [text]
theorem text_cons (c : BitVec 8) (h : List (BitVec 8)) : text (c :: h) = hex (c.toNat / 16) :: hex (c.toNat % 16) :: text h := by simp [text]

theorem text_get (h : List (BitVec 8)) : ∀ k, k < h.length → (text h)[2 * k]? = some (hex ((h.getD k 0).toNat / 16)) ∧ (text h)[2 * k + 1]? = some (hex ((h.getD k 0).toNat % 16)) := by
  induction h with
  | nil => intro k hk; simp at hk
  | cons c h ih =>
    intro k hk
    rw [text_cons]
    cases k with
    | zero => simp
    | succ k =>
      have := ih k (by simpa using hk)
      rw [show 2 * (k + 1) = 2 * k + 1 + 1 by omega]
      simpa using this

theorem text_inj : ∀ (g h : List (BitVec 8)), text g = text h → g = h
  | [], [], _ => rfl
  | [], c :: h, e => by rw [text_cons] at e; simp [text] at e
  | c :: g, [], e => by rw [text_cons] at e; simp [text] at e
  | c :: g, d :: h, e => by
    rw [text_cons, text_cons] at e
    simp only [List.cons.injEq] at e
    obtain ⟨e1, e2, e3⟩ := e
    have hc := c.isLt
    have hd := d.isLt
    have h1 := congrArg dig e1
    have h2 := congrArg dig e2
    rw [dig_hex (by omega), dig_hex (by omega)] at h1 h2
    simp at h1 h2
    have : c = d := BitVec.eq_of_toNat_eq (by omega)
    rw [this, text_inj g h e3]

end Go.Proofs.YtmmphnmgepbclaaDoor.Sha
