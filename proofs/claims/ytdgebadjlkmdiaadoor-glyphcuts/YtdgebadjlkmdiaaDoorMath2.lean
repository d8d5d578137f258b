/-
  How a shown text is read, in plain Lean; what is shown is read back.
-/
import Derived.Test.YtdgebadjlkmdiaaDoorMath
namespace Go.Proofs.YtdgebadjlkmdiaaDoor
open Go.Lib

/-- A digit's number; 99, if it is none. -/
def dig (c : UInt8) : Nat :=
  if 48 ≤ c.toNat ∧ c.toNat ≤ 57 then c.toNat - 48
  else if 97 ≤ c.toNat ||| 32 ∧ c.toNat ||| 32 ≤ 122 then (c.toNat ||| 32) - 97 + 10 else 99
/-- The number of digits to sixteen, if it is none above M. -/
def parseF (M : Nat) : Nat → List UInt8 → Option Nat
  | acc, [] => some acc
  | acc, c :: t => if 16 ≤ dig c then none else if M < acc * 16 + dig c then none else parseF M (acc * 16 + dig c) t
def parse (M : Nat) (l : List UInt8) : Option Nat := if l.isEmpty then none else parseF M 0 l

theorem parseF_append (M : Nat) : ∀ (a : List UInt8) (acc : Nat) (b : List UInt8), parseF M acc (a ++ b) = (parseF M acc a).bind fun n => parseF M n b
  | [], acc, b => rfl
  | c :: a, acc, b => by
    simp only [List.cons_append, parseF]
    split
    · rfl
    · split
      · rfl
      · exact parseF_append M a _ b

theorem dig_hexd (n : Nat) (h : n < 16) : dig (hexd n) = n := by
  have : ∀ k : Fin 16, dig (hexd k.val) = k.val := by decide +kernel
  exact this ⟨n, h⟩

theorem parseF_le (M : Nat) : ∀ (l : List UInt8) (acc n : Nat), acc ≤ M → parseF M acc l = some n → n ≤ M
  | [], acc, n, h, e => by simp [parseF] at e; omega
  | c :: t, acc, n, h, e => by
    simp only [parseF] at e
    split at e
    · exact absurd e (by simp)
    · split at e
      · exact absurd e (by simp)
      · exact parseF_le M t _ n (by omega) e

/-- The digits of a number are read as it. -/
theorem parse_hex (M : Nat) : ∀ (n : Nat), n ≤ M → parseF M 0 (hexL n) = some n := by
  intro n
  induction n using Nat.strongRecOn with
  | _ n ih =>
    intro h
    by_cases h16 : n < 16
    · rw [hexL_small h16]
      simp only [parseF, dig_hexd n h16, Nat.zero_mul, Nat.zero_add]
      rw [if_neg (by omega), if_neg (by omega)]
    · rw [hexL_step (by omega), parseF_append, ih (n / 16) (by omega) (by omega)]
      simp only [Option.bind_some, parseF, dig_hexd (n % 16) (by omega)]
      rw [if_neg (by omega), if_neg (by omega)]
      congr 1
      omega
theorem hexL_ne (n : Nat) : hexL n ≠ [] := by
  unfold hexL hexF
  split
  · simp
  · simp

/-- What the first one of a shown text is read as, and in how many bytes it is shown. -/
def readOneL (l : List UInt8) : Option (List UInt8 × Nat) :=
  if hasPrefix l [92, 117, 123] then
    (if (cut (l.drop 3) [125]).2.2 then (parse 2147483647 (cut (l.drop 3) [125]).1).map fun (n : Nat) => (encodeRune (n : Int), 3 + (cut (l.drop 3) [125]).1.length + 1) else none)
  else if hasPrefix l [92, 120] then
    (if l.length < 4 then none else (parse 255 ((l.drop 2).take 2)).map fun n => ([UInt8.ofNat n], 4))
  else some ([l.getD 0 0], 1)
def readF : Nat → List UInt8 → List UInt8 → Option (List UInt8)
  | 0, acc, _ => some acc
  | f + 1, acc, l => if l.isEmpty then some acc else
    match readOneL l with
    | none => none
    | some (b, k) => readF f (acc ++ b) (l.drop k)
/-- The text that is shown, if there is one. -/
def readL (l : List UInt8) : Option (List UInt8) :=
  match readF l.length [] l with
  | none => none
  | some t => if showL t = l then some t else none

theorem readOneL_pos {l : List UInt8} {b : List UInt8} {k : Nat} (h : readOneL l = some (b, k)) : 1 ≤ k := by
  unfold readOneL at h
  split at h
  · split at h
    · rw [Option.map_eq_some_iff] at h
      obtain ⟨n, _, e⟩ := h
      cases e
      omega
    · exact absurd h (by simp)
  · split at h
    · split at h
      · exact absurd h (by simp)
      · rw [Option.map_eq_some_iff] at h
        obtain ⟨n, _, e⟩ := h
        cases e
        omega
    · cases h
      omega

theorem readF_nil : ∀ f acc, readF f acc [] = some acc
  | 0, _ => rfl
  | _ + 1, _ => rfl
theorem readF_fuel : ∀ (n m : Nat) (acc l : List UInt8), l.length ≤ n → l.length ≤ m → readF n acc l = readF m acc l
  | 0, m, acc, l, h, _ => by
    obtain rfl : l = [] := List.length_eq_zero_iff.1 (by omega)
    rw [readF_nil, readF_nil]
  | n + 1, 0, acc, l, _, h => by
    obtain rfl : l = [] := List.length_eq_zero_iff.1 (by omega)
    rw [readF_nil, readF_nil]
  | n + 1, m + 1, acc, l, h, k => by
    unfold readF
    split
    · rfl
    · cases hr : readOneL l with
      | none => rfl
      | some p =>
        obtain ⟨b, j⟩ := p
        have := readOneL_pos hr
        exact readF_fuel n m _ _ (by rw [List.length_drop]; omega) (by rw [List.length_drop]; omega)
theorem readF_step (f : Nat) (acc l : List UInt8) (hl : l ≠ []) (hf : l.length ≤ f) : readF f acc l = match readOneL l with | none => none | some (b, k) => readF f (acc ++ b) (l.drop k) := by
  have hp := List.length_pos_iff.2 hl
  obtain ⟨g, rfl⟩ : ∃ g, f = g + 1 := ⟨f - 1, by omega⟩
  rw [show readF (g + 1) acc l = (if l.isEmpty then some acc else match readOneL l with | none => none | some (b, k) => readF g (acc ++ b) (l.drop k)) from rfl]
  have : l.isEmpty = false := by cases l <;> simp at hl ⊢
  rw [this]
  simp only [Bool.false_eq_true, if_false]
  cases hr : readOneL l with
  | none => rfl
  | some p =>
    obtain ⟨b, j⟩ := p
    have := readOneL_pos hr
    exact readF_fuel _ _ _ _ (by rw [List.length_drop]; omega) (by rw [List.length_drop]; omega)

/-- Cut at the first closing brace. -/
theorem index_brace : ∀ (a b : List UInt8), (∀ x ∈ a, x ≠ 125) → index (a ++ 125 :: b) [125] = (a.length : Int)
  | [], b, _ => by simp [index, List.isPrefixOf]
  | c :: a, b, h => by
    have h1 := index_brace a b (fun x hx => h x (List.mem_cons_of_mem _ hx))
    have hc : c ≠ 125 := h c (List.mem_cons_self)
    have hp : List.isPrefixOf [125] (c :: (a ++ 125 :: b)) = false := by
      simp [List.isPrefixOf]
      exact fun e => hc e.symm
    simp only [List.cons_append, index, hp, Bool.false_eq_true, if_false, h1]
    have : ((a.length : Int) == -1) = false := by
      rw [beq_eq_false_iff_ne]
      omega
    rw [this]
    simp
theorem cut_brace (a b : List UInt8) (h : ∀ x ∈ a, x ≠ 125) : cut (a ++ 125 :: b) [125] = (a, b, true) := by
  unfold cut
  rw [index_brace a b h, if_pos (by omega)]
  simp

/-- One rune, shown, is read back. -/
theorem read_shown (l rest : List UInt8) (hl : l ≠ []) : readOneL (shown (one l) ++ rest) = some ((one l).bytes, (shown (one l)).length) := by
  by_cases hb : (decodeL l).1 = 65533 ∧ (decodeL l).2 = 1
  · rw [one_bad l hb]
    have h0 := (l.getD 0 0).toNat_lt
    simp only [shown, if_true, List.cons_append, List.nil_append]
    unfold readOneL
    rw [if_neg (by simp [hasPrefix, List.isPrefixOf]), if_pos (by simp [hasPrefix, List.isPrefixOf]), if_neg (by simp)]
    have hp : parse 255 (((92 : UInt8) :: 120 :: hexd ((l.getD 0 0).toNat / 16) :: hexd ((l.getD 0 0).toNat % 16) :: rest).drop 2 |>.take 2) = some (l.getD 0 0).toNat := by
      simp only [List.drop_succ_cons, List.drop_zero, List.take_succ_cons, List.take_zero, parse, List.isEmpty_cons, Bool.false_eq_true, if_false, parseF, dig_hexd _ (show (l.getD 0 0).toNat / 16 < 16 by omega), dig_hexd _ (show (l.getD 0 0).toNat % 16 < 16 by omega)]
      rw [if_neg (by omega), if_neg (by omega), if_neg (by omega), if_neg (by omega)]
      congr 1
      omega
    rw [hp]
    simp only [Option.map_some, List.length_cons, List.length_nil]
    rw [takeA l (List.length_pos_iff.2 hl)]
    simp
  · rw [one_good l hb]
    by_cases hp : plainN (decodeL l).1 = true
    · have hp' := hp
      simp only [plainN, Bool.and_eq_true, decide_eq_true_eq] at hp'
      obtain ⟨e1, e2, e3⟩ := one_low l hl (by omega)
      simp only [shown, Bool.false_eq_true, if_false, hp, if_true, e1, takeA l (List.length_pos_iff.2 hl)]
      unfold readOneL
      have hne : (l.getD 0 0) ≠ 92 := by intro e; rw [e] at e2; simp at e2; omega
      rw [if_neg (by simp [hasPrefix, List.isPrefixOf]; intro e; exact absurd e.symm hne), if_neg (by simp [hasPrefix, List.isPrefixOf]; intro e; exact absurd e.symm hne)]
      simp
    · simp only [shown, Bool.false_eq_true, if_false, hp]
      unfold readOneL
      rw [if_pos (by simp [hasPrefix, List.isPrefixOf])]
      have hcut : cut ((([92, 117, 123] : List UInt8) ++ hexL (decodeL l).1 ++ [125] ++ rest).drop 3) [125] = (hexL (decodeL l).1, rest, true) := by
        have e3 : (([92, 117, 123] : List UInt8) ++ hexL (decodeL l).1 ++ [125] ++ rest).drop 3 = hexL (decodeL l).1 ++ 125 :: rest := by simp
        rw [e3]
        refine cut_brace _ _ fun x hx e => ?_
        have := hexF_plain _ _ x hx
        rw [e] at this
        simp at this
      rw [hcut]
      have hr := decodeL_rune l
      have hparse : parse 2147483647 (hexL (decodeL l).1) = some (decodeL l).1 := by
        unfold parse
        have : (hexL (decodeL l).1).isEmpty = false := by
          cases h : hexL (decodeL l).1 with
          | nil => exact absurd h (hexL_ne _)
          | cons => rfl
        rw [this]
        exact parse_hex _ _ (by omega)
      simp only [if_true, hparse, Option.map_some]
      rw [encode_decode l hl hb]
      simp
      omega

/-- What is shown is read back. -/
theorem readF_show : ∀ (l : List UInt8) (f : Nat) (acc : List UInt8), (showL l).length ≤ f → readF f acc (showL l) = some (acc ++ l) := by
  apply runes_ind
  · intro f acc _
    rw [showL_nil, readF_nil, List.append_nil]
  · intro l hl ih f acc hf
    have hne : showL l ≠ [] := by
      rw [showL_cons l hl]
      intro e
      have h1 := read_shown l [] hl
      obtain ⟨e1, e2⟩ := List.append_eq_nil_iff.1 e
      rw [e1] at h1
      simp [readOneL, hasPrefix] at h1
    rw [readF_step f acc _ hne hf]
    rw [showL_cons l hl] at hf ⊢
    rw [read_shown l _ hl]
    simp only [List.drop_left]
    rw [List.length_append] at hf
    rw [ih f _ (by omega), one_bytes, List.append_assoc, List.take_append_drop]
theorem readL_show (l : List UInt8) : readL (showL l) = some l := by
  unfold readL
  rw [readF_show l _ [] (Nat.le_refl _)]
  simp

theorem readF_len : ∀ (f : Nat) (acc l t : List UInt8), readF f acc l = some t → t.length ≤ acc.length + 4 * l.length
  | 0, acc, l, t, h => by cases h; omega
  | f + 1, acc, l, t, h => by
    unfold readF at h
    split at h
    · cases h; omega
    · cases hr : readOneL l with
      | none => rw [hr] at h; exact absurd h (by simp)
      | some p =>
        obtain ⟨b, k⟩ := p
        rw [hr] at h
        have h1 := readF_len f _ _ _ h
        have h2 := readOneL_pos hr
        rw [List.length_append, List.length_drop] at h1
        have hb : b.length ≤ 4 ∧ 1 ≤ l.length := by
          have hl : 1 ≤ l.length := by
            cases l with
            | nil => rename_i hc; exact absurd rfl hc
            | cons => simp
          refine ⟨?_, hl⟩
          unfold readOneL at hr
          split at hr
          · split at hr
            · rw [Option.map_eq_some_iff] at hr
              obtain ⟨n, _, e⟩ := hr
              cases e
              have := encodeRuneZ_length (n : Int)
              simp only [encodeRune, List.length_map]
              omega
            · exact absurd hr (by simp)
          · split at hr
            · split at hr
              · exact absurd hr (by simp)
              · rw [Option.map_eq_some_iff] at hr
                obtain ⟨n, _, e⟩ := hr
                cases e
                simp
            · cases hr
              simp
        omega
theorem readL_some {l t : List UInt8} (h : readL l = some t) : showL t = l := by
  unfold readL at h
  split at h
  · exact absurd h (by simp)
  · split at h
    · rename_i he
      cases h
      exact he
    · exact absurd h (by simp)
theorem readL_nil : readL [] = some [] := rfl
end Go.Proofs.YtdgebadjlkmdiaaDoor
