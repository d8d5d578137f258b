/-
  Texts and their letters, as lists (glyph).
-/
import Derived.Lib.MapLaws
import Derived.Lib.CutLaws
import Derived.Lib.IndexMore
namespace Go.Proofs.YtglphnmnnfpcoaaDoor.G
open Go.Lib

/-- One rune of a text: its number, its bytes, and whether it is a byte that is none. -/
structure Ru where
  num : Nat
  bytes : List UInt8
  brk : Bool

/-- The rune with which a text begins. -/
def one (l : List UInt8) : Ru :=
  if (decodeL l).1 = 65533 ∧ (decodeL l).2 = 1 then ⟨(l.getD 0 0).toNat, l.take 1, true⟩ else ⟨(decodeL l).1, l.take (decodeL l).2, false⟩

theorem one_bytes (l : List UInt8) : (one l).bytes = l.take (decodeL l).2 := by
  unfold one
  split
  · rename_i h
    rw [h.2]
  · rfl

def runesF : Nat → List UInt8 → List Ru
  | 0, _ => []
  | f + 1, l => if l.isEmpty then [] else one l :: runesF f (l.drop (decodeL l).2)
def runes (l : List UInt8) : List Ru := runesF l.length l

theorem runesF_nil : ∀ n, runesF n [] = []
  | 0 => rfl
  | _ + 1 => rfl

theorem runesF_fuel : ∀ (n m : Nat) (l : List UInt8), l.length ≤ n → l.length ≤ m → runesF n l = runesF m l
  | 0, m, l, h, _ => by
    have : l = [] := List.length_eq_zero_iff.1 (by omega)
    subst this
    rw [runesF_nil, runesF_nil]
  | n + 1, 0, l, _, h => by
    have : l = [] := List.length_eq_zero_iff.1 (by omega)
    subst this
    rw [runesF_nil, runesF_nil]
  | n + 1, m + 1, l, h, k => by
    cases l with
    | nil => rfl
    | cons b t =>
      have hw := decodeL_width (b :: t)
      have hl : ((b :: t).drop (decodeL (b :: t)).2).length ≤ t.length := by simp only [List.length_drop, List.length_cons]; omega
      simp only [List.length_cons] at h k
      simp only [runesF, List.isEmpty_cons, Bool.false_eq_true, if_false]
      rw [runesF_fuel n m _ (by omega) (by omega)]

theorem runes_nil : runes [] = [] := rfl
theorem runes_cons (l : List UInt8) (h : l ≠ []) : runes l = one l :: runes (l.drop (decodeL l).2) := by
  cases l with
  | nil => exact absurd rfl h
  | cons b t =>
    have hw := decodeL_width (b :: t)
    have hl : ((b :: t).drop (decodeL (b :: t)).2).length ≤ t.length := by simp only [List.length_drop, List.length_cons]; omega
    show runesF (t.length + 1) (b :: t) = _
    simp only [runesF, List.isEmpty_cons, Bool.false_eq_true, if_false]
    rw [runesF_fuel t.length _ _ hl (Nat.le_refl _)]
    rfl

/-- The induction along runes. -/
theorem runes_ind {M : List UInt8 → Prop} (h0 : M []) (h1 : ∀ l, l ≠ [] → M (l.drop (decodeL l).2) → M l) : ∀ l, M l := by
  intro l
  induction hn : l.length using Nat.strongRecOn generalizing l with
  | _ n ih =>
    by_cases hl : l = []
    · subst hl; exact h0
    · have hw := decodeL_width l
      have hp := List.length_pos_iff.2 hl
      exact h1 l hl (ih _ (by rw [List.length_drop]; omega) _ rfl)

theorem runes_flat : ∀ l, (runes l).flatMap Ru.bytes = l := by
  apply runes_ind
  · rfl
  · intro l h ih
    rw [runes_cons l h, List.flatMap_cons, ih, one_bytes, List.take_append_drop]

theorem runes_len : ∀ l, (runes l).length ≤ l.length := by
  apply runes_ind
  · exact Nat.le_refl _
  · intro l h ih
    have hw := decodeL_width l
    have hp := List.length_pos_iff.2 h
    rw [runes_cons l h, List.length_cons]
    rw [List.length_drop] at ih
    omega

/-! what a part of a text is -/
theorem getD_prefix {x l : List UInt8} (h : x <+: l) (i : Nat) (hi : i < x.length) : x.getD i 0 = l.getD i 0 := by
  obtain ⟨t, rfl⟩ := h
  simp [List.getD, List.getElem?_append_left hi]

/-- A part that begins with a whole rune begins with the same one in the whole text. -/
theorem decode_part {x l : List UInt8} (h : x <+: l) (hx : x ≠ []) (hv : ¬ ((decodeL x).1 = 65533 ∧ (decodeL x).2 = 1)) : decodeL l = decodeL x := by
  have hp := List.length_pos_iff.2 hx
  have hle := h.length_le
  rw [decodeL_N] at hv
  rw [decodeL_N l, decodeL_N x]
  have g0 : x.getD 0 0 = l.getD 0 0 := getD_prefix h 0 hp
  have g1 := getD_prefix h 1
  have g2 := getD_prefix h 2
  have g3 := getD_prefix h 3
  rcases decodeN_shape x.length (x.getD 0 0).toNat (x.getD 1 0).toNat (x.getD 2 0).toNat (x.getD 3 0).toNat with ⟨c, e⟩ | ⟨c1, c2, c3, cv, e⟩ | ⟨c1, c2, c3, c4, cv, cs, e⟩ | ⟨c1, c2, c3, c4, c5, cv, cw, e⟩ | e
  · rw [e, ← g0]
    unfold decodeN
    rw [if_pos c]
  · rw [e, ← g0, ← g1 c2]
    unfold decodeN
    rw [if_neg (by omega), if_pos ⟨c1, by omega, c3⟩, if_pos cv]
  · rw [e, ← g0, ← g1 (by omega), ← g2 c2]
    unfold decodeN
    rw [if_neg (by omega), if_neg (by omega), if_pos ⟨c1, ⟨by omega, c3⟩, ⟨by omega, c4⟩⟩, if_pos ⟨cv, by omega⟩]
  · rw [e, ← g0, ← g1 (by omega), ← g2 (by omega), ← g3 c2]
    unfold decodeN
    rw [if_neg (by omega), if_neg (by omega), if_neg (by omega), if_pos ⟨c1, ⟨by omega, c3⟩, ⟨by omega, c4⟩, ⟨by omega, c5⟩⟩, if_pos ⟨cv, by omega⟩]
  · rw [e] at hv
    exact absurd ⟨rfl, rfl⟩ hv

/-- A part that holds the first rune whole begins with it. -/
theorem decode_whole {x l : List UInt8} (h : x <+: l) (hx : (decodeL l).2 ≤ x.length) : decodeL x = decodeL l := by
  have hw := decodeL_width l
  have hne : x ≠ [] := by intro e; rw [e] at hx; simp at hx; omega
  by_cases hv : (decodeL x).1 = 65533 ∧ (decodeL x).2 = 1
  · have e1 : decodeL x = (65533, 1) := Prod.ext hv.1 hv.2
    rw [e1]
    have hle := h.length_le
    rw [decodeL_N l] at hx ⊢
    rw [decodeL_N] at e1
    have hp := List.length_pos_iff.2 hne
    have g0 : x.getD 0 0 = l.getD 0 0 := getD_prefix h 0 hp
    have g1 := getD_prefix h 1
    have g2 := getD_prefix h 2
    have g3 := getD_prefix h 3
    rcases decodeN_shape l.length (l.getD 0 0).toNat (l.getD 1 0).toNat (l.getD 2 0).toNat (l.getD 3 0).toNat with ⟨c, e⟩ | ⟨c1, c2, c3, cv, e⟩ | ⟨c1, c2, c3, c4, cv, cs, e⟩ | ⟨c1, c2, c3, c4, c5, cv, cw, e⟩ | e
    · rw [g0] at e1
      unfold decodeN at e1
      rw [if_pos c] at e1
      rw [e, e1]
    · rw [e] at hx
      dsimp only at hx
      rw [g0, g1 (by omega)] at e1
      unfold decodeN at e1
      rw [if_neg (by omega), if_pos ⟨c1, by omega, c3⟩, if_pos cv] at e1
      have := congrArg Prod.snd e1
      simp at this
    · rw [e] at hx
      dsimp only at hx
      rw [g0, g1 (by omega), g2 (by omega)] at e1
      unfold decodeN at e1
      rw [if_neg (by omega), if_neg (by omega), if_pos ⟨c1, ⟨by omega, c3⟩, ⟨by omega, c4⟩⟩, if_pos ⟨cv, by omega⟩] at e1
      have := congrArg Prod.snd e1
      simp at this
    · rw [e] at hx
      dsimp only at hx
      rw [g0, g1 (by omega), g2 (by omega), g3 (by omega)] at e1
      unfold decodeN at e1
      rw [if_neg (by omega), if_neg (by omega), if_neg (by omega), if_pos ⟨c1, ⟨by omega, c3⟩, ⟨by omega, c4⟩, ⟨by omega, c5⟩⟩, if_pos ⟨cv, by omega⟩] at e1
      have := congrArg Prod.snd e1
      simp at this
    · rw [e]
  · exact (decode_part h hne hv).symm

theorem one_part {x l : List UInt8} (h : x <+: l) (hx : (decodeL l).2 ≤ x.length) : one x = one l := by
  have hd := decode_whole h hx
  have hw := decodeL_width l
  have h0 : x.getD 0 0 = l.getD 0 0 := getD_prefix h 0 (by omega)
  have ht : ∀ k, k ≤ x.length → x.take k = l.take k := by
    intro k hk
    obtain ⟨t, rfl⟩ := h
    rw [List.take_append_of_le_length hk]
  unfold one
  rw [hd, h0, ht _ hx, ht 1 (by omega)]

theorem flat_take_le (rs : List Ru) (k : Nat) : (rs.take k).flatMap Ru.bytes <+: rs.flatMap Ru.bytes := by
  refine ⟨(rs.drop k).flatMap Ru.bytes, ?_⟩
  rw [← List.flatMap_append, List.take_append_drop]

/-- The runes of the first k runes are the first k. -/
theorem runes_take : ∀ (l : List UInt8) (k : Nat), runes (((runes l).take k).flatMap Ru.bytes) = (runes l).take k := by
  apply runes_ind
  · intro k
    simp [runes_nil]
  · intro l h ih k
    cases k with
    | zero => simp [runes_nil]
    | succ k =>
      have hw := decodeL_width l
      have hle := decodeL_le l h
      rw [runes_cons l h, List.take_succ_cons, List.flatMap_cons]
      have hpre : (one l).bytes ++ ((runes (l.drop (decodeL l).2)).take k).flatMap Ru.bytes <+: l := by
        have h1 := flat_take_le (runes (l.drop (decodeL l).2)) k
        rw [runes_flat] at h1
        obtain ⟨t, ht⟩ := h1
        refine ⟨t, ?_⟩
        rw [List.append_assoc, ht, one_bytes, List.take_append_drop]
      have hlen : (one l).bytes.length = (decodeL l).2 := by rw [one_bytes, List.length_take]; omega
      have hxl : (decodeL l).2 ≤ ((one l).bytes ++ ((runes (l.drop (decodeL l).2)).take k).flatMap Ru.bytes).length := by rw [List.length_append]; omega
      rw [runes_cons _ (by intro e; rw [e] at hxl; simp at hxl; omega), one_part hpre hxl, decode_whole hpre hxl]
      rw [List.drop_append_of_le_length (by omega), List.drop_of_length_le (by omega), List.nil_append, ih]

/-- The runes behind the first k. -/
theorem runes_drop : ∀ (l : List UInt8) (k : Nat), runes (l.drop (((runes l).take k).flatMap Ru.bytes).length) = (runes l).drop k := by
  apply runes_ind
  · intro k
    simp [runes_nil]
  · intro l h ih k
    cases k with
    | zero => simp
    | succ k =>
      have hle := decodeL_le l h
      have hlen : (one l).bytes.length = (decodeL l).2 := by rw [one_bytes, List.length_take]; omega
      rw [runes_cons l h, List.take_succ_cons, List.flatMap_cons, List.drop_succ_cons, ← ih k, List.length_append, hlen, List.drop_drop]

/-! how a text is shown -/
def hexDigits : List UInt8 := [48, 49, 50, 51, 52, 53, 54, 55, 56, 57, 97, 98, 99, 100, 101, 102]
def hexd (n : Nat) : UInt8 := hexDigits.getD n 48
def hexF : Nat → Nat → List UInt8
  | 0, _ => []
  | f + 1, n => if n < 16 then [hexd n] else hexF f (n / 16) ++ [hexd (n % 16)]
def hexL (n : Nat) : List UInt8 := hexF (n + 1) n

theorem hexF_fuel : ∀ (a b n : Nat), n < a → n < b → hexF a n = hexF b n
  | 0, _, _, h, _ => absurd h (Nat.not_lt_zero _)
  | _ + 1, 0, _, _, h => absurd h (Nat.not_lt_zero _)
  | a + 1, b + 1, n, h, k => by
    unfold hexF
    split
    · rfl
    · rw [hexF_fuel a b (n / 16) (by omega) (by omega)]
theorem hexL_small {n : Nat} (h : n < 16) : hexL n = [hexd n] := by
  unfold hexL hexF
  rw [if_pos h]
theorem hexL_step {n : Nat} (h : 16 ≤ n) : hexL n = hexL (n / 16) ++ [hexd (n % 16)] := by
  unfold hexL
  rw [show hexF (n + 1) n = if n < 16 then [hexd n] else hexF n (n / 16) ++ [hexd (n % 16)] from rfl, if_neg (by omega)]
  rw [hexF_fuel n (n / 16 + 1) (n / 16) (by omega) (by omega)]

def plainN (n : Nat) : Bool := decide (32 ≤ n) && decide (n ≤ 126) && decide (n ≠ 34) && decide (n ≠ 92)
def shown (r : Ru) : List UInt8 :=
  if r.brk then [92, 120, hexd (r.num / 16), hexd (r.num % 16)]
  else if plainN r.num then r.bytes
  else [92, 117, 123] ++ hexL r.num ++ [125]
def showL (l : List UInt8) : List UInt8 := (runes l).flatMap shown

theorem showL_nil : showL [] = [] := rfl
theorem showL_cons (l : List UInt8) (h : l ≠ []) : showL l = shown (one l) ++ showL (l.drop (decodeL l).2) := by
  unfold showL
  rw [runes_cons l h, List.flatMap_cons]

/-- A rune below 128 is one byte. -/
theorem one_low (l : List UInt8) (h : l ≠ []) (hr : (decodeL l).1 < 128) : (decodeL l).2 = 1 ∧ (decodeL l).1 = (l.getD 0 0).toNat ∧ l.take 1 = [((decodeL l).1).toUInt8] := by
  have hp := List.length_pos_iff.2 h
  have hN := decodeL_N l
  have k0 := (l.getD 0 0).toNat_lt
  rcases decodeN_shape l.length (l.getD 0 0).toNat (l.getD 1 0).toNat (l.getD 2 0).toNat (l.getD 3 0).toNat with ⟨c, e⟩ | ⟨c1, c2, c3, cv, e⟩ | ⟨c1, c2, c3, c4, cv, cs, e⟩ | ⟨c1, c2, c3, c4, c5, cv, cw, e⟩ | e
  · rw [e] at hN
    refine ⟨by rw [hN], by rw [hN], ?_⟩
    rw [hN, takeA l hp]
    simp
  all_goals (rw [e] at hN; rw [hN] at hr; dsimp only at hr; omega)

/-- When it is a byte that is none: U+FFFD that isn't there. -/
theorem bad_iff (l : List UInt8) : ((decodeL l).1 = 65533 ∧ (decodeL l).2 = 1) ↔ ((decodeL l).1 = 65533 ∧ hasPrefix l [239, 191, 189] = false) := by
  have hN := decodeL_N l
  have k0 := (l.getD 0 0).toNat_lt
  have k1 := (l.getD 1 0).toNat_lt
  have k2 := (l.getD 2 0).toNat_lt
  have hpre : hasPrefix l [239, 191, 189] = true ↔ 2 < l.length ∧ (l.getD 0 0).toNat = 239 ∧ (l.getD 1 0).toNat = 191 ∧ (l.getD 2 0).toNat = 189 := by
    match l with
    | [] => simp [hasPrefix]
    | [a] => simp [hasPrefix]
    | [a, b] => simp [hasPrefix]
    | a :: b :: c :: t =>
      simp only [hasPrefix, List.isPrefixOf, Bool.and_true, Bool.and_eq_true, beq_iff_eq, List.length_cons, List.getD_cons_zero, List.getD_cons_succ, ← UInt8.toNat_inj]
      simp
      constructor
      · rintro ⟨h1, h2, h3⟩; exact ⟨h1.symm, h2.symm, h3.symm⟩
      · rintro ⟨h1, h2, h3⟩; exact ⟨h1.symm, h2.symm, h3.symm⟩
  constructor
  · rintro ⟨h1, h2⟩
    refine ⟨h1, ?_⟩
    apply Bool.eq_false_iff.2
    intro hp
    obtain ⟨p0, p1, p2, p3⟩ := hpre.1 hp
    rw [hN, p1, p2, p3] at h2
    unfold decodeN at h2
    rw [if_neg (by omega), if_neg (by omega), if_pos (by omega), if_pos (by omega)] at h2
    simp at h2
  · rintro ⟨h1, h2⟩
    refine ⟨h1, ?_⟩
    have h3 : ¬ _ := fun h => by
      have := hpre.2 h
      rw [h2] at this
      exact absurd this (by decide)
    rcases decodeN_shape l.length (l.getD 0 0).toNat (l.getD 1 0).toNat (l.getD 2 0).toNat (l.getD 3 0).toNat with ⟨c, e⟩ | ⟨c1, c2, c3, cv, e⟩ | ⟨c1, c2, c3, c4, cv, cs, e⟩ | ⟨c1, c2, c3, c4, c5, cv, cw, e⟩ | e
    all_goals (rw [e] at hN; rw [hN] at h1 ⊢; try dsimp only at h1 ⊢)
    all_goals omega

theorem one_bad (l : List UInt8) (h : (decodeL l).1 = 65533 ∧ (decodeL l).2 = 1) : one l = ⟨(l.getD 0 0).toNat, l.take 1, true⟩ := by
  unfold one
  rw [if_pos h]
theorem one_good (l : List UInt8) (h : ¬ ((decodeL l).1 = 65533 ∧ (decodeL l).2 = 1)) : one l = ⟨(decodeL l).1, l.take (decodeL l).2, false⟩ := by
  unfold one
  rw [if_neg h]

/-! what is shown is plain -/
theorem hexd_plain (n : Nat) : 48 ≤ (hexd n).toNat ∧ (hexd n).toNat ≤ 102 := by
  unfold hexd hexDigits
  match n with
  | 0 | 1 | 2 | 3 | 4 | 5 | 6 | 7 | 8 | 9 | 10 | 11 | 12 | 13 | 14 | 15 => decide
  | n + 16 => simp [List.getD]
theorem hexF_plain : ∀ (f n : Nat), ∀ b ∈ hexF f n, 48 ≤ b.toNat ∧ b.toNat ≤ 102
  | 0, _, b, h => by simp [hexF] at h
  | f + 1, n, b, h => by
    unfold hexF at h
    split at h
    · simp at h; subst h; exact hexd_plain n
    · rw [List.mem_append] at h
      rcases h with h | h
      · exact hexF_plain f _ b h
      · simp at h; subst h; exact hexd_plain _

theorem shown_plain (l : List UInt8) (h : l ≠ []) : ∀ b ∈ shown (one l), 32 ≤ b.toNat ∧ b.toNat ≤ 126 ∧ b.toNat ≠ 34 := by
  intro b hb
  unfold shown at hb
  split at hb
  · simp at hb
    have p1 := hexd_plain ((one l).num / 16)
    have p2 := hexd_plain ((one l).num % 16)
    rcases hb with rfl | rfl | rfl | rfl <;> simp <;> omega
  · split at hb
    · rename_i hk hp
      have hg : ¬ ((decodeL l).1 = 65533 ∧ (decodeL l).2 = 1) := by
        intro hbad
        rw [one_bad l hbad] at hk
        exact absurd rfl hk
      rw [one_good l hg] at hb hp
      simp only [plainN, Bool.and_eq_true, decide_eq_true_eq] at hp
      obtain ⟨e1, e2, e3⟩ := one_low l h (by omega)
      simp only at hb
      rw [e1, takeA l (List.length_pos_iff.2 h)] at hb
      simp only [List.mem_singleton] at hb
      subst hb
      omega
    · simp only [List.mem_append, List.mem_cons, List.not_mem_nil, or_false] at hb
      rcases hb with ((rfl | rfl | rfl) | hb) | rfl
      · decide
      · decide
      · decide
      · have := hexF_plain _ _ b hb
        omega
      · decide

theorem showL_plain : ∀ l, ∀ b ∈ showL l, 32 ≤ b.toNat ∧ b.toNat ≤ 126 ∧ b.toNat ≠ 34 := by
  apply runes_ind
  · intro b hb
    simp [showL_nil] at hb
  · intro l h ih b hb
    rw [showL_cons l h, List.mem_append] at hb
    rcases hb with hb | hb
    · exact shown_plain l h b hb
    · exact ih b hb

theorem hexF_len : ∀ (f n : Nat), n < 16777216 → (hexF f n).length ≤ 6 := by
  have step : ∀ (k : Nat) (f n : Nat), n < 16 ^ (k + 1) → (hexF f n).length ≤ k + 1 := by
    intro k
    induction k with
    | zero =>
      intro f n h
      cases f with
      | zero => simp [hexF]
      | succ f =>
        unfold hexF
        rw [if_pos (by omega)]
        simp
    | succ k ih =>
      intro f n h
      cases f with
      | zero => simp [hexF]
      | succ f =>
        unfold hexF
        split
        · simp
        · rw [List.length_append]
          have : n / 16 < 16 ^ (k + 1) := by
            rw [Nat.div_lt_iff_lt_mul (by decide)]
            rw [Nat.pow_succ] at h
            exact h
          have := ih f (n / 16) this
          simp
          omega
  intro f n h
  exact step 5 f n h

theorem shown_len (l : List UInt8) : (shown (one l)).length ≤ 10 := by
  unfold shown
  split
  · simp
  · split
    · rw [one_bytes, List.length_take]
      have : (decodeL l).2 ≤ 4 := by
        rw [decodeL_N l]
        rcases decodeN_shape l.length (l.getD 0 0).toNat (l.getD 1 0).toNat (l.getD 2 0).toNat (l.getD 3 0).toNat with ⟨c, e⟩ | ⟨c1, c2, c3, cv, e⟩ | ⟨c1, c2, c3, c4, cv, cs, e⟩ | ⟨c1, c2, c3, c4, c5, cv, cw, e⟩ | e
        all_goals (rw [e]; simp)
      omega
    · have hn : (one l).num < 16777216 := by
        unfold one
        have := decodeL_rune l
        have := (l.getD 0 0).toNat_lt
        split
        · dsimp only; omega
        · dsimp only; omega
      have := hexF_len ((one l).num + 1) (one l).num hn
      simp only [List.length_append, List.length_cons, List.length_nil, hexL]
      omega

theorem showL_len : ∀ l, (showL l).length ≤ 10 * l.length := by
  apply runes_ind
  · simp [showL_nil]
  · intro l h ih
    have hw := decodeL_width l
    have hle := decodeL_le l h
    have hs := shown_len l
    rw [showL_cons l h, List.length_append]
    rw [List.length_drop] at ih
    omega
end Go.Proofs.YtglphnmnnfpcoaaDoor.G
