/-
  What a slot may be, its bytes and its text, and what words are the text of one: plain facts.
-/
import Derived.Test.YtglphnmnnfpcoaaDoorSBase
import Derived.Test.YtglphnmnnfpcoaaDoorHParse
import Derived.Test.YtglphnmnnfpcoaaDoorCMath
import Derived.Lib.ItoaNum
import Derived.Lib.ParseIntB
import Derived.Lib.ParseIntBCases
namespace Go.Proofs.YtglphnmnnfpcoaaDoor
open Go.RowKit

/-- Can there be an image of that version and size? -/
def img (s : S) : Bool := decide (1 ≤ s.ver ∧ s.ver ≤ 281474976710656 ∧ 1 ≤ s.sz ∧ s.sz ≤ 65536)
def bare (x : Int) : S := ⟨x, 0, 0, 0, zeros32⟩
def right (s : S) : Bool :=
  if s.st = 0 ∨ s.st = 1 ∨ s.st = 4 then decide (s = bare s.st)
  else if s.st = 2 then decide (0 ≤ s.tr ∧ s.tr ≤ 7) && img s
  else if s.st = 3 then decide (s.tr = 0) && img s
  else false
def boot (s : S) : Bool := right s && (decide (s.st = 3) || decide (0 < s.tr))
def has (x : Int) : Bool := decide (x = 2) || decide (x = 3)
def whole (s : S) : Bool := right s && has s.st

theorem right_cases {s : S} (h : right s = true) : (s.st = 0 ∨ s.st = 1 ∨ s.st = 4) ∧ s = bare s.st ∨ s.st = 2 ∧ 0 ≤ s.tr ∧ s.tr ≤ 7 ∧ img s = true ∨ s.st = 3 ∧ s.tr = 0 ∧ img s = true := by
  unfold right at h
  split at h
  · exact .inl ⟨by assumption, by simpa using h⟩
  · split at h
    · rename_i h2
      simp only [Bool.and_eq_true, decide_eq_true_eq] at h
      exact .inr (.inl ⟨h2, h.1.1, h.1.2, h.2⟩)
    · split at h
      · rename_i h3
        simp only [Bool.and_eq_true, decide_eq_true_eq] at h
        exact .inr (.inr ⟨h3, h.1, h.2⟩)
      · cases h
theorem img_iff {s : S} : img s = true ↔ 1 ≤ s.ver ∧ s.ver ≤ 281474976710656 ∧ 1 ≤ s.sz ∧ s.sz ≤ 65536 := by simp [img]
theorem right_range {s : S} (h : right s = true) : 0 ≤ s.st ∧ s.st ≤ 4 ∧ 0 ≤ s.tr ∧ s.tr ≤ 7 ∧ s.ver ≤ 281474976710656 ∧ 0 ≤ s.sz ∧ s.sz ≤ 65536 := by
  rcases right_cases h with ⟨h1, h2⟩ | ⟨h1, h2, h3, h4⟩ | ⟨h1, h2, h4⟩
  · have e1 := congrArg S.tr h2
    have e2 := congrArg S.ver h2
    have e3 := congrArg S.sz h2
    simp only [bare] at e1 e2 e3
    omega
  · have := img_iff.1 h4
    omega
  · have := img_iff.1 h4
    omega
theorem zero_right : right zeroS = true := by decide +kernel

/-- Two digits of each byte. -/
def hexT (dg : List UInt8) : List UInt8 := (H.Sha.text (dg.map UInt8.toBitVec)).map UInt8.ofBitVec
theorem map_back (l : List (BitVec 8)) : (l.map UInt8.ofBitVec).map UInt8.toBitVec = l := by
  rw [List.map_map]
  exact (List.map_congr_left fun _ _ => rfl).trans (List.map_id _)
theorem map_back' (l : List UInt8) : (l.map UInt8.toBitVec).map UInt8.ofBitVec = l := by
  rw [List.map_map]
  exact (List.map_congr_left fun _ _ => rfl).trans (List.map_id _)
theorem hexT_length (dg : List UInt8) : (hexT dg).length = 2 * dg.length := by
  unfold hexT
  rw [List.length_map, H.Sha.text_length, List.length_map]
theorem hexT_inj {a b : List UInt8} (h : hexT a = hexT b) : a = b := by
  unfold hexT at h
  have h1 := congrArg (List.map UInt8.toBitVec) h
  rw [map_back, map_back] at h1
  have h2 := H.Sha.text_inj _ _ h1
  have h3 := congrArg (List.map UInt8.ofBitVec) h2
  rwa [map_back', map_back'] at h3
theorem hex_low (n : Nat) (h : n < 16) : (UInt8.ofBitVec (H.Sha.hex n)).toNat ≠ 32 ∧ (UInt8.ofBitVec (H.Sha.hex n)).toNat < 128 := by
  have : ∀ i : Fin 16, (UInt8.ofBitVec (H.Sha.hex i.val)).toNat ≠ 32 ∧ (UInt8.ofBitVec (H.Sha.hex i.val)).toNat < 128 := by decide +kernel
  exact this ⟨n, h⟩
theorem hexT_mem {dg : List UInt8} : ∀ c ∈ hexT dg, c.toNat ≠ 32 ∧ c.toNat < 128 := by
  intro c hc
  unfold hexT H.Sha.text at hc
  obtain ⟨d, hd, rfl⟩ := List.mem_map.1 hc
  obtain ⟨x, _, hx⟩ := List.mem_flatMap.1 hd
  have := x.isLt
  simp only [List.mem_cons, List.not_mem_nil, or_false] at hx
  rcases hx with rfl | rfl
  · exact hex_low _ (by omega)
  · exact hex_low _ (by omega)

/-- A number in decimal digits. -/
def dec (n : Nat) : List UInt8 := Lib.decDigits n
theorem dec_small {n : Nat} (h : n < 10) : dec n = [UInt8.ofNat (48 + n)] := by unfold dec; rw [Lib.decDigits, dif_pos h]
theorem dec_step {n : Nat} (h : ¬ n < 10) : dec n = dec (n / 10) ++ [UInt8.ofNat (48 + n % 10)] := by unfold dec; rw [Lib.decDigits, dif_neg h]
theorem digit_nat {n : Nat} (h : n < 10) : (UInt8.ofNat (48 + n)).toNat = 48 + n := by
  rw [UInt8.toNat_ofNat']; omega
theorem dec_mem : ∀ (n : Nat), ∀ c ∈ dec n, 48 ≤ c.toNat ∧ c.toNat ≤ 57 := by
  intro n
  induction n using Nat.strongRecOn with
  | _ n ih =>
    intro c hc
    by_cases h : n < 10
    · rw [dec_small h, List.mem_singleton] at hc
      rw [hc, digit_nat h]; omega
    · rw [dec_step h, List.mem_append, List.mem_singleton] at hc
      rcases hc with hc | hc
      · exact ih (n / 10) (by omega) c hc
      · rw [hc, digit_nat (by omega)]; omega
theorem dec_ne (n : Nat) : dec n ≠ [] := by
  by_cases h : n < 10
  · rw [dec_small h]; simp
  · rw [dec_step h]; simp
theorem parseM_append (M : Nat) (c : UInt8) : ∀ (l : List UInt8) (a b : Nat), Lib.parseUintM M a l = .ok b → Lib.parseUintM M a (l ++ [c]) = Lib.parseUintM M b [c]
  | [], a, b, h => by
    simp only [Lib.parseUintM, Lib.NumEnd.ok.injEq] at h
    rw [h, List.nil_append]
  | d :: l, a, b, h => by
    rw [List.cons_append]
    rw [Lib.parseUintM] at h ⊢
    split at h
    · rename_i h1
      rw [if_pos h1]
      split at h
      · cases h
      · rename_i h2
        rw [if_neg h2]
        split at h
        · cases h
        · rename_i h3
          rw [if_neg h3]
          exact parseM_append M c l _ b h
    · cases h
theorem parseM_dec : ∀ (n : Nat), n < 18446744073709551616 → Lib.parseUintM 18446744073709551615 0 (dec n) = .ok n := by
  intro n
  induction n using Nat.strongRecOn with
  | _ n ih =>
    intro hn
    by_cases h : n < 10
    · rw [dec_small h]
      simp only [Lib.parseUintM, digit_nat h]
      rw [if_pos (by omega), if_neg (by omega), if_neg (by omega)]
      congr 1
      omega
    · rw [dec_step h, parseM_append _ _ _ _ _ (ih (n / 10) (by omega) (by omega))]
      simp only [Lib.parseUintM, digit_nat (show n % 10 < 10 by omega)]
      rw [if_pos (by omega), if_neg (by omega), if_neg (by omega)]
      congr 1
      omega
/-- What a word is as a number: 0 of what is none. -/
def num (l : List UInt8) : Nat := match Lib.parseUintB 64 l with
  | .ok u => u
  | _ => 0
theorem num_dec {n : Nat} (h : n < 18446744073709551616) : num (dec n) = n := by
  unfold num Lib.parseUintB
  rw [if_neg (dec_ne n), show (2 ^ 64 - 1 : Nat) = 18446744073709551615 by decide, parseM_dec n h]
theorem num_lt (l : List UInt8) : num l < 18446744073709551616 := by
  unfold num
  split
  · rename_i u h
    have := Lib.parseUintB_le h
    have e : (2 ^ 64 - 1 : Nat) = 18446744073709551615 := by decide
    omega
  · omega
theorem dec_len {n : Nat} (h : n < 18446744073709551616) : (dec n).length ≤ 20 := by
  unfold dec
  rw [Lib.decDigits_length]
  have h1 : ∀ k, n < 10 ^ k → 1 ≤ k → Lib.nDigits n ≤ k := by
    intro k
    induction k generalizing n with
    | zero => intro _ h; omega
    | succ k ih =>
      intro hk _
      by_cases hs : n < 10
      · rw [Lib.nDigits_small hs]; omega
      · rw [Lib.nDigits_big hs]
        rcases Nat.eq_zero_or_pos k with h0 | h0
        · subst h0; omega
        · have := ih (n := n / 10) (by omega) (by rw [Nat.pow_succ] at hk; omega) h0
          omega
  exact h1 20 (by have : (10 : Nat) ^ 20 = 100000000000000000000 := by decide
                  omega) (by omega)

/-- A status as a word. -/
def word (x : Int) : List UInt8 := wordsB.getD x.toNat []
def textS (s : S) : List UInt8 :=
  if right s = true then
    word s.st ++ (if has s.st = true then 32 :: dec s.ver ++ (32 :: dec s.sz.toNat ++ (32 :: hexT s.dg)) else []) ++ (if s.st = 2 then 32 :: dec s.tr.toNat else [])
  else []

/-- Cut at each blank. -/
def splitF : List UInt8 → List UInt8 → List (List UInt8)
  | cur, [] => [cur]
  | cur, c :: r => if c = 32 then cur :: splitF [] r else splitF (cur ++ [c]) r
def split (t : List UInt8) : List (List UInt8) := splitF [] t
theorem splitF_plain : ∀ (w r cur : List UInt8), (∀ c ∈ w, c ≠ 32) → splitF cur (w ++ r) = splitF (cur ++ w) r
  | [], r, cur, _ => by simp
  | c :: w, r, cur, h => by
    rw [List.cons_append, splitF, if_neg (h c (by simp)), splitF_plain w r (cur ++ [c]) (fun d hd => h d (by simp [hd])), List.append_assoc]
    rfl
theorem split_word {w : List UInt8} (h : ∀ c ∈ w, c ≠ 32) : split w = [w] := by
  have := splitF_plain w [] [] h
  rw [List.append_nil] at this
  rw [split, this]; rfl
theorem split_cons {w r : List UInt8} (h : ∀ c ∈ w, c ≠ 32) : split (w ++ 32 :: r) = w :: split r := by
  rw [split, splitF_plain w _ [] h, splitF, if_pos rfl]; rfl
theorem splitF_ne : ∀ (t cur : List UInt8), splitF cur t ≠ []
  | [], cur => by simp [splitF]
  | c :: t, cur => by
    rw [splitF]
    split
    · simp
    · exact splitF_ne t _

def w0 : List UInt8 := [101, 109, 112, 116, 121]
def w1 : List UInt8 := [100, 105, 114, 116, 121]
def w2 : List UInt8 := [114, 101, 97, 100, 121]
def w3 : List UInt8 := [103, 111, 111, 100]
def w4 : List UInt8 := [98, 97, 100]
/-- The status of a word; -1 of others. -/
def stF (l : List UInt8) : Int := if l = w0 then 0 else if l = w1 then 1 else if l = w2 then 2 else if l = w3 then 3 else if l = w4 then 4 else -1
theorem stF_range (l : List UInt8) : -1 ≤ stF l ∧ stF l ≤ 4 := by unfold stF; repeat' split
                                                                  all_goals omega
theorem no32 {l : List UInt8} (h : ∀ c ∈ l, c.toNat ≠ 32) : ∀ c ∈ l, c ≠ 32 := fun c hc e => h c hc (by rw [e]; rfl)
theorem dec32 (n : Nat) : ∀ c ∈ dec n, c ≠ 32 := no32 fun c hc => by have := dec_mem n c hc; omega
theorem hex32 (dg : List UInt8) : ∀ c ∈ hexT dg, c ≠ 32 := no32 fun c hc => (hexT_mem c hc).1
theorem word32 (x : Int) (h0 : 0 ≤ x) (h4 : x ≤ 4) : stF (word x) = x ∧ ∀ c ∈ word x, c ≠ 32 := by
  have : x = 0 ∨ x = 1 ∨ x = 2 ∨ x = 3 ∨ x = 4 := by omega
  rcases this with rfl | rfl | rfl | rfl | rfl <;> exact ⟨by decide +kernel, by decide +kernel⟩

/-- h is the hash of which l is the text, if there is one. -/
def HashOf (l h : List UInt8) : Prop := h.length = 32 ∧ ∀ g : List UInt8, g.length = 32 → hexT g = l → h = g
/-- What the words tell. -/
structure SlotOf (ws : List (List UInt8)) (x : S) : Prop where
  fit : Fit x
  st : x.st = stF (ws.getD 0 [])
  im : has x.st = true → 4 ≤ ws.length → x.ver = num (ws.getD 1 []) ∧ x.sz = IntKind.i64.wrap (num (ws.getD 2 []) : Int) ∧ HashOf (ws.getD 3 []) x.dg
  no : ¬ (has x.st = true ∧ 4 ≤ ws.length) → x.ver = 0 ∧ x.sz = 0 ∧ x.dg = zeros32
  tr : x.st = 2 → 5 ≤ ws.length → x.tr = IntKind.i64.wrap (num (ws.getD 4 []) : Int)
  nt : ¬ (x.st = 2 ∧ 5 ≤ ws.length) → x.tr = 0

theorem wrap_small {n : Int} (h0 : 0 ≤ n) (h1 : n < 9223372036854775808) : IntKind.i64.wrap n = n := by
  rw [IntKind.wrap_i64]; omega
theorem split_text {y : S} (hr : right y = true) : split (textS y) = word y.st :: ((if has y.st = true then [dec y.ver, dec y.sz.toNat, hexT y.dg] else []) ++ (if y.st = 2 then [dec y.tr.toNat] else [])) := by
  have hg := right_range hr
  obtain ⟨_, hw⟩ := word32 y.st hg.1 hg.2.1
  unfold textS
  rw [if_pos hr]
  by_cases h2 : y.st = 2
  · have hh : has y.st = true := by simp [has, h2]
    rw [if_pos hh, if_pos h2, if_pos hh, if_pos h2]
    simp only [List.append_assoc, List.cons_append]
    rw [split_cons hw, split_cons (dec32 _), split_cons (dec32 _), split_cons (hex32 _), split_word (dec32 _)]
    rfl
  · rw [if_neg h2, if_neg h2, List.append_nil, List.append_nil]
    by_cases hh : has y.st = true
    · rw [if_pos hh, if_pos hh]
      simp only [List.cons_append]
      rw [split_cons hw, split_cons (dec32 _), split_cons (dec32 _), split_word (hex32 _)]
    · rw [if_neg hh, if_neg hh, List.append_nil, split_word hw]
theorem split_text_len {y : S} (hr : right y = true) : (split (textS y)).length ≤ 5 := by
  rw [split_text hr, List.length_cons, List.length_append]
  split <;> split <;> simp
/-- The words of a slot's text tell that slot. -/
theorem slot_of_text {y x : S} (hr : right y = true) (hf : Fit y) (h : SlotOf (split (textS y)) x) : x = y := by
  have hg := right_range hr
  have h1 := h.st
  have h2 := h.im
  have h3 := h.no
  have h4 := h.tr
  have h5 := h.nt
  rw [split_text hr] at h1 h2 h3 h4 h5
  have e1 : x.st = y.st := h1.trans (word32 y.st hg.1 hg.2.1).1
  rw [e1] at h2 h3 h4 h5
  obtain ⟨a, b, c, d, e⟩ := x
  obtain ⟨a', b', c', d', e'⟩ := y
  simp only at e1 h2 h3 h4 h5 hg
  subst e1
  rcases right_cases hr with ⟨k1, k2⟩ | ⟨k1, k2, k3, k4⟩ | ⟨k1, k2, k4⟩
  · have hn : has a = false := by rcases k1 with k | k | k <;> simp only at k <;> subst k <;> rfl
    have n2 : a ≠ 2 := by rcases k1 with k | k | k <;> simp only at k <;> omega
    obtain ⟨q1, q2, q3⟩ := h3 (by rw [hn]; simp)
    have q4 := h5 (by simp [n2])
    simp only [bare, S.mk.injEq] at k2
    simp only [S.mk.injEq]
    exact ⟨trivial, by omega, by omega, by omega, q3.trans k2.2.2.2.2.symm⟩
  · simp only at k1 k2 k3
    subst k1
    simp only [show has 2 = true by rfl, if_true, List.length_cons, List.cons_append, List.nil_append, List.length_nil, List.getD_cons_succ, List.getD_cons_zero] at h2 h4
    obtain ⟨q1, q2, q3⟩ := h2 trivial (by omega)
    have q4 := h4 trivial (by omega)
    have := img_iff.1 k4
    simp only at this
    rw [num_dec (by omega)] at q1
    rw [num_dec (by omega), wrap_small (by omega) (by omega)] at q2
    rw [num_dec (by omega), wrap_small (by omega) (by omega)] at q4
    simp only [S.mk.injEq]
    exact ⟨trivial, by omega, q1, by omega, q3.2 _ hf.dg rfl⟩
  · simp only at k1 k2
    subst k1
    simp only [show has 3 = true by rfl, show ¬ ((3 : Int) = 2) by decide, if_true, if_false, List.append_nil, List.length_cons, List.length_nil, List.getD_cons_succ, List.getD_cons_zero, false_and, not_false_eq_true] at h2 h5
    obtain ⟨q1, q2, q3⟩ := h2 trivial (by omega)
    have q4 := h5 trivial
    have := img_iff.1 k4
    simp only at this
    rw [num_dec (by omega)] at q1
    rw [num_dec (by omega), wrap_small (by omega) (by omega)] at q2
    simp only [S.mk.injEq]
    exact ⟨trivial, by omega, q1, by omega, q3.2 _ hf.dg rfl⟩
theorem text_ne {y : S} (hr : right y = true) : textS y ≠ [] := by
  have hg := right_range hr
  have : ∀ x : Int, 0 ≤ x → x ≤ 4 → word x ≠ [] := by
    intro x h0 h4
    have : x = 0 ∨ x = 1 ∨ x = 2 ∨ x = 3 ∨ x = 4 := by omega
    rcases this with rfl | rfl | rfl | rfl | rfl <;> decide +kernel
  unfold textS
  rw [if_pos hr]
  intro e
  have := this y.st hg.1 hg.2.1
  simp at e
  exact this e.1
theorem text_len (y : S) (hf : Fit y) : (textS y).length ≤ 200 := by
  unfold textS
  split
  · rename_i hr
    have hg := right_range hr
    have h1 : (word y.st).length ≤ 5 := by
      have : y.st = 0 ∨ y.st = 1 ∨ y.st = 2 ∨ y.st = 3 ∨ y.st = 4 := by omega
      rcases this with h | h | h | h | h <;> rw [h] <;> decide +kernel
    have h2 := dec_len hf.ver
    have h3 := dec_len (n := y.sz.toNat) (by omega)
    have h4 := dec_len (n := y.tr.toNat) (by omega)
    have h5 := hexT_length y.dg
    have h6 := hf.dg
    simp only [List.length_append]
    split <;> split <;> simp only [List.length_append, List.length_cons, List.length_nil] <;> omega
  · simp
/-- Slots that can be have texts of their own. -/
theorem text_inj {x y : S} (hx : right x = true) (hy : right y = true) (fx : Fit x) (fy : Fit y) (h : textS x = textS y) : x = y := by
  have e : ∀ z : S, right z = true → Fit z → SlotOf (split (textS z)) z := by
    intro z hz fz
    have hg := right_range hz
    refine ⟨fz, ?_, ?_, ?_, ?_, ?_⟩ <;> rw [split_text hz]
    · exact (word32 z.st hg.1 hg.2.1).1.symm
    · intro h1 h2
      simp only [h1, if_true, List.cons_append, List.getD_cons_succ, List.getD_cons_zero]
      rw [num_dec fz.ver, num_dec (by omega), wrap_small (by omega) (by omega)]
      exact ⟨rfl, by omega, fz.dg, fun g hg he => (hexT_inj he).symm⟩
    · intro h1
      rcases right_cases hz with ⟨k1, k2⟩ | ⟨k1, k2, k3, k4⟩ | ⟨k1, k2, k4⟩
      · rw [k2]; exact ⟨rfl, rfl, rfl⟩
      · exact absurd ⟨by simp [has, k1], by simp [has, k1]⟩ h1
      · exact absurd ⟨by simp [has, k1], by simp [has, k1]⟩ h1
    · intro h1 h2
      have hh : has z.st = true := by simp [has, h1]
      rw [if_pos hh, if_pos h1]
      simp only [List.cons_append, List.nil_append, List.getD_cons_succ, List.getD_cons_zero]
      rw [num_dec (by omega), wrap_small (by omega) (by omega)]
      omega
    · intro h1
      rcases right_cases hz with ⟨k1, k2⟩ | ⟨k1, k2, k3, k4⟩ | ⟨k1, k2, k4⟩
      · rw [k2]; rfl
      · exact absurd ⟨k1, by simp [has, k1]⟩ h1
      · exact k2
  have := e x hx fx
  rw [h] at this
  exact slot_of_text hy fy this

/-- A slot as bytes. -/
def bytesS (s : S) : List UInt8 := if right s = true then fixedL s.st.toNat 1 ++ fixedL s.tr.toNat 1 ++ fixedL s.ver 8 ++ fixedL s.sz.toNat 4 ++ s.dg else []
theorem bytes_len {s : S} (hr : right s = true) (hf : Fit s) : (bytesS s).length = 46 := by
  unfold bytesS
  rw [if_pos hr]
  simp [fixedL_length, hf.dg]
theorem fixed_inj {m n k : Nat} (hm : m < 256 ^ k) (hn : n < 256 ^ k) (h : fixedL m k = fixedL n k) : m = n := by
  have := congrArg numL h
  rwa [numL_fixedL, numL_fixedL, Nat.mod_eq_of_lt hm, Nat.mod_eq_of_lt hn] at this
theorem bytes_inj {x y : S} (hx : right x = true) (hy : right y = true) (h : bytesS x = bytesS y) : x = y := by
  have gx := right_range hx
  have gy := right_range hy
  unfold bytesS at h
  rw [if_pos hx, if_pos hy] at h
  have h1 := List.append_inj h (by simp [fixedL_length])
  have h2 := List.append_inj h1.1 (by simp [fixedL_length])
  have h3 := List.append_inj h2.1 (by simp [fixedL_length])
  have h4 := List.append_inj h3.1 (by simp [fixedL_length])
  have e1 := fixed_inj (by omega) (by omega) h4.1
  have e2 := fixed_inj (by omega) (by omega) h4.2
  have e3 := fixed_inj (by omega) (by omega) h3.2
  have e4 := fixed_inj (by omega) (by omega) h2.2
  obtain ⟨a, b, c, d, e⟩ := x
  obtain ⟨a', b', c', d', e'⟩ := y
  simp only at e1 e2 e3 e4 gx gy h1
  simp only [S.mk.injEq]
  exact ⟨by omega, by omega, by omega, by omega, h1.2⟩
end Go.Proofs.YtglphnmnnfpcoaaDoor
