/-
  Records in banks, as lists: the row that stands in a bank; banks in which nothing can be read, or only what is older. A device's calls in parts, step by step: what programming in a row, wiping and keeping make of it; what is left if the power ends. Records in two banks: what Begin and Append make of a device, and what is left of it if the power ends: what was sure, or the one that was going on. Begin, Append and Restart of records in two banks: each of them from a device that is up, and from one that is down. The chapter's example and what JournalNames does, of lists.
-/
import Derived.Test.YtdfdalkcljfghaaGreatMath
import Derived.Test.YtdfdalkcljfghaaGreatFMath
namespace Go.Proofs.YtdfdalkcljfghaaGreat

abbrev Body := List UInt8
structure RW where
  base : Nat
  last : Nat
  bodies : List Body
def RW.none : RW := ⟨0, 0, []⟩
def RW.counts (r : RW) : Bool := decide (0 < r.bodies.length)
def RW.takes (r : RW) (k : UInt8) (s : Nat) : Bool := if r.bodies.length = 0 then decide (k = 1) else decide (k = 2) && decide (s = r.last + 1)
def RW.put (r : RW) (s : Nat) (b : Body) : RW := ⟨if r.bodies.length = 0 then s else r.base, s, r.bodies ++ [b]⟩
def RW.over (r o : RW) : Bool := r.counts && (!o.counts || decide (o.base < r.base))
def scanR : Nat → RW → List Sec → RW
  | 0, r, _ => r
  | n + 1, r, l =>
    if (getF l).2.2.2 = 0 ∨ r.takes (getF l).1 (getF l).2.1 = false then r
    else scanR n (r.put (getF l).2.1 (getF l).2.2.1) (l.drop (getF l).2.2.2)
def rowJ (l : List Sec) : RW := scanR (l.length + 1) RW.none l
/-- What Open tells: which bank, the last number, the bodies. -/
def openL (l0 l1 : List Sec) : Nat × Nat × List Body :=
  if (rowJ l0).over (rowJ l1) = true then (0, (rowJ l0).last, (rowJ l0).bodies) else (1, (rowJ l1).last, (rowJ l1).bodies)

theorem getF_cases (l : List Sec) : getF l = noF ∨ ∃ r, toldF l ≠ 0 ∧ toldF l ≤ l.length ∧ r = joinedF (l.take (toldF l)) ∧ putF (kF r) (seqF r) (bodyF r) = l.take (toldF l) ∧ getF l = (kF r, seqF r, bodyF r, toldF l) := by
  by_cases h : toldF l = 0 ∨ l.length < toldF l
  · left; unfold getF; rw [if_pos h]
  · by_cases h2 : putF (kF (joinedF (l.take (toldF l)))) (seqF (joinedF (l.take (toldF l)))) (bodyF (joinedF (l.take (toldF l)))) = l.take (toldF l)
    · right
      refine ⟨_, by omega, by omega, rfl, h2, ?_⟩
      unfold getF; rw [if_neg h]; simp only; rw [if_pos h2]
    · left
      unfold getF; rw [if_neg h]; simp only; rw [if_neg h2]
theorem getF_size (l : List Sec) : (getF l).2.2.2 ≤ l.length := by
  rcases getF_cases l with h | ⟨r, h1, h2, h3, h4, h5⟩
  · rw [h]; exact Nat.zero_le _
  · rw [h5]; exact h2
theorem scan_fuel : ∀ (n m : Nat) (r : RW) (l : List Sec), l.length < n → l.length < m → scanR n r l = scanR m r l
  | 0, _, _, _, h, _ => absurd h (by omega)
  | _ + 1, 0, _, _, _, h => absurd h (by omega)
  | n + 1, m + 1, r, l, h1, h2 => by
    rw [scanR, scanR]
    split
    · rfl
    · rename_i h
      rw [not_or] at h
      have := getF_size l
      exact scan_fuel n m _ _ (by rw [List.length_drop]; omega) (by rw [List.length_drop]; omega)
theorem scan_stop {r : RW} {l : List Sec} (h : (getF l).2.2.2 = 0 ∨ r.takes (getF l).1 (getF l).2.1 = false) : scanR (l.length + 1) r l = r := by
  rw [scanR, if_pos h]
theorem scan_on {r : RW} {l : List Sec} (h : ¬ ((getF l).2.2.2 = 0 ∨ r.takes (getF l).1 (getF l).2.1 = false)) :
    scanR (l.length + 1) r l = scanR ((l.drop (getF l).2.2.2).length + 1) (r.put (getF l).2.1 (getF l).2.2.1) (l.drop (getF l).2.2.2) := by
  rw [scanR, if_neg h]
  rw [not_or] at h
  have := getF_size l
  exact scan_fuel _ _ _ _ (by rw [List.length_drop]; omega) (by rw [List.length_drop]; omega)
theorem scan_base : ∀ (n : Nat) (r : RW) (l : List Sec), r.bodies.length ≠ 0 → (scanR n r l).base = r.base ∧ (scanR n r l).bodies.length ≠ 0
  | 0, r, _, h => ⟨rfl, h⟩
  | n + 1, r, l, h => by
    rw [scanR]
    split
    · exact ⟨rfl, h⟩
    · have := scan_base n (r.put (getF l).2.1 (getF l).2.2.1) (l.drop (getF l).2.2.2) (by simp [RW.put])
      refine ⟨this.1.trans ?_, this.2⟩
      simp [RW.put, h]

/-! ### banks that tell nothing, or only what is older -/
def first (l : List Sec) : Sec := l.getD 0 []
def Bad (l : List Sec) : Prop := (first l).getD 0 0 ≠ 66 ∨ toldF l = 0 ∨ l.length < toldF l ∨ ∃ i, i < toldF l ∧ i < l.length ∧ (l.getD i []).getD 63 1 ≠ 0
def Low (n : Nat) (l : List Sec) : Prop := Bad l ∨ seqF (first l) < n
theorem bad_get {l : List Sec} (h : Bad l) : getF l = noF := by
  rcases h with h | h | h | ⟨i, h1, h2, h3⟩
  · rcases getF_cases l with e | ⟨r, e1, e2, e3, e4, e5⟩
    · exact e
    · exfalso
      have hb : (bodyF r).length ≤ 4000 := by
        rcases Nat.lt_or_ge 4000 (bodyF r).length with hb | hb
        · rw [putF_none (by omega)] at e4
          have := congrArg List.length e4
          rw [List.length_take] at this
          simp at this; omega
        · exact hb
      have h13 := putF_first hb (kF r) (seqF r)
      rw [e4] at h13
      have hf : (l.take (toldF l)).getD 0 [] = first l := by
        unfold first
        rw [List.getD_eq_getElem?_getD, List.getElem?_take_of_lt (by omega), ← List.getD_eq_getElem?_getD]
      rw [hf] at h13
      exact h (said0 h13)
  · unfold getF; rw [if_pos (.inl h)]
  · unfold getF; rw [if_pos (.inr h)]
  · exact getF_zero h2 (.inr h3) h1
theorem bad_row {l : List Sec} (h : Bad l) : rowJ l = RW.none := by
  unfold rowJ
  rw [scan_stop (.inl (by rw [bad_get h]; rfl))]
theorem low_row {n : Nat} {l : List Sec} (hs : ∀ s ∈ l, s.length = 64) (h : Low n l) (hc : (rowJ l).counts = true) : (rowJ l).base < n := by
  rcases h with h | h
  · rw [bad_row h] at hc
    simp [RW.counts, RW.none] at hc
  · unfold rowJ at hc ⊢
    by_cases h1 : (getF l).2.2.2 = 0 ∨ RW.none.takes (getF l).1 (getF l).2.1 = false
    · rw [scan_stop h1] at hc
      simp [RW.counts, RW.none] at hc
    · rw [scan_on h1, (scan_base _ _ _ (by simp [RW.put])).1]
      show (if RW.none.bodies.length = 0 then (getF l).2.1 else RW.none.base) < n
      rw [if_pos (show RW.none.bodies.length = 0 from rfl)]
      rcases getF_cases l with e | ⟨r, e1, e2, e3, e4, e5⟩
      · exact absurd (Or.inl (by rw [e]; rfl)) h1
      · rw [e5]
        show seqF r < n
        have hf : (l.take (toldF l)).getD 0 [] = first l := by
          unfold first
          rw [List.getD_eq_getElem?_getD, List.getElem?_take_of_lt (by omega), ← List.getD_eq_getElem?_getD]
        have h13 := joinedF_take13 (l := l.take (toldF l)) (by rw [List.length_take]; omega) (fun s hm => hs s (List.mem_of_mem_take hm))
        rw [hf, ← e3] at h13
        rw [(same_fields h13).2.1]
        exact h
theorem bad_blank (n : Nat) : Bad (List.replicate n blankS) := by
  left
  unfold first
  cases n with
  | zero => simp
  | succ n => simp [List.replicate_succ, blankS]

/-! ### rows of frames -/
def moreF : Nat → List Body → List Sec
  | _, [] => []
  | n, b :: bs => putF 2 n b ++ moreF (n + 1) bs
def framesF : Nat → List Body → List Sec
  | _, [] => []
  | n, b :: bs => putF 1 n b ++ moreF (n + 1) bs
theorem moreF_snoc : ∀ (bs : List Body) (n : Nat) (b : Body), moreF n (bs ++ [b]) = moreF n bs ++ putF 2 (n + bs.length) b
  | [], n, b => by simp [moreF]
  | c :: bs, n, b => by
    simp only [List.cons_append, moreF, moreF_snoc bs (n + 1) b, List.append_assoc, List.length_cons]
    rw [show n + 1 + bs.length = n + (bs.length + 1) by omega]
theorem framesF_snoc {bs : List Body} (h : bs ≠ []) (n : Nat) (b : Body) : framesF n (bs ++ [b]) = framesF n bs ++ putF 2 (n + bs.length) b := by
  cases bs with
  | nil => exact absurd rfl h
  | cons c bs =>
    simp only [List.cons_append, framesF, moreF_snoc, List.append_assoc, List.length_cons]
    rw [show n + 1 + bs.length = n + (bs.length + 1) by omega]
theorem framesF_one (n : Nat) (b : Body) : framesF n [b] = putF 1 n b := by simp [framesF, moreF]
theorem moreF_sec : ∀ (bs : List Body) (n : Nat), ∀ s ∈ moreF n bs, s.length = 64
  | [], _, s, h => by simp [moreF] at h
  | b :: bs, n, s, h => by
    rw [moreF, List.mem_append] at h
    rcases h with h | h
    · exact putF_sec _ _ _ s h
    · exact moreF_sec bs _ s h
theorem framesF_sec (bs : List Body) (n : Nat) : ∀ s ∈ framesF n bs, s.length = 64 := by
  cases bs with
  | nil => intro s h; simp [framesF] at h
  | cons b bs =>
    intro s h
    rw [framesF, List.mem_append] at h
    rcases h with h | h
    · exact putF_sec _ _ _ s h
    · exact moreF_sec bs _ s h
theorem scan_more : ∀ (bs : List Body) (r : RW) (T : List Sec) (n fuel : Nat), r.bodies.length ≠ 0 → r.last + 1 = n → (∀ b ∈ bs, b.length ≤ 4000) → n + bs.length ≤ 18446744073709551616 → Bad T → bs.length < fuel →
    scanR fuel r (moreF n bs ++ T) = ⟨r.base, r.last + bs.length, r.bodies ++ bs⟩
  | [], r, T, n, fuel + 1, _, _, _, _, hT, _ => by
    rw [scanR, moreF, List.nil_append, if_pos (.inl (by rw [bad_get hT]; rfl))]
    simp
  | [], r, T, n, 0, _, _, _, _, _, h => absurd h (by simp)
  | b :: bs, r, T, n, 0, _, _, _, _, _, h => absurd h (by simp)
  | b :: bs, r, T, n, fuel + 1, hr, hn, hb, h64, hT, hf => by
    have hb0 := hb b (by simp)
    have hg : getF (moreF n (b :: bs) ++ T) = (2, n, b, (putF 2 n b).length) := by
      rw [moreF, List.append_assoc]
      simp only [List.length_cons] at h64
      exact getF_put hb0 2 n (by omega) _
    have hl := putF_length hb0 2 n
    have h1 := sizeF_one hb0
    rw [scanR, hg, if_neg]
    · simp only
      have hd : (moreF n (b :: bs) ++ T).drop (putF 2 n b).length = moreF (n + 1) bs ++ T := by
        rw [moreF, List.append_assoc, List.drop_left]
      rw [hd]
      simp only [List.length_cons] at h64 hf
      have := scan_more bs (r.put n b) T (n + 1) fuel (by simp [RW.put]) rfl (fun c hc => hb c (by simp [hc])) (by omega) hT (by omega)
      rw [this]
      simp only [RW.put, if_neg hr, List.append_assoc, List.singleton_append, List.length_cons, RW.mk.injEq, true_and, and_true]
      omega
    · simp only [not_or]
      refine ⟨by omega, ?_⟩
      unfold RW.takes
      rw [if_neg hr]
      simp [hn]
theorem moreF_length : ∀ (bs : List Body) (n : Nat), (∀ b ∈ bs, b.length ≤ 4000) → bs.length ≤ (moreF n bs).length
  | [], _, _ => by simp [moreF]
  | b :: bs, n, h => by
    have h0 := h b (by simp)
    have h1 := sizeF_one h0
    have h2 := putF_length h0 2 n
    have := moreF_length bs (n + 1) (fun c hc => h c (by simp [hc]))
    rw [moreF, List.length_append, List.length_cons]
    omega
theorem held_row {bs : List Body} (hne : bs ≠ []) {n : Nat} {T : List Sec} (hb : ∀ b ∈ bs, b.length ≤ 4000) (h64 : n + bs.length ≤ 18446744073709551616) (hT : Bad T) :
    rowJ (framesF n bs ++ T) = ⟨n, n + bs.length - 1, bs⟩ := by
  cases bs with
  | nil => exact absurd rfl hne
  | cons b bs =>
    have hb0 := hb b (by simp)
    have hl := putF_length hb0 1 n
    have h1 := sizeF_one hb0
    have hm := moreF_length bs (n + 1) (fun c hc => hb c (by simp [hc]))
    simp only [List.length_cons] at h64
    have hg : getF (framesF n (b :: bs) ++ T) = (1, n, b, (putF 1 n b).length) := by
      rw [framesF, List.append_assoc]
      exact getF_put hb0 1 n (by omega) _
    have hd : (framesF n (b :: bs) ++ T).drop (putF 1 n b).length = moreF (n + 1) bs ++ T := by
      rw [framesF, List.append_assoc, List.drop_left]
    have hlen : (framesF n (b :: bs) ++ T).length = (putF 1 n b).length + (moreF (n + 1) bs).length + T.length := by
      rw [framesF, List.append_assoc, List.length_append, List.length_append, Nat.add_assoc]
    unfold rowJ
    rw [scanR, hg, if_neg]
    · simp only
      rw [hd, scan_more bs (RW.none.put n b) T (n + 1) _ (by simp [RW.put]) rfl (fun c hc => hb c (by simp [hc])) (by omega) hT (by omega)]
      simp only [RW.put, RW.none, List.length_nil, if_true, List.nil_append, List.singleton_append, List.length_cons, RW.mk.injEq, true_and, and_true]
      omega
    · simp only [not_or]
      refine ⟨by omega, ?_⟩
      simp [RW.takes, RW.none]
theorem framesF_length {bs : List Body} (h : bs ≠ []) (hb : ∀ b ∈ bs, b.length ≤ 4000) (n : Nat) : 0 < (framesF n bs).length := by
  cases bs with
  | nil => exact absurd rfl h
  | cons b bs =>
    have hb0 := hb b (by simp)
    have h1 := sizeF_one hb0
    have h2 := putF_length hb0 1 n
    rw [framesF, List.length_append]; omega

/-! ### sectors erased in part -/
def Ero (s t : Sec) : Prop := t = s ∨ (t.getD 0 0 = 255 ∧ (t.getD 63 1 = s.getD 63 1 ∨ t.getD 63 1 = 255))
theorem Ero.refl (s : Sec) : Ero s s := .inl rfl
theorem Ero.trans {s t u : Sec} (h : Ero s t) (g : Ero t u) : Ero s u := by
  rcases g with rfl | ⟨g1, g2⟩
  · exact h
  · rcases h with rfl | ⟨h1, h2⟩
    · exact .inr ⟨g1, g2⟩
    · refine .inr ⟨g1, ?_⟩
      rcases g2 with e | e
      · rw [e]; exact h2
      · exact .inr e
theorem over_zero (s t : Sec) : over 0 s t = t := by simp [over]
theorem over_all {s t : Sec} (hs : s.length = 64) (ht : t.length = 64) : over 64 s t = s := by
  unfold over
  rw [List.take_of_length_le (by omega), List.drop_eq_nil_of_le (by omega), List.append_nil]
theorem over_last {s t : Sec} (hs : s.length = 64) {n : Nat} (hn : n < 64) (x : UInt8) : (over n s t).getD 63 x = t.getD 63 x := by
  unfold over
  rw [List.getD_eq_getElem?_getD, List.getElem?_append_right (by rw [List.length_take]; omega), List.getElem?_drop, List.length_take, ← List.getD_eq_getElem?_getD]
  congr 1
  omega
theorem over_first {s t : Sec} (hs : s.length = 64) {n : Nat} (hn : 0 < n) (x : UInt8) : (over n s t).getD 0 x = s.getD 0 x := by
  unfold over
  rw [List.getD_eq_getElem?_getD, List.getElem?_append_left (by rw [List.length_take]; omega), List.getElem?_take_of_lt hn, ← List.getD_eq_getElem?_getD]
theorem blank_get {i : Nat} (h : i < 64) (x : UInt8) : blankS.getD i x = 255 := by
  unfold blankS
  rw [List.getD_eq_getElem?_getD, List.getElem?_replicate_of_lt h]; rfl
theorem ero_over {s : Sec} (hs : s.length = 64) (n : Nat) (hn : n ≤ 64) : Ero s (over n blankS s) := by
  by_cases h0 : n = 0
  · subst h0; rw [over_zero]; exact .refl _
  · refine .inr ⟨by rw [over_first blankS_len (by omega), blank_get (by omega)], ?_⟩
    by_cases h1 : n = 64
    · subst h1; rw [over_all blankS_len hs]; exact .inr (blank_get (by omega) _)
    · exact .inl (over_last blankS_len (by omega) _)
/-- Erased in part: what told nothing tells nothing. -/
theorem Bad.ero {l k : List Sec} (h : Bad l) (hl : k.length = l.length) (he : ∀ i, i < l.length → Ero (l.getD i []) (k.getD i [])) : Bad k := by
  by_cases hn : l.length = 0
  · obtain rfl : k = [] := List.length_eq_zero_iff.1 (by omega)
    exact bad_blank 0
  · rcases he 0 (by omega) with e | ⟨e, _⟩
    · have e1 : first k = first l := e
      have e2 : toldF k = toldF l := by
        unfold toldF
        rw [hl]
        have : k.getD 0 [] = l.getD 0 [] := e
        rw [this]
      rcases h with h | h | h | ⟨i, h1, h2, h3⟩
      · exact .inl (by rw [e1]; exact h)
      · exact .inr (.inl (by rw [e2]; exact h))
      · exact .inr (.inr (.inl (by rw [e2, hl]; exact h)))
      · refine .inr (.inr (.inr ⟨i, by rw [e2]; exact h1, by rw [hl]; exact h2, ?_⟩))
        rcases he i h2 with g | ⟨_, g | g⟩
        · rw [g]; exact h3
        · rw [g]; exact h3
        · rw [g]; decide
    · left
      show (k.getD 0 []).getD 0 0 ≠ 66
      rw [e]; decide
theorem Low.ero {n : Nat} {l k : List Sec} (h : Low n l) (hl : k.length = l.length) (he : ∀ i, i < l.length → Ero (l.getD i []) (k.getD i [])) : Low n k := by
  rcases h with h | h
  · exact .inl (h.ero hl he)
  · by_cases hn : l.length = 0
    · obtain rfl : k = [] := List.length_eq_zero_iff.1 (by omega)
      exact .inl (bad_blank 0)
    · rcases he 0 (by omega) with e | ⟨e, _⟩
      · exact .inr (by show seqF (k.getD 0 []) < n; rw [e]; exact h)
      · left; left
        show (k.getD 0 []).getD 0 0 ≠ 66
        rw [e]; decide
theorem Low.mono {n m : Nat} {l : List Sec} (h : Low n l) (hm : n ≤ m) : Low m l := h.elim .inl fun h => .inr (by omega)

/-! ### a frame written in part -/
theorem ext_getD {l k : List Sec} (hl : l.length = k.length) (h : ∀ i, i < l.length → l.getD i [] = k.getD i []) : l = k := by
  apply List.ext_getElem? 
  intro i
  by_cases hi : i < l.length
  · have := h i hi
    rw [List.getD_eq_getElem?_getD, List.getD_eq_getElem?_getD, List.getElem?_eq_getElem hi, List.getElem?_eq_getElem (by omega)] at this
    rw [List.getElem?_eq_getElem hi, List.getElem?_eq_getElem (by omega)]
    exact congrArg some this
  · rw [List.getElem?_eq_none (by omega), List.getElem?_eq_none (by omega)]
theorem torn_cases {b : Body} (hb : b.length ≤ 4000) {k : UInt8} {n : Nat} {T : List Sec} (hlen : (putF k n b).length ≤ T.length)
    (h1 : ∀ i, i < (putF k n b).length → ∃ q, q ≤ 64 ∧ T.getD i [] = over q ((putF k n b).getD i []) blankS)
    (h2 : ∀ i, (putF k n b).length ≤ i → i < T.length → T.getD i [] = blankS) :
    T = putF k n b ++ List.replicate (T.length - (putF k n b).length) blankS ∨ Bad T := by
  have hl := putF_length hb k n
  have hz := sizeF_one hb
  have hsec : ∀ i, i < (putF k n b).length → ((putF k n b).getD i []).length = 64 := fun i hi => by
    rw [List.getD_eq_getElem?_getD, List.getElem?_eq_getElem hi]
    exact putF_sec k n b _ (List.getElem_mem _)
  by_cases hall : ∀ i, i < (putF k n b).length → T.getD i [] = (putF k n b).getD i []
  · left
    apply ext_getD
    · rw [List.length_append, List.length_replicate]; omega
    · intro i hi
      by_cases hi2 : i < (putF k n b).length
      · rw [hall i hi2, List.getD_eq_getElem?_getD, List.getD_eq_getElem?_getD, List.getElem?_append_left hi2]
      · rw [h2 i (by omega) hi, List.getD_eq_getElem?_getD, List.getElem?_append_right (by omega), List.getElem?_replicate_of_lt (by omega)]
        rfl
  · right
    obtain ⟨i, hi, hne⟩ : ∃ i, i < (putF k n b).length ∧ T.getD i [] ≠ (putF k n b).getD i [] := by
      apply Classical.byContradiction
      intro hc
      exact hall fun i hi => Classical.byContradiction fun he => hc ⟨i, hi, he⟩
    have hlast : ∀ j, j < (putF k n b).length → T.getD j [] ≠ (putF k n b).getD j [] → (T.getD j []).getD 63 1 ≠ 0 := by
      intro j hj hne
      obtain ⟨q, hq, e⟩ := h1 j hj
      have hq2 : q < 64 := by
        rcases Nat.lt_or_ge q 64 with h | h
        · exact h
        · obtain rfl : q = 64 := by omega
          exact absurd (e.trans (over_all (hsec j hj) blankS_len)) hne
      rw [e, over_last (hsec j hj) hq2, blank_get (by omega)]
      decide
    by_cases h0 : T.getD 0 [] = (putF k n b).getD 0 []
    · refine .inr (.inr (.inr ⟨i, ?_, by omega, hlast i hi hne⟩))
      rw [toldF_first (by omega) (k := k) (s := n) (n := b.length) (by rw [h0]; exact putF_first hb k n) (by omega)]
      omega
    · by_cases ht : toldF T = 0
      · exact .inr (.inl ht)
      · exact .inr (.inr (.inr ⟨0, by omega, by omega, hlast 0 (by omega) h0⟩))
end Go.Proofs.YtdfdalkcljfghaaGreat

namespace Go.Proofs.YtdfdalkcljfghaaGreat

def bankL (sz : List Nat) (k : Nat) (K : List Sec) : List Sec := (K.drop (bnd sz k)).take (sz.getD k 0)
section
variable {sz : List Nat} {k : Nat} {K : List Sec}
theorem bankL_len (hk : k < sz.length) (h : sz.sum ≤ K.length) : (bankL sz k K).length = sz.getD k 0 := by
  have := bnd_part hk
  unfold bankL
  rw [List.length_take, List.length_drop]; omega
theorem bankL_get {i : Nat} (hi : i < sz.getD k 0) : (bankL sz k K).getD i [] = K.getD (bnd sz k + i) [] := by
  unfold bankL
  rw [List.getD_eq_getElem?_getD, List.getElem?_take_of_lt hi, List.getElem?_drop, ← List.getD_eq_getElem?_getD]
theorem bankL_sec (h : ∀ s ∈ K, s.length = 64) : ∀ s ∈ bankL sz k K, s.length = 64 := fun s hs => h s (List.mem_of_mem_drop (List.mem_of_mem_take hs))
end
theorem bank_apart {sz : List Nat} {a b i j : Nat} (ha : a < sz.length) (hb : b < sz.length) (hab : a ≠ b) (hi : i < sz.getD a 0) (hj : j < sz.getD b 0) : bnd sz a + i ≠ bnd sz b + j := by
  rcases Nat.lt_or_gt_of_ne hab with h | h
  · have h1 := bnd_succ ha
    have h2 := bnd_mono sz (show a + 1 ≤ b by omega)
    omega
  · have h1 := bnd_succ hb
    have h2 := bnd_mono sz (show b + 1 ≤ a by omega)
    omega

structure Fit (t : Nat) (d : DM) (sz : List Nat) : Prop where
  ok : d.Ok
  now : d.now = layAll d.kept d.wait
  worn : ∀ s ∈ d.wear, s ≤ t
  most : t < d.most
  room : sz.sum ≤ d.kept.length
theorem Fit.more {t : Nat} {d : DM} {sz : List Nat} (h : Fit t d sz) (hm : t + 1 < d.most) : Fit (t + 1) d sz :=
  { h with worn := fun s hs => Nat.le_succ_of_le (h.worn s hs), most := hm }
theorem Fit.lt {t : Nat} {d : DM} {sz : List Nat} (h : Fit t d sz) {k i : Nat} (hk : k < sz.length) (hi : i < sz.getD k 0) : bnd sz k + i < d.kept.length := by
  have := bnd_part hk
  have := h.room
  omega

theorem step_cases (d : DM) : (d.budget ≠ -1 ∧ stepD d = (62, { d with down := true })) ∨ ∃ b, stepD d = (0, { d with budget := b }) ∧ (d.budget = -1 → b = -1) := by
  unfold stepD
  by_cases h : d.budget = 0
  · left
    rw [if_pos h]
    exact ⟨by omega, rfl⟩
  · right
    rw [if_neg h]
    exact ⟨_, rfl, fun e => if_pos e⟩
theorem has_in {n i : Nat} (h : i < n) : hasD n (i : Int) = true := by
  unfold hasD
  rw [decide_eq_true (by omega), decide_eq_true (by omega)]; rfl
theorem open_in {d : DM} {i : Nat} (h : i < d.kept.length) (hd : d.down = false) : openD d (i : Int) = 0 := by
  unfold openD
  rw [has_in h, hd]; rfl
theorem program_one {d : DM} {i : Nat} (h : i < d.kept.length) (hd : d.down = false) (hb : d.now.getD i [] = blankS) (s : Sec) :
    (d.budget ≠ -1 ∧ programD d (i : Int) s = (62, { d with down := true })) ∨
    ∃ b, programD d (i : Int) s = (0, { d with budget := b, now := d.now.set i s, wait := d.wait ++ [(i, s)] }) ∧ (d.budget = -1 → b = -1) := by
  unfold programD
  rw [open_in h hd, if_neg (by simp), Int.toNat_natCast, hb, if_neg (by simp)]
  rcases step_cases d with ⟨h1, h2⟩ | ⟨b, h1, h2⟩
  · left
    rw [h2, if_pos (by simp)]
    exact ⟨h1, rfl⟩
  · right
    rw [h1, if_neg (by simp)]
    exact ⟨b, rfl, h2⟩
theorem erase_one {d : DM} {i : Nat} (h : i < d.kept.length) (hd : d.down = false) (hw : d.wear.getD i 0 < d.most) :
    (d.budget ≠ -1 ∧ eraseD d (i : Int) = (62, { d with down := true })) ∨
    ∃ b, eraseD d (i : Int) = (0, { d with budget := b, wear := d.wear.set i (d.wear.getD i 0 + 1), now := d.now.set i blankS, wait := d.wait ++ [(i, blankS)] }) ∧ (d.budget = -1 → b = -1) := by
  unfold eraseD
  rw [open_in h hd, if_neg (by simp), Int.toNat_natCast, if_neg (by omega)]
  rcases step_cases d with ⟨h1, h2⟩ | ⟨b, h1, h2⟩
  · left
    rw [h2, if_pos (by simp)]
    exact ⟨h1, rfl⟩
  · right
    rw [h1, if_neg (by simp)]
    exact ⟨b, rfl, h2⟩
theorem sync_one {t : Nat} {d : DM} {sz : List Nat} (h : Fit t d sz) (hd : d.down = false) :
    (d.budget ≠ -1 ∧ syncD d = (62, { d with down := true })) ∨ ∃ b, syncD d = (0, { d with budget := b, kept := d.now, wait := [] }) ∧ (d.budget = -1 → b = -1) := by
  unfold syncD
  rw [hd, if_neg (by simp)]
  rcases step_cases d with ⟨h1, h2⟩ | ⟨b, h1, h2⟩
  · left
    rw [h2, if_pos (by simp)]
    exact ⟨h1, rfl⟩
  · right
    rw [h1, if_neg (by simp)]
    refine ⟨b, ?_, h2⟩
    unfold keepD
    simp only [h.now, hd]
theorem Fit.drop {t : Nat} {d : DM} {sz : List Nat} (h : Fit t d sz) : Fit t { d with down := true } sz := ⟨{ h.ok with }, h.now, h.worn, h.most, h.room⟩
theorem Fit.sync {t : Nat} {d : DM} {sz : List Nat} (h : Fit t d sz) {b : Int} (e : syncD d = (0, { d with budget := b, kept := d.now, wait := [] })) : Fit t { d with budget := b, kept := d.now, wait := [] } sz := by
  have := h.ok.sync
  rw [e] at this
  exact ⟨this, rfl, h.worn, h.most, by show sz.sum ≤ d.now.length; rw [h.ok.now]; exact h.room⟩
theorem Fit.program {t : Nat} {d : DM} {sz : List Nat} (h : Fit t d sz) {i : Nat} {s : Sec} (hs : s.length = 64) {b : Int} (e : programD d (i : Int) s = (0, { d with budget := b, now := d.now.set i s, wait := d.wait ++ [(i, s)] })) :
    Fit t { d with budget := b, now := d.now.set i s, wait := d.wait ++ [(i, s)] } sz := by
  have := h.ok.program (i : Int) hs
  rw [e] at this
  exact ⟨this, by show d.now.set i s = layAll d.kept (d.wait ++ [(i, s)]); rw [layAll_snoc, ← h.now], h.worn, h.most, h.room⟩

/-! ### what programs in a row make of a list -/
def placed : Nat → List Sec → List (Nat × Sec)
  | _, [] => []
  | q, s :: ss => (q, s) :: placed (q + 1) ss
theorem placed_snoc : ∀ (ss : List Sec) (q : Nat) (s : Sec), placed q (ss ++ [s]) = placed q ss ++ [(q + ss.length, s)]
  | [], q, s => by simp [placed]
  | c :: ss, q, s => by
    simp only [List.cons_append, placed, placed_snoc ss (q + 1) s, List.length_cons]
    rw [show q + 1 + ss.length = q + (ss.length + 1) by omega]
theorem placed_mem : ∀ (ss : List Sec) (q : Nat), ∀ y ∈ placed q ss, q ≤ y.1 ∧ y.1 < q + ss.length
  | [], _, y, h => by simp [placed] at h
  | c :: ss, q, y, h => by
    simp only [placed, List.mem_cons] at h
    rcases h with rfl | h
    · simp
    · have := placed_mem ss (q + 1) y h
      simp only [List.length_cons]; omega
theorem placed_length : ∀ (ss : List Sec) (q : Nat), (placed q ss).length = ss.length
  | [], _ => rfl
  | c :: ss, q => by simp [placed, placed_length ss]
theorem set_getD_ne {α : Type} {l : List α} {i j : Nat} (h : i ≠ j) (v e : α) : (l.set i v).getD j e = l.getD j e := by
  rw [List.getD_eq_getElem?_getD, List.getElem?_set_ne h, ← List.getD_eq_getElem?_getD]
theorem set_getD_eq {α : Type} {l : List α} {i : Nat} (h : i < l.length) (v e : α) : (l.set i v).getD i e = v := by
  rw [List.getD_eq_getElem?_getD, List.getElem?_set_self h]; rfl
theorem layAll_out : ∀ (W : List (Nat × Sec)) (K : List Sec) (i : Nat), (∀ y ∈ W, y.1 ≠ i) → (layAll K W).getD i [] = K.getD i []
  | [], _, _, _ => rfl
  | y :: W, K, i, h => by
    show (layAll (K.set y.1 y.2) W).getD i [] = _
    rw [layAll_out W _ i (fun z hz => h z (by simp [hz])), set_getD_ne (h y (by simp))]
theorem layKept_out : ∀ (W : List (Nat × Sec)) (K : List Sec) (bs : List UInt8) (i : Nat), (∀ y ∈ W, y.1 ≠ i) → (layKept K W bs).getD i [] = K.getD i []
  | [], _, _, _, _ => by simp [layKept]
  | y :: W, K, [], i, h => by simp [layKept]
  | y :: W, K, b :: bs, i, h => by
    rw [layKept, layKept_out W _ bs i (fun z hz => h z (by simp [hz]))]
    exact set_getD_ne (h y (by simp)) _ _
theorem layAll_placed : ∀ (ss : List Sec) (q : Nat) (K : List Sec), q + ss.length ≤ K.length → ∀ i, i < ss.length → (layAll K (placed q ss)).getD (q + i) [] = ss.getD i []
  | [], _, _, _, i, h => by simp at h
  | s :: ss, q, K, hl, i, hi => by
    simp only [List.length_cons] at hl hi
    show (layAll (K.set q s) (placed (q + 1) ss)).getD (q + i) [] = _
    cases i with
    | zero =>
      rw [layAll_out _ _ _ (fun y hy => by have := placed_mem _ _ y hy; omega), Nat.add_zero, set_getD_eq (by omega)]
      rfl
    | succ i =>
      rw [show q + (i + 1) = q + 1 + i by omega, layAll_placed ss (q + 1) _ (by rw [List.length_set]; omega) i (by omega)]
      rfl
theorem layKept_placed : ∀ (ss : List Sec) (q : Nat) (K : List Sec) (bs : List UInt8), q + ss.length ≤ K.length → ∀ i, i < ss.length → ∃ n, n ≤ 64 ∧ (layKept K (placed q ss) bs).getD (q + i) [] = over n (ss.getD i []) (K.getD (q + i) [])
  | [], _, _, _, _, i, h => by simp at h
  | s :: ss, q, K, [], hl, i, hi => ⟨0, by omega, by rw [over_zero]; simp [placed, layKept]⟩
  | s :: ss, q, K, b :: bs, hl, i, hi => by
    simp only [List.length_cons] at hl hi
    have e : layKept K (placed q (s :: ss)) (b :: bs) = layKept (layOne K (q, s) b) (placed (q + 1) ss) bs := rfl
    rw [e]
    cases i with
    | zero =>
      refine ⟨min b.toNat 64, Nat.min_le_right _ _, ?_⟩
      rw [layKept_out _ _ _ _ (fun y hy => by have := placed_mem _ _ y hy; omega), Nat.add_zero]
      exact set_getD_eq (by omega) _ _
    | succ i =>
      obtain ⟨n, hn, h⟩ := layKept_placed ss (q + 1) (layOne K (q, s) b) bs (by simp [layOne]; omega) i (by omega)
      refine ⟨n, hn, ?_⟩
      rw [show q + (i + 1) = q + 1 + i by omega, h]
      congr 1
      exact set_getD_ne (by simp; omega) _ _
theorem layKept_ero : ∀ (W : List (Nat × Sec)) (K : List Sec) (bs : List UInt8), (∀ s ∈ K, s.length = 64) → (∀ y ∈ W, y.1 < K.length ∧ y.2 = blankS) → ∀ i, i < K.length → Ero (K.getD i []) ((layKept K W bs).getD i [])
  | [], _, _, _, _, i, _ => by simp [layKept, Ero.refl]
  | y :: W, K, [], _, _, i, _ => by simp [layKept, Ero.refl]
  | y :: W, K, b :: bs, hK, hW, i, hi => by
    rw [layKept]
    have hy := hW y (by simp)
    have h64 : (K.getD y.1 []).length = 64 := getD_mem64 hK hy.1
    have hl : (layOne K y b).length = K.length := by simp [layOne]
    have h1 : Ero (K.getD i []) ((layOne K y b).getD i []) := by
      unfold layOne
      by_cases e : y.1 = i
      · subst e
        rw [set_getD_eq hy.1, hy.2]
        exact ero_over h64 _ (Nat.min_le_right _ _)
      · rw [set_getD_ne e]; exact .refl _
    exact h1.trans (layKept_ero W (layOne K y b) bs (layOne_64 hK ⟨hy.1, by rw [hy.2]; exact blankS_len⟩ b) (fun z hz => by rw [hl]; exact hW z (by simp [hz])) i (by rw [hl]; exact hi))

/-! ### the calls of a part -/
/-- A map behind some operations on one part. -/
structure XGrow (x x' : MX) (part n : Nat) : Prop where
  sz : x'.sz = x.sz
  who : x'.who = x.who
  few : x'.ops.length ≤ x.ops.length + n
  only : ∀ o ∈ x'.ops, o ∈ x.ops ∨ o.2.1 = (part : Int)
theorem XGrow.refl (x : MX) (part n : Nat) : XGrow x x part n := ⟨rfl, rfl, by omega, fun _ h => .inl h⟩
theorem XGrow.trans {x y z : MX} {part n m : Nat} (h : XGrow x y part n) (g : XGrow y z part m) : XGrow x z part (n + m) :=
  ⟨g.sz.trans h.sz, g.who.trans h.who, by have := h.few; have := g.few; omega, fun o ho => by
    rcases g.only o ho with e | e
    · exact h.only o e
    · exact .inr e⟩
theorem XGrow.mono {x y : MX} {part n m : Nat} (h : XGrow x y part n) (hm : n ≤ m) : XGrow x y part m := ⟨h.sz, h.who, by have := h.few; omega, h.only⟩
theorem XGrow.did (x : MX) (kind : Int) (part : Nat) (at_ : Int) : XGrow x (x.did kind part at_) part 1 :=
  ⟨rfl, rfl, by simp [MX.did], fun o ho => by
    simp only [MX.did, List.mem_append, List.mem_singleton] at ho
    rcases ho with h | rfl
    · exact .inl h
    · exact .inr rfl⟩

def progJ : DM → MX → Nat → Nat → List Sec → Int × DM × MX
  | d, x, _, _, [] => (0, d, x)
  | d, x, part, at_, s :: ss =>
    if (programM s d x (part : Int) (at_ : Int)).1 ≠ 0 then programM s d x (part : Int) (at_ : Int)
    else progJ (programM s d x (part : Int) (at_ : Int)).2.1 (programM s d x (part : Int) (at_ : Int)).2.2 part (at_ + 1) ss
theorem opG_in {kind : Int} {f : DM → Int → Int × DM} {d : DM} {x : MX} {k i : Nat} (hk : k < x.sz.length) (hi : i < x.sz.getD k 0) :
    opG kind f d x (k : Int) (i : Int) = (if (f d ((bnd x.sz k + i : Nat) : Int)).1 ≠ 0 then ((f d ((bnd x.sz k + i : Nat) : Int)).1, (f d ((bnd x.sz k + i : Nat) : Int)).2, x) else (0, (f d ((bnd x.sz k + i : Nat) : Int)).2, x.did kind k i)) := by
  unfold opG
  rw [place_some hk hi]
  simp
theorem prog_spec {t : Nat} {sz : List Nat} {k : Nat} (hk : k < sz.length) : ∀ (ss : List Sec) (at_ : Nat) (d : DM) (x : MX), x.sz = sz → Fit t d sz → d.down = false → at_ + ss.length ≤ sz.getD k 0 →
    (∀ i, i < ss.length → d.now.getD (bnd sz k + at_ + i) [] = blankS) → (∀ s ∈ ss, s.length = 64) →
    ∃ n, n ≤ ss.length ∧ Fit t (progJ d x k at_ ss).2.1 sz ∧ (progJ d x k at_ ss).2.1.kept = d.kept ∧ (progJ d x k at_ ss).2.1.most = d.most ∧ (progJ d x k at_ ss).2.1.wait = d.wait ++ placed (bnd sz k + at_) (ss.take n) ∧
      (((progJ d x k at_ ss).1 = 0 ∧ n = ss.length ∧ (progJ d x k at_ ss).2.1.down = false) ∨ ((progJ d x k at_ ss).1 = 62 ∧ (progJ d x k at_ ss).2.1.down = true ∧ d.budget ≠ -1)) ∧
      (d.budget = -1 → (progJ d x k at_ ss).2.1.budget = -1) ∧ XGrow x (progJ d x k at_ ss).2.2 k ss.length
  | [], at_, d, x, _, hF, hd, _, _, _ => ⟨0, by simp, hF, rfl, rfl, by simp [progJ, placed], .inl ⟨rfl, rfl, hd⟩, fun h => h, XGrow.refl _ _ _⟩
  | s :: ss, at_, d, x, hx, hF, hd, hl, hb, hs => by
    subst hx
    simp only [List.length_cons] at hl
    have hi : at_ < x.sz.getD k 0 := by omega
    have hlt := hF.lt hk hi
    have hb0 := hb 0 (by simp)
    rw [Nat.add_zero] at hb0
    have hs0 := hs s (by simp)
    rw [progJ]
    have e := opG_in (kind := 2) (f := fun d i => programD d i s) (d := d) hk hi
    have e2 : programM s d x (k : Int) (at_ : Int) = _ := e
    rcases program_one hlt hd hb0 s with ⟨h1, h2⟩ | ⟨b, h1, h2⟩
    · simp only [h2] at e2
      rw [if_pos (by simp)] at e2
      rw [e2, if_pos (by simp)]
      exact ⟨0, by simp, hF.drop, rfl, rfl, by simp [placed], .inr ⟨rfl, rfl, h1⟩, fun h => absurd h h1, XGrow.refl _ _ _⟩
    · simp only [h1] at e2
      rw [if_neg (by simp)] at e2
      rw [e2, if_neg (by simp)]
      simp only
      have hF2 := hF.program hs0 h1
      have hnl : bnd x.sz k + at_ < d.now.length := by rw [hF.ok.now]; exact hlt
      obtain ⟨n, q1, q2, q3, q3b, q4, q5, q6, q7⟩ := prog_spec hk ss (at_ + 1) { d with budget := b, now := d.now.set (bnd x.sz k + at_) s, wait := d.wait ++ [(bnd x.sz k + at_, s)] } (x.did 2 k at_) rfl hF2 hd (by show at_ + 1 + ss.length ≤ x.sz.getD k 0; omega)
        (fun i hi2 => by
          show (d.now.set (bnd x.sz k + at_) s).getD (bnd x.sz k + (at_ + 1) + i) [] = blankS
          rw [set_getD_ne (by omega), show bnd x.sz k + (at_ + 1) + i = bnd x.sz k + at_ + (i + 1) by omega]
          exact hb (i + 1) (by simp; omega)) (fun c hc => hs c (by simp [hc]))
      refine ⟨n + 1, by simp; omega, q2, q3, q3b, ?_, ?_, fun h => q6 (h2 h), ?_⟩
      · rw [q4, List.take_succ_cons, placed, show bnd x.sz k + at_ + 1 = bnd x.sz k + (at_ + 1) by omega]
        simp
      · rcases q5 with ⟨a1, a2, a3⟩ | ⟨a1, a2, a3⟩
        · exact .inl ⟨a1, by simp [a2], a3⟩
        · exact .inr ⟨a1, a2, fun h => a3 (h2 h)⟩
      · rw [List.length_cons, Nat.add_comm ss.length 1]
        exact (XGrow.did x 2 k at_).trans q7

theorem read_part {d : DM} {sz : List Nat} (hf : sz.sum ≤ d.kept.length) {k a : Nat} (hk : k < sz.length) (ha : a < sz.getD k 0) : readM d sz (k : Int) (a : Int) = (d.now.getD (bnd sz k + a) [], 0) := by
  have h1 := bnd_part hk
  unfold readM readG
  rw [place_some hk ha]
  simp only [ne_eq, not_true_eq_false, if_false]
  unfold readD
  rw [if_pos (has_in (by omega)), Int.toNat_natCast]

theorem wipe_spec {t : Nat} {sz : List Nat} {k : Nat} (hk : k < sz.length) : ∀ (n at_ : Nat) (d : DM) (x : MX), x.sz = sz → Fit (t + 1) d sz → d.down = false → at_ + n ≤ sz.getD k 0 →
    (∀ i, at_ ≤ i → i < sz.getD k 0 → d.wear.getD (bnd sz k + i) 0 ≤ t) →
    ∃ W, Fit (t + 1) (wipeG readD eraseD d x (k : Int) at_ n).2.1 sz ∧ (wipeG readD eraseD d x (k : Int) at_ n).2.1.kept = d.kept ∧ (wipeG readD eraseD d x (k : Int) at_ n).2.1.most = d.most ∧ (wipeG readD eraseD d x (k : Int) at_ n).2.1.wait = d.wait ++ W ∧
      (∀ y ∈ W, y.2 = blankS ∧ ∃ i, i < sz.getD k 0 ∧ y.1 = bnd sz k + i) ∧ W.length ≤ n ∧
      (((wipeG readD eraseD d x (k : Int) at_ n).1 = 0 ∧ (wipeG readD eraseD d x (k : Int) at_ n).2.1.down = false ∧ (∀ i, at_ ≤ i → i < at_ + n → (wipeG readD eraseD d x (k : Int) at_ n).2.1.now.getD (bnd sz k + i) [] = blankS) ∧
          ∀ i, i < at_ → (wipeG readD eraseD d x (k : Int) at_ n).2.1.now.getD (bnd sz k + i) [] = d.now.getD (bnd sz k + i) []) ∨
        ((wipeG readD eraseD d x (k : Int) at_ n).1 = 62 ∧ (wipeG readD eraseD d x (k : Int) at_ n).2.1.down = true ∧ d.budget ≠ -1)) ∧
      (d.budget = -1 → (wipeG readD eraseD d x (k : Int) at_ n).2.1.budget = -1) ∧ XGrow x (wipeG readD eraseD d x (k : Int) at_ n).2.2 k n
  | 0, at_, d, x, _, hF, hd, _, _ => ⟨[], hF, rfl, rfl, by simp [wipeG], by simp, by simp, .inl ⟨rfl, hd, fun i h1 h2 => by omega, fun _ _ => rfl⟩, fun h => h, XGrow.refl _ _ _⟩
  | n + 1, at_, d, x, hx, hF, hd, hl, hw => by
    subst hx
    have hi : at_ < x.sz.getD k 0 := by omega
    have hlt := hF.lt hk hi
    have hnl : bnd x.sz k + at_ < d.now.length := by rw [hF.ok.now]; exact hlt
    rw [wipeG]
    have hr : (readG readD d x.sz (k : Int) (at_ : Int)).1 = d.now.getD (bnd x.sz k + at_) [] := by
      have := read_part hF.room hk hi
      exact congrArg Prod.fst this
    rw [hr]
    by_cases hB : d.now.getD (bnd x.sz k + at_) [] = blankS
    · rw [if_pos hB]
      obtain ⟨W, q1, q2, q2b, q3, q4, q5, q6, q7, q8⟩ := wipe_spec hk n (at_ + 1) d x rfl hF hd (by omega) (fun i h1 h2 => hw i (by omega) h2)
      refine ⟨W, q1, q2, q2b, q3, q4, by omega, ?_, q7, q8.mono (by omega)⟩
      rcases q6 with ⟨a1, a2, a3, a4⟩ | h
      · refine .inl ⟨a1, a2, fun i h1 h2 => ?_, fun i h1 => a4 i (by omega)⟩
        by_cases e : i = at_
        · subst e; rw [a4 i (by omega)]; exact hB
        · exact a3 i (by omega) (by omega)
      · exact .inr h
    · rw [if_neg hB]
      have e2 := opG_in (kind := 1) (f := eraseD) (d := d) hk hi
      have hm := hF.most
      rcases erase_one hlt hd (by have := hw at_ (Nat.le_refl _) hi; omega) with ⟨h1, h2⟩ | ⟨b, h1, h2⟩
      · simp only [h2] at e2
        rw [if_pos (by simp)] at e2
        rw [e2, if_pos (by simp)]
        exact ⟨[], hF.drop, rfl, rfl, by simp, by simp, by simp, .inr ⟨rfl, rfl, h1⟩, fun h => absurd h h1, XGrow.refl _ _ _⟩
      · have hok := hF.ok.erase ((bnd x.sz k + at_ : Nat) : Int)
        rw [h1] at hok
        simp only [h1] at e2
        rw [if_neg (by simp)] at e2
        rw [e2, if_neg (by simp)]
        simp only
        have hF2 : Fit (t + 1) { d with budget := b, wear := d.wear.set (bnd x.sz k + at_) (d.wear.getD (bnd x.sz k + at_) 0 + 1), now := d.now.set (bnd x.sz k + at_) blankS, wait := d.wait ++ [(bnd x.sz k + at_, blankS)] } x.sz :=
          ⟨hok, by show d.now.set _ blankS = layAll d.kept (d.wait ++ [(_, blankS)]); rw [layAll_snoc, ← hF.now],
            set_mem hF.worn _ _ (by have := hw at_ (Nat.le_refl _) hi; omega), hF.most, hF.room⟩
        obtain ⟨W, q1, q2, q2b, q3, q4, q5, q6, q7, q8⟩ := wipe_spec hk n (at_ + 1) { d with budget := b, wear := d.wear.set (bnd x.sz k + at_) (d.wear.getD (bnd x.sz k + at_) 0 + 1), now := d.now.set (bnd x.sz k + at_) blankS, wait := d.wait ++ [(bnd x.sz k + at_, blankS)] } (x.did 1 k at_) rfl hF2 hd
          (by show at_ + 1 + n ≤ x.sz.getD k 0; omega) (fun i h1 h2 => by
            show (d.wear.set _ _).getD (bnd x.sz k + i) 0 ≤ t
            rw [set_getD_ne (by omega)]
            exact hw i (by omega) h2)
        refine ⟨(bnd x.sz k + at_, blankS) :: W, q1, q2, q2b, ?_, ?_, by simp; omega, ?_, fun h => q7 (h2 h), ?_⟩
        · rw [q3]; simp
        · intro y hy
          rcases List.mem_cons.1 hy with rfl | hy
          · exact ⟨rfl, at_, hi, rfl⟩
          · exact q4 y hy
        · rcases q6 with ⟨a1, a2, a3, a4⟩ | ⟨a1, a2, a3⟩
          · refine .inl ⟨a1, a2, fun i h1 h2 => ?_, fun i h1 => ?_⟩
            · by_cases e : i = at_
              · subst e
                refine (a4 i (by omega)).trans ?_
                exact set_getD_eq hnl _ _
              · exact a3 i (by omega) (by omega)
            · refine (a4 i (by omega)).trans ?_
              exact set_getD_ne (by omega) _ _
          · exact .inr ⟨a1, a2, fun h => a3 (h2 h)⟩
        · rw [Nat.add_comm n 1]
          exact (XGrow.did x 1 k at_).trans q8
end Go.Proofs.YtdfdalkcljfghaaGreat

namespace Go.Proofs.YtdfdalkcljfghaaGreat

structure JX where
  a : Nat
  b : Nat
  inn : Nat
  last : Nat
  next : Nat
  ready : Bool
def JX.bk (j : JX) (i : Nat) : Nat := if i = 0 then j.a else j.b
structure JX.Ok (j : JX) (sz : List Nat) : Prop where
  a : j.a < sz.length
  b : j.b < sz.length
  ne : j.a ≠ j.b
  inn : j.inn ≤ 1
theorem JX.Ok.bk {j : JX} {sz : List Nat} (h : j.Ok sz) (i : Nat) : j.bk i < sz.length := by
  unfold JX.bk
  split
  · exact h.a
  · exact h.b
theorem JX.Ok.other {j : JX} {sz : List Nat} (h : j.Ok sz) : j.bk (1 - j.inn) ≠ j.bk j.inn := by
  have := h.inn
  have := h.ne
  unfold JX.bk
  by_cases e : j.inn = 0
  · rw [if_neg (by omega), if_pos e]; omega
  · rw [if_pos (by omega), if_neg e]; omega

def roomJ (sz : List Nat) (j : JX) (i : Nat) : Nat := sz.getD (j.bk i) 0
def fitsJ (sz : List Nat) (j : JX) (n : Int) : Bool := decide (0 < sizeF n) && decide (sizeF n ≤ min (roomJ sz j 0) (roomJ sz j 1))
def leftJ (sz : List Nat) (j : JX) : Int := if j.ready = true then (roomJ sz j j.inn : Int) - (j.next : Int) else 0
def thenSync (r : Int × DM × MX) : Int × DM × MX := if r.1 ≠ 0 then r else ((syncD r.2.1).1, (syncD r.2.1).2, r.2.2)
def writeJ (d : DM) (x : MX) (part at_ : Nat) (ss : List Sec) : Int × DM × MX := thenSync (progJ d x part at_ ss)
def wipeJ (d : DM) (x : MX) (part : Nat) : Int × DM × MX := thenSync (wipeM d x (part : Int))
def JX.off (j : JX) : JX := { j with ready := false }
def JX.wrote (j : JX) (at_ n : Nat) : JX := { j with last := j.last + 1, next := at_ + n, ready := true }
def big : Nat := 4611686018427387904
def beginJ (d : DM) (x : MX) (j : JX) (b : Body) : Int × DM × MX × JX :=
  if fitsJ x.sz j b.length = false ∨ big ≤ j.last then (92, d, x, j)
  else if (wipeJ d x (j.bk (1 - j.inn))).1 ≠ 0 then ((wipeJ d x (j.bk (1 - j.inn))).1, (wipeJ d x (j.bk (1 - j.inn))).2.1, (wipeJ d x (j.bk (1 - j.inn))).2.2, j.off)
  else
    let u := wipeJ d x (j.bk (1 - j.inn))
    let r := writeJ u.2.1 u.2.2 (j.bk (1 - j.inn)) 0 (putF 1 (j.last + 1) b)
    if r.1 ≠ 0 then (r.1, r.2.1, r.2.2, j.off) else (0, r.2.1, r.2.2, { j with inn := 1 - j.inn, last := j.last + 1, next := (putF 1 (j.last + 1) b).length, ready := true })
def appendJ (d : DM) (x : MX) (j : JX) (b : Body) : Int × DM × MX × JX :=
  if j.ready = false then (91, d, x, j)
  else if sizeF b.length = 0 ∨ leftJ x.sz j < sizeF b.length ∨ big ≤ j.last then (92, d, x, j)
  else
    let r := writeJ d x (j.bk j.inn) j.next (putF 2 (j.last + 1) b)
    if r.1 ≠ 0 then (r.1, r.2.1, r.2.2, j.off) else (0, r.2.1, r.2.2, { j with last := j.last + 1, next := j.next + (putF 2 (j.last + 1) b).length, ready := true })

/-! ### what stands in both banks -/
/-- lm: the bank that one is in; lo: the other one. -/
def StandM (lm lo : List Sec) (inn last : Nat) (now : List Body) : Prop :=
  (now = [] ∧ inn = 1 ∧ last = 0 ∧ Bad lm ∧ Bad lo) ∨
  (now ≠ [] ∧ (∀ b ∈ now, b.length ≤ 4000) ∧ ∃ n T, 1 ≤ n ∧ last + 1 = n + now.length ∧ Bad T ∧ lm = framesF n now ++ T ∧ Low n lo)
theorem StandM.low {lm lo : List Sec} {inn last : Nat} {now : List Body} (h : StandM lm lo inn last now) (h64 : last < 18446744073709551615) : Low (last + 1) lm := by
  rcases h with ⟨_, _, _, h, _⟩ | ⟨hne, hb, n, T, h1, h2, h3, rfl, h5⟩
  · exact .inl h
  · right
    cases now with
    | nil => exact absurd rfl hne
    | cons c bs =>
      have hc := hb c (by simp)
      have hl := putF_length hc 1 n
      have hz := sizeF_one hc
      have e : first (framesF n (c :: bs) ++ T) = (putF 1 n c).getD 0 [] := by
        unfold first
        rw [framesF, List.append_assoc, List.getD_eq_getElem?_getD, List.getElem?_append_left (by omega), ← List.getD_eq_getElem?_getD]
      simp only [List.length_cons] at h2
      rw [e, saidS (putF_first hc 1 n) (by omega)]
      omega
def pick {α : Type} (i : Nat) (l0 l1 : α) : α := if i = 0 then l0 else l1
theorem stand_open {l0 l1 : List Sec} {inn last : Nat} {now : List Body} (hi : inn ≤ 1) (h : StandM (pick inn l0 l1) (pick (1 - inn) l0 l1) inn last now)
    (h64 : last < 9223372036854775807) (s0 : ∀ s ∈ l0, s.length = 64) (s1 : ∀ s ∈ l1, s.length = 64) : openL l0 l1 = (inn, last, now) := by
  unfold openL
  rcases h with ⟨rfl, rfl, rfl, h1, h2⟩ | ⟨hne, hb, n, T, h1, h2, h3, h4, h5⟩
  · have e1 : rowJ l1 = RW.none := bad_row h1
    have e0 : rowJ l0 = RW.none := bad_row h2
    rw [e0, e1]
    rfl
  · have hrow := held_row hne hb (n := n) (by omega) h3
    rcases Nat.le_one_iff_eq_zero_or_eq_one.1 hi with rfl | rfl
    · have e0 : rowJ l0 = ⟨n, n + now.length - 1, now⟩ := by rw [show l0 = framesF n now ++ T from h4]; exact hrow
      have hl : Low n l1 := h5
      have hlen : 0 < now.length := List.length_pos_iff.2 hne
      rw [if_pos, e0]
      · have : n + now.length - 1 = last := by omega
        simp [this]
      · rw [e0]
        unfold RW.over
        have c1 : (RW.mk n (n + now.length - 1) now).counts = true := by simp [RW.counts, hlen]
        rw [c1, Bool.true_and]
        cases hc : (rowJ l1).counts with
        | false => rfl
        | true =>
          have := low_row s1 hl hc
          simp [this]
    · have e1 : rowJ l1 = ⟨n, n + now.length - 1, now⟩ := by rw [show l1 = framesF n now ++ T from h4]; exact hrow
      have hl : Low n l0 := h5
      have hlen : 0 < now.length := List.length_pos_iff.2 hne
      rw [if_neg, e1]
      · have : n + now.length - 1 = last := by omega
        simp [this]
      · rw [e1]
        unfold RW.over
        cases hc : (rowJ l0).counts with
        | false => simp
        | true =>
          have := low_row s0 hl hc
          have c1 : (RW.mk n (n + now.length - 1) now).counts = true := by simp [RW.counts, hlen]
          rw [c1]
          simp only [Bool.not_true, Bool.false_or, Bool.true_and, decide_eq_true_eq]
          omega

def Standing (K : List Sec) (sz : List Nat) (a b inn last : Nat) (now : List Body) : Prop :=
  inn ≤ 1 ∧ StandM (bankL sz (if inn = 0 then a else b) K) (bankL sz (if 1 - inn = 0 then a else b) K) inn last now
/-- Whatever is left when the power ends. -/
def Safe (d : DM) (sz : List Nat) (a b t : Nat) (now : List Body) (maybe : List (List Body)) : Prop :=
  ∀ bs, ∃ inn last l, last ≤ t ∧ Standing (layKept d.kept d.wait bs) sz a b inn last l ∧ (l = now ∨ l ∈ maybe)
/-- Up, and all kept. -/
structure UpS (d : DM) (sz : List Nat) (j : JX) (now : List Body) : Prop where
  up : d.down = false
  wait : d.wait = []
  st : StandM (bankL sz (j.bk j.inn) d.kept) (bankL sz (j.bk (1 - j.inn)) d.kept) j.inn j.last now
  rd : j.ready = true → now ≠ [] ∧ ∃ c, bankL sz (j.bk j.inn) d.kept = framesF (j.last + 1 - now.length) now ++ List.replicate c blankS ∧ j.next = (framesF (j.last + 1 - now.length) now).length ∧ now.length ≤ j.last ∧ (∀ b ∈ now, b.length ≤ 4000) ∧ Low (j.last + 1 - now.length) (bankL sz (j.bk (1 - j.inn)) d.kept)

theorem same_bank {sz : List Nat} {k : Nat} {K K' : List Sec} (hk : k < sz.length) (h : sz.sum ≤ K.length) (hl : K'.length = K.length) (he : ∀ i, i < sz.getD k 0 → K'.getD (bnd sz k + i) [] = K.getD (bnd sz k + i) []) : bankL sz k K' = bankL sz k K := by
  apply ext_getD
  · rw [bankL_len hk h, bankL_len hk (by omega)]
  · intro i hi
    rw [bankL_len hk (by omega)] at hi
    rw [bankL_get hi, bankL_get hi]
    exact he i hi
theorem ero_bank {sz : List Nat} {k : Nat} {K K' : List Sec} (hk : k < sz.length) (h : sz.sum ≤ K.length) (hl : K'.length = K.length) (he : ∀ i, i < K.length → Ero (K.getD i []) (K'.getD i [])) :
    (bankL sz k K').length = (bankL sz k K).length ∧ ∀ i, i < (bankL sz k K).length → Ero ((bankL sz k K).getD i []) ((bankL sz k K').getD i []) := by
  refine ⟨by rw [bankL_len hk h, bankL_len hk (by omega)], fun i hi => ?_⟩
  rw [bankL_len hk h] at hi
  rw [bankL_get hi, bankL_get hi]
  have := bnd_part hk
  exact he _ (by omega)
theorem replicate_of {l : List Sec} {n : Nat} (hl : l.length = n) (h : ∀ i, i < n → l.getD i [] = blankS) : l = List.replicate n blankS := by
  apply ext_getD
  · rw [hl, List.length_replicate]
  · intro i hi
    rw [h i (by omega), List.getD_eq_getElem?_getD, List.getElem?_replicate_of_lt (by omega)]; rfl

/-- The other bank erased in part. -/
theorem StandM.ero {lm lo lo' : List Sec} {inn last : Nat} {now : List Body} (h : StandM lm lo inn last now) (hl : lo'.length = lo.length) (he : ∀ i, i < lo.length → Ero (lo.getD i []) (lo'.getD i [])) : StandM lm lo' inn last now := by
  rcases h with ⟨h1, h2, h3, h4, h5⟩ | ⟨hne, hb, n, T, h1, h2, h3, h4, h5⟩
  · exact .inl ⟨h1, h2, h3, h4, h5.ero hl he⟩
  · exact .inr ⟨hne, hb, n, T, h1, h2, h3, h4, h5.ero hl he⟩
theorem StandM.bad {lm lo lo' : List Sec} {inn last : Nat} {now : List Body} (h : StandM lm lo inn last now) (hl : Bad lo') : StandM lm lo' inn last now := by
  rcases h with ⟨h1, h2, h3, h4, h5⟩ | ⟨hne, hb, n, T, h1, h2, h3, h4, h5⟩
  · exact .inl ⟨h1, h2, h3, h4, hl⟩
  · exact .inr ⟨hne, hb, n, T, h1, h2, h3, h4, .inl hl⟩
/-- A base in the other bank. -/
theorem StandM.base {lm lo : List Sec} {inn last : Nat} {now : List Body} (h : StandM lm lo inn last now) (h64 : last < 9223372036854775807) {b : Body} (hb : b.length ≤ 4000) {T : List Sec} (hT : Bad T) (i : Nat) :
    StandM (putF 1 (last + 1) b ++ T) lm i (last + 1) [b] :=
  .inr ⟨by simp, by simpa using hb, last + 1, T, by omega, by simp, hT, by rw [framesF_one], h.low (by omega)⟩

/-- The lists of both banks, and of their places on the device. -/
theorem write_spec {t : Nat} {sz : List Nat} {k : Nat} (hk : k < sz.length) {d : DM} {x : MX} (hx : x.sz = sz) (hF : Fit t d sz) (hd : d.down = false) (hw : d.wait = []) {pre : List Sec} {c : Nat} (hbank : bankL sz k d.kept = pre ++ List.replicate c blankS)
    {kd : UInt8} {n : Nat} {b : Body} (hb : b.length ≤ 4000) (hn : (putF kd n b).length ≤ c) :
    ∃ K', K'.length = d.kept.length ∧ (∀ m, m < sz.length → m ≠ k → bankL sz m K' = bankL sz m d.kept) ∧ bankL sz k K' = pre ++ (putF kd n b ++ List.replicate (c - (putF kd n b).length) blankS) ∧
    Fit t (writeJ d x k pre.length (putF kd n b)).2.1 sz ∧ (writeJ d x k pre.length (putF kd n b)).2.1.most = d.most ∧ XGrow x (writeJ d x k pre.length (putF kd n b)).2.2 k (putF kd n b).length ∧
    (d.budget = -1 → (writeJ d x k pre.length (putF kd n b)).2.1.budget = -1) ∧ (writeJ d x k pre.length (putF kd n b)).2.1.wait.length ≤ (putF kd n b).length ∧
    (((writeJ d x k pre.length (putF kd n b)).1 = 0 ∧ (writeJ d x k pre.length (putF kd n b)).2.1.down = false ∧ (writeJ d x k pre.length (putF kd n b)).2.1.wait = [] ∧ (writeJ d x k pre.length (putF kd n b)).2.1.kept = K') ∨
     ((writeJ d x k pre.length (putF kd n b)).1 = 62 ∧ (writeJ d x k pre.length (putF kd n b)).2.1.down = true ∧ d.budget ≠ -1 ∧
      ∀ bs, let R := layKept (writeJ d x k pre.length (putF kd n b)).2.1.kept (writeJ d x k pre.length (putF kd n b)).2.1.wait bs
        (∀ m, m < sz.length → m ≠ k → bankL sz m R = bankL sz m d.kept) ∧ (bankL sz k R = pre ++ (putF kd n b ++ List.replicate (c - (putF kd n b).length) blankS) ∨ ∃ T, bankL sz k R = pre ++ T ∧ Bad T))) := by
  subst hx
  have hnow : d.now = d.kept := by rw [hF.now, hw]; rfl
  have hlen := bankL_len hk hF.room
  have hroom : pre.length + c = x.sz.getD k 0 := by rw [← hlen, hbank]; simp
  have hpart := bnd_part hk
  have hrm := hF.room
  have hsec := putF_sec kd n b
  generalize hss : putF kd n b = ss at *
  have hget : ∀ i, i < x.sz.getD k 0 → d.kept.getD (bnd x.sz k + i) [] = (pre ++ List.replicate c blankS).getD i [] := fun i hi => by rw [← hbank, bankL_get hi]
  have hpre : ∀ i, i < pre.length → (pre ++ List.replicate c blankS).getD i [] = pre.getD i [] := fun i hi => by
    rw [List.getD_eq_getElem?_getD, List.getElem?_append_left hi, ← List.getD_eq_getElem?_getD]
  have hblk : ∀ i, pre.length ≤ i → i < x.sz.getD k 0 → (pre ++ List.replicate c blankS).getD i [] = blankS := fun i h1 h2 => by
    rw [List.getD_eq_getElem?_getD, List.getElem?_append_right h1, List.getElem?_replicate_of_lt (by omega)]; rfl
  -- the list behind all programs
  have torn : ∀ (q : Nat), q ≤ ss.length → ∀ bs, (∀ m, m < x.sz.length → m ≠ k → bankL x.sz m (layKept d.kept (placed (bnd x.sz k + pre.length) (ss.take q)) bs) = bankL x.sz m d.kept) ∧
      (bankL x.sz k (layKept d.kept (placed (bnd x.sz k + pre.length) (ss.take q)) bs) = pre ++ (ss ++ List.replicate (c - ss.length) blankS) ∨ ∃ T, bankL x.sz k (layKept d.kept (placed (bnd x.sz k + pre.length) (ss.take q)) bs) = pre ++ T ∧ Bad T) := by
    intro q hq bs
    have hql : (ss.take q).length = q := by rw [List.length_take]; omega
    have hmem := fun y hy => placed_mem (ss.take q) (bnd x.sz k + pre.length) y hy
    have hKl := layKept_len (placed (bnd x.sz k + pre.length) (ss.take q)) d.kept bs
    refine ⟨fun m hm hmk => same_bank hm hF.room hKl fun i hi => layKept_out _ _ _ _ fun y hy e => ?_, ?_⟩
    · have h1 := hmem y hy
      obtain ⟨o, ho⟩ : ∃ o, y.1 = bnd x.sz k + o := ⟨y.1 - bnd x.sz k, by omega⟩
      exact bank_apart hm hk hmk hi (j := o) (by omega) (by omega)
    · have hL := bankL_len (K := layKept d.kept (placed (bnd x.sz k + pre.length) (ss.take q)) bs) hk (by rw [hKl]; exact hF.room)
      generalize hB : bankL x.sz k (layKept d.kept (placed (bnd x.sz k + pre.length) (ss.take q)) bs) = B at *
      have hBg : ∀ i, i < x.sz.getD k 0 → B.getD i [] = (layKept d.kept (placed (bnd x.sz k + pre.length) (ss.take q)) bs).getD (bnd x.sz k + i) [] := fun i hi => by rw [← hB, bankL_get hi]
      have htake : B.take pre.length = pre := by
        apply ext_getD
        · rw [List.length_take]; omega
        · intro i hi
          rw [List.length_take] at hi
          rw [List.getD_eq_getElem?_getD, List.getElem?_take_of_lt (by omega), ← List.getD_eq_getElem?_getD, hBg i (by omega), layKept_out _ _ _ _ (fun y hy => by have := hmem y hy; omega), hget i (by omega), hpre i (by omega)]
      have hsplit : B = pre ++ B.drop pre.length := by
        have := List.take_append_drop pre.length B
        rw [htake] at this
        exact this.symm
      have hdl : (B.drop pre.length).length = c := by rw [List.length_drop]; omega
      have hdg : ∀ i, i < c → (B.drop pre.length).getD i [] = (layKept d.kept (placed (bnd x.sz k + pre.length) (ss.take q)) bs).getD (bnd x.sz k + pre.length + i) [] := fun i hi => by
        rw [List.getD_eq_getElem?_getD, List.getElem?_drop, ← List.getD_eq_getElem?_getD, hBg _ (by omega), Nat.add_assoc]
      have := torn_cases hb (k := kd) (n := n) (T := B.drop pre.length) (by rw [hss, hdl]; exact hn)
        (fun i hi => by
          rw [hss] at hi
          rw [hss, hdg i (by omega)]
          by_cases hiq : i < q
          · obtain ⟨z, hz, e⟩ := layKept_placed (ss.take q) (bnd x.sz k + pre.length) d.kept bs (by omega) i (by omega)
            refine ⟨z, hz, ?_⟩
            rw [e, show bnd x.sz k + pre.length + i = bnd x.sz k + (pre.length + i) by omega, hget _ (by omega), hblk _ (by omega) (by omega)]
            congr 1
            rw [List.getD_eq_getElem?_getD, List.getElem?_take_of_lt hiq, ← List.getD_eq_getElem?_getD]
          · refine ⟨0, by omega, ?_⟩
            rw [over_zero, layKept_out _ _ _ _ (fun y hy => by have := hmem y hy; omega), show bnd x.sz k + pre.length + i = bnd x.sz k + (pre.length + i) by omega, hget _ (by omega), hblk _ (by omega) (by omega)])
        (fun i h1 h2 => by
          rw [hss] at h1
          rw [hdg i (by omega), layKept_out _ _ _ _ (fun y hy => by have := hmem y hy; omega), show bnd x.sz k + pre.length + i = bnd x.sz k + (pre.length + i) by omega, hget _ (by omega), hblk _ (by omega) (by omega)])
      rw [hss, hdl] at this
      rcases this with e | e
      · left; rw [hsplit, e]
      · right; exact ⟨_, hsplit, e⟩
  obtain ⟨q, q1, q2, q3, q3b, q4, q5, q6, q7⟩ := prog_spec hk ss pre.length d x rfl hF hd (by omega)
    (fun i hi => by rw [hnow, Nat.add_assoc, hget _ (by omega), hblk _ (by omega) (by omega)]) (fun s hs => hsec s hs)
  rw [hw, List.nil_append] at q4
  have hplen := placed_length (ss.take q) (bnd x.sz k + pre.length)
  have hql : (ss.take q).length = q := by rw [List.length_take]; omega
  generalize hr : progJ d x k pre.length ss = r at *
  obtain ⟨e1, d1, x1⟩ := r
  simp only at q2 q3 q3b q4 q5 q6 q7
  refine ⟨layAll d.kept (placed (bnd x.sz k + pre.length) ss), layAll_len _ _, ?_, ?_, ?_⟩
  · intro m hm hmk
    refine same_bank hm hF.room (layAll_len _ _) fun i hi => layAll_out _ _ _ fun y hy e => ?_
    have h1 := placed_mem ss (bnd x.sz k + pre.length) y hy
    obtain ⟨o, ho⟩ : ∃ o, y.1 = bnd x.sz k + o := ⟨y.1 - bnd x.sz k, by omega⟩
    exact bank_apart hm hk hmk hi (j := o) (by omega) (by omega)
  · have hL := bankL_len (K := layAll d.kept (placed (bnd x.sz k + pre.length) ss)) hk (by rw [layAll_len]; exact hF.room)
    apply ext_getD
    · rw [hL, List.length_append, List.length_append, List.length_replicate]; omega
    · intro i hi
      rw [hL] at hi
      rw [bankL_get hi]
      have hmem := fun y hy => placed_mem ss (bnd x.sz k + pre.length) y hy
      by_cases h1 : i < pre.length
      · rw [layAll_out _ _ _ (fun y hy => by have := hmem y hy; omega), hget i hi, hpre i h1, List.getD_eq_getElem?_getD, List.getD_eq_getElem?_getD, List.getElem?_append_left h1]
      · rw [List.getD_eq_getElem?_getD, List.getD_eq_getElem?_getD, List.getElem?_append_right (by omega), ← List.getD_eq_getElem?_getD, ← List.getD_eq_getElem?_getD]
        by_cases h2 : i < pre.length + ss.length
        · obtain ⟨o, rfl⟩ : ∃ o, i = pre.length + o := ⟨i - pre.length, by omega⟩
          rw [← Nat.add_assoc, layAll_placed ss _ _ (by omega) o (by omega), Nat.add_sub_cancel_left, List.getD_eq_getElem?_getD, List.getD_eq_getElem?_getD, List.getElem?_append_left (by omega)]
        · rw [layAll_out _ _ _ (fun y hy => by have := hmem y hy; omega), hget i hi, hblk i (by omega) hi, List.getD_eq_getElem?_getD, List.getElem?_append_right (by omega), List.getElem?_replicate_of_lt (by omega)]
          rfl
  · unfold writeJ thenSync
    rw [hr]
    simp only
    rcases q5 with ⟨rfl, rfl, q5⟩ | ⟨rfl, q5, q5b⟩
    · rw [if_neg (by simp)]
      simp only
      rw [List.take_length] at q4
      rcases sync_one q2 q5 with ⟨s1, s2⟩ | ⟨bb, s1, s2⟩
      · rw [s2]
        simp only
        refine ⟨q2.drop, q3b, q7, fun h => absurd (q6 h) s1, by rw [q4, placed_length]; exact Nat.le_refl _, .inr ⟨trivial, trivial, fun h => s1 (q6 h), ?_⟩⟩
        intro bs
        have := torn ss.length (Nat.le_refl _) bs
        rw [List.take_length] at this
        rw [q3, q4]
        exact this
      · have hs := q2.sync s1
        rw [s1]
        simp only
        refine ⟨hs, q3b, q7, fun h => s2 (q6 h), by simp, .inl ⟨trivial, q5, trivial, ?_⟩⟩
        rw [q2.now, q3, q4]
    · rw [if_pos (by simp)]
      simp only
      refine ⟨q2, q3b, q7, fun h => absurd h q5b, by rw [q4, hplen, hql]; exact q1, .inr ⟨trivial, q5, q5b, fun bs => ?_⟩⟩
      rw [q3, q4]
      exact torn q q1 bs
end Go.Proofs.YtdfdalkcljfghaaGreat

namespace Go.Proofs.YtdfdalkcljfghaaGreat

theorem wipe_all {d : DM} {x : MX} {k : Nat} (hk : k < x.sz.length) : wipeM d x (k : Int) = wipeG readD eraseD d x (k : Int) 0 (x.sz.getD k 0) := by
  unfold wipeM wipeAll
  rw [has_in hk, if_neg (by simp), size_some hk]
theorem getD_worn {l : List Nat} {t : Nat} (h : ∀ s ∈ l, s ≤ t) (i : Nat) : l.getD i 0 ≤ t := by
  rw [List.getD_eq_getElem?_getD]
  by_cases hi : i < l.length
  · rw [List.getElem?_eq_getElem hi]; exact h _ (List.getElem_mem hi)
  · rw [List.getElem?_eq_none (by omega)]; exact Nat.zero_le _
theorem Fit.few {t : Nat} {d : DM} {sz : List Nat} (h : Fit t d sz) {k : Nat} (hk : k < sz.length) : sz.getD k 0 ≤ 4096 := by
  have := bnd_part hk
  have := h.room
  have := h.ok.few
  omega
theorem bankL_drop {sz : List Nat} {k : Nat} {K : List Sec} : bankL sz k K = bankL sz k K := rfl

/-- Wiped, and kept so. -/
theorem wipeJ_spec {t : Nat} {sz : List Nat} {k : Nat} (hk : k < sz.length) {d : DM} {x : MX} (hx : x.sz = sz) (hF : Fit t d sz) (hm : t + 1 < d.most) (hd : d.down = false) (hw : d.wait = []) :
    Fit (t + 1) (wipeJ d x k).2.1 sz ∧ (wipeJ d x k).2.1.most = d.most ∧ XGrow x (wipeJ d x k).2.2 k 4096 ∧ (d.budget = -1 → (wipeJ d x k).2.1.budget = -1) ∧ (wipeJ d x k).2.1.wait.length ≤ 4096 ∧
    (((wipeJ d x k).1 = 0 ∧ (wipeJ d x k).2.1.down = false ∧ (wipeJ d x k).2.1.wait = [] ∧ (wipeJ d x k).2.1.kept.length = d.kept.length ∧ (∀ m, m < sz.length → m ≠ k → bankL sz m (wipeJ d x k).2.1.kept = bankL sz m d.kept) ∧ bankL sz k (wipeJ d x k).2.1.kept = List.replicate (sz.getD k 0) blankS) ∨
     ((wipeJ d x k).1 = 62 ∧ (wipeJ d x k).2.1.down = true ∧ d.budget ≠ -1 ∧
      ∀ bs, let R := layKept (wipeJ d x k).2.1.kept (wipeJ d x k).2.1.wait bs
        (∀ m, m < sz.length → m ≠ k → bankL sz m R = bankL sz m d.kept) ∧ (bankL sz k R).length = (bankL sz k d.kept).length ∧ ∀ i, i < (bankL sz k d.kept).length → Ero ((bankL sz k d.kept).getD i []) ((bankL sz k R).getD i []))) := by
  subst hx
  have hfew := hF.few hk
  obtain ⟨W, q1, q2, q2b, q3, q4, q5, q6, q7, q8⟩ := wipe_spec hk (x.sz.getD k 0) 0 d x rfl (hF.more hm) hd (by omega) (fun i _ _ => getD_worn hF.worn _)
  rw [hw, List.nil_append] at q3
  have hout : ∀ m, m < x.sz.length → m ≠ k → ∀ i, i < x.sz.getD m 0 → ∀ y ∈ W, y.1 ≠ bnd x.sz m + i := fun m hm hmk i hi y hy e => by
    obtain ⟨_, o, ho, e2⟩ := q4 y hy
    exact bank_apart hm hk hmk hi ho (by omega)
  have hsafe : ∀ bs, (∀ m, m < x.sz.length → m ≠ k → bankL x.sz m (layKept d.kept W bs) = bankL x.sz m d.kept) ∧ (bankL x.sz k (layKept d.kept W bs)).length = (bankL x.sz k d.kept).length ∧
      ∀ i, i < (bankL x.sz k d.kept).length → Ero ((bankL x.sz k d.kept).getD i []) ((bankL x.sz k (layKept d.kept W bs)).getD i []) := fun bs => by
    refine ⟨fun m hmm hmk => same_bank hmm hF.room (layKept_len _ _ _) fun i hi => layKept_out _ _ _ _ (hout m hmm hmk i hi), ?_⟩
    refine ero_bank hk hF.room (layKept_len _ _ _) (layKept_ero W d.kept bs hF.ok.keptS fun y hy => ?_)
    obtain ⟨e1, o, ho, e2⟩ := q4 y hy
    exact ⟨by rw [e2]; exact hF.lt hk ho, e1⟩
  unfold wipeJ thenSync
  rw [wipe_all hk]
  generalize wipeG readD eraseD d x (k : Int) 0 (x.sz.getD k 0) = r at *
  obtain ⟨e1, d1, x1⟩ := r
  simp only at q1 q2 q2b q3 q6 q7 q8 ⊢
  rcases q6 with ⟨rfl, a2, a3, _⟩ | ⟨rfl, a2, a3⟩
  · rw [if_neg (by simp)]
    simp only
    rcases sync_one q1 a2 with ⟨s1, s2⟩ | ⟨bb, s1, s2⟩
    · rw [s2]
      simp only
      refine ⟨q1.drop, q2b, q8.mono hfew, fun h => absurd (q7 h) s1, by rw [q3]; omega, .inr ⟨trivial, trivial, fun h => s1 (q7 h), fun bs => ?_⟩⟩
      rw [q2, q3]
      exact hsafe bs
    · have hs := q1.sync s1
      rw [s1]
      simp only
      refine ⟨hs, q2b, q8.mono hfew, fun h => s2 (q7 h), by simp, .inl ⟨trivial, a2, trivial, by rw [q1.ok.now, q2], fun m hmm hmk => ?_, ?_⟩⟩
      · rw [q1.now, q2, q3]
        exact same_bank hmm hF.room (layAll_len _ _) fun i hi => layAll_out _ _ _ (hout m hmm hmk i hi)
      · have hl : d1.now.length = d.kept.length := by rw [q1.ok.now, q2]
        refine replicate_of (bankL_len hk (by rw [hl]; exact hF.room)) fun i hi => ?_
        rw [bankL_get hi]
        exact a3 i (by omega) (by omega)
  · rw [if_pos (by simp)]
    simp only
    refine ⟨q1, q2b, q8.mono hfew, fun h => absurd h a3, by rw [q3]; omega, .inr ⟨trivial, a2, a3, fun bs => ?_⟩⟩
    rw [q2, q3]
    exact hsafe bs

theorem fits_size {sz : List Nat} {j : JX} {b : Body} (h : ¬ fitsJ sz j b.length = false) : b.length ≤ 4000 ∧ ∀ i, i ≤ 1 → sizeF b.length ≤ sz.getD (j.bk i) 0 := by
  have h' : fitsJ sz j b.length = true := by simpa using h
  unfold fitsJ roomJ at h'
  simp only [Bool.and_eq_true, decide_eq_true_eq] at h'
  refine ⟨sizeF_ne (by omega), fun i hi => ?_⟩
  rcases Nat.le_one_iff_eq_zero_or_eq_one.1 hi with rfl | rfl <;> omega

theorem begin_spec {t : Nat} {sz : List Nat} {d : DM} {x : MX} {j : JX} {now : List Body} (b : Body) (hx : x.sz = sz) (hj : j.Ok sz) (hF : Fit t d sz) (hm : t + 1 < d.most) (hu : UpS d sz j now) (hlast : j.last ≤ t) (ht : t ≤ 1000000) :
    Fit (t + 1) (beginJ d x j b).2.1 sz ∧ (beginJ d x j b).2.1.most = d.most ∧ XGrow x (beginJ d x j b).2.2.1 (j.bk (1 - j.inn)) 5000 ∧ (d.budget = -1 → (beginJ d x j b).2.1.budget = -1) ∧ (beginJ d x j b).2.1.wait.length ≤ 5000 ∧
    ((beginJ d x j b = (92, d, x, j) ∧ fitsJ sz j b.length = false) ∨
     ((beginJ d x j b).1 = 0 ∧ UpS (beginJ d x j b).2.1 sz (beginJ d x j b).2.2.2 [b] ∧ (beginJ d x j b).2.2.2 = { j with inn := 1 - j.inn, last := j.last + 1, next := (putF 1 (j.last + 1) b).length, ready := true }) ∨
     ((beginJ d x j b).1 = 62 ∧ d.budget ≠ -1 ∧ (beginJ d x j b).2.1.down = true ∧ (beginJ d x j b).2.2.2 = j.off ∧ Safe (beginJ d x j b).2.1 sz j.a j.b (t + 1) now [[b]])) := by
  subst hx
  unfold beginJ
  by_cases hf : fitsJ x.sz j b.length = false ∨ big ≤ j.last
  · rw [if_pos hf]
    refine ⟨hF.more hm, rfl, XGrow.refl _ _ _, fun h => h, by rw [hu.wait]; simp, .inl ⟨rfl, ?_⟩⟩
    rcases hf with h | h
    · exact h
    · exfalso; unfold big at h; omega
  · rw [if_neg hf]
    rw [not_or] at hf
    obtain ⟨hb, hrm⟩ := fits_size hf.1
    have hi := hj.inn
    have hko := hj.bk (1 - j.inn)
    have hkm := hj.bk j.inn
    have hne := hj.other
    obtain ⟨u1, u2, u3, u4, u5, u6⟩ := wipeJ_spec hko (x := x) rfl hF hm hu.up hu.wait
    have hst := hu.st
    generalize wipeJ d x (j.bk (1 - j.inn)) = u at *
    obtain ⟨e1, d1, x1⟩ := u
    simp only at u1 u2 u3 u4 u5 u6 ⊢
    rcases u6 with ⟨rfl, a2, a3, a3b, a4, a5⟩ | ⟨rfl, a2, a3, a4⟩
    · rw [if_neg (by simp)]
      have hx1 : x1.sz = x.sz := u3.sz
      have hz := hrm (1 - j.inn) (by omega)
      have hl := putF_length hb 1 (j.last + 1)
      have hl64 := sizeF_le (b.length : Int)
      have hbank : bankL x.sz (j.bk (1 - j.inn)) d1.kept = [] ++ List.replicate (x.sz.getD (j.bk (1 - j.inn)) 0) blankS := a5
      obtain ⟨K', w0, w1, w2, w3, w4, w5, w6, w7, w8⟩ := write_spec hko hx1 u1 a2 a3 hbank (kd := 1) (n := j.last + 1) hb (by rw [hl]; exact hz)
      simp only [List.length_nil, List.nil_append] at w1 w2 w3 w4 w5 w6 w7 w8
      generalize hss : putF 1 (j.last + 1) b = ss at *
      generalize writeJ d1 x1 (j.bk (1 - j.inn)) 0 ss = r at *
      obtain ⟨e2, d2, x2⟩ := r
      simp only at w3 w4 w5 w6 w7 w8 ⊢
      have hT : Bad (List.replicate (x.sz.getD (j.bk (1 - j.inn)) 0 - ss.length) blankS) := bad_blank _
      have hbase := hst.base (by omega) hb hT (1 - j.inn)
      rw [hss] at hbase
      have hX : XGrow x x2 (j.bk (1 - j.inn)) 5000 := (u3.trans w5).mono (by omega)
      rcases w8 with ⟨rfl, b2, b3, b4⟩ | ⟨rfl, b2, b3, b4⟩
      · rw [if_neg (by simp)]
        simp only
        refine ⟨w3, by rw [w4, u2], hX, fun h => w6 (u4 h), by rw [b3]; simp, .inr (.inl ⟨trivial, ?_, trivial⟩)⟩
        have e1 : (1 - (1 - j.inn)) = j.inn := by omega
        have hmk : bankL x.sz (j.bk j.inn) d2.kept = bankL x.sz (j.bk j.inn) d.kept := by rw [b4, w1 _ hkm hne.symm, a4 _ hkm hne.symm]
        have hok : bankL x.sz (j.bk (1 - j.inn)) d2.kept = ss ++ List.replicate (x.sz.getD (j.bk (1 - j.inn)) 0 - ss.length) blankS := by rw [b4, w2]
        refine ⟨b2, b3, ?_, fun _ => ⟨by simp, x.sz.getD (j.bk (1 - j.inn)) 0 - ss.length, ?_, ?_, ?_, by simpa using hb, ?_⟩⟩
        · show StandM (bankL x.sz (j.bk (1 - j.inn)) d2.kept) (bankL x.sz (j.bk (1 - (1 - j.inn))) d2.kept) (1 - j.inn) (j.last + 1) [b]
          rw [e1, hmk, hok]
          exact hbase
        · show bankL x.sz (j.bk (1 - j.inn)) d2.kept = framesF (j.last + 1 + 1 - [b].length) [b] ++ _
          rw [hok, framesF_one, ← hss]; rfl
        · show ss.length = (framesF (j.last + 1 + 1 - [b].length) [b]).length
          rw [framesF_one, ← hss]; rfl
        · show [b].length ≤ j.last + 1
          simp
        · show Low (j.last + 1 + 1 - [b].length) (bankL x.sz (j.bk (1 - (1 - j.inn))) d2.kept)
          rw [e1, hmk]
          exact hst.low (by omega)
      · rw [if_pos (by simp)]
        simp only
        refine ⟨w3, by rw [w4, u2], hX, fun h => absurd (u4 h) b3, by omega, .inr (.inr ⟨trivial, fun h => b3 (u4 h), b2, trivial, fun bs => ?_⟩)⟩
        obtain ⟨c1, c2⟩ := b4 bs
        generalize layKept d2.kept d2.wait bs = R at *
        have hmk : bankL x.sz (j.bk j.inn) R = bankL x.sz (j.bk j.inn) d.kept := by rw [c1 _ hkm hne.symm, a4 _ hkm hne.symm]
        rcases c2 with c2 | ⟨T, c2, c3⟩
        · refine ⟨1 - j.inn, j.last + 1, [b], by omega, ⟨by omega, ?_⟩, .inr (by simp)⟩
          have e1 : (1 - (1 - j.inn)) = j.inn := by omega
          show StandM (bankL x.sz (j.bk (1 - j.inn)) R) (bankL x.sz (j.bk (1 - (1 - j.inn))) R) (1 - j.inn) (j.last + 1) [b]
          rw [e1, hmk, c2]
          exact hbase
        · refine ⟨j.inn, j.last, now, by omega, ⟨hi, ?_⟩, .inl rfl⟩
          show StandM (bankL x.sz (j.bk j.inn) R) (bankL x.sz (j.bk (1 - j.inn)) R) j.inn j.last now
          rw [hmk, c2]
          exact hst.bad c3
    · rw [if_pos (by simp)]
      simp only
      refine ⟨u1, u2, u3.mono (by omega), fun h => absurd h a3, by omega, .inr (.inr ⟨trivial, a3, a2, trivial, fun bs => ?_⟩)⟩
      obtain ⟨c1, c2, c3⟩ := a4 bs
      generalize layKept d1.kept d1.wait bs = R at *
      refine ⟨j.inn, j.last, now, by omega, ⟨hi, ?_⟩, .inl rfl⟩
      show StandM (bankL x.sz (j.bk j.inn) R) (bankL x.sz (j.bk (1 - j.inn)) R) j.inn j.last now
      rw [c1 _ hkm hne.symm]
      exact hst.ero c2 c3

theorem append_spec {t : Nat} {sz : List Nat} {d : DM} {x : MX} {j : JX} {now : List Body} (b : Body) (hx : x.sz = sz) (hj : j.Ok sz) (hF : Fit t d sz) (hu : UpS d sz j now) (hlast : j.last ≤ t) (ht : t ≤ 1000000) :
    Fit t (appendJ d x j b).2.1 sz ∧ (appendJ d x j b).2.1.most = d.most ∧ XGrow x (appendJ d x j b).2.2.1 (j.bk j.inn) 5000 ∧ (d.budget = -1 → (appendJ d x j b).2.1.budget = -1) ∧ (appendJ d x j b).2.1.wait.length ≤ 5000 ∧
    ((appendJ d x j b = (91, d, x, j) ∧ j.ready = false) ∨ (appendJ d x j b = (92, d, x, j) ∧ (sizeF b.length = 0 ∨ leftJ sz j < sizeF b.length)) ∨
     ((appendJ d x j b).1 = 0 ∧ UpS (appendJ d x j b).2.1 sz (appendJ d x j b).2.2.2 (now ++ [b]) ∧ (appendJ d x j b).2.2.2 = { j with last := j.last + 1, next := j.next + (putF 2 (j.last + 1) b).length, ready := true }) ∨
     ((appendJ d x j b).1 = 62 ∧ d.budget ≠ -1 ∧ (appendJ d x j b).2.1.down = true ∧ (appendJ d x j b).2.2.2 = j.off ∧ Safe (appendJ d x j b).2.1 sz j.a j.b (t + 1) now [now ++ [b]])) := by
  subst hx
  unfold appendJ
  by_cases hr : j.ready = false
  · rw [if_pos hr]
    exact ⟨hF, rfl, XGrow.refl _ _ _, fun h => h, by rw [hu.wait]; simp, .inl ⟨rfl, hr⟩⟩
  · rw [if_neg hr]
    by_cases hf : sizeF b.length = 0 ∨ leftJ x.sz j < sizeF b.length ∨ big ≤ j.last
    · rw [if_pos hf]
      refine ⟨hF, rfl, XGrow.refl _ _ _, fun h => h, by rw [hu.wait]; simp, .inr (.inl ⟨rfl, ?_⟩)⟩
      rcases hf with h | h | h
      · exact .inl h
      · exact .inr h
      · exfalso; unfold big at h; omega
    · rw [if_neg hf]
      simp only [not_or] at hf
      obtain ⟨hf1, hf2, _⟩ := hf
      have hb := sizeF_ne hf1
      have hrd : j.ready = true := by simpa using hr
      obtain ⟨hne, c, hbank, hnext, hll, hbs, hlow⟩ := hu.rd hrd
      have hkm := hj.bk j.inn
      have hko := hj.bk (1 - j.inn)
      have hno := hj.other
      have hlen := bankL_len hkm hF.room
      have hl := putF_length hb 2 (j.last + 1)
      have hl64 := sizeF_le (b.length : Int)
      have hc : j.next + c = x.sz.getD (j.bk j.inn) 0 := by rw [← hlen, hbank, hnext]; simp
      have hlf : sizeF b.length ≤ c := by
        unfold leftJ roomJ at hf2
        rw [if_pos hrd] at hf2
        omega
      obtain ⟨K', w0, w1, w2, w3, w4, w5, w6, w7, w8⟩ := write_spec hkm (x := x) rfl hF hu.up hu.wait hbank (kd := 2) (n := j.last + 1) hb (by rw [hl]; exact hlf)
      rw [← hnext] at w3 w4 w5 w6 w7 w8
      have hnl : 0 < now.length := List.length_pos_iff.2 hne
      have hsn : framesF (j.last + 1 - now.length) (now ++ [b]) = framesF (j.last + 1 - now.length) now ++ putF 2 (j.last + 1) b := by
        rw [framesF_snoc hne, show j.last + 1 - now.length + now.length = j.last + 1 by omega]
      have hi := hj.inn
      have hall : ∀ y ∈ now ++ [b], y.length ≤ 4000 := fun y hy => by
        rcases List.mem_append.1 hy with h | h
        · exact hbs y h
        · rw [List.mem_singleton.1 h]; exact hb
      generalize hss : putF 2 (j.last + 1) b = ss at *
      generalize hfr : framesF (j.last + 1 - now.length) now = fr at *
      have hnew : ∀ lo, Low (j.last + 1 - now.length) lo → StandM (fr ++ (ss ++ List.replicate (c - ss.length) blankS)) lo j.inn (j.last + 1) (now ++ [b]) := fun lo hlo =>
        .inr ⟨by simp, hall, j.last + 1 - now.length, List.replicate (c - ss.length) blankS, by omega, by simp; omega, bad_blank _, by rw [hsn, List.append_assoc], hlo⟩
      generalize writeJ d x (j.bk j.inn) j.next ss = r at *
      obtain ⟨e2, d2, x2⟩ := r
      simp only at w3 w4 w5 w6 w7 w8 ⊢
      rcases w8 with ⟨rfl, b2, b3, b4⟩ | ⟨rfl, b2, b3, b4⟩
      · rw [if_neg (by simp)]
        simp only
        refine ⟨w3, w4, w5.mono (by omega), w6, by rw [b3]; simp, .inr (.inr (.inl ⟨trivial, ?_, trivial⟩))⟩
        have hmk : bankL x.sz (j.bk j.inn) d2.kept = fr ++ (ss ++ List.replicate (c - ss.length) blankS) := by rw [b4, w2]
        have hok : bankL x.sz (j.bk (1 - j.inn)) d2.kept = bankL x.sz (j.bk (1 - j.inn)) d.kept := by rw [b4, w1 _ hko hno]
        refine ⟨b2, b3, ?_, fun _ => ⟨by simp, c - ss.length, ?_, ?_, ?_, hall, ?_⟩⟩
        · show StandM (bankL x.sz (j.bk j.inn) d2.kept) (bankL x.sz (j.bk (1 - j.inn)) d2.kept) j.inn (j.last + 1) (now ++ [b])
          rw [hmk, hok]
          exact hnew _ hlow
        · show bankL x.sz (j.bk j.inn) d2.kept = framesF (j.last + 1 + 1 - (now ++ [b]).length) (now ++ [b]) ++ _
          rw [hmk, List.length_append, List.length_singleton, show j.last + 1 + 1 - (now.length + 1) = j.last + 1 - now.length by omega, hsn, List.append_assoc]
        · show j.next + ss.length = (framesF (j.last + 1 + 1 - (now ++ [b]).length) (now ++ [b])).length
          rw [List.length_append, List.length_singleton, show j.last + 1 + 1 - (now.length + 1) = j.last + 1 - now.length by omega, hsn, List.length_append, hnext]
        · show (now ++ [b]).length ≤ j.last + 1
          simp; exact hll
        · show Low (j.last + 1 + 1 - (now ++ [b]).length) (bankL x.sz (j.bk (1 - j.inn)) d2.kept)
          rw [List.length_append, List.length_singleton, show j.last + 1 + 1 - (now.length + 1) = j.last + 1 - now.length by omega, hok]
          exact hlow
      · rw [if_pos (by simp)]
        simp only
        refine ⟨w3, w4, w5.mono (by omega), w6, by omega, .inr (.inr (.inr ⟨trivial, b3, b2, trivial, fun bs => ?_⟩))⟩
        obtain ⟨c1, c2⟩ := b4 bs
        generalize layKept d2.kept d2.wait bs = R at *
        have hok : bankL x.sz (j.bk (1 - j.inn)) R = bankL x.sz (j.bk (1 - j.inn)) d.kept := c1 _ hko hno
        rcases c2 with c2 | ⟨T, c2, c3⟩
        · refine ⟨j.inn, j.last + 1, now ++ [b], by omega, ⟨hi, ?_⟩, .inr (by simp)⟩
          show StandM (bankL x.sz (j.bk j.inn) R) (bankL x.sz (j.bk (1 - j.inn)) R) j.inn (j.last + 1) (now ++ [b])
          rw [hok, c2]
          exact hnew _ hlow
        · refine ⟨j.inn, j.last, now, by omega, ⟨hi, ?_⟩, .inl rfl⟩
          show StandM (bankL x.sz (j.bk j.inn) R) (bankL x.sz (j.bk (1 - j.inn)) R) j.inn j.last now
          rw [hok, c2]
          exact .inr ⟨hne, hbs, j.last + 1 - now.length, T, by omega, by omega, c3, by rw [hfr], hlow⟩

/-! ### down -/
theorem wipe_down {d : DM} (hd : d.down = true) {x : MX} {k : Nat} (hk : k < x.sz.length) (hf : x.sz.sum ≤ d.kept.length) : ∀ (n at_ : Nat), at_ + n ≤ x.sz.getD k 0 → wipeG readD eraseD d x (k : Int) at_ n = (0, d, x) ∨ wipeG readD eraseD d x (k : Int) at_ n = (62, d, x)
  | 0, _, _ => .inl rfl
  | n + 1, at_, h => by
    rw [wipeG]
    split
    · exact wipe_down hd hk hf n (at_ + 1) (by omega)
    · right
      have e : opG 1 eraseD d x (k : Int) (at_ : Int) = (62, d, x) := by
        rw [opG_in hk (by omega)]
        have h1 := bnd_part hk
        have e2 : eraseD d ((bnd x.sz k + at_ : Nat) : Int) = (62, d) := by
          unfold eraseD openD
          rw [has_in (by omega), hd]
          simp
        rw [e2]; simp
      rw [e]; simp
theorem begin_down {sz : List Nat} {d : DM} {x : MX} {j : JX} (b : Body) (hx : x.sz = sz) (hj : j.Ok sz) (hf : sz.sum ≤ d.kept.length) (hd : d.down = true) : beginJ d x j b = (92, d, x, j) ∨ beginJ d x j b = (62, d, x, j.off) := by
  subst hx
  unfold beginJ
  split
  · exact .inl rfl
  · right
    have hk := hj.bk (1 - j.inn)
    have e : wipeJ d x (j.bk (1 - j.inn)) = (62, d, x) := by
      unfold wipeJ thenSync
      rw [wipe_all hk]
      rcases wipe_down hd hk hf (x.sz.getD (j.bk (1 - j.inn)) 0) 0 (by omega) with h | h
      · rw [h]; simp [syncD, hd]
      · rw [h]; simp
    rw [e]; simp
theorem append_off {d : DM} {x : MX} {j : JX} (b : Body) (hr : j.ready = false) : appendJ d x j b = (91, d, x, j) := by
  unfold appendJ; rw [if_pos hr]

/-! ### anew -/
theorem UpS.safe {d : DM} {sz : List Nat} {j : JX} {now : List Body} (h : UpS d sz j now) (hj : j.Ok sz) {t : Nat} (hl : j.last ≤ t) (maybe : List (List Body)) : Safe d sz j.a j.b t now maybe := fun bs => by
  refine ⟨j.inn, j.last, now, hl, ⟨hj.inn, ?_⟩, .inl rfl⟩
  rw [h.wait]
  have : layKept d.kept [] bs = d.kept := by cases bs <;> rfl
  rw [this]
  exact h.st
theorem Safe.more {d : DM} {sz : List Nat} {a b t t' : Nat} {now : List Body} {maybe more : List (List Body)} (h : Safe d sz a b t now maybe) (ht : t ≤ t') (hm : ∀ l ∈ maybe, l ∈ more) : Safe d sz a b t' now more := fun bs => by
  obtain ⟨inn, last, l, h1, h2, h3⟩ := h bs
  exact ⟨inn, last, l, by omega, h2, h3.elim .inl fun h => .inr (hm l h)⟩
def openD2 (d : DM) (sz : List Nat) (a b : Nat) : Nat × Nat × List Body := openL (bankL sz a d.now) (bankL sz b d.now)
theorem Fit.restart {t : Nat} {d : DM} {sz : List Nat} (h : Fit t d sz) (bs : List UInt8) : Fit t (restartD d bs) sz :=
  ⟨h.ok.restart bs, rfl, h.worn, h.most, by show sz.sum ≤ (layKept _ _ _).length; rw [layKept_len]; exact h.room⟩
theorem Standing.opened {K : List Sec} {sz : List Nat} {a b inn last : Nat} {l : List Body} (h : Standing K sz a b inn last l) (hl : last ≤ 1000000) (hs : ∀ s ∈ K, s.length = 64) : openL (bankL sz a K) (bankL sz b K) = (inn, last, l) := by
  obtain ⟨hi, h⟩ := h
  refine stand_open hi ?_ (by omega) (bankL_sec hs) (bankL_sec hs)
  rcases Nat.le_one_iff_eq_zero_or_eq_one.1 hi with rfl | rfl
  · exact h
  · exact h
/-- Opened behind a Restart: what was sure, or the one that was going on; up again. -/
theorem restart_spec {t : Nat} {sz : List Nat} {d : DM} {a b : Nat} {now : List Body} {maybe : List (List Body)} (hF : Fit t d sz) (hs : Safe d sz a b t now maybe) (ht : t ≤ 1000000) (bs : List UInt8) :
    ∃ inn last l, openD2 (restartD d bs) sz a b = (inn, last, l) ∧ (l = now ∨ l ∈ maybe) ∧ last ≤ t ∧ inn ≤ 1 ∧ UpS (restartD d bs) sz ⟨a, b, inn, last, 0, false⟩ l := by
  obtain ⟨inn, last, l, h1, h2, h3⟩ := hs bs
  refine ⟨inn, last, l, h2.opened (by omega) (hF.ok.restart bs).keptS, h3, h1, h2.1, ?_⟩
  exact ⟨rfl, rfl, h2.2, fun h => by cases h⟩

/-- A device as it is made. -/
theorem fresh_up {sz : List Nat} {a b : Nat} {n : Nat} : UpS (newD (n : Int) 10000) sz ⟨a, b, 1, 0, 0, false⟩ [] := by
  refine ⟨rfl, rfl, .inl ⟨rfl, rfl, rfl, ?_, ?_⟩, fun h => by cases h⟩ <;>
  · show Bad (bankL sz _ (List.replicate _ blankS))
    unfold bankL
    rw [List.drop_replicate, List.take_replicate]
    exact bad_blank _
end Go.Proofs.YtdfdalkcljfghaaGreat

namespace Go.Proofs.YtdfdalkcljfghaaGreat

theorem fit0 {s0 s1 : Nat} (h0 : s0 ≤ 25) (h1 : s1 ≤ 25) : Fit 0 (newD 60 10000) [s0, s1] := by
  have hk : (newD 60 10000).kept.length = 60 := by
    show (List.replicate (clampD 60 4096) blankS).length = 60
    rw [List.length_replicate]; decide
  refine ⟨newD_ok _ _, rfl, fun s hs => ?_, by show 0 < clampD 10000 100000; decide, ?_⟩
  · have : s ∈ List.replicate (clampD 60 4096) 0 := hs
    rw [(List.mem_replicate.1 this).2]; exact Nat.le_refl _
  · rw [hk]
    simp only [List.sum_cons, List.sum_nil]; omega
theorem most0 : (newD 60 10000).most = 10000 := by show clampD 10000 100000 = 10000; decide
def jnew : JX := ⟨0, 1, 1, 0, 0, false⟩
theorem jnew_ok (s0 s1 : Nat) : jnew.Ok [s0, s1] := ⟨by simp [jnew], by simp [jnew], by simp [jnew], by simp [jnew]⟩
theorem up0 (s0 s1 : Nat) : UpS (newD 60 10000) [s0, s1] jnew [] := fresh_up (n := 60)
theorem UpS.opened {t : Nat} {d : DM} {sz : List Nat} {j : JX} {now : List Body} (h : UpS d sz j now) (hF : Fit t d sz) (hj : j.Ok sz) (hl : j.last ≤ 1000000) : openD2 d sz j.a j.b = (j.inn, j.last, now) := by
  have hn : d.now = d.kept := by rw [hF.now, h.wait]; rfl
  unfold openD2
  rw [hn]
  exact Standing.opened ⟨hj.inn, h.st⟩ hl hF.ok.keptS
theorem open0 (s0 s1 : Nat) (h0 : s0 ≤ 25) (h1 : s1 ≤ 25) : openD2 (newD 60 10000) [s0, s1] 0 1 = (1, 0, []) :=
  (up0 s0 s1).opened (fit0 h0 h1) (jnew_ok s0 s1) (by simp [jnew])

/-- One Begin that is let. -/
theorem begin_let {t : Nat} {sz : List Nat} {d : DM} {x : MX} {j : JX} {now : List Body} (b : Body) (hx : x.sz = sz) (hj : j.Ok sz) (hF : Fit t d sz) (hm : t + 1 < d.most) (hu : UpS d sz j now) (hlast : j.last ≤ t) (ht : t ≤ 1000000)
    (hb : d.budget = -1) (hf : fitsJ sz j b.length = true) : ∃ d1 x1, beginJ d x j b = (0, d1, x1, { j with inn := 1 - j.inn, last := j.last + 1, next := (putF 1 (j.last + 1) b).length, ready := true }) ∧
      Fit (t + 1) d1 sz ∧ d1.most = d.most ∧ XGrow x x1 (j.bk (1 - j.inn)) 5000 ∧ d1.budget = -1 ∧ d1.wait.length ≤ 5000 ∧ UpS d1 sz { j with inn := 1 - j.inn, last := j.last + 1, next := (putF 1 (j.last + 1) b).length, ready := true } [b] := by
  obtain ⟨h1, h2, h3, h4, h5, h6⟩ := begin_spec b hx hj hF hm hu hlast ht
  generalize beginJ d x j b = r at *
  obtain ⟨e, d1, x1, j1⟩ := r
  rcases h6 with ⟨h6, h7⟩ | ⟨h6, h7, h8⟩ | ⟨_, h7, _⟩
  · rw [hf] at h7; cases h7
  · simp only at h6 h7 h8 h1 h2 h3 h4 h5
    subst h6; subst h8
    exact ⟨d1, x1, rfl, h1, h2, h3, h4 hb, h5, h7⟩
  · exact absurd hb h7
theorem append_let {t : Nat} {sz : List Nat} {d : DM} {x : MX} {j : JX} {now : List Body} (b : Body) (hx : x.sz = sz) (hj : j.Ok sz) (hF : Fit t d sz) (hu : UpS d sz j now) (hlast : j.last ≤ t) (ht : t ≤ 1000000)
    (hb : d.budget = -1) (hr : j.ready = true) (hz : sizeF b.length ≠ 0) (hl : ¬ leftJ sz j < sizeF b.length) : ∃ d1 x1, appendJ d x j b = (0, d1, x1, { j with last := j.last + 1, next := j.next + (putF 2 (j.last + 1) b).length, ready := true }) ∧
      Fit t d1 sz ∧ x1.sz = sz ∧ UpS d1 sz { j with last := j.last + 1, next := j.next + (putF 2 (j.last + 1) b).length, ready := true } (now ++ [b]) := by
  obtain ⟨h1, h2, h3, h4, h5, h6⟩ := append_spec b hx hj hF hu hlast ht
  generalize appendJ d x j b = r at *
  obtain ⟨e, d1, x1, j1⟩ := r
  rcases h6 with ⟨_, h7⟩ | ⟨_, h7⟩ | ⟨h6, h7, h8⟩ | ⟨_, h7, _⟩
  · rw [hr] at h7; cases h7
  · rcases h7 with h | h
    · exact absurd h hz
    · exact absurd h hl
  · simp only at h6 h7 h8 h1 h3
    subst h6; subst h8
    exact ⟨d1, x1, rfl, h1, h3.sz.trans hx, h7⟩
  · exact absurd hb h7
theorem bud0 : (newD 60 10000).budget = -1 := rfl

theorem fits_no {j : JX} {sz : List Nat} {d : DM} {x : MX} (b : Body) (hx : x.sz = sz) (h : fitsJ sz j b.length = false) : beginJ d x j b = (92, d, x, j) := by
  subst hx
  unfold beginJ
  rw [if_pos (.inl h)]
end Go.Proofs.YtdfdalkcljfghaaGreat
