/-
  PartApart: what is done to one part of a device with power changes no other part; a part that is wiped is blank, and just what wasn't blank was erased.
-/
import Derived.Test.YtlgknllcnkainaaMLoop
namespace Go.Proofs.Ytlgknllcnkainaa

/-- A device of twenty sectors, with power, none of which was erased more than c times. -/
structure Inv (d : DM) (c : Nat) : Prop where
  ok : d.Ok
  budget : d.budget = -1
  down : d.down = false
  most : d.most = 1000
  len : d.kept.length = 20
  wear : ∀ z ∈ d.wear, z ≤ c
theorem Inv.up {d : DM} {c e : Nat} (h : Inv d c) (hc : c ≤ e) : Inv d e := { h with wear := fun z hz => Nat.le_trans (h.wear z hz) hc }
/-- Outside of the sectors from a on, up to b, all is as it was. -/
def Else (a b : Nat) (d d' : DM) : Prop := ∀ i, i < a ∨ b ≤ i → d'.now.getD i [] = d.now.getD i []
theorem Else.refl (a b : Nat) (d : DM) : Else a b d d := fun _ _ => rfl
theorem Else.trans {a b : Nat} {d e f : DM} (h : Else a b d e) (g : Else a b e f) : Else a b d f := fun i hi => (g i hi).trans (h i hi)

theorem set_getD_ne {l : List Sec} {i j : Nat} (h : i ≠ j) (s : Sec) : (l.set i s).getD j [] = l.getD j [] := by
  rw [List.getD_eq_getElem?_getD, List.getD_eq_getElem?_getD, List.getElem?_set_ne h]
theorem set_getD_eq {l : List Sec} {i : Nat} (h : i < l.length) (s : Sec) : (l.set i s).getD i [] = s := by
  rw [List.getD_eq_getElem?_getD, List.getElem?_set_self h]; rfl

theorem step_free {d : DM} {c : Nat} (h : Inv d c) : stepD d = (0, d) := by
  unfold stepD
  rw [if_neg (by rw [h.budget]; decide), if_pos h.budget]
  have : ({ d with budget := -1 } : DM) = d := by rw [← h.budget]
  rw [this]
theorem open_free {d : DM} {c : Nat} (h : Inv d c) {i : Nat} (hi : i < 20) : openD d (i : Int) = 0 := by
  have hh : hasD d.kept.length (i : Int) = true := by rw [h.len]; unfold hasD; rw [decide_eq_true (by omega), decide_eq_true (by omega)]; rfl
  unfold openD
  rw [if_neg (by rw [hh]; decide), if_neg (by rw [h.down]; decide)]
theorem wear_le {d : DM} {c : Nat} (h : Inv d c) (i : Nat) : d.wear.getD i 0 ≤ c := by
  rw [List.getD_eq_getElem?_getD]
  cases hg : d.wear[i]? with
  | none => exact Nat.zero_le _
  | some z => exact h.wear z (List.mem_of_getElem? hg)
/-- Erase of a sector. -/
theorem erase_inv {d : DM} {c : Nat} (h : Inv d c) (hc : c < 1000) {i : Nat} (hi : i < 20) : ∃ d', eraseD d (i : Int) = (0, d') ∧ Inv d' (c + 1) ∧ d'.now = d.now.set i blankS := by
  have hw := wear_le h i
  have e : eraseD d (i : Int) = (0, doD (wornD d i) i blankS) := by
    unfold eraseD
    rw [if_neg (by rw [open_free h hi]; decide), Int.toNat_natCast, if_neg (by rw [h.most]; omega), if_neg (by rw [step_free h]; simp), step_free h]
  refine ⟨_, e, ?_, rfl⟩
  have hok := h.ok.erase (i : Int)
  rw [e] at hok
  exact { ok := hok, budget := h.budget, down := h.down, most := h.most, len := h.len, wear := fun z hz => by
            have hz2 : z ∈ d.wear.set i (d.wear.getD i 0 + 1) := hz
            rcases List.mem_or_eq_of_mem_set hz2 with e1 | e1
            · have := h.wear z e1; omega
            · omega }
theorem program_inv {d : DM} {c : Nat} (h : Inv d c) {i : Nat} (hi : i < 20) {s : Sec} (hs : s.length = 64) : ∃ e d', programD d (i : Int) s = (e, d') ∧ Inv d' c ∧ (d' = d ∨ d'.now = d.now.set i s) := by
  by_cases hb : d.now.getD i [] = blankS
  · have e : programD d (i : Int) s = (0, doD d i s) := by
      unfold programD
      rw [if_neg (by rw [open_free h hi]; decide), Int.toNat_natCast, if_neg (by simpa using hb), if_neg (by rw [step_free h]; simp), step_free h]
    have hok := h.ok.program (i : Int) hs
    rw [e] at hok
    exact ⟨_, _, e, { ok := hok, budget := h.budget, down := h.down, most := h.most, len := h.len, wear := h.wear }, .inr rfl⟩
  · have e : programD d (i : Int) s = (63, d) := by
      unfold programD
      rw [if_neg (by rw [open_free h hi]; decide), Int.toNat_natCast, if_pos hb]
    exact ⟨_, _, e, h, .inl rfl⟩

/-- Something is done to part k: no other sector turns; each operation is one of its sectors. -/
structure Did (k : Nat) (sz : List Nat) (x x' : MX) : Prop where
  keep : x'.sz = x.sz
  ops : ∃ l : List OpT, x'.ops = x.ops ++ l ∧ l.length ≤ 1 ∧ ∀ o ∈ l, o.2.1 = (k : Int) ∧ 0 ≤ o.2.2.1 ∧ o.2.2.1 < ((sz.getD k 0 : Nat) : Int)
theorem op_did {f : DM → Int → Int × DM} {kind : Int} {d : DM} {x : MX} {k : Nat} {j : Int} {c e : Nat} (h : Inv d c) (hce : c ≤ e) (hs : x.sz.sum ≤ 20)
    (hf : ∀ i : Nat, i < 20 → ∃ e1 d', f d (i : Int) = (e1, d') ∧ Inv d' e ∧ (d' = d ∨ ∃ s, d'.now = d.now.set i s)) :
    Inv (opG kind f d x (k : Int) j).2.1 e ∧ Else (bnd x.sz k) (bnd x.sz k + x.sz.getD k 0) d (opG kind f d x (k : Int) j).2.1 ∧ Did k x.sz x (opG kind f d x (k : Int) j).2.2 := by
  by_cases hp : (placeX x.sz (k : Int) j).2 = 0
  · obtain ⟨k', i, hk', rfl, hk, hi, hpl⟩ := place_in hp
    obtain rfl : k' = k := by omega
    have hb := bnd_part hk
    obtain ⟨e1, d', hfd, hI, hn⟩ := hf (bnd x.sz k' + i) (by omega)
    have hE : Else (bnd x.sz k') (bnd x.sz k' + x.sz.getD k' 0) d d' := fun a ha => by
      rcases hn with rfl | ⟨s, hn⟩
      · rfl
      · rw [hn, set_getD_ne (by omega)]
    have e0 : placeX x.sz (k' : Int) (i : Int) = (((bnd x.sz k' + i : Nat) : Int), 0) := place_some hk hi
    by_cases h1 : e1 = 0
    · have e2 : opG kind f d x (k' : Int) (i : Int) = (0, d', x.did kind (k' : Int) (i : Int)) := by unfold opG; rw [e0]; simp only []; rw [hfd]; simp [h1]
      rw [e2]
      exact ⟨hI, hE, rfl, [(kind, (k' : Int), (i : Int), x.who)], rfl, by simp, fun o ho => by
        simp only [List.mem_singleton] at ho
        subst ho
        exact ⟨rfl, by show (0 : Int) ≤ (i : Int); omega, by show (i : Int) < _; omega⟩⟩
    · have e2 : opG kind f d x (k' : Int) (i : Int) = (e1, d', x) := by unfold opG; rw [e0]; simp only []; rw [hfd]; simp [h1]
      rw [e2]
      exact ⟨hI, hE, rfl, [], by simp, by simp, fun o ho => by cases ho⟩
  · have e2 : opG kind f d x (k : Int) j = ((placeX x.sz (k : Int) j).2, d, x) := by unfold opG; rw [if_pos hp]
    rw [e2]
    exact ⟨h.up hce, Else.refl _ _ _, rfl, [], by simp, by simp, fun o ho => by cases ho⟩
theorem erase_did {d : DM} {x : MX} {c : Nat} (h : Inv d c) (hc : c < 1000) (hs : x.sz.sum ≤ 20) (k : Nat) (j : Int) :
    Inv (eraseM d x (k : Int) j).2.1 (c + 1) ∧ Else (bnd x.sz k) (bnd x.sz k + x.sz.getD k 0) d (eraseM d x (k : Int) j).2.1 ∧ Did k x.sz x (eraseM d x (k : Int) j).2.2 :=
  op_did h (by omega) hs fun i hi => by
    obtain ⟨d', h1, h2, h3⟩ := erase_inv h hc hi
    exact ⟨0, d', h1, h2, .inr ⟨_, h3⟩⟩
theorem program_did {d : DM} {x : MX} {c : Nat} (h : Inv d c) (hs : x.sz.sum ≤ 20) (k : Nat) (j : Int) {s : Sec} (h64 : s.length = 64) :
    Inv (programM s d x (k : Int) j).2.1 c ∧ Else (bnd x.sz k) (bnd x.sz k + x.sz.getD k 0) d (programM s d x (k : Int) j).2.1 ∧ Did k x.sz x (programM s d x (k : Int) j).2.2 :=
  op_did h (Nat.le_refl _) hs fun i hi => by
    obtain ⟨e1, d', h1, h2, h3⟩ := program_inv h hi h64
    refine ⟨e1, d', h1, h2, ?_⟩
    rcases h3 with h3 | h3
    · exact .inl h3
    · exact .inr ⟨_, h3⟩

/-- How many sectors of n from a on aren't blank. -/
def dirtyN (d : DM) (b : Nat) : Nat → Nat → Nat
  | _, 0 => 0
  | a, n + 1 => (if d.now.getD (b + a) [] = blankS then 0 else 1) + dirtyN d b (a + 1) n
theorem dirtyN_same {d e : DM} {b : Nat} : ∀ (n a : Nat), (∀ j, a ≤ j → j < a + n → e.now.getD (b + j) [] = d.now.getD (b + j) []) → dirtyN e b a n = dirtyN d b a n
  | 0, _, _ => rfl
  | n + 1, a, h => by
    rw [dirtyN, dirtyN, h a (by omega) (by omega), dirtyN_same n (a + 1) (fun j h1 h2 => h j (by omega) (by omega))]
theorem wipe_apart {k : Nat} : ∀ (n a : Nat) (d : DM) (x : MX) (c : Nat), Inv d c → c + n < 1000 → x.sz.sum ≤ 20 → k < x.sz.length → a + n = x.sz.getD k 0 →
    ∃ d' x', wipeG readD eraseD d x (k : Int) a n = (0, d', x') ∧ Inv d' (c + n) ∧ x'.sz = x.sz ∧ Else (bnd x.sz k) (bnd x.sz k + x.sz.getD k 0) d d' ∧ (∀ j, a ≤ j → j < a + n → d'.now.getD (bnd x.sz k + j) [] = blankS) ∧
      (∀ j, j < a → d'.now.getD (bnd x.sz k + j) [] = d.now.getD (bnd x.sz k + j) []) ∧ x'.ops.length = x.ops.length + dirtyN d (bnd x.sz k) a n
  | 0, a, d, x, c, hI, _, _, _, _ => ⟨d, x, rfl, hI, rfl, Else.refl _ _ _, fun j h1 h2 => by omega, fun _ _ => rfl, rfl⟩
  | n + 1, a, d, x, c, hI, hc, hs, hk, ha => by
    have hlt : a < x.sz.getD k 0 := by omega
    have hbp := bnd_part hk
    have hrd : readM d x.sz (k : Int) (a : Int) = (d.now.getD (bnd x.sz k + a) [], 0) := read_in (by rw [hI.len]; exact hs) hk hlt
    have hrd1 : (readG readD d x.sz (k : Int) (a : Int)).1 = d.now.getD (bnd x.sz k + a) [] := congrArg Prod.fst hrd
    by_cases hb : d.now.getD (bnd x.sz k + a) [] = blankS
    · obtain ⟨d', x', h1, h2, h3, h4, h5, h6, h7⟩ := wipe_apart n (a + 1) d x c hI (by omega) hs hk (by omega)
      refine ⟨d', x', by rw [wipe_blank (hrd1.trans hb)]; exact h1, h2.up (by omega), h3, h4, fun j h8 h9 => ?_, fun j hj => h6 j (by omega), ?_⟩
      · by_cases e : j = a
        · rw [e, h6 a (by omega)]; exact hb
        · exact h5 j (by omega) (by omega)
      · rw [h7, dirtyN, if_pos hb, Nat.zero_add]
    · obtain ⟨d1, e1, hI1, hn1⟩ := erase_inv hI (by omega) (i := bnd x.sz k + a) (by omega)
      have hop : opG 1 eraseD d x (k : Int) (a : Int) = (0, d1, x.did 1 (k : Int) (a : Int)) := by
        unfold opG; rw [place_some hk hlt]; simp only []; rw [e1]; simp
      obtain ⟨d', x', h1, h2, h3, h4, h5, h6, h7⟩ := wipe_apart n (a + 1) d1 (x.did 1 (k : Int) (a : Int)) (c + 1) hI1 (by omega) hs hk (by show a + 1 + n = x.sz.getD k 0; omega)
      have hnl : bnd x.sz k + a < d.now.length := by rw [hI.ok.now, hI.len]; omega
      refine ⟨d', x', by rw [wipe_on (by rw [hrd1]; exact hb) hop]; exact h1, by rw [show c + (n + 1) = c + 1 + n by omega]; exact h2, h3, ?_, fun j h8 h9 => ?_, fun j hj => ?_, ?_⟩
      · refine Else.trans (e := d1) (fun i hi => ?_) h4
        rw [hn1, set_getD_ne (by omega)]
      · by_cases e : j = a
        · have := h6 a (by omega)
          rw [e, show d'.now.getD (bnd x.sz k + a) [] = d1.now.getD (bnd x.sz k + a) [] from this, hn1, set_getD_eq hnl]
        · exact h5 j (by omega) (by omega)
      · have := h6 j (by omega)
        rw [show d'.now.getD (bnd x.sz k + j) [] = d1.now.getD (bnd x.sz k + j) [] from this, hn1, set_getD_ne (by omega)]
      · rw [h7, dirtyN, if_neg hb]
        have hd : dirtyN d1 (bnd x.sz k) (a + 1) n = dirtyN d (bnd x.sz k) (a + 1) n := dirtyN_same n (a + 1) fun j h8 h9 => by
          rw [hn1, set_getD_ne (by omega)]
        show (x.ops ++ [_]).length + dirtyN d1 (bnd x.sz k) (a + 1) n = _
        rw [hd, List.length_append, List.length_singleton]
        omega
/-- A part is the same where its sectors are. -/
theorem all_same {d e : DM} {sz : List Nat} (h1 : sz.sum ≤ d.kept.length) (h2 : sz.sum ≤ e.kept.length) {k : Nat} (hk : k < sz.length) (h : ∀ j, j < sz.getD k 0 → e.now.getD (bnd sz k + j) [] = d.now.getD (bnd sz k + j) []) :
    ∀ n, n ≤ sz.getD k 0 → someG readD e sz (k : Int) n = someG readD d sz (k : Int) n
  | 0, _ => by rw [someG_zero, someG_zero]
  | n + 1, hn => by
    have r1 : readG readD d sz (k : Int) ((n : Nat) : Int) = _ := read_in h1 hk (a := n) (by omega)
    have r2 : readG readD e sz (k : Int) ((n : Nat) : Int) = _ := read_in h2 hk (a := n) (by omega)
    rw [someG_succ, someG_succ, all_same h1 h2 hk h n (by omega), r1, r2, h n (by omega)]
theorem all_blank {d : DM} {sz : List Nat} (h1 : sz.sum ≤ d.kept.length) {k : Nat} (hk : k < sz.length) (h : ∀ j, j < sz.getD k 0 → d.now.getD (bnd sz k + j) [] = blankS) :
    ∀ n, n ≤ sz.getD k 0 → ∀ b ∈ someG readD d sz (k : Int) n, b = 255
  | 0, _, b, hb => by rw [someG_zero] at hb; cases hb
  | n + 1, hn, b, hb => by
    have r1 : readG readD d sz (k : Int) ((n : Nat) : Int) = _ := read_in h1 hk (a := n) (by omega)
    rw [someG_succ, r1, h n (by omega), List.mem_append] at hb
    rcases hb with hb | hb
    · exact all_blank h1 hk h n (by omega) b hb
    · exact (List.mem_replicate.1 hb).2
end Go.Proofs.Ytlgknllcnkainaa
