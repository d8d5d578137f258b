
/-
  What bootjackref05.Raw, FixedOf, TextOf and End, and a Reader's Raw answer.
-/
import Derived.Test.YtglphnmnnfpcoaaDoorCReader
import Derived.Test.YtglphnmnnfpcoaaDoorCRefPut
namespace Go.Proofs.YtglphnmnnfpcoaaDoor
open Go.RowKit

/-- The document's Raw. -/
def rawL (l : List UInt8) (e : Int) (m : Int) : List UInt8 × List UInt8 × Int := if e = 0 then takeL l 0 m.toNat else ([], [], e)

theorem Own.other {B : Nat} {w w' : World} {v : Value} {l : List UInt8} {r : Nat} (h : Own B w v l) (hg : w.grownBy w' (some r)) (hr : r < B) : Own B w' v l := by
  refine World.ownsRow.kept h hg ?_
  cases hv : v.ownBlock with
  | none => exact .inl rfl
  | some g =>
    right
    have := (h.block hv).1
    simp
    omega

set_option maxHeartbeats 1600000 in
set_option maxRecDepth 100000 in
theorem refraw_walk (N r : Nat) (m : Int) (hm1 : -9223372036854775808 ≤ m) (hm2 : m ≤ 9223372036854775807) (l : List UInt8) (e : Int) (w : World) (h : Rd N w r l e) :
    Calls Tryd.prog 51 #[.pointer (some ⟨r, 0, none⟩), .int .i64 m] w fun z w' => ∃ v, z = .returned v ∧ (Own w.heap.size w' v (rawL l e m).1 ∧ Shows (rawL l e m).1 v w') ∧ Rd N w' r (rawL l e m).2.1 (rawL l e m).2.2 ∧ w.grownBy w' (some r) := by
  unfold rawL
  have hsz := h.size
  have hrlt := h.lt
  obtain ⟨h1, v, ha, hr⟩ := h
  have hrv := hr
  obtain ⟨a, len, cap, rfl, q1, q2, q3, hrow⟩ := hr
  have hc0 := ha.cell (i := 0) rfl
  have hc1 := ha.cell (i := 1) rfl
  have hf0 := ha.free 0
  have hf1 := ha.free 1
  have hll := hrow.1
  have hl2 := hrow.2.1
  by_cases he : e = 0
  · rw [if_pos he]
    subst he
    by_cases hlt : l.length < m.toNat
    · rw [takeL_short hlt]
      have hmn : (len : Int) < m := by omega
      have hm0 : ¬ m < 0 := by omega
      have ha2 := ha.set 1 (.int .i64 51)
      have hc02 := ha2.cell (i := 0) rfl
      have hc12 := ha2.cell (i := 1) rfl
      have hf02 := ha2.free 0
      have HA3 := hide (ha2.set 0 (.slice none 0 0))
      clear ha ha2 hrow hrv hlt hll
      go_enter Tryd.func51, Tryd.ntmps51
      go_wp2_with fail
      go_ret
      exact ⟨_, rfl, ⟨Own.nil _ _, RowV.nil _ _⟩, ⟨h1, _, unhide HA3, RowV.nil _ _⟩, grown_two (set_grown _ _ _ _) (set_grown _ _ _ _)⟩
    · rw [takeL_long hlt]
      rw [hll] at hlt
      have hkl : m.toNat ≤ len := by omega
      have HT := hide (hrow.take m.toNat hkl)
      have HD := hide (hrow.drop q1 m.toNat hkl)
      have HSET := hide (fun v => ha.set 0 v)
      have HE := hide (Own.empty w)
      have HA := hide ha
      have bel : Below w.heap.size w (w.alloc (.cells #[] 5)) := (Below.refl _ _).alloc (Nat.le_refl _) _
      have HB := hide bel
      have hc0a : (w.alloc (.cells #[] 5)).cell? ⟨r, 0, none⟩ = some (.slice a len cap) := (ha.alloc _).cell (i := 0) rfl
      clear ha hrow bel hll
      by_cases hm0 : m < 0
      · have e0 : m.toNat = 0 := by omega
        rw [e0] at HT HD hkl ⊢
        clear e0 hlt
        have HRT : Hid (RowV N (w.alloc (.cells #[] 5)) (.slice a 0 cap) (l.take 0)) := hide ⟨a, 0, cap, rfl, by omega, q2, q3, (unhide HT).below ((unhide HB).mono hsz)⟩
        go_enter Tryd.func51, Tryd.ntmps51
        go_wp2_with (refine wpList_appRow rfl _ _ rfl w.heap.size N _ [] rfl (unhide HE) _ rfl (l.take 0) (unhide HRT) ?_ ?_ ?_)
        · simp
        · simp
        intro v3 w3 hO3 hG3
        have hb3 := (unhide HB).trans ((unhide HE).below hG3 (by simp))
        have ha3 := (unhide HA).below hb3
        have hc03 := ha3.cell (i := 0) rfl
        have hf03 := ha3.free 0
        have HSET3 := hide (fun v => ha3.set 0 v)
        have HO3 := hide hO3
        have Hb3 := hide hb3
        have hw3 := hb3.size
        clear hO3 hG3 hb3 ha3 hc0 hc1 hf0 hf1 hc0a
        by_cases hcap : cap = 0
        · subst hcap
          go_wp2_with fail
          go_ret
          have bel3 : ∀ u, Below N w (w3.setCell ⟨r, 0, none⟩ u) := fun u => ((unhide Hb3).mono hsz).setCell (by simpa using h1) u
          have hg : ∀ u, w.grownBy (w3.setCell ⟨r, 0, none⟩ u) (some r) := fun u => grown_two ⟨(unhide Hb3).os, (unhide Hb3).tape, (unhide Hb3).output, hw3, fun k hk _ => (unhide Hb3).block k hk⟩ (set_grown w3 r 0 u)
          have hOo := fun u => (unhide HO3).other (set_grown w3 r 0 u) hrlt
          refine ⟨_, rfl, ⟨hOo _, (hOo _).row (by simp; try omega)⟩, ⟨h1, _, unhide HSET3 _, ?_⟩, hg _⟩
          exact ⟨a, 0, 0, rfl, Nat.le_refl _, Nat.zero_le _, fun _ => rfl, by have hd := unhide HD a (.inl (by first | rfl | trivial)); rw [show len - 0 = 0 by omega] at hd; exact hd.below (bel3 _)⟩
        · skip
          go_wp2_with fail
          go_ret
          have bel3 : ∀ u, Below N w (w3.setCell ⟨r, 0, none⟩ u) := fun u => ((unhide Hb3).mono hsz).setCell (by simpa using h1) u
          have hg : ∀ u, w.grownBy (w3.setCell ⟨r, 0, none⟩ u) (some r) := fun u => grown_two ⟨(unhide Hb3).os, (unhide Hb3).tape, (unhide Hb3).output, hw3, fun k hk _ => (unhide Hb3).block k hk⟩ (set_grown w3 r 0 u)
          have hOo := fun u => (unhide HO3).other (set_grown w3 r 0 u) hrlt
          refine ⟨_, rfl, ⟨hOo _, (hOo _).row (by simp; try omega)⟩, ⟨h1, _, unhide HSET3 _, ?_⟩, hg _⟩
          exact hrv.below (bel3 _)
      · obtain ⟨k, rfl⟩ : ∃ k : Nat, m = (k : Int) := ⟨m.toNat, by omega⟩
        rw [show ((k : Int)).toNat = k by omega] at HT HD hkl ⊢
        clear hlt
        have HRT : Hid (RowV N (w.alloc (.cells #[] 5)) (.slice a k cap) (l.take k)) := hide ⟨a, k, cap, rfl, by omega, q2, q3, (unhide HT).below ((unhide HB).mono hsz)⟩
        go_enter Tryd.func51, Tryd.ntmps51
        go_wp2_with (refine wpList_appRow rfl _ _ rfl w.heap.size N _ [] rfl (unhide HE) _ rfl (l.take k) (unhide HRT) ?_ ?_ ?_)
        · omega
        intro v3 w3 hO3 hG3
        have hb3 := (unhide HB).trans ((unhide HE).below hG3 (by simp))
        have ha3 := (unhide HA).below hb3
        have hc03 := ha3.cell (i := 0) rfl
        have hf03 := ha3.free 0
        have HSET3 := hide (fun v => ha3.set 0 v)
        have HO3 := hide hO3
        have Hb3 := hide hb3
        have hw3 := hb3.size
        clear hO3 hG3 hb3 ha3 hc0 hc1 hf0 hf1 hc0a
        by_cases hcap : cap = k
        · subst hcap
          go_wp2_with fail
          go_ret
          have bel3 : ∀ u, Below N w (w3.setCell ⟨r, 0, none⟩ u) := fun u => ((unhide Hb3).mono hsz).setCell (by simpa using h1) u
          have hg : ∀ u, w.grownBy (w3.setCell ⟨r, 0, none⟩ u) (some r) := fun u => grown_two ⟨(unhide Hb3).os, (unhide Hb3).tape, (unhide Hb3).output, hw3, fun k hk _ => (unhide Hb3).block k hk⟩ (set_grown w3 r 0 u)
          have hOo := fun u => (unhide HO3).other (set_grown w3 r 0 u) hrlt
          refine ⟨_, rfl, ⟨hOo _, (hOo _).row (by simp; try omega)⟩, ⟨h1, _, unhide HSET3 _, ?_⟩, hg _⟩
          exact ⟨a, 0, 0, rfl, Nat.le_refl _, Nat.zero_le _, fun _ => rfl, by have hd := unhide HD a (.inl (by first | rfl | trivial)); rw [show len - cap = 0 by omega] at hd; exact hd.below (bel3 _)⟩
        · skip
          go_wp2_with fail
          go_ret
          have bel3 : ∀ u, Below N w (w3.setCell ⟨r, 0, none⟩ u) := fun u => ((unhide Hb3).mono hsz).setCell (by simpa using h1) u
          have hg : ∀ u, w.grownBy (w3.setCell ⟨r, 0, none⟩ u) (some r) := fun u => grown_two ⟨(unhide Hb3).os, (unhide Hb3).tape, (unhide Hb3).output, hw3, fun k hk _ => (unhide Hb3).block k hk⟩ (set_grown w3 r 0 u)
          have hOo := fun u => (unhide HO3).other (set_grown w3 r 0 u) hrlt
          refine ⟨_, rfl, ⟨hOo _, (hOo _).row (by simp; try omega)⟩, ⟨h1, _, unhide HSET3 _, ?_⟩, hg _⟩
          have hd := unhide HD _ (.inr rfl)
          refine ⟨_, _, _, rfl, by omega, by omega, fun hz => ?_, hd.below (bel3 _)⟩
          have := q3 (by simpa using hz)
          omega
  · rw [if_neg he]
    have HA3 := hide (ha.set 0 (.slice none 0 0))
    clear ha hrow hrv
    by_cases hm0 : m < 0
    all_goals
      go_enter Tryd.func51, Tryd.ntmps51
      go_wp2_with fail
      go_ret
      exact ⟨_, rfl, ⟨Own.nil _ _, RowV.nil _ _⟩, ⟨h1, _, unhide HA3, RowV.nil _ _⟩, set_grown _ _ _ _⟩

theorem rawL_over {l : List UInt8} {e : Int} (h : Over l e) (m : Int) : rawL l e m = takeL l e m.toNat := by
  unfold rawL
  by_cases he : e = 0
  · rw [if_pos he, he]
  · rw [if_neg he, h he, takeL_err he]

theorem weigh (n c k : Nat) (hn : n < 256 ^ k) (hk : k < 8) (hc : c < 256) : IntKind.u64.wrap ((n : Int) + IntKind.u64.wrap ((c : Int) * ((256 ^ k % 18446744073709551616 : Nat) : Int))) = ((n + 256 ^ k * c : Nat) : Int) := by
  have e1 : 256 ^ k = 2 ^ (8 * k) := by rw [show (256 : Nat) = 2 ^ 8 by rfl, ← Nat.pow_mul]
  have h1 : 2 ^ (8 * k) * 2 ^ 8 ≤ 2 ^ 64 := by rw [← Nat.pow_add]; exact Nat.pow_le_pow_right (by decide) (by omega)
  rw [e1] at hn ⊢
  have h0 : 0 < 2 ^ (8 * k) := Nat.pow_pos (by decide)
  rw [Nat.mod_eq_of_lt (by omega)]
  have h2 : c * 2 ^ (8 * k) ≤ 255 * 2 ^ (8 * k) := Nat.mul_le_mul_right _ (by omega)
  have e2 : ((c : Int) * ((2 ^ (8 * k) : Nat) : Int)) = ((c * 2 ^ (8 * k) : Nat) : Int) := by simp
  rw [e2, Nat.mul_comm (2 ^ (8 * k)) c, IntKind.wrap_u64, IntKind.wrap_u64]
  generalize c * 2 ^ (8 * k) = y at *
  generalize 2 ^ (8 * k) = x at *
  omega
theorem weight (k : Nat) : IntKind.u64.wrap (((256 ^ k % 18446744073709551616 : Nat) : Int) * 256) = ((256 ^ (k + 1) % 18446744073709551616 : Nat) : Int) := by
  rw [IntKind.wrap_u64, Nat.pow_succ]
  generalize 256 ^ k = x
  omega

set_option maxHeartbeats 800000 in
set_option maxRecDepth 100000 in
theorem rraw_walk (N r : Nat) (m : Int) (hm2 : m ≤ 9223372036854775807) (l : List UInt8) (e : Int) (w : World) (h : Rd N w r l e) :
    Calls Tryd.prog 49 #[.pointer (some ⟨r, 0, none⟩), .int .i64 m] w fun z w' => ∃ v, z = .returned v ∧ Own w.heap.size w' v (takeL l e m.toNat).1 ∧ Rd N w' r (takeL l e m.toNat).2.1 (takeL l e m.toNat).2.2 ∧ w.grownBy w' (some r) := by
  have HT := hide (take_walk N r m.toNat (by omega) l e w h)
  have hmx := run_max0 m w
  have e1 : (if m < 0 then 0 else m) = ((m.toNat : Nat) : Int) := by split <;> omega
  rw [e1] at hmx
  generalize takeL l e m.toNat = t at *
  generalize m.toNat = q at *
  clear e1
  go_enter Tryd.func49, Tryd.ntmps49
  go_wp2_with fail
  refine (unhide HT).mono ?_
  rintro z w1 ⟨v1, rfl, hV1, hR1, hg1⟩
  have HC := hide (clone_walk N v1 t.1 w1 hR1.size hV1)
  have HR1 := hide hR1
  have HG1 := hide hg1
  clear hV1 hR1 hg1 HT hmx
  go_wp2_with fail
  refine (unhide HC).mono ?_
  rintro z w2 ⟨v2, rfl, hO2, hb2⟩
  have HO2 := hide (hO2.lower (unhide HG1).size)
  have HR2 := hide ((unhide HR1).below hb2)
  have HG2 := hide (grown_below (unhide HG1) hb2)
  clear hO2 hb2 HC
  go_wp2_with fail
  go_ret
  exact ⟨_, rfl, unhide HO2, unhide HR2, unhide HG2⟩
end Go.Proofs.YtglphnmnnfpcoaaDoor
