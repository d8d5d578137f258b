/-
  What a Reader's Err and Left, and the document's Fixed and Raw answer.
-/
import Derived.Test.YtdfdalkcljfghaaGreatCReader
import Derived.Test.YtdfdalkcljfghaaGreatFlow
namespace Go.Proofs.YtdfdalkcljfghaaGreat
open Go.RowKit

set_option maxHeartbeats 800000 in
set_option maxRecDepth 100000 in
theorem rerr_walk (N r : Nat) (l : List UInt8) (e : Int) (w : World) (h : Rd N w r l e) :
    Calls Tryz.prog 120 #[.pointer (some ⟨r, 0, none⟩)] w fun z w' => z = .returned (.int .i64 e) ∧ w' = w := by
  obtain ⟨h1, v, ha, hr⟩ := h
  have hc1 := ha.cell (i := 1) rfl
  clear ha hr
  go_enter Tryz.func120, Tryz.ntmps120
  go_wp2
  go_ret
  exact ⟨rfl, rfl⟩

set_option maxHeartbeats 400000 in
set_option maxRecDepth 100000 in
theorem size5_walk (m : Int) (w : World) : Calls Tryz.prog 97 #[.int .i64 m] w fun e w' => e = .returned (.int .i64 (sizeN m : Int)) ∧ w' = w := by
  unfold sizeN
  by_cases h0 : m < 0
  · rw [if_pos h0]
    go_enter Tryz.func97, Tryz.ntmps97
    go_wp2
    go_ret
    exact ⟨rfl, rfl⟩
  · rw [if_neg h0]
    by_cases h8 : 8 < m
    · rw [if_pos h8]
      go_enter Tryz.func97, Tryz.ntmps97
      go_wp2
      go_ret
      exact ⟨rfl, rfl⟩
    · rw [if_neg h8]
      have e : ((m.toNat : Nat) : Int) = m := by omega
      rw [e]
      clear e
      go_enter Tryz.func97, Tryz.ntmps97
      go_wp2
      go_ret
      exact ⟨rfl, rfl⟩

set_option maxHeartbeats 1600000 in
set_option maxRecDepth 100000 in
theorem rfix_walk (n : Nat) (hn : n < 18446744073709551616) (m : Int) (w : World) :
    Calls Tryz.prog 65 #[.int .u64 (n : Int), .int .i64 m] w fun e w' => ∃ v', e = .returned v' ∧ Own w.heap.size w' v' (fixedL n (sizeN m)) ∧ Below w.heap.size w w' := by
  have hs8 := sizeN_le m
  have HC := hide (fun w => size5_walk m w)
  have hb0 : Below w.heap.size w (w.alloc (.cells #[] 5)) := (Below.refl _ _).alloc (Nat.le_refl _) _
  have HE := hide (Own.empty w)
  generalize sizeN m = q at *
  go_enter Tryz.func65, Tryz.ntmps65
  go_wp2_with fail
  go_loopw [0, 5, 6] (fun cn cr ci wr => ∃ k : Nat, k ≤ q ∧ ci = .int .i64 (k : Int) ∧ cn = .int .u64 ((n / 256 ^ k : Nat) : Int) ∧ Own w.heap.size wr cr (fixedL n k) ∧ Below w.heap.size w wr) (fun _ _ ci _ => q - (intOf ci).toNat)
  case atStart => exact ⟨0, by omega, rfl, by simp, by simpa [fixedL] using unhide HE, hb0⟩
  case round =>
    obtain ⟨k, hk, rfl, rfl, hO, hb⟩ := hrel
    have HOk := hide hO
    clear hO
    by_cases hlt : k < q
    · have hst := fixedL_snoc k n
      have hlen := fixedL_length k n
      have hd : n / 256 ^ (k + 1) = n / 256 ^ k / 256 := by rw [pow_split, Nat.div_div_eq_div_mul]
      have hle : n / 256 ^ k ≤ n := Nat.div_le_self _ _
      have HST := hide hst
      have HD := hide hd
      have HL := hide hlen
      clear hst hd hlen
      generalize n / 256 ^ k = p at *
      go_wp2_with fail
      refine (unhide HC wr).mono ?_
      rintro e w1 ⟨rfl, hw1⟩
      subst w1
      go_wp2_with (refine wpList_app rfl _ _ rfl w.heap.size _ (fixedL n k) rfl ((unhide HOk).keep fun k hk => Below.heap_alloc _ _ _ hk) ⟨_, 0, none⟩ 1 1 rfl [UInt8.ofNat p] rfl ?_ ?_ ?_ ?_)
      · intro j hj
        obtain rfl : j = 0 := by omega
        rw [Addr.add_lit, cell_fresh]
        simp
      · rw [unhide HL]; simp; omega
      · have := hb.size; simp; omega
      · intro v' w' hO' hG
        have hb' := hb.trans (((Below.refl w.heap.size wr).alloc hb.size _).trans (((unhide HOk).keep fun k hk => Below.heap_alloc _ _ _ hk).below hG (by have := hb.size; simp; omega)))
        have HO' := hide hO'
        clear hO' hG
        go_wp2
        go_roundw
        case rel =>
          refine ⟨k + 1, by omega, by go_num, ?_, ?_, hb'⟩
          · rw [unhide HD]; simp
          · rw [unhide HST]; exact unhide HO'
        case measure => simp [intOf]; omega
    · obtain rfl : k = q := by omega
      go_wp2_with fail
      refine (unhide HC wr).mono ?_
      rintro e w1 ⟨rfl, hw1⟩
      subst w1
      go_wp2
      go_ret
      exact ⟨_, rfl, unhide HOk, hb⟩

set_option maxHeartbeats 1600000 in
set_option maxRecDepth 100000 in
theorem refraw_walk (N r : Nat) (m : Int) (hm1 : -9223372036854775808 ≤ m) (hm2 : m ≤ 9223372036854775807) (l : List UInt8) (e : Int) (w : World) (h : Rd N w r l e) :
    Calls Tryz.prog 98 #[.pointer (some ⟨r, 0, none⟩), .int .i64 m] w fun z w' => ∃ v, z = .returned v ∧ (Own w.heap.size w' v (rawL l e m).1 ∧ Shows (rawL l e m).1 v w') ∧ Rd N w' r (rawL l e m).2.1 (rawL l e m).2.2 ∧ w.grownBy w' (some r) := by
  unfold rawL
  have hsz := h.size
  have hrlt := h.lt
  obtain ⟨h1, v, ha, hr⟩ := h
  have hrv := hr
  obtain ⟨a, len, cap, rfl, q1, q2, q3, hrow⟩ := hr
  have hc0 := ha.cell (i := 0) rfl
  have hc1 := ha.cell (i := 1) rfl
  have hf0 := ha.free 0
  have hf1 := ha.free 1
  have hll := hrow.1
  have hl2 := hrow.2.1
  by_cases he : e = 0
  · rw [if_pos he]
    subst he
    by_cases hlt : l.length < m.toNat
    · rw [takeL_short hlt]
      have hmn : (len : Int) < m := by omega
      have hm0 : ¬ m < 0 := by omega
      have ha2 := ha.set 1 (.int .i64 51)
      have hc02 := ha2.cell (i := 0) rfl
      have hc12 := ha2.cell (i := 1) rfl
      have hf02 := ha2.free 0
      have HA3 := hide (ha2.set 0 (.slice none 0 0))
      clear ha ha2 hrow hrv hlt hll
      go_enter Tryz.func98, Tryz.ntmps98
      go_wp2_with fail
      go_ret
      exact ⟨_, rfl, ⟨Own.nil _ _, RowV.nil _ _⟩, ⟨h1, _, unhide HA3, RowV.nil _ _⟩, grown_two (set_grown _ _ _ _) (set_grown _ _ _ _)⟩
    · rw [takeL_long hlt]
      rw [hll] at hlt
      have hkl : m.toNat ≤ len := by omega
      have HT := hide (hrow.take m.toNat hkl)
      have HD := hide (hrow.drop q1 m.toNat hkl)
      have HSET := hide (fun v => ha.set 0 v)
      have HE := hide (Own.empty w)
      have HA := hide ha
      have bel : Below w.heap.size w (w.alloc (.cells #[] 5)) := (Below.refl _ _).alloc (Nat.le_refl _) _
      have HB := hide bel
      have hc0a : (w.alloc (.cells #[] 5)).cell? ⟨r, 0, none⟩ = some (.slice a len cap) := (ha.alloc _).cell (i := 0) rfl
      clear ha hrow bel hll
      by_cases hm0 : m < 0
      · have e0 : m.toNat = 0 := by omega
        rw [e0] at HT HD hkl ⊢
        clear e0 hlt
        have HRT : Hid (RowV N (w.alloc (.cells #[] 5)) (.slice a 0 cap) (l.take 0)) := hide ⟨a, 0, cap, rfl, by omega, q2, q3, (unhide HT).below ((unhide HB).mono hsz)⟩
        go_enter Tryz.func98, Tryz.ntmps98
        go_wp2_with (refine wpList_appRow rfl _ _ rfl w.heap.size N _ [] rfl (unhide HE) _ rfl (l.take 0) (unhide HRT) ?_ ?_ ?_)
        · simp
        · simp
        intro v3 w3 hO3 hG3
        have hb3 := (unhide HB).trans ((unhide HE).below hG3 (by simp))
        have ha3 := (unhide HA).below hb3
        have hc03 := ha3.cell (i := 0) rfl
        have hf03 := ha3.free 0
        have HSET3 := hide (fun v => ha3.set 0 v)
        have HO3 := hide hO3
        have Hb3 := hide hb3
        have hw3 := hb3.size
        clear hO3 hG3 hb3 ha3 hc0 hc1 hf0 hf1 hc0a
        by_cases hcap : cap = 0
        · subst hcap
          go_wp2_with fail
          go_ret
          have bel3 : ∀ u, Below N w (w3.setCell ⟨r, 0, none⟩ u) := fun u => ((unhide Hb3).mono hsz).setCell (by simpa using h1) u
          have hg : ∀ u, w.grownBy (w3.setCell ⟨r, 0, none⟩ u) (some r) := fun u => grown_two ⟨(unhide Hb3).os, (unhide Hb3).tape, (unhide Hb3).output, hw3, fun k hk _ => (unhide Hb3).block k hk⟩ (set_grown w3 r 0 u)
          have hOo := fun u => (unhide HO3).other (set_grown w3 r 0 u) hrlt
          refine ⟨_, rfl, ⟨hOo _, (hOo _).row (by simp; try omega)⟩, ⟨h1, _, unhide HSET3 _, ?_⟩, hg _⟩
          exact ⟨a, 0, 0, rfl, Nat.le_refl _, Nat.zero_le _, fun _ => rfl, by have hd := unhide HD a (.inl (by first | rfl | trivial)); rw [show len - 0 = 0 by omega] at hd; exact hd.below (bel3 _)⟩
        · skip
          go_wp2_with fail
          go_ret
          have bel3 : ∀ u, Below N w (w3.setCell ⟨r, 0, none⟩ u) := fun u => ((unhide Hb3).mono hsz).setCell (by simpa using h1) u
          have hg : ∀ u, w.grownBy (w3.setCell ⟨r, 0, none⟩ u) (some r) := fun u => grown_two ⟨(unhide Hb3).os, (unhide Hb3).tape, (unhide Hb3).output, hw3, fun k hk _ => (unhide Hb3).block k hk⟩ (set_grown w3 r 0 u)
          have hOo := fun u => (unhide HO3).other (set_grown w3 r 0 u) hrlt
          refine ⟨_, rfl, ⟨hOo _, (hOo _).row (by simp; try omega)⟩, ⟨h1, _, unhide HSET3 _, ?_⟩, hg _⟩
          exact hrv.below (bel3 _)
      · obtain ⟨k, rfl⟩ : ∃ k : Nat, m = (k : Int) := ⟨m.toNat, by omega⟩
        rw [show ((k : Int)).toNat = k by omega] at HT HD hkl ⊢
        clear hlt
        have HRT : Hid (RowV N (w.alloc (.cells #[] 5)) (.slice a k cap) (l.take k)) := hide ⟨a, k, cap, rfl, by omega, q2, q3, (unhide HT).below ((unhide HB).mono hsz)⟩
        go_enter Tryz.func98, Tryz.ntmps98
        go_wp2_with (refine wpList_appRow rfl _ _ rfl w.heap.size N _ [] rfl (unhide HE) _ rfl (l.take k) (unhide HRT) ?_ ?_ ?_)
        · omega
        intro v3 w3 hO3 hG3
        have hb3 := (unhide HB).trans ((unhide HE).below hG3 (by simp))
        have ha3 := (unhide HA).below hb3
        have hc03 := ha3.cell (i := 0) rfl
        have hf03 := ha3.free 0
        have HSET3 := hide (fun v => ha3.set 0 v)
        have HO3 := hide hO3
        have Hb3 := hide hb3
        have hw3 := hb3.size
        clear hO3 hG3 hb3 ha3 hc0 hc1 hf0 hf1 hc0a
        by_cases hcap : cap = k
        · subst hcap
          go_wp2_with fail
          go_ret
          have bel3 : ∀ u, Below N w (w3.setCell ⟨r, 0, none⟩ u) := fun u => ((unhide Hb3).mono hsz).setCell (by simpa using h1) u
          have hg : ∀ u, w.grownBy (w3.setCell ⟨r, 0, none⟩ u) (some r) := fun u => grown_two ⟨(unhide Hb3).os, (unhide Hb3).tape, (unhide Hb3).output, hw3, fun k hk _ => (unhide Hb3).block k hk⟩ (set_grown w3 r 0 u)
          have hOo := fun u => (unhide HO3).other (set_grown w3 r 0 u) hrlt
          refine ⟨_, rfl, ⟨hOo _, (hOo _).row (by simp; try omega)⟩, ⟨h1, _, unhide HSET3 _, ?_⟩, hg _⟩
          exact ⟨a, 0, 0, rfl, Nat.le_refl _, Nat.zero_le _, fun _ => rfl, by have hd := unhide HD a (.inl (by first | rfl | trivial)); rw [show len - cap = 0 by omega] at hd; exact hd.below (bel3 _)⟩
        · skip
          go_wp2_with fail
          go_ret
          have bel3 : ∀ u, Below N w (w3.setCell ⟨r, 0, none⟩ u) := fun u => ((unhide Hb3).mono hsz).setCell (by simpa using h1) u
          have hg : ∀ u, w.grownBy (w3.setCell ⟨r, 0, none⟩ u) (some r) := fun u => grown_two ⟨(unhide Hb3).os, (unhide Hb3).tape, (unhide Hb3).output, hw3, fun k hk _ => (unhide Hb3).block k hk⟩ (set_grown w3 r 0 u)
          have hOo := fun u => (unhide HO3).other (set_grown w3 r 0 u) hrlt
          refine ⟨_, rfl, ⟨hOo _, (hOo _).row (by simp; try omega)⟩, ⟨h1, _, unhide HSET3 _, ?_⟩, hg _⟩
          have hd := unhide HD _ (.inr rfl)
          refine ⟨_, _, _, rfl, by omega, by omega, fun hz => ?_, hd.below (bel3 _)⟩
          have := q3 (by simpa using hz)
          omega
  · rw [if_neg he]
    have HA3 := hide (ha.set 0 (.slice none 0 0))
    clear ha hrow hrv
    by_cases hm0 : m < 0
    all_goals
      go_enter Tryz.func98, Tryz.ntmps98
      go_wp2_with fail
      go_ret
      exact ⟨_, rfl, ⟨Own.nil _ _, RowV.nil _ _⟩, ⟨h1, _, unhide HA3, RowV.nil _ _⟩, set_grown _ _ _ _⟩

end Go.Proofs.YtdfdalkcljfghaaGreat
