/-
  FrameTorn: the walk.
-/
import Derived.Test.YtkcchadecnkgnaaPutsWalk
namespace Go.Proofs.Ytkcchadecnkgnaa
open Go.RowKit

/-- A sector of which the bytes from r on, below i, are 255. -/
def tornS (s : Sec) (r i : Nat) : Sec := (List.range 64).map fun j => if r ≤ j ∧ j < i then 255 else s.getD j 0
theorem tornS_len (s : Sec) (r i : Nat) : (tornS s r i).length = 64 := by simp [tornS]
theorem tornS_zero {s : Sec} (hs : s.length = 64) (r : Nat) : tornS s r 0 = s := by
  unfold tornS
  apply List.ext_getElem (by simp [hs])
  intro j h1 h2
  simp only [List.getElem_map, List.getElem_range]
  rw [if_neg (by omega), List.getD_eq_getElem?_getD, List.getElem?_eq_getElem h2]
  rfl
theorem tornS_put (s : Sec) {r i : Nat} (h : r ≤ i) : tornS s r (i + 1) = (tornS s r i).set i 255 := by
  unfold tornS
  apply List.ext_getElem (by simp)
  intro j h1 h2
  rw [List.getElem_set]
  simp only [List.getElem_map, List.getElem_range]
  by_cases hj : i = j
  · subst hj
    rw [if_pos (by omega), if_pos rfl]
  · rw [if_neg hj]
    by_cases hc : r ≤ j ∧ j < i
    · rw [if_pos (by omega), if_pos hc]
    · rw [if_neg (by omega), if_neg hc]
theorem tornS_keep (s : Sec) {r i : Nat} (h : ¬ r ≤ i) : tornS s r (i + 1) = tornS s r i := by
  unfold tornS
  apply List.map_congr_left
  intro j hj
  by_cases hc : r ≤ j ∧ j < i
  · rw [if_pos (by omega), if_pos hc]
  · rw [if_neg (by omega), if_neg hc]
theorem tornS_last (s : Sec) {r : Nat} (hr : r < 64) : (tornS s r 64).getD 63 1 ≠ 0 := by
  unfold tornS
  rw [List.getD_eq_getElem?_getD, List.getElem?_map, List.getElem?_range (by omega)]
  simp only [Option.map_some, Option.getD_some]
  rw [if_pos (by omega)]
  decide
theorem secsV_byte : ∀ {ss : List Sec}, (∀ s ∈ ss, s.length = 64) → ∀ (q r : Nat) (c : UInt8), q < ss.length → r < 64 → (secsV ss).set (q * 64 + r) (.int .u8 ((c.toNat : Nat) : Int)) = secsV (ss.set q ((ss.getD q []).set r c))
  | [], _, q, r, c, hq, _ => by simp at hq
  | x :: ss, h, 0, r, c, _, hr => by
    have hx : (bytesV x).length = 64 := by rw [bytesV_length]; exact h x (by simp)
    rw [List.set_cons_zero, secsV, secsV, Nat.zero_mul, Nat.zero_add, List.set_append_left _ _ (by omega), bytesV_set]
    rfl
  | x :: ss, h, q + 1, r, c, hq, hr => by
    have hx : (bytesV x).length = 64 := by rw [bytesV_length]; exact h x (by simp)
    rw [List.set_cons_succ, secsV, secsV, List.set_append_right _ _ (by omega), hx, show (q + 1) * 64 + r - 64 = q * 64 + r by omega, secsV_byte (fun s hs => h s (by simp [hs])) q r c (by simpa using hq) hr]
    rfl
/-- One byte of sectors that the call owns. -/
theorem SOwn.byte {B : Nat} {w : World} {g len cap : Nat} {ss : List Sec} (h : SOwn B w (.slice (some ⟨g, 0, none⟩) len cap) ss) {q r : Nat} (hq : q < ss.length) (hr : r < 64) (c : UInt8) :
    SOwn B (w.setCell ⟨g, q * 64 + r, none⟩ (.int .u8 ((c.toNat : Nat) : Int))) (.slice (some ⟨g, 0, none⟩) len cap) (ss.set q ((ss.getD q []).set r c)) ∧
      w.cell? ⟨g, q * 64 + r, none⟩ = some (.int .u8 ((((ss.getD q []).getD r 0).toNat : Nat) : Int)) ∧ w.frozen? ⟨g, q * 64 + r, none⟩ = false ∧ B ≤ g ∧ g < w.heap.size := by
  have hx : (ss.getD q []).length = 64 := h.2 _ (by
    rw [List.getD_eq_getElem?_getD, List.getElem?_eq_getElem hq]
    exact List.getElem_mem _)
  have hcells := h.1.cells (g := g) rfl
  rcases h.1.2 with ⟨e, _⟩ | ⟨g', cap', cur, e, hb, hh, hcap, hmax, hcur, htk⟩
  · cases e
  · cases e
    refine ⟨⟨⟨?_, .inr ⟨g, cap, cur.setIfInBounds (q * 64 + r) (.int .u8 ((c.toNat : Nat) : Int)), ?_, hb, heap_setCell_same w g _ cur 33 _ hh, ?_, hmax, by rw [Array.size_setIfInBounds]; exact hcur, ?_⟩⟩, ?_⟩, ?_, frozen_of_row w g _ cur 33 hh, hb, (Array.getElem?_eq_some_iff.1 hh).1⟩
    · rw [secsV_length (fun s hs => ?_)]
      rcases List.mem_or_eq_of_mem_set hs with h1 | h1
      · exact h.2 s h1
      · rw [h1, List.length_set]; exact hx
    · rw [List.length_set]
    · rw [List.length_set]; exact hcap
    · rw [Array.toList_setIfInBounds, List.length_set, List.take_set, htk, secsV_byte h.2 q r c hq hr]
    · intro s hs
      rcases List.mem_or_eq_of_mem_set hs with h1 | h1
      · exact h.2 s h1
      · rw [h1, List.length_set]; exact hx
    · have h1 := secsV_range h.2 hq r _ (bytesV_get (ss.getD q []) (i := r) (by omega))
      have h2 := hcells _ _ h1
      rwa [Addr.add_mid, Nat.zero_add] at h2
theorem xor_ne {x c : UInt8} (h : c ≠ 0) : x ^^^ c ≠ x := by
  intro e
  apply h
  have h2 : x ^^^ (x ^^^ c) = x ^^^ x := by rw [e]
  rwa [← UInt8.xor_assoc, UInt8.xor_self, UInt8.zero_xor] at h2
theorem set_getD {l : List Sec} {q : Nat} (h : q < l.length) (x : Sec) : (l.set q x).getD q [] = x := by
  rw [List.getD_eq_getElem?_getD, List.getElem?_set_self h]
  rfl
theorem set_id {l : List Sec} {q : Nat} (h : q < l.length) : l.set q (l.getD q []) = l := by
  rw [List.getD_eq_getElem?_getD, List.getElem?_eq_getElem h]
  simp

set_option maxRecDepth 100000 in
set_option maxHeartbeats 2000000 in
theorem frameTorn.main (s : Nat) (hs : s < 18446744073709551616) (v : Value) (b : List UInt8) (n : Nat) (c1 : UInt8) (hn : n < 9223372036854775808) (hn1 : 1 ≤ c1.toNat) (w : World) (hr : RowV w.heap.size w v b) (hb6 : b.length ≤ 600) :
    Calls Try.prog 6 #[.int .u64 (s : Int), v, .agg #[.int .i64 (n : Int), .int .i64 ((c1.toNat : Nat) : Int)]] w fun e w' => e = .returned (.bool true) ∧ Below w.heap.size w w' := by
  have HR := hide hr
  have H0 := hide (fun w => alive_walk w)
  obtain ⟨a, len, cap, rfl, q1, q2, q3, hrow⟩ := hr
  have hlen : b.length = len := hrow.1
  have h4000 : b.length ≤ 4000 := by omega
  have H1 := hide (fun w' (hb : Below w.heap.size w w') => put_sectors w.heap.size 1 s hs (.slice a len cap) b w' hb.size ((unhide HR).below hb))
  have HSZ := sizeF_one h4000
  have HS64 := sizeF_le (b.length : Int)
  have HL1 := putF_length h4000 1 s
  have HSEC := hide (putF_sec 1 s b)
  have HGT := hide (fun q (hq : q < (putF 1 s b).length) r (hr : r < 64) (hne : ¬ (q = 0 ∧ (r = 11 ∨ r = 12))) (c : UInt8) hc => getF_turned h4000 1 s hq hr hne (c := c) hc)
  have HGX := hide (fun q (hq : q < (putF 1 s b).length) (x : Sec) hx => getF_torn h4000 1 s hq (x := x) hx)
  generalize putF 1 s b = l at *
  obtain ⟨L, hLL⟩ : ∃ L, L = l.length := ⟨_, rfl⟩
  have hL64 : L ≤ 64 := by omega
  have hL1 : 1 ≤ L := by omega
  have HLL := hide hLL
  have HC0 : Hid (c1 ≠ 0) := hide (by
    intro e
    rw [e] at hn1
    have : (0 : UInt8).toNat = 0 := rfl
    omega)
  have hc8 := c1.toNat_lt
  obtain ⟨M, hM⟩ : ∃ M, M = 64 * L := ⟨_, rfl⟩
  obtain ⟨at_, hat⟩ : ∃ at_, at_ = n % M := ⟨_, rfl⟩
  have hMI : 64 * (L : Int) = (M : Int) := by omega
  have hM0 : ¬ (M : Int) = 0 := by omega
  have hatI : ((n : Nat) : Int).tmod (M : Int) = (at_ : Int) := by
    rw [Int.tmod_eq_emod_of_nonneg (by omega), hat]
    simp
  have hatM : at_ < M := by rw [hat]; exact Nat.mod_lt _ (by omega)
  obtain ⟨q, hq⟩ : ∃ q, q = at_ / 64 := ⟨_, rfl⟩
  obtain ⟨r, hrr⟩ : ∃ r, r = at_ % 64 := ⟨_, rfl⟩
  have hqL : q < L := by omega
  have hr64 : r < 64 := by omega
  have hat6 : at_ ≤ 1000000 := by omega
  have hatq : at_ = 64 * q + r := by omega
  have HQ := hide hq
  have HRR := hide hrr
  have HATQ := hide hatq
  have hqI : ((at_ : Nat) : Int) / 64 = (q : Int) := by omega
  have hrI : ((at_ : Nat) : Int).tmod 64 = (r : Int) := by rw [Int.tmod_eq_emod_of_nonneg (by omega)]; omega
  have hl600 : len ≤ 600 := by omega
  clear hrow hlen h4000 HSZ HS64 HL1 hLL hM hat hq hrr hatq hb6 hs
  go_enter Try.func6, Try.ntmps6
  go_wp2_with (refine wpList_box 37 _ [.int .i64 (n : Int), .int .i64 ((c1.toNat : Nat) : Int)] rfl rfl rfl ?_)
  intro w0 hA0 hb0 hs0
  have HA0 := hide hA0
  have Hb0 := hide hb0
  clear hA0 hb0
  obtain ⟨bn, hbn⟩ : ∃ bn, bn = w.heap.size := ⟨_, rfl⟩
  have HBN := hide hbn
  rw [← hbn] at HA0 ⊢
  have hbz : bn < w0.heap.size := by omega
  clear hbn
  go_wp2_with fail
  refine (unhide H0 w0).mono ?_
  rintro e w1 ⟨rfl, hb1⟩
  have Hb1 : Hid (Below w.heap.size w w1) := hide ((unhide Hb0).trans (hb1.mono (unhide Hb0).size))
  have HA1 := hide ((unhide HA0).below hb1)
  have hca := (unhide HA1).cell (i := 0) rfl
  have hcb := (unhide HA1).cell (i := 1) rfl
  have hz1 := hb1.size
  clear hb1 H0 HA0 Hb0
  go_wp2_with fail
  refine (unhide H1 w1 (unhide Hb1)).mono ?_
  rintro e w2 ⟨v2, rfl, hO2, hb2⟩
  have hO2' := hO2
  obtain ⟨a2, c2, rfl, g1, g2⟩ := owns_slice hO2'.1
  rw [← unhide HLL] at g1 ⊢
  have HO2 : Hid (SOwn w1.heap.size w2 (.slice a2 L c2) l) := hide (by rw [unhide HLL]; exact hO2)
  have HA2 := hide ((unhide HA1).below hb2)
  have Hb2 := hide ((unhide Hb1).trans (hb2.mono (unhide Hb1).size))
  have hca := (unhide HA2).cell (i := 0) rfl
  have HROW2 : Hid (SRow w2.heap.size w2 a2 L l) := hide (by
    obtain ⟨_, _, _, e, _, _, _, h⟩ := (unhide HO2).row
    cases e
    exact h)
  have hz2 := hb2.size
  have hbn2 : bn < w2.heap.size := by omega
  clear hO2 hO2' hb2 H1 Hb1 hcb HA1
  have hb3 : Below w2.heap.size w2 (w2.alloc (.cells #[] 33)) := (Below.refl _ _).alloc (Nat.le_refl _) _
  have HROW3 := hide ((unhide HROW2).below hb3)
  have HB3 := hide hb3
  clear hb3
  go_wp2_with (refine wpList_app24E rfl rfl rfl rfl rfl (unhide HROW3) (by omega) (by omega) ?_)
  intro v4 w4 hO4 hb4
  have HO4 : Hid (SOwn w2.heap.size w4 v4 l) := hide (hO4.lower (by simp))
  have HB4 : Hid (Below w2.heap.size w2 w4) := hide ((unhide HB3).trans (hb4.mono (by simp)))
  have hO41 := (unhide HO4).1
  rw [show l.length = (L - 1) + 1 by rw [← unhide HLL]; omega] at hO41
  obtain ⟨g4, c4, rfl⟩ := ownsRow_succ hO41
  rw [show L - 1 + 1 = L by omega] at HO4 ⊢
  have hql : q < l.length := by rw [← unhide HLL]; exact hqL
  obtain ⟨x1, x2, x3, x4, x5⟩ := SOwn.byte (unhide HO4) hql hr64 (((l.getD q []).getD r 0) ^^^ c1)
  have hca4 : w4.cell? ⟨bn, 1, none⟩ = some (.int .i64 ((c1.toNat : Nat) : Int)) := ((unhide HB4).cell (p := ⟨bn, 1, none⟩) hbn2).trans ((unhide HA2).cell (i := 1) rfl)
  have HT := hide x1
  have X2 := hide x2
  have X3 := hide x3
  have HCA4 := hide hca4
  obtain ⟨old, hold⟩ : ∃ old, old = (l.getD q []).getD r 0 := ⟨_, rfl⟩
  have HOLD := hide hold
  rw [← hold] at HT X2
  have hxne : old ^^^ c1 ≠ (l.getD q []).getD r 0 := by rw [← hold]; exact xor_ne (unhide HC0)
  have HXN := hide hxne
  have hgbn : g4 ≠ bn := by omega
  clear hO4 hb4 hO41 HROW3 HB3 x1 x2 x3 hca hca4 hold hxne HO4
  generalize hnw : old ^^^ c1 = nw at *
  have HNW := hide hnw
  clear hnw
  rw [← Nat.zero_add (q * 64)] at X2 X3 HT
  obtain ⟨W5, hW5⟩ : ∃ W5, W5 = w4.drew.setCell ⟨g4, 0 + q * 64 + r, none⟩ (.int .u8 ((nw.toNat : Nat) : Int)) := ⟨_, rfl⟩
  have HT5 : Hid (SOwn w2.heap.size W5 (.slice (some ⟨g4, 0, none⟩) L c4) (l.set q ((l.getD q []).set r nw))) := hide (by rw [hW5]; exact unhide HT)
  have HB5 : Hid (Below w2.heap.size w2 W5) := hide (by rw [hW5]; exact ((unhide HB4).drew).setCell (p := ⟨g4, 0 + q * 64 + r, none⟩) x4 _)
  have HW5 := hide hW5
  clear hW5 HT
  go_wp2_with fail
  refine Flow.wp_region (Flow.VV (fun j => match j with | 0 => .slice (some ⟨g4, 0, none⟩) L c4 | 1 => .int .i64 (at_ : Int) | 2 => .int .i64 (q : Int) | 3 => .int .i64 (at_ : Int) | 4 => .int .i64 (r : Int) | 5 => .pointer (some ⟨g4, 0 + q * 64, none⟩) | 6 => .pointer (some ⟨g4, 0 + q * 64 + r, none⟩) | 7 => .int .u8 ((old.toNat : Nat) : Int) | 8 => .pointer (some ⟨bn, 0 + 1, none⟩) | 9 => .int .i64 ((c1.toNat : Nat) : Int) | 10 => .int .u8 ((c1.toNat : Nat) : Int) | 11 => .int .u8 ((nw.toNat : Nat) : Int) | 12 => .pointer (some ⟨g4, 0 + q * 64, none⟩) | 13 => .pointer (some ⟨g4, 0 + q * 64 + r, none⟩) | 14 => undef | _ => undef)) (Flow.two 14 (fun _ w' => w' = w4.drew) (fun _ w' => w' = W5)) () (by kernel_rfl) (by kernel_rfl) (by unfold Flow.two; simp) ⟨?_, ?_, ?_, ?_, ?_, ?_, ?_, ?_, ?_, ?_, ?_, ?_, ?_, ?_, ?_, trivial⟩ ?_
  · exact Flow.move (Flow.goes_plain rfl) (Flow.two.upd (by decide)) (.inl rfl) fun a s w' hs hd => (hs 9 (by kernel_rfl))
  · exact Flow.move (Flow.goes_plain rfl) (Flow.two.upd (by decide)) (.inl rfl) fun a s w' hs hd => (hs 8 (by kernel_rfl))
  · exact Flow.pure (Flow.goes_plain rfl) (Flow.two.upd (by decide)) fun a L s w' hC hL hn hs hd => ⟨_, op_quo64 rfl (hd 1 53 (by kernel_rfl)) rfl (by omega) w', congrArg (fun z : Nat => Value.int .i64 ((z : Nat) : Int)) (show at_ / 64 = q from (unhide HQ).symm)⟩
  · exact Flow.move (Flow.goes_plain rfl) (Flow.two.upd (by decide)) (.inl rfl) fun a s w' hs hd => (hs 8 (by kernel_rfl))
  · exact Flow.pure (Flow.goes_plain rfl) (Flow.two.upd (by decide)) fun a L s w' hC hL hn hs hd => ⟨_, op_rem64 rfl (hd 3 55 (by kernel_rfl)) rfl (by omega) w', congrArg (fun z : Nat => Value.int .i64 ((z : Nat) : Int)) (show at_ % 64 = r from (unhide HRR).symm)⟩
  · exact Flow.pure (Flow.goes_plain rfl) (Flow.two.upd (by decide)) fun a L s w' hC hL hn hs hd => ⟨_, op_idx24 rfl (hd 0 52 (by kernel_rfl)) (hd 2 54 (by kernel_rfl)) hqL w', rfl⟩
  · exact Flow.pure (Flow.goes_plain rfl) (Flow.two.upd (by decide)) fun a L s w' hC hL hn hs hd => ⟨_, op_idx33 rfl (hd 5 57 (by kernel_rfl)) (hd 4 56 (by kernel_rfl)) hr64 w', rfl⟩
  · refine Flow.pure (Flow.goes_plain rfl) (Flow.two.upd (by decide)) fun a L s w' hC hL hn hs hd => ?_
    have hA := hC.pre (hn.after 14 (by kernel_rfl))
    exact ⟨_, op_load5 rfl (hd 6 58 (by kernel_rfl)) (by rw [hA]; exact unhide X2), rfl⟩
  · exact Flow.pure (Flow.goes_plain rfl) (Flow.two.upd (by decide)) fun a L s w' hC hL hn hs hd => ⟨_, op_idx37 (k := 1) rfl (hs 5 (by kernel_rfl)) rfl (by omega) w', rfl⟩
  · refine Flow.pure (Flow.goes_plain rfl) (Flow.two.upd (by decide)) fun a L s w' hC hL hn hs hd => ?_
    have hA := hC.pre (hn.after 14 (by kernel_rfl))
    exact ⟨_, op_load3 rfl (hd 8 60 (by kernel_rfl)) (by rw [hA]; exact unhide HCA4), rfl⟩
  · exact Flow.pure (Flow.goes_plain rfl) (Flow.two.upd (by decide)) fun a L s w' hC hL hn hs hd => ⟨_, op_conv3_5 rfl (hd 9 61 (by kernel_rfl)) hc8 w', rfl⟩
  · exact Flow.pure (Flow.goes_plain rfl) (Flow.two.upd (by decide)) fun a L s w' hC hL hn hs hd => ⟨_, op_xor5 rfl (hd 7 59 (by kernel_rfl)) (hd 10 62 (by kernel_rfl)) w', congrArg (fun z : UInt8 => Value.int .u8 ((z.toNat : Nat) : Int)) (unhide HNW)⟩
  · exact Flow.pure (Flow.goes_plain rfl) (Flow.two.upd (by decide)) fun a L s w' hC hL hn hs hd => ⟨_, op_idx24 rfl (hd 0 52 (by kernel_rfl)) (hd 2 54 (by kernel_rfl)) hqL w', rfl⟩
  · exact Flow.pure (Flow.goes_plain rfl) (Flow.two.upd (by decide)) fun a L s w' hC hL hn hs hd => ⟨_, op_idx33 rfl (hd 12 64 (by kernel_rfl)) (hd 4 56 (by kernel_rfl)) hr64 w', rfl⟩
  · refine Flow.store (Flow.goes_plain rfl) fun a L s0 w' hC hL hn hs hd => ?_
    have hA := hC.pre hL
    exact ⟨(), _, op_store5 rfl (hd 13 65 (by kernel_rfl)) (hd 11 63 (by kernel_rfl)) (by rw [hA]; exact unhide X2) (by rw [hA]; exact unhide X3), fun _ _ _ h => h, Flow.two.post (by rw [hA, unhide HW5]), rfl⟩
  · intro Ld _ w5 hC hL vals hv
    have hA := hC.end (hL 14 (by decide))
    subst w5
    simp only [Free.putAll, Act.put, List.setIfInBounds_toArray, List.set_cons_succ, List.set_cons_zero]
    clear hC hL hv
    generalize vals 0 = t0 at *
    generalize vals 1 = t1 at *
    generalize vals 2 = t2 at *
    generalize vals 3 = t3 at *
    generalize vals 4 = t4 at *
    generalize vals 5 = t5 at *
    generalize vals 6 = t6 at *
    generalize vals 7 = t7 at *
    generalize vals 8 = t8 at *
    generalize vals 9 = t9 at *
    generalize vals 10 = t10 at *
    generalize vals 11 = t11 at *
    generalize vals 12 = t12 at *
    generalize vals 13 = t13 at *
    have HROW5 := hide ((unhide HROW2).below (unhide HB5))
    have hb6 : Below W5.heap.size W5 (W5.alloc (.cells #[] 33)) := (Below.refl _ _).alloc (Nat.le_refl _) _
    have hz5 := (unhide HB5).size
    have HROW6 := hide ((unhide HROW5).below (hb6.mono hz5))
    have HB6 := hide hb6
    clear hb6 HROW2 X2 X3 HCA4
    go_wp2_with (refine wpList_app24E rfl rfl rfl rfl rfl (unhide HROW6) (by omega) (by omega) ?_)
    intro v7 w7 hO7 hb7
    have HO7 : Hid (SOwn W5.heap.size w7 v7 l) := hide (hO7.lower (by simp))
    have HB7 : Hid (Below W5.heap.size W5 w7) := hide ((unhide HB6).trans (hb7.mono (by simp)))
    have hO71 := (unhide HO7).1
    rw [show l.length = (L - 1) + 1 by rw [← unhide HLL]; omega] at hO71
    obtain ⟨g7, c7, rfl⟩ := ownsRow_succ hO71
    rw [show L - 1 + 1 = L by omega] at HO7 ⊢
    have HS64 : Hid ((l.getD q []).length = 64) := hide (unhide HSEC _ (by
      rw [List.getD_eq_getElem?_getD, List.getElem?_eq_getElem hql]
      exact List.getElem_mem _))
    have HO7t : Hid (SOwn W5.heap.size w7 (.slice (some ⟨g7, 0, none⟩) L c7) (l.set q (tornS (l.getD q []) r 0))) := hide (by
      rw [tornS_zero (unhide HS64), set_id hql]
      exact unhide HO7)
    clear hO7 hb7 hO71 HROW6 HB6 HO7
    go_wp2_with fail
    go_loopw [69] (fun ci wr => ∃ i : Nat, i ≤ 64 ∧ ci = .int .i64 (i : Int) ∧ SOwn W5.heap.size wr (.slice (some ⟨g7, 0, none⟩) L c7) (l.set q (tornS (l.getD q []) r i)) ∧ Below W5.heap.size W5 wr) (fun ci _ => 64 - (intOf ci).toNat)
    case atStart => exact ⟨0, by omega, rfl, unhide HO7t, unhide HB7⟩
    case round =>
      obtain ⟨i, hi, rfl, hO, hb⟩ := hrel
      by_cases hlt : i < 64
      · have HO := hide hO
        have Hb := hide hb
        by_cases hri : r ≤ i
        · have HTP := hide (tornS_put (l.getD q []) hri)
          obtain ⟨y1, y2, y3, y4, y5⟩ := SOwn.byte hO (q := q) (r := i) (by rw [List.length_set]; exact hql) hlt 255
          rw [set_getD hql, List.set_set, ← unhide HTP] at y1
          have HY1 := hide y1
          have Hb2 : Hid (Below W5.heap.size W5 (wr.setCell ⟨g7, q * 64 + i, none⟩ (.int .u8 255))) := hide (hb.setCell (p := ⟨g7, q * 64 + i, none⟩) y4 _)
          generalize ((l.set q (tornS (l.getD q []) r i)).getD q []).getD i 0 = ov at *
          clear y1 hO hb HO Hb HTP
          go_wp2
          go_roundw
          case rel => exact ⟨i + 1, by omega, by go_num, unhide HY1, unhide Hb2⟩
          case measure => simp [intOf]; omega
        · have HTP := hide (tornS_keep (l.getD q []) hri)
          clear hO hb
          go_wp2
          go_roundw
          case rel => exact ⟨i + 1, by omega, by go_num, by rw [unhide HTP]; exact unhide HO, unhide Hb⟩
          case measure => simp [intOf]; omega
      · obtain rfl : i = 64 := by omega
        have HGX1 := hide (unhide HGX q hql (tornS (l.getD q []) r 64) (tornS_last _ hr64))
        have HRT := hide hO.row
        have HRU := hide ((((unhide HT5).row).below hb).up hb.size)
        have Hb := hide hb
        have HBW := hide ((unhide Hb2).trans (((unhide HB5).trans (hb.mono (unhide HB5).size)).mono (unhide Hb2).size))
        have H13 := hide (get_walk wr.heap.size (.slice (some ⟨g4, 0, none⟩) L c4) _ wr (Nat.le_refl _) (unhide HRU))
        have HGU : Hid (getF (l.set q ((l.getD q []).set r nw)) = noF ∨ (q = 0 ∧ (r = 11 ∨ r = 12))) := hide (by
          by_cases h : q = 0 ∧ (r = 11 ∨ r = 12)
          · exact .inr h
          · exact .inl (unhide HGT q hql r hr64 h nw (unhide HXN)))
        generalize getF (l.set q ((l.getD q []).set r nw)) = g at *
        obtain ⟨k9, s9, b9, n9⟩ := g
        clear hO hb HO7t HT5 HB7 HB5 HRU HGX HGT HROW5
        go_wp2_with fail
        refine (unhide H13).mono ?_
        rintro e w13 ⟨⟨v13, rfl, hR13⟩, hb13⟩
        have HB13 := hide ((unhide HBW).trans (hb13.mono (unhide HBW).size))
        have H14 := hide (get_walk w13.heap.size (.slice (some ⟨g7, 0, none⟩) L c7) _ w13 (Nat.le_refl _) (((unhide HRT).below hb13).up hb13.size))
        rw [unhide HGX1] at H14
        clear hR13 hb13 H13 HBW HRT
        simp only
        go_wp2_with fail
        refine (unhide H14).mono ?_
        rintro e w14 ⟨⟨v14, rfl, hR14⟩, hb14⟩
        have HB14 := hide ((unhide HB13).trans (hb14.mono (unhide HB13).size))
        obtain ⟨a14, l14, c14, rfl, _, _, _, hr14⟩ := hR14
        obtain rfl : l14 = 0 := hr14.1.symm
        clear hb14 hr14 H14 HB13
        have hg := unhide HGU
        have hq7 := unhide HATQ
        clear hatI hqI hrI hatM HQ HRR HATQ HGU
        rcases hg with hg | ⟨h0, h11 | h12⟩
        · have h9 : n9 = 0 := by
            have := congrArg (fun x => x.2.2.2) hg
            exact this
          subst h9
          clear hg hq7
          go_wp2_with fail
          go_ret
          exact ⟨rfl, unhide HB14⟩
        · obtain rfl : at_ = 11 := by omega
          clear hq7 h0 h11
          by_cases h9 : (n9 : Int) = 0
          · go_wp2_with fail
            go_ret
            exact ⟨rfl, unhide HB14⟩
          · go_wp2_with fail
            go_ret
            exact ⟨rfl, unhide HB14⟩
        · obtain rfl : at_ = 12 := by omega
          clear hq7 h0 h12
          by_cases h9 : (n9 : Int) = 0
          · go_wp2_with fail
            go_ret
            exact ⟨rfl, unhide HB14⟩
          · go_wp2_with fail
            go_ret
            exact ⟨rfl, unhide HB14⟩
end Go.Proofs.Ytkcchadecnkgnaa
