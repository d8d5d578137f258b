
/-
  What a Reader's calls answer, and what is left in it.
-/
import Derived.Test.YtglphnmnnfpcoaaDoorCPut
namespace Go.Proofs.YtglphnmnnfpcoaaDoor
open Go.RowKit

/-- Block r is a reader (or the document's own) with these bytes left, below block N, and this error. -/
def Rd (N : Nat) (w : World) (r : Nat) (l : List UInt8) (e : Int) : Prop := N ≤ r ∧ ∃ v, Arr w r [v, .int .i64 e] ∧ RowV N w v l

theorem Rd.lt {N : Nat} {w : World} {r : Nat} {l : List UInt8} {e : Int} (h : Rd N w r l e) : r < w.heap.size := by
  obtain ⟨_, v, ha, _⟩ := h
  exact ha.lt
theorem Rd.size {N : Nat} {w : World} {r : Nat} {l : List UInt8} {e : Int} (h : Rd N w r l e) : N ≤ w.heap.size := by
  have := h.lt
  have := h.1
  omega
theorem Rd.below {N : Nat} {w w' : World} {r : Nat} {l : List UInt8} {e : Int} (h : Rd N w r l e) (hb : Below w.heap.size w w') : Rd N w' r l e := by
  have := h.size
  obtain ⟨h1, v, ha, hr⟩ := h
  exact ⟨h1, v, ha.below hb, hr.below (hb.mono this)⟩
theorem Rd.other {N : Nat} {w w' : World} {r q : Nat} {l : List UInt8} {e : Int} (h : Rd N w r l e) (hg : w.grownBy w' (some q)) (hne : r ≠ q) (hq : N ≤ q) : Rd N w' r l e := by
  have := h.size
  obtain ⟨h1, v, ha, hr⟩ := h
  exact ⟨h1, v, ha.grown hg (by simpa using hne), hr.below ((Below.refl _ _).grown hg this (fun k hk => by cases hk; exact hq))⟩
/-- What turned at r alone turned nothing below. -/
theorem Rd.still {N : Nat} {w w' : World} {r : Nat} {l : List UInt8} {e : Int} (h : Rd N w r l e) (hg : w.grownBy w' (some r)) : Below N w w' :=
  (Below.refl _ _).grown hg h.size (fun k hk => by cases hk; exact h.1)

theorem set_grown (w : World) (r i : Nat) (v : Value) : w.grownBy (w.setCell ⟨r, i, none⟩ v) (some r) :=
  ⟨rfl, rfl, rfl, by simp [World.setCell], fun k _ hne => Below.heap_setCell _ _ _ _ (fun e => hne (by rw [e]))⟩
theorem grown_two {w w1 w2 : World} {row : Option Nat} (h : w.grownBy w1 row) (k : w1.grownBy w2 row) : w.grownBy w2 row :=
  ⟨k.os.trans h.os, k.tape.trans h.tape, k.output.trans h.output, Nat.le_trans h.size k.size, fun i hi hne => by
    rw [k.block i (Nat.lt_of_lt_of_le hi h.size) hne, h.block i hi hne]⟩
theorem grown_below {w w1 w2 : World} {row : Option Nat} (h : w.grownBy w1 row) (k : Below w1.heap.size w1 w2) : w.grownBy w2 row :=
  ⟨k.os.trans h.os, k.tape.trans h.tape, k.output.trans h.output, Nat.le_trans h.size k.size, fun i hi hne => by
    rw [k.block i (Nat.lt_of_lt_of_le hi h.size), h.block i hi hne]⟩

set_option maxHeartbeats 800000 in
set_option maxRecDepth 100000 in
theorem new_arr (a : Option Addr) (len cap : Nat) (w : World) :
    Calls Tryd.prog 22 #[.slice a len cap] w fun e w' => e = .returned (.pointer (some ⟨w.heap.size, 0, none⟩)) ∧ Arr w' w.heap.size [.slice a len cap, .int .i64 0] ∧ Below w.heap.size w w' := by
  go_enter Tryd.func22, Tryd.ntmps22
  go_wp2
  go_ret
  exact ⟨rfl, ⟨_, _, heap_alloc_new w _, rfl⟩, (Below.refl _ _).alloc (Nat.le_refl _) _⟩
theorem new_walk (N : Nat) (v : Value) (l : List UInt8) (w : World) (hN : N ≤ w.heap.size) (hr : RowV N w v l) :
    Calls Tryd.prog 22 #[v] w fun e w' => e = .returned (.pointer (some ⟨w.heap.size, 0, none⟩)) ∧ Rd N w' w.heap.size l 0 ∧ Below w.heap.size w w' := by
  have hr2 := hr
  obtain ⟨a, len, cap, rfl, _⟩ := hr
  refine (new_arr a len cap w).mono ?_
  rintro e w' ⟨rfl, hA, hb⟩
  exact ⟨rfl, ⟨hN, _, hA, hr2.below (hb.mono hN)⟩, hb⟩

set_option maxHeartbeats 800000 in
set_option maxRecDepth 100000 in
theorem fail_walk (N r : Nat) (l : List UInt8) (e x : Int) (w : World) (h : Rd N w r l e) :
    Calls Tryd.prog 77 #[.pointer (some ⟨r, 0, none⟩), .int .i64 x] w fun z w' => z = .returned (.tuple #[]) ∧ Rd N w' r [] (failL e x) ∧ w.grownBy w' (some r) := by
  obtain ⟨h1, v, ha, hr⟩ := h
  have hc1 := ha.cell (i := 1) rfl
  have hc0 := ha.cell (i := 0) rfl
  have hf0 := ha.free 0
  have hf1 := ha.free 1
  have HA := hide ha
  by_cases he : e = 0
  · subst he
    have ha2 := ha.set 1 (.int .i64 x)
    have hc02 := ha2.cell (i := 0) rfl
    have hf02 := ha2.free 0
    have ha3 := ha2.set 0 (.slice none 0 0)
    have HA3 := hide ha3
    clear ha ha2 ha3 HA
    go_enter Tryd.func77, Tryd.ntmps77
    go_wp2
    refine ⟨rfl, .tuple #[], by simp [results, Tryd.results77], ?_⟩
    exact ⟨rfl, ⟨h1, _, unhide HA3, RowV.nil _ _⟩, grown_two (set_grown _ _ _ _) (set_grown _ _ _ _)⟩
  · have ha3 := ha.set 0 (.slice none 0 0)
    have HA3 := hide ha3
    have HE : Hid (failL e x = e) := hide (by unfold failL; rw [if_neg he])
    clear ha ha3 HA
    go_enter Tryd.func77, Tryd.ntmps77
    go_wp2
    refine ⟨rfl, .tuple #[], by simp [results, Tryd.results77], ?_⟩
    rw [unhide HE]
    exact ⟨rfl, ⟨h1, _, unhide HA3, RowV.nil _ _⟩, set_grown _ _ _ _⟩

theorem Row.take {N : Nat} {w : World} {a : Option Addr} {len : Nat} {bs : List UInt8} (h : Row N w a len bs) (n : Nat) (hn : n ≤ len) : Row N w a n (bs.take n) :=
  ⟨by have := h.1; simp; omega, by have := h.2.1; omega, fun i hi => by
    obtain ⟨b, off, ha, hl, hc⟩ := h.2.2 i (by omega)
    refine ⟨b, off, ha, hl, ?_⟩
    rw [List.getD_eq_getElem?_getD, List.getElem?_take_of_lt hi, ← List.getD_eq_getElem?_getD]
    exact hc⟩
theorem Row.drop {N : Nat} {w : World} {a : Option Addr} {len cap : Nat} {bs : List UInt8} (h : Row N w a len bs) (hc : len ≤ cap) (n : Nat) (hn : n ≤ len) (a2 : Option Addr) (ha : cap = n ∨ a2 = a.map fun x => x.add n) : Row N w a2 (len - n) (bs.drop n) := by
  refine ⟨by have := h.1; simp; omega, by have := h.2.1; omega, fun i hi => ?_⟩
  rcases ha with ha | ha
  · omega
  · obtain ⟨b, off, e, hl, hcell⟩ := h.2.2 (n + i) (by omega)
    refine ⟨b, off + n, by rw [ha, e]; simp [Addr.add_mid], hl, ?_⟩
    rw [List.getD_eq_getElem?_getD, List.getElem?_drop, ← List.getD_eq_getElem?_getD, Nat.add_assoc]
    exact hcell

set_option maxHeartbeats 800000 in
set_option maxRecDepth 100000 in
theorem take_walk (N r k : Nat) (hk : k ≤ 9223372036854775807) (l : List UInt8) (e : Int) (w : World) (h : Rd N w r l e) :
    Calls Tryd.prog 63 #[.pointer (some ⟨r, 0, none⟩), .int .i64 (k : Int)] w fun z w' => ∃ v, z = .returned v ∧ RowV N w' v (takeL l e k).1 ∧ Rd N w' r (takeL l e k).2.1 (takeL l e k).2.2 ∧ w.grownBy w' (some r) := by
  have HF := hide (fail_walk N r l e 51 w h)
  have HN := hide h.size
  obtain ⟨h1, v, ha, hr⟩ := h
  obtain ⟨a, len, cap, rfl, q1, q2, q3, hrow⟩ := hr
  have hc0 := ha.cell (i := 0) rfl
  have hf0 := ha.free 0
  have HROW := hide hrow
  have hll := hrow.1
  have hl2 := hrow.2.1
  have HA := hide ha
  by_cases hlt : l.length < k
  · rw [takeL_short hlt]
    rw [hll] at hlt
    clear ha hrow hll
    go_enter Tryd.func63, Tryd.ntmps63
    go_wp2_with fail
    refine (unhide HF).mono ?_
    rintro z w1 ⟨rfl, hR, hg⟩
    have HR := hide hR
    have HG := hide hg
    clear hR hg HF hc0 hf0
    go_wp2_with fail
    go_ret
    exact ⟨_, rfl, RowV.nil _ _, unhide HR, unhide HG⟩
  · rw [takeL_long hlt]
    rw [hll] at hlt
    have hkl : k ≤ len := by omega
    have HT := hide (hrow.take k hkl)
    have HD := hide (hrow.drop q1 k hkl)
    have HSET := hide (fun v => ha.set 0 v)
    clear ha hrow hll
    by_cases hcap : cap = k
    · subst hcap
      go_enter Tryd.func63, Tryd.ntmps63
      go_wp2
      go_ret
      have bel : ∀ u, Below N w (w.setCell ⟨r, 0, none⟩ u) := fun u => (Below.refl _ _).setCell (by simpa using h1) u
      have hd := unhide HD a (.inl trivial)
      rw [show len - cap = 0 by omega] at hd
      exact ⟨_, rfl, ⟨a, cap, cap, rfl, Nat.le_refl _, q2, q3, (unhide HT).below (bel _)⟩, ⟨h1, _, unhide HSET _, ⟨a, 0, 0, rfl, Nat.le_refl _, Nat.zero_le _, fun _ => rfl, hd.below (bel _)⟩⟩, set_grown _ _ _ _⟩
    · go_enter Tryd.func63, Tryd.ntmps63
      go_wp2
      go_ret
      have bel : ∀ u, Below N w (w.setCell ⟨r, 0, none⟩ u) := fun u => (Below.refl _ _).setCell (by simpa using h1) u
      have hd := unhide HD _ (.inr rfl)
      refine ⟨_, rfl, ⟨a, k, cap, rfl, by omega, q2, q3, (unhide HT).below (bel _)⟩, ⟨h1, _, unhide HSET _, ⟨_, _, _, rfl, by omega, by omega, fun hz => ?_, hd.below (bel _)⟩⟩, set_grown _ _ _ _⟩
      have := q3 (by simpa using hz)
      omega

theorem bits_or64 (a b : Nat) (ha : a < 2 ^ 64) (hb : b < 2 ^ 64) : bits .or .u64 (a : Int) (b : Int) = ((a ||| b : Nat) : Int) := by
  show IntKind.u64.wrap ((BitVec.ofInt 64 (a : Int) ||| BitVec.ofInt 64 (b : Int)).toNat : Int) = _
  have e : (BitVec.ofInt 64 (a : Int) ||| BitVec.ofInt 64 (b : Int)).toNat = a ||| b := by
    rw [BitVec.ofInt_natCast, BitVec.ofInt_natCast, BitVec.toNat_or, BitVec.toNat_ofNat, BitVec.toNat_ofNat, Nat.mod_eq_of_lt ha, Nat.mod_eq_of_lt hb]
  rw [e]
  have := Nat.or_lt_two_pow ha hb
  rw [IntKind.wrap_u64]
  omega
theorem or_step (n k c : Nat) (hn : n < 256 ^ k) (hk : k < 8) (hc : c < 256) : bits .or .u64 (n : Int) (IntKind.u64.wrap ((c : Int) * 2 ^ (8 * k))) = ((n + 256 ^ k * c : Nat) : Int) := by
  have e1 : 256 ^ k = 2 ^ (8 * k) := by rw [show (256 : Nat) = 2 ^ 8 by rfl, ← Nat.pow_mul]
  have h1 : 2 ^ (8 * k) * 2 ^ 8 ≤ 2 ^ 64 := by rw [← Nat.pow_add]; exact Nat.pow_le_pow_right (by decide) (by omega)
  rw [e1] at hn ⊢
  have h2 : c * 2 ^ (8 * k) < 2 ^ 64 := by
    refine Nat.lt_of_lt_of_le ((Nat.mul_lt_mul_right (Nat.pow_pos (by decide))).2 hc) ?_
    rw [Nat.mul_comm]; exact h1
  have h3 : n < 2 ^ 64 := by omega
  have e2 : ((c : Int) * 2 ^ (8 * k)) = ((c * 2 ^ (8 * k) : Nat) : Int) := by simp
  have e3 : IntKind.u64.wrap ((c * 2 ^ (8 * k) : Nat) : Int) = ((c * 2 ^ (8 * k) : Nat) : Int) := by rw [IntKind.wrap_u64]; omega
  rw [e2, e3, bits_or64 _ _ h3 h2, Nat.or_comm, ← Nat.shiftLeft_eq, ← Nat.shiftLeft_add_eq_or_of_lt hn, Nat.shiftLeft_eq, Nat.add_comm, Nat.mul_comm]

set_option maxHeartbeats 800000 in
set_option maxRecDepth 100000 in
theorem rfixed_walk (N r : Nat) (m : Int) (l : List UInt8) (e : Int) (w : World) (h : Rd N w r l e) :
    Calls Tryd.prog 48 #[.pointer (some ⟨r, 0, none⟩), .int .i64 m] w fun z w' => z = .returned (.int .u64 ((fixL l e m).1 : Int)) ∧ Rd N w' r (fixL l e m).2.1 (fixL l e m).2.2 ∧ w.grownBy w' (some r) := by
  have hs8 := sizeN_le m
  have HT := hide (take_walk N r (sizeN m) (by omega) l e w h)
  have HC := hide (sizeOf_walk m w)
  have hta := @takeL_answer l e (sizeN m)
  unfold fixL
  simp only
  generalize takeL l e (sizeN m) = t at *
  generalize sizeN m = q at *
  go_enter Tryd.func48, Tryd.ntmps48
  go_wp2_with fail
  refine (unhide HC).mono ?_
  rintro z w1 ⟨rfl, hw1⟩
  subst w1
  clear HC
  go_wp2_with fail
  refine (unhide HT).mono ?_
  rintro z w1 ⟨v1, rfl, hV, hR, hg⟩
  clear HT
  have HR := hide hR
  have HG := hide hg
  obtain ⟨a, len, cap, rfl, q1, q2, q3, hrow⟩ := hV
  have HROW := hide hrow
  have hl1 := hrow.1
  clear hrow hR hg
  go_wp2_with fail
  go_loopw [5, 13] (fun cn ci wr => ∃ k : Nat, k ≤ len ∧ ci = .int .i64 (k : Int) ∧ cn = .int .u64 (numL (t.1.take k) : Int) ∧ wr = w1) (fun _ ci _ => len - (intOf ci).toNat)
  case atStart => exact ⟨0, by omega, rfl, by simp [numL], rfl⟩
  case round =>
    obtain ⟨k, hk, rfl, rfl, rfl⟩ := hrel
    by_cases hlt : k < len
    · obtain ⟨b, off, rfl, hbN, hcell⟩ := (unhide HROW).2.2 k hlt
      have hst := numL_snoc (t.1.take k) (t.1.getD k 0)
      rw [← take_snoc 0 t.1 k (by omega), List.length_take, Nat.min_eq_left (by omega)] at hst
      have hlt2 := numL_lt (t.1.take k)
      rw [List.length_take, Nat.min_eq_left (by omega)] at hlt2
      have hc8 := (t.1.getD k 0).toNat_lt
      generalize t.1.getD k 0 = c at *
      generalize numL (t.1.take k) = n at *
      have HST := hide hst
      have HLT := hide hlt2
      clear hst hlt2
      go_wp2
      refine ⟨⟨k + 1, by omega, by go_num, ?_, trivial⟩, by simp [intOf]; omega⟩
      rw [unhide HST, or_step n k _ (unhide HLT) (by omega) hc8]
    · obtain rfl : k = len := by omega
      rw [List.take_of_length_le (by omega)]
      go_wp2
      go_ret
      exact ⟨rfl, unhide HR, unhide HG⟩

set_option maxHeartbeats 800000 in
set_option maxRecDepth 100000 in
theorem rerr_walk (N r : Nat) (l : List UInt8) (e : Int) (w : World) (h : Rd N w r l e) :
    Calls Tryd.prog 26 #[.pointer (some ⟨r, 0, none⟩)] w fun z w' => z = .returned (.int .i64 e) ∧ w' = w := by
  obtain ⟨h1, v, ha, hr⟩ := h
  have hc1 := ha.cell (i := 1) rfl
  clear ha hr
  go_enter Tryd.func26, Tryd.ntmps26
  go_wp2
  go_ret
  exact ⟨rfl, rfl⟩

set_option maxHeartbeats 800000 in
set_option maxRecDepth 100000 in
theorem rleft_walk (N r : Nat) (l : List UInt8) (e : Int) (w : World) (h : Rd N w r l e) :
    Calls Tryd.prog 25 #[.pointer (some ⟨r, 0, none⟩)] w fun z w' => z = .returned (.int .i64 (l.length : Int)) ∧ w' = w := by
  obtain ⟨h1, v, ha, hr⟩ := h
  obtain ⟨a, len, cap, rfl, q1, q2, q3, hrow⟩ := hr
  have hc0 := ha.cell (i := 0) rfl
  have HL := hide hrow.1
  clear ha hrow
  go_enter Tryd.func25, Tryd.ntmps25
  go_wp2
  go_ret
  rw [unhide HL]
  exact ⟨rfl, rfl⟩

end Go.Proofs.YtglphnmnnfpcoaaDoor
