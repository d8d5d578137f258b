/-
  What code.sizeOf, bytes.Clone, code.put, code.Fixed and code.Text answer. What a Reader's calls answer, and what is left in it. What bootjackref05.size, Fixed and Text, and code.Raw answer. What bootjackref05.Raw, FixedOf, TextOf and End, and a Reader's Raw answer.
-/
import Derived.Test.YtdfdalkcljfghaaGreatOwn
import Derived.Test.YtdfdalkcljfghaaGreatFMath
import Derived.Lib.SliceRun
namespace Go.Proofs.YtdfdalkcljfghaaGreat
open Go.RowKit

theorem run_max0 (m : Int) (w : World) : (Builtin.max_ #[3, 3] 3 #[.int .i64 m, .int .i64 0]).run Tryz.prog w = .ok (.int .i64 (if m < 0 then 0 else m)) w := by
  simp [Builtin.max_, Builtin.max2]
theorem run_min8 (m : Int) (w : World) : (Builtin.min_ #[3, 3] 3 #[.int .i64 m, .int .i64 8]).run Tryz.prog w = .ok (.int .i64 (if 8 < m then 8 else m)) w := by
  simp [Builtin.min_, Builtin.min2]

set_option maxHeartbeats 400000 in
set_option maxRecDepth 100000 in
theorem sizeOf_walk (m : Int) (w : World) : Calls Tryz.prog 123 #[.int .i64 m] w fun e w' => e = .returned (.int .i64 (sizeN m : Int)) ∧ w' = w := by
  have h1 := run_max0 m w
  obtain ⟨q, hq⟩ : ∃ q, q = if m < 0 then 0 else m := ⟨_, rfl⟩
  rw [← hq] at h1
  have h2 := run_min8 q w
  obtain ⟨p, hp⟩ : ∃ p, p = if 8 < q then 8 else q := ⟨_, rfl⟩
  rw [← hp] at h2
  have HP : Hid (p = (sizeN m : Int)) := hide (by rw [hp, hq]; unfold sizeN; split <;> split <;> omega)
  clear hp hq
  go_enter Tryz.func123, Tryz.ntmps123
  go_wp2
  go_ret
  exact ⟨by rw [unhide HP]; rfl, rfl⟩

set_option maxHeartbeats 400000 in
set_option maxRecDepth 100000 in
theorem clone_walk (N : Nat) (v : Value) (bs : List UInt8) (w : World) (hN : N ≤ w.heap.size) (hr : RowV N w v bs) :
    Calls Tryz.prog 93 #[v] w fun e w' => ∃ v', e = .returned v' ∧ Own w.heap.size w' v' bs ∧ Below w.heap.size w w' := by
  have HR := hide hr
  obtain ⟨a, len, cap, rfl, h1, h2, h3, hrow⟩ := hr
  have hn := Lib.run_eql_slice_nil (P := Tryz.prog) w 46 5 a len cap 0 0 Tryz.underlying46
  cases a with
  | none =>
    obtain rfl := h3 rfl
    obtain rfl : len = 0 := by omega
    obtain rfl : bs = [] := List.length_eq_zero_iff.1 hrow.1
    go_enter Tryz.func93, Tryz.ntmps93
    go_wp2
    go_ret
    exact ⟨_, rfl, Own.nil _ _, Below.refl _ _⟩
  | some x =>
    have Hl := hide hrow.1
    have Hl2 := hide hrow.2.1
    clear hrow h3
    have hb : Below w.heap.size w (w.alloc (.cells #[] 5)) := (Below.refl _ _).alloc (Nat.le_refl _) _
    have hb2 : Below N w (w.alloc (.cells #[] 5)) := hb.mono hN
    have HR2 := hide ((unhide HR).below hb2)
    have HE := hide (Own.empty w)
    go_enter Tryz.func93, Tryz.ntmps93
    go_wp2_with (refine wpList_appRow rfl _ _ rfl w.heap.size N _ [] rfl (unhide HE) _ rfl bs (unhide HR2) ?_ ?_ ?_)
    · have e1 := unhide Hl; have e2 := unhide Hl2; simp; omega
    · simp
    · intro v' w' hO hG
      have hb3 := hb.trans ((unhide HE).below hG (by simp))
      have HO := hide hO
      clear hO hG
      go_wp2_with fail
      go_ret
      exact ⟨_, rfl, unhide HO, hb3⟩

theorem cell_fresh (w : World) (C : Array Value) (e : TypeId) (i : Nat) : (w.alloc (.cells C e (0, 0))).cell? ⟨w.heap.size, i, none⟩ = C[i]? :=
  cell_of_row _ _ _ C e _ (heap_alloc_new w _)
theorem pow_split (k : Nat) : 256 ^ (k + 1) = 256 ^ k * 256 := Nat.pow_succ ..

set_option maxHeartbeats 800000 in
set_option maxRecDepth 100000 in
theorem put_walk (B : Nat) (v : Value) (l : List UInt8) (n : Nat) (_hn : n < 18446744073709551616) (m : Int) (w : World) (hB : B ≤ w.heap.size) (ho : Own B w v l) (hl : l.length ≤ 1000000) :
    Calls Tryz.prog 94 #[v, .int .u64 (n : Int), .int .i64 m] w fun e w' => ∃ v', e = .returned v' ∧ Own B w' v' (l ++ fixedL n (sizeN m)) ∧ Below B w w' := by
  have HO := hide ho
  have hs8 := sizeN_le m
  have HC := hide (sizeOf_walk m w)
  clear ho
  generalize sizeN m = q at *
  go_enter Tryz.func94, Tryz.ntmps94
  go_wp2_with (go_at_call 123; refine (unhide HC).mono ?_; rintro e w1 ⟨rfl, hw1⟩; subst w1)
  go_loopw [0, 1, 9] (fun cr cn ci wr => ∃ k : Nat, k ≤ q ∧ ci = .int .i64 (k : Int) ∧ cn = .int .u64 ((n / 256 ^ k : Nat) : Int) ∧ Own B wr cr (l ++ fixedL n k) ∧ Below B w wr) (fun _ _ ci _ => q - (intOf ci).toNat)
  case atStart => exact ⟨0, by omega, rfl, by simp, by simpa [fixedL] using unhide HO, Below.refl _ _⟩
  case round =>
    obtain ⟨k, hk, rfl, rfl, hO, hb⟩ := hrel
    by_cases hlt : k < q
    · have hst := fixedL_snoc k n
      have hlen := fixedL_length k n
      have hd : n / 256 ^ (k + 1) = n / 256 ^ k / 256 := by rw [pow_split, Nat.div_div_eq_div_mul]
      have hle : n / 256 ^ k ≤ n := Nat.div_le_self _ _
      have HST := hide hst
      have HD := hide hd
      have HL := hide hlen
      clear hst hd hlen
      generalize n / 256 ^ k = p at *
      have HOk := hide hO
      clear hO
      go_wp2_with (refine wpList_app rfl _ _ rfl B _ (l ++ fixedL n k) rfl ((unhide HOk).keep fun k hk => Below.heap_alloc _ _ _ hk) ⟨_, 0, none⟩ 1 1 rfl [UInt8.ofNat p] rfl ?_ ?_ ?_ ?_)
      · intro j hj
        obtain rfl : j = 0 := by omega
        rw [Addr.add_lit, cell_fresh]
        simp
      · rw [List.length_append, unhide HL]; simp; omega
      · have := hb.size; simp; omega
      · intro v' w' hO' hG
        have hb' := hb.trans (((Below.refl B wr).alloc (Nat.le_trans hB hb.size) _).trans (((unhide HOk).keep fun k hk => Below.heap_alloc _ _ _ hk).below hG (by have := hb.size; simp; omega)))
        have HO' := hide hO'
        clear hO' hG
        go_wp2
        go_roundw
        case rel =>
          refine ⟨k + 1, by omega, by go_num, ?_, ?_, hb'⟩
          · rw [unhide HD]; simp
          · rw [unhide HST]; exact unhide HO'
        case measure => simp [intOf]; omega
    · obtain rfl : k = q := by omega
      have HOk := hide hO
      clear hO
      go_wp2
      go_ret
      exact ⟨_, rfl, unhide HOk, hb⟩

set_option maxHeartbeats 800000 in
set_option maxRecDepth 100000 in
theorem fixed_walk (N : Nat) (v : Value) (bs : List UInt8) (n : Nat) (hn : n < 18446744073709551616) (m : Int) (w : World) (hN : N ≤ w.heap.size) (hr : RowV N w v bs) (hl : bs.length ≤ 100000) :
    Calls Tryz.prog 58 #[v, .int .u64 (n : Int), .int .i64 m] w fun e w' => ∃ v', e = .returned v' ∧ Own w.heap.size w' v' (bs ++ fixedL n (sizeN m)) ∧ Below w.heap.size w w' := by
  have HC := hide (clone_walk N v bs w hN hr)
  clear hr
  go_enter Tryz.func58, Tryz.ntmps58
  go_wp2_with fail
  refine (unhide HC).mono ?_
  rintro e w1 ⟨v1, rfl, hO, hb⟩
  have HP := hide (put_walk w.heap.size v1 bs n hn m w1 hb.size hO (by omega))
  clear hO HC
  go_wp2_with fail
  refine (unhide HP).mono ?_
  rintro e w2 ⟨v2, rfl, hO2, hb2⟩
  have HO2 := hide hO2
  clear hO2 HP
  go_wp2_with fail
  go_ret
  exact ⟨_, rfl, unhide HO2, hb.trans hb2⟩

end Go.Proofs.YtdfdalkcljfghaaGreat

namespace Go.Proofs.YtdfdalkcljfghaaGreat
open Go.RowKit

/-- Block r is a reader (or the document's own) with these bytes left, below block N, and this error. -/
def Rd (N : Nat) (w : World) (r : Nat) (l : List UInt8) (e : Int) : Prop := N ≤ r ∧ ∃ v, Arr w r [v, .int .i64 e] ∧ RowV N w v l

theorem Rd.lt {N : Nat} {w : World} {r : Nat} {l : List UInt8} {e : Int} (h : Rd N w r l e) : r < w.heap.size := by
  obtain ⟨_, v, ha, _⟩ := h
  exact ha.lt
theorem Rd.size {N : Nat} {w : World} {r : Nat} {l : List UInt8} {e : Int} (h : Rd N w r l e) : N ≤ w.heap.size := by
  have := h.lt
  have := h.1
  omega
theorem Rd.below {N : Nat} {w w' : World} {r : Nat} {l : List UInt8} {e : Int} (h : Rd N w r l e) (hb : Below w.heap.size w w') : Rd N w' r l e := by
  have := h.size
  obtain ⟨h1, v, ha, hr⟩ := h
  exact ⟨h1, v, ha.below hb, hr.below (hb.mono this)⟩
theorem Rd.other {N : Nat} {w w' : World} {r q : Nat} {l : List UInt8} {e : Int} (h : Rd N w r l e) (hg : w.grownBy w' (some q)) (hne : r ≠ q) (hq : N ≤ q) : Rd N w' r l e := by
  have := h.size
  obtain ⟨h1, v, ha, hr⟩ := h
  exact ⟨h1, v, ha.grown hg (by simpa using hne), hr.below ((Below.refl _ _).grown hg this (fun k hk => by cases hk; exact hq))⟩
/-- What turned at r alone turned nothing below. -/
theorem Rd.still {N : Nat} {w w' : World} {r : Nat} {l : List UInt8} {e : Int} (h : Rd N w r l e) (hg : w.grownBy w' (some r)) : Below N w w' :=
  (Below.refl _ _).grown hg h.size (fun k hk => by cases hk; exact h.1)

theorem grown_two {w w1 w2 : World} {row : Option Nat} (h : w.grownBy w1 row) (k : w1.grownBy w2 row) : w.grownBy w2 row :=
  ⟨k.os.trans h.os, k.tape.trans h.tape, k.output.trans h.output, Nat.le_trans h.size k.size, fun i hi hne => by
    rw [k.block i (Nat.lt_of_lt_of_le hi h.size) hne, h.block i hi hne]⟩
theorem grown_below {w w1 w2 : World} {row : Option Nat} (h : w.grownBy w1 row) (k : Below w1.heap.size w1 w2) : w.grownBy w2 row :=
  ⟨k.os.trans h.os, k.tape.trans h.tape, k.output.trans h.output, Nat.le_trans h.size k.size, fun i hi hne => by
    rw [k.block i (Nat.lt_of_lt_of_le hi h.size), h.block i hi hne]⟩

set_option maxHeartbeats 800000 in
set_option maxRecDepth 100000 in
theorem new_arr (a : Option Addr) (len cap : Nat) (w : World) :
    Calls Tryz.prog 52 #[.slice a len cap] w fun e w' => e = .returned (.pointer (some ⟨w.heap.size, 0, none⟩)) ∧ Arr w' w.heap.size [.slice a len cap, .int .i64 0] ∧ Below w.heap.size w w' := by
  go_enter Tryz.func52, Tryz.ntmps52
  go_wp2
  go_ret
  exact ⟨rfl, ⟨_, _, heap_alloc_new w _, rfl⟩, (Below.refl _ _).alloc (Nat.le_refl _) _⟩
theorem new_walk8 (N : Nat) (v : Value) (l : List UInt8) (w : World) (hN : N ≤ w.heap.size) (hr : RowV N w v l) :
    Calls Tryz.prog 52 #[v] w fun e w' => e = .returned (.pointer (some ⟨w.heap.size, 0, none⟩)) ∧ Rd N w' w.heap.size l 0 ∧ Below w.heap.size w w' := by
  have hr2 := hr
  obtain ⟨a, len, cap, rfl, _⟩ := hr
  refine (new_arr a len cap w).mono ?_
  rintro e w' ⟨rfl, hA, hb⟩
  exact ⟨rfl, ⟨hN, _, hA, hr2.below (hb.mono hN)⟩, hb⟩

set_option maxHeartbeats 800000 in
set_option maxRecDepth 100000 in
theorem fail_walk (N r : Nat) (l : List UInt8) (e x : Int) (w : World) (h : Rd N w r l e) :
    Calls Tryz.prog 142 #[.pointer (some ⟨r, 0, none⟩), .int .i64 x] w fun z w' => z = .returned (.tuple #[]) ∧ Rd N w' r [] (failL e x) ∧ w.grownBy w' (some r) := by
  obtain ⟨h1, v, ha, hr⟩ := h
  have hc1 := ha.cell (i := 1) rfl
  have hc0 := ha.cell (i := 0) rfl
  have hf0 := ha.free 0
  have hf1 := ha.free 1
  have HA := hide ha
  by_cases he : e = 0
  · subst he
    have ha2 := ha.set 1 (.int .i64 x)
    have hc02 := ha2.cell (i := 0) rfl
    have hf02 := ha2.free 0
    have ha3 := ha2.set 0 (.slice none 0 0)
    have HA3 := hide ha3
    clear ha ha2 ha3 HA
    go_enter Tryz.func142, Tryz.ntmps142
    go_wp2
    refine ⟨rfl, .tuple #[], by simp [results, Tryz.results142], ?_⟩
    exact ⟨rfl, ⟨h1, _, unhide HA3, RowV.nil _ _⟩, grown_two (set_grown _ _ _ _) (set_grown _ _ _ _)⟩
  · have ha3 := ha.set 0 (.slice none 0 0)
    have HA3 := hide ha3
    have HE : Hid (failL e x = e) := hide (by unfold failL; rw [if_neg he])
    clear ha ha3 HA
    go_enter Tryz.func142, Tryz.ntmps142
    go_wp2
    refine ⟨rfl, .tuple #[], by simp [results, Tryz.results142], ?_⟩
    rw [unhide HE]
    exact ⟨rfl, ⟨h1, _, unhide HA3, RowV.nil _ _⟩, set_grown _ _ _ _⟩

theorem Row.take {N : Nat} {w : World} {a : Option Addr} {len : Nat} {bs : List UInt8} (h : Row N w a len bs) (n : Nat) (hn : n ≤ len) : Row N w a n (bs.take n) :=
  ⟨by have := h.1; simp; omega, by have := h.2.1; omega, fun i hi => by
    obtain ⟨b, off, ha, hl, hc⟩ := h.2.2 i (by omega)
    refine ⟨b, off, ha, hl, ?_⟩
    rw [List.getD_eq_getElem?_getD, List.getElem?_take_of_lt hi, ← List.getD_eq_getElem?_getD]
    exact hc⟩
theorem Row.drop {N : Nat} {w : World} {a : Option Addr} {len cap : Nat} {bs : List UInt8} (h : Row N w a len bs) (hc : len ≤ cap) (n : Nat) (hn : n ≤ len) (a2 : Option Addr) (ha : cap = n ∨ a2 = a.map fun x => x.add n) : Row N w a2 (len - n) (bs.drop n) := by
  refine ⟨by have := h.1; simp; omega, by have := h.2.1; omega, fun i hi => ?_⟩
  rcases ha with ha | ha
  · omega
  · obtain ⟨b, off, e, hl, hcell⟩ := h.2.2 (n + i) (by omega)
    refine ⟨b, off + n, by rw [ha, e]; simp [Addr.add_mid], hl, ?_⟩
    rw [List.getD_eq_getElem?_getD, List.getElem?_drop, ← List.getD_eq_getElem?_getD, Nat.add_assoc]
    exact hcell

set_option maxHeartbeats 800000 in
set_option maxRecDepth 100000 in
theorem take_walk (N r k : Nat) (hk : k ≤ 9223372036854775807) (l : List UInt8) (e : Int) (w : World) (h : Rd N w r l e) :
    Calls Tryz.prog 122 #[.pointer (some ⟨r, 0, none⟩), .int .i64 (k : Int)] w fun z w' => ∃ v, z = .returned v ∧ RowV N w' v (takeL l e k).1 ∧ Rd N w' r (takeL l e k).2.1 (takeL l e k).2.2 ∧ w.grownBy w' (some r) := by
  have HF := hide (fail_walk N r l e 51 w h)
  have HN := hide h.size
  obtain ⟨h1, v, ha, hr⟩ := h
  obtain ⟨a, len, cap, rfl, q1, q2, q3, hrow⟩ := hr
  have hc0 := ha.cell (i := 0) rfl
  have hf0 := ha.free 0
  have HROW := hide hrow
  have hll := hrow.1
  have hl2 := hrow.2.1
  have HA := hide ha
  by_cases hlt : l.length < k
  · rw [takeL_short hlt]
    rw [hll] at hlt
    clear ha hrow hll
    go_enter Tryz.func122, Tryz.ntmps122
    go_wp2_with fail
    refine (unhide HF).mono ?_
    rintro z w1 ⟨rfl, hR, hg⟩
    have HR := hide hR
    have HG := hide hg
    clear hR hg HF hc0 hf0
    go_wp2_with fail
    go_ret
    exact ⟨_, rfl, RowV.nil _ _, unhide HR, unhide HG⟩
  · rw [takeL_long hlt]
    rw [hll] at hlt
    have hkl : k ≤ len := by omega
    have HT := hide (hrow.take k hkl)
    have HD := hide (hrow.drop q1 k hkl)
    have HSET := hide (fun v => ha.set 0 v)
    clear ha hrow hll
    by_cases hcap : cap = k
    · subst hcap
      go_enter Tryz.func122, Tryz.ntmps122
      go_wp2
      go_ret
      have bel : ∀ u, Below N w (w.setCell ⟨r, 0, none⟩ u) := fun u => (Below.refl _ _).setCell (by simpa using h1) u
      have hd := unhide HD a (.inl trivial)
      rw [show len - cap = 0 by omega] at hd
      exact ⟨_, rfl, ⟨a, cap, cap, rfl, Nat.le_refl _, q2, q3, (unhide HT).below (bel _)⟩, ⟨h1, _, unhide HSET _, ⟨a, 0, 0, rfl, Nat.le_refl _, Nat.zero_le _, fun _ => rfl, hd.below (bel _)⟩⟩, set_grown _ _ _ _⟩
    · go_enter Tryz.func122, Tryz.ntmps122
      go_wp2
      go_ret
      have bel : ∀ u, Below N w (w.setCell ⟨r, 0, none⟩ u) := fun u => (Below.refl _ _).setCell (by simpa using h1) u
      have hd := unhide HD _ (.inr rfl)
      refine ⟨_, rfl, ⟨a, k, cap, rfl, by omega, q2, q3, (unhide HT).below (bel _)⟩, ⟨h1, _, unhide HSET _, ⟨_, _, _, rfl, by omega, by omega, fun hz => ?_, hd.below (bel _)⟩⟩, set_grown _ _ _ _⟩
      have := q3 (by simpa using hz)
      omega

theorem bits_or64 (a b : Nat) (ha : a < 2 ^ 64) (hb : b < 2 ^ 64) : bits .or .u64 (a : Int) (b : Int) = ((a ||| b : Nat) : Int) := by
  show IntKind.u64.wrap ((BitVec.ofInt 64 (a : Int) ||| BitVec.ofInt 64 (b : Int)).toNat : Int) = _
  have e : (BitVec.ofInt 64 (a : Int) ||| BitVec.ofInt 64 (b : Int)).toNat = a ||| b := by
    rw [BitVec.ofInt_natCast, BitVec.ofInt_natCast, BitVec.toNat_or, BitVec.toNat_ofNat, BitVec.toNat_ofNat, Nat.mod_eq_of_lt ha, Nat.mod_eq_of_lt hb]
  rw [e]
  have := Nat.or_lt_two_pow ha hb
  rw [IntKind.wrap_u64]
  omega
theorem or_step (n k c : Nat) (hn : n < 256 ^ k) (hk : k < 8) (hc : c < 256) : bits .or .u64 (n : Int) (IntKind.u64.wrap ((c : Int) * 2 ^ (8 * k))) = ((n + 256 ^ k * c : Nat) : Int) := by
  have e1 : 256 ^ k = 2 ^ (8 * k) := by rw [show (256 : Nat) = 2 ^ 8 by rfl, ← Nat.pow_mul]
  have h1 : 2 ^ (8 * k) * 2 ^ 8 ≤ 2 ^ 64 := by rw [← Nat.pow_add]; exact Nat.pow_le_pow_right (by decide) (by omega)
  rw [e1] at hn ⊢
  have h2 : c * 2 ^ (8 * k) < 2 ^ 64 := by
    refine Nat.lt_of_lt_of_le ((Nat.mul_lt_mul_right (Nat.pow_pos (by decide))).2 hc) ?_
    rw [Nat.mul_comm]; exact h1
  have h3 : n < 2 ^ 64 := by omega
  have e2 : ((c : Int) * 2 ^ (8 * k)) = ((c * 2 ^ (8 * k) : Nat) : Int) := by simp
  have e3 : IntKind.u64.wrap ((c * 2 ^ (8 * k) : Nat) : Int) = ((c * 2 ^ (8 * k) : Nat) : Int) := by rw [IntKind.wrap_u64]; omega
  rw [e2, e3, bits_or64 _ _ h3 h2, Nat.or_comm, ← Nat.shiftLeft_eq, ← Nat.shiftLeft_add_eq_or_of_lt hn, Nat.shiftLeft_eq, Nat.add_comm, Nat.mul_comm]

set_option maxHeartbeats 800000 in
set_option maxRecDepth 100000 in
theorem rfixed_walk (N r : Nat) (m : Int) (l : List UInt8) (e : Int) (w : World) (h : Rd N w r l e) :
    Calls Tryz.prog 90 #[.pointer (some ⟨r, 0, none⟩), .int .i64 m] w fun z w' => z = .returned (.int .u64 ((fixL l e m).1 : Int)) ∧ Rd N w' r (fixL l e m).2.1 (fixL l e m).2.2 ∧ w.grownBy w' (some r) := by
  have hs8 := sizeN_le m
  have HT := hide (take_walk N r (sizeN m) (by omega) l e w h)
  have HC := hide (sizeOf_walk m w)
  have hta := @takeL_answer l e (sizeN m)
  unfold fixL
  simp only
  generalize takeL l e (sizeN m) = t at *
  generalize sizeN m = q at *
  go_enter Tryz.func90, Tryz.ntmps90
  go_wp2_with fail
  refine (unhide HC).mono ?_
  rintro z w1 ⟨rfl, hw1⟩
  subst w1
  clear HC
  go_wp2_with fail
  refine (unhide HT).mono ?_
  rintro z w1 ⟨v1, rfl, hV, hR, hg⟩
  clear HT
  have HR := hide hR
  have HG := hide hg
  obtain ⟨a, len, cap, rfl, q1, q2, q3, hrow⟩ := hV
  have HROW := hide hrow
  have hl1 := hrow.1
  clear hrow hR hg
  go_wp2_with fail
  go_loopw [5, 13] (fun cn ci wr => ∃ k : Nat, k ≤ len ∧ ci = .int .i64 (k : Int) ∧ cn = .int .u64 (numL (t.1.take k) : Int) ∧ wr = w1) (fun _ ci _ => len - (intOf ci).toNat)
  case atStart => exact ⟨0, by omega, rfl, by simp [numL], rfl⟩
  case round =>
    obtain ⟨k, hk, rfl, rfl, rfl⟩ := hrel
    by_cases hlt : k < len
    · obtain ⟨b, off, rfl, hbN, hcell⟩ := (unhide HROW).2.2 k hlt
      have hst := numL_snoc (t.1.take k) (t.1.getD k 0)
      rw [← take_snoc 0 t.1 k (by omega), List.length_take, Nat.min_eq_left (by omega)] at hst
      have hlt2 := numL_lt (t.1.take k)
      rw [List.length_take, Nat.min_eq_left (by omega)] at hlt2
      have hc8 := (t.1.getD k 0).toNat_lt
      generalize t.1.getD k 0 = c at *
      generalize numL (t.1.take k) = n at *
      have HST := hide hst
      have HLT := hide hlt2
      clear hst hlt2
      go_wp2
      refine ⟨⟨k + 1, by omega, by go_num, ?_, trivial⟩, by simp [intOf]; omega⟩
      rw [unhide HST, or_step n k _ (unhide HLT) (by omega) hc8]
    · obtain rfl : k = len := by omega
      rw [List.take_of_length_le (by omega)]
      go_wp2
      go_ret
      exact ⟨rfl, unhide HR, unhide HG⟩

end Go.Proofs.YtdfdalkcljfghaaGreat

namespace Go.Proofs.YtdfdalkcljfghaaGreat
open Go.RowKit

/-- A slice of slices of bytes. -/
def Parts (N : Nat) (w : World) (a : Option Addr) (len : Nat) (ps : List (List UInt8)) : Prop :=
  ps.length = len ∧ ∀ i, i < len → ∃ b off v, a = some ⟨b, off, none⟩ ∧ b < N ∧ w.cell? ⟨b, off + i, none⟩ = some v ∧ RowV N w v (ps.getD i [])
theorem Parts.below {N : Nat} {w w' : World} {a : Option Addr} {len : Nat} {ps : List (List UInt8)} (h : Parts N w a len ps) (hb : Below N w w') : Parts N w' a len ps :=
  ⟨h.1, fun i hi => by
    obtain ⟨b, off, v, ha, hl, hc, hv⟩ := h.2 i hi
    exact ⟨b, off, v, ha, hl, (hb.cell (p := ⟨b, off + i, none⟩) hl).trans hc, hv.below hb⟩⟩

set_option maxHeartbeats 1600000 in
set_option maxRecDepth 100000 in
theorem raw_walk (N : Nat) (v : Value) (bs : List UInt8) (a : Option Addr) (len cap : Nat) (ps : List (List UInt8)) (w : World) (hN : N ≤ w.heap.size) (hr : RowV N w v bs) (hp : Parts N w a len ps)
    (hl : bs.length ≤ 5000) (hsz : ∀ p ∈ ps, p.length ≤ 5000) (h10 : len ≤ 10) :
    Calls Tryz.prog 55 #[v, .slice a len cap] w fun e w' => ∃ v', e = .returned v' ∧ Own w.heap.size w' v' (bs ++ ps.flatten) ∧ Below w.heap.size w w' := by
  have HC := hide (clone_walk N v bs w hN hr)
  have HS := hide hp
  have HZ := hide hsz
  have HL := hide hp.1
  clear hr hp hsz
  go_enter Tryz.func55, Tryz.ntmps55
  go_wp2_with fail
  refine (unhide HC).mono ?_
  rintro e w1 ⟨v1, rfl, hO, hb⟩
  have HO := hide hO
  clear hO HC
  go_wp2_with fail
  go_loopw [5, 12] (fun cr ci wr => ∃ k : Nat, k ≤ len ∧ ci = .int .i64 (k : Int) ∧ Own w.heap.size wr cr (bs ++ (ps.take k).flatten) ∧ (bs ++ (ps.take k).flatten).length ≤ 5000 + 5000 * k ∧ Below w.heap.size w wr) (fun _ ci _ => len - (intOf ci).toNat)
  case atStart => exact ⟨0, by omega, rfl, by simpa using unhide HO, by simp; omega, hb⟩
  case round =>
    obtain ⟨k, hk, rfl, hOk, hlk, hbk⟩ := hrel
    by_cases hlt : k < len
    · obtain ⟨b, off, pv, rfl, hbN, hcell, hpv⟩ := ((unhide HS).below (hbk.mono hN)).2 k hlt
      have hmem : ps.getD k [] ∈ ps := by
        rw [List.getD_eq_getElem?_getD, List.getElem?_eq_getElem (by rw [unhide HL]; exact hlt)]
        exact List.getElem_mem _
      have hsk := unhide HZ _ hmem
      have hst := take_snoc [] ps k (by rw [unhide HL]; exact hlt)
      generalize ps.getD k [] = t at *
      have HT : Hid (bs ++ (ps.take (k + 1)).flatten = bs ++ (ps.take k).flatten ++ t) := hide (by rw [hst]; simp)
      clear hst hmem
      generalize bs ++ (ps.take k).flatten = acc at *
      have HOk := hide hOk
      have HPV := hide hpv
      obtain ⟨pa, pl, pc, rfl, _⟩ := hpv
      clear hOk
      go_wp2_with (refine wpList_appRow rfl _ _ rfl w.heap.size N _ acc rfl (unhide HOk) _ rfl t (unhide HPV) ?_ ?_ ?_)
      · omega
      · exact hbk.size
      · intro v4 w4 hO4 hG4
        have hb4 := hbk.trans ((unhide HOk).below hG4 hbk.size)
        have HO4 := hide hO4
        clear hO4 hG4
        go_wp2
        go_roundw
        case rel =>
          refine ⟨k + 1, by omega, by go_num, ?_, ?_, hb4⟩
          · rw [unhide HT]; exact unhide HO4
          · rw [unhide HT, List.length_append]; omega
        case measure => simp [intOf]; omega
    · obtain rfl : k = len := by omega
      have e1 : ps.take k = ps := List.take_of_length_le (by rw [unhide HL]; exact Nat.le_refl _)
      rw [e1] at hOk
      have HOk := hide hOk
      clear hOk e1
      go_wp2
      go_ret
      exact ⟨_, rfl, unhide HOk, hbk⟩

/-- A slice with these bytes, whatever its memory. -/
def Shows (bs : List UInt8) (v : Value) (w : World) : Prop := RowV w.heap.size w v bs
theorem Shows.stable {bs : List UInt8} : ∀ v w w', Shows bs v w → Below w.heap.size w w' → Shows bs v w' := fun _ _ _ h hb => (RowV.below h hb).up hb.size
theorem Parts.up {N M : Nat} {w : World} {a : Option Addr} {len : Nat} {ps : List (List UInt8)} (h : Parts N w a len ps) (hb : N ≤ M) : Parts M w a len ps :=
  ⟨h.1, fun i hi => by
    obtain ⟨b, off, v, ha, hl, hc, hv⟩ := h.2 i hi
    exact ⟨b, off, v, ha, by omega, hc, hv.up hb⟩⟩
end Go.Proofs.YtdfdalkcljfghaaGreat

namespace Go.Proofs.YtdfdalkcljfghaaGreat
open Go.RowKit

/-- The document's Raw. -/
def rawL (l : List UInt8) (e : Int) (m : Int) : List UInt8 × List UInt8 × Int := if e = 0 then takeL l 0 m.toNat else ([], [], e)

theorem Own.other {B : Nat} {w w' : World} {v : Value} {l : List UInt8} {r : Nat} (h : Own B w v l) (hg : w.grownBy w' (some r)) (hr : r < B) : Own B w' v l := by
  refine World.ownsRow.kept h hg ?_
  cases hv : v.ownBlock with
  | none => exact .inl rfl
  | some g =>
    right
    have := (h.block hv).1
    simp
    omega

theorem rawL_over {l : List UInt8} {e : Int} (h : Over l e) (m : Int) : rawL l e m = takeL l e m.toNat := by
  unfold rawL
  by_cases he : e = 0
  · rw [if_pos he, he]
  · rw [if_neg he, h he, takeL_err he]

theorem weigh (n c k : Nat) (hn : n < 256 ^ k) (hk : k < 8) (hc : c < 256) : IntKind.u64.wrap ((n : Int) + IntKind.u64.wrap ((c : Int) * ((256 ^ k % 18446744073709551616 : Nat) : Int))) = ((n + 256 ^ k * c : Nat) : Int) := by
  have e1 : 256 ^ k = 2 ^ (8 * k) := by rw [show (256 : Nat) = 2 ^ 8 by rfl, ← Nat.pow_mul]
  have h1 : 2 ^ (8 * k) * 2 ^ 8 ≤ 2 ^ 64 := by rw [← Nat.pow_add]; exact Nat.pow_le_pow_right (by decide) (by omega)
  rw [e1] at hn ⊢
  have h0 : 0 < 2 ^ (8 * k) := Nat.pow_pos (by decide)
  rw [Nat.mod_eq_of_lt (by omega)]
  have h2 : c * 2 ^ (8 * k) ≤ 255 * 2 ^ (8 * k) := Nat.mul_le_mul_right _ (by omega)
  have e2 : ((c : Int) * ((2 ^ (8 * k) : Nat) : Int)) = ((c * 2 ^ (8 * k) : Nat) : Int) := by simp
  rw [e2, Nat.mul_comm (2 ^ (8 * k)) c, IntKind.wrap_u64, IntKind.wrap_u64]
  generalize c * 2 ^ (8 * k) = y at *
  generalize 2 ^ (8 * k) = x at *
  omega
theorem weight (k : Nat) : IntKind.u64.wrap (((256 ^ k % 18446744073709551616 : Nat) : Int) * 256) = ((256 ^ (k + 1) % 18446744073709551616 : Nat) : Int) := by
  rw [IntKind.wrap_u64, Nat.pow_succ]
  generalize 256 ^ k = x
  omega

set_option maxHeartbeats 800000 in
set_option maxRecDepth 100000 in
theorem rraw_walk (N r : Nat) (m : Int) (hm2 : m ≤ 9223372036854775807) (l : List UInt8) (e : Int) (w : World) (h : Rd N w r l e) :
    Calls Tryz.prog 119 #[.pointer (some ⟨r, 0, none⟩), .int .i64 m] w fun z w' => ∃ v, z = .returned v ∧ Own w.heap.size w' v (takeL l e m.toNat).1 ∧ Rd N w' r (takeL l e m.toNat).2.1 (takeL l e m.toNat).2.2 ∧ w.grownBy w' (some r) := by
  have HT := hide (take_walk N r m.toNat (by omega) l e w h)
  have hmx := run_max0 m w
  have e1 : (if m < 0 then 0 else m) = ((m.toNat : Nat) : Int) := by split <;> omega
  rw [e1] at hmx
  generalize takeL l e m.toNat = t at *
  generalize m.toNat = q at *
  clear e1
  go_enter Tryz.func119, Tryz.ntmps119
  go_wp2_with fail
  refine (unhide HT).mono ?_
  rintro z w1 ⟨v1, rfl, hV1, hR1, hg1⟩
  have HC := hide (clone_walk N v1 t.1 w1 hR1.size hV1)
  have HR1 := hide hR1
  have HG1 := hide hg1
  clear hV1 hR1 hg1 HT hmx
  go_wp2_with fail
  refine (unhide HC).mono ?_
  rintro z w2 ⟨v2, rfl, hO2, hb2⟩
  have HO2 := hide (hO2.lower (unhide HG1).size)
  have HR2 := hide ((unhide HR1).below hb2)
  have HG2 := hide (grown_below (unhide HG1) hb2)
  clear hO2 hb2 HC
  go_wp2_with fail
  go_ret
  exact ⟨_, rfl, unhide HO2, unhide HR2, unhide HG2⟩
end Go.Proofs.YtdfdalkcljfghaaGreat
