/-
  The walk of CrcTells.
-/
import Derived.Test.YtcbiaggdfhifmaaRefWalk
import Derived.Test.YtcbiaggdfhifmaaOps
namespace Go.Proofs.Ytcbiaggdfhifmaa.crcTells
open Go.RowKit

theorem early (a0 : Option Addr) (len0 cap0 : Nat) (a1 : Int) (w : World) (h : 3000 < len0) :
    Calls Try.prog 3 #[.slice a0 len0 cap0, .int .i64 a1] w fun e w' => e = .returned (.bool true) ∧ Below w.heap.size w w' := by
  go_enter Try.func3, Try.ntmps3
  go_wp2_with fail
  refine (alive_any _).mono ?_
  rintro e w1 ⟨rfl, hb1⟩
  have Hb1 := hide hb1
  clear hb1
  go_wp2
  go_ret
  exact ⟨rfl, unhide Hb1⟩

def cut (a1 : Int) (len : Nat) : Nat := (max 0 (min a1 (len : Int))).toNat

theorem run_min (a1 : Int) (len : Nat) (w : World) : (Builtin.min_ #[3, 3] 3 #[.int .i64 a1, .int .i64 (len : Int)]).run Try.prog w = .ok (.int .i64 (min a1 (len : Int))) w := by
  simp [Builtin.min_, Builtin.min2]
  split <;> omega

theorem run_max (a1 : Int) (len : Nat) (w : World) : (Builtin.max_ #[3, 3] 3 #[.int .i64 0, .int .i64 (min a1 (len : Int))]).run Try.prog w = .ok (.int .i64 ((cut a1 len : Nat) : Int)) w := by
  simp [Builtin.max_, Builtin.max2, cut]
  split <;> omega

theorem sum_one (b : Nat) (a : Option Addr) (len cap : Nat) (bs : List (BitVec 8)) (w : World) (hcell : w.cell? ⟨b, 0, none⟩ = some (.slice a len cap)) (hr : Row w a len bs) :
    Calls Try.prog 9 #[.slice (some ⟨b, 0, none⟩) 1 1] w fun e w' => e = .returned (.int .u32 (N32 (Crc.more 0#32 bs))) ∧ w' = w := by
  have hp : Parts w (some ⟨b, 0, none⟩) 1 [bs] := ⟨rfl, by decide, fun i hi => by
    obtain rfl : i = 0 := by omega
    exact ⟨b, 0, a, len, cap, rfl, hcell, hr⟩⟩
  have h := sum_any (some ⟨b, 0, none⟩) 1 1 [bs] w hp
  simpa using h

theorem sum_three (b : Nat) (a a' : Option Addr) (len cap len' cap' : Nat) (bs bs' : List (BitVec 8)) (w : World) (h0 : w.cell? ⟨b, 0, none⟩ = some (.slice a len cap)) (h1 : w.cell? ⟨b, 1, none⟩ = some (.slice none 0 0)) (h2 : w.cell? ⟨b, 2, none⟩ = some (.slice a' len' cap'))
    (hr : Row w a len bs) (hr' : Row w a' len' bs') :
    Calls Try.prog 9 #[.slice (some ⟨b, 0, none⟩) 3 3] w fun e w' => e = .returned (.int .u32 (N32 (Crc.more 0#32 (bs ++ bs')))) ∧ w' = w := by
  have hp : Parts w (some ⟨b, 0, none⟩) 3 [bs, [], bs'] := ⟨rfl, by decide, fun i hi => by
    match i, hi with
    | 0, _ => exact ⟨b, 0, a, len, cap, rfl, h0, hr⟩
    | 1, _ => exact ⟨b, 0, none, 0, 0, rfl, h1, Row.nil _ _⟩
    | 2, _ => exact ⟨b, 0, a', len', cap', rfl, h2, hr'⟩⟩
  have h := sum_any (some ⟨b, 0, none⟩) 3 3 [bs, [], bs'] w hp
  simpa using h

theorem Row.drop {w : World} {a : Option Addr} {len cap : Nat} {bs : List (BitVec 8)} (h : Row w a len bs) (hc : len ≤ cap) (n : Nat) (hn : n ≤ len) : Row w (if cap = n then a else a.map fun x => x.add n) (len - n) (bs.drop n) := by
  refine ⟨by have := h.1; simp; omega, by have := h.2.1; omega, fun i hi => ?_⟩
  rw [if_neg (by omega)]
  obtain ⟨b, off, ha, hcell⟩ := h.2.2 (n + i) (by omega)
  refine ⟨b, off + n, by rw [ha]; simp [Addr.add_mid], ?_⟩
  rw [List.getD_eq_getElem?_getD, List.getElem?_drop, ← List.getD_eq_getElem?_getD, Nat.add_assoc]
  exact hcell

structure Inv (w : World) (a0 : Option Addr) (len0 : Nat) (bs : List (BitVec 8)) (w' : World) : Prop where
  below : Below w.heap.size w w'
  row : Row w' a0 len0 bs

theorem Inv.alloc {w : World} {a0 : Option Addr} {n : Nat} {A : List (BitVec 8)} {w' : World} (h : Inv w a0 n A w') (o : Obj) : Inv w a0 n A (w'.alloc o) :=
  ⟨h.below.alloc h.below.size _, h.row.alloc _⟩

theorem Inv.drew {w : World} {a0 : Option Addr} {n : Nat} {A : List (BitVec 8)} {w' : World} (h : Inv w a0 n A w') : Inv w a0 n A w'.drew :=
  ⟨h.below.drew, h.row⟩

def V7 (a0 : Option Addr) (len0 cap0 n : Nat) (bs : List (BitVec 8)) : Nat → Value → World → Prop
  | 0, v, _ => v = .slice a0 len0 cap0
  | 1, v, w => ∃ b, v = .slice (some ⟨b, 0, none⟩) 1 1 ∧ w.cell? ⟨b, 0, none⟩ = some (.slice a0 len0 cap0)
  | 2, v, _ => v = .int .u32 (N32 (Crc.more 0#32 bs))
  | 3, v, _ => v = .int .u32 (N32 (Crc.more 0#32 bs))
  | 4, v, _ => v = .bool true
  | 5, v, _ => v = .bool true
  | 6, v, _ => v = .slice a0 len0 cap0
  | 7, v, _ => v = .int .i64 (n : Int)
  | 8, v, _ => v = .slice a0 n cap0
  | 9, v, _ => v = .slice a0 len0 cap0
  | 10, v, _ => v = .int .i64 (n : Int)
  | 11, v, _ => v = .slice (if cap0 = n then a0 else a0.map fun x => x.add n) (len0 - n) (cap0 - n)
  | 12, v, w => ∃ b, v = .slice (some ⟨b, 0, none⟩) 3 3 ∧ w.cell? ⟨b, 0, none⟩ = some (.slice a0 n cap0) ∧ w.cell? ⟨b, 1, none⟩ = some (.slice none 0 0) ∧ w.cell? ⟨b, 2, none⟩ = some (.slice (if cap0 = n then a0 else a0.map fun x => x.add n) (len0 - n) (cap0 - n))
  | 13, v, _ => v = .int .u32 (N32 (Crc.more 0#32 bs))
  | 14, v, _ => v = .int .u32 (N32 (Crc.more 0#32 bs))
  | 15, v, _ => v = .bool true
  | 16, v, _ => v = .bool true
  | 17, v, _ => v = .bool true
  | 18, v, _ => v = .slice a0 len0 cap0
  | 19, v, _ => v = .int .i64 (n : Int)
  | 20, v, _ => v = .slice a0 n cap0
  | 21, v, w => ∃ b, v = .slice (some ⟨b, 0, none⟩) 1 1 ∧ w.cell? ⟨b, 0, none⟩ = some (.slice a0 n cap0)
  | 22, v, _ => v = .int .u32 (N32 (Crc.more 0#32 (bs.take n)))
  | 23, v, _ => v = .slice a0 len0 cap0
  | 24, v, _ => v = .int .i64 (n : Int)
  | 25, v, _ => v = .slice (if cap0 = n then a0 else a0.map fun x => x.add n) (len0 - n) (cap0 - n)
  | 26, v, _ => v = .int .u32 (N32 (Crc.more 0#32 bs))
  | 27, v, _ => v = .int .u32 (N32 (Crc.more 0#32 bs))
  | 28, v, _ => v = .bool true
  | 29, v, _ => v = .bool true
  | 30, v, _ => v = .bool true
  | 31, v, _ => v = .int .u32 0
  | 32, v, _ => v = .bool true
  | 33, v, _ => v = .bool true
  | 34, v, _ => v = .bool true
  | _, _, _ => True

theorem kept_cell {w w' : World} {b i : Nat} {v : Value} (h : w.cell? ⟨b, i, none⟩ = some v) (hb : Below w.heap.size w w') : w'.cell? ⟨b, i, none⟩ = some v :=
  (hb.cell (p := ⟨b, i, none⟩) (lt_of_cell h)).trans h

theorem V7.stable {a0 : Option Addr} {len0 cap0 n : Nat} {bs : List (BitVec 8)} (j : Nat) (v : Value) (w w' : World) (h : V7 a0 len0 cap0 n bs j v w) (hb : Below w.heap.size w w') : V7 a0 len0 cap0 n bs j v w' := by
  unfold V7 at *
  split at h
  all_goals first | exact h | skip
  all_goals obtain ⟨b, hv, hc⟩ := h
  all_goals first | exact ⟨b, hv, kept_cell hc hb⟩ | exact ⟨b, hv, kept_cell hc.1 hb, kept_cell hc.2.1 hb, kept_cell hc.2.2 hb⟩

set_option maxRecDepth 100000 in
set_option maxHeartbeats 3200000 in
theorem main (a0 : Option Addr) (len0 cap0 : Nat) (bs : List (BitVec 8)) (a1 : Int) (w : World) (hr : Row w a0 len0 bs) (hc : len0 ≤ cap0) (h : len0 ≤ 3000) :
    Calls Try.prog 3 #[.slice a0 len0 cap0, .int .i64 a1] w fun e w' => e = .returned (.bool true) ∧ Below w.heap.size w w' := by
  have hn : cut a1 len0 ≤ len0 := by unfold cut; omega
  have hmin := run_min a1 len0
  have hmax := run_max a1 len0
  generalize cut a1 len0 = n at *
  generalize min a1 (len0 : Int) = m at *
  have Hr := hide hr
  clear hr
  go_enter Try.func3, Try.ntmps3
  go_wp2_with fail
  refine (alive_any _).mono ?_
  rintro e w1 ⟨rfl, hb1⟩
  have Hb1 := hide hb1
  clear hb1
  go_wp2_with fail
  refine (Ref.ref_any a0 len0 cap0 bs w1 ((unhide Hr).below (unhide Hb1))).mono ?_
  rintro e w2 ⟨rfl, hb2⟩
  have hinv : Inv w a0 len0 bs w2 := ⟨(unhide Hb1).trans (hb2.mono (unhide Hb1).size), ((unhide Hr).below (unhide Hb1)).below hb2⟩
  clear hb2
  have k0 : (0 : Int) ≤ (n : Int) := Int.natCast_nonneg _
  have k1 : (n : Int) ≤ (cap0 : Int) := by omega
  have k2 : (n : Int) ≤ (len0 : Int) := by omega
  have htd : bs.take n ++ bs.drop n = bs := List.take_append_drop n bs
  go_wp2
  refine Free.wp_region_owes (V7 a0 len0 cap0 n bs) (Inv w a0 len0 bs) (by kernel_rfl) (by kernel_rfl) V7.stable hinv.drew ⟨?_, ?_, ?_, ?_, ?_, ?_, ?_, ?_, ?_, ?_, ?_, ?_, ?_, ?_, ?_, ?_, ?_, ?_, ?_, ?_, ?_, ?_, ?_, ?_, ?_, ?_, ?_, ?_, ?_, ?_, ?_, ?_, ?_, ?_, ?_, trivial⟩ ?_
  · exact Free.owed_move (Free.goes_plain rfl) (.inl rfl) fun a w' _ hs _ => hs 0 (by kernel_rfl)
  · refine Free.owed_value (Free.goes_plain rfl) fun a w' hC hs hd => ?_
    exact ⟨_, _, run_build rfl (hd 0 19 (by kernel_rfl)) w', (Below.refl _ _).alloc (Nat.le_refl _) _, hC.alloc _, w'.heap.size, rfl, cell_new w' _ _ _ 0⟩
  · refine Free.owed_call (Free.goes_plain rfl) fun a w' hC hs hd => ?_
    obtain ⟨b, h1, h2⟩ := hd 1 20 (by kernel_rfl)
    refine ⟨9, _, run_call9 rfl rfl h1 w', (sum_one _ _ _ _ _ w' h2 hC.row).mono ?_⟩
    rintro e w4 ⟨rfl, rfl⟩
    exact ⟨_, rfl, Below.refl _ _, hC, rfl⟩
  · exact Free.owed_move (Free.goes_plain rfl) (.inl rfl) fun a w' _ hs _ => hs 6 (by kernel_rfl)
  · refine Free.owed_pure (Free.goes_plain rfl) fun a w' hC hs hd => ?_
    refine ⟨_, run_eql rfl (hd 2 21 (by kernel_rfl)) (hd 3 22 (by kernel_rfl)) w', ?_⟩
    show Value.bool _ = Value.bool true
    simp
  · exact Free.owed_move (Free.goes_plain rfl) (.inl rfl) fun a w' _ _ hd => hd 4 23 (by kernel_rfl)
  · exact Free.owed_move (Free.goes_guard true rfl rfl rfl (by kernel_rfl) fun _ _ h => h) (.inl rfl) fun a w' _ hs _ => hs 0 (by kernel_rfl)
  · exact Free.owed_move (Free.goes_guard true rfl rfl rfl (by kernel_rfl) fun _ _ h => h) (.inl rfl) fun a w' _ hs _ => hs 5 (by kernel_rfl)
  · refine Free.owed_pure (Free.goes_guard true rfl rfl rfl (by kernel_rfl) fun _ _ h => h) fun a w' hC hs hd => ?_
    exact ⟨_, run_first rfl (hd 6 25 (by kernel_rfl)) (hd 7 26 (by kernel_rfl)) k1 k0 w', rfl⟩
  · exact Free.owed_move (Free.goes_guard true rfl rfl rfl (by kernel_rfl) fun _ _ h => h) (.inl rfl) fun a w' _ hs _ => hs 0 (by kernel_rfl)
  · exact Free.owed_move (Free.goes_guard true rfl rfl rfl (by kernel_rfl) fun _ _ h => h) (.inl rfl) fun a w' _ hs _ => hs 5 (by kernel_rfl)
  · refine Free.owed_pure (Free.goes_guard true rfl rfl rfl (by kernel_rfl) fun _ _ h => h) fun a w' hC hs hd => ?_
    exact ⟨_, run_from rfl (hd 9 28 (by kernel_rfl)) (hd 10 29 (by kernel_rfl)) k2 k0 w', rfl⟩
  · refine Free.owed_value (Free.goes_guard true rfl rfl rfl (by kernel_rfl) fun _ _ h => h) fun a w' hC hs hd => ?_
    exact ⟨_, _, run_build3 rfl (hd 8 27 (by kernel_rfl)) rfl (hd 11 30 (by kernel_rfl)) w', (Below.refl _ _).alloc (Nat.le_refl _) _, hC.alloc _, w'.heap.size, rfl, cell_new w' _ _ _ 0, cell_new w' _ _ _ 1, cell_new w' _ _ _ 2⟩
  · refine Free.owed_call (Free.goes_guard true rfl rfl rfl (by kernel_rfl) fun _ _ h => h) fun a w' hC hs hd => ?_
    obtain ⟨b, h1, h2, h3, h4⟩ := hd 12 31 (by kernel_rfl)
    refine ⟨9, _, run_call9 rfl rfl h1 w', (sum_three _ _ _ _ _ _ _ _ _ w' h2 h3 h4 (hC.row.take n hn) (Row.drop hC.row hc n hn)).mono ?_⟩
    rintro e w4 ⟨rfl, rfl⟩
    refine ⟨_, rfl, Below.refl _ _, hC, ?_⟩
    rw [htd]
    rfl
  · exact Free.owed_move (Free.goes_guard true rfl rfl rfl (by kernel_rfl) fun _ _ h => h) (.inl rfl) fun a w' _ hs _ => hs 6 (by kernel_rfl)
  · refine Free.owed_pure (Free.goes_guard true rfl rfl rfl (by kernel_rfl) fun _ _ h => h) fun a w' hC hs hd => ?_
    refine ⟨_, run_eql rfl (hd 13 32 (by kernel_rfl)) (hd 14 33 (by kernel_rfl)) w', ?_⟩
    show Value.bool _ = Value.bool true
    simp
  · refine Free.owed_pure (Free.goes_plain rfl) fun a w' hC hs hd => ?_
    exact ⟨_, run_pick rfl (hd 5 24 (by kernel_rfl)) (hd 15 34 (by kernel_rfl)) w', rfl⟩
  · exact Free.owed_move (Free.goes_plain rfl) (.inl rfl) fun a w' _ _ hd => hd 16 35 (by kernel_rfl)
  · exact Free.owed_move (Free.goes_guard true rfl rfl rfl (by kernel_rfl) fun _ _ h => h) (.inl rfl) fun a w' _ hs _ => hs 0 (by kernel_rfl)
  · exact Free.owed_move (Free.goes_guard true rfl rfl rfl (by kernel_rfl) fun _ _ h => h) (.inl rfl) fun a w' _ hs _ => hs 5 (by kernel_rfl)
  · refine Free.owed_pure (Free.goes_guard true rfl rfl rfl (by kernel_rfl) fun _ _ h => h) fun a w' hC hs hd => ?_
    exact ⟨_, run_first rfl (hd 18 37 (by kernel_rfl)) (hd 19 38 (by kernel_rfl)) k1 k0 w', rfl⟩
  · refine Free.owed_value (Free.goes_guard true rfl rfl rfl (by kernel_rfl) fun _ _ h => h) fun a w' hC hs hd => ?_
    exact ⟨_, _, run_build rfl (hd 20 39 (by kernel_rfl)) w', (Below.refl _ _).alloc (Nat.le_refl _) _, hC.alloc _, w'.heap.size, rfl, cell_new w' _ _ _ 0⟩
  · refine Free.owed_call (Free.goes_guard true rfl rfl rfl (by kernel_rfl) fun _ _ h => h) fun a w' hC hs hd => ?_
    obtain ⟨b, h1, h2⟩ := hd 21 40 (by kernel_rfl)
    refine ⟨9, _, run_call9 rfl rfl h1 w', (sum_one _ _ _ _ _ w' h2 (hC.row.take n hn)).mono ?_⟩
    rintro e w4 ⟨rfl, rfl⟩
    exact ⟨_, rfl, Below.refl _ _, hC, rfl⟩
  · exact Free.owed_move (Free.goes_guard true rfl rfl rfl (by kernel_rfl) fun _ _ h => h) (.inl rfl) fun a w' _ hs _ => hs 0 (by kernel_rfl)
  · exact Free.owed_move (Free.goes_guard true rfl rfl rfl (by kernel_rfl) fun _ _ h => h) (.inl rfl) fun a w' _ hs _ => hs 5 (by kernel_rfl)
  · refine Free.owed_pure (Free.goes_guard true rfl rfl rfl (by kernel_rfl) fun _ _ h => h) fun a w' hC hs hd => ?_
    exact ⟨_, run_from rfl (hd 23 42 (by kernel_rfl)) (hd 24 43 (by kernel_rfl)) k2 k0 w', rfl⟩
  · refine Free.owed_call (Free.goes_guard true rfl rfl rfl (by kernel_rfl) fun _ _ h => h) fun a w' hC hs hd => ?_
    refine ⟨10, _, run_call10 rfl rfl (hd 22 41 (by kernel_rfl)) (hd 25 44 (by kernel_rfl)) w', (more_any _ _ _ _ _ w' (Row.drop hC.row hc n hn)).mono ?_⟩
    rintro e w4 ⟨rfl, rfl⟩
    refine ⟨_, rfl, Below.refl _ _, hC, ?_⟩
    rw [← Crc.more_append, htd]
    rfl
  · exact Free.owed_move (Free.goes_guard true rfl rfl rfl (by kernel_rfl) fun _ _ h => h) (.inl rfl) fun a w' _ hs _ => hs 6 (by kernel_rfl)
  · refine Free.owed_pure (Free.goes_guard true rfl rfl rfl (by kernel_rfl) fun _ _ h => h) fun a w' hC hs hd => ?_
    refine ⟨_, run_eql rfl (hd 26 45 (by kernel_rfl)) (hd 27 46 (by kernel_rfl)) w', ?_⟩
    show Value.bool _ = Value.bool true
    simp
  · refine Free.owed_pure (Free.goes_plain rfl) fun a w' hC hs hd => ?_
    exact ⟨_, run_pick rfl (hd 17 36 (by kernel_rfl)) (hd 28 47 (by kernel_rfl)) w', rfl⟩
  · exact Free.owed_move (Free.goes_plain rfl) (.inl rfl) fun a w' _ _ hd => hd 29 48 (by kernel_rfl)
  · refine Free.owed_call (Free.goes_guard true rfl rfl rfl (by kernel_rfl) fun _ _ h => h) fun a w' hC hs hd => ?_
    refine ⟨9, _, run_call9c rfl rfl rfl w', (sum_any none 0 0 [] w' ⟨rfl, by decide, fun i hi => by omega⟩).mono ?_⟩
    rintro e w4 ⟨rfl, rfl⟩
    exact ⟨_, rfl, Below.refl _ _, hC, by rw [List.flatten_nil, Crc.more_nil]; rfl⟩
  · refine Free.owed_pure (Free.goes_guard true rfl rfl rfl (by kernel_rfl) fun _ _ h => h) fun a w' hC hs hd => ?_
    refine ⟨_, run_eqlc rfl (hd 31 50 (by kernel_rfl)) rfl w', ?_⟩
    show Value.bool _ = Value.bool true
    simp
  · refine Free.owed_pure (Free.goes_plain rfl) fun a w' hC hs hd => ?_
    exact ⟨_, run_pick rfl (hd 30 49 (by kernel_rfl)) (hd 32 51 (by kernel_rfl)) w', rfl⟩
  · exact Free.owed_move (Free.goes_plain rfl) (.inr rfl) fun a w' _ _ hd => hd 33 52 (by kernel_rfl)
  · intro w3 hC vals hv
    have hb3 := hC.below
    have e34 : vals 34 = .bool true := hv 34 _ 4 rfl rfl
    have HB := hide hb3
    clear hb3 hC hv
    simp only [Free.putAll, Act.put, List.setIfInBounds_toArray, List.set_cons_succ, List.set_cons_zero, e34]
    clear e34
    go_wp2
    go_ret
    exact ⟨rfl, unhide HB⟩

end Go.Proofs.Ytcbiaggdfhifmaa.crcTells
