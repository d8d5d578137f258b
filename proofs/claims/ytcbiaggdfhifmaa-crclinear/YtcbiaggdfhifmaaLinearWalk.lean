/-
  The walk of CrcLinear.
-/
import Derived.Test.YtcbiaggdfhifmaaKit
import Derived.Test.YtcbiaggdfhifmaaLinearMath
import Derived.Test.YtcbiaggdfhifmaaTurnedWalk
import Derived.Deep.RegionHeld3
import Derived.Deep.AppendLies
import Derived.Test.YtcbiaggdfhifmaaOps
namespace Go.Proofs.Ytcbiaggdfhifmaa.crcLinear
open Go.RowKit
open Go.Proofs.Ytcbiaggdfhifmaa.crcTurned (Try.info5 xor8 Row.owned)

def least (a b c : Nat) : Nat := min (min (min a b) c) 2000

theorem run_min4 (a b c : Nat) (w : World) : (Builtin.min_ #[3, 3, 3, 3] 3 #[.int .i64 (a : Int), .int .i64 (b : Int), .int .i64 (c : Int), .int .i64 2000]).run Try.prog w = .ok (.int .i64 ((least a b c : Nat) : Int)) w := by
  simp [Builtin.min_, Builtin.min2, least]
  repeat' split
  all_goals omega

structure Inv (w : World) (a0 a1 a2 : Option Addr) (g n : Nat) (A B C : List (BitVec 8)) (w' : World) : Prop where
  below : Below w.heap.size w w'
  r3 : Row w' (some ⟨g, 0, none⟩) n (Crc.xor3 A B C)
  r0 : Row w' a0 n A
  r1 : Row w' a1 n B
  r2 : Row w' a2 n C

theorem Inv.alloc {w : World} {a0 a1 a2 : Option Addr} {g n : Nat} {A B C : List (BitVec 8)} {w' : World} (h : Inv w a0 a1 a2 g n A B C w') (o : Obj) : Inv w a0 a1 a2 g n A B C (w'.alloc o) :=
  ⟨h.below.alloc h.below.size _, h.r3.alloc _, h.r0.alloc _, h.r1.alloc _, h.r2.alloc _⟩

theorem Inv.drew {w : World} {a0 a1 a2 : Option Addr} {g n : Nat} {A B C : List (BitVec 8)} {w' : World} (h : Inv w a0 a1 a2 g n A B C w') : Inv w a0 a1 a2 g n A B C w'.drew :=
  ⟨h.below.drew, h.r3, h.r0, h.r1, h.r2⟩

theorem sum_one (b : Nat) (a : Option Addr) (len cap : Nat) (bs : List (BitVec 8)) (w : World) (hcell : w.cell? ⟨b, 0, none⟩ = some (.slice a len cap)) (hr : Row w a len bs) :
    Calls Try.prog 9 #[.slice (some ⟨b, 0, none⟩) 1 1] w fun e w' => e = .returned (.int .u32 (N32 (Crc.more 0#32 bs))) ∧ w' = w := by
  have hp : Parts w (some ⟨b, 0, none⟩) 1 [bs] := ⟨rfl, by decide, fun i hi => by
    obtain rfl : i = 0 := by omega
    exact ⟨b, 0, a, len, cap, rfl, hcell, hr⟩⟩
  have h := sum_any (some ⟨b, 0, none⟩) 1 1 [bs] w hp
  simpa using h

theorem cell_here (w : World) (v : Value) (b : Nat) (hb : b = w.heap.size) : ((w.alloc (.cells #[v] 22)).drew).cell? ⟨b, 0, none⟩ = some v := by
  subst hb
  exact cell_new w #[v] 22 (0, 0) 0

theorem cell_past (w : World) (o : Obj) (b : Nat) (v : Value) (_hb : b < w.heap.size) (h : (w.drew).cell? ⟨b, 0, none⟩ = some v) : ((w.alloc o).drew).cell? ⟨b, 0, none⟩ = some v :=
  Lib.cell?_alloc_marked o h

/-- A new slice of one element. -/
def One (v : Value) (w : World) (x : Value) : Prop := ∃ b, v = .slice (some ⟨b, 0, none⟩) 1 1 ∧ w.cell? ⟨b, 0, none⟩ = some x

theorem One.below {v x : Value} {w w' : World} (h : One v w x) (hb : Below w.heap.size w w') : One v w' x := by
  obtain ⟨b, hv, hc⟩ := h
  exact ⟨b, hv, (hb.cell (p := ⟨b, 0, none⟩) (lt_of_cell hc)).trans hc⟩

def V9 (g k cap : Nat) (a0 a1 a2 : Option Addr) (len0 cap0 len1 cap1 len2 cap2 : Nat) (A B C : List (BitVec 8)) : Nat → Value → World → Prop
  | 0, v, _ => v = .slice (some ⟨g, 0, none⟩) k cap
  | 1, v, w => One v w (.slice (some ⟨g, 0, none⟩) k cap)
  | 2, v, _ => v = .int .u32 (N32 (Crc.more 0#32 (Crc.xor3 A B C)))
  | 3, v, _ => v = .slice a0 len0 cap0
  | 4, v, _ => v = .int .i64 (k : Int)
  | 5, v, _ => v = .slice a0 k cap0
  | 6, v, w => One v w (.slice a0 k cap0)
  | 7, v, _ => v = .int .u32 (N32 (Crc.more 0#32 A))
  | 8, v, _ => v = .slice a1 len1 cap1
  | 9, v, _ => v = .int .i64 (k : Int)
  | 10, v, _ => v = .slice a1 k cap1
  | 11, v, w => One v w (.slice a1 k cap1)
  | 12, v, _ => v = .int .u32 (N32 (Crc.more 0#32 B))
  | 13, v, _ => v = .int .u32 (N32 (Crc.more 0#32 A ^^^ Crc.more 0#32 B))
  | 14, v, _ => v = .slice a2 len2 cap2
  | 15, v, _ => v = .int .i64 (k : Int)
  | 16, v, _ => v = .slice a2 k cap2
  | 17, v, w => One v w (.slice a2 k cap2)
  | 18, v, _ => v = .int .u32 (N32 (Crc.more 0#32 C))
  | 19, v, _ => v = .int .u32 (N32 (Crc.more 0#32 A ^^^ Crc.more 0#32 B ^^^ Crc.more 0#32 C))
  | 20, v, _ => v = .bool true
  | 21, v, _ => v = .bool true
  | _, _, _ => True

theorem V9.stable {g k cap : Nat} {a0 a1 a2 : Option Addr} {len0 cap0 len1 cap1 len2 cap2 : Nat} {A B C : List (BitVec 8)} (j : Nat) (v : Value) (w w' : World) (h : V9 g k cap a0 a1 a2 len0 cap0 len1 cap1 len2 cap2 A B C j v w) (hb : Below w.heap.size w w') : V9 g k cap a0 a1 a2 len0 cap0 len1 cap1 len2 cap2 A B C j v w' := by
  unfold V9 at *
  split at h <;> first | exact h | exact h.below hb

theorem owned_base {w : World} {base e size g n cap : Nat} {xs : List Value} (h : w.ownsRow base e size (.slice (some ⟨g, 0, none⟩) n cap) n xs) : base ≤ g := by
  rcases h.2 with ⟨h, _⟩ | ⟨g', cap', _, h, hg, _⟩
  · simp at h
  · simp at h; omega

set_option maxRecDepth 100000 in
set_option maxHeartbeats 3200000 in
theorem walk0 (a0 : Option Addr) (len0 cap0 : Nat) (A : List (BitVec 8)) (a1 : Option Addr) (len1 cap1 : Nat) (B : List (BitVec 8)) (a2 : Option Addr) (len2 cap2 : Nat) (C : List (BitVec 8)) (n : Nat) (w : World)
    (hA : Row w a0 n A) (hB : Row w a1 n B) (hC : Row w a2 n C) (hc0 : len0 ≤ cap0) (hc1 : len1 ≤ cap1) (hc2 : len2 ≤ cap2) (hn : least len0 len1 len2 = n) :
    Calls Try.prog 5 #[.slice a0 len0 cap0, .slice a1 len1 cap1, .slice a2 len2 cap2] w fun e w' => e = .returned (.bool true) ∧ Below w.heap.size w w' := by
  obtain ⟨i0, hi, hz0, hz1, hz2⟩ := info_parts Try.info5
  have hm := run_min4 len0 len1 len2
  rw [hn] at hm
  have hn0 : n ≤ len0 := by rw [← hn]; unfold least; omega
  have hn1 : n ≤ len1 := by rw [← hn]; unfold least; omega
  have hn2 : n ≤ len2 := by rw [← hn]; unfold least; omega
  have hn3 : n ≤ 2000 := by rw [← hn]; unfold least; omega
  clear hn
  have HA := hide hA
  have HB := hide hB
  have HC := hide hC
  have hlA := hA.1
  have hlB := hB.1
  have hlC := hC.1
  clear hA hB hC
  have hlx := Crc.xor3_length A B C n hlA hlB hlC
  have HlA := hide hlA
  have HlB := hide hlB
  have HlC := hide hlC
  have Hlx := hide hlx
  clear hlA hlB hlC hlx
  go_enter Try.func5, Try.ntmps5
  go_wp2_with fail
  refine (alive_any _).mono ?_
  rintro e w1 ⟨rfl, hb1⟩
  have Hb1 := hide hb1
  clear hb1
  go_wp2
  go_loopw [8, 9] (fun v i wr => ∃ k : Nat, k ≤ n ∧ i = .int .i64 k ∧ (∃ g cap, v = .slice (some ⟨g, 0, none⟩) k cap ∧ wr.ownsRow w.heap.size 5 1 (.slice (some ⟨g, 0, none⟩) k cap) k (((Crc.xor3 A B C).take k).map fun c => Value.int .u8 ((c.toNat : Nat) : Int))) ∧ Below w.heap.size w wr) (fun _ i _ => n - (intOf i).toNat)
  case atStart => exact ⟨0, by omega, rfl, ⟨w1.heap.size, 0, rfl, World.ownsRow_lit w1 #[] 0 (unhide Hb1).size (by decide) rfl⟩, (unhide Hb1).alloc (unhide Hb1).size _⟩
  case round =>
    obtain ⟨k, hk, rfl, ⟨g, cap, rfl, hown⟩, hb⟩ := hrel
    have Hown := hide hown
    have Hbr := hide hb
    clear hown hb
    by_cases hlt : k < n
    · obtain ⟨b0, o0, rfl, e0⟩ := (unhide HA).2.2 k hlt
      obtain ⟨b1, o1, rfl, e1⟩ := (unhide HB).2.2 k hlt
      obtain ⟨b2, o2, rfl, e2⟩ := (unhide HC).2.2 k hlt
      have hx := Crc.xor3_getD A B C n k (unhide HlA) (unhide HlB) (unhide HlC) hlt
      have Hx := hide hx
      clear hx
      have f0 := ((unhide Hbr).cell (p := ⟨b0, o0 + k, none⟩) (lt_of_cell e0)).trans e0
      have f1 := ((unhide Hbr).cell (p := ⟨b1, o1 + k, none⟩) (lt_of_cell e1)).trans e1
      have f2 := ((unhide Hbr).cell (p := ⟨b2, o2 + k, none⟩) (lt_of_cell e2)).trans e2
      have q0 := e0
      have q1 := e1
      have q2 := e2
      clear e0 e1 e2
      generalize A.getD k 0 = x at *
      generalize B.getD k 0 = y at *
      generalize C.getD k 0 = z at *
      have k0 : (0 : Int) ≤ (k : Int) := Int.natCast_nonneg _
      have l0 : (k : Int) < (len0 : Int) := by omega
      have l1 : (k : Int) < (len1 : Int) := by omega
      have l2 : (k : Int) < (len2 : Int) := by omega
      have n0 := World.block_lt_of_cell? wr _ f0
      have n1 := World.block_lt_of_cell? wr _ f1
      have n2 := World.block_lt_of_cell? wr _ f2
      have m0 : b0 < w.heap.size := lt_of_cell q0
      have m1 : b1 < w.heap.size := lt_of_cell q1
      have m2 : b2 < w.heap.size := lt_of_cell q2
      have mg : w.heap.size ≤ g := owned_base (unhide Hown)
      clear q0 q1 q2
      obtain ⟨p, hp⟩ : ∃ p : Int, bits .xor .u8 ((x.toNat : Nat) : Int) ((y.toNat : Nat) : Int) = p := ⟨_, rfl⟩
      obtain ⟨q, hq⟩ : ∃ q : Int, bits .xor .u8 p ((z.toNat : Nat) : Int) = q := ⟨_, rfl⟩
      have Hq : Hid (q = (((x ^^^ y ^^^ z).toNat : Nat) : Int)) := by
        show q = _
        rw [← hq, ← hp, xor8, xor8]
      have hsz := (unhide Hbr).size
      go_wp2
      go_region_held3 (fun w' => w'.cell? ⟨b0, o0 + k, none⟩ = some (.int .u8 ((x.toNat : Nat) : Int)) ∧ w'.cell? ⟨b1, o1 + k, none⟩ = some (.int .u8 ((y.toNat : Nat) : Int)) ∧ w'.cell? ⟨b2, o2 + k, none⟩ = some (.int .u8 ((z.toNat : Nat) : Int)))
        (first
          | go_keep
          | (go_split_ands
             refine ⟨?_, ?_, ?_⟩
             · (rw [hgrow.cell_far _ (by simp; omega) (by simp [Value.ownBlock]; omega)]; assumption)
             · (rw [hgrow.cell_far _ (by simp; omega) (by simp [Value.ownBlock]; omega)]; assumption)
             · (rw [hgrow.cell_far _ (by simp; omega) (by simp [Value.ownBlock]; omega)]; assumption)))
        ((refine step_append_lies _ (by rfl) _ _ _ (by rfl) w.heap.size 5 i0 (.int .u8 0) 1 1 Try.underlying22 hi hz0 hz1 hz2 rfl (by decide) (.slice (some ⟨g, 0, none⟩) k cap) k _ (by rfl) (((unhide Hown).alloc _).drew)
            ⟨wr.heap.size, 0, none⟩ 1 1 [.int .u8 q] (by rfl) (by rfl) (World.news_of_block (cs := #[.int .u8 q]) (t := 5) (fr := (0, 0)) (heap_alloc_new wr _)) (by simp [Value.oneCell'])
            (by omega) (by unfold maxLen; omega) (by omega) (by simp; omega) (wr.heap.size + 1) (by simp) ?_; intro gg cap1 w2 hown1 hgrow hat hlt1))
      have hts := take_snoc (Crc.xor3 A B C) k (by have := unhide Hlx; omega)
      have R : w2.ownsRow w.heap.size 5 1 (.slice (some ⟨gg, 0, none⟩) (k + 1) cap1) (k + 1) (((Crc.xor3 A B C).take (k + 1)).map fun c => Value.int .u8 ((c.toNat : Nat) : Int)) := by
        rw [hts, unhide Hx, List.map_append, List.map_cons, List.map_nil, ← unhide Hq]
        exact hown1
      have Rb : Below w.heap.size w w2 := by
        refine Below.grown (((unhide Hbr).alloc hsz _).drew) hgrow (by simp; omega) ?_
        intro j hj
        simp [Value.ownBlock] at hj
        omega
      have HR := hide R
      have HRb := hide Rb
      clear hts R Rb hown1 hgrow hat hlt1
      go_wp2
      go_roundw
      case rel => exact ⟨k + 1, by omega, by go_num, ⟨gg, cap1, rfl, unhide HR⟩, unhide HRb⟩
      case measure => simp [intOf]; omega
    · obtain rfl : k = n := by omega
      have hts : (Crc.xor3 A B C).take k = Crc.xor3 A B C := List.take_of_length_le (by have := unhide Hlx; omega)
      have hr3 : Row wr (some ⟨g, 0, none⟩) k (Crc.xor3 A B C) := by
        have h := unhide Hown
        rw [hts] at h
        exact Row.owned (by omega) (unhide Hlx) h
      have hinv : Inv w a0 a1 a2 g k A B C wr := ⟨unhide Hbr, hr3, (unhide HA).below (unhide Hbr), (unhide HB).below (unhide Hbr), (unhide HC).below (unhide Hbr)⟩
      clear hts hr3
      go_wp2
      have k0 : (0 : Int) ≤ (k : Int) := Int.natCast_nonneg _
      have l0 : (k : Int) ≤ (cap0 : Int) := by omega
      have l1 : (k : Int) ≤ (cap1 : Int) := by omega
      have l2 : (k : Int) ≤ (cap2 : Int) := by omega
      refine Free.wp_region_owes (V9 g k cap a0 a1 a2 len0 cap0 len1 cap1 len2 cap2 A B C) (Inv w a0 a1 a2 g k A B C) (by kernel_rfl) (by kernel_rfl) V9.stable hinv.drew ⟨?_, ?_, ?_, ?_, ?_, ?_, ?_, ?_, ?_, ?_, ?_, ?_, ?_, ?_, ?_, ?_, ?_, ?_, ?_, ?_, ?_, ?_, trivial⟩ ?_
      · exact Free.owed_move (Free.goes_plain rfl) (.inl rfl) fun a w' _ hs _ => hs 8 (by kernel_rfl)
      · refine Free.owed_value (Free.goes_plain rfl) fun a w' hC hs hd => ?_
        have h1 := hd 0 42 (by kernel_rfl)
        exact ⟨_, _, run_build rfl h1 w', (Below.refl _ _).alloc (Nat.le_refl _) _, hC.alloc _, w'.heap.size, rfl, cell_new w' _ _ _ 0⟩
      · refine Free.owed_call (Free.goes_plain rfl) fun a w' hC hs hd => ?_
        obtain ⟨b, h1, h2⟩ := hd 1 43 (by kernel_rfl)
        refine ⟨9, _, run_call9 rfl rfl h1 w', (sum_one _ _ _ _ _ w' h2 hC.r3).mono ?_⟩
        rintro e w4 ⟨rfl, rfl⟩
        exact ⟨_, rfl, Below.refl _ _, hC, rfl⟩
      · exact Free.owed_move (Free.goes_plain rfl) (.inl rfl) fun a w' _ hs _ => hs 0 (by kernel_rfl)
      · exact Free.owed_move (Free.goes_plain rfl) (.inl rfl) fun a w' _ hs _ => hs 7 (by kernel_rfl)
      · refine Free.owed_pure (Free.goes_plain rfl) fun a w' hC hs hd => ?_
        have h1 := hd 3 45 (by kernel_rfl)
        have h2 := hd 4 46 (by kernel_rfl)
        exact ⟨_, run_first rfl h1 h2 (by omega) (by omega) w', rfl⟩
      · refine Free.owed_value (Free.goes_plain rfl) fun a w' hC hs hd => ?_
        have h1 := hd 5 47 (by kernel_rfl)
        exact ⟨_, _, run_build rfl h1 w', (Below.refl _ _).alloc (Nat.le_refl _) _, hC.alloc _, w'.heap.size, rfl, cell_new w' _ _ _ 0⟩
      · refine Free.owed_call (Free.goes_plain rfl) fun a w' hC hs hd => ?_
        obtain ⟨b, h1, h2⟩ := hd 6 48 (by kernel_rfl)
        refine ⟨9, _, run_call9 rfl rfl h1 w', (sum_one _ _ _ _ _ w' h2 hC.r0).mono ?_⟩
        rintro e w4 ⟨rfl, rfl⟩
        exact ⟨_, rfl, Below.refl _ _, hC, rfl⟩
      · exact Free.owed_move (Free.goes_plain rfl) (.inl rfl) fun a w' _ hs _ => hs 1 (by kernel_rfl)
      · exact Free.owed_move (Free.goes_plain rfl) (.inl rfl) fun a w' _ hs _ => hs 7 (by kernel_rfl)
      · refine Free.owed_pure (Free.goes_plain rfl) fun a w' hC hs hd => ?_
        have h1 := hd 8 50 (by kernel_rfl)
        have h2 := hd 9 51 (by kernel_rfl)
        exact ⟨_, run_first rfl h1 h2 (by omega) (by omega) w', rfl⟩
      · refine Free.owed_value (Free.goes_plain rfl) fun a w' hC hs hd => ?_
        have h1 := hd 10 52 (by kernel_rfl)
        exact ⟨_, _, run_build rfl h1 w', (Below.refl _ _).alloc (Nat.le_refl _) _, hC.alloc _, w'.heap.size, rfl, cell_new w' _ _ _ 0⟩
      · refine Free.owed_call (Free.goes_plain rfl) fun a w' hC hs hd => ?_
        obtain ⟨b, h1, h2⟩ := hd 11 53 (by kernel_rfl)
        refine ⟨9, _, run_call9 rfl rfl h1 w', (sum_one _ _ _ _ _ w' h2 hC.r1).mono ?_⟩
        rintro e w4 ⟨rfl, rfl⟩
        exact ⟨_, rfl, Below.refl _ _, hC, rfl⟩
      · refine Free.owed_pure (Free.goes_plain rfl) fun a w' hC hs hd => ?_
        have h1 := hd 7 49 (by kernel_rfl)
        have h2 := hd 12 54 (by kernel_rfl)
        exact ⟨_, run_xor rfl h1 h2 w', rfl⟩
      · exact Free.owed_move (Free.goes_plain rfl) (.inl rfl) fun a w' _ hs _ => hs 2 (by kernel_rfl)
      · exact Free.owed_move (Free.goes_plain rfl) (.inl rfl) fun a w' _ hs _ => hs 7 (by kernel_rfl)
      · refine Free.owed_pure (Free.goes_plain rfl) fun a w' hC hs hd => ?_
        have h1 := hd 14 56 (by kernel_rfl)
        have h2 := hd 15 57 (by kernel_rfl)
        exact ⟨_, run_first rfl h1 h2 (by omega) (by omega) w', rfl⟩
      · refine Free.owed_value (Free.goes_plain rfl) fun a w' hC hs hd => ?_
        have h1 := hd 16 58 (by kernel_rfl)
        exact ⟨_, _, run_build rfl h1 w', (Below.refl _ _).alloc (Nat.le_refl _) _, hC.alloc _, w'.heap.size, rfl, cell_new w' _ _ _ 0⟩
      · refine Free.owed_call (Free.goes_plain rfl) fun a w' hC hs hd => ?_
        obtain ⟨b, h1, h2⟩ := hd 17 59 (by kernel_rfl)
        refine ⟨9, _, run_call9 rfl rfl h1 w', (sum_one _ _ _ _ _ w' h2 hC.r2).mono ?_⟩
        rintro e w4 ⟨rfl, rfl⟩
        exact ⟨_, rfl, Below.refl _ _, hC, rfl⟩
      · refine Free.owed_pure (Free.goes_plain rfl) fun a w' hC hs hd => ?_
        have h1 := hd 13 55 (by kernel_rfl)
        have h2 := hd 18 60 (by kernel_rfl)
        exact ⟨_, run_xor rfl h1 h2 w', rfl⟩
      · refine Free.owed_pure (Free.goes_plain rfl) fun a w' hC hs hd => ?_
        have h1 := hd 2 44 (by kernel_rfl)
        have h2 := hd 19 61 (by kernel_rfl)
        refine ⟨_, run_eql rfl h1 h2 w', ?_⟩
        show Value.bool _ = Value.bool true
        rw [Crc.more_xor3 A B C k 0#32 (unhide HlA) (unhide HlB) (unhide HlC)]
        simp
      · exact Free.owed_move (Free.goes_plain rfl) (.inr rfl) fun a w' _ hs hd => hd 20 62 (by kernel_rfl)
      · intro w3 hC vals hv
        have hb3 := hC.below
        have e21 : vals 21 = .bool true := hv 21 _ 6 rfl rfl
        have HB := hide hb3
        clear hb3 hC hv
        simp only [Free.putAll, Act.put, List.setIfInBounds_toArray, List.set_cons_succ, List.set_cons_zero, e21]
        clear e21
        go_wp2
        go_ret
        exact ⟨rfl, unhide HB⟩

end Go.Proofs.Ytcbiaggdfhifmaa.crcLinear
