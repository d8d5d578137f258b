/-
  GlyphCuts returns true, whatever the text and the number.
-/
import Derived.Test.YtdgebadjlkmdiaaDoorOps
namespace Go.Proofs.YtdgebadjlkmdiaaDoor.glyphCuts
open Go.RowKit

def V6 (s hd tl : ByteArray) (n m A T N : Int) : Nat → Value
  | 0 => .string hd
  | 1 => .int .i64 (hd.size : Int)
  | 2 => .string s
  | 3 => .int .i64 (s.size : Int)
  | 4 => .bool false
  | 5 => .bool false
  | 6 => .string s
  | 7 => .string hd
  | 8 => .int .i64 (hd.size : Int)
  | 9 => .string hd
  | 10 => .string hd
  | 11 => .bool false
  | 12 => .bool false
  | 13 => .bool false
  | 14 => .string hd
  | 15 => .int .i64 A
  | 16 => .int .i64 n
  | 17 => .string s
  | 18 => .int .i64 N
  | 19 => .int .i64 m
  | 20 => .int .i64 A
  | 21 => .bool false
  | 22 => .bool false
  | 23 => .bool false
  | 24 => .string hd
  | 25 => .int .i64 A
  | 26 => .string s
  | 27 => .string hd
  | 28 => .int .i64 (hd.size : Int)
  | 29 => .string tl
  | 30 => .int .i64 T
  | 31 => .int .i64 N
  | 32 => .string s
  | 33 => .int .i64 N
  | 34 => .bool false
  | 35 => .bool false
  | _ => .bool false

def V14 (s hd tl sh st ss : ByteArray) : Nat → Value
  | 0 => .string hd
  | 1 => .string sh
  | 2 => .string s
  | 3 => .string hd
  | 4 => .int .i64 (hd.size : Int)
  | 5 => .string tl
  | 6 => .string st
  | 7 => .string ss
  | 8 => .string ss
  | 9 => .bool true
  | 10 => .bool true
  | _ => .bool false

theorem show_cut (l : List UInt8) (k : Nat) : showL (((runes l).take k).flatMap Ru.bytes) ++ showL (l.drop (((runes l).take k).flatMap Ru.bytes).length) = showL l := by
  unfold showL
  rw [runes_take, runes_drop, ← List.flatMap_append, List.take_append_drop]

theorem tx_append (a b : List UInt8) : tx a ++ tx b = tx (a ++ b) := by
  apply ByteArray.ext
  simp [tx]

set_option maxHeartbeats 16000000 in
set_option maxRecDepth 1000000 in
theorem walk (s : ByteArray) (n : Int) (W : World) (hE : Env W) (hs : s.size ≤ maxLen) (hn : (Lit.int .i64 n).wf = true) :
    Calls Tryd.prog 6 #[.string s, .int .i64 n] W fun e W' => e = .returned (.bool true) ∧ Below W.heap.size W W' := by
  have hn1 : -9223372036854775808 ≤ n ∧ n ≤ 9223372036854775807 := by simpa [Lit.wf, IntKind.min, IntKind.max, IntKind.signed, IntKind.bits] using hn
  obtain ⟨hn1, hn2⟩ := hn1
  have hsz : (s.size : Int) ≤ 9223372036854775807 := by simp only [maxLen] at hs; omega
  clear hs hn
  by_cases h500 : 500 < s.size
  · have h500' : 500 < (s.size : Int) := by omega
    go_enter Tryd.func6, Tryd.ntmps6
    go_wp2_with (go_at_call 8; refine (alive_walk W hE).mono ?_; rintro e w1 ⟨rfl, hb1⟩)
    go_ret
    exact ⟨rfl, hb1⟩
  · have h500' : ¬ 500 < (s.size : Int) := by omega
    obtain ⟨H, hH⟩ : ∃ H, H = ((runes s.data.toList).take n.toNat).flatMap Ru.bytes := ⟨_, rfl⟩
    have hlenH : H.length ≤ s.size := by
      have h1 := (flat_take_le (runes s.data.toList) n.toNat).length_le
      rw [runes_flat, len_of, ← hH] at h1
      exact h1
    have hpre : s.data.toList.take H.length = H := by
      have h1 := flat_take_le (runes s.data.toList) n.toNat
      rw [runes_flat, ← hH] at h1
      exact (List.prefix_iff_eq_take.1 h1).symm
    have hshow : showL H ++ showL (s.data.toList.drop H.length) = showL s.data.toList := by rw [hH]; exact show_cut _ _
    have hl1 : (runes H).length = min n.toNat (runes s.data.toList).length := by rw [hH, runes_take, List.length_take]
    have hl2 : (runes (s.data.toList.drop H.length)).length = (runes s.data.toList).length - n.toNat := by rw [hH, runes_drop, List.length_drop]
    have hrl := runes_len s.data.toList
    rw [len_of] at hrl
    have C0 : ∀ w, Calls Tryd.prog 16 #[.string s, .int .i64 n] w fun e w' => e = .returned (.string (tx H)) ∧ Below w.heap.size w w' := fun w => by
      have := cut_walk s n hn1 hn2 w (by omega)
      rw [← hH] at this
      exact this
    clear hH
    obtain ⟨hd, hhd⟩ : ∃ hd, hd = tx H := ⟨_, rfl⟩
    have hdl : hd.data.toList = H := by rw [hhd, tx_list]
    have hdz : hd.size = H.length := by rw [hhd, tx_size]
    obtain ⟨tl, htl⟩ : ∃ tl, tl = s.extract hd.size s.size := ⟨_, rfl⟩
    have hll : tl.data.toList = s.data.toList.drop H.length := by rw [htl, ex_from, hdz]
    have hlz : tl.size = s.size - H.length := by rw [← len_of, hll, List.length_drop, len_of]
    rw [← hhd] at C0
    have L1 : ∀ w, Calls Tryd.prog 12 #[.string hd] w fun e w' => e = .returned (.int .i64 ((min n.toNat (runes s.data.toList).length : Nat) : Int)) ∧ Below w.heap.size w w' := fun w => by
      have := len_walk hd w (by omega)
      rw [hdl, hl1] at this
      exact this
    have L2 : ∀ w, Calls Tryd.prog 12 #[.string s] w fun e w' => e = .returned (.int .i64 ((runes s.data.toList).length : Nat)) ∧ Below w.heap.size w w' := fun w => len_walk s w (by omega)
    have L3 : ∀ w, Calls Tryd.prog 12 #[.string tl] w fun e w' => e = .returned (.int .i64 (((runes s.data.toList).length - n.toNat : Nat) : Int)) ∧ Below w.heap.size w w' := fun w => by
      have := len_walk tl w (by omega)
      rw [hll, hl2] at this
      exact this
    have S0 : ∀ w, Env w → Calls Tryd.prog 18 #[.string s] w fun e w' => e = .returned (.string (tx (showL s.data.toList))) ∧ Below w.heap.size w w' := fun w hE => show_walk s w hE (by omega)
    have S1 : ∀ w, Env w → Calls Tryd.prog 18 #[.string hd] w fun e w' => e = .returned (.string (tx (showL H))) ∧ Below w.heap.size w w' := fun w hE => by
      have := show_walk hd w hE (by omega)
      rw [hdl] at this
      exact this
    have S2 : ∀ w, Env w → Calls Tryd.prog 18 #[.string tl] w fun e w' => e = .returned (.string (tx (showL (s.data.toList.drop H.length)))) ∧ Below w.heap.size w w' := fun w hE => by
      have := show_walk tl w hE (by omega)
      rw [hll] at this
      exact this
    have F1 := hide (show decide ((s.size : Int) < (hd.size : Int)) = false from decide_eq_false (by omega))
    have F2 : Hid (hd.size ≤ s.size ∧ s.extract 0 hd.size = hd ∧ s.extract hd.size s.size = tl) := hide ⟨by omega, by rw [← tx_take, hdz, hpre, hhd], htl.symm⟩
    have F3 : Hid (max 0 (min n ((runes s.data.toList).length : Int)) = ((min n.toNat (runes s.data.toList).length : Nat) : Int)) := hide (by omega)
    have F4 : Hid (((min n.toNat (runes s.data.toList).length : Nat) : Int) + (((runes s.data.toList).length - n.toNat : Nat) : Int) = ((runes s.data.toList).length : Int) ∧ (-9223372036854775808 ≤ ((runes s.data.toList).length : Int) ∧ ((runes s.data.toList).length : Int) ≤ 9223372036854775807)) := hide ⟨by omega, by omega, by omega⟩
    have hsl := showL_len s.data.toList
    rw [len_of] at hsl
    have F5 : Hid (tx (showL H) ++ tx (showL (s.data.toList.drop H.length)) = tx (showL s.data.toList) ∧ (tx (showL H)).size + (tx (showL (s.data.toList.drop H.length))).size ≤ 9223372036854775807) := by
      refine hide ⟨by rw [tx_append, hshow], ?_⟩
      have := congrArg List.length hshow
      rw [List.length_append] at this
      rw [tx_size, tx_size]
      omega
    have hplain : ∀ i (h : i < (tx (showL s.data.toList)).size), 32 ≤ ((tx (showL s.data.toList))[i]'h).toNat ∧ ((tx (showL s.data.toList))[i]'h).toNat ≤ 126 ∧ ((tx (showL s.data.toList))[i]'h).toNat ≠ 34 := fun i h => by
      refine showL_plain s.data.toList _ ?_
      have h2 : (tx (showL s.data.toList)).data.toList = showL s.data.toList := tx_list _
      have h4 : ((tx (showL s.data.toList))[i]'h) ∈ (tx (showL s.data.toList)).data.toList := List.getElem_mem (by rw [len_of]; exact h)
      rw [h2] at h4
      exact h4
    have htz : (tx (showL s.data.toList)).size ≤ 5000 := by rw [tx_size]; omega
    generalize hA : ((min n.toNat (runes s.data.toList).length : Nat) : Int) = A at *
    generalize hT : (((runes s.data.toList).length - n.toNat : Nat) : Int) = T at *
    generalize hN : ((runes s.data.toList).length : Int) = N at *
    generalize tx (showL s.data.toList) = ss at *
    generalize tx (showL H) = sh at *
    generalize tx (showL (s.data.toList.drop H.length)) = st at *
    clear hshow hl1 hl2 hrl hsl hdl hll hhd htl hdz hlz hpre hlenH hA hT hN
    have HC0 := hide C0
    have HL1 := hide L1
    have HL2 := hide L2
    have HL3 := hide L3
    have HS0 := hide S0
    have HS1 := hide S1
    have HS2 := hide S2
    have HPL := hide hplain
    clear C0 L1 L2 L3 S0 S1 S2 hplain
    go_enter Tryd.func6, Tryd.ntmps6
    go_wp2_with (first | (go_at_call 8; refine (alive_walk W hE).mono ?_; rintro e w1 ⟨rfl, hb1⟩) | (go_at_call 16; refine (unhide HC0 _).mono ?_; rintro e w2 ⟨rfl, hb2⟩))
    have hb3 := hb1.trans (hb2.mono hb1.size)
    refine Free.wp_region_owes (VV (V6 s hd tl n (min n N) A T N)) (fun w' => Below w2.heap.size w2 w') (by kernel_rfl) (by kernel_rfl) VV.stable (Below.drew (Below.refl _ _)) ⟨?_, ?_, ?_, ?_, ?_, ?_, ?_, ?_, ?_, ?_, ?_, ?_, ?_, ?_, ?_, ?_, ?_, ?_, ?_, ?_, ?_, ?_, ?_, ?_, ?_, ?_, ?_, ?_, ?_, ?_, ?_, ?_, ?_, ?_, ?_, ?_, trivial⟩ ?_
    · exact Free.owed_move (Free.goes_plain rfl) (.inl rfl) fun a w' _ hs hd => (hs 5 (by kernel_rfl))
    · exact Free.owed_pure (Free.goes_plain rfl) fun a w' hC hs hd => ⟨_, op_len9 rfl (hd 0 16 (by kernel_rfl)) rfl w', rfl⟩
    · exact Free.owed_move (Free.goes_plain rfl) (.inl rfl) fun a w' _ hs hd => (hs 0 (by kernel_rfl))
    · exact Free.owed_pure (Free.goes_plain rfl) fun a w' hC hs hd => ⟨_, op_len9 rfl (hd 2 18 (by kernel_rfl)) rfl w', rfl⟩
    · exact Free.owed_pure (Free.goes_plain rfl) fun a w' hC hs hd => ⟨_, op_gtr3 rfl (hd 1 17 (by kernel_rfl)) (hd 3 19 (by kernel_rfl)) (unhide F1) w', rfl⟩
    · exact Free.owed_move (Free.goes_plain rfl) (.inl rfl) fun a w' _ hs hd => (hd 4 20 (by kernel_rfl))
    · exact Free.owed_move (Free.goes_guard false rfl rfl rfl (by kernel_rfl) fun _ _ h => h) (.inl rfl) fun a w' _ hs hd => (hs 0 (by kernel_rfl))
    · exact Free.owed_move (Free.goes_guard false rfl rfl rfl (by kernel_rfl) fun _ _ h => h) (.inl rfl) fun a w' _ hs hd => (hs 5 (by kernel_rfl))
    · exact Free.owed_pure (Free.goes_guard false rfl rfl rfl (by kernel_rfl) fun _ _ h => h) fun a w' hC hs hd => ⟨_, op_len9 rfl (hd 7 23 (by kernel_rfl)) rfl w', rfl⟩
    · exact Free.owed_pure (Free.goes_guard false rfl rfl rfl (by kernel_rfl) fun _ _ h => h) fun a w' hC hs hd => ⟨_, op_sliceH rfl (hd 6 22 (by kernel_rfl)) (hd 8 24 (by kernel_rfl)) (unhide F2).1 (unhide F2).2.1 w', rfl⟩
    · exact Free.owed_move (Free.goes_guard false rfl rfl rfl (by kernel_rfl) fun _ _ h => h) (.inl rfl) fun a w' _ hs hd => (hs 5 (by kernel_rfl))
    · exact Free.owed_pure (Free.goes_guard false rfl rfl rfl (by kernel_rfl) fun _ _ h => h) fun a w' hC hs hd => ⟨_, op_neq9 rfl (hd 9 25 (by kernel_rfl)) (hd 10 26 (by kernel_rfl)) (by simp) w', rfl⟩
    · exact Free.owed_pure (Free.goes_plain rfl) fun a w' hC hs hd => ⟨_, op_pickF rfl (hd 5 21 (by kernel_rfl)) (hd 11 27 (by kernel_rfl)) w', rfl⟩
    · exact Free.owed_move (Free.goes_plain rfl) (.inl rfl) fun a w' _ hs hd => (hd 12 28 (by kernel_rfl))
    · exact Free.owed_move (Free.goes_guard false rfl rfl rfl (by kernel_rfl) fun _ _ h => h) (.inl rfl) fun a w' _ hs hd => (hs 5 (by kernel_rfl))
    · refine Free.owed_call (Free.goes_guard false rfl rfl rfl (by kernel_rfl) fun _ _ h => h) fun a w' hC hs hd => ?_
      refine ⟨12, _, op_call12 rfl (hd 14 30 (by kernel_rfl)) rfl w', (unhide HL1 w').mono ?_⟩
      rintro e w7 ⟨rfl, hb7⟩
      exact ⟨_, rfl, hb7, hC.trans (hb7.mono hC.size), rfl⟩
    · exact Free.owed_move (Free.goes_guard false rfl rfl rfl (by kernel_rfl) fun _ _ h => h) (.inl rfl) fun a w' _ hs hd => (hs 1 (by kernel_rfl))
    · exact Free.owed_move (Free.goes_guard false rfl rfl rfl (by kernel_rfl) fun _ _ h => h) (.inl rfl) fun a w' _ hs hd => (hs 0 (by kernel_rfl))
    · refine Free.owed_call (Free.goes_guard false rfl rfl rfl (by kernel_rfl) fun _ _ h => h) fun a w' hC hs hd => ?_
      refine ⟨12, _, op_call12 rfl (hd 17 33 (by kernel_rfl)) rfl w', (unhide HL2 w').mono ?_⟩
      rintro e w7 ⟨rfl, hb7⟩
      exact ⟨_, rfl, hb7, hC.trans (hb7.mono hC.size), rfl⟩
    · exact Free.owed_pure (Free.goes_guard false rfl rfl rfl (by kernel_rfl) fun _ _ h => h) fun a w' hC hs hd => ⟨_, op_min rfl (hd 16 32 (by kernel_rfl)) (hd 18 34 (by kernel_rfl)) rfl w', rfl⟩
    · exact Free.owed_pure (Free.goes_guard false rfl rfl rfl (by kernel_rfl) fun _ _ h => h) fun a w' hC hs hd => ⟨_, op_max rfl rfl (hd 19 35 (by kernel_rfl)) (unhide F3) w', rfl⟩
    · exact Free.owed_pure (Free.goes_guard false rfl rfl rfl (by kernel_rfl) fun _ _ h => h) fun a w' hC hs hd => ⟨_, op_neq3 rfl (hd 15 31 (by kernel_rfl)) (hd 20 36 (by kernel_rfl)) (by simp) w', rfl⟩
    · exact Free.owed_pure (Free.goes_plain rfl) fun a w' hC hs hd => ⟨_, op_pickF rfl (hd 13 29 (by kernel_rfl)) (hd 21 37 (by kernel_rfl)) w', rfl⟩
    · exact Free.owed_move (Free.goes_plain rfl) (.inl rfl) fun a w' _ hs hd => (hd 22 38 (by kernel_rfl))
    · exact Free.owed_move (Free.goes_guard false rfl rfl rfl (by kernel_rfl) fun _ _ h => h) (.inl rfl) fun a w' _ hs hd => (hs 5 (by kernel_rfl))
    · refine Free.owed_call (Free.goes_guard false rfl rfl rfl (by kernel_rfl) fun _ _ h => h) fun a w' hC hs hd => ?_
      refine ⟨12, _, op_call12 rfl (hd 24 40 (by kernel_rfl)) rfl w', (unhide HL1 w').mono ?_⟩
      rintro e w7 ⟨rfl, hb7⟩
      exact ⟨_, rfl, hb7, hC.trans (hb7.mono hC.size), rfl⟩
    · exact Free.owed_move (Free.goes_guard false rfl rfl rfl (by kernel_rfl) fun _ _ h => h) (.inl rfl) fun a w' _ hs hd => (hs 0 (by kernel_rfl))
    · exact Free.owed_move (Free.goes_guard false rfl rfl rfl (by kernel_rfl) fun _ _ h => h) (.inl rfl) fun a w' _ hs hd => (hs 5 (by kernel_rfl))
    · exact Free.owed_pure (Free.goes_guard false rfl rfl rfl (by kernel_rfl) fun _ _ h => h) fun a w' hC hs hd => ⟨_, op_len9 rfl (hd 27 43 (by kernel_rfl)) rfl w', rfl⟩
    · exact Free.owed_pure (Free.goes_guard false rfl rfl rfl (by kernel_rfl) fun _ _ h => h) fun a w' hC hs hd => ⟨_, op_sliceL rfl (hd 26 42 (by kernel_rfl)) (hd 28 44 (by kernel_rfl)) (unhide F2).1 (unhide F2).2.2 w', rfl⟩
    · refine Free.owed_call (Free.goes_guard false rfl rfl rfl (by kernel_rfl) fun _ _ h => h) fun a w' hC hs hd => ?_
      refine ⟨12, _, op_call12 rfl (hd 29 45 (by kernel_rfl)) rfl w', (unhide HL3 w').mono ?_⟩
      rintro e w7 ⟨rfl, hb7⟩
      exact ⟨_, rfl, hb7, hC.trans (hb7.mono hC.size), rfl⟩
    · exact Free.owed_pure (Free.goes_guard false rfl rfl rfl (by kernel_rfl) fun _ _ h => h) fun a w' hC hs hd => ⟨_, op_add3 rfl (hd 25 41 (by kernel_rfl)) (hd 30 46 (by kernel_rfl)) (unhide F4).1 (unhide F4).2 w', rfl⟩
    · exact Free.owed_move (Free.goes_guard false rfl rfl rfl (by kernel_rfl) fun _ _ h => h) (.inl rfl) fun a w' _ hs hd => (hs 0 (by kernel_rfl))
    · refine Free.owed_call (Free.goes_guard false rfl rfl rfl (by kernel_rfl) fun _ _ h => h) fun a w' hC hs hd => ?_
      refine ⟨12, _, op_call12 rfl (hd 32 48 (by kernel_rfl)) rfl w', (unhide HL2 w').mono ?_⟩
      rintro e w7 ⟨rfl, hb7⟩
      exact ⟨_, rfl, hb7, hC.trans (hb7.mono hC.size), rfl⟩
    · exact Free.owed_pure (Free.goes_guard false rfl rfl rfl (by kernel_rfl) fun _ _ h => h) fun a w' hC hs hd => ⟨_, op_neq3 rfl (hd 31 47 (by kernel_rfl)) (hd 33 49 (by kernel_rfl)) (by simp) w', rfl⟩
    · exact Free.owed_pure (Free.goes_plain rfl) fun a w' hC hs hd => ⟨_, op_pickF rfl (hd 23 39 (by kernel_rfl)) (hd 34 50 (by kernel_rfl)) w', rfl⟩

    · intro w3 hC vals hv
      have e35 : vals 35 = .bool false := hv 35 _ 51 rfl rfl
      clear hv
      simp only [Free.putAll, Act.put, List.setIfInBounds_toArray, List.set_cons_succ, List.set_cons_zero, e35]
      clear e35
      have hb4 := hb3.trans (hC.mono hb3.size)
      clear hC
      go_wp2_with (go_at_call 18; refine (unhide HS0 _ (hE.below hb4 hE.sz)).mono ?_; rintro e w4 ⟨rfl, hb5⟩)
      have hb6 := hb4.trans (hb5.mono hb4.size)
      go_loop [7] (fun vi => ∃ i : Nat, vi = .int .i64 (i : Int) ∧ i ≤ ss.size) (fun vi => ss.size - (intOf vi).toNat)
      case atStart => exact ⟨0, rfl, by omega⟩
      case round =>
        obtain ⟨i, rfl, hi⟩ := hrel
        by_cases hlt : i < ss.size
        · obtain ⟨p1, p2, p3⟩ := unhide HPL i hlt
          have p4 : ¬ (((ss[i]'hlt).toNat : Int) = 34) := by omega
          have p5 : ¬ (((ss[i]'hlt).toNat : Int) < 32) := by omega
          have p6 : ¬ (126 < ((ss[i]'hlt).toNat : Int)) := by omega
          clear p1 p2 p3
          go_wp2
          exact ⟨⟨i + 1, by congr 1, by omega⟩, by simp [intOf]; omega⟩
        · go_wp2
          have hE14 := hE.below hb6 hE.sz
          refine Free.wp_region_owes (VV (V14 s hd tl sh st ss)) (fun w' => Below w4.heap.size w4 w') (by kernel_rfl) (by kernel_rfl) VV.stable (Below.drew (Below.refl _ _)) ⟨?_, ?_, ?_, ?_, ?_, ?_, ?_, ?_, ?_, ?_, ?_, trivial⟩ ?_
          · exact Free.owed_move (Free.goes_plain rfl) (.inl rfl) fun a w' _ hs hd => (hs 5 (by kernel_rfl))
          · refine Free.owed_call (Free.goes_plain rfl) fun a w' hC hs hd => ?_
            refine ⟨18, _, op_call18 rfl (hd 0 76 (by kernel_rfl)) rfl w', (unhide HS1 w' (hE14.below hC hE14.sz)).mono ?_⟩
            rintro e w7 ⟨rfl, hb7⟩
            exact ⟨_, rfl, hb7, hC.trans (hb7.mono hC.size), rfl⟩
          · exact Free.owed_move (Free.goes_plain rfl) (.inl rfl) fun a w' _ hs hd => (hs 0 (by kernel_rfl))
          · exact Free.owed_move (Free.goes_plain rfl) (.inl rfl) fun a w' _ hs hd => (hs 5 (by kernel_rfl))
          · exact Free.owed_pure (Free.goes_plain rfl) fun a w' hC hs hd => ⟨_, op_len9 rfl (hd 3 79 (by kernel_rfl)) rfl w', rfl⟩
          · exact Free.owed_pure (Free.goes_plain rfl) fun a w' hC hs hd => ⟨_, op_sliceL rfl (hd 2 78 (by kernel_rfl)) (hd 4 80 (by kernel_rfl)) (unhide F2).1 (unhide F2).2.2 w', rfl⟩
          · refine Free.owed_call (Free.goes_plain rfl) fun a w' hC hs hd => ?_
            refine ⟨18, _, op_call18 rfl (hd 5 81 (by kernel_rfl)) rfl w', (unhide HS2 w' (hE14.below hC hE14.sz)).mono ?_⟩
            rintro e w7 ⟨rfl, hb7⟩
            exact ⟨_, rfl, hb7, hC.trans (hb7.mono hC.size), rfl⟩
          · exact Free.owed_pure (Free.goes_plain rfl) fun a w' hC hs hd => ⟨_, op_add9 rfl (hd 1 77 (by kernel_rfl)) (hd 6 82 (by kernel_rfl)) (unhide F5).1 (unhide F5).2 w', rfl⟩
          · exact Free.owed_move (Free.goes_plain rfl) (.inl rfl) fun a w' _ hs hd => (hs 6 (by kernel_rfl))
          · exact Free.owed_pure (Free.goes_plain rfl) fun a w' hC hs hd => ⟨_, op_eql9 rfl (hd 7 83 (by kernel_rfl)) (hd 8 84 (by kernel_rfl)) (by simp) w', rfl⟩
          · exact Free.owed_move (Free.goes_plain rfl) (.inr rfl) fun a w' _ hs hd => (hd 9 85 (by kernel_rfl))

          · intro w5 hC vals2 hv
            have e10 : vals2 10 = .bool true := hv 10 _ 4 rfl rfl
            clear hv
            simp only [Free.putAll, Act.put, List.setIfInBounds_toArray, List.set_cons_succ, List.set_cons_zero, e10]
            clear e10
            have hb7 := hb6.trans (hC.mono hb6.size)
            clear hC
            go_wp2
            go_ret
            exact ⟨rfl, hb7⟩
end Go.Proofs.YtdgebadjlkmdiaaDoor.glyphCuts
