/-
  The chapter's example; FrameNames, walked.
-/
import Derived.Test.YtkcchadecnkgnaaGet
namespace Go.Proofs.Ytkcchadecnkgnaa
open Go.RowKit

/-- So many noughts. -/
def zerosV (n : Nat) : Array Value := madeCells (Value.int .u8 0).cells n
theorem run_zeros (w : World) (n : Nat) (hn : n ≤ 100000) : (Instr.makeSlice 27 (.int .i64 (n : Int)) (.int .i64 (n : Int))).run Try.prog w = .ok (.slice (some ⟨w.heap.size, 0, none⟩) n n) (w.alloc (.cells (zerosV n) 5)) := by
  obtain ⟨i, i1, i2, i3, i4⟩ := full5
  have hr := run_makeSlice (P := Try.prog) w 27 5 i (.int .u8 0) Try.underlying27 i1 i2 .i64 .i64 n n (by omega) (by omega) (by rw [i3]; omega) (by rw [i4]; omega) (by omega)
  simp only [Int.toNat_natCast, i3, Nat.mul_one] at hr
  exact hr
theorem zeros_row (w : World) (n : Nat) (hn : n ≤ 100000) : RowV (w.alloc (.cells (zerosV n) 5)).heap.size (w.alloc (.cells (zerosV n) 5)) (.slice (some ⟨w.heap.size, 0, none⟩) n n) (List.replicate n 0) := by
  refine ⟨_, _, _, rfl, Nat.le_refl _, by simp only [maxLen]; omega, by simp, by simp, by omega, fun i hi => ⟨w.heap.size, 0, rfl, by simp, ?_⟩⟩
  rw [Nat.zero_add, cell_fresh]
  have hs : (zerosV n).size = n := by
    unfold zerosV
    rw [size_madeCells]
  have e : (zerosV n)[i]? = some (.int .u8 0) := by
    rw [Array.getElem?_eq_getElem (by omega)]
    congr 1
    simp [zerosV, madeCells]
    rw [show (Value.int .u8 0).cells.size = 1 from rfl, Nat.mod_one]
    rfl
  rw [e, List.getD_eq_getElem?_getD, List.getElem?_replicate, if_pos hi]
  rfl

/-- How many sectors Put lays of so many noughts. -/
theorem put_zeros (k : UInt8) (s : Nat) (hs : s < 18446744073709551616) (n : Nat) (hn : n ≤ 100000) (w : World) :
    Calls Try.prog 9 #[.int .u8 ((k.toNat : Nat) : Int), .int .u64 (s : Int), .slice (some ⟨w.heap.size, 0, none⟩) n n] (w.alloc (.cells (zerosV n) 5)) fun e w' =>
      ∃ a c, e = .returned (.slice a (sizeF (n : Int)) c) ∧ Below w.heap.size w w' := by
  refine (put_sectors _ k s hs _ _ _ (Nat.le_refl _) (zeros_row w n hn)).mono ?_
  rintro e w' ⟨v', rfl, hO, hb⟩
  obtain ⟨a, c, rfl, _, _⟩ := owns_slice hO.1
  have hl : (putF k s (List.replicate n 0)).length = sizeF (n : Int) := by
    by_cases h : n ≤ 4000
    · rw [putF_length (by simpa using h), List.length_replicate]
    · rw [putF_none (by simpa using h)]
      unfold sizeF
      rw [if_pos (.inr (by omega))]
      rfl
  rw [hl]
  exact ⟨a, c, rfl, ((Below.refl _ w).alloc (Nat.le_refl _) _).trans (hb.mono (by simp))⟩

set_option maxRecDepth 100000 in
set_option maxHeartbeats 1000000 in
theorem alive_walk (w : World) : Calls Try.prog 7 #[] w fun e w' => e = .returned (.bool true) ∧ Below w.heap.size w w' := by
  have s46 : sizeF 46 = 1 := by decide
  have s47 : sizeF 47 = 2 := by decide
  have m46 := hide (fun w => run_zeros w 46 (by omega))
  have m47 := hide (fun w => run_zeros w 47 (by omega))
  have z46 : Hid (((46 : Nat) : Int) = 46) := hide rfl
  have H1 := hide (fun w => size_walk 46 w)
  have H2 := hide (fun w => size_walk 47 w)
  have H3 := hide (fun w => put_zeros 1 2 (by omega) 46 (by omega) w)
  have H4 := hide (fun w => put_zeros 1 2 (by omega) 47 (by omega) w)
  rw [s46] at H1
  rw [s47] at H2
  have k46 : sizeF ((46 : Nat) : Int) = 1 := s46
  have k47 : sizeF ((47 : Nat) : Int) = 2 := s47
  rw [k46] at H3
  rw [k47] at H4
  obtain ⟨Z1, hZ1⟩ : ∃ Z, Z = zerosV 46 := ⟨_, rfl⟩
  obtain ⟨Z2, hZ2⟩ : ∃ Z, Z = zerosV 47 := ⟨_, rfl⟩
  rw [← hZ1] at H3 m46
  rw [← hZ2] at H4 m47
  have e46 : ∀ w, (Instr.makeSlice 27 (.int .i64 46) (.int .i64 46)).run Try.prog w = .ok (.slice (some ⟨w.heap.size, 0, none⟩) 46 46) (w.alloc (.cells Z1 5)) := unhide m46
  have e47 : ∀ w, (Instr.makeSlice 27 (.int .i64 47) (.int .i64 47)).run Try.prog w = .ok (.slice (some ⟨w.heap.size, 0, none⟩) 47 47) (w.alloc (.cells Z2 5)) := unhide m47
  clear hZ1 hZ2 s46 s47 k46 k47
  go_enter Try.func7, Try.ntmps7
  go_wp2_with fail
  refine (unhide H1 w).mono ?_
  rintro e w1 ⟨rfl, hw1⟩
  subst w1
  go_wp2_with fail
  refine (unhide H2 w).mono ?_
  rintro e w1 ⟨rfl, hw1⟩
  subst w1
  go_wp2_with fail
  refine (unhide H3 w).mono ?_
  rintro e w1 ⟨a1, c1, rfl, hb1⟩
  have Hb1 := hide hb1
  clear hb1
  go_wp2_with fail
  refine (unhide H4 w1).mono ?_
  rintro e w2 ⟨a2, c2, rfl, hb2⟩
  have Hb2 := hide ((unhide Hb1).trans (hb2.mono (unhide Hb1).size))
  clear hb2 Hb1
  go_wp2_with fail
  go_ret
  exact ⟨rfl, unhide Hb2⟩

set_option maxRecDepth 100000 in
set_option maxHeartbeats 1000000 in
theorem frameNames.walk (w : World) : Calls Try.prog 3 #[] w fun e w' => e = .returned (.bool true) ∧ Below w.heap.size w w' := by
  have s0 : sizeF 0 = 1 := by decide
  have sm : sizeF (-1) = 0 := by decide
  have s4 : sizeF 4000 = 64 := by decide
  have s5 : sizeF 4001 = 0 := by decide
  have H0 := hide (fun w => alive_walk w)
  have H1 := hide (fun w => size_walk 0 w)
  have H2 := hide (fun w => size_walk (-1) w)
  have H3 := hide (fun w => size_walk 4000 w)
  have H4 := hide (fun w => size_walk 4001 w)
  have H5 := hide (fun w => put_zeros 1 1 (by omega) 4001 (by omega) w)
  have m5 := hide (fun w => run_zeros w 4001 (by omega))
  rw [s0] at H1
  rw [sm] at H2
  rw [s4] at H3
  rw [s5] at H4
  have k5 : sizeF ((4001 : Nat) : Int) = 0 := s5
  rw [k5] at H5
  obtain ⟨Z1, hZ1⟩ : ∃ Z, Z = zerosV 4001 := ⟨_, rfl⟩
  rw [← hZ1] at H5 m5
  have e5 : ∀ w, (Instr.makeSlice 27 (.int .i64 4001) (.int .i64 4001)).run Try.prog w = .ok (.slice (some ⟨w.heap.size, 0, none⟩) 4001 4001) (w.alloc (.cells Z1 5)) := unhide m5
  clear hZ1 s0 sm s4 s5 k5
  go_enter Try.func3, Try.ntmps3
  go_wp2_with fail
  refine (unhide H0 w).mono ?_
  rintro e w1 ⟨rfl, hb1⟩
  have Hb1 := hide hb1
  clear hb1
  go_wp2_with fail
  refine (unhide H1 w1).mono ?_
  rintro e w2 ⟨rfl, hw2⟩
  subst w2
  go_wp2_with fail
  refine (unhide H2 w1).mono ?_
  rintro e w2 ⟨rfl, hw2⟩
  subst w2
  go_wp2_with fail
  refine (unhide H3 w1).mono ?_
  rintro e w2 ⟨rfl, hw2⟩
  subst w2
  go_wp2_with fail
  refine (unhide H4 w1).mono ?_
  rintro e w2 ⟨rfl, hw2⟩
  subst w2
  go_wp2_with fail
  refine (unhide H5 w1).mono ?_
  rintro e w2 ⟨a2, c2, rfl, hb2⟩
  have Hb2 := hide ((unhide Hb1).trans (hb2.mono (unhide Hb1).size))
  clear hb2 Hb1
  go_wp2_with fail
  go_ret
  exact ⟨rfl, unhide Hb2⟩
end Go.Proofs.Ytkcchadecnkgnaa
