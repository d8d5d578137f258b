/-
  JournalNames, walked.
-/
import Derived.Test.YtjebejdcjfnleaaJAlive
namespace Go.Proofs.Ytjebejdcjfnleaa
open Go.RowKit

/-- So many noughts. -/
def zerosV (n : Nat) : Array Value := madeCells (Value.int .u8 0).cells n
theorem run_zeros (w : World) (n : Nat) (hn : n ≤ 100000) : (Instr.makeSlice 32 (.int .i64 (n : Int)) (.int .i64 (n : Int))).run Try.prog w = .ok (.slice (some ⟨w.heap.size, 0, none⟩) n n) (w.alloc (.cells (zerosV n) 5)) := by
  obtain ⟨i, i1, i2, i3, i4⟩ := full5
  have hr := run_makeSlice (P := Try.prog) w 32 5 i (.int .u8 0) Try.underlying32 i1 i2 .i64 .i64 n n (by omega) (by omega) (by rw [i3]; omega) (by rw [i4]; omega) (by omega)
  simp only [Int.toNat_natCast, i3, Nat.mul_one] at hr
  exact hr
theorem zeros_row (w : World) (n : Nat) (hn : n ≤ 100000) : RowV (w.alloc (.cells (zerosV n) 5)).heap.size (w.alloc (.cells (zerosV n) 5)) (.slice (some ⟨w.heap.size, 0, none⟩) n n) (List.replicate n 0) := by
  refine ⟨_, _, _, rfl, Nat.le_refl _, by simp only [maxLen]; omega, by simp, by simp, by omega, fun i hi => ⟨w.heap.size, 0, rfl, by simp, ?_⟩⟩
  rw [Nat.zero_add, cell_fresh]
  have hs : (zerosV n).size = n := by
    unfold zerosV
    rw [size_madeCells]
  have e : (zerosV n)[i]? = some (.int .u8 0) := by
    rw [Array.getElem?_eq_getElem (by omega)]
    congr 1
    simp [zerosV, madeCells]
    rw [show (Value.int .u8 0).cells.size = 1 from rfl, Nat.mod_one]
    rfl
  rw [e, List.getD_eq_getElem?_getD, List.getElem?_replicate, if_pos hi]
  rfl

namespace journalNames
set_option maxHeartbeats 6400000 in
set_option maxRecDepth 100000 in
theorem walk (w : World) : Calls Try.prog 3 #[] w fun e w' => e = .returned (.bool true) ∧ Below w.heap.size w w' := by
  obtain ⟨e1, e2, d1, x1, j1, e3, e4, hsz, hf1, hf2, hf3, hw1, ho1⟩ := names_math
  have HE1 := hide e1
  have HE2 := hide e2
  have HE3 := hide e3
  have HE4 := hide e4
  have HFF := hide (And.intro hf1 (And.intro hf2 hf3))
  have HW1 := hide (And.intro hw1 ho1)
  clear e1 e2 e3 e4 hsz hf1 hf2 hf3 hw1 ho1
  have HLW : ∀ w, Hid (Calls Try.prog 8 #[.agg #[.int .i64 1, .int .i64 2]] w fun e w' => ∃ F D m p, e = .returned (.pointer (some ⟨m, 0, none⟩)) ∧ PMap F D w' m p (newD 60 10000) ⟨[1, 2, 1], 0, []⟩ ∧ (∀ k ∈ F ++ D, w.heap.size ≤ k) ∧ Below w.heap.size w w') := fun w => hide (law_open 1 2 (by omega) (by omega) w)
  have m47 : ∀ w, (Instr.makeSlice 32 (.int .i64 47) (.int .i64 47)).run Try.prog w = .ok (.slice (some ⟨w.heap.size, 0, none⟩) 47 47) (w.alloc (.cells (zerosV 47) 5)) := fun w => run_zeros w 47 (by omega)
  have m46 : ∀ w, (Instr.makeSlice 32 (.int .i64 46) (.int .i64 46)).run Try.prog w = .ok (.slice (some ⟨w.heap.size, 0, none⟩) 46 46) (w.alloc (.cells (zerosV 46) 5)) := fun w => run_zeros w 46 (by omega)
  have R47 := hide fun w => zeros_row w 47 (by omega)
  have R46 := hide fun w => zeros_row w 46 (by omega)
  generalize zerosV 47 = Z47 at *
  generalize zerosV 46 = Z46 at *
  go_enter Try.func3, Try.ntmps3
  go_wp2_with fail
  refine (jalive_walk w).mono ?_
  rintro e w0 ⟨rfl, hb0⟩
  have HB0 := hide hb0
  have HLW0 := HLW w0
  clear hb0 HLW
  go_wp2_with fail
  refine (unhide HLW0).mono ?_
  rintro e w1 ⟨F, D, m, p, rfl, hM, hF, hb⟩
  have HM := hide hM
  have HF := hide hF
  have HB := hide ((unhide HB0).trans (hb.mono (unhide HB0).size))
  have hs0 := (unhide HB0).size
  have hs1 := hb.size
  have HOP := hide (law_fresh 1 2 (by omega) (by omega) hM)
  clear hM hb HLW0 HB0
  go_wp2_with fail
  refine (unhide HOP).mono ?_
  rintro e w2 ⟨q, a0, c0, rfl, hJ, hb2, hq⟩
  have HJ := hide hJ
  have HB2 := hide ((unhide HB).trans (hb2.mono (unhide HB).size))
  have HG : Hid (∀ k ∈ q :: (F ++ D), w.heap.size ≤ k) := hide fun k hk => by
    rcases List.mem_cons.1 hk with rfl | hk
    · exact Nat.le_trans (unhide HB).size hq
    · exact Nat.le_trans hs0 (unhide HF k hk)
  have HA := hide (append_walk hJ _ [] (RowV.nilBut _ _) (by show ([] : List (Nat × Sec)).length ≤ _; simp) (by simp))
  rw [unhide HE1] at HA
  clear hJ hb2 hq HOP HM HF hF HB hs0 hs1
  go_wp2_with fail
  refine (unhide HA).mono ?_
  rintro e w3 ⟨rfl, F3, D3, hJ3, hT3⟩
  have HJ3 := hide hJ3
  have HB3 := hide ((unhide HB2).trans (hT3.above (unhide HG) (unhide HB2).size).1)
  have HG3 := hide (hT3.above (unhide HG) (unhide HB2).size).2
  clear hJ3 hT3 HA HJ HB2 HG
  -- Begin of 47
  have HJ4 := hide ((unhide HJ3).below ((Below.refl w3.heap.size w3).alloc (Nat.le_refl _) (.cells Z47 5)))
  have HB4 : Hid (Below w.heap.size w (w3.alloc (.cells Z47 5))) := hide ((unhide HB3).alloc (unhide HB3).size _)
  have HBG := hide (begin_walk (unhide HJ4) _ (List.replicate 47 0) (RowV.but (unhide R47 w3) (fun e => by have := (unhide HJ3).lt _ e; omega)) (by show ([] : List (Nat × Sec)).length ≤ _; simp) (by simp))
  rw [show beginJ _ _ _ (List.replicate 47 0) = (92, newD 60 10000, ⟨[1, 2, 1], 0, []⟩, jnew) from unhide HE2] at HBG
  go_wp2_with fail
  refine (unhide HBG).mono ?_
  rintro e w5 ⟨rfl, F5, D5, hJ5, hT5⟩
  have HJ5 := hide hJ5
  have HB5 := hide ((unhide HB4).trans (hT5.above (unhide HG3) (unhide HB4).size).1)
  have HG5 := hide (hT5.above (unhide HG3) (unhide HB4).size).2
  clear hJ5 hT5 HBG HJ4 HB4 HG3 HJ3 HB3
  -- Begin of 46
  have HJ6 := hide ((unhide HJ5).below ((Below.refl w5.heap.size w5).alloc (Nat.le_refl _) (.cells Z46 5)))
  have HB6 : Hid (Below w.heap.size w (w5.alloc (.cells Z46 5))) := hide ((unhide HB5).alloc (unhide HB5).size _)
  have HBG := hide (begin_walk (unhide HJ6) _ (List.replicate 46 0) (RowV.but (unhide R46 w5) (fun e => by have := (unhide HJ5).lt _ e; omega)) (by show ([] : List (Nat × Sec)).length ≤ _; simp) (by show ([] : List OpT).length ≤ _; simp))
  rw [show beginJ _ _ _ (List.replicate 46 0) = (0, d1, x1, j1) from unhide HE3] at HBG
  go_wp2_with fail
  refine (unhide HBG).mono ?_
  rintro e w7 ⟨rfl, F7, D7, hJ7, hT7⟩
  have HJ7 := hide hJ7
  have HB7 := hide ((unhide HB6).trans (hT7.above (unhide HG5) (unhide HB6).size).1)
  have HG7 := hide (hT7.above (unhide HG5) (unhide HB6).size).2
  clear hJ7 hT7 HBG HJ6 HB6 HG5 HJ5 HB5 m46 m47 R46 R47
  have HA := hide (append_walk (unhide HJ7) _ [] (RowV.nilBut _ _) (by have := (unhide HW1).1; show d1.wait.length ≤ _; omega) (by have := (unhide HW1).2; show x1.ops.length ≤ _; omega))
  rw [show appendJ _ _ _ [] = (92, d1, x1, j1) from unhide HE4] at HA
  go_wp2_with fail
  refine (unhide HA).mono ?_
  rintro e w8 ⟨rfl, F8, D8, hJ8, hT8⟩
  have HJ8 := hide hJ8
  have HB8 := hide ((unhide HB7).trans (hT8.above (unhide HG7) (unhide HB7).size).1)
  clear hJ8 hT8 HA HJ7 HB7 HG7
  have HF1 : ∀ w', Below w8.heap.size w8 w' → Hid (Calls Try.prog 11 #[.pointer (some ⟨q, 0, none⟩), .int .i64 46] w' fun e w2 => e = .returned (.bool true) ∧ Below w'.heap.size w' w2) := fun w' hb => hide (by
    have := fits_walk ((unhide HJ8).below hb) 46
    rw [show fitsJ _ _ 46 = true from (unhide HFF).1] at this
    exact this.mono fun e w2 h => ⟨h.1, h.2.1⟩)
  have HF2 : ∀ w', Below w8.heap.size w8 w' → Hid (Calls Try.prog 11 #[.pointer (some ⟨q, 0, none⟩), .int .i64 47] w' fun e w2 => e = .returned (.bool false) ∧ Below w'.heap.size w' w2) := fun w' hb => hide (by
    have := fits_walk ((unhide HJ8).below hb) 47
    rw [show fitsJ _ _ 47 = false from (unhide HFF).2.1] at this
    exact this.mono fun e w2 h => ⟨h.1, h.2.1⟩)
  have HF3 : ∀ w', Below w8.heap.size w8 w' → Hid (Calls Try.prog 11 #[.pointer (some ⟨q, 0, none⟩), .int .i64 (-1)] w' fun e w2 => e = .returned (.bool false) ∧ Below w'.heap.size w' w2) := fun w' hb => hide (by
    have := fits_walk ((unhide HJ8).below hb) (-1)
    rw [show fitsJ _ _ (-1) = false from (unhide HFF).2.2] at this
    exact this.mono fun e w2 h => ⟨h.1, h.2.1⟩)
  have H1 := HF1 w8 (Below.refl _ _)
  clear HF1
  go_wp2_with fail
  refine (unhide H1).mono ?_
  rintro e w9 ⟨rfl, hb9⟩
  have HX9 := hide hb9
  have H2 := HF2 w9 hb9
  clear HF2 H1 hb9
  go_wp2_with fail
  refine (unhide H2).mono ?_
  rintro e w10 ⟨rfl, hb10⟩
  have HX10 := hide ((unhide HX9).trans (hb10.mono (unhide HX9).size))
  have H3 := HF3 w10 (unhide HX10)
  clear HF3 H2 hb10 HX9
  go_wp2_with fail
  refine (unhide H3).mono ?_
  rintro e w11 ⟨rfl, hb11⟩
  have HX11 := hide ((unhide HX10).trans (hb11.mono (unhide HX10).size))
  clear H3 hb11 HX10
  go_wp2
  go_ret
  exact ⟨rfl, (unhide HB8).trans ((unhide HX11).mono (unhide HB8).size)⟩
end journalNames
end Go.Proofs.Ytjebejdcjfnleaa
