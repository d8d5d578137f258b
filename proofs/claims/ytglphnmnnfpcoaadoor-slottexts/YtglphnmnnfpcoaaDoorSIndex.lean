/-
  What slot.Name and slot.Index answer.
-/
import Derived.Test.YtglphnmnnfpcoaaDoorGFold
import Derived.Test.YtglphnmnnfpcoaaDoorSWord
namespace Go.Proofs.YtglphnmnnfpcoaaDoor
open Go.RowKit Go.Lib

/-- A text in small letters. -/
def fold (l : List UInt8) : List UInt8 := G.foldL toLowerU l
def nmF (i : Int) : List UInt8 := if i = 0 then [97] else if i = 1 then [98] else []
def ixF (l : List UInt8) : Int := if fold l = [97] then 0 else if fold l = [98] then 1 else -1
theorem fold_a : fold [97] = [97] := by decide +kernel
theorem fold_b : fold [98] = [98] := by decide +kernel
theorem fold_B : fold [66] = [98] := by decide +kernel
theorem fold_none : fold [] = [] := by decide +kernel

theorem fold2_walk (a : List UInt8) (ha : a.length ≤ 1000000) (w : World) (hU : G.Uni w) : Calls Tryd.prog 57 #[.string (tx a)] w fun e w' => e = .returned (.string (tx (fold a))) ∧ Below w.heap.size w w' := by
  have h := G.fold_walk toLowerU G.low_ok (tx a) (by rw [tx_size]; exact ha) w hU
  rw [tx_list] at h
  exact h
theorem same_walk (a b : List UInt8) (ha : a.length ≤ 1000000) (hb : b.length ≤ 1000000) (w : World) (hU : G.Uni w) : Calls Tryd.prog 37 #[.string (tx a), .string (tx b)] w fun e w' => e = .returned (.bool (decide (fold a = fold b))) ∧ Below w.heap.size w w' := by
  have h := G.same_walk toLowerU G.low_ok (tx a) (tx b) (by rw [tx_size]; exact ha) (by rw [tx_size]; exact hb) w hU
  rw [tx_list, tx_list, tx_beq] at h
  exact h

set_option maxRecDepth 100000 in
theorem name_walk (i : Int) (w : World) : Calls Tryd.prog 12 #[.int .i64 i] w fun e w' => e = .returned (.string (tx (nmF i))) ∧ w' = w := by
  by_cases h0 : i = 0
  · subst h0
    go_enter Tryd.func12, Tryd.ntmps12
    go_wp2
    go_ret
    exact ⟨rfl, rfl⟩
  · by_cases h1 : i = 1
    · subst h1
      go_enter Tryd.func12, Tryd.ntmps12
      go_wp2
      go_ret
      exact ⟨rfl, rfl⟩
    · have e0 : (i == 0) = false := by simpa using h0
      have e1 : (i == 1) = false := by simpa using h1
      have HN : Hid (nmF i = []) := by
        show _ = _
        unfold nmF
        rw [if_neg h0, if_neg h1]
      clear h0 h1
      go_enter Tryd.func12, Tryd.ntmps12
      go_wp2
      go_ret
      rw [unhide HN]
      exact ⟨rfl, rfl⟩

set_option maxHeartbeats 1600000 in
set_option maxRecDepth 100000 in
theorem index_walk (l : List UInt8) (hl : l.length ≤ 1000000) (w : World) (hU : G.Uni w) : Calls Tryd.prog 13 #[.string (tx l)] w fun e w' => e = .returned (.int .i64 (ixF l)) ∧ Below w.heap.size w w' := by
  have HA : Hid (∀ w, G.Uni w → Calls Tryd.prog 37 #[.string (tx l), .string (tx [97])] w fun e w' => e = .returned (.bool (decide (fold l = [97]))) ∧ Below w.heap.size w w') := by
    have h := fun w => same_walk l [97] hl (by decide) w
    rw [fold_a] at h
    exact hide h
  have HB : Hid (∀ w, G.Uni w → Calls Tryd.prog 37 #[.string (tx l), .string (tx [98])] w fun e w' => e = .returned (.bool (decide (fold l = [98]))) ∧ Below w.heap.size w w') := by
    have h := fun w => same_walk l [98] hl (by decide) w
    rw [fold_b] at h
    exact hide h
  have HU := hide hU
  have HX : Hid (ixF l = if decide (fold l = [97]) = true then 0 else if decide (fold l = [98]) = true then 1 else -1) := by
    show _ = _
    unfold ixF
    simp only [decide_eq_true_eq]
  clear hU hl
  generalize decide (fold l = [97]) = p at *
  generalize decide (fold l = [98]) = q at *
  generalize ixF l = z at *
  generalize tx l = t at *
  have N0 := hide (name_walk 0)
  have N1 := hide (name_walk 1)
  go_enter Tryd.func13, Tryd.ntmps13
  go_wp2_with fail
  go_loopw [4] (fun ci wr => ∃ k : Nat, k ≤ 2 ∧ ci = .int .i64 (k : Int) ∧ Below w.heap.size w wr ∧ Hid (0 < k → p = false) ∧ Hid (1 < k → q = false)) (fun ci _ => 2 - (RowKit.intOf ci).toNat)
  case atStart => exact ⟨0, by omega, rfl, Below.refl _ _, hide (fun h => absurd h (by decide)), hide (fun h => absurd h (by decide))⟩
  case round =>
    obtain ⟨k, hk, rfl, hb, HP, HQ⟩ := hrel
    have Hb := hide hb
    clear hb
    have hk3 : k = 0 ∨ k = 1 ∨ k = 2 := by omega
    rcases hk3 with rfl | rfl | rfl
    · go_wp2_with fail
      refine (unhide N0 wr).mono ?_
      rintro e w1 ⟨rfl, hw1⟩
      subst w1
      go_wp2_with fail
      refine (unhide HA wr ((unhide HU).below (unhide Hb))).mono ?_
      rintro e w1 ⟨rfl, hb1⟩
      have Hb1 := hide ((unhide Hb).trans (hb1.mono (unhide Hb).size))
      clear hb1 Hb HA HB HU
      cases p with
      | true =>
        go_wp2
        go_ret
        refine ⟨?_, unhide Hb1⟩
        rw [unhide HX]
        rfl
      | false =>
        go_wp2
        go_roundw
        case rel => exact ⟨1, by omega, rfl, unhide Hb1, hide (by simp), hide (fun h => absurd h (by decide))⟩
        case measure => simp [RowKit.intOf]
    · have hp : p = false := unhide HP (by decide)
      subst hp
      go_wp2_with fail
      refine (unhide N1 wr).mono ?_
      rintro e w1 ⟨rfl, hw1⟩
      subst w1
      go_wp2_with fail
      refine (unhide HB wr ((unhide HU).below (unhide Hb))).mono ?_
      rintro e w1 ⟨rfl, hb1⟩
      have Hb1 := hide ((unhide Hb).trans (hb1.mono (unhide Hb).size))
      clear hb1 Hb HA HB HU
      cases q with
      | true =>
        go_wp2
        go_ret
        refine ⟨?_, unhide Hb1⟩
        rw [unhide HX]
        rfl
      | false =>
        go_wp2
        go_roundw
        case rel => exact ⟨2, by omega, rfl, unhide Hb1, hide (by simp), hide (by simp)⟩
        case measure => simp [RowKit.intOf]
    · have hp : p = false := unhide HP (by decide)
      have hq : q = false := unhide HQ (by decide)
      subst hp hq
      go_wp2
      go_ret
      refine ⟨?_, unhide Hb⟩
      rw [unhide HX]
      rfl
end Go.Proofs.YtglphnmnnfpcoaaDoor
