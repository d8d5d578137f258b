/-
  What slot.Bootable, slot.whole and slot.checked answer, and the document's Bootable.
-/
import Derived.Test.YtglphnmnnfpcoaaDoorSRef
namespace Go.Proofs.YtglphnmnnfpcoaaDoor
open Go.RowKit

theorem kept {w w' : World} {b i : Nat} {v : Value} (h : w.cell? ⟨b, i, none⟩ = some v) (hb : Below w.heap.size w w') : w'.cell? ⟨b, i, none⟩ = some v :=
  (hb.cell (p := ⟨b, i, none⟩) (lt_of_cell h)).trans h

set_option maxHeartbeats 1600000 in
set_option maxRecDepth 100000 in
theorem boot_walk (s : S) (hf : Fit s) (w : World) : Calls Tryd.prog 16 #[s.v] w fun e w' => e = .returned (.bool (boot s)) ∧ Below w.heap.size w w' := by
  have HW : Hid (∀ w : World, Calls Tryd.prog 14 #[.agg s.cs.toArray] w fun e w' => e = .returned (.bool (right s)) ∧ Below w.heap.size w w') := hide (right_walk s hf)
  have HS := hide (info26s hf.dg)
  have Hr : Hid (boot s = (right s && (decide (s.st = 3) || decide (0 < s.tr)))) := hide rfl
  have Hc := hide (right_cases (s := s))
  have H0 : Hid (s.cs[0]? = some (.int .i64 s.st)) := hide rfl
  have H1 : Hid (s.cs[1]? = some (.int .i64 s.tr)) := hide rfl
  have Ht : Hid (right s = true → s.st = 2 ∨ s.st ≠ 2 ∧ s.tr = 0) := by
    show right s = true → _
    intro h
    rcases right_cases h with ⟨k1, k2⟩ | ⟨k1, k2⟩ | ⟨k1, k2, k3⟩
    · have := congrArg S.tr k2
      simp only [bare] at this
      omega
    · exact .inl k1
    · omega
  clear Hc
  unfold S.v
  generalize boot s = R at *
  generalize right s = r at *
  generalize s.cs = C at *
  clear hf
  generalize s.st = x at *
  generalize s.tr = y at *
  go_enter Tryd.func16, Tryd.ntmps16
  go_wp2_with (refine wpList_box 26 _ C rfl rfl rfl ?_)
  intro w1 hA1 hb1 hs1
  have c0 := hA1.cell (unhide H0)
  have c1 := hA1.cell (unhide H1)
  have HA := hide hA1
  have Hb := hide hb1
  clear hA1 hb1 hs1
  go_wp2_with (refine wpList_loadAll 26 _ w.heap.size C _ rfl rfl rfl (unhide HA) Tryd.underlying26 rfl (unhide HS) ?_)
  refine ((unhide HW) w1).mono ?_
  rintro e w2 ⟨rfl, hb2⟩
  have c0 := kept c0 hb2
  have c1 := kept c1 hb2
  have Hb2 := hide ((unhide Hb).trans (hb2.mono (unhide Hb).size))
  clear hb2 HA Hb HW
  cases r with
  | false =>
    go_wp2
    go_ret
    refine ⟨?_, unhide Hb2⟩
    rw [unhide Hr]
    rfl
  | true =>
    have Ht := unhide Ht rfl
    have Ht := hide Ht
    go_wp2
    all_goals
      go_ret
      refine ⟨congrArg (fun b => Ending.returned (Value.bool b)) ?_, unhide Hb2⟩
      rw [unhide Hr]
      have := unhide Ht
      rw [Bool.eq_iff_iff]
      first
        | (simp; done)
        | (simp; omega)

set_option maxHeartbeats 1600000 in
set_option maxRecDepth 100000 in
theorem rboot_walk (s : S) (hf : Fit s) (w : World) : Calls Tryd.prog 17 #[s.v] w fun e w' => e = .returned (.bool (boot s)) ∧ Below w.heap.size w w' := by
  have HW : Hid (∀ w : World, Calls Tryd.prog 15 #[.agg s.cs.toArray] w fun e w' => e = .returned (.bool (right s)) ∧ Below w.heap.size w w') := hide (rright_walk s hf)
  have HS := hide (info26s hf.dg)
  have Hr : Hid (boot s = (right s && (decide (s.st = 3) || decide (0 < s.tr)))) := hide rfl
  have Hc := hide (right_cases (s := s))
  have H0 : Hid (s.cs[0]? = some (.int .i64 s.st)) := hide rfl
  have H1 : Hid (s.cs[1]? = some (.int .i64 s.tr)) := hide rfl
  have Ht : Hid (right s = true → s.st = 2 ∨ s.st ≠ 2 ∧ s.tr = 0) := by
    show right s = true → _
    intro h
    rcases right_cases h with ⟨k1, k2⟩ | ⟨k1, k2⟩ | ⟨k1, k2, k3⟩
    · have := congrArg S.tr k2
      simp only [bare] at this
      omega
    · exact .inl k1
    · omega
  clear Hc
  unfold S.v
  generalize boot s = R at *
  generalize right s = r at *
  generalize s.cs = C at *
  clear hf
  generalize s.st = x at *
  generalize s.tr = y at *
  go_enter Tryd.func17, Tryd.ntmps17
  go_wp2_with (refine wpList_box 26 _ C rfl rfl rfl ?_)
  intro w1 hA1 hb1 hs1
  have c0 := hA1.cell (unhide H0)
  have c1 := hA1.cell (unhide H1)
  have HA := hide hA1
  have Hb := hide hb1
  clear hA1 hb1 hs1
  go_wp2_with (refine wpList_loadAll 26 _ w.heap.size C _ rfl rfl rfl (unhide HA) Tryd.underlying26 rfl (unhide HS) ?_)
  refine ((unhide HW) w1).mono ?_
  rintro e w2 ⟨rfl, hb2⟩
  have c0 := kept c0 hb2
  have c1 := kept c1 hb2
  have Hb2 := hide ((unhide Hb).trans (hb2.mono (unhide Hb).size))
  clear hb2 HA Hb HW
  cases r with
  | false =>
    go_wp2
    go_ret
    refine ⟨?_, unhide Hb2⟩
    rw [unhide Hr]
    rfl
  | true =>
    have Ht := unhide Ht rfl
    have Ht := hide Ht
    go_wp2
    all_goals
      go_ret
      refine ⟨congrArg (fun b => Ending.returned (Value.bool b)) ?_, unhide Hb2⟩
      rw [unhide Hr]
      have := unhide Ht
      rw [Bool.eq_iff_iff]
      first
        | (simp; done)
        | (simp; omega)

set_option maxHeartbeats 1600000 in
set_option maxRecDepth 100000 in
theorem whole_walk (s : S) (hf : Fit s) (w : World) : Calls Tryd.prog 52 #[s.v] w fun e w' => e = .returned (.bool (whole s)) ∧ Below w.heap.size w w' := by
  have HW : Hid (∀ w : World, Calls Tryd.prog 14 #[.agg s.cs.toArray] w fun e w' => e = .returned (.bool (right s)) ∧ Below w.heap.size w w') := hide (right_walk s hf)
  have HS := hide (info26s hf.dg)
  have Hr : Hid (whole s = (right s && has s.st)) := hide rfl
  have H0 : Hid (s.cs[0]? = some (.int .i64 s.st)) := hide rfl
  unfold S.v
  generalize whole s = R at *
  generalize right s = r at *
  generalize s.cs = C at *
  clear hf
  generalize s.st = x at *
  go_enter Tryd.func52, Tryd.ntmps52
  go_wp2_with (refine wpList_box 26 _ C rfl rfl rfl ?_)
  intro w1 hA1 hb1 hs1
  have c0 := hA1.cell (unhide H0)
  have HA := hide hA1
  have Hb := hide hb1
  clear hA1 hb1 hs1
  go_wp2_with (refine wpList_loadAll 26 _ w.heap.size C _ rfl rfl rfl (unhide HA) Tryd.underlying26 rfl (unhide HS) ?_)
  refine ((unhide HW) w1).mono ?_
  rintro e w2 ⟨rfl, hb2⟩
  have c0 := kept c0 hb2
  have Hb2 := hide ((unhide Hb).trans (hb2.mono (unhide Hb).size))
  clear hb2 HA Hb HW
  cases r with
  | false =>
    go_wp2
    go_ret
    refine ⟨?_, unhide Hb2⟩
    rw [unhide Hr]
    rfl
  | true =>
    go_wp2_with fail
    refine (has_walk x w2).mono ?_
    rintro e w3 ⟨rfl, hw3⟩
    subst w3
    go_wp2
    go_ret
    refine ⟨?_, unhide Hb2⟩
    rw [unhide Hr]
    rfl

end Go.Proofs.YtglphnmnnfpcoaaDoor
