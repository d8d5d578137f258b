/-
  SlotNames: names, and what is called so.
-/
import Derived.Test.YtglphnmnnfpcoaaDoorSIndex
import Derived.Test.YtglphnmnnfpcoaaDoorSOps
import Derived.Test.YtglphnmnnfpcoaaDoorSParse
namespace Go.Proofs.YtglphnmnnfpcoaaDoor.slotNames
open Go.RowKit Go.Lib

theorem good_no (x : S) (hr : right x = true) : textS x ≠ [103, 111, 111, 100] := by
  intro h
  have hg := right_range hr
  unfold textS at h
  rw [if_pos hr] at h
  have hs : x.st = 0 ∨ x.st = 1 ∨ x.st = 2 ∨ x.st = 3 ∨ x.st = 4 := by omega
  rcases hs with e | e | e | e | e <;> simp [e, word, wordsB, has] at h
section
variable {ρ : Operand → Value} {o : Oper}
theorem op_eql27 {x y : Operand} {a b : Int} (ho : o.op = .binOp .eql 27 x y 27) (h1 : ρ x = .int .i64 a) (h2 : ρ y = .int .i64 b) (w : World) :
    (execOp ρ o).run Tryd.prog w = .ok (.value (.bool (a == b))) w := by
  unfold execOp
  rw [ho]
  go_simp
theorem op_call11 (ho : o.op = .call { callee := .value (.func 11), args := #[], argTypes := #[] }) (hf : ρ (.func 11) = .func (.func 11) #[] #[]) (w : World) :
    (execOp ρ o).run Tryd.prog w = .ok (.enter 11 #[]) w := by
  unfold execOp
  rw [ho]
  go_simp
theorem op_call12 {x : Operand} {u : Value} (ho : o.op = .call { callee := .value (.func 12), args := #[x], argTypes := #[3] }) (h1 : ρ x = u) (hf : ρ (.func 12) = .func (.func 12) #[] #[]) (w : World) :
    (execOp ρ o).run Tryd.prog w = .ok (.enter 12 #[u]) w := by
  unfold execOp
  rw [ho]
  go_simp
theorem op_call13 {x : Operand} {u : Value} (ho : o.op = .call { callee := .value (.func 13), args := #[x], argTypes := #[9] }) (h1 : ρ x = u) (hf : ρ (.func 13) = .func (.func 13) #[] #[]) (w : World) :
    (execOp ρ o).run Tryd.prog w = .ok (.enter 13 #[u]) w := by
  unfold execOp
  rw [ho]
  go_simp
end

set_option maxHeartbeats 6400000 in
set_option maxRecDepth 100000 in
theorem walk (w : World) (hU : G.Uni w) : Calls Tryd.prog 3 #[] w fun e w' => e = .returned (.bool true) ∧ Below w.heap.size w w' := by
  have HP : Hid (Calls Tryd.prog 10 #[.string (tx [103, 111, 111, 100])] w fun e w' => e = .returned (.tuple #[.agg zeroS.cs.toArray, .int .i64 101]) ∧ Below w.heap.size w w') := by
    refine (parse_walk [103, 111, 111, 100] (by decide) w hU.tabs).mono ?_
    rintro e w' ⟨x, z, rfl, hp, hb⟩
    rcases hp with ⟨_, _, hr, ht⟩ | ⟨rfl, rfl, _⟩
    · exact absurd ht (good_no x hr)
    · exact ⟨rfl, hb⟩
  have HI0 : Hid (∀ w, G.Uni w → Calls Tryd.prog 13 #[.string (tx [97])] w fun e w' => e = .returned (.int .i64 0) ∧ Below w.heap.size w w') := hide (index_walk [97] (by decide))
  have HI1 : Hid (∀ w, G.Uni w → Calls Tryd.prog 13 #[.string (tx [66])] w fun e w' => e = .returned (.int .i64 1) ∧ Below w.heap.size w w') := by
    have h := index_walk [66] (by decide)
    rw [show ixF [66] = 1 by unfold ixF; rw [fold_B]; rfl] at h
    exact hide h
  have HI0 : Hid (∀ w, G.Uni w → Calls Tryd.prog 13 #[.string (tx [97])] w fun e w' => e = .returned (.int .i64 0) ∧ Below w.heap.size w w') := by
    have h := index_walk [97] (by decide)
    rw [show ixF [97] = 0 by unfold ixF; rw [fold_a]; rfl] at h
    exact hide h
  have HI2 : Hid (∀ w, G.Uni w → Calls Tryd.prog 13 #[.string (tx [])] w fun e w' => e = .returned (.int .i64 (-1)) ∧ Below w.heap.size w w') := by
    have h := index_walk [] (by decide)
    rw [show ixF [] = -1 by unfold ixF; rw [fold_none]; rfl] at h
    exact hide h
  have HAl := hide alive_walk
  have HU0 := hide hU
  have Hal := hide alloc26
  obtain ⟨zR, hzR⟩ : ∃ zR : S, zR = zeroS := ⟨_, rfl⟩
  have hzd : zR.dg.length = 32 := by rw [hzR]; rfl
  have HzI := hide (info26s hzd)
  have HzL := hide (cs_length hzd)
  have Hz1 := hide (cs_one zR)
  have HZL : Hid (zeroS.cs.length = 36) := hide rfl
  have HP : Hid (Calls Tryd.prog 10 #[.string (tx [103, 111, 111, 100])] w fun e w' => e = .returned (.tuple #[.agg zR.cs.toArray, .int .i64 101]) ∧ Below w.heap.size w w') := by rw [hzR]; exact HP
  clear hzR hzd hU
  go_enter Tryd.func3, Tryd.ntmps3
  go_wp2_with fail
  refine (unhide HP).mono ?_
  rintro e w1 ⟨rfl, hb1⟩
  have Hb1 := hide hb1
  clear hb1
  go_wp2_with (refine wpList_alloc 26 26 zeroS.cs rfl rfl (unhide Hal) ?_)
  intro w2 hA2 hb2 hs2
  have HA2 := hide hA2
  have Hb2 := hide ((unhide Hb1).trans (hb2.mono (unhide Hb1).size))
  have hp1 := (unhide Hb1).size
  clear hA2 hb2 Hb1
  generalize w1.heap.size = p at *
  go_wp2_with (refine wpList_storeAll 26 _ _ p zR.cs zeroS.cs rfl rfl rfl rfl (unhide HA2) (by rw [unhide HzL, unhide HZL]) (unhide HzI) (unhide Hz1) ?_)
  intro w3 hA3 hg3 hs3
  have Hb3 := hide ((unhide Hb2).grown hg3 (unhide Hb2).size (fun k hk => by cases hk; exact hp1))
  have HU := hide ((unhide HU0).below (unhide Hb3))
  clear hA3 hg3 HA2 Hb2 HU0
  go_wp2_with fail
  refine (unhide HAl w3 (unhide HU).tabs).mono ?_
  rintro e w4 ⟨rfl, hb4⟩
  have HU := hide ((unhide HU).below hb4)
  have Hb := hide ((unhide Hb3).trans (hb4.mono (unhide Hb3).size))
  clear hb4 Hb3
  have N0 := hide (name_walk 0)
  have N1 := hide (name_walk 1)
  have N2 := hide (name_walk 2)
  have N3 := hide (name_walk (-1))
  have e0 : (tx (nmF 0)).toList = [97] := by rw [ByteArray.toList_eq]; rfl
  have e1 : (tx (nmF 1)).toList = [98] := by rw [ByteArray.toList_eq]; rfl
  have e2 : (tx (nmF 2)).toList = [] := by rw [ByteArray.toList_eq]; rfl
  have e3 : (tx (nmF (-1))).toList = [] := by rw [ByteArray.toList_eq]; rfl
  generalize tx (nmF 0) = t0 at *
  generalize tx (nmF 1) = t1 at *
  generalize tx (nmF 2) = t2 at *
  generalize tx (nmF (-1)) = t3 at *
  go_wp2_with fail
  refine (unhide N0 w4).mono ?_
  rintro e w5 ⟨rfl, hw5⟩
  subst w5
  go_wp2_with fail
  refine (unhide N1 w4).mono ?_
  rintro e w5 ⟨rfl, hw5⟩
  subst w5
  go_wp2_with fail
  refine (unhide N2 w4).mono ?_
  rintro e w5 ⟨rfl, hw5⟩
  subst w5
  go_wp2_with fail
  refine (unhide N3 w4).mono ?_
  rintro e w5 ⟨rfl, hw5⟩
  subst w5
  go_wp2_with fail
  refine (unhide HI1 w4 (unhide HU)).mono ?_
  rintro e w6 ⟨rfl, hb⟩
  have HU := hide ((unhide HU).below hb)
  have Hb := hide ((unhide Hb).trans (hb.mono (unhide Hb).size))
  clear hb
  go_wp2_with fail
  refine (unhide HI0 w6 (unhide HU)).mono ?_
  rintro e w7 ⟨rfl, hb⟩
  have HU := hide ((unhide HU).below hb)
  have Hb := hide ((unhide Hb).trans (hb.mono (unhide Hb).size))
  clear hb
  go_wp2_with fail
  refine (unhide HI2 w7 (unhide HU)).mono ?_
  rintro e w8 ⟨rfl, hb⟩
  have HU := hide ((unhide HU).below hb)
  have Hb := hide ((unhide Hb).trans (hb.mono (unhide Hb).size))
  clear hb
  go_wp2
  go_ret
  exact ⟨rfl, unhide Hb⟩
end Go.Proofs.YtglphnmnnfpcoaaDoor.slotNames
