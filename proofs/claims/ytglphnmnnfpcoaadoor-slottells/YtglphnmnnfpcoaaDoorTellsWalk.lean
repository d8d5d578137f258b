/-
  SlotTells: whether any slot can be, and be booted; its bytes and its text.
-/
import Derived.Test.YtglphnmnnfpcoaaDoorSCells
import Derived.Test.YtglphnmnnfpcoaaDoorSRBytes
import Derived.Test.YtglphnmnnfpcoaaDoorSRText
namespace Go.Proofs.YtglphnmnnfpcoaaDoor.slotTells
open Go.RowKit

/-- What the operations of the region yield. -/
def VB (K : List Value) (R E : Bool) (y t : List UInt8) : Nat → Value → World → Prop
  | 0, v, _ => v = .agg K.toArray
  | 1, v, _ => v = .bool R
  | 2, v, _ => v = .agg K.toArray
  | 3, v, _ => v = .bool R
  | 4, v, _ => v = .bool true
  | 5, v, _ => v = .bool true
  | 6, v, _ => v = .agg K.toArray
  | 7, v, _ => v = .bool E
  | 8, v, _ => v = .agg K.toArray
  | 9, v, _ => v = .bool E
  | 10, v, _ => v = .bool true
  | 11, v, _ => v = .bool true
  | 12, v, _ => v = .bool true
  | 13, v, _ => v = .agg K.toArray
  | 14, v, w => RowV w.heap.size w v y
  | 15, v, _ => v = .string (tx y)
  | 16, v, _ => v = .agg K.toArray
  | 17, v, w => RowV w.heap.size w v y
  | 18, v, _ => v = .string (tx y)
  | 19, v, _ => v = .bool true
  | 20, v, _ => v = .bool true
  | 21, v, _ => v = .bool true
  | 22, v, _ => v = .agg K.toArray
  | 23, v, _ => v = .string (tx t)
  | 24, v, _ => v = .agg K.toArray
  | 25, v, _ => v = .string (tx t)
  | 26, v, _ => v = .bool true
  | 27, v, _ => v = .bool true
  | 28, v, _ => v = .bool true
  | _, _, _ => True
theorem VB.stable {K : List Value} {R E : Bool} {y t : List UInt8} (j : Nat) (v : Value) (w w' : World) (h : VB K R E y t j v w) (hb : Below w.heap.size w w') : VB K R E y t j v w' := by
  unfold VB at *
  split at h
  all_goals first | exact h | exact (RowV.below h hb).up hb.size

set_option maxHeartbeats 3200000 in
set_option maxRecDepth 100000 in
theorem walk (s : S) (w : World) (hT : Tabs w) (hf : Fit s) : Calls Tryd.prog 4 #[s.v] w fun e w' => e = .returned (.bool true) ∧ Below w.heap.size w w' := by
  have HT := hide hT
  have H14 : Hid (∀ w : World, Calls Tryd.prog 14 #[.agg s.cs.toArray] w fun e w' => e = .returned (.bool (right s)) ∧ Below w.heap.size w w') := hide (right_walk s hf)
  have H15 : Hid (∀ w : World, Calls Tryd.prog 15 #[.agg s.cs.toArray] w fun e w' => e = .returned (.bool (right s)) ∧ Below w.heap.size w w') := hide (rright_walk s hf)
  have H16 : Hid (∀ w : World, Calls Tryd.prog 16 #[.agg s.cs.toArray] w fun e w' => e = .returned (.bool (boot s)) ∧ Below w.heap.size w w') := hide (boot_walk s hf)
  have H17 : Hid (∀ w : World, Calls Tryd.prog 17 #[.agg s.cs.toArray] w fun e w' => e = .returned (.bool (boot s)) ∧ Below w.heap.size w w') := hide (rboot_walk s hf)
  have H18 : Hid (∀ w : World, Calls Tryd.prog 18 #[.agg s.cs.toArray] w fun e w' => ∃ v, e = .returned v ∧ RowV w'.heap.size w' v (bytesS s) ∧ Below w.heap.size w w') := hide (bytes_walk s hf)
  have H19 : Hid (∀ w : World, Calls Tryd.prog 19 #[.agg s.cs.toArray] w fun e w' => ∃ v, e = .returned v ∧ RowV w'.heap.size w' v (bytesS s) ∧ Below w.heap.size w w') := hide (rbytes_walk s hf)
  have H20 : Hid (∀ w : World, Tabs w → Calls Tryd.prog 20 #[.agg s.cs.toArray] w fun e w' => e = .returned (.string (tx (textS s))) ∧ Below w.heap.size w w') := hide (text_walk s hf)
  have H21 : Hid (∀ w : World, Calls Tryd.prog 21 #[.agg s.cs.toArray] w fun e w' => e = .returned (.string (tx (textS s))) ∧ Below w.heap.size w w') := hide (rtext_walk s hf)
  have HS := hide (info26s hf.dg)
  unfold S.v
  clear hT hf
  generalize s.cs = K at *
  generalize bytesS s = y at *
  generalize textS s = t at *
  generalize right s = R at *
  generalize boot s = E at *
  go_enter Tryd.func4, Tryd.ntmps4
  go_wp2_with (refine wpList_box 26 _ K rfl rfl rfl ?_)
  intro w1 hA1 hb1 hs1
  have HA1 := hide hA1
  have Hb1 := hide hb1
  have HT1 := hide ((unhide HT).below hb1)
  clear hA1 hb1
  go_wp2_with fail
  refine (alive_walk w1 (unhide HT1)).mono ?_
  rintro e w2 ⟨rfl, hb2⟩
  have HA2 := hide ((unhide HA1).below hb2)
  have Hb2 := hide ((unhide Hb1).trans (hb2.mono (unhide Hb1).size))
  have HT2 := hide ((unhide HT).below (unhide Hb2))
  clear hb2 Hb1 HT1 HA1
  go_wp2_with fail
  refine Free.wp_region_owes (VB K R E y t) (fun w' => Below w2.heap.size w2 w') (by kernel_rfl) (by kernel_rfl) VB.stable (Below.drew (Below.refl _ _)) ⟨?_, ?_, ?_, ?_, ?_, ?_, ?_, ?_, ?_, ?_, ?_, ?_, ?_, ?_, ?_, ?_, ?_, ?_, ?_, ?_, ?_, ?_, ?_, ?_, ?_, ?_, ?_, ?_, ?_, trivial⟩ ?_
  · exact Free.owed_pure (Free.goes_plain rfl) fun a w' hC hs hd => ⟨_, op_load26 rfl (hs 1 (by kernel_rfl)) (((unhide HA2).below hC).range) (unhide HS), rfl⟩
  · refine Free.owed_call (Free.goes_plain rfl) fun a w' hC hs hd => ⟨14, #[.agg K.toArray], op_call14 (u := .agg K.toArray) rfl (hd 0 5 (by kernel_rfl)) rfl w', (unhide H14 w').mono ?_⟩
    rintro e w2 ⟨rfl, hb⟩
    exact ⟨_, rfl, hb, hC.trans (hb.mono hC.size), rfl⟩
  · exact Free.owed_pure (Free.goes_plain rfl) fun a w' hC hs hd => ⟨_, op_load26 rfl (hs 1 (by kernel_rfl)) (((unhide HA2).below hC).range) (unhide HS), rfl⟩
  · refine Free.owed_call (Free.goes_plain rfl) fun a w' hC hs hd => ⟨15, #[.agg K.toArray], op_call15 (u := .agg K.toArray) rfl (hd 2 7 (by kernel_rfl)) rfl w', (unhide H15 w').mono ?_⟩
    rintro e w2 ⟨rfl, hb⟩
    exact ⟨_, rfl, hb, hC.trans (hb.mono hC.size), rfl⟩
  · refine Free.owed_pure (Free.goes_plain rfl) fun a w' hC hs hd => ⟨_, op_eql4 rfl (hd 1 6 (by kernel_rfl)) (hd 3 8 (by kernel_rfl)) w', ?_⟩
    show Value.bool _ = Value.bool true
    rw [beq_self_eq_true]
  · exact Free.owed_move (Free.goes_plain rfl) (.inl rfl) fun a w' hC hs hd => (hd 4 9 (by kernel_rfl))
  · exact Free.owed_pure (Free.goes_guard true rfl rfl rfl (by kernel_rfl) (fun _ _ h => h)) fun a w' hC hs hd => ⟨_, op_load26 rfl (hs 1 (by kernel_rfl)) (((unhide HA2).below hC).range) (unhide HS), rfl⟩
  · refine Free.owed_call (Free.goes_guard true rfl rfl rfl (by kernel_rfl) (fun _ _ h => h)) fun a w' hC hs hd => ⟨16, #[.agg K.toArray], op_call16 (u := .agg K.toArray) rfl (hd 6 11 (by kernel_rfl)) rfl w', (unhide H16 w').mono ?_⟩
    rintro e w2 ⟨rfl, hb⟩
    exact ⟨_, rfl, hb, hC.trans (hb.mono hC.size), rfl⟩
  · exact Free.owed_pure (Free.goes_guard true rfl rfl rfl (by kernel_rfl) (fun _ _ h => h)) fun a w' hC hs hd => ⟨_, op_load26 rfl (hs 1 (by kernel_rfl)) (((unhide HA2).below hC).range) (unhide HS), rfl⟩
  · refine Free.owed_call (Free.goes_guard true rfl rfl rfl (by kernel_rfl) (fun _ _ h => h)) fun a w' hC hs hd => ⟨17, #[.agg K.toArray], op_call17 (u := .agg K.toArray) rfl (hd 8 13 (by kernel_rfl)) rfl w', (unhide H17 w').mono ?_⟩
    rintro e w2 ⟨rfl, hb⟩
    exact ⟨_, rfl, hb, hC.trans (hb.mono hC.size), rfl⟩
  · refine Free.owed_pure (Free.goes_guard true rfl rfl rfl (by kernel_rfl) (fun _ _ h => h)) fun a w' hC hs hd => ⟨_, op_eql4 rfl (hd 7 12 (by kernel_rfl)) (hd 9 14 (by kernel_rfl)) w', ?_⟩
    show Value.bool _ = Value.bool true
    rw [beq_self_eq_true]
  · exact Free.owed_pure (Free.goes_plain rfl) fun a w' hC hs hd => ⟨_, op_pickT rfl (hd 5 10 (by kernel_rfl)) (hd 10 15 (by kernel_rfl)) w', rfl⟩
  · exact Free.owed_move (Free.goes_plain rfl) (.inl rfl) fun a w' hC hs hd => (hd 11 16 (by kernel_rfl))
  · exact Free.owed_pure (Free.goes_guard true rfl rfl rfl (by kernel_rfl) (fun _ _ h => h)) fun a w' hC hs hd => ⟨_, op_load26 rfl (hs 1 (by kernel_rfl)) (((unhide HA2).below hC).range) (unhide HS), rfl⟩
  · refine Free.owed_call (Free.goes_guard true rfl rfl rfl (by kernel_rfl) (fun _ _ h => h)) fun a w' hC hs hd => ⟨18, #[.agg K.toArray], op_call18 (u := .agg K.toArray) rfl (hd 13 18 (by kernel_rfl)) rfl w', (unhide H18 w').mono ?_⟩
    rintro e w2 ⟨v, rfl, hr, hb⟩
    exact ⟨_, rfl, hb, hC.trans (hb.mono hC.size), hr⟩
  · exact Free.owed_pure (Free.goes_guard true rfl rfl rfl (by kernel_rfl) (fun _ _ h => h)) fun a w' hC hs hd => ⟨_, op_text rfl rfl (hd 14 19 (by kernel_rfl)), rfl⟩
  · exact Free.owed_pure (Free.goes_guard true rfl rfl rfl (by kernel_rfl) (fun _ _ h => h)) fun a w' hC hs hd => ⟨_, op_load26 rfl (hs 1 (by kernel_rfl)) (((unhide HA2).below hC).range) (unhide HS), rfl⟩
  · refine Free.owed_call (Free.goes_guard true rfl rfl rfl (by kernel_rfl) (fun _ _ h => h)) fun a w' hC hs hd => ⟨19, #[.agg K.toArray], op_call19 (u := .agg K.toArray) rfl (hd 16 21 (by kernel_rfl)) rfl w', (unhide H19 w').mono ?_⟩
    rintro e w2 ⟨v, rfl, hr, hb⟩
    exact ⟨_, rfl, hb, hC.trans (hb.mono hC.size), hr⟩
  · exact Free.owed_pure (Free.goes_guard true rfl rfl rfl (by kernel_rfl) (fun _ _ h => h)) fun a w' hC hs hd => ⟨_, op_text rfl rfl (hd 17 22 (by kernel_rfl)), rfl⟩
  · refine Free.owed_pure (Free.goes_guard true rfl rfl rfl (by kernel_rfl) (fun _ _ h => h)) fun a w' hC hs hd => ⟨_, op_eqlT rfl (hd 15 20 (by kernel_rfl)) (hd 18 23 (by kernel_rfl)) w', ?_⟩
    show Value.bool _ = Value.bool true
    rw [decide_eq_true rfl]
  · exact Free.owed_pure (Free.goes_plain rfl) fun a w' hC hs hd => ⟨_, op_pickT rfl (hd 12 17 (by kernel_rfl)) (hd 19 24 (by kernel_rfl)) w', rfl⟩
  · exact Free.owed_move (Free.goes_plain rfl) (.inl rfl) fun a w' hC hs hd => (hd 20 25 (by kernel_rfl))
  · exact Free.owed_pure (Free.goes_guard true rfl rfl rfl (by kernel_rfl) (fun _ _ h => h)) fun a w' hC hs hd => ⟨_, op_load26 rfl (hs 1 (by kernel_rfl)) (((unhide HA2).below hC).range) (unhide HS), rfl⟩
  · refine Free.owed_call (Free.goes_guard true rfl rfl rfl (by kernel_rfl) (fun _ _ h => h)) fun a w' hC hs hd => ⟨20, #[.agg K.toArray], op_call20 (u := .agg K.toArray) rfl (hd 22 27 (by kernel_rfl)) rfl w', (unhide H20 w' ((unhide HT2).below hC)).mono ?_⟩
    rintro e w2 ⟨rfl, hb⟩
    exact ⟨_, rfl, hb, hC.trans (hb.mono hC.size), rfl⟩
  · exact Free.owed_pure (Free.goes_guard true rfl rfl rfl (by kernel_rfl) (fun _ _ h => h)) fun a w' hC hs hd => ⟨_, op_load26 rfl (hs 1 (by kernel_rfl)) (((unhide HA2).below hC).range) (unhide HS), rfl⟩
  · refine Free.owed_call (Free.goes_guard true rfl rfl rfl (by kernel_rfl) (fun _ _ h => h)) fun a w' hC hs hd => ⟨21, #[.agg K.toArray], op_call21 (u := .agg K.toArray) rfl (hd 24 29 (by kernel_rfl)) rfl w', (unhide H21 w').mono ?_⟩
    rintro e w2 ⟨rfl, hb⟩
    exact ⟨_, rfl, hb, hC.trans (hb.mono hC.size), rfl⟩
  · refine Free.owed_pure (Free.goes_guard true rfl rfl rfl (by kernel_rfl) (fun _ _ h => h)) fun a w' hC hs hd => ⟨_, op_eqlT rfl (hd 23 28 (by kernel_rfl)) (hd 25 30 (by kernel_rfl)) w', ?_⟩
    show Value.bool _ = Value.bool true
    rw [decide_eq_true rfl]
  · exact Free.owed_pure (Free.goes_plain rfl) fun a w' hC hs hd => ⟨_, op_pickT rfl (hd 21 26 (by kernel_rfl)) (hd 26 31 (by kernel_rfl)) w', rfl⟩
  · exact Free.owed_move (Free.goes_plain rfl) (.inr rfl) fun a w' hC hs hd => (hd 27 32 (by kernel_rfl))
  intro w7 hb7 vals hv
  have e28 : vals 28 = .bool true := hv 28 _ 2 rfl rfl
  clear hv
  simp only [Free.putAll, Act.put, List.setIfInBounds_toArray, List.set_cons_succ, List.set_cons_zero, e28]
  clear e28
  have Hb7 := hide ((unhide Hb2).trans (hb7.mono (unhide Hb2).size))
  clear hb7
  go_wp2
  go_ret
  exact ⟨rfl, unhide Hb7⟩
end Go.Proofs.YtglphnmnnfpcoaaDoor.slotTells
