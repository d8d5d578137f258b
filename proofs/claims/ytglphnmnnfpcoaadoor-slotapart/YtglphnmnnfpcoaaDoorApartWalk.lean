/-
  SlotApart: of any two slots that can be the bytes are the same just where they are the same, and so are the texts.
-/
import Derived.Test.YtglphnmnnfpcoaaDoorSCells
import Derived.Test.YtglphnmnnfpcoaaDoorSBytes
namespace Go.Proofs.YtglphnmnnfpcoaaDoor.slotApart
open Go.RowKit

/-- What the operations of the two regions yield. -/
def VA (K1 K2 : List Value) (b1 b2 : List UInt8) : Nat → Value → World → Prop
  | 0, v, _ => v = .agg K1.toArray
  | 1, v, w => RowV w.heap.size w v b1
  | 2, v, _ => v = .string (tx b1)
  | 3, v, _ => v = .agg K2.toArray
  | 4, v, w => RowV w.heap.size w v b2
  | 5, v, _ => v = .string (tx b2)
  | 6, v, _ => v = .string (tx b1)
  | 7, v, _ => v = .string (tx b2)
  | _, _, _ => True
theorem VA.stable {K1 K2 : List Value} {b1 b2 : List UInt8} (j : Nat) (v : Value) (w w' : World) (h : VA K1 K2 b1 b2 j v w) (hb : Below w.heap.size w w') : VA K1 K2 b1 b2 j v w' := by
  unfold VA at *
  split at h
  all_goals first | exact h | exact (RowV.below h hb).up hb.size

set_option maxHeartbeats 3200000 in
set_option maxRecDepth 100000 in
theorem walk (s r : S) (w : World) (hT : Tabs w) (hf : Fit s) (hg : Fit r) : Calls Tryd.prog 8 #[s.v, r.v] w fun e w' => e = .returned (.bool true) ∧ Below w.heap.size w w' := by
  have HT := hide hT
  have HR1 : Hid (∀ w : World, Calls Tryd.prog 14 #[.agg s.cs.toArray] w fun e w' => e = .returned (.bool (right s)) ∧ Below w.heap.size w w') := hide (right_walk s hf)
  have HR2 : Hid (∀ w : World, Calls Tryd.prog 14 #[.agg r.cs.toArray] w fun e w' => e = .returned (.bool (right r)) ∧ Below w.heap.size w w') := hide (right_walk r hg)
  have HS1 := hide (info26s hf.dg)
  have HS2 := hide (info26s hg.dg)
  have HB1 : Hid (∀ w : World, Calls Tryd.prog 18 #[.agg s.cs.toArray] w fun e w' => ∃ v, e = .returned v ∧ RowV w'.heap.size w' v (bytesS s) ∧ Below w.heap.size w w') := hide (bytes_walk s hf)
  have HB2 : Hid (∀ w : World, Calls Tryd.prog 18 #[.agg r.cs.toArray] w fun e w' => ∃ v, e = .returned v ∧ RowV w'.heap.size w' v (bytesS r) ∧ Below w.heap.size w w') := hide (bytes_walk r hg)
  have HX1 : Hid (∀ w : World, Tabs w → Calls Tryd.prog 20 #[.agg s.cs.toArray] w fun e w' => e = .returned (.string (tx (textS s))) ∧ Below w.heap.size w w') := hide (text_walk s hf)
  have HX2 : Hid (∀ w : World, Tabs w → Calls Tryd.prog 20 #[.agg r.cs.toArray] w fun e w' => e = .returned (.string (tx (textS r))) ∧ Below w.heap.size w w') := hide (text_walk r hg)
  have HE : Hid (∀ (ρ : Operand → Value) (o : Oper) (x y : Operand) (w : World), o.op = .binOp .eql 26 x y 26 → ρ x = .agg s.cs.toArray → ρ y = .agg r.cs.toArray → (execOp ρ o).run Tryd.prog w = .ok (.value (.bool (decide (s = r)))) w) := hide fun ρ o x y w ho h1 h2 => op_eqlS ho h1 h2 hf.dg hg.dg w
  have Hl : Hid (right s = true → right r = true → (bytesS s).length = 46 ∧ (bytesS r).length = 46 ∧ decide (bytesS s = bytesS r) = decide (s = r) ∧ decide (textS s = textS r) = decide (s = r)) := by
    show right s = true → right r = true → _
    intro h1 h2
    refine ⟨bytes_len h1 hf, bytes_len h2 hg, ?_, ?_⟩
    · by_cases e : s = r
      · rw [e]; simp
      · rw [decide_eq_false e, decide_eq_false (fun h => e (bytes_inj h1 h2 h))]
    · by_cases e : s = r
      · rw [e]; simp
      · rw [decide_eq_false e, decide_eq_false (fun h => e (text_inj h1 h2 hf hg h))]
  unfold S.v
  clear hT hf hg
  generalize s.cs = K1 at *
  generalize r.cs = K2 at *
  generalize bytesS s = y1 at *
  generalize bytesS r = y2 at *
  generalize textS s = t1 at *
  generalize textS r = t2 at *
  generalize decide (s = r) = E at *
  generalize right s = R1 at *
  generalize right r = R2 at *
  go_enter Tryd.func8, Tryd.ntmps8
  go_wp2_with (refine wpList_box 26 _ K1 rfl rfl rfl ?_)
  intro w1 hA1 hb1 hs1
  have HA1 := hide hA1
  have Hb1 := hide hb1
  clear hA1 hb1
  go_wp2_with (refine wpList_box 26 _ K2 rfl rfl rfl ?_)
  intro w2 hA2 hb2 hs2
  have HA1 := hide ((unhide HA1).keep hb2 (by omega))
  have HA2 := hide hA2
  have Hb2 := hide ((unhide Hb1).trans (hb2.mono (by omega)))
  have HT2 := hide ((unhide HT).below (unhide Hb2))
  clear hA2 hb2 Hb1
  go_wp2_with fail
  refine (alive_walk w2 (unhide HT2)).mono ?_
  rintro e w3 ⟨rfl, hb3⟩
  have HA1 := hide ((unhide HA1).below hb3)
  have HA2 := hide ((unhide HA2).below hb3)
  have Hb3 := hide ((unhide Hb2).trans (hb3.mono (unhide Hb2).size))
  clear hb3 Hb2 HT2
  go_wp2_with (refine wpList_loadAll 26 _ w.heap.size K1 _ rfl rfl rfl (unhide HA1) Tryd.underlying26 rfl (unhide HS1) ?_)
  refine (unhide HR1 w3).mono ?_
  rintro e w4 ⟨rfl, hb4⟩
  have HA1 := hide ((unhide HA1).below hb4)
  have HA2 := hide ((unhide HA2).below hb4)
  have Hb4 := hide ((unhide Hb3).trans (hb4.mono (unhide Hb3).size))
  clear hb4 Hb3
  cases R1 with
  | false =>
    go_wp2
    go_ret
    exact ⟨rfl, unhide Hb4⟩
  | true =>
    go_wp2_with (refine wpList_guarded rfl (wpList_loadAll 26 _ (w.heap.size + 1) K2 _ rfl rfl rfl (unhide HA2) Tryd.underlying26 rfl (unhide HS2) ?_))
    refine (unhide HR2 w4).mono ?_
    rintro e w5 ⟨rfl, hb5⟩
    have HA1 := hide ((unhide HA1).below hb5)
    have HA2 := hide ((unhide HA2).below hb5)
    have Hb5 := hide ((unhide Hb4).trans (hb5.mono (unhide Hb4).size))
    clear hb5 Hb4
    cases R2 with
    | false =>
      go_wp2
      go_ret
      exact ⟨rfl, unhide Hb5⟩
    | true =>
      obtain ⟨l1, l2, q1, q2⟩ := unhide Hl (by simp) (by simp)
      have HQ1 := hide q1
      have HQ2 := hide q2
      clear q1 q2 Hl
      go_wp2_with fail
      refine Free.wp_region_owes (VA K1 K2 y1 y2) (fun w' => Below w5.heap.size w5 w') (by kernel_rfl) (by kernel_rfl) VA.stable (Below.drew (Below.refl _ _)) ⟨?_, ?_, ?_, ?_, ?_, ?_, ?_, ?_, trivial⟩ ?_
      · exact Free.owed_pure (Free.goes_plain rfl) fun a w' hC hs hd => ⟨_, op_load26 rfl (hs 2 (by kernel_rfl)) (((unhide HA1).below hC).range) (unhide HS1), rfl⟩
      · refine Free.owed_call (Free.goes_plain rfl) fun a w' hC hs hd => ⟨18, #[.agg K1.toArray], op_call18 (u := .agg K1.toArray) rfl (hd 0 17 (by kernel_rfl)) rfl w', (unhide HB1 w').mono ?_⟩
        rintro e w2 ⟨v, rfl, hr, hb⟩
        exact ⟨_, rfl, hb, hC.trans (hb.mono hC.size), hr⟩
      · exact Free.owed_pure (Free.goes_plain rfl) fun a w' hC hs hd => ⟨_, op_text rfl rfl (hd 1 18 (by kernel_rfl)), rfl⟩
      · exact Free.owed_pure (Free.goes_plain rfl) fun a w' hC hs hd => ⟨_, op_load26 rfl (hs 3 (by kernel_rfl)) (((unhide HA2).below hC).range) (unhide HS2), rfl⟩
      · refine Free.owed_call (Free.goes_plain rfl) fun a w' hC hs hd => ⟨18, #[.agg K2.toArray], op_call18 (u := .agg K2.toArray) rfl (hd 3 20 (by kernel_rfl)) rfl w', (unhide HB2 w').mono ?_⟩
        rintro e w2 ⟨v, rfl, hr, hb⟩
        exact ⟨_, rfl, hb, hC.trans (hb.mono hC.size), hr⟩
      · exact Free.owed_pure (Free.goes_plain rfl) fun a w' hC hs hd => ⟨_, op_text rfl rfl (hd 4 21 (by kernel_rfl)), rfl⟩
      · exact Free.owed_move (Free.goes_plain rfl) (.inr rfl) fun a w' hC hs hd => (hd 2 19 (by kernel_rfl))
      · exact Free.owed_move (Free.goes_plain rfl) (.inr rfl) fun a w' hC hs hd => (hd 5 22 (by kernel_rfl))
      intro w6 hb6 vals hv
      have e6 : vals 6 = .string (tx y1) := hv 6 _ 5 rfl rfl
      have e7 : vals 7 = .string (tx y2) := hv 7 _ 6 rfl rfl
      clear hv
      simp only [Free.putAll, Act.put, List.setIfInBounds_toArray, List.set_cons_succ, List.set_cons_zero, e6, e7]
      clear e6 e7
      generalize vals 0 = x0
      generalize vals 1 = x1
      generalize vals 2 = x2
      generalize vals 3 = x3
      generalize vals 4 = x4
      generalize vals 5 = x5
      have HA1 := hide ((unhide HA1).below hb6)
      have HA2 := hide ((unhide HA2).below hb6)
      have Hb6 := hide ((unhide Hb5).trans (hb6.mono (unhide Hb5).size))
      have HT6 := hide ((unhide HT).below (unhide Hb6))
      clear hb6 Hb5
      go_wp2_with fail
      refine Free.wp_region_owes (fun j (v : Value) (_ : World) => v = (fun j => match j with | 0 => .string (tx y1) | 1 => .int .i64 (y1.length : Int) | 2 => .bool true | 3 => .bool true | 4 => .string (tx y2) | 5 => .int .i64 (y2.length : Int) | 6 => .bool true | 7 => .bool true | 8 => .bool true | 9 => .string (tx y1) | 10 => .string (tx y2) | 11 => .bool E | 12 => .agg K1.toArray | 13 => .agg K2.toArray | 14 => .bool E | 15 => .bool true | 16 => .bool true | 17 => .bool true | 18 => .agg K1.toArray | 19 => .string (tx t1) | 20 => .agg K2.toArray | 21 => .string (tx t2) | 22 => .bool E | 23 => .agg K1.toArray | 24 => .agg K2.toArray | 25 => .bool E | 26 => .bool true | 27 => .bool true | 28 => .bool true | _ => undef) j) (fun w' => Below w6.heap.size w6 w') (by kernel_rfl) (by kernel_rfl) (fun _ _ _ _ h _ => h) (Below.drew (Below.refl _ _)) ⟨?_, ?_, ?_, ?_, ?_, ?_, ?_, ?_, ?_, ?_, ?_, ?_, ?_, ?_, ?_, ?_, ?_, ?_, ?_, ?_, ?_, ?_, ?_, ?_, ?_, ?_, ?_, ?_, ?_, trivial⟩ ?_
      · exact Free.owed_move (Free.goes_plain rfl) (.inl rfl) fun a w' hC hs hd => (hs 5 (by kernel_rfl))
      · exact Free.owed_pure (Free.goes_plain rfl) fun a w' hC hs hd => ⟨_, op_len9 rfl (hd 0 23 (by kernel_rfl)) w', rfl⟩
      · refine Free.owed_pure (Free.goes_plain rfl) fun a w' hC hs hd => ⟨_, op_eql3 rfl (hd 1 24 (by kernel_rfl)) rfl w', ?_⟩
        show Value.bool _ = Value.bool true
        rw [l1]
        rfl
      · exact Free.owed_move (Free.goes_plain rfl) (.inl rfl) fun a w' hC hs hd => (hd 2 25 (by kernel_rfl))
      · exact Free.owed_move (Free.goes_guard true rfl rfl rfl (by kernel_rfl) (fun _ _ h => h)) (.inl rfl) fun a w' hC hs hd => (hs 6 (by kernel_rfl))
      · exact Free.owed_pure (Free.goes_guard true rfl rfl rfl (by kernel_rfl) (fun _ _ h => h)) fun a w' hC hs hd => ⟨_, op_len9 rfl (hd 4 27 (by kernel_rfl)) w', rfl⟩
      · refine Free.owed_pure (Free.goes_guard true rfl rfl rfl (by kernel_rfl) (fun _ _ h => h)) fun a w' hC hs hd => ⟨_, op_eql3 rfl (hd 5 28 (by kernel_rfl)) rfl w', ?_⟩
        show Value.bool _ = Value.bool true
        rw [l2]
        rfl
      · exact Free.owed_pure (Free.goes_plain rfl) fun a w' hC hs hd => ⟨_, op_pickT rfl (hd 3 26 (by kernel_rfl)) (hd 6 29 (by kernel_rfl)) w', rfl⟩
      · exact Free.owed_move (Free.goes_plain rfl) (.inl rfl) fun a w' hC hs hd => (hd 7 30 (by kernel_rfl))
      · exact Free.owed_move (Free.goes_guard true rfl rfl rfl (by kernel_rfl) (fun _ _ h => h)) (.inl rfl) fun a w' hC hs hd => (hs 5 (by kernel_rfl))
      · exact Free.owed_move (Free.goes_guard true rfl rfl rfl (by kernel_rfl) (fun _ _ h => h)) (.inl rfl) fun a w' hC hs hd => (hs 6 (by kernel_rfl))
      · refine Free.owed_pure (Free.goes_guard true rfl rfl rfl (by kernel_rfl) (fun _ _ h => h)) fun a w' hC hs hd => ⟨_, op_eqlT rfl (hd 9 32 (by kernel_rfl)) (hd 10 33 (by kernel_rfl)) w', ?_⟩
        show Value.bool _ = Value.bool E
        rw [unhide HQ1]
      · exact Free.owed_pure (Free.goes_guard true rfl rfl rfl (by kernel_rfl) (fun _ _ h => h)) fun a w' hC hs hd => ⟨_, op_load26 rfl (hs 2 (by kernel_rfl)) (((unhide HA1).below hC).range) (unhide HS1), rfl⟩
      · exact Free.owed_pure (Free.goes_guard true rfl rfl rfl (by kernel_rfl) (fun _ _ h => h)) fun a w' hC hs hd => ⟨_, op_load26 rfl (hs 3 (by kernel_rfl)) (((unhide HA2).below hC).range) (unhide HS2), rfl⟩
      · exact Free.owed_pure (Free.goes_guard true rfl rfl rfl (by kernel_rfl) (fun _ _ h => h)) fun a w' hC hs hd => ⟨_, unhide HE _ _ _ _ w' rfl (hd 12 35 (by kernel_rfl)) (hd 13 36 (by kernel_rfl)), rfl⟩
      · refine Free.owed_pure (Free.goes_guard true rfl rfl rfl (by kernel_rfl) (fun _ _ h => h)) fun a w' hC hs hd => ⟨_, op_eql4 rfl (hd 11 34 (by kernel_rfl)) (hd 14 37 (by kernel_rfl)) w', ?_⟩
        show Value.bool _ = Value.bool true
        rw [beq_self_eq_true]
      · exact Free.owed_pure (Free.goes_plain rfl) fun a w' hC hs hd => ⟨_, op_pickT rfl (hd 8 31 (by kernel_rfl)) (hd 15 38 (by kernel_rfl)) w', rfl⟩
      · exact Free.owed_move (Free.goes_plain rfl) (.inl rfl) fun a w' hC hs hd => (hd 16 39 (by kernel_rfl))
      · exact Free.owed_pure (Free.goes_guard true rfl rfl rfl (by kernel_rfl) (fun _ _ h => h)) fun a w' hC hs hd => ⟨_, op_load26 rfl (hs 2 (by kernel_rfl)) (((unhide HA1).below hC).range) (unhide HS1), rfl⟩
      · refine Free.owed_call (Free.goes_guard true rfl rfl rfl (by kernel_rfl) (fun _ _ h => h)) fun a w' hC hs hd => ⟨20, #[.agg K1.toArray], op_call20 (u := .agg K1.toArray) rfl (hd 18 41 (by kernel_rfl)) rfl w', (unhide HX1 w' ((unhide HT6).below hC)).mono ?_⟩
        rintro e w2 ⟨rfl, hb⟩
        exact ⟨_, rfl, hb, hC.trans (hb.mono hC.size), rfl⟩
      · exact Free.owed_pure (Free.goes_guard true rfl rfl rfl (by kernel_rfl) (fun _ _ h => h)) fun a w' hC hs hd => ⟨_, op_load26 rfl (hs 3 (by kernel_rfl)) (((unhide HA2).below hC).range) (unhide HS2), rfl⟩
      · refine Free.owed_call (Free.goes_guard true rfl rfl rfl (by kernel_rfl) (fun _ _ h => h)) fun a w' hC hs hd => ⟨20, #[.agg K2.toArray], op_call20 (u := .agg K2.toArray) rfl (hd 20 43 (by kernel_rfl)) rfl w', (unhide HX2 w' ((unhide HT6).below hC)).mono ?_⟩
        rintro e w2 ⟨rfl, hb⟩
        exact ⟨_, rfl, hb, hC.trans (hb.mono hC.size), rfl⟩
      · refine Free.owed_pure (Free.goes_guard true rfl rfl rfl (by kernel_rfl) (fun _ _ h => h)) fun a w' hC hs hd => ⟨_, op_eqlT rfl (hd 19 42 (by kernel_rfl)) (hd 21 44 (by kernel_rfl)) w', ?_⟩
        show Value.bool _ = Value.bool E
        rw [unhide HQ2]
      · exact Free.owed_pure (Free.goes_guard true rfl rfl rfl (by kernel_rfl) (fun _ _ h => h)) fun a w' hC hs hd => ⟨_, op_load26 rfl (hs 2 (by kernel_rfl)) (((unhide HA1).below hC).range) (unhide HS1), rfl⟩
      · exact Free.owed_pure (Free.goes_guard true rfl rfl rfl (by kernel_rfl) (fun _ _ h => h)) fun a w' hC hs hd => ⟨_, op_load26 rfl (hs 3 (by kernel_rfl)) (((unhide HA2).below hC).range) (unhide HS2), rfl⟩
      · exact Free.owed_pure (Free.goes_guard true rfl rfl rfl (by kernel_rfl) (fun _ _ h => h)) fun a w' hC hs hd => ⟨_, unhide HE _ _ _ _ w' rfl (hd 23 46 (by kernel_rfl)) (hd 24 47 (by kernel_rfl)), rfl⟩
      · refine Free.owed_pure (Free.goes_guard true rfl rfl rfl (by kernel_rfl) (fun _ _ h => h)) fun a w' hC hs hd => ⟨_, op_eql4 rfl (hd 22 45 (by kernel_rfl)) (hd 25 48 (by kernel_rfl)) w', ?_⟩
        show Value.bool _ = Value.bool true
        rw [beq_self_eq_true]
      · exact Free.owed_pure (Free.goes_plain rfl) fun a w' hC hs hd => ⟨_, op_pickT rfl (hd 17 40 (by kernel_rfl)) (hd 26 49 (by kernel_rfl)) w', rfl⟩
      · exact Free.owed_move (Free.goes_plain rfl) (.inr rfl) fun a w' hC hs hd => (hd 27 50 (by kernel_rfl))
      intro w7 hb7 vals hv
      have e28 : vals 28 = .bool true := hv 28 _ 4 rfl rfl
      clear hv
      simp only [Free.putAll, Act.put, List.setIfInBounds_toArray, List.set_cons_succ, List.set_cons_zero, e28]
      clear e28
      have Hb7 := hide ((unhide Hb6).trans (hb7.mono (unhide Hb6).size))
      clear hb7
      go_wp2
      go_ret
      exact ⟨rfl, unhide Hb7⟩
end Go.Proofs.YtglphnmnnfpcoaaDoor.slotApart
