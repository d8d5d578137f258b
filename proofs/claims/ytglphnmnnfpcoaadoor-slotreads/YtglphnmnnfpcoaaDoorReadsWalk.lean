/-
  SlotReads: three rounds of two readers side by side.
-/
import Derived.Test.YtglphnmnnfpcoaaDoorSRRead
import Derived.Test.YtglphnmnnfpcoaaDoorSParse
import Derived.Test.YtglphnmnnfpcoaaDoorKit
namespace Go.Proofs.YtglphnmnnfpcoaaDoor.slotReads
open Go.RowKit

section
variable {ρ : Operand → Value} {o : Oper}
theorem op_neqS {x y : Operand} {a : S} (ho : o.op = .binOp .neq 26 x y 26) (h1 : ρ x = .agg a.cs.toArray) (h2 : ρ y = .agg a.cs.toArray) (ha : a.dg.length = 32) (w : World) :
    (execOp ρ o).run Tryd.prog w = .ok (.value (.bool false)) w := by
  have hr := run_equal26 a a ha ha
  rw [decide_eq_true rfl] at hr
  unfold execOp
  rw [ho]
  go_simp
theorem op_neq3 {x y : Operand} {a b : Int} {r : Bool} (ho : o.op = .binOp .neq 3 x y 3) (h1 : ρ x = .int .i64 a) (h2 : ρ y = .int .i64 b) (hr : (a != b) = r) (w : World) :
    (execOp ρ o).run Tryd.prog w = .ok (.value (.bool r)) w := by
  subst hr
  unfold execOp
  rw [ho]
  go_simp
theorem op_f41_0 {x : Operand} {g : Nat} (ho : o.op = .fieldAddr 41 x 0) (h1 : ρ x = .pointer (some ⟨g, 0, none⟩)) (w : World) :
    (execOp ρ o).run Tryd.prog w = .ok (.value (.pointer (some ⟨g, 0, none⟩))) w := by
  unfold execOp
  rw [ho]
  go_simp
theorem op_load34 {x : Operand} {g i n c : Nat} {a : Option Addr} {w : World} (ho : o.op = .load 34 x) (h1 : ρ x = .pointer (some ⟨g, i, none⟩)) (hc : w.cell? ⟨g, i, none⟩ = some (.slice a n c)) :
    (execOp ρ o).run Tryd.prog w = .ok (.value (.slice a n c)) w := by
  unfold execOp
  rw [ho]
  go_simp
theorem op_len34 {x : Operand} {n c : Nat} {a : Option Addr} (ho : o.op = .call { callee := .builtin .len, args := #[x], argTypes := #[34] }) (h1 : ρ x = .slice a n c) (w : World) :
    (execOp ρ o).run Tryd.prog w = .ok (.value (.int .i64 (n : Int))) w := by
  unfold execOp
  rw [ho]
  go_simp
theorem op_call25 {x : Operand} {u : Value} (ho : o.op = .call { callee := .value (.func 25), args := #[x], argTypes := #[37] }) (h1 : ρ x = u) (hf : ρ (.func 25) = .func (.func 25) #[] #[]) (w : World) :
    (execOp ρ o).run Tryd.prog w = .ok (.enter 25 #[u]) w := by
  unfold execOp
  rw [ho]
  go_simp
theorem op_call26 {x : Operand} {u : Value} (ho : o.op = .call { callee := .value (.func 26), args := #[x], argTypes := #[37] }) (h1 : ρ x = u) (hf : ρ (.func 26) = .func (.func 26) #[] #[]) (w : World) :
    (execOp ρ o).run Tryd.prog w = .ok (.enter 26 #[u]) w := by
  unfold execOp
  rw [ho]
  go_simp
end
theorem readF_over (l : List UInt8) (e : Int) : Over (readF l e).2.2.1 (readF l e).2.2.2 := by
  unfold readF
  split
  · intro h; exact absurd rfl h
  · intro _; rfl
theorem readF_dg (l : List UInt8) (e : Int) : (readF l e).1.dg.length = 32 := by
  unfold readF
  split
  · rename_i h
    unfold checkedF
    split
    · exact (rdS_fit h.2).dg
    · rfl
  · rfl
/-- How memory stands: two readers side by side. -/
structure Both (w : World) (N r sb : Nat) (l : List UInt8) (e : Int) (W : World) : Prop where
  rd : Rd N W r l e
  rf : Rd N W sb l e
  bel : Below w.heap.size w W

set_option maxHeartbeats 6400000 in
set_option maxRecDepth 100000 in
theorem main (a : Option Addr) (len cap : Nat) (w : World) (hT : Tabs w) (hB : ¬ (200 : Int) < (len : Int) → ∃ bs, RowV w.heap.size w (.slice a len cap) bs) :
    Calls Tryd.prog 5 #[.slice a len cap] w fun e w' => e = .returned (.bool true) ∧ Below w.heap.size w w' := by
  have HT := hide hT
  clear hT
  have Hal := hide alloc26
  have HZI := hide (info26s (s := zeroS) rfl)
  have HZL : Hid (zeroS.cs.length = 36) := hide rfl
  by_cases h200 : (200 : Int) < (len : Int)
  · go_enter Tryd.func5, Tryd.ntmps5
    go_wp2_with fail
    refine (alive_walk w (unhide HT)).mono ?_
    rintro e w1 ⟨rfl, hb1⟩
    have Hb1 := hide hb1
    clear hb1
    go_wp2
    go_ret
    exact ⟨rfl, unhide Hb1⟩
  · obtain ⟨bs, hB⟩ := hB h200
    have HB := hide hB
    clear hB
    go_enter Tryd.func5, Tryd.ntmps5
    go_wp2_with fail
    refine (alive_walk w (unhide HT)).mono ?_
    rintro e w1 ⟨rfl, hb1⟩
    have Hb1 := hide hb1
    have HN := hide (new_walk w.heap.size _ bs w1 hb1.size ((unhide HB).below hb1))
    clear hb1
    go_wp2_with fail
    refine (unhide HN).mono ?_
    rintro e w2 ⟨rfl, hR2, hb2⟩
    have Hb2 := hide ((unhide Hb1).trans (hb2.mono (unhide Hb1).size))
    have hr := hR2.1
    have hrl := hR2.lt
    have HR2 := hide hR2
    clear hR2 hb2 HN Hb1
    generalize w1.heap.size = r at *
    have hb3 : ∀ C, Below w2.heap.size w2 (w2.alloc (.cells C 41)) := fun C => (Below.refl _ _).alloc (Nat.le_refl _) _
    have hw2 := (unhide Hb2).size
    have HR3 : Hid (∀ C, Rd w.heap.size (w2.alloc (.cells C 41)) r bs 0) := hide (fun C => (unhide HR2).below (hb3 C))
    have HS3 : Hid (Rd w.heap.size (w2.alloc (.cells #[.slice a len cap, .int .i64 0] 41)) w2.heap.size bs 0) := hide ⟨hw2, _, ⟨_, _, heap_alloc_new w2 _, rfl⟩, (unhide HB).below ((unhide Hb2).trans ((hb3 _).mono hw2))⟩
    have Hb3 : Hid (∀ C, Below w.heap.size w (w2.alloc (.cells C 41))) := hide (fun C => (unhide Hb2).trans ((hb3 C).mono hw2))
    have hrs : r ≠ w2.heap.size := by omega
    clear hb3 HR2 Hb2 hrl
    go_wp2_with fail
    generalize w2.heap.size = sb at *
    go_loopw [19] (fun ci wr => ∃ (i : Nat) (l : List UInt8) (e : Int), i ≤ 3 ∧ ci = .int .i64 (i : Int) ∧ Both w w.heap.size r sb l e wr ∧ Hid (Over l e)) (fun ci _ => 3 - (intOf ci).toNat)
    case atStart => exact ⟨0, bs, 0, by omega, rfl, ⟨unhide HR3 _, unhide HS3, unhide Hb3 _⟩, hide (fun h => absurd rfl h)⟩
    case round =>
      clear HR3 HS3 Hb3
      obtain ⟨i, l, e, hi, rfl, hBo, HO⟩ := hrel
      by_cases hlt : i < 3
      · have hrB := hBo.rd.1
        have hsB := hBo.rf.1
        have HF1 := hide (fun v h => read_walk w.heap.size r l e v h (unhide HO))
        have HF2 := hide (fun v h => rread_walk w.heap.size sb l e v h (unhide HO))
        have HO5 := hide (readF_over l e)
        have HD := hide (readF_dg l e)
        have HB0 := hide hBo
        clear hBo HO
        generalize readF l e = t at *
        obtain ⟨s, x, l2, e2⟩ := t
        simp only [S.v] at HF1 HF2 HO5 HD
        have HI := hide (info26s (unhide HD))
        have HL := hide (cs_length (unhide HD))
        have H1 := hide (cs_one s)
        obtain ⟨sc, hsc⟩ : ∃ sc, sc = s.cs := ⟨_, rfl⟩
        rw [← hsc] at HI HL H1 HF1 HF2
        have HSC := hide hsc
        clear hsc
        go_wp2_with fail
        refine (unhide HF1 wr (unhide HB0).rd).mono ?_
        rintro z w3 ⟨rfl, hR3, hg3⟩
        have hbo := unhide HB0
        have hbl3 := hbo.rd.still hg3
        have hS3 := hbo.rf.other hg3 (by omega) hrB
        have HR3 := hide hR3
        have HS3 := hide hS3
        have Hb3 := hide (hbo.bel.trans hbl3)
        have hr3 := hR3.lt
        have hs3 := hS3.lt
        clear hbo hbl3 hS3 hR3 hg3 HF1 HB0
        go_wp2_with (refine wpList_alloc 26 26 zeroS.cs rfl rfl (unhide Hal) ?_)
        intro w4 hA4 hb4 hs4
        have HA4 := hide hA4
        have HR4 := hide ((unhide HR3).below hb4)
        have HS4 := hide ((unhide HS3).below hb4)
        have Hb4 := hide ((unhide Hb3).trans (hb4.mono (unhide Hb3).size))
        clear hA4 hb4 HR3 HS3
        have hpB : w.heap.size ≤ w3.heap.size := (unhide Hb3).size
        clear Hb3
        generalize w3.heap.size = p at *
        go_wp2_with (refine wpList_storeAll 26 _ _ p sc zeroS.cs rfl rfl rfl rfl (unhide HA4) (by rw [unhide HL, unhide HZL]) (unhide HI) (unhide H1) ?_)
        intro w5 hA5 hg5 hs5
        have HP5 := hide hA5
        have HR5 := hide ((unhide HR4).other hg5 (by omega) hpB)
        have HS5 := hide ((unhide HS4).other hg5 (by omega) hpB)
        have Hb5 := hide ((unhide Hb4).grown hg5 (unhide Hb4).size (fun k hk => by cases hk; exact hpB))
        clear hA5 hg5 HA4 HR4 HS4 Hb4
        go_wp2_with fail
        refine (unhide HF2 w5 (unhide HS5)).mono ?_
        rintro z w6 ⟨rfl, hS6, hg6⟩
        have hbl6 := (unhide HS5).still hg6
        have hR6 := (unhide HR5).other hg6 (by omega) hsB
        have hP6 := (unhide HP5).grown hg6 (by simp; omega)
        have HR6 := hide hR6
        have HS6 := hide hS6
        have HP6 := hide hP6
        have Hb6 := hide ((unhide Hb5).trans hbl6)
        have hr6 := hR6.lt
        have hs6 := hS6.lt
        have hp6 := hP6.lt
        clear hbl6 hR6 hS6 hP6 hg6 HF2 HR5 HS5 HP5 Hb5
        go_wp2_with (refine wpList_alloc 26 26 zeroS.cs rfl rfl (unhide Hal) ?_)
        intro w7 hA7 hb7 hs7
        have HA7 := hide hA7
        have HR7 := hide ((unhide HR6).below hb7)
        have HS7 := hide ((unhide HS6).below hb7)
        have HP7 := hide ((unhide HP6).below hb7)
        have Hb7 := hide ((unhide Hb6).trans (hb7.mono (unhide Hb6).size))
        clear hA7 hb7 HR6 HS6 HP6
        have hqB : w.heap.size ≤ w6.heap.size := (unhide Hb6).size
        clear Hb6
        generalize w6.heap.size = q at *
        go_wp2_with (refine wpList_storeAll 26 _ _ q sc zeroS.cs rfl rfl rfl rfl (unhide HA7) (by rw [unhide HL, unhide HZL]) (unhide HI) (unhide H1) ?_)
        intro w8 hA8 hg8 hs8
        have HQ := hide hA8
        have HR := hide ((unhide HR7).other hg8 (by omega) hqB)
        have hS8 := (unhide HS7).other hg8 (by omega) hqB
        have HS8 := hide hS8
        have HP := hide ((unhide HP7).grown hg8 (by simp; omega))
        have Hb8 := hide ((unhide Hb7).grown hg8 (unhide Hb7).size (fun k hk => by cases hk; exact hqB))
        obtain ⟨_, vS, hA8s, sa, n, sc8, rfl, _, _, _, hrow8⟩ := hS8
        obtain rfl : l2.length = n := hrow8.1
        have HA := hide hA8s
        clear hA8 hg8 HA7 HR7 HS7 HP7 Hb7 hA8s hrow8
        have hsc := unhide HSC
        subst hsc
        clear HSC
        go_wp2_with fail
        refine Free.wp_region_owes (fun j (v : Value) (_ : World) => v = (fun j => match j with | 0 => .agg s.cs.toArray | 1 => .agg s.cs.toArray | 2 => .bool false | 3 => .bool false | 4 => .int .i64 x | 5 => .int .i64 x | 6 => .bool false | 7 => .bool false | 8 => .bool false | 9 => .pointer (some ⟨r, 0, none⟩) | 10 => .int .i64 (l2.length : Int) | 11 => .pointer (some ⟨sb, 0, none⟩) | 12 => .pointer (some ⟨sb, 0, none⟩) | 13 => .pointer (some ⟨sb, 0, none⟩) | 14 => .slice sa l2.length sc8 | 15 => .int .i64 (l2.length : Int) | 16 => .bool false | 17 => .bool false | 18 => .bool false | 19 => .pointer (some ⟨r, 0, none⟩) | 20 => .int .i64 e2 | 21 => .pointer (some ⟨sb, 0, none⟩) | 22 => .pointer (some ⟨sb, 0, none⟩) | 23 => .pointer (some ⟨sb, 1, none⟩) | 24 => .int .i64 e2 | 25 => .bool false | 26 => .bool false | _ => undef) j) (fun w' => Below w8.heap.size w8 w') (by kernel_rfl) (by kernel_rfl) (fun _ _ _ _ h _ => h) (Below.drew (Below.refl _ _)) ⟨?_, ?_, ?_, ?_, ?_, ?_, ?_, ?_, ?_, ?_, ?_, ?_, ?_, ?_, ?_, ?_, ?_, ?_, ?_, ?_, ?_, ?_, ?_, ?_, ?_, ?_, ?_, trivial⟩ ?_
        · exact Free.owed_pure (Free.goes_plain rfl) fun a w' hC hs hd => ⟨_, op_load26 rfl (hs 5 (by kernel_rfl)) (((unhide HP).below hC).range) (unhide HI), rfl⟩
        · exact Free.owed_pure (Free.goes_plain rfl) fun a w' hC hs hd => ⟨_, op_load26 rfl (hs 7 (by kernel_rfl)) (((unhide HQ).below hC).range) (unhide HI), rfl⟩
        · exact Free.owed_pure (Free.goes_plain rfl) fun a w' hC hs hd => ⟨_, op_neqS rfl (hd 0 31 (by kernel_rfl)) (hd 1 32 (by kernel_rfl)) (unhide HD) w', rfl⟩
        · exact Free.owed_move (Free.goes_plain rfl) (.inl rfl) fun a w' _ hs hd => hd 2 33 (by kernel_rfl)
        · exact Free.owed_move (Free.goes_guard false rfl rfl rfl (by kernel_rfl) fun _ _ h => h) (.inl rfl) fun a w' _ hs _ => hs 6 (by kernel_rfl)
        · exact Free.owed_move (Free.goes_guard false rfl rfl rfl (by kernel_rfl) fun _ _ h => h) (.inl rfl) fun a w' _ hs _ => hs 8 (by kernel_rfl)
        · exact Free.owed_pure (Free.goes_guard false rfl rfl rfl (by kernel_rfl) fun _ _ h => h) fun a w' hC hs hd => ⟨_, op_neq3 rfl (hd 4 35 (by kernel_rfl)) (hd 5 36 (by kernel_rfl)) (by simp) w', rfl⟩
        · exact Free.owed_pure (Free.goes_plain rfl) fun a w' hC hs hd => ⟨_, op_pickF rfl (hd 3 34 (by kernel_rfl)) (hd 6 37 (by kernel_rfl)) w', rfl⟩
        · exact Free.owed_move (Free.goes_plain rfl) (.inl rfl) fun a w' _ hs hd => hd 7 38 (by kernel_rfl)
        · exact Free.owed_move (Free.goes_guard false rfl rfl rfl (by kernel_rfl) fun _ _ h => h) (.inl rfl) fun a w' _ hs _ => hs 3 (by kernel_rfl)
        · refine Free.owed_call (Free.goes_guard false rfl rfl rfl (by kernel_rfl) fun _ _ h => h) fun a w' hC hs hd => ?_
          refine ⟨25, _, op_call25 rfl (hd 9 40 (by kernel_rfl)) rfl w', (rleft_walk _ _ _ _ w' ((unhide HR).below hC)).mono ?_⟩
          rintro z w7 ⟨rfl, hw7⟩
          subst w7
          exact ⟨_, rfl, Below.refl _ _, hC, rfl⟩
        · exact Free.owed_move (Free.goes_guard false rfl rfl rfl (by kernel_rfl) fun _ _ h => h) (.inl rfl) fun a w' _ hs _ => hs 4 (by kernel_rfl)
        · exact Free.owed_pure (Free.goes_guard false rfl rfl rfl (by kernel_rfl) fun _ _ h => h) fun a w' hC hs hd => ⟨_, op_nil41 rfl (hd 11 42 (by kernel_rfl)) w', rfl⟩
        · exact Free.owed_pure (Free.goes_guard false rfl rfl rfl (by kernel_rfl) fun _ _ h => h) fun a w' hC hs hd => ⟨_, op_f41_0 rfl (hd 12 43 (by kernel_rfl)) w', rfl⟩
        · exact Free.owed_pure (Free.goes_guard false rfl rfl rfl (by kernel_rfl) fun _ _ h => h) fun a w' hC hs hd => ⟨_, op_load34 rfl (hd 13 44 (by kernel_rfl)) (((unhide HA).below hC).cell (i := 0) rfl), rfl⟩
        · exact Free.owed_pure (Free.goes_guard false rfl rfl rfl (by kernel_rfl) fun _ _ h => h) fun a w' hC hs hd => ⟨_, op_len34 rfl (hd 14 45 (by kernel_rfl)) w', rfl⟩
        · exact Free.owed_pure (Free.goes_guard false rfl rfl rfl (by kernel_rfl) fun _ _ h => h) fun a w' hC hs hd => ⟨_, op_neq3 rfl (hd 10 41 (by kernel_rfl)) (hd 15 46 (by kernel_rfl)) (by simp) w', rfl⟩
        · exact Free.owed_pure (Free.goes_plain rfl) fun a w' hC hs hd => ⟨_, op_pickF rfl (hd 8 39 (by kernel_rfl)) (hd 16 47 (by kernel_rfl)) w', rfl⟩
        · exact Free.owed_move (Free.goes_plain rfl) (.inl rfl) fun a w' _ hs hd => hd 17 48 (by kernel_rfl)
        · exact Free.owed_move (Free.goes_guard false rfl rfl rfl (by kernel_rfl) fun _ _ h => h) (.inl rfl) fun a w' _ hs _ => hs 3 (by kernel_rfl)
        · refine Free.owed_call (Free.goes_guard false rfl rfl rfl (by kernel_rfl) fun _ _ h => h) fun a w' hC hs hd => ?_
          refine ⟨26, _, op_call26 rfl (hd 19 50 (by kernel_rfl)) rfl w', (rerr_walk _ _ _ _ w' ((unhide HR).below hC)).mono ?_⟩
          rintro z w7 ⟨rfl, hw7⟩
          subst w7
          exact ⟨_, rfl, Below.refl _ _, hC, rfl⟩
        · exact Free.owed_move (Free.goes_guard false rfl rfl rfl (by kernel_rfl) fun _ _ h => h) (.inl rfl) fun a w' _ hs _ => hs 4 (by kernel_rfl)
        · exact Free.owed_pure (Free.goes_guard false rfl rfl rfl (by kernel_rfl) fun _ _ h => h) fun a w' hC hs hd => ⟨_, op_nil41 rfl (hd 21 52 (by kernel_rfl)) w', rfl⟩
        · exact Free.owed_pure (Free.goes_guard false rfl rfl rfl (by kernel_rfl) fun _ _ h => h) fun a w' hC hs hd => ⟨_, op_f41_1 rfl (hd 22 53 (by kernel_rfl)) w', rfl⟩
        · exact Free.owed_pure (Free.goes_guard false rfl rfl rfl (by kernel_rfl) fun _ _ h => h) fun a w' hC hs hd => ⟨_, op_load3 rfl (hd 23 54 (by kernel_rfl)) (((unhide HA).below hC).cell (i := 1) rfl), rfl⟩
        · exact Free.owed_pure (Free.goes_guard false rfl rfl rfl (by kernel_rfl) fun _ _ h => h) fun a w' hC hs hd => ⟨_, op_neq3 rfl (hd 20 51 (by kernel_rfl)) (hd 24 55 (by kernel_rfl)) (by simp) w', rfl⟩
        · exact Free.owed_pure (Free.goes_plain rfl) fun a w' hC hs hd => ⟨_, op_pickF rfl (hd 18 49 (by kernel_rfl)) (hd 25 56 (by kernel_rfl)) w', rfl⟩
        intro w9 hC vals hv
        have e26 : vals 26 = .bool false := hv 26 _ 57 rfl rfl
        clear hv
        simp only [Free.putAll, Act.put, List.setIfInBounds_toArray, List.set_cons_succ, List.set_cons_zero, e26]
        have HB9 : Hid (Both w w.heap.size r sb l2 e2 w9) := hide ⟨(unhide HR).below hC, (unhide HS8).below hC, (unhide Hb8).trans (hC.mono (unhide Hb8).size)⟩
        clear hC e26 HR HS8 Hb8 HA HP HQ
        go_wp2
        go_roundw
        case rel => exact ⟨i + 1, l2, e2, by omega, by go_num, unhide HB9, HO5⟩
        case measure => simp [intOf]; omega
      · obtain rfl : i = 3 := by omega
        have Hb := hide hBo.bel
        clear hBo
        go_wp2
        go_ret
        exact ⟨rfl, unhide Hb⟩

theorem walk (a : Option Addr) (len cap : Nat) (w : World) (hT : Tabs w) (h : Bytes w a len cap) :
    Calls Tryd.prog 5 #[.slice a len cap] w fun e w' => e = .returned (.bool true) ∧ Below w.heap.size w w' := by
  refine main a len cap w hT fun h200 => ?_
  obtain ⟨bs, _, hB⟩ := h.2.2 (by omega)
  exact ⟨bs, hB⟩
end Go.Proofs.YtglphnmnnfpcoaaDoor.slotReads
