/-
  What slot.Text answers.
-/
import Derived.Test.YtglphnmnnfpcoaaDoorSOps
namespace Go.Proofs.YtglphnmnnfpcoaaDoor
open Go.RowKit

theorem rangeAt_keep {w w' : World} {B b o : Nat} {cs : List Value} (h : w.rangeAt b o cs) (hb : Below B w w') (hl : b < B) : w'.rangeAt b o cs := fun j v hj => (hb.cell (p := ⟨b, o + j, none⟩) hl).trans (h j v hj)
theorem word_at {k : Nat} (hk : k < 5) {w : World} (hT : Tabs w) : w.cell? ⟨0, k, none⟩ = some (.string (tx (wordsB.getD k []))) := by
  have := hT.sts k _ (wordsV_at hk)
  rwa [Nat.zero_add] at this
theorem has0 : has 0 = false := rfl
theorem has1 : has 1 = false := rfl
theorem has2 : has 2 = true := rfl
theorem has3 : has 3 = true := rfl
theorem has4 : has 4 = false := rfl
/-- The text behind the word. -/
def tailT (s : S) : List UInt8 := [32] ++ dec s.ver ++ [32] ++ dec s.sz.toNat ++ [32] ++ hexT s.dg
theorem textS_bare {x : Int} (h : x = 0 ∨ x = 1 ∨ x = 4) : textS (bare x) = word x := by
  have hr : right (bare x) = true := by rcases h with rfl | rfl | rfl <;> decide +kernel
  unfold textS
  rw [if_pos hr]
  rcases h with rfl | rfl | rfl <;> rfl
theorem textS_good {s : S} (hr : right s = true) (h : s.st = 3) : textS s = word 3 ++ tailT s := by
  unfold textS tailT
  rw [if_pos hr, h]
  simp [has]
theorem textS_ready {s : S} (hr : right s = true) (h : s.st = 2) : textS s = word 2 ++ tailT s ++ ([32] ++ dec s.tr.toNat) := by
  unfold textS tailT
  rw [if_pos hr, h]
  simp [has]

set_option maxHeartbeats 1600000 in
set_option maxRecDepth 100000 in
theorem text_no (s : S) (hf : Fit s) (hr : right s = false) (w : World) (hT : Tabs w) : Calls Tryd.prog 20 #[s.v] w fun e w' => e = .returned (.string (tx (textS s))) ∧ Below w.heap.size w w' := by
  have HW : Hid (∀ w : World, Calls Tryd.prog 14 #[.agg s.cs.toArray] w fun e w' => e = .returned (.bool (right s)) ∧ Below w.heap.size w w') := hide (right_walk s hf)
  have HS := hide (info26s hf.dg)
  have HT := hide hT
  have Hx : Hid (textS s = []) := by
    show _ = _
    unfold textS
    rw [if_neg (by rw [hr]; simp)]
  clear hT hf
  rw [hr] at HW
  unfold S.v
  go_enter Tryd.func20, Tryd.ntmps20
  go_wp2_with (refine wpList_box 26 _ s.cs rfl rfl rfl ?_)
  intro w1 hA1 hb1 hs1
  have HA1 := hide hA1
  have Hb1 := hide hb1
  clear hA1 hb1
  go_wp2_with (refine wpList_loadAll 26 _ w.heap.size s.cs _ rfl rfl rfl (unhide HA1) Tryd.underlying26 rfl (unhide HS) ?_)
  refine ((unhide HW) w1).mono ?_
  rintro e w3 ⟨rfl, hb3⟩
  have HA3 := hide ((unhide HA1).below hb3)
  have Hb3 := hide ((unhide Hb1).trans (hb3.mono (unhide Hb1).size))
  have Hlt : Hid (w.heap.size < w3.heap.size) := hide (unhide HA3).lt
  clear hb3 Hb1 HW HA1
  go_wp2
  go_ret
  refine ⟨?_, unhide Hb3⟩
  rw [unhide Hx]
  rfl

set_option maxHeartbeats 1600000 in
set_option maxRecDepth 100000 in
theorem text_bare (s : S) (hf : Fit s) (hr : right s = true) (hx : s.st = 0 ∨ s.st = 1 ∨ s.st = 4) (hs : s = bare s.st) (w : World) (hT : Tabs w) : Calls Tryd.prog 20 #[s.v] w fun e w' => e = .returned (.string (tx (textS s))) ∧ Below w.heap.size w w' := by
  have HW : Hid (∀ w : World, Calls Tryd.prog 14 #[.agg s.cs.toArray] w fun e w' => e = .returned (.bool (right s)) ∧ Below w.heap.size w w') := hide (right_walk s hf)
  have HS := hide (info26s hf.dg)
  have HT := hide hT
  have Hx : Hid (textS s = word s.st) := by
    show _ = _
    have := textS_bare hx
    rw [← hs] at this
    exact this
  clear hf hs
  rw [hr] at HW
  have H0 : Hid (s.cs[0]? = some (.int .i64 s.st)) := hide rfl
  generalize textS s = T at *
  generalize s.st = x at *
  clear hT
  unfold S.v
  go_enter Tryd.func20, Tryd.ntmps20
  go_wp2_with (refine wpList_box 26 _ s.cs rfl rfl rfl ?_)
  intro w1 hA1 hb1 hs1
  have HA1 := hide hA1
  have Hb1 := hide hb1
  clear hA1 hb1
  go_wp2_with (refine wpList_loadAll 26 _ w.heap.size s.cs _ rfl rfl rfl (unhide HA1) Tryd.underlying26 rfl (unhide HS) ?_)
  refine ((unhide HW) w1).mono ?_
  rintro e w3 ⟨rfl, hb3⟩
  have HA3 := hide ((unhide HA1).below hb3)
  have Hb3 := hide ((unhide Hb1).trans (hb3.mono (unhide Hb1).size))
  have Hlt : Hid (w.heap.size < w3.heap.size) := hide (unhide HA3).lt
  clear hb3 Hb1 HW HA1
  have c0 := (unhide HA3).cell (unhide H0)
  have HT3 := hide ((unhide HT).below (unhide Hb3))
  rcases hx with rfl | rfl | rfl
  · have cw := word_at (k := 0) (by omega) (unhide HT3)
    have hs0 := has_walk 0 w3
    rw [has0] at hs0
    have HS0 := hide hs0
    clear hs0
    go_wp2_with fail
    refine (unhide HS0).mono ?_
    rintro e w4 ⟨rfl, hw4⟩
    subst w4
    go_wp2
    go_ret
    refine ⟨?_, unhide Hb3⟩
    rw [unhide Hx]
    rfl
  · have cw := word_at (k := 1) (by omega) (unhide HT3)
    have hs0 := has_walk 1 w3
    rw [has1] at hs0
    have HS0 := hide hs0
    clear hs0
    go_wp2_with fail
    refine (unhide HS0).mono ?_
    rintro e w4 ⟨rfl, hw4⟩
    subst w4
    go_wp2
    go_ret
    refine ⟨?_, unhide Hb3⟩
    rw [unhide Hx]
    rfl
  · have cw := word_at (k := 4) (by omega) (unhide HT3)
    have hs0 := has_walk 4 w3
    rw [has4] at hs0
    have HS0 := hide hs0
    clear hs0
    go_wp2_with fail
    refine (unhide HS0).mono ?_
    rintro e w4 ⟨rfl, hw4⟩
    subst w4
    go_wp2
    go_ret
    refine ⟨?_, unhide Hb3⟩
    rw [unhide Hx]
    rfl

set_option maxHeartbeats 1600000 in
set_option maxRecDepth 100000 in
theorem text_good (s : S) (hf : Fit s) (hr : right s = true) (h : s.st = 3) (w : World) (hT : Tabs w) : Calls Tryd.prog 20 #[s.v] w fun e w' => e = .returned (.string (tx (textS s))) ∧ Below w.heap.size w w' := by
  have HW : Hid (∀ w : World, Calls Tryd.prog 14 #[.agg s.cs.toArray] w fun e w' => e = .returned (.bool (right s)) ∧ Below w.heap.size w w') := hide (right_walk s hf)
  have HS := hide (info26s hf.dg)
  have HT := hide hT
  have hg := right_range hr
  have Hx : Hid (textS s = word 3 ++ ([32] ++ dec s.ver ++ [32] ++ dec s.sz.toNat ++ [32] ++ hexT s.dg)) := hide (textS_good hr h)
  obtain ⟨ver, hver⟩ : ∃ ver, ver = s.ver := ⟨_, rfl⟩
  obtain ⟨zn, hzn⟩ : ∃ zn : Nat, s.sz = (zn : Int) := ⟨s.sz.toNat, by omega⟩
  have HC1 : Hid (∀ w, Tabs w → Calls Tryd.prog 43 #[.int .u64 (ver : Int), .int .i64 10] w fun e w' => e = .returned (.string (tx (dec ver))) ∧ Below w.heap.size w w') := hide (fmt_walk ver (by rw [hver]; exact hf.ver))
  have HC2 : Hid (∀ w, Tabs w → Calls Tryd.prog 44 #[.int .i64 (zn : Int)] w fun e w' => e = .returned (.string (tx (dec zn))) ∧ Below w.heap.size w w') := hide (itoa_walk zn (by omega))
  have HC3 : Hid (∀ w : World, Calls Tryd.prog 45 #[.agg (bytesV s.dg).toArray] w fun e w' => e = .returned (.string (tx (hexT s.dg))) ∧ Below w.heap.size w w') := hide (htext_walk s.dg hf.dg)
  have lv := dec_len hf.ver
  have lz := dec_len (n := zn) (by omega)
  have ld := hexT_length s.dg
  rw [hf.dg] at ld
  have H0 : Hid (s.cs[0]? = some (.int .i64 3)) := by rw [← h]; exact hide rfl
  have H2 : Hid (s.cs[2]? = some (.int .u64 (ver : Int))) := by rw [hver]; exact hide rfl
  have H3 : Hid (s.cs[3]? = some (.int .i64 (zn : Int))) := by rw [← hzn]; exact hide rfl
  have H4 : Hid (∀ j v, (bytesV s.dg)[j]? = some v → s.cs[4 + j]? = some v) := by
    show ∀ j v, _
    intro j v hj
    rw [← hj, S.cs, Nat.add_comm]
    rfl
  have HGI := hide (info24s hf.dg)
  rw [hzn, ← hver, Int.toNat_natCast] at Hx
  rw [← hver] at lv
  rw [hr] at HW
  clear hT hf hg hver hzn
  generalize dec ver = V at *
  generalize dec zn = Z at *
  generalize hexT s.dg = D at *
  generalize bytesV s.dg = G at *
  generalize textS s = T at *
  unfold S.v
  go_enter Tryd.func20, Tryd.ntmps20
  go_wp2_with (refine wpList_box 26 _ s.cs rfl rfl rfl ?_)
  intro w1 hA1 hb1 hs1
  have HA1 := hide hA1
  have Hb1 := hide hb1
  clear hA1 hb1
  go_wp2_with (refine wpList_loadAll 26 _ w.heap.size s.cs _ rfl rfl rfl (unhide HA1) Tryd.underlying26 rfl (unhide HS) ?_)
  refine ((unhide HW) w1).mono ?_
  rintro e w3 ⟨rfl, hb3⟩
  have HA3 := hide ((unhide HA1).below hb3)
  have Hb3 := hide ((unhide Hb1).trans (hb3.mono (unhide Hb1).size))
  have Hlt : Hid (w.heap.size < w3.heap.size) := hide (unhide HA3).lt
  clear hb3 Hb1 HW HA1
  have c0 := (unhide HA3).cell (unhide H0)
  have D2 := hide ((unhide HA3).cell (unhide H2))
  have D3 := hide ((unhide HA3).cell (unhide H3))
  have HRG := hide ((unhide HA3).rangeMid 4 G (unhide H4))
  have HT3 := hide ((unhide HT).below (unhide Hb3))
  have cw := word_at (k := 3) (by omega) (unhide HT3)
  have lw : (wordsB.getD 3 []).length ≤ 5 := by decide +kernel
  obtain ⟨W0, hW0⟩ : ∃ W0, W0 = wordsB.getD 3 [] := ⟨_, rfl⟩
  rw [← hW0] at cw lw
  have HW0 := hide hW0
  clear hW0
  have hs0 := has_walk 3 w3
  rw [has3] at hs0
  have HS0 := hide hs0
  clear hs0
  go_wp2_with fail
  refine (unhide HS0).mono ?_
  rintro e w4 ⟨rfl, hw4⟩
  subst w4
  go_wp2_with fail
  · skip
    refine Free.wp_region_tail 16 (fun j (v : Value) (_ : World) => v = (fun j => match j with | 0 => .string (tx W0) | 1 => .pointer (some ⟨w.heap.size, 2, none⟩) | 2 => .int .u64 (ver : Int) | 3 => .string (tx V) | 4 => .string (tx ([32] ++ V)) | 5 => .string (tx ([32] ++ V ++ [32])) | 6 => .pointer (some ⟨w.heap.size, 3, none⟩) | 7 => .int .i64 (zn : Int) | 8 => .string (tx Z) | 9 => .string (tx ([32] ++ V ++ [32] ++ Z)) | 10 => .string (tx ([32] ++ V ++ [32] ++ Z ++ [32])) | 11 => .pointer (some ⟨w.heap.size, 4, none⟩) | 12 => .agg G.toArray | 13 => .string (tx D) | 14 => .string (tx ([32] ++ V ++ [32] ++ Z ++ [32] ++ D)) | 15 => .string (tx (W0 ++ ([32] ++ V ++ [32] ++ Z ++ [32] ++ D))) | _ => undef) j) (fun w' => Below w3.heap.size w3 w') (by kernel_rfl) (by decide) (by kernel_rfl) (by kernel_rfl) (by kernel_rfl) (fun _ _ _ _ h _ => h) (Below.drew (Below.refl _ _)) ⟨?_, ?_, ?_, ?_, ?_, ?_, ?_, ?_, ?_, ?_, ?_, ?_, ?_, ?_, ?_, ?_, trivial⟩ ?_
    · exact Free.owed_move (Free.goes_plain rfl) (.inl rfl) fun a w' hC hs hd => (hs 3 (by kernel_rfl))
    · exact Free.owed_pure (Free.goes_plain rfl) fun a w' hC hs hd => ⟨_, op_f26_2 rfl (hs 1 (by kernel_rfl)) w', rfl⟩
    · exact Free.owed_pure (Free.goes_plain rfl) fun a w' hC hs hd => ⟨_, op_load22 rfl (hd 1 15 (by kernel_rfl)) ((hC.cell (p := ⟨w.heap.size, 2, none⟩) (unhide Hlt)).trans (unhide D2)), rfl⟩
    · refine Free.owed_call (Free.goes_plain rfl) fun a w' hC hs hd => ⟨43, #[.int .u64 (ver : Int), .int .i64 10], op_call43 (u := .int .u64 (ver : Int)) (v := .int .i64 10) rfl (hd 2 16 (by kernel_rfl)) rfl rfl w', (unhide HC1 w' ((unhide HT3).below hC)).mono ?_⟩
      rintro e w2 ⟨rfl, hb⟩
      exact ⟨_, rfl, hb, hC.trans (hb.mono hC.size), rfl⟩
    · exact Free.owed_pure (Free.goes_plain rfl) fun a w' hC hs hd => ⟨_, op_addT rfl rfl (hd 3 17 (by kernel_rfl)) (by simp only [List.length_cons, List.length_nil]; omega) w', rfl⟩
    · exact Free.owed_pure (Free.goes_plain rfl) fun a w' hC hs hd => ⟨_, op_addT rfl (hd 4 18 (by kernel_rfl)) rfl (by simp only [List.length_append, List.length_cons, List.length_nil]; omega) w', rfl⟩
    · exact Free.owed_pure (Free.goes_plain rfl) fun a w' hC hs hd => ⟨_, op_f26_3 rfl (hs 1 (by kernel_rfl)) w', rfl⟩
    · exact Free.owed_pure (Free.goes_plain rfl) fun a w' hC hs hd => ⟨_, op_load3 rfl (hd 6 20 (by kernel_rfl)) ((hC.cell (p := ⟨w.heap.size, 3, none⟩) (unhide Hlt)).trans (unhide D3)), rfl⟩
    · refine Free.owed_call (Free.goes_plain rfl) fun a w' hC hs hd => ⟨44, #[.int .i64 (zn : Int)], op_call44 (u := .int .i64 (zn : Int)) rfl (hd 7 21 (by kernel_rfl)) rfl w', (unhide HC2 w' ((unhide HT3).below hC)).mono ?_⟩
      rintro e w2 ⟨rfl, hb⟩
      exact ⟨_, rfl, hb, hC.trans (hb.mono hC.size), rfl⟩
    · exact Free.owed_pure (Free.goes_plain rfl) fun a w' hC hs hd => ⟨_, op_addT rfl (hd 5 19 (by kernel_rfl)) (hd 8 22 (by kernel_rfl)) (by simp only [List.length_append, List.length_cons, List.length_nil]; omega) w', rfl⟩
    · exact Free.owed_pure (Free.goes_plain rfl) fun a w' hC hs hd => ⟨_, op_addT rfl (hd 9 23 (by kernel_rfl)) rfl (by simp only [List.length_append, List.length_cons, List.length_nil]; omega) w', rfl⟩
    · exact Free.owed_pure (Free.goes_plain rfl) fun a w' hC hs hd => ⟨_, op_f26_4 rfl (hs 1 (by kernel_rfl)) w', rfl⟩
    · exact Free.owed_pure (Free.goes_plain rfl) fun a w' hC hs hd => ⟨_, op_load24 rfl (hd 11 25 (by kernel_rfl)) (rangeAt_keep (unhide HRG) hC (unhide Hlt)) (unhide HGI), rfl⟩
    · refine Free.owed_call (Free.goes_plain rfl) fun a w' hC hs hd => ⟨45, #[.agg G.toArray], op_call45 (u := .agg G.toArray) rfl (hd 12 26 (by kernel_rfl)) rfl w', (unhide HC3 w').mono ?_⟩
      rintro e w2 ⟨rfl, hb⟩
      exact ⟨_, rfl, hb, hC.trans (hb.mono hC.size), rfl⟩
    · exact Free.owed_pure (Free.goes_plain rfl) fun a w' hC hs hd => ⟨_, op_addT rfl (hd 10 24 (by kernel_rfl)) (hd 13 27 (by kernel_rfl)) (by simp only [List.length_append, List.length_cons, List.length_nil]; omega) w', rfl⟩
    · exact Free.owed_pure (Free.goes_plain rfl) fun a w' hC hs hd => ⟨_, op_addT rfl (hd 0 14 (by kernel_rfl)) (hd 14 28 (by kernel_rfl)) (by simp only [List.length_append, List.length_cons, List.length_nil]; omega) w', rfl⟩
    intro w5 hb5 vals hv
    have e15 : vals 15 = .string (tx (W0 ++ ([32] ++ V ++ [32] ++ Z ++ [32] ++ D))) := hv 15 _ 29 rfl rfl
    clear hv
    simp only [Free.putAll, List.take, List.drop, Act.put, List.setIfInBounds_toArray, List.set_cons_succ, List.set_cons_zero, e15]
    clear e15
    have c5 := (hb5.cell (p := ⟨w.heap.size, 0, none⟩) (unhide Hlt)).trans c0
    have Hb5 := hide ((unhide Hb3).trans (hb5.mono (unhide Hb3).size))
    clear hb5
    generalize hR : W0 ++ ([32] ++ V ++ [32] ++ Z ++ [32] ++ D) = R at *
    have HR := hide hR
    clear hR
    go_wp2
    go_ret
    refine ⟨?_, unhide Hb5⟩
    rw [unhide Hx, ← unhide HR, unhide HW0]
    rfl
set_option maxHeartbeats 1600000 in
set_option maxRecDepth 100000 in
theorem text_ready (s : S) (hf : Fit s) (hr : right s = true) (h : s.st = 2) (w : World) (hT : Tabs w) : Calls Tryd.prog 20 #[s.v] w fun e w' => e = .returned (.string (tx (textS s))) ∧ Below w.heap.size w w' := by
  have HW : Hid (∀ w : World, Calls Tryd.prog 14 #[.agg s.cs.toArray] w fun e w' => e = .returned (.bool (right s)) ∧ Below w.heap.size w w') := hide (right_walk s hf)
  have HS := hide (info26s hf.dg)
  have HT := hide hT
  have hg := right_range hr
  have Hx : Hid (textS s = word 2 ++ ([32] ++ dec s.ver ++ [32] ++ dec s.sz.toNat ++ [32] ++ hexT s.dg) ++ ([32] ++ dec s.tr.toNat)) := hide (textS_ready hr h)
  obtain ⟨tn, htn⟩ : ∃ tn : Nat, s.tr = (tn : Int) := ⟨s.tr.toNat, by omega⟩
  have HC4 : Hid (∀ w, Tabs w → Calls Tryd.prog 44 #[.int .i64 (tn : Int)] w fun e w' => e = .returned (.string (tx (dec tn))) ∧ Below w.heap.size w w') := hide (itoa_walk tn (by omega))
  have lt := dec_len (n := tn) (by omega)
  have H1 : Hid (s.cs[1]? = some (.int .i64 (tn : Int))) := by rw [← htn]; exact hide rfl
  rw [htn, Int.toNat_natCast] at Hx
  clear htn
  generalize dec tn = Y at *
  obtain ⟨ver, hver⟩ : ∃ ver, ver = s.ver := ⟨_, rfl⟩
  obtain ⟨zn, hzn⟩ : ∃ zn : Nat, s.sz = (zn : Int) := ⟨s.sz.toNat, by omega⟩
  have HC1 : Hid (∀ w, Tabs w → Calls Tryd.prog 43 #[.int .u64 (ver : Int), .int .i64 10] w fun e w' => e = .returned (.string (tx (dec ver))) ∧ Below w.heap.size w w') := hide (fmt_walk ver (by rw [hver]; exact hf.ver))
  have HC2 : Hid (∀ w, Tabs w → Calls Tryd.prog 44 #[.int .i64 (zn : Int)] w fun e w' => e = .returned (.string (tx (dec zn))) ∧ Below w.heap.size w w') := hide (itoa_walk zn (by omega))
  have HC3 : Hid (∀ w : World, Calls Tryd.prog 45 #[.agg (bytesV s.dg).toArray] w fun e w' => e = .returned (.string (tx (hexT s.dg))) ∧ Below w.heap.size w w') := hide (htext_walk s.dg hf.dg)
  have lv := dec_len hf.ver
  have lz := dec_len (n := zn) (by omega)
  have ld := hexT_length s.dg
  rw [hf.dg] at ld
  have H0 : Hid (s.cs[0]? = some (.int .i64 2)) := by rw [← h]; exact hide rfl
  have H2 : Hid (s.cs[2]? = some (.int .u64 (ver : Int))) := by rw [hver]; exact hide rfl
  have H3 : Hid (s.cs[3]? = some (.int .i64 (zn : Int))) := by rw [← hzn]; exact hide rfl
  have H4 : Hid (∀ j v, (bytesV s.dg)[j]? = some v → s.cs[4 + j]? = some v) := by
    show ∀ j v, _
    intro j v hj
    rw [← hj, S.cs, Nat.add_comm]
    rfl
  have HGI := hide (info24s hf.dg)
  rw [hzn, ← hver, Int.toNat_natCast] at Hx
  rw [← hver] at lv
  rw [hr] at HW
  clear hT hf hg hver hzn
  generalize dec ver = V at *
  generalize dec zn = Z at *
  generalize hexT s.dg = D at *
  generalize bytesV s.dg = G at *
  generalize textS s = T at *
  unfold S.v
  go_enter Tryd.func20, Tryd.ntmps20
  go_wp2_with (refine wpList_box 26 _ s.cs rfl rfl rfl ?_)
  intro w1 hA1 hb1 hs1
  have HA1 := hide hA1
  have Hb1 := hide hb1
  clear hA1 hb1
  go_wp2_with (refine wpList_loadAll 26 _ w.heap.size s.cs _ rfl rfl rfl (unhide HA1) Tryd.underlying26 rfl (unhide HS) ?_)
  refine ((unhide HW) w1).mono ?_
  rintro e w3 ⟨rfl, hb3⟩
  have HA3 := hide ((unhide HA1).below hb3)
  have Hb3 := hide ((unhide Hb1).trans (hb3.mono (unhide Hb1).size))
  have Hlt : Hid (w.heap.size < w3.heap.size) := hide (unhide HA3).lt
  clear hb3 Hb1 HW HA1
  have c0 := (unhide HA3).cell (unhide H0)
  have D2 := hide ((unhide HA3).cell (unhide H2))
  have D3 := hide ((unhide HA3).cell (unhide H3))
  have HRG := hide ((unhide HA3).rangeMid 4 G (unhide H4))
  have HT3 := hide ((unhide HT).below (unhide Hb3))
  have cw := word_at (k := 2) (by omega) (unhide HT3)
  have lw : (wordsB.getD 2 []).length ≤ 5 := by decide +kernel
  obtain ⟨W0, hW0⟩ : ∃ W0, W0 = wordsB.getD 2 [] := ⟨_, rfl⟩
  rw [← hW0] at cw lw
  have HW0 := hide hW0
  clear hW0
  have hs0 := has_walk 2 w3
  rw [has2] at hs0
  have HS0 := hide hs0
  clear hs0
  go_wp2_with fail
  refine (unhide HS0).mono ?_
  rintro e w4 ⟨rfl, hw4⟩
  subst w4
  go_wp2_with fail
  · skip
    refine Free.wp_region_tail 16 (fun j (v : Value) (_ : World) => v = (fun j => match j with | 0 => .string (tx W0) | 1 => .pointer (some ⟨w.heap.size, 2, none⟩) | 2 => .int .u64 (ver : Int) | 3 => .string (tx V) | 4 => .string (tx ([32] ++ V)) | 5 => .string (tx ([32] ++ V ++ [32])) | 6 => .pointer (some ⟨w.heap.size, 3, none⟩) | 7 => .int .i64 (zn : Int) | 8 => .string (tx Z) | 9 => .string (tx ([32] ++ V ++ [32] ++ Z)) | 10 => .string (tx ([32] ++ V ++ [32] ++ Z ++ [32])) | 11 => .pointer (some ⟨w.heap.size, 4, none⟩) | 12 => .agg G.toArray | 13 => .string (tx D) | 14 => .string (tx ([32] ++ V ++ [32] ++ Z ++ [32] ++ D)) | 15 => .string (tx (W0 ++ ([32] ++ V ++ [32] ++ Z ++ [32] ++ D))) | _ => undef) j) (fun w' => Below w3.heap.size w3 w') (by kernel_rfl) (by decide) (by kernel_rfl) (by kernel_rfl) (by kernel_rfl) (fun _ _ _ _ h _ => h) (Below.drew (Below.refl _ _)) ⟨?_, ?_, ?_, ?_, ?_, ?_, ?_, ?_, ?_, ?_, ?_, ?_, ?_, ?_, ?_, ?_, trivial⟩ ?_
    · exact Free.owed_move (Free.goes_plain rfl) (.inl rfl) fun a w' hC hs hd => (hs 3 (by kernel_rfl))
    · exact Free.owed_pure (Free.goes_plain rfl) fun a w' hC hs hd => ⟨_, op_f26_2 rfl (hs 1 (by kernel_rfl)) w', rfl⟩
    · exact Free.owed_pure (Free.goes_plain rfl) fun a w' hC hs hd => ⟨_, op_load22 rfl (hd 1 15 (by kernel_rfl)) ((hC.cell (p := ⟨w.heap.size, 2, none⟩) (unhide Hlt)).trans (unhide D2)), rfl⟩
    · refine Free.owed_call (Free.goes_plain rfl) fun a w' hC hs hd => ⟨43, #[.int .u64 (ver : Int), .int .i64 10], op_call43 (u := .int .u64 (ver : Int)) (v := .int .i64 10) rfl (hd 2 16 (by kernel_rfl)) rfl rfl w', (unhide HC1 w' ((unhide HT3).below hC)).mono ?_⟩
      rintro e w2 ⟨rfl, hb⟩
      exact ⟨_, rfl, hb, hC.trans (hb.mono hC.size), rfl⟩
    · exact Free.owed_pure (Free.goes_plain rfl) fun a w' hC hs hd => ⟨_, op_addT rfl rfl (hd 3 17 (by kernel_rfl)) (by simp only [List.length_cons, List.length_nil]; omega) w', rfl⟩
    · exact Free.owed_pure (Free.goes_plain rfl) fun a w' hC hs hd => ⟨_, op_addT rfl (hd 4 18 (by kernel_rfl)) rfl (by simp only [List.length_append, List.length_cons, List.length_nil]; omega) w', rfl⟩
    · exact Free.owed_pure (Free.goes_plain rfl) fun a w' hC hs hd => ⟨_, op_f26_3 rfl (hs 1 (by kernel_rfl)) w', rfl⟩
    · exact Free.owed_pure (Free.goes_plain rfl) fun a w' hC hs hd => ⟨_, op_load3 rfl (hd 6 20 (by kernel_rfl)) ((hC.cell (p := ⟨w.heap.size, 3, none⟩) (unhide Hlt)).trans (unhide D3)), rfl⟩
    · refine Free.owed_call (Free.goes_plain rfl) fun a w' hC hs hd => ⟨44, #[.int .i64 (zn : Int)], op_call44 (u := .int .i64 (zn : Int)) rfl (hd 7 21 (by kernel_rfl)) rfl w', (unhide HC2 w' ((unhide HT3).below hC)).mono ?_⟩
      rintro e w2 ⟨rfl, hb⟩
      exact ⟨_, rfl, hb, hC.trans (hb.mono hC.size), rfl⟩
    · exact Free.owed_pure (Free.goes_plain rfl) fun a w' hC hs hd => ⟨_, op_addT rfl (hd 5 19 (by kernel_rfl)) (hd 8 22 (by kernel_rfl)) (by simp only [List.length_append, List.length_cons, List.length_nil]; omega) w', rfl⟩
    · exact Free.owed_pure (Free.goes_plain rfl) fun a w' hC hs hd => ⟨_, op_addT rfl (hd 9 23 (by kernel_rfl)) rfl (by simp only [List.length_append, List.length_cons, List.length_nil]; omega) w', rfl⟩
    · exact Free.owed_pure (Free.goes_plain rfl) fun a w' hC hs hd => ⟨_, op_f26_4 rfl (hs 1 (by kernel_rfl)) w', rfl⟩
    · exact Free.owed_pure (Free.goes_plain rfl) fun a w' hC hs hd => ⟨_, op_load24 rfl (hd 11 25 (by kernel_rfl)) (rangeAt_keep (unhide HRG) hC (unhide Hlt)) (unhide HGI), rfl⟩
    · refine Free.owed_call (Free.goes_plain rfl) fun a w' hC hs hd => ⟨45, #[.agg G.toArray], op_call45 (u := .agg G.toArray) rfl (hd 12 26 (by kernel_rfl)) rfl w', (unhide HC3 w').mono ?_⟩
      rintro e w2 ⟨rfl, hb⟩
      exact ⟨_, rfl, hb, hC.trans (hb.mono hC.size), rfl⟩
    · exact Free.owed_pure (Free.goes_plain rfl) fun a w' hC hs hd => ⟨_, op_addT rfl (hd 10 24 (by kernel_rfl)) (hd 13 27 (by kernel_rfl)) (by simp only [List.length_append, List.length_cons, List.length_nil]; omega) w', rfl⟩
    · exact Free.owed_pure (Free.goes_plain rfl) fun a w' hC hs hd => ⟨_, op_addT rfl (hd 0 14 (by kernel_rfl)) (hd 14 28 (by kernel_rfl)) (by simp only [List.length_append, List.length_cons, List.length_nil]; omega) w', rfl⟩
    intro w5 hb5 vals hv
    have e15 : vals 15 = .string (tx (W0 ++ ([32] ++ V ++ [32] ++ Z ++ [32] ++ D))) := hv 15 _ 29 rfl rfl
    clear hv
    simp only [Free.putAll, List.take, List.drop, Act.put, List.setIfInBounds_toArray, List.set_cons_succ, List.set_cons_zero, e15]
    clear e15
    have c5 := (hb5.cell (p := ⟨w.heap.size, 0, none⟩) (unhide Hlt)).trans c0
    have Hb5 := hide ((unhide Hb3).trans (hb5.mono (unhide Hb3).size))
    have c6 := (hb5.cell (p := ⟨w.heap.size, 1, none⟩) (unhide Hlt)).trans ((unhide HA3).cell (unhide H1))
    have HT5 := hide ((unhide HT3).below hb5)
    clear hb5
    have lR : (W0 ++ ([32] ++ V ++ [32] ++ Z ++ [32] ++ D)).length ≤ 1000 := by simp only [List.length_append, List.length_cons, List.length_nil]; omega
    generalize hR : W0 ++ ([32] ++ V ++ [32] ++ Z ++ [32] ++ D) = R at *
    have HR := hide hR
    clear hR
    go_wp2_with fail
    refine (unhide HC4 w5 (unhide HT5)).mono ?_
    rintro e w6 ⟨rfl, hb6⟩
    have Hb6 := hide ((unhide Hb5).trans (hb6.mono (unhide Hb5).size))
    clear hb6
    have e1 : (⟨#[32]⟩ : ByteArray) ++ tx Y = tx ([32] ++ Y) := tx_append [32] Y
    have z1 : (⟨#[32]⟩ : ByteArray).size + (tx Y).size ≤ 9223372036854775807 := by rw [tx_size]; show 1 + _ ≤ _; omega
    have e2 : tx R ++ tx ([32] ++ Y) = tx (R ++ ([32] ++ Y)) := tx_append R ([32] ++ Y)
    have z2 : (tx R).size + (tx ([32] ++ Y)).size ≤ 9223372036854775807 := by rw [tx_size, tx_size]; simp only [List.length_append, List.length_cons, List.length_nil]; omega
    generalize tx ([32] ++ Y) = U at *
    generalize hF : tx (R ++ ([32] ++ Y)) = F at *
    have HF := hide hF
    clear hF
    generalize tx Y = YY at *
    generalize tx R = RR at *
    go_wp2
    go_ret
    refine ⟨?_, unhide Hb6⟩
    rw [unhide Hx, ← unhide HF, ← unhide HR, unhide HW0]
    rfl

theorem text_walk (s : S) (hf : Fit s) (w : World) (hT : Tabs w) : Calls Tryd.prog 20 #[s.v] w fun e w' => e = .returned (.string (tx (textS s))) ∧ Below w.heap.size w w' := by
  by_cases hr : right s = true
  · rcases right_cases hr with ⟨h1, h2⟩ | ⟨h1, h2, h3, h4⟩ | ⟨h1, h2, h4⟩
    · exact text_bare s hf hr h1 h2 w hT
    · exact text_ready s hf hr h1 w hT
    · exact text_good s hf hr h1 w hT
  · exact text_no s hf (by simpa using hr) w hT
end Go.Proofs.YtglphnmnnfpcoaaDoor
