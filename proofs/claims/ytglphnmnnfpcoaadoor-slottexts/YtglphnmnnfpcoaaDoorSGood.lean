/-
  What slot.Good and slot.Bad answer, and the document's.
-/
import Derived.Test.YtglphnmnnfpcoaaDoorSMove
namespace Go.Proofs.YtglphnmnnfpcoaaDoor
open Go.RowKit

set_option maxHeartbeats 1600000 in
set_option maxRecDepth 100000 in
theorem good_walk (s : S) (hf : Fit s) (w : World) : Calls Tryd.prog 30 #[s.v] w fun e w' => e = .returned (.tuple #[(goodF s).1.v, .int .i64 (goodF s).2]) ∧ Below w.heap.size w w' := by
  have HW : Hid (∀ w : World, Calls Tryd.prog 52 #[.agg s.cs.toArray] w fun e w' => e = .returned (.bool (whole s)) ∧ Below w.heap.size w w') := hide (whole_walk s hf)
  have HS := hide (info26s hf.dg)
  have HL := hide (cs_length hf.dg)
  have HS1 := hide (cs_one s)
  have HZ := hide (info26s (s := zeroS) rfl)
  have HZL : Hid (zeroS.cs.length = 36) := hide rfl
  have HZ1 := hide (cs_one zeroS)
  have HB := hide built26
  have Hal := hide alloc26
  have HT := hide (info26s (s := (S.mk 3 0 s.ver s.sz s.dg)) hf.dg)
  have HTL := hide (cs_length (s := (S.mk 3 0 s.ver s.sz s.dg)) hf.dg)
  have HT1 := hide (cs_one (S.mk 3 0 s.ver s.sz s.dg))
  have Hf : Hid (whole s = false → goodF s = (zeroS, 101)) := by
    show whole s = false → _
    intro h; unfold goodF; rw [if_neg (by rw [h]; simp)]
  have Hy : Hid (whole s = true → goodF s = ((S.mk 3 0 s.ver s.sz s.dg), 0)) := by
    show whole s = true → _
    intro h; unfold goodF; rw [if_pos h]
  unfold S.v
  clear hf
  generalize whole s = r at *
  go_enter Tryd.func30, Tryd.ntmps30
  go_wp2_with (refine wpList_box 26 _ s.cs rfl rfl rfl ?_)
  intro w1 hA1 hb1 hs1
  have HA1 := hide hA1
  have Hb1 := hide hb1
  clear hA1 hb1
  go_wp2_with (refine wpList_alloc 26 26 zeroS.cs rfl rfl (unhide Hal) ?_)
  intro w2 hA2 hb2 hs2
  have HA1 := hide ((unhide HA1).keep hb2 (by omega))
  have HA2 := hide hA2
  have Hb2 := hide ((unhide Hb1).trans (hb2.mono (by omega)))
  clear hA2 hb2 Hb1
  go_wp2_with (refine wpList_loadAll 26 _ w.heap.size s.cs _ rfl rfl rfl (unhide HA1) Tryd.underlying26 rfl (unhide HS) ?_)
  refine ((unhide HW) w2).mono ?_
  rintro e w3 ⟨rfl, hb3⟩
  have HA1 := hide ((unhide HA1).below hb3)
  have HA2 := hide ((unhide HA2).below hb3)
  have Hb3 := hide ((unhide Hb2).trans (hb3.mono (unhide Hb2).size))
  clear hb3 Hb2 HW
  cases r with
  | false =>
    go_wp2_with (first
      | refine wpList_build 26 _ zeroS.cs [] rfl rfl rfl (unhide HB) ?_
      | refine wpList_storeAll 26 _ _ (w.heap.size + 1) zeroS.cs zeroS.cs rfl rfl rfl rfl (unhide HA2) rfl (unhide HZ) (unhide HZ1) ?_)
    intro w5 hA5 hg5 hs5
    have Hb5 := hide ((unhide Hb3).grown hg5 (unhide Hb3).size (fun k hk => by simp at hk; omega))
    have HA5 := hide hA5
    clear hA5 hg5
    go_wp2
    refine bodyPost_ret (v := .tuple #[.agg zeroS.cs.toArray, .int .i64 101]) ?_ rfl ⟨?_, unhide Hb5⟩
    · exact results_two Tryd.results30 rfl rfl (unhide HA5) Tryd.underlying26 rfl (unhide HZ)
    · rw [unhide Hf (by simp)]
      try rfl
  | true =>
    have HA3 : Hid (Arr ((w3.setCell ⟨w.heap.size, 0, none⟩ (.int .i64 3)).setCell ⟨w.heap.size, 1, none⟩ (.int .i64 0)) w.heap.size (S.mk 3 0 s.ver s.sz s.dg).cs) := hide (((unhide HA1).set 0 _).set 1 _)
    have f0 := (unhide HA1).free 0
    have f1 := ((unhide HA1).set 0 (.int .i64 3)).free 1
    have HA2 := hide (((unhide HA2).other (⟨w.heap.size, 0, none⟩ : Addr) (.int .i64 3) (by simp)).other (⟨w.heap.size, 1, none⟩ : Addr) (.int .i64 0) (by simp))
    have Hb3 := hide (((unhide Hb3).setCell (p := ⟨w.heap.size, 0, none⟩) (by simp) (.int .i64 3)).setCell (p := ⟨w.heap.size, 1, none⟩) (by simp) (.int .i64 0))
    have d0 := (unhide HA1).cell (i := 0) (v := .int .i64 s.st) rfl
    have d1 := ((unhide HA1).set 0 (.int .i64 3)).cell (i := 1) (v := .int .i64 s.tr) rfl
    go_wp2_with (first
      | refine wpList_loadAll 26 _ w.heap.size (S.mk 3 0 s.ver s.sz s.dg).cs _ rfl rfl rfl (unhide HA3) Tryd.underlying26 rfl (unhide HT) ?_
      | refine wpList_storeAll 26 _ _ (w.heap.size + 1) (S.mk 3 0 s.ver s.sz s.dg).cs zeroS.cs rfl rfl rfl rfl (unhide HA2) (by rw [unhide HTL, unhide HZL]) (unhide HT) (unhide HT1) ?_)
    intro w5 hA5 hg5 hs5
    have Hb5 := hide ((unhide Hb3).grown hg5 (unhide Hb3).size (fun k hk => by simp at hk; omega))
    have HA5 := hide hA5
    clear hA5 hg5
    go_wp2
    refine bodyPost_ret (v := .tuple #[.agg (S.mk 3 0 s.ver s.sz s.dg).cs.toArray, .int .i64 0]) ?_ rfl ⟨?_, unhide Hb5⟩
    · exact results_two Tryd.results30 rfl rfl (unhide HA5) Tryd.underlying26 rfl (unhide HT)
    · rw [unhide Hy (by simp)]
      try rfl

set_option maxHeartbeats 1600000 in
set_option maxRecDepth 100000 in
theorem bad_walk (s : S) (hf : Fit s) (w : World) : Calls Tryd.prog 32 #[s.v] w fun e w' => e = .returned (.tuple #[(badF s).1.v, .int .i64 (badF s).2]) ∧ Below w.heap.size w w' := by
  have HW : Hid (∀ w : World, Calls Tryd.prog 52 #[.agg s.cs.toArray] w fun e w' => e = .returned (.bool (whole s)) ∧ Below w.heap.size w w') := hide (whole_walk s hf)
  have HS := hide (info26s hf.dg)
  have HL := hide (cs_length hf.dg)
  have HS1 := hide (cs_one s)
  have HZ := hide (info26s (s := zeroS) rfl)
  have HZL : Hid (zeroS.cs.length = 36) := hide rfl
  have HZ1 := hide (cs_one zeroS)
  have HB := hide built26
  have Hal := hide alloc26
  have HT := hide (info26s (s := bare 4) rfl)
  have HTL : Hid ((bare 4).cs.length = 36) := hide rfl
  have HT1 := hide (cs_one (bare 4))
  have HB4 := hide (built26_st 4)
  have Hf : Hid (whole s = false → badF s = (zeroS, 101)) := by
    show whole s = false → _
    intro h; unfold badF; rw [if_neg (by rw [h]; simp)]
  have Hy : Hid (whole s = true → badF s = (bare 4, 0)) := by
    show whole s = true → _
    intro h; unfold badF; rw [if_pos h]
  unfold S.v
  clear hf
  generalize whole s = r at *
  go_enter Tryd.func32, Tryd.ntmps32
  go_wp2_with (refine wpList_box 26 _ s.cs rfl rfl rfl ?_)
  intro w1 hA1 hb1 hs1
  have HA1 := hide hA1
  have Hb1 := hide hb1
  clear hA1 hb1
  go_wp2_with (refine wpList_alloc 26 26 zeroS.cs rfl rfl (unhide Hal) ?_)
  intro w2 hA2 hb2 hs2
  have HA1 := hide ((unhide HA1).keep hb2 (by omega))
  have HA2 := hide hA2
  have Hb2 := hide ((unhide Hb1).trans (hb2.mono (by omega)))
  clear hA2 hb2 Hb1
  go_wp2_with (refine wpList_loadAll 26 _ w.heap.size s.cs _ rfl rfl rfl (unhide HA1) Tryd.underlying26 rfl (unhide HS) ?_)
  refine ((unhide HW) w2).mono ?_
  rintro e w3 ⟨rfl, hb3⟩
  have HA1 := hide ((unhide HA1).below hb3)
  have HA2 := hide ((unhide HA2).below hb3)
  have Hb3 := hide ((unhide Hb2).trans (hb3.mono (unhide Hb2).size))
  clear hb3 Hb2 HW
  cases r with
  | false =>
    go_wp2_with (first
      | refine wpList_build 26 _ zeroS.cs [] rfl rfl rfl (unhide HB) ?_
      | refine wpList_storeAll 26 _ _ (w.heap.size + 1) zeroS.cs zeroS.cs rfl rfl rfl rfl (unhide HA2) rfl (unhide HZ) (unhide HZ1) ?_)
    intro w5 hA5 hg5 hs5
    have Hb5 := hide ((unhide Hb3).grown hg5 (unhide Hb3).size (fun k hk => by simp at hk; omega))
    have HA5 := hide hA5
    clear hA5 hg5
    go_wp2
    refine bodyPost_ret (v := .tuple #[.agg zeroS.cs.toArray, .int .i64 101]) ?_ rfl ⟨?_, unhide Hb5⟩
    · exact results_two Tryd.results32 rfl rfl (unhide HA5) Tryd.underlying26 rfl (unhide HZ)
    · rw [unhide Hf (by simp)]
      try rfl
  | true =>
    go_wp2_with (first
      | refine wpList_build 26 _ (bare 4).cs _ rfl rfl rfl (unhide HB4) ?_
      | refine wpList_storeAll 26 _ _ (w.heap.size + 1) (bare 4).cs zeroS.cs rfl rfl rfl rfl (unhide HA2) (by rw [unhide HTL, unhide HZL]) (unhide HT) (unhide HT1) ?_)
    intro w5 hA5 hg5 hs5
    have Hb5 := hide ((unhide Hb3).grown hg5 (unhide Hb3).size (fun k hk => by simp at hk; omega))
    have HA5 := hide hA5
    clear hA5 hg5
    go_wp2
    refine bodyPost_ret (v := .tuple #[.agg (bare 4).cs.toArray, .int .i64 0]) ?_ rfl ⟨?_, unhide Hb5⟩
    · exact results_two Tryd.results32 rfl rfl (unhide HA5) Tryd.underlying26 rfl (unhide HT)
    · rw [unhide Hy (by simp)]
      try rfl

set_option maxHeartbeats 1600000 in
set_option maxRecDepth 100000 in
theorem rbad_walk (s : S) (hf : Fit s) (w : World) : Calls Tryd.prog 33 #[s.v] w fun e w' => e = .returned (.tuple #[(badF s).1.v, .int .i64 (badF s).2]) ∧ Below w.heap.size w w' := by
  have HW : Hid (∀ w : World, Calls Tryd.prog 15 #[.agg s.cs.toArray] w fun e w' => e = .returned (.bool (right s)) ∧ Below w.heap.size w w') := hide (rright_walk s hf)
  have HS := hide (info26s hf.dg)
  have HL := hide (cs_length hf.dg)
  have HS1 := hide (cs_one s)
  have HZ := hide (info26s (s := zeroS) rfl)
  have HZL : Hid (zeroS.cs.length = 36) := hide rfl
  have HZ1 := hide (cs_one zeroS)
  have HB := hide built26
  have Hal := hide alloc26
  have HT := hide (info26s (s := bare 4) rfl)
  have HTL : Hid ((bare 4).cs.length = 36) := hide rfl
  have HT1 := hide (cs_one (bare 4))
  have HB4 := hide (built26_st 4)
  have Hf : Hid (right s = false → badF s = (zeroS, 101)) := by
    show right s = false → _
    intro h; unfold badF whole; rw [if_neg (by rw [h]; simp)]
  have Hn : Hid (s.st ≠ 2 → s.st ≠ 3 → badF s = (zeroS, 101)) := by
    show s.st ≠ 2 → s.st ≠ 3 → _
    intro h h3; unfold badF whole has; rw [if_neg (by simp [h, h3])]
  have Hy : Hid (right s = true → (s.st = 2 ∨ s.st = 3) → badF s = (bare 4, 0)) := by
    show right s = true → (s.st = 2 ∨ s.st = 3) → _
    intro h h2; unfold badF whole has; rw [if_pos (by rw [h]; simpa using h2)]
  have H0 : Hid (s.cs[0]? = some (.int .i64 s.st)) := hide rfl
  unfold S.v
  clear hf
  generalize right s = r at *
  go_enter Tryd.func33, Tryd.ntmps33
  go_wp2_with (refine wpList_box 26 _ s.cs rfl rfl rfl ?_)
  intro w1 hA1 hb1 hs1
  have HA1 := hide hA1
  have Hb1 := hide hb1
  clear hA1 hb1
  go_wp2_with (refine wpList_alloc 26 26 zeroS.cs rfl rfl (unhide Hal) ?_)
  intro w2 hA2 hb2 hs2
  have HA1 := hide ((unhide HA1).keep hb2 (by omega))
  have HA2 := hide hA2
  have Hb2 := hide ((unhide Hb1).trans (hb2.mono (by omega)))
  clear hA2 hb2 Hb1
  go_wp2_with (refine wpList_loadAll 26 _ w.heap.size s.cs _ rfl rfl rfl (unhide HA1) Tryd.underlying26 rfl (unhide HS) ?_)
  refine ((unhide HW) w2).mono ?_
  rintro e w3 ⟨rfl, hb3⟩
  have HA1 := hide ((unhide HA1).below hb3)
  have HA2 := hide ((unhide HA2).below hb3)
  have Hb3 := hide ((unhide Hb2).trans (hb3.mono (unhide Hb2).size))
  clear hb3 Hb2 HW
  have c0 := (unhide HA1).cell (unhide H0)
  cases r with
  | false =>
    go_wp2_with (first
      | refine wpList_build 26 _ zeroS.cs [] rfl rfl rfl (unhide HB) ?_
      | refine wpList_storeAll 26 _ _ (w.heap.size + 1) zeroS.cs zeroS.cs rfl rfl rfl rfl (unhide HA2) rfl (unhide HZ) (unhide HZ1) ?_)
    intro w5 hA5 hg5 hs5
    have Hb5 := hide ((unhide Hb3).grown hg5 (unhide Hb3).size (fun k hk => by simp at hk; omega))
    have HA5 := hide hA5
    clear hA5 hg5
    go_wp2
    refine bodyPost_ret (v := .tuple #[.agg zeroS.cs.toArray, .int .i64 101]) ?_ rfl ⟨?_, unhide Hb5⟩
    · exact results_two Tryd.results33 rfl rfl (unhide HA5) Tryd.underlying26 rfl (unhide HZ)
    · rw [unhide Hf (by simp)]
      try rfl
  | true =>
    have h23 : (s.st != 2) = false ∨ (s.st != 2) = true ∧ (s.st != 3) = false ∨ (s.st != 2) = true ∧ (s.st != 3) = true := by
      simp only [bne_iff_ne, bne_eq_false_iff_eq]
      omega
    rcases h23 with h2 | ⟨h2, h3⟩ | ⟨h2, h3⟩
    · have Hy2 := hide (unhide Hy (by simp) (.inl (by simpa using h2)))
      go_wp2_with (first
        | refine wpList_build 26 _ (bare 4).cs _ rfl rfl rfl (unhide HB4) ?_
        | refine wpList_storeAll 26 _ _ (w.heap.size + 1) (bare 4).cs zeroS.cs rfl rfl rfl rfl (unhide HA2) (by rw [unhide HTL, unhide HZL]) (unhide HT) (unhide HT1) ?_)
      intro w5 hA5 hg5 hs5
      have Hb5 := hide ((unhide Hb3).grown hg5 (unhide Hb3).size (fun k hk => by simp at hk; omega))
      have HA5 := hide hA5
      clear hA5 hg5
      go_wp2
      refine bodyPost_ret (v := .tuple #[.agg (bare 4).cs.toArray, .int .i64 0]) ?_ rfl ⟨?_, unhide Hb5⟩
      · exact results_two Tryd.results33 rfl rfl (unhide HA5) Tryd.underlying26 rfl (unhide HT)
      · rw [unhide Hy2]
        try rfl
    · have Hy2 := hide (unhide Hy (by simp) (.inr (by simpa using h3)))
      go_wp2_with (first
        | refine wpList_build 26 _ (bare 4).cs _ rfl rfl rfl (unhide HB4) ?_
        | refine wpList_storeAll 26 _ _ (w.heap.size + 1) (bare 4).cs zeroS.cs rfl rfl rfl rfl (unhide HA2) (by rw [unhide HTL, unhide HZL]) (unhide HT) (unhide HT1) ?_)
      intro w5 hA5 hg5 hs5
      have Hb5 := hide ((unhide Hb3).grown hg5 (unhide Hb3).size (fun k hk => by simp at hk; omega))
      have HA5 := hide hA5
      clear hA5 hg5
      go_wp2
      refine bodyPost_ret (v := .tuple #[.agg (bare 4).cs.toArray, .int .i64 0]) ?_ rfl ⟨?_, unhide Hb5⟩
      · exact results_two Tryd.results33 rfl rfl (unhide HA5) Tryd.underlying26 rfl (unhide HT)
      · rw [unhide Hy2]
        try rfl
    · have Hn2 := hide (unhide Hn (by simpa using h2) (by simpa using h3))
      go_wp2_with (first
        | refine wpList_build 26 _ zeroS.cs [] rfl rfl rfl (unhide HB) ?_
        | refine wpList_storeAll 26 _ _ (w.heap.size + 1) zeroS.cs zeroS.cs rfl rfl rfl rfl (unhide HA2) rfl (unhide HZ) (unhide HZ1) ?_)
      intro w5 hA5 hg5 hs5
      have Hb5 := hide ((unhide Hb3).grown hg5 (unhide Hb3).size (fun k hk => by simp at hk; omega))
      have HA5 := hide hA5
      clear hA5 hg5
      go_wp2
      refine bodyPost_ret (v := .tuple #[.agg zeroS.cs.toArray, .int .i64 101]) ?_ rfl ⟨?_, unhide Hb5⟩
      · exact results_two Tryd.results33 rfl rfl (unhide HA5) Tryd.underlying26 rfl (unhide HZ)
      · rw [unhide Hn2]
        try rfl

set_option maxHeartbeats 1600000 in
set_option maxRecDepth 100000 in
theorem rgood_walk (s : S) (hf : Fit s) (w : World) : Calls Tryd.prog 31 #[s.v] w fun e w' => e = .returned (.tuple #[(goodF s).1.v, .int .i64 (goodF s).2]) ∧ Below w.heap.size w w' := by
  have HW : Hid (∀ w : World, Calls Tryd.prog 15 #[.agg s.cs.toArray] w fun e w' => e = .returned (.bool (right s)) ∧ Below w.heap.size w w') := hide (rright_walk s hf)
  have HS := hide (info26s hf.dg)
  have HL := hide (cs_length hf.dg)
  have HS1 := hide (cs_one s)
  have HZ := hide (info26s (s := zeroS) rfl)
  have HZL : Hid (zeroS.cs.length = 36) := hide rfl
  have HZ1 := hide (cs_one zeroS)
  have HB := hide built26
  have Hal := hide alloc26
  have HT := hide (info26s (s := (S.mk 3 0 s.ver s.sz s.dg)) hf.dg)
  have HTL := hide (cs_length (s := (S.mk 3 0 s.ver s.sz s.dg)) hf.dg)
  have HT1 := hide (cs_one (S.mk 3 0 s.ver s.sz s.dg))
  have HBg := hide (built26_good 3 s.sz s.ver s.dg hf.dg)
  have HG := hide (info24s hf.dg)
  have H4 : Hid (∀ j v, (bytesV s.dg)[j]? = some v → s.cs[4 + j]? = some v) := by
    show ∀ j v, _
    intro j v hj
    rw [← hj, S.cs, Nat.add_comm]
    rfl
  have Hf : Hid (right s = false → goodF s = (zeroS, 101)) := by
    show right s = false → _
    intro h; unfold goodF whole; rw [if_neg (by rw [h]; simp)]
  have Hn : Hid (s.st ≠ 2 → s.st ≠ 3 → goodF s = (zeroS, 101)) := by
    show s.st ≠ 2 → s.st ≠ 3 → _
    intro h h3; unfold goodF whole has; rw [if_neg (by simp [h, h3])]
  have Hy : Hid (right s = true → (s.st = 2 ∨ s.st = 3) → goodF s = ((S.mk 3 0 s.ver s.sz s.dg), 0)) := by
    show right s = true → (s.st = 2 ∨ s.st = 3) → _
    intro h h2; unfold goodF whole has; rw [if_pos (by rw [h]; simpa using h2)]
  have H0 : Hid (s.cs[0]? = some (.int .i64 s.st)) := hide rfl
  unfold S.v
  clear hf
  generalize right s = r at *
  go_enter Tryd.func31, Tryd.ntmps31
  go_wp2_with (refine wpList_box 26 _ s.cs rfl rfl rfl ?_)
  intro w1 hA1 hb1 hs1
  have HA1 := hide hA1
  have Hb1 := hide hb1
  clear hA1 hb1
  go_wp2_with (refine wpList_alloc 26 26 zeroS.cs rfl rfl (unhide Hal) ?_)
  intro w2 hA2 hb2 hs2
  have HA1 := hide ((unhide HA1).keep hb2 (by omega))
  have HA2 := hide hA2
  have Hb2 := hide ((unhide Hb1).trans (hb2.mono (by omega)))
  clear hA2 hb2 Hb1
  go_wp2_with (refine wpList_loadAll 26 _ w.heap.size s.cs _ rfl rfl rfl (unhide HA1) Tryd.underlying26 rfl (unhide HS) ?_)
  refine ((unhide HW) w2).mono ?_
  rintro e w3 ⟨rfl, hb3⟩
  have HA1 := hide ((unhide HA1).below hb3)
  have HA2 := hide ((unhide HA2).below hb3)
  have Hb3 := hide ((unhide Hb2).trans (hb3.mono (unhide Hb2).size))
  clear hb3 Hb2 HW
  have c0 := (unhide HA1).cell (unhide H0)
  cases r with
  | false =>
    go_wp2_with (first
      | refine wpList_build 26 _ zeroS.cs [] rfl rfl rfl (unhide HB) ?_
      | refine wpList_storeAll 26 _ _ (w.heap.size + 1) zeroS.cs zeroS.cs rfl rfl rfl rfl (unhide HA2) rfl (unhide HZ) (unhide HZ1) ?_)
    intro w5 hA5 hg5 hs5
    have Hb5 := hide ((unhide Hb3).grown hg5 (unhide Hb3).size (fun k hk => by simp at hk; omega))
    have HA5 := hide hA5
    clear hA5 hg5
    go_wp2
    refine bodyPost_ret (v := .tuple #[.agg zeroS.cs.toArray, .int .i64 101]) ?_ rfl ⟨?_, unhide Hb5⟩
    · exact results_two Tryd.results31 rfl rfl (unhide HA5) Tryd.underlying26 rfl (unhide HZ)
    · rw [unhide Hf (by simp)]
      try rfl
  | true =>
    have h23 : (s.st != 2) = false ∨ (s.st != 2) = true ∧ (s.st != 3) = false ∨ (s.st != 2) = true ∧ (s.st != 3) = true := by
      simp only [bne_iff_ne, bne_eq_false_iff_eq]
      omega
    rcases h23 with h2 | ⟨h2, h3⟩ | ⟨h2, h3⟩
    · have Hy2 := hide (unhide Hy (by simp) (.inl (by simpa using h2)))
      have c2 := (unhide HA1).cell (i := 2) (v := .int .u64 (s.ver : Int)) rfl
      have c3 := (unhide HA1).cell (i := 3) (v := .int .i64 s.sz) rfl
      have HRG := hide ((unhide HA1).rangeMid 4 (bytesV s.dg) (unhide H4))
      go_wp2_with (first
        | refine wpList_load_mid rfl 24 _ rfl w.heap.size 4 rfl (bytesV s.dg) _ (unhide HRG) Tryd.underlying24 rfl (unhide HG) ?_
        | refine wpList_build 26 _ (S.mk 3 0 s.ver s.sz s.dg).cs _ rfl rfl rfl (unhide HBg) ?_
        | refine wpList_storeAll 26 _ _ (w.heap.size + 1) (S.mk 3 0 s.ver s.sz s.dg).cs zeroS.cs rfl rfl rfl rfl (unhide HA2) (by rw [unhide HTL, unhide HZL]) (unhide HT) (unhide HT1) ?_)
      intro w5 hA5 hg5 hs5
      have Hb5 := hide ((unhide Hb3).grown hg5 (unhide Hb3).size (fun k hk => by simp at hk; omega))
      have HA5 := hide hA5
      clear hA5 hg5
      go_wp2
      refine bodyPost_ret (v := .tuple #[.agg (S.mk 3 0 s.ver s.sz s.dg).cs.toArray, .int .i64 0]) ?_ rfl ⟨?_, unhide Hb5⟩
      · exact results_two Tryd.results31 rfl rfl (unhide HA5) Tryd.underlying26 rfl (unhide HT)
      · rw [unhide Hy2]
        try rfl
    · have Hy2 := hide (unhide Hy (by simp) (.inr (by simpa using h3)))
      have c2 := (unhide HA1).cell (i := 2) (v := .int .u64 (s.ver : Int)) rfl
      have c3 := (unhide HA1).cell (i := 3) (v := .int .i64 s.sz) rfl
      have HRG := hide ((unhide HA1).rangeMid 4 (bytesV s.dg) (unhide H4))
      go_wp2_with (first
        | refine wpList_load_mid rfl 24 _ rfl w.heap.size 4 rfl (bytesV s.dg) _ (unhide HRG) Tryd.underlying24 rfl (unhide HG) ?_
        | refine wpList_build 26 _ (S.mk 3 0 s.ver s.sz s.dg).cs _ rfl rfl rfl (unhide HBg) ?_
        | refine wpList_storeAll 26 _ _ (w.heap.size + 1) (S.mk 3 0 s.ver s.sz s.dg).cs zeroS.cs rfl rfl rfl rfl (unhide HA2) (by rw [unhide HTL, unhide HZL]) (unhide HT) (unhide HT1) ?_)
      intro w5 hA5 hg5 hs5
      have Hb5 := hide ((unhide Hb3).grown hg5 (unhide Hb3).size (fun k hk => by simp at hk; omega))
      have HA5 := hide hA5
      clear hA5 hg5
      go_wp2
      refine bodyPost_ret (v := .tuple #[.agg (S.mk 3 0 s.ver s.sz s.dg).cs.toArray, .int .i64 0]) ?_ rfl ⟨?_, unhide Hb5⟩
      · exact results_two Tryd.results31 rfl rfl (unhide HA5) Tryd.underlying26 rfl (unhide HT)
      · rw [unhide Hy2]
        try rfl
    · have Hn2 := hide (unhide Hn (by simpa using h2) (by simpa using h3))
      go_wp2_with (first
        | refine wpList_build 26 _ zeroS.cs [] rfl rfl rfl (unhide HB) ?_
        | refine wpList_storeAll 26 _ _ (w.heap.size + 1) zeroS.cs zeroS.cs rfl rfl rfl rfl (unhide HA2) rfl (unhide HZ) (unhide HZ1) ?_)
      intro w5 hA5 hg5 hs5
      have Hb5 := hide ((unhide Hb3).grown hg5 (unhide Hb3).size (fun k hk => by simp at hk; omega))
      have HA5 := hide hA5
      clear hA5 hg5
      go_wp2
      refine bodyPost_ret (v := .tuple #[.agg zeroS.cs.toArray, .int .i64 101]) ?_ rfl ⟨?_, unhide Hb5⟩
      · exact results_two Tryd.results31 rfl rfl (unhide HA5) Tryd.underlying26 rfl (unhide HZ)
      · rw [unhide Hn2]
        try rfl
end Go.Proofs.YtglphnmnnfpcoaaDoor
