/-
  Wipe and All of the document's parts.
-/
import Derived.Test.YtlgknllcnkainaaRMOps
namespace Go.Proofs.Ytlgknllcnkainaa
open Go.RowKit

theorem eraseR_done (r : RM) (i : Int) : (eraseR r i).2.done.length ≤ r.done.length + 1 := by
  unfold eraseR
  split
  · show r.done.length ≤ _; omega
  · split
    · show r.done.length ≤ _; omega
    · split
      · show r.done.length ≤ _; omega
      · split
        · show (spendR r).2.done.length ≤ _
          rw [spend_done]; omega
        · show ((spendR r).2.done ++ [_]).length ≤ _
          rw [spend_done]; simp
theorem opR_done (kind : Int) {f : RM → Int → Int × RM} (hf : ∀ d i, (f d i).2.done.length ≤ d.done.length + 1) (d : RM) (x : MX) (part at_ : Int) : (opG kind f d x part at_).2.1.done.length ≤ d.done.length + 1 := by
  unfold opG; split
  · show d.done.length ≤ _; omega
  · split <;> exact hf _ _
theorem readR_64 {r : RM} (h : r.Ok) (sz : List Nat) (i j : Int) : (readG readR r sz i j).1.length = 64 := by
  unfold readG
  split
  · exact zeroS_len
  · unfold readR
    split
    · rename_i hh
      exact lastOf_64 _ _ _ (getD_mem64 h.keptS (hasD_true hh).2) (fun y hy => (h.doneS y hy).2)
    · exact zeroS_len
theorem someR_len {r : RM} (h : r.Ok) (sz : List Nat) (i : Int) : ∀ n, (someG readR r sz i n).length = n * 64
  | 0 => by rw [someG_zero]; rfl
  | n + 1 => by
    rw [someG_succ, List.length_append, someR_len h sz i n, readR_64 h]
    omega

section
variable {N sc : Nat} {sa : Option Addr} {F D : List Nat} {w w' : World} {m p : Nat} {x : MX} {r : RM}

set_option maxHeartbeats 1600000 in
set_option maxRecDepth 100000 in
theorem rwipe_walk (h : RPMap N sa sc F D w m p r x) (i : Int) (hlen : r.done.length ≤ 900000) (hop : x.ops.length ≤ 900000) :
    Calls Try.prog 23 #[.pointer (some ⟨m, 0, none⟩), .int .i64 i] w fun e w' => e = .returned (.int .i64 (wipeAll readR eraseR r x i).1) ∧
      ∃ F' D', RPMap N sa sc F' D' w' m p (wipeAll readR eraseR r x i).2.1 (wipeAll readR eraseR r x i).2.2 ∧ Turns (F ++ D) (F' ++ D') w w' := by
  have HM := hide h
  have hc1 := h.map.sizes
  have hfew := h.map.few
  by_cases h0 : i < 0
  · rw [show wipeAll readR eraseR r x i = (71, r, x) by unfold wipeAll; rw [if_pos (by simp [hasD]; omega)]]
    clear h hc1
    go_enter Try.func23, Try.ntmps23
    go_wp2
    go_ret
    exact ⟨rfl, F, D, unhide HM, Turns.refl _ _⟩
  obtain ⟨k, rfl⟩ : ∃ k : Nat, i = (k : Int) := ⟨i.toNat, by omega⟩
  by_cases h1 : x.sz.length ≤ k
  · rw [show wipeAll readR eraseR r x (k : Int) = (71, r, x) by unfold wipeAll; rw [if_pos (by unfold hasD; rw [decide_eq_false (p := (k : Int) < _) (by omega)]; simp)]]
    clear h
    generalize x.sz.length = n0 at *
    go_enter Try.func23, Try.ntmps23
    go_wp2
    go_ret
    exact ⟨rfl, F, D, unhide HM, Turns.refl _ _⟩
  have hk : k < x.sz.length := by omega
  have hb : hasD x.sz.length (k : Int) = true := by simp [hasD]; omega
  have hres : wipeAll readR eraseR r x (k : Int) = wipeG readR eraseR r x (k : Int) 0 (x.sz.getD k 0) := by
    unfold wipeAll
    rw [if_neg (by rw [hb]; decide), size_some hk]
  rw [hres]
  have hn : x.sz.getD k 0 ≤ 4096 := Nat.le_trans (Nat.le_trans (by omega) (bnd_part hk)) h.map.sum
  obtain ⟨n, hnn⟩ : ∃ n, n = x.sz.getD k 0 := ⟨_, rfl⟩
  rw [← hnn] at hn ⊢
  obtain ⟨res, hr⟩ : ∃ res, res = wipeG readR eraseR r x (k : Int) 0 n := ⟨_, rfl⟩
  rw [← hr]
  have HR := hide hr
  have HK := hide hk
  have HNN := hide hnn
  obtain ⟨b, off, rfl, _, _⟩ := h.map.row k hk
  have HT0 : Hid (Turns (F ++ D) (F ++ D) w w) := hide (Turns.refl _ _)
  generalize hln : x.sz.length = ln at *
  have HLN := hide hln
  clear h hb hres hr hnn h0 h1 hln
  go_enter Try.func23, Try.ntmps23
  go_wp2
  generalize decide (ln ≤ k) = bz at *
  go_loopw [5] (fun ci wr => ∃ (a : Nat) (F1 D1 : List Nat) (d1 : RM) (x1 : MX), a ≤ n ∧ ci = .int .i64 (a : Int) ∧ RPMap N (some ⟨b, off, none⟩) sc F1 D1 wr m p d1 x1 ∧ Turns (F ++ D) (F1 ++ D1) w wr ∧ x1.sz = x.sz ∧ d1.done.length ≤ r.done.length + a ∧ x1.ops.length ≤ x.ops.length + a ∧
    res = wipeG readR eraseR d1 x1 (k : Int) a (n - a)) (fun ci _ => n - (intOf ci).toNat)
  case atStart => exact ⟨0, F, D, r, x, by omega, rfl, unhide HM, unhide HT0, rfl, by omega, by omega, unhide HR⟩
  case round =>
    obtain ⟨a, F1, D1, d1, x1, ha, rfl, hM, hT, hsz, hwl, hol, hr⟩ := hrel
    clear HM HT0 HR hc1
    have hc1 : wr.cell? ⟨m, 1, none⟩ = some (.slice (some ⟨b, off, none⟩) ln sc) := by
      have := hM.map.sizes
      rw [hsz, unhide HLN] at this
      exact this
    have hck : wr.cell? ⟨b, off + k, none⟩ = some (.int .i64 (n : Int)) := by
      obtain ⟨b', off', e', _, hcell⟩ := hM.map.row k (by rw [hsz, unhide HLN]; exact hk)
      cases e'
      rw [hsz, ← unhide HNN] at hcell
      exact hcell
    by_cases hlt : a < n
    · have hs64 : (readG readR d1 x1.sz (k : Int) (a : Int)).1.length = 64 := readR_64 hM.dev.ok _ _ _
      have HRD := hide (rmread_walk hM (k : Int) (a : Int) (by omega) (by omega))
      obtain ⟨sec, hsec⟩ : ∃ sec, sec = (readG readR d1 x1.sz (k : Int) (a : Int)).1 := ⟨_, rfl⟩
      rw [← hsec] at HRD hs64
      have hrd1 := hsec.symm
      clear hsec
      generalize (readG readR d1 x1.sz (k : Int) (a : Int)).2 = e9 at *
      have HS64 := hide hs64
      have HM2 := hide hM
      have HT2 := hide hT
      have hna : n - a = (n - (a + 1)) + 1 := by omega
      rw [hna] at hr
      clear hM hT hs64 hna
      rcases Decidable.em (sec = blankS) with hbl | hbl
      · have HR2 : Hid (res = wipeG readR eraseR d1 x1 (k : Int) (a + 1) (n - (a + 1))) := hide (hr.trans (wipe_blank (hrd1.trans hbl)))
        have HE : Hid ((sec == blankS) = true) := hide (by rw [hbl]; decide)
        clear hr hrd1 hbl
        go_wp2_with fail
        refine (unhide HRD).mono ?_
        rintro e w3 ⟨rfl, hb3⟩
        have HM3 := hide ((unhide HM2).below hb3)
        have HT3 := hide ((unhide HT2).then hb3)
        clear hb3 HRD HM2 HT2 hc1 hck
        go_wp2_with (refine wpList_alloc 30 30 (bytesV zeroS) rfl rfl alloc30 ?_)
        intro w4 hA4 hb4 hs4
        have HA4 := hide hA4
        have HM4 := hide ((unhide HM3).below hb4)
        have HT4 := hide ((unhide HT3).then hb4)
        have HQ : Hid (∀ j ∈ F1 ++ D1, j ≠ w3.heap.size) := hide (fun j hj e => by have := (unhide HM3).lt j hj; omega)
        have HQ2 : Hid (w.heap.size ≤ w3.heap.size) := hide (unhide HT3).1.size
        have HQ3 : Hid (N ≤ w3.heap.size) := hide (unhide HM3).size
        clear hA4 hb4 HM3 HT3
        generalize w3.heap.size = q at *
        go_wp2_with (refine wpList_storeAll 30 _ _ q (bytesV sec) (bytesV zeroS) rfl rfl rfl rfl (unhide HA4) (by rw [bytesV_length, bytesV_length, unhide HS64]; rfl) (info30s (unhide HS64)) (bytesV_one _) ?_)
        intro w4b hA4b hg4 hs4b
        have HA4b := hide hA4b
        have HM4b := hide ((unhide HM4).but (But.of_grown (F := [q]) hg4 (by simp)) (fun j hj => by simpa using unhide HQ j hj) (fun j hj => by simp at hj; subst hj; exact unhide HQ3))
        have HT4b : Hid (Turns (F ++ D) (F1 ++ D1) w w4b) := hide ⟨(unhide HT4).1.trans (But.of_grown (F := [q]) hg4 (by simp)) (fun j hj => .inr (by simp at hj; subst hj; exact unhide HQ2)), (unhide HT4).2⟩
        clear hA4b hg4 HA4 HM4 HT4 HQ HQ2 HQ3
        go_wp2_with fail
        have hr5 : w4b.rangeAt q 0 (bytesV sec) := (unhide HA4b).range
        refine Flow.wp_region (Flow.VV (fun j => match j with | 0 => secV sec | 1 => secV blankS | 2 => .bool true | _ => undef)) (fun _ (_ : Unit) w' => Below w4b.heap.size w4b w') () (by kernel_rfl) (by kernel_rfl) (Below.refl _ _).drew ⟨?_, ?_, ?_, trivial⟩ ?_
        · refine Flow.pure (Flow.goes_plain rfl) (fun _ _ _ h => h) fun a L s w' hC hL hn hs hd => ?_
          skip
          exact ⟨_, op_load30 rfl (hs 6 (by kernel_rfl)) (fun j v hj => (hC.cell (p := ⟨q, 0 + j, none⟩) (unhide HA4b).lt).trans (hr5 j v hj)) (unhide HS64), rfl⟩
        · refine Flow.call (Flow.goes_plain rfl) fun a L s0 w' hC hL hn hs hd => ⟨47, #[], op_call47 rfl rfl w', (rblank_walk w').mono ?_⟩
          rintro e w'' ⟨rfl, hb⟩
          exact ⟨_, (), rfl, fun _ _ _ h => h, hC.trans (hb.mono hC.size), rfl⟩
        · refine Flow.pure (Flow.goes_plain rfl) (fun _ _ _ h => h) fun a L s w' hC hL hn hs hd => ?_
          skip
          exact ⟨_, op_eql30 rfl (hd 0 38 (by kernel_rfl)) (hd 1 39 (by kernel_rfl)) (unhide HE) (unhide HS64) blankS_len w', rfl⟩
        · intro L _ w5 hC hL vals hv
          have e2 : vals 2 = .bool true := hv 2 _ 40 rfl rfl
          have HM5 := hide ((unhide HM4b).below hC)
          have HT5 := hide ((unhide HT4b).then hC)
          simp only [Free.putAll, Act.put, List.setIfInBounds_toArray, List.set_cons_succ, List.set_cons_zero, e2]
          clear hL hv e2 hC hr5 HM4b HT4b HA4b
          generalize vals 0 = y0 at *
          generalize vals 1 = y1 at *
          go_wp2
          go_roundw
          case rel => exact ⟨a + 1, F1, D1, d1, x1, by omega, by go_num, unhide HM5, unhide HT5, hsz, by omega, by omega, unhide HR2⟩
          case measure => simp [intOf]; omega
      · obtain ⟨e1, d2, x2, hop2⟩ : ∃ e1 d2 x2, opG 1 eraseR d1 x1 (k : Int) (a : Int) = (e1, d2, x2) := ⟨_, _, _, rfl⟩
        have HE : Hid ((sec == blankS) = false) := hide (by simp [hbl])
        have HER : ∀ w1, RPMap N (some ⟨b, off, none⟩) sc F1 D1 w1 m p d1 x1 → Hid (Calls Try.prog 20 #[.pointer (some ⟨m, 0, none⟩), .int .i64 (k : Int), .int .i64 (a : Int)] w1 fun e w' => e = .returned (.int .i64 e1) ∧ ∃ F' D', RPMap N (some ⟨b, off, none⟩) sc F' D' w' m p d2 x2 ∧ Turns (F1 ++ D1) (F' ++ D') w1 w') := fun w1 hm1 => by
          have := rmerase_walk hm1 (k : Int) (a : Int) (by omega) (by omega) (by omega)
          rw [hop2] at this
          exact hide this
        have hsz2 : x2.sz = x.sz := by
          have := opG_sz 1 eraseR d1 x1 (k : Int) (a : Int)
          rw [hop2] at this
          rw [← hsz, ← this]
        have hwl2 : d2.done.length ≤ r.done.length + (a + 1) := by
          have := opR_done 1 eraseR_done d1 x1 (k : Int) (a : Int)
          rw [hop2] at this
          simp only at this
          omega
        have hol2 : x2.ops.length ≤ x.ops.length + (a + 1) := by
          have := opG_ops 1 eraseR d1 x1 (k : Int) (a : Int)
          rw [hop2] at this
          simp only at this
          omega
        by_cases h1 : e1 = 0
        · have HR2 : Hid (res = wipeG readR eraseR d2 x2 (k : Int) (a + 1) (n - (a + 1))) := hide (hr.trans (wipe_on (by rw [hrd1]; exact hbl) (by rw [← h1]; exact hop2)))
          clear hr hrd1 hop2 hbl
          go_wp2_with fail
          refine (unhide HRD).mono ?_
          rintro e w3 ⟨rfl, hb3⟩
          have HM3 := hide ((unhide HM2).below hb3)
          have HT3 := hide ((unhide HT2).then hb3)
          clear hb3 HRD HM2 HT2 hc1 hck
          go_wp2_with (refine wpList_alloc 30 30 (bytesV zeroS) rfl rfl alloc30 ?_)
          intro w4 hA4 hb4 hs4
          have HA4 := hide hA4
          have HM4 := hide ((unhide HM3).below hb4)
          have HT4 := hide ((unhide HT3).then hb4)
          have HQ : Hid (∀ j ∈ F1 ++ D1, j ≠ w3.heap.size) := hide (fun j hj e => by have := (unhide HM3).lt j hj; omega)
          have HQ2 : Hid (w.heap.size ≤ w3.heap.size) := hide (unhide HT3).1.size
          have HQ3 : Hid (N ≤ w3.heap.size) := hide (unhide HM3).size
          clear hA4 hb4 HM3 HT3
          generalize w3.heap.size = q at *
          go_wp2_with (refine wpList_storeAll 30 _ _ q (bytesV sec) (bytesV zeroS) rfl rfl rfl rfl (unhide HA4) (by rw [bytesV_length, bytesV_length, unhide HS64]; rfl) (info30s (unhide HS64)) (bytesV_one _) ?_)
          intro w4b hA4b hg4 hs4b
          have HA4b := hide hA4b
          have HM4b := hide ((unhide HM4).but (But.of_grown (F := [q]) hg4 (by simp)) (fun j hj => by simpa using unhide HQ j hj) (fun j hj => by simp at hj; subst hj; exact unhide HQ3))
          have HT4b : Hid (Turns (F ++ D) (F1 ++ D1) w w4b) := hide ⟨(unhide HT4).1.trans (But.of_grown (F := [q]) hg4 (by simp)) (fun j hj => .inr (by simp at hj; subst hj; exact unhide HQ2)), (unhide HT4).2⟩
          clear hA4b hg4 HA4 HM4 HT4 HQ HQ2 HQ3
          go_wp2_with fail
          have hr5 : w4b.rangeAt q 0 (bytesV sec) := (unhide HA4b).range
          refine Flow.wp_region (Flow.VV (fun j => match j with | 0 => secV sec | 1 => secV blankS | 2 => .bool false | _ => undef)) (fun _ (_ : Unit) w' => Below w4b.heap.size w4b w') () (by kernel_rfl) (by kernel_rfl) (Below.refl _ _).drew ⟨?_, ?_, ?_, trivial⟩ ?_
          · refine Flow.pure (Flow.goes_plain rfl) (fun _ _ _ h => h) fun a L s w' hC hL hn hs hd => ?_
            skip
            exact ⟨_, op_load30 rfl (hs 6 (by kernel_rfl)) (fun j v hj => (hC.cell (p := ⟨q, 0 + j, none⟩) (unhide HA4b).lt).trans (hr5 j v hj)) (unhide HS64), rfl⟩
          · refine Flow.call (Flow.goes_plain rfl) fun a L s0 w' hC hL hn hs hd => ⟨47, #[], op_call47 rfl rfl w', (rblank_walk w').mono ?_⟩
            rintro e w'' ⟨rfl, hb⟩
            exact ⟨_, (), rfl, fun _ _ _ h => h, hC.trans (hb.mono hC.size), rfl⟩
          · refine Flow.pure (Flow.goes_plain rfl) (fun _ _ _ h => h) fun a L s w' hC hL hn hs hd => ?_
            skip
            exact ⟨_, op_eql30 rfl (hd 0 38 (by kernel_rfl)) (hd 1 39 (by kernel_rfl)) (unhide HE) (unhide HS64) blankS_len w', rfl⟩
          · intro L _ w5 hC hL vals hv
            have e2 : vals 2 = .bool false := hv 2 _ 40 rfl rfl
            have HM5 := hide ((unhide HM4b).below hC)
            have HT5 := hide ((unhide HT4b).then hC)
            simp only [Free.putAll, Act.put, List.setIfInBounds_toArray, List.set_cons_succ, List.set_cons_zero, e2]
            clear hL hv e2 hC hr5 HM4b HT4b HA4b
            generalize vals 0 = y0 at *
            generalize vals 1 = y1 at *
            subst h1
            go_wp2_with fail
            refine (unhide (HER w5 (unhide HM5))).mono ?_
            rintro e w6 ⟨rfl, F', D', hM6, hT6⟩
            have HM6 := hide hM6
            have HT6 := hide ((unhide HT5).trans hT6)
            clear hM6 hT6 HER HM5 HT5
            go_wp2
            go_roundw
            case rel => exact ⟨a + 1, F', D', d2, x2, by omega, by go_num, unhide HM6, unhide HT6, hsz2, hwl2, hol2, unhide HR2⟩
            case measure => simp [intOf]; omega
        · have HR2 : Hid (res = (e1, d2, x2)) := hide (hr.trans (wipe_stop (by rw [hrd1]; exact hbl) hop2 h1))
          clear hr hrd1 hop2 hbl
          go_wp2_with fail
          refine (unhide HRD).mono ?_
          rintro e w3 ⟨rfl, hb3⟩
          have HM3 := hide ((unhide HM2).below hb3)
          have HT3 := hide ((unhide HT2).then hb3)
          clear hb3 HRD HM2 HT2 hc1 hck
          go_wp2_with (refine wpList_alloc 30 30 (bytesV zeroS) rfl rfl alloc30 ?_)
          intro w4 hA4 hb4 hs4
          have HA4 := hide hA4
          have HM4 := hide ((unhide HM3).below hb4)
          have HT4 := hide ((unhide HT3).then hb4)
          have HQ : Hid (∀ j ∈ F1 ++ D1, j ≠ w3.heap.size) := hide (fun j hj e => by have := (unhide HM3).lt j hj; omega)
          have HQ2 : Hid (w.heap.size ≤ w3.heap.size) := hide (unhide HT3).1.size
          have HQ3 : Hid (N ≤ w3.heap.size) := hide (unhide HM3).size
          clear hA4 hb4 HM3 HT3
          generalize w3.heap.size = q at *
          go_wp2_with (refine wpList_storeAll 30 _ _ q (bytesV sec) (bytesV zeroS) rfl rfl rfl rfl (unhide HA4) (by rw [bytesV_length, bytesV_length, unhide HS64]; rfl) (info30s (unhide HS64)) (bytesV_one _) ?_)
          intro w4b hA4b hg4 hs4b
          have HA4b := hide hA4b
          have HM4b := hide ((unhide HM4).but (But.of_grown (F := [q]) hg4 (by simp)) (fun j hj => by simpa using unhide HQ j hj) (fun j hj => by simp at hj; subst hj; exact unhide HQ3))
          have HT4b : Hid (Turns (F ++ D) (F1 ++ D1) w w4b) := hide ⟨(unhide HT4).1.trans (But.of_grown (F := [q]) hg4 (by simp)) (fun j hj => .inr (by simp at hj; subst hj; exact unhide HQ2)), (unhide HT4).2⟩
          clear hA4b hg4 HA4 HM4 HT4 HQ HQ2 HQ3
          go_wp2_with fail
          have hr5 : w4b.rangeAt q 0 (bytesV sec) := (unhide HA4b).range
          refine Flow.wp_region (Flow.VV (fun j => match j with | 0 => secV sec | 1 => secV blankS | 2 => .bool false | _ => undef)) (fun _ (_ : Unit) w' => Below w4b.heap.size w4b w') () (by kernel_rfl) (by kernel_rfl) (Below.refl _ _).drew ⟨?_, ?_, ?_, trivial⟩ ?_
          · refine Flow.pure (Flow.goes_plain rfl) (fun _ _ _ h => h) fun a L s w' hC hL hn hs hd => ?_
            skip
            exact ⟨_, op_load30 rfl (hs 6 (by kernel_rfl)) (fun j v hj => (hC.cell (p := ⟨q, 0 + j, none⟩) (unhide HA4b).lt).trans (hr5 j v hj)) (unhide HS64), rfl⟩
          · refine Flow.call (Flow.goes_plain rfl) fun a L s0 w' hC hL hn hs hd => ⟨47, #[], op_call47 rfl rfl w', (rblank_walk w').mono ?_⟩
            rintro e w'' ⟨rfl, hb⟩
            exact ⟨_, (), rfl, fun _ _ _ h => h, hC.trans (hb.mono hC.size), rfl⟩
          · refine Flow.pure (Flow.goes_plain rfl) (fun _ _ _ h => h) fun a L s w' hC hL hn hs hd => ?_
            skip
            exact ⟨_, op_eql30 rfl (hd 0 38 (by kernel_rfl)) (hd 1 39 (by kernel_rfl)) (unhide HE) (unhide HS64) blankS_len w', rfl⟩
          · intro L _ w5 hC hL vals hv
            have e2 : vals 2 = .bool false := hv 2 _ 40 rfl rfl
            have HM5 := hide ((unhide HM4b).below hC)
            have HT5 := hide ((unhide HT4b).then hC)
            simp only [Free.putAll, Act.put, List.setIfInBounds_toArray, List.set_cons_succ, List.set_cons_zero, e2]
            clear hL hv e2 hC hr5 HM4b HT4b HA4b
            generalize vals 0 = y0 at *
            generalize vals 1 = y1 at *
            go_wp2_with fail
            refine (unhide (HER w5 (unhide HM5))).mono ?_
            rintro e w6 ⟨rfl, F', D', hM6, hT6⟩
            have HM6 := hide hM6
            have HT6 := hide ((unhide HT5).trans hT6)
            clear hM6 hT6 HER HM5 HT5
            go_wp2
            go_ret
            rw [unhide HR2]
            exact ⟨rfl, F', D', unhide HM6, unhide HT6⟩
    · obtain rfl : a = n := by omega
      rw [Nat.sub_self, wipeG] at hr
      have HR2 := hide hr
      have HM2 := hide hM
      have HT2 := hide hT
      clear hr hM hT
      go_wp2
      go_ret
      rw [unhide HR2]
      exact ⟨rfl, F1, D1, unhide HM2, unhide HT2⟩

set_option maxHeartbeats 1600000 in
set_option maxRecDepth 100000 in
theorem rall_walk (h : RPMap N sa sc F D w m p r x) (i : Int) (hlen : r.done.length ≤ 1000000) :
    Calls Try.prog 29 #[.pointer (some ⟨m, 0, none⟩), .int .i64 i] w fun e w' => ∃ v, e = .returned v ∧ Own w.heap.size w' v (allG readR r x.sz i) ∧ Below w.heap.size w w' := by
  have hb0 : Below w.heap.size w (w.alloc (.cells #[] 5)) := (Below.refl _ _).alloc (Nat.le_refl _) _
  have HM := hide h
  have HE := hide (Own.empty w)
  have hc1 := (h.below hb0).map.sizes
  have HB0 := hide hb0
  have hfew := h.map.few
  by_cases h0 : i < 0
  · rw [show allG readR r x.sz i = [] by unfold allG sizeX; rw [if_neg (by simp [hasD]; omega)]; exact someG_zero _ _ _ _]
    clear h hc1 hb0
    go_enter Try.func29, Try.ntmps29
    go_wp2
    go_ret
    exact ⟨_, rfl, unhide HE, unhide HB0⟩
  obtain ⟨k, rfl⟩ : ∃ k : Nat, i = (k : Int) := ⟨i.toNat, by omega⟩
  by_cases h1 : x.sz.length ≤ k
  · rw [show allG readR r x.sz (k : Int) = [] by unfold allG sizeX; rw [if_neg (by unfold hasD; rw [decide_eq_false (p := (k : Int) < _) (by omega)]; simp)]; exact someG_zero _ _ _ _]
    clear h hb0
    generalize x.sz.length = n0 at *
    go_enter Try.func29, Try.ntmps29
    go_wp2
    go_ret
    exact ⟨_, rfl, unhide HE, unhide HB0⟩
  have hk : k < x.sz.length := by omega
  have hall : allG readR r x.sz (k : Int) = someG readR r x.sz (k : Int) (x.sz.getD k 0) := by
    unfold allG
    rw [size_some hk]
  rw [hall]
  have hn : x.sz.getD k 0 ≤ 4096 := Nat.le_trans (Nat.le_trans (by omega) (bnd_part hk)) h.map.sum
  obtain ⟨n, hnn⟩ : ∃ n, n = x.sz.getD k 0 := ⟨_, rfl⟩
  rw [← hnn] at hn ⊢
  have HNN := hide hnn
  obtain ⟨b, off, rfl, _, _⟩ := h.map.row k hk
  generalize hln : x.sz.length = ln at *
  have HLN := hide hln
  clear h hall hnn h0 h1 hln hb0
  go_enter Try.func29, Try.ntmps29
  go_wp2
  generalize decide (ln ≤ k) = bz at *
  go_loopw [5, 6] (fun sv ci wr => ∃ (a : Nat) (v : Value), a ≤ n ∧ ci = .int .i64 (a : Int) ∧ sv = v ∧ Own w.heap.size wr v (someG readR r x.sz (k : Int) a) ∧ Below w.heap.size w wr) (fun _ ci _ => n - (intOf ci).toNat)
  case atStart => exact ⟨0, _, by omega, rfl, rfl, by rw [someG_zero]; exact unhide HE, unhide HB0⟩
  case round =>
    obtain ⟨a, v, ha, rfl, hsv, hO, hb⟩ := hrel
    have hsv2 := hsv.symm
    subst hsv2
    clear HE HB0 hc1
    have HO := hide hO
    have Hb := hide hb
    clear hO hb
    have hMr := (unhide HM).below (unhide Hb)
    have hc1 : wr.cell? ⟨m, 1, none⟩ = some (.slice (some ⟨b, off, none⟩) ln sc) := by
      have := hMr.map.sizes
      rw [unhide HLN] at this
      exact this
    have hck : wr.cell? ⟨b, off + k, none⟩ = some (.int .i64 (n : Int)) := by
      obtain ⟨b', off', e', _, hcell⟩ := hMr.map.row k (by rw [unhide HLN]; exact hk)
      cases e'
      rw [← unhide HNN] at hcell
      exact hcell
    by_cases hlt : a < n
    · have HRD := hide (rmread_walk hMr (k : Int) (a : Int) (by omega) hlen)
      have HS64 : Hid ((readG readR r x.sz (k : Int) (a : Int)).1.length = 64) := hide (readR_64 hMr.dev.ok _ _ _)
      have HLL : Hid ((someG readR r x.sz (k : Int) a).length = a * 64) := hide (someR_len hMr.dev.ok _ _ a)
      have HNX : Hid (someG readR r x.sz (k : Int) (a + 1) = someG readR r x.sz (k : Int) a ++ (readG readR r x.sz (k : Int) (a : Int)).1) := hide (someG_succ _ _ _ _ _)
      generalize (readG readR r x.sz (k : Int) (a : Int)).1 = sec at *
      generalize (readG readR r x.sz (k : Int) (a : Int)).2 = e9 at *
      generalize someG readR r x.sz (k : Int) a = l at *
      clear hMr
      go_wp2_with fail
      refine (unhide HRD).mono ?_
      rintro e w4 ⟨rfl, hb4⟩
      have Hb4 := hide ((unhide Hb).trans (hb4.mono (unhide Hb).size))
      have HO4 := hide ((unhide HO).keepB hb4)
      clear hb4 HRD HO Hb
      go_wp2_with (refine wpList_alloc 30 30 (bytesV zeroS) rfl rfl alloc30 ?_)
      intro w5 hA5 hb5 hs5
      have HA5 := hide hA5
      have hsz4 := (unhide Hb4).size
      have Hb5 := hide ((unhide Hb4).trans (hb5.mono hsz4))
      have HO5 := hide ((unhide HO4).keepB hb5)
      have HQ : Hid (∀ j ∈ v.ownBlock.toList, j ≠ w4.heap.size) := hide (fun j hj e => by have := ((unhide HO4).block (g := j) (by simpa using hj)).2.1; omega)
      clear hA5 hb5 Hb4 HO4
      have HWQ : Hid (w.heap.size ≤ w4.heap.size) := hide hsz4
      clear hsz4
      generalize w4.heap.size = q at *
      go_wp2_with (refine wpList_storeAll 30 _ _ q (bytesV sec) (bytesV zeroS) rfl rfl rfl rfl (unhide HA5) (by rw [bytesV_length, bytesV_length, unhide HS64]; rfl) (info30s (unhide HS64)) (bytesV_one _) ?_)
      intro w6 hA6 hg6 hs6
      have HA6 := hide hA6
      have Hb6 := hide ((unhide Hb5).grown hg6 (by have := (unhide Hb5).size; omega) (fun k hk => by simp at hk; have := unhide HWQ; omega))
      have HO6 := hide ((unhide HO5).apart hg6 (unhide HQ))
      clear hA6 hg6 HA5 Hb5 HO5 HQ
      go_wp2_with (refine wpList_app rfl _ _ rfl w.heap.size v l rfl (unhide HO6) ⟨q, 0, none⟩ 64 64 rfl sec (unhide HS64) (fun j hj => by
          rw [Addr.add_mid, Nat.zero_add]; exact (unhide HA6).cell (bytesV_get sec (by rw [unhide HS64]; exact hj))) (by rw [unhide HLL, unhide HS64]; omega) (unhide Hb6).size ?_)
      intro v7 w7 hO7 hg7
      have HO7 := hide hO7
      have Hb7 := hide ((unhide Hb6).trans ((unhide HO6).below hg7 (unhide Hb6).size))
      clear hO7 hg7 HO6 Hb6 HA6
      go_wp2
      go_roundw
      case rel => exact ⟨a + 1, v7, by omega, by go_num, rfl, by rw [unhide HNX]; exact unhide HO7, unhide Hb7⟩
      case measure => simp [intOf]; omega
    · obtain rfl : a = n := by omega
      clear hMr
      go_wp2
      go_ret
      exact ⟨_, rfl, unhide HO, unhide Hb⟩
end
end Go.Proofs.Ytlgknllcnkainaa
