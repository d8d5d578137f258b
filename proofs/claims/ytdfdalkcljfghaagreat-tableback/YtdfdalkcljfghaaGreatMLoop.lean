/-
  Wipe and All of a part.
-/
import Derived.Test.YtdfdalkcljfghaaGreatMOps
namespace Go.Proofs.YtdfdalkcljfghaaGreat
open Go.RowKit

section
variable {δ : Type} {rd : δ → Int → Sec × Int} {er : δ → Int → Int × δ} {d d2 : δ} {x x2 : MX} {part e1 : Int} {a n : Nat}
theorem wipe_blank (h : (readG rd d x.sz part (a : Int)).1 = blankS) : wipeG rd er d x part a (n + 1) = wipeG rd er d x part (a + 1) n := by
  rw [wipeG, if_pos h]
theorem wipe_stop (h : (readG rd d x.sz part (a : Int)).1 ≠ blankS) (h2 : opG 1 er d x part (a : Int) = (e1, d2, x2)) (h3 : e1 ≠ 0) : wipeG rd er d x part a (n + 1) = (e1, d2, x2) := by
  rw [wipeG, if_neg h, h2, if_pos h3]
theorem wipe_on (h : (readG rd d x.sz part (a : Int)).1 ≠ blankS) (h2 : opG 1 er d x part (a : Int) = (0, d2, x2)) : wipeG rd er d x part a (n + 1) = wipeG rd er d2 x2 part (a + 1) n := by
  rw [wipeG, if_neg h, h2, if_neg (by simp)]
end
theorem read_in {d : DM} {sz : List Nat} (hf : sz.sum ≤ d.kept.length) {k a : Nat} (hk : k < sz.length) (ha : a < sz.getD k 0) : readM d sz (k : Int) (a : Int) = (d.now.getD (bnd sz k + a) [], 0) := by
  have h1 := bnd_part hk
  have h2 : hasD d.kept.length ((bnd sz k + a : Nat) : Int) = true := by
    unfold hasD
    rw [decide_eq_true (by omega), decide_eq_true (by omega)]; rfl
  unfold readM readG
  rw [place_some hk ha]
  simp only [ne_eq, not_true_eq_false, if_false]
  unfold readD
  rw [if_pos h2, Int.toNat_natCast]
theorem erase_wait (d : DM) (i : Int) : (eraseD d i).2.wait.length ≤ d.wait.length + 1 := by
  unfold eraseD
  split
  · show d.wait.length ≤ _; omega
  · split
    · show d.wait.length ≤ _; omega
    · split
      · rw [step_wait]; omega
      · show ((stepD d).2.wait ++ [_]).length ≤ _
        rw [step_wait]; simp
theorem program_wait (d : DM) (i : Int) (s : Sec) : (programD d i s).2.wait.length ≤ d.wait.length + 1 := by
  unfold programD
  split
  · show d.wait.length ≤ _; omega
  · split
    · show d.wait.length ≤ _; omega
    · split
      · rw [step_wait]; omega
      · show ((stepD d).2.wait ++ [_]).length ≤ _
        rw [step_wait]; simp
theorem opG_wait (kind : Int) {f : DM → Int → Int × DM} (hf : ∀ d i, (f d i).2.wait.length ≤ d.wait.length + 1) (d : DM) (x : MX) (part at_ : Int) : (opG kind f d x part at_).2.1.wait.length ≤ d.wait.length + 1 := by
  unfold opG; split
  · show d.wait.length ≤ _; omega
  · split <;> exact hf _ _

section
variable {F D : List Nat} {w w' : World} {m p : Nat} {x : MX} {d : DM}

set_option maxHeartbeats 1600000 in
set_option maxRecDepth 100000 in
theorem wipe_walk (h : PMap F D w m p d x) (i : Int) (hlen : d.wait.length ≤ 900000) (hop : x.ops.length ≤ 900000) :
    Calls Tryz.prog 148 #[.pointer (some ⟨m, 0, none⟩), .int .i64 i] w fun e w' => e = .returned (.int .i64 (wipeM d x i).1) ∧
      ∃ F' D', PMap F' D' w' m p (wipeM d x i).2.1 (wipeM d x i).2.2 ∧ Turns (F ++ D) (F' ++ D') w w' := by
  have HH := hide (mhas_walk h.map i)
  have HM := hide h
  cases hb : hasD x.sz.length i with
  | false =>
    rw [show wipeM d x i = (71, d, x) by unfold wipeM wipeAll; rw [if_pos hb]]
    rw [hb] at HH
    clear h hb
    go_enter Tryz.func148, Tryz.ntmps148
    go_wp2_with fail
    refine (unhide HH).mono ?_
    rintro e w1 ⟨rfl, hw1⟩
    subst w1
    clear HH
    go_wp2
    go_ret
    exact ⟨rfl, F, D, unhide HM, Turns.refl _ _⟩
  | true =>
    have HSZ := hide (msize_walk h.map i)
    obtain ⟨k, rfl, hk⟩ := hasD_nat hb
    have hres : wipeM d x (k : Int) = wipeG readD eraseD d x (k : Int) 0 (x.sz.getD k 0) := by
      unfold wipeM wipeAll
      rw [if_neg (by rw [hb]; decide), size_some hk]
    rw [hres]
    rw [hb] at HH
    rw [size_some hk] at HSZ
    have hn : x.sz.getD k 0 ≤ 4096 := Nat.le_trans (Nat.le_trans (by omega) (bnd_part hk)) h.map.sum
    obtain ⟨n, hnn⟩ : ∃ n, n = x.sz.getD k 0 := ⟨_, rfl⟩
    rw [← hnn] at hn HSZ ⊢
    obtain ⟨res, hr⟩ : ∃ res, res = wipeG readD eraseD d x (k : Int) 0 n := ⟨_, rfl⟩
    rw [← hr]
    have HR := hide hr
    have HK := hide hk
    have HNN := hide hnn
    clear h hb hres hr hk hnn
    go_enter Tryz.func148, Tryz.ntmps148
    go_wp2_with fail
    refine (unhide HH).mono ?_
    rintro e w1 ⟨rfl, hw1⟩
    subst w1
    clear HH
    go_wp2_with fail
    refine (unhide HSZ).mono ?_
    rintro e w1 ⟨rfl, hb1, hs1⟩
    have HM1 := hide ((unhide HM).below hb1)
    have HT1 : Hid (Turns (F ++ D) (F ++ D) w w1) := hide (Turns.of_below hb1)
    clear hb1 HSZ HM hs1
    go_wp2
    go_loopw [15] (fun ci wr => ∃ (a : Nat) (F1 D1 : List Nat) (d1 : DM) (x1 : MX), a ≤ n ∧ ci = .int .i64 (a : Int) ∧ PMap F1 D1 wr m p d1 x1 ∧ Turns (F ++ D) (F1 ++ D1) w wr ∧ x1.sz = x.sz ∧ d1.wait.length ≤ d.wait.length + a ∧ x1.ops.length ≤ x.ops.length + a ∧
      res = wipeG readD eraseD d1 x1 (k : Int) a (n - a)) (fun ci _ => n - (intOf ci).toNat)
    case atStart => exact ⟨0, F, D, d, x, by omega, rfl, unhide HM1, unhide HT1, rfl, by omega, by omega, unhide HR⟩
    case round =>
      obtain ⟨a, F1, D1, d1, x1, ha, rfl, hM, hT, hsz, hwl, hol, hr⟩ := hrel
      clear HM1 HT1 HR
      by_cases hlt : a < n
      · have hrd : readM d1 x1.sz (k : Int) (a : Int) = (d1.now.getD (bnd x1.sz k + a) [], 0) := read_in hM.fits (by rw [hsz]; exact unhide HK) (by rw [hsz, ← unhide HNN]; exact hlt)
        have hs64 : (d1.now.getD (bnd x1.sz k + a) []).length = 64 := getD_mem64 hM.dev.ok.nowS (by
          have h1 := bnd_part (sz := x1.sz) (k := k) (by rw [hsz]; exact unhide HK)
          have h2 := hM.fits
          rw [hM.dev.ok.now]
          have h3 : a < x1.sz.getD k 0 := by rw [hsz, ← unhide HNN]; exact hlt
          omega)
        generalize d1.now.getD (bnd x1.sz k + a) [] = sec at *
        have HRD := hide (mread_walk hM (k : Int) (a : Int) (by omega))
        rw [hrd] at HRD
        have hrd1 : (readG readD d1 x1.sz (k : Int) (a : Int)).1 = sec := by
          have := congrArg Prod.fst hrd
          exact this
        clear hrd
        have HS64 := hide hs64
        have HM2 := hide hM
        have HT2 := hide hT
        have hna : n - a = (n - (a + 1)) + 1 := by omega
        rw [hna] at hr
        clear hM hT hs64 hna
        rcases Decidable.em (sec = blankS) with hbl | hbl
        · have HR2 : Hid (res = wipeG readD eraseD d1 x1 (k : Int) (a + 1) (n - (a + 1))) := hide (hr.trans (wipe_blank (hrd1.trans hbl)))
          have HE : Hid ((!(sec == blankS)) = false) := hide (by rw [hbl]; decide)
          clear hr hrd1 hbl
          go_wp2_with fail
          refine (unhide HRD).mono ?_
          rintro e w3 ⟨rfl, hb3⟩
          have HM3 := hide ((unhide HM2).below hb3)
          have HT3 := hide ((unhide HT2).then hb3)
          clear hb3 HRD HM2 HT2
          go_wp2_with (refine wpList_alloc 136 136 (bytesV zeroS) rfl rfl alloc136 ?_)
          intro w4 hA4 hb4 hs4
          have HA4 := hide hA4
          have HM4 := hide ((unhide HM3).below hb4)
          have HT4 := hide ((unhide HT3).then hb4)
          have HQ : Hid (∀ j ∈ F1 ++ D1, j ≠ w3.heap.size) := hide (fun j hj e => by have := (unhide HM3).lt j hj; omega)
          have HQ2 : Hid (w.heap.size ≤ w3.heap.size) := hide (unhide HT3).1.size
          clear hA4 hb4 HM3 HT3
          generalize w3.heap.size = q at *
          go_wp2_with (refine wpList_storeAll 136 _ _ q (bytesV sec) (bytesV zeroS) rfl rfl rfl rfl (unhide HA4) (by rw [bytesV_length, bytesV_length, unhide HS64]; rfl) (info136s (unhide HS64)) (bytesV_one _) ?_)
          intro w4b hA4b hg4 hs4b
          have HA4b := hide hA4b
          have HM4b := hide ((unhide HM4).but (But.of_grown (F := [q]) hg4 (by simp)) (fun j hj => by simpa using unhide HQ j hj))
          have HT4b : Hid (Turns (F ++ D) (F1 ++ D1) w w4b) := hide ⟨(unhide HT4).1.trans (But.of_grown (F := [q]) hg4 (by simp)) (fun j hj => .inr (by simp at hj; subst hj; exact unhide HQ2)), (unhide HT4).2⟩
          clear hA4b hg4 HA4 HM4 HT4 HQ HQ2
          go_wp2_with fail
          have hr5 : w4b.rangeAt q 0 (bytesV sec) := (unhide HA4b).range
          refine Flow.wp_region (Flow.VV (fun j => match j with | 0 => .int .i64 0 | 1 => .bool true | 2 => .bool true | 3 => secV sec | 4 => secV blankS | 5 => .bool false | 6 => .bool false | _ => undef)) (fun _ (_ : Unit) w' => Below w4b.heap.size w4b w') () (by kernel_rfl) (by kernel_rfl) (Below.refl _ _).drew ⟨?_, ?_, ?_, ?_, ?_, ?_, ?_, trivial⟩ ?_
          · exact Flow.move (Flow.goes_plain rfl) (fun _ _ _ h => h) (.inl rfl) fun a s w' hs hd => (hs 7 (by kernel_rfl))
          · refine Flow.pure (Flow.goes_plain rfl) (fun _ _ _ h => h) fun a L s w' hC hL hn hs hd => ?_
            skip
            exact ⟨_, op_eql24 rfl (hd 0 25 (by kernel_rfl)) rfl (by decide) w', rfl⟩
          · exact Flow.move (Flow.goes_plain rfl) (fun _ _ _ h => h) (.inl rfl) fun a s w' hs hd => (hd 1 26 (by kernel_rfl))
          · refine Flow.pure (Flow.goes_guard true rfl rfl rfl (by kernel_rfl) (fun _ _ _ h => h)) (fun _ _ _ h => h) fun a L s w' hC hL hn hs hd => ?_
            skip
            exact ⟨_, op_load136 rfl (hs 6 (by kernel_rfl)) (fun j v hj => (hC.cell (p := ⟨q, 0 + j, none⟩) (unhide HA4b).lt).trans (hr5 j v hj)) (unhide HS64), rfl⟩
          · refine Flow.call (Flow.goes_guard true rfl rfl rfl (by kernel_rfl) (fun _ _ _ h => h)) fun a L s0 w' hC hL hn hs hd => ⟨118, #[], op_call118 rfl rfl w', (blank_walk w').mono ?_⟩
            rintro e w'' ⟨rfl, hb⟩
            exact ⟨_, (), rfl, fun _ _ _ h => h, hC.trans (hb.mono hC.size), rfl⟩
          · refine Flow.pure (Flow.goes_guard true rfl rfl rfl (by kernel_rfl) (fun _ _ _ h => h)) (fun _ _ _ h => h) fun a L s w' hC hL hn hs hd => ?_
            skip
            exact ⟨_, op_neq136 rfl (hd 3 28 (by kernel_rfl)) (hd 4 29 (by kernel_rfl)) (unhide HE) (unhide HS64) blankS_len w', rfl⟩
          · refine Flow.pure (Flow.goes_plain rfl) (fun _ _ _ h => h) fun a L s w' hC hL hn hs hd => ?_
            skip
            exact ⟨_, op_pickT rfl (hd 2 27 (by kernel_rfl)) (hd 5 30 (by kernel_rfl)) w', rfl⟩
          · intro L _ w5 hC hL vals hv
            have e6 : vals 6 = .bool false := hv 6 _ 31 rfl rfl
            have HM5 := hide ((unhide HM4b).below hC)
            have HT5 := hide ((unhide HT4b).then hC)
            simp only [Free.putAll, Act.put, List.setIfInBounds_toArray, List.set_cons_succ, List.set_cons_zero, e6]
            clear hL hv e6 hC hr5 HM4b HT4b HA4b
            generalize vals 0 = y0 at *
            generalize vals 1 = y1 at *
            generalize vals 2 = y2 at *
            generalize vals 3 = y3 at *
            generalize vals 4 = y4 at *
            generalize vals 5 = y5 at *
            go_wp2
            go_roundw
            case rel => exact ⟨a + 1, F1, D1, d1, x1, by omega, by go_num, unhide HM5, unhide HT5, hsz, by omega, by omega, unhide HR2⟩
            case measure => simp [intOf]; omega
        · obtain ⟨e1, d2, x2, hop2⟩ : ∃ e1 d2 x2, eraseM d1 x1 (k : Int) (a : Int) = (e1, d2, x2) := ⟨_, _, _, rfl⟩
          have HE : Hid ((!(sec == blankS)) = true) := hide (by simp [hbl])
          have HER : ∀ w1, PMap F1 D1 w1 m p d1 x1 → Hid (Calls Tryz.prog 157 #[.pointer (some ⟨m, 0, none⟩), .int .i64 (k : Int), .int .i64 (a : Int)] w1 fun e w' => e = .returned (.int .i64 e1) ∧ ∃ F' D', PMap F' D' w' m p d2 x2 ∧ Turns (F1 ++ D1) (F' ++ D') w1 w') := fun w1 hm1 => by
            have := merase_walk hm1 (k : Int) (a : Int) (by omega) (by omega) (by omega)
            rw [hop2] at this
            exact hide this
          have hop3 : opG 1 eraseD d1 x1 (k : Int) (a : Int) = (e1, d2, x2) := hop2
          have hsz2 : x2.sz = x.sz := by
            have := opG_sz 1 eraseD d1 x1 (k : Int) (a : Int)
            rw [hop3] at this
            rw [← hsz, ← this]
          have hwl2 : d2.wait.length ≤ d.wait.length + (a + 1) := by
            have := opG_wait 1 erase_wait d1 x1 (k : Int) (a : Int)
            rw [hop3] at this
            simp only at this
            omega
          have hol2 : x2.ops.length ≤ x.ops.length + (a + 1) := by
            have := opG_ops 1 eraseD d1 x1 (k : Int) (a : Int)
            rw [hop3] at this
            simp only at this
            omega
          by_cases h1 : e1 = 0
          · have HR2 : Hid (res = wipeG readD eraseD d2 x2 (k : Int) (a + 1) (n - (a + 1))) := hide (hr.trans (wipe_on (by rw [hrd1]; exact hbl) (by rw [← h1]; exact hop2)))
            clear hr hrd1 hop2 hop3 hbl
            go_wp2_with fail
            refine (unhide HRD).mono ?_
            rintro e w3 ⟨rfl, hb3⟩
            have HM3 := hide ((unhide HM2).below hb3)
            have HT3 := hide ((unhide HT2).then hb3)
            clear hb3 HRD HM2 HT2
            go_wp2_with (refine wpList_alloc 136 136 (bytesV zeroS) rfl rfl alloc136 ?_)
            intro w4 hA4 hb4 hs4
            have HA4 := hide hA4
            have HM4 := hide ((unhide HM3).below hb4)
            have HT4 := hide ((unhide HT3).then hb4)
            have HQ : Hid (∀ j ∈ F1 ++ D1, j ≠ w3.heap.size) := hide (fun j hj e => by have := (unhide HM3).lt j hj; omega)
            have HQ2 : Hid (w.heap.size ≤ w3.heap.size) := hide (unhide HT3).1.size
            clear hA4 hb4 HM3 HT3
            generalize w3.heap.size = q at *
            go_wp2_with (refine wpList_storeAll 136 _ _ q (bytesV sec) (bytesV zeroS) rfl rfl rfl rfl (unhide HA4) (by rw [bytesV_length, bytesV_length, unhide HS64]; rfl) (info136s (unhide HS64)) (bytesV_one _) ?_)
            intro w4b hA4b hg4 hs4b
            have HA4b := hide hA4b
            have HM4b := hide ((unhide HM4).but (But.of_grown (F := [q]) hg4 (by simp)) (fun j hj => by simpa using unhide HQ j hj))
            have HT4b : Hid (Turns (F ++ D) (F1 ++ D1) w w4b) := hide ⟨(unhide HT4).1.trans (But.of_grown (F := [q]) hg4 (by simp)) (fun j hj => .inr (by simp at hj; subst hj; exact unhide HQ2)), (unhide HT4).2⟩
            clear hA4b hg4 HA4 HM4 HT4 HQ HQ2
            go_wp2_with fail
            have hr5 : w4b.rangeAt q 0 (bytesV sec) := (unhide HA4b).range
            refine Flow.wp_region (Flow.VV (fun j => match j with | 0 => .int .i64 0 | 1 => .bool true | 2 => .bool true | 3 => secV sec | 4 => secV blankS | 5 => .bool true | 6 => .bool true | _ => undef)) (fun _ (_ : Unit) w' => Below w4b.heap.size w4b w') () (by kernel_rfl) (by kernel_rfl) (Below.refl _ _).drew ⟨?_, ?_, ?_, ?_, ?_, ?_, ?_, trivial⟩ ?_
            · exact Flow.move (Flow.goes_plain rfl) (fun _ _ _ h => h) (.inl rfl) fun a s w' hs hd => (hs 7 (by kernel_rfl))
            · refine Flow.pure (Flow.goes_plain rfl) (fun _ _ _ h => h) fun a L s w' hC hL hn hs hd => ?_
              skip
              exact ⟨_, op_eql24 rfl (hd 0 25 (by kernel_rfl)) rfl (by decide) w', rfl⟩
            · exact Flow.move (Flow.goes_plain rfl) (fun _ _ _ h => h) (.inl rfl) fun a s w' hs hd => (hd 1 26 (by kernel_rfl))
            · refine Flow.pure (Flow.goes_guard true rfl rfl rfl (by kernel_rfl) (fun _ _ _ h => h)) (fun _ _ _ h => h) fun a L s w' hC hL hn hs hd => ?_
              skip
              exact ⟨_, op_load136 rfl (hs 6 (by kernel_rfl)) (fun j v hj => (hC.cell (p := ⟨q, 0 + j, none⟩) (unhide HA4b).lt).trans (hr5 j v hj)) (unhide HS64), rfl⟩
            · refine Flow.call (Flow.goes_guard true rfl rfl rfl (by kernel_rfl) (fun _ _ _ h => h)) fun a L s0 w' hC hL hn hs hd => ⟨118, #[], op_call118 rfl rfl w', (blank_walk w').mono ?_⟩
              rintro e w'' ⟨rfl, hb⟩
              exact ⟨_, (), rfl, fun _ _ _ h => h, hC.trans (hb.mono hC.size), rfl⟩
            · refine Flow.pure (Flow.goes_guard true rfl rfl rfl (by kernel_rfl) (fun _ _ _ h => h)) (fun _ _ _ h => h) fun a L s w' hC hL hn hs hd => ?_
              skip
              exact ⟨_, op_neq136 rfl (hd 3 28 (by kernel_rfl)) (hd 4 29 (by kernel_rfl)) (unhide HE) (unhide HS64) blankS_len w', rfl⟩
            · refine Flow.pure (Flow.goes_plain rfl) (fun _ _ _ h => h) fun a L s w' hC hL hn hs hd => ?_
              skip
              exact ⟨_, op_pickT rfl (hd 2 27 (by kernel_rfl)) (hd 5 30 (by kernel_rfl)) w', rfl⟩
            · intro L _ w5 hC hL vals hv
              have e6 : vals 6 = .bool true := hv 6 _ 31 rfl rfl
              have HM5 := hide ((unhide HM4b).below hC)
              have HT5 := hide ((unhide HT4b).then hC)
              simp only [Free.putAll, Act.put, List.setIfInBounds_toArray, List.set_cons_succ, List.set_cons_zero, e6]
              clear hL hv e6 hC hr5 HM4b HT4b HA4b
              generalize vals 0 = y0 at *
              generalize vals 1 = y1 at *
              generalize vals 2 = y2 at *
              generalize vals 3 = y3 at *
              generalize vals 4 = y4 at *
              generalize vals 5 = y5 at *
              subst h1
              go_wp2_with fail
              refine (unhide (HER w5 (unhide HM5))).mono ?_
              rintro e w6 ⟨rfl, F', D', hM6, hT6⟩
              have HM6 := hide hM6
              have HT6 := hide ((unhide HT5).trans hT6)
              clear hM6 hT6 HER HM5 HT5
              go_wp2
              go_roundw
              case rel => exact ⟨a + 1, F', D', d2, x2, by omega, by go_num, unhide HM6, unhide HT6, hsz2, hwl2, hol2, unhide HR2⟩
              case measure => simp [intOf]; omega
          · have HR2 : Hid (res = (e1, d2, x2)) := hide (hr.trans (wipe_stop (by rw [hrd1]; exact hbl) hop2 h1))
            clear hr hrd1 hop2 hop3 hbl
            go_wp2_with fail
            refine (unhide HRD).mono ?_
            rintro e w3 ⟨rfl, hb3⟩
            have HM3 := hide ((unhide HM2).below hb3)
            have HT3 := hide ((unhide HT2).then hb3)
            clear hb3 HRD HM2 HT2
            go_wp2_with (refine wpList_alloc 136 136 (bytesV zeroS) rfl rfl alloc136 ?_)
            intro w4 hA4 hb4 hs4
            have HA4 := hide hA4
            have HM4 := hide ((unhide HM3).below hb4)
            have HT4 := hide ((unhide HT3).then hb4)
            have HQ : Hid (∀ j ∈ F1 ++ D1, j ≠ w3.heap.size) := hide (fun j hj e => by have := (unhide HM3).lt j hj; omega)
            have HQ2 : Hid (w.heap.size ≤ w3.heap.size) := hide (unhide HT3).1.size
            clear hA4 hb4 HM3 HT3
            generalize w3.heap.size = q at *
            go_wp2_with (refine wpList_storeAll 136 _ _ q (bytesV sec) (bytesV zeroS) rfl rfl rfl rfl (unhide HA4) (by rw [bytesV_length, bytesV_length, unhide HS64]; rfl) (info136s (unhide HS64)) (bytesV_one _) ?_)
            intro w4b hA4b hg4 hs4b
            have HA4b := hide hA4b
            have HM4b := hide ((unhide HM4).but (But.of_grown (F := [q]) hg4 (by simp)) (fun j hj => by simpa using unhide HQ j hj))
            have HT4b : Hid (Turns (F ++ D) (F1 ++ D1) w w4b) := hide ⟨(unhide HT4).1.trans (But.of_grown (F := [q]) hg4 (by simp)) (fun j hj => .inr (by simp at hj; subst hj; exact unhide HQ2)), (unhide HT4).2⟩
            clear hA4b hg4 HA4 HM4 HT4 HQ HQ2
            go_wp2_with fail
            have hr5 : w4b.rangeAt q 0 (bytesV sec) := (unhide HA4b).range
            refine Flow.wp_region (Flow.VV (fun j => match j with | 0 => .int .i64 0 | 1 => .bool true | 2 => .bool true | 3 => secV sec | 4 => secV blankS | 5 => .bool true | 6 => .bool true | _ => undef)) (fun _ (_ : Unit) w' => Below w4b.heap.size w4b w') () (by kernel_rfl) (by kernel_rfl) (Below.refl _ _).drew ⟨?_, ?_, ?_, ?_, ?_, ?_, ?_, trivial⟩ ?_
            · exact Flow.move (Flow.goes_plain rfl) (fun _ _ _ h => h) (.inl rfl) fun a s w' hs hd => (hs 7 (by kernel_rfl))
            · refine Flow.pure (Flow.goes_plain rfl) (fun _ _ _ h => h) fun a L s w' hC hL hn hs hd => ?_
              skip
              exact ⟨_, op_eql24 rfl (hd 0 25 (by kernel_rfl)) rfl (by decide) w', rfl⟩
            · exact Flow.move (Flow.goes_plain rfl) (fun _ _ _ h => h) (.inl rfl) fun a s w' hs hd => (hd 1 26 (by kernel_rfl))
            · refine Flow.pure (Flow.goes_guard true rfl rfl rfl (by kernel_rfl) (fun _ _ _ h => h)) (fun _ _ _ h => h) fun a L s w' hC hL hn hs hd => ?_
              skip
              exact ⟨_, op_load136 rfl (hs 6 (by kernel_rfl)) (fun j v hj => (hC.cell (p := ⟨q, 0 + j, none⟩) (unhide HA4b).lt).trans (hr5 j v hj)) (unhide HS64), rfl⟩
            · refine Flow.call (Flow.goes_guard true rfl rfl rfl (by kernel_rfl) (fun _ _ _ h => h)) fun a L s0 w' hC hL hn hs hd => ⟨118, #[], op_call118 rfl rfl w', (blank_walk w').mono ?_⟩
              rintro e w'' ⟨rfl, hb⟩
              exact ⟨_, (), rfl, fun _ _ _ h => h, hC.trans (hb.mono hC.size), rfl⟩
            · refine Flow.pure (Flow.goes_guard true rfl rfl rfl (by kernel_rfl) (fun _ _ _ h => h)) (fun _ _ _ h => h) fun a L s w' hC hL hn hs hd => ?_
              skip
              exact ⟨_, op_neq136 rfl (hd 3 28 (by kernel_rfl)) (hd 4 29 (by kernel_rfl)) (unhide HE) (unhide HS64) blankS_len w', rfl⟩
            · refine Flow.pure (Flow.goes_plain rfl) (fun _ _ _ h => h) fun a L s w' hC hL hn hs hd => ?_
              skip
              exact ⟨_, op_pickT rfl (hd 2 27 (by kernel_rfl)) (hd 5 30 (by kernel_rfl)) w', rfl⟩
            · intro L _ w5 hC hL vals hv
              have e6 : vals 6 = .bool true := hv 6 _ 31 rfl rfl
              have HM5 := hide ((unhide HM4b).below hC)
              have HT5 := hide ((unhide HT4b).then hC)
              simp only [Free.putAll, Act.put, List.setIfInBounds_toArray, List.set_cons_succ, List.set_cons_zero, e6]
              clear hL hv e6 hC hr5 HM4b HT4b HA4b
              generalize vals 0 = y0 at *
              generalize vals 1 = y1 at *
              generalize vals 2 = y2 at *
              generalize vals 3 = y3 at *
              generalize vals 4 = y4 at *
              generalize vals 5 = y5 at *
              go_wp2_with fail
              refine (unhide (HER w5 (unhide HM5))).mono ?_
              rintro e w6 ⟨rfl, F', D', hM6, hT6⟩
              have HM6 := hide hM6
              have HT6 := hide ((unhide HT5).trans hT6)
              clear hM6 hT6 HER HM5 HT5
              go_wp2
              go_ret
              rw [unhide HR2]
              exact ⟨rfl, F', D', unhide HM6, unhide HT6⟩
      · obtain rfl : a = n := by omega
        rw [Nat.sub_self, wipeG] at hr
        have HR2 := hide hr
        have HM2 := hide hM
        have HT2 := hide hT
        clear hr hM hT
        go_wp2
        go_ret
        rw [unhide HR2]
        exact ⟨rfl, F1, D1, unhide HM2, unhide HT2⟩

theorem Own.apart {B q : Nat} {w w' : World} {v : Value} {l : List UInt8} (h : Own B w v l) (hg : w.grownBy w' (some q)) (hq : ∀ k ∈ v.ownBlock.toList, k ≠ q) : Own B w' v l :=
  owns_same h fun k hk => hg.block k ((h.block (g := k) (by simpa using hk)).2.1) (by simpa using hq k hk)
theorem some_len {d : DM} (hok : d.Ok) {sz : List Nat} (hf : sz.sum ≤ d.kept.length) {k : Nat} (hk : k < sz.length) : ∀ n, n ≤ sz.getD k 0 → (someG readD d sz (k : Int) n).length = n * 64
  | 0, _ => by rw [someG_zero]; rfl
  | n + 1, h => by
    have h1 := bnd_part hk
    have hr := read_in hf hk (a := n) (by omega)
    rw [someG_succ, List.length_append, some_len hok hf hk n (by omega)]
    have h2 : ((readG readD d sz (k : Int) ((n : Nat) : Int)).1).length = 64 := by
      rw [show readG readD d sz (k : Int) ((n : Nat) : Int) = _ from hr]
      exact getD_mem64 hok.nowS (by rw [hok.now]; omega)
    omega

end
end Go.Proofs.YtdfdalkcljfghaaGreat
