/-
  FlashSure: the walk.
-/
import Derived.Test.YtebahemgbpjldaaSure
namespace Go.Proofs.Ytebahemgbpjldaa
open Go.RowKit
namespace flashSure

set_option maxHeartbeats 6400000 in
set_option maxRecDepth 100000 in
theorem main (a1 : Option Addr) (len1 cap1 : Nat) (a2 : Option Addr) (len2 cap2 : Nat) (ak : Option Addr) (lenk capk : Nat) (h1 : len1 ≤ 60) (h2 : len2 ≤ 60) (h3 : lenk ≤ 100) (bs : List UInt8) (w : World)
    (hA1 : Acts w.heap.size w a1 len1) (hA2 : Acts w.heap.size w a2 len2) (hB : RowV w.heap.size w (.slice ak lenk capk) bs) :
    Calls Try.prog 5 #[.agg #[.slice a1 len1 cap1, .slice a2 len2 cap2], .slice ak lenk capk] w fun e w' => e = .returned (.bool true) ∧ Below w.heap.size w w' := by
  have HACT1 := hide hA1
  have HACT2 := hide hA2
  have HB := hide hB
  have HBL : Hid (bs.length = lenk) := hide (by obtain ⟨_, _, _, e, _, _, _, hr⟩ := hB; cases e; exact hr.1)
  clear hA1 hA2 hB
  obtain ⟨AA, hAA⟩ : ∃ AA : List Value, AA = [.slice a1 len1 cap1, .slice a2 len2 cap2] := ⟨_, rfl⟩
  have HAA : Hid (AA[0]? = some (.slice a1 len1 cap1) ∧ AA[1]? = some (.slice a2 len2 cap2)) := hide (by rw [hAA]; exact ⟨rfl, rfl⟩)
  have HA9 := hide hAA
  clear hAA
  go_enter Try.func5, Try.ntmps5
  go_wp2_with (refine wpList_box 58 _ [.slice a1 len1 cap1, .slice a2 len2 cap2] rfl rfl rfl ?_)
  intro w0 hA0 hb0 hs0
  have HA0 := hide hA0
  have Hb0 := hide hb0
  clear hA0 hb0
  go_wp2_with fail
  refine (alive_walk w0).mono ?_
  rintro e w1 ⟨rfl, hb1⟩
  have HA1 := hide ((unhide HA0).below hb1)
  have Hb1 := hide ((unhide Hb0).trans (hb1.mono (unhide Hb0).size))
  have hcb0 := (unhide HA1).cell (i := 0) rfl
  have hcb1 := (unhide HA1).cell (i := 1) rfl
  clear hb1 HA0 Hb0
  go_wp2_with fail
  refine (new_walk 12 1000 w1).mono ?_
  rintro e w2 ⟨F, p, rfl, hD, hF, hb⟩
  have hs1 := (unhide Hb1).size
  have HS2 : Hid (Solo w.heap.size F [(w.heap.size, AA)] w2 p (newD 12 1000)) := hide
    { dev := hD, hF := fun k hk => Nat.le_trans hs1 (hF k hk), keep := fun x hx => by
        simp at hx
        subst hx
        exact ⟨by rw [unhide HA9]; exact (unhide HA1).below hb, fun e => by have h4 := hF _ e; have h5 := (unhide HA1).lt; omega, Nat.le_refl _⟩,
      nodup := by simp, size := Nat.le_trans hs1 hb.size }
  have Hb2 := hide ((unhide Hb1).trans (hb.mono hs1))
  have HO2 := hide One.new
  clear hD hF hb Hb1 hs1 HA1 hcb0 hcb1 HA9
  generalize newD 12 1000 = d at *
  have hcb0 := ((unhide HS2).get (i := 0) rfl).cell (i := 0) (unhide HAA).1
  go_wp2
  go_loopw [39] (fun ci wr => ∃ (j : Nat) (F : List Nat) (d : DM), j ≤ len1 ∧ ci = .int .i64 (j : Int) ∧ Solo w.heap.size F [(w.heap.size, AA)] wr p d ∧ One j d ∧ Below w.heap.size w wr) (fun ci _ => len1 - (intOf ci).toNat)
  case atStart => exact ⟨0, F, d, by omega, rfl, unhide HS2, unhide HO2, unhide Hb2⟩
  case round =>
    clear HS2 HO2 Hb2 hcb0
    obtain ⟨j, F, d, hj, rfl, hS, hO, hb⟩ := hrel
    have hN := hS.size
    have HSO := hide hS
    have HO := hide hO
    have Hb := hide hb
    clear hS hO
    by_cases hlt : j < len1
    · obtain ⟨ba, off, kd, pl, v, ka, kl, kc, rfl, hbN, c0, c1, c2, c3, hpl, hkk⟩ := ((unhide HACT1).below hb) j hlt
      clear hb
      have hbl : ∀ C, Below wr.heap.size wr (wr.alloc (.cells C 42)) := fun C => (Below.refl _ _).alloc (Nat.le_refl _) _
      have HP0 : Hid (∀ C, Solo w.heap.size F [(w.heap.size, AA)] (wr.alloc (.cells C 42)) p d) := hide (fun C => (unhide HSO).below (hbl C))
      have Hb0 : Hid (∀ C, Below w.heap.size w (wr.alloc (.cells C 42))) := hide (fun C => (unhide Hb).trans ((hbl C).mono hN))
      have HA0 : Hid (Arr (wr.alloc (.cells #[.int .i64 kd, .int .i64 pl, .int .u8 ((v.toNat : Nat) : Int), .slice ka kl kc] 42)) wr.heap.size [.int .i64 kd, .int .i64 pl, .int .u8 ((v.toNat : Nat) : Int), .slice ka kl kc]) := hide ⟨_, _, heap_alloc_new wr _, rfl⟩
      have HQ0 : Hid (wr.heap.size ∉ F ∧ w.heap.size ≤ wr.heap.size) := hide ⟨fun e => by have := (unhide HSO).dev.lt _ e; omega, hN⟩
      have HWL : Hid (d.wait.length ≤ 1000000) := hide (by have := (unhide HO).wait; omega)
      clear hbl hkk hN HSO Hb hpl
      obtain ⟨sb, hsb⟩ : ∃ sb, sb = wr.heap.size := ⟨_, rfl⟩
      by_cases hk1 : kd = 1
      · subst hk1
        go_wp2_with fail
        have HS1 := hide (unhide HP0 #[.int .i64 1, .int .i64 pl, .int .u8 ((v.toNat : Nat) : Int), .slice ka kl kc])
        have Hb1 := hide (unhide Hb0 #[.int .i64 1, .int .i64 pl, .int .u8 ((v.toNat : Nat) : Int), .slice ka kl kc])
        clear HP0 Hb0 c0 c1 c2 c3
        rw [← hsb] at HA0 HQ0 ⊢
        generalize wr.alloc (.cells #[.int .i64 1, .int .i64 pl, .int .u8 ((v.toNat : Nat) : Int), .slice ka kl kc] 42) = w1 at *
        clear hsb
        refine (erase_walk (unhide HS1).dev pl (unhide HWL)).mono ?_
        rintro e w2 ⟨rfl, F3, hD2, hT2⟩
        have hp2 := (unhide HS1).turn hT2 hD2
        have HS3 := hide hp2.1
        have Hb3 := hide ((unhide Hb1).trans hp2.2)
        have HO3 := hide ((unhide HO).after (erase_after (unhide HO).ok (unhide HO).budget pl))
        clear hD2 hT2 hp2 HS1 Hb1 HO HA0 HQ0 HWL
        generalize (eraseD d pl).1 = E at *
        generalize (eraseD d pl).2 = d3 at *
        go_wp2_with fail
        go_roundw
        case rel => exact ⟨j + 1, F3, d3, by omega, by go_num, unhide HS3, unhide HO3, unhide Hb3⟩
        case measure => simp [intOf]; omega
      · skip
        go_wp2_with fail
        have HS1 := hide (unhide HP0 #[.int .i64 kd, .int .i64 pl, .int .u8 ((v.toNat : Nat) : Int), .slice ka kl kc])
        have Hb1 := hide (unhide Hb0 #[.int .i64 kd, .int .i64 pl, .int .u8 ((v.toNat : Nat) : Int), .slice ka kl kc])
        clear HP0 Hb0 c0 c1 c2 c3
        rw [← hsb] at HA0 HQ0 ⊢
        generalize wr.alloc (.cells #[.int .i64 kd, .int .i64 pl, .int .u8 ((v.toNat : Nat) : Int), .slice ka kl kc] 42) = w1 at *
        clear hsb
        refine Flow.wp_region (Flow.VV (fun j => match j with | 0 => .pointer (some ⟨p, 0, none⟩) | 1 => .pointer (some ⟨sb, 1, none⟩) | 2 => .int .i64 pl | 3 => .pointer (some ⟨sb, 2, none⟩) | 4 => .int .u8 ((v.toNat : Nat) : Int) | 5 => secV (fullS v) | 6 => .int .i64 (programD d pl (fullS v)).1 | _ => undef)) (Flow.two 6 (fun _ w' => Below w1.heap.size w1 w') (fun _ w' => ∃ F2, Solo w.heap.size F2 [(w.heap.size, AA)] w' p (programD d pl (fullS v)).2 ∧ Below w.heap.size w1 w' ∧ Arr w' sb [.int .i64 kd, .int .i64 pl, .int .u8 ((v.toNat : Nat) : Int), .slice ka kl kc] ∧ sb ∉ F2)) () (by kernel_rfl) (by kernel_rfl) (by unfold Flow.two; simp; exact (Below.refl _ w1).drew) ⟨?_, ?_, ?_, ?_, ?_, ?_, ?_, trivial⟩ ?_
        · exact Flow.move (Flow.goes_plain rfl) (Flow.two.upd (by decide)) (.inl rfl) fun a s w' hs hd => (hs 5 (by kernel_rfl))
        · refine Flow.pure (Flow.goes_plain rfl) (Flow.two.upd (by decide)) fun a L s w' hC hL hn hs hd => ?_
          skip
          exact ⟨_, op_f42_1 rfl (hs 7 (by kernel_rfl)) w', rfl⟩
        · refine Flow.pure (Flow.goes_plain rfl) (Flow.two.upd (by decide)) fun a L s w' hC hL hn hs hd => ?_
          have hA := hC.pre (hn.after 6 (by kernel_rfl))
          exact ⟨_, op_load3 rfl (hd 1 51 (by kernel_rfl)) ((hA.cell (p := ⟨sb, 1, none⟩) (unhide HA0).lt).trans ((unhide HA0).cell (i := 1) rfl)), rfl⟩
        · refine Flow.pure (Flow.goes_plain rfl) (Flow.two.upd (by decide)) fun a L s w' hC hL hn hs hd => ?_
          skip
          exact ⟨_, op_f42_2 rfl (hs 7 (by kernel_rfl)) w', rfl⟩
        · refine Flow.pure (Flow.goes_plain rfl) (Flow.two.upd (by decide)) fun a L s w' hC hL hn hs hd => ?_
          have hA := hC.pre (hn.after 6 (by kernel_rfl))
          exact ⟨_, op_load5 rfl (hd 3 53 (by kernel_rfl)) ((hA.cell (p := ⟨sb, 2, none⟩) (unhide HA0).lt).trans ((unhide HA0).cell (i := 2) rfl)), rfl⟩
        · refine Flow.call (Flow.goes_plain rfl) fun a L s0 w' hC hL hn hs hd => ⟨20, #[.int .u8 ((v.toNat : Nat) : Int)], op_call20 (v0 := .int .u8 ((v.toNat : Nat) : Int)) rfl (hd 4 54 (by kernel_rfl)) rfl w', (full_walk v w').mono ?_⟩
          rintro e w'' ⟨rfl, hb⟩
          have hA := hC.pre (hn.after 6 (by kernel_rfl))
          exact ⟨_, (), rfl, fun _ _ _ h => h, Flow.two.put (by decide) (hn.after 6 (by kernel_rfl)) (hA.trans (hb.mono hA.size)), rfl⟩
        · refine Flow.call (Flow.goes_plain rfl) fun a L s0 w' hC hL hn hs hd => ⟨12, #[.pointer (some ⟨p, 0, none⟩), .int .i64 pl, secV (fullS v)], op_call12 (v0 := .pointer (some ⟨p, 0, none⟩)) (v1 := .int .i64 pl) (v2 := secV (fullS v)) rfl (hd 0 50 (by kernel_rfl)) (hd 2 52 (by kernel_rfl)) (hd 5 55 (by kernel_rfl)) rfl w', ?_⟩
          have hA := hC.pre hL
          refine (program_walk ((unhide HS1).dev.below hA) pl (fullS v) (fullS_len v) (unhide HWL)).mono ?_
          rintro e w'' ⟨rfl, F2, hD2, hT2⟩
          have hp2 := ((unhide HS1).below hA).turn hT2 hD2
          have ha2 := hT2.keepArr ((unhide HA0).below hA) (unhide HQ0).1
          exact ⟨_, (), rfl, fun _ _ _ h => h, Flow.two.post ⟨F2, hp2.1, (hA.mono (unhide HS1).size).trans hp2.2, ha2.1, ha2.2⟩, rfl⟩
        · intro L _ w2 hC hL vals hv
          obtain ⟨F3, hS3, hb3, _, _⟩ := hC.end (hL 6 (by decide))
          simp only [Free.putAll, Act.put, List.setIfInBounds_toArray, List.set_cons_succ, List.set_cons_zero]
          have HS3 := hide hS3
          have Hb3 := hide ((unhide Hb1).trans hb3)
          have HO3 := hide ((unhide HO).after (program_after (unhide HO).ok (unhide HO).budget pl (fullS_len v)))
          clear hS3 hb3 hv hL hC HS1 Hb1 HO HA0 HQ0 HWL
          generalize (programD d pl (fullS v)).2 = d3 at *
          generalize vals 0 = y0 at *
          generalize vals 1 = y1 at *
          generalize vals 2 = y2 at *
          generalize vals 3 = y3 at *
          generalize vals 4 = y4 at *
          generalize vals 5 = y5 at *
          generalize vals 6 = y6 at *
          go_wp2_with fail
          go_roundw
          case rel => exact ⟨j + 1, F3, d3, by omega, by go_num, unhide HS3, unhide HO3, unhide Hb3⟩
          case measure => simp [intOf]; omega
    · clear hb HACT1
      have hsy := sync_walk (unhide HSO).dev (by have := (unhide HO).wait; omega)
      rw [(unhide HO).sync] at hsy
      have HSY := hide hsy
      clear hsy
      go_wp2_with fail
      refine (unhide HSY).mono ?_
      rintro e w2 ⟨rfl, F2, hD2, hT2⟩
      have hp2 := (unhide HSO).turn hT2 hD2
      have HS2 := hide hp2.1
      have Hb2 := hide ((unhide Hb).trans hp2.2)
      have HT2 := hide (unhide HO).two
      clear hD2 hT2 hp2 HSO Hb HO HSY
      generalize keepD d = d0 at *
      have hwz : Hid (d0.wait.length = 0) := hide (Nat.le_zero.1 (unhide HT2).wait)
      have HWG := hide (waiting_walk (unhide HS2).dev)
      rw [unhide hwz] at HWG
      clear hwz
      go_wp2_with fail
      refine (unhide HWG).mono ?_
      rintro e wx ⟨rfl, hwx⟩
      subst wx
      clear HWG
      obtain ⟨z1, hz1⟩ : ∃ z, z = zs59 := ⟨_, rfl⟩
      obtain ⟨z2, hz2⟩ : ∃ z, z = zs60 := ⟨_, rfl⟩
      have HZ1 := hide hz1
      have HZ2 := hide hz2
      have HI1 : Hid ((Try.prog.info? 59).map (·.size) = some z1.length ∧ ∀ v ∈ z1, v.oneCell' = true) := hide (by rw [hz1]; exact ⟨info59, secsV_one _⟩)
      have HI2 : Hid ((Try.prog.info? 60).map (·.size) = some z2.length ∧ ∀ v ∈ z2, v.oneCell' = true) := hide (by rw [hz2]; exact ⟨info60, intsV_one _⟩)
      clear hz1 hz2
      go_wp2_with (first
        | refine wpList_build 59 _ z1 [] rfl rfl rfl (by rw [unhide HZ1]; exact built59) ?_
        | refine wpList_build 60 _ z2 [] rfl rfl rfl (by rw [unhide HZ2]; exact built60) ?_
        | refine wpList_alloc 59 59 z1 rfl rfl (by rw [unhide HZ1]; exact alloc59) ?_)
      intro w3 hA3 hb3 hs3
      have HS3 := hide ((unhide HS2).new hb3 hA3)
      have Hb3 := hide ((unhide Hb2).trans (hb3.mono (unhide HS2).size))
      clear hA3 hb3 HS2 Hb2
      obtain ⟨q1, hq1⟩ : ∃ q1, q1 = w2.heap.size := ⟨_, rfl⟩
      rw [← hq1] at HS3 hs3 ⊢
      clear hq1
      go_wp2_with (refine wpList_alloc 60 60 z2 rfl rfl (by rw [unhide HZ2]; exact alloc60) ?_)
      intro w4 hA4 hb4 hs4
      have hb4' : Below w3.heap.size w3 w4 := by rw [hs3]; exact hb4
      have hA4' : Arr w4 w3.heap.size z2 := by rw [hs3]; exact hA4
      have HS4 := hide ((unhide HS3).new hb4' hA4')
      have Hb4 := hide ((unhide Hb3).trans (hb4'.mono (unhide HS3).size))
      clear hA4 hb4 hA4' hb4' HS3 Hb3
      rw [hs3] at HS4
      clear hs3
      generalize q1 + 1 = q2 at *
      go_wp2_with (refine wpList_storeAll 59 _ _ q1 z1 z1 rfl rfl rfl rfl ((unhide HS4).get (i := 1) rfl) rfl (unhide HI1).1 (unhide HI1).2 ?_)
      intro w5 hA5 hg5 hs5
      have hp5 := (unhide HS4).set (i := 1) rfl hg5 hA5
      have HS5 := hide hp5.1
      have Hb5 := hide ((unhide Hb4).trans hp5.2)
      clear hA5 hg5 hp5 HS4 Hb4
      go_wp2_with (refine wpList_storeAll 60 _ _ q2 z2 z2 rfl rfl rfl rfl ((unhide HS5).get (i := 2) rfl) rfl (unhide HI2).1 (unhide HI2).2 ?_)
      intro w6 hA6 hg6 hs6
      have hp6 := (unhide HS5).set (i := 2) rfl hg6 hA6
      have HS6 : Hid (Solo w.heap.size F2 [(w.heap.size, AA), (q1, secsV (List.replicate 12 zeroS)), (q2, intsV (List.replicate 12 0))] w6 p d0) := hide (by
        have := hp6.1
        rw [unhide HZ1, unhide HZ2] at this
        exact this)
      have Hb6 := hide ((unhide Hb5).trans hp6.2)
      clear hA6 hg6 hp6 HS5 Hb5 HI1 HI2 HZ1 HZ2
      go_wp2
      go_loopw [68] (fun ci wr => ∃ (i : Nat) (ss : List Sec) (ws : List Nat), i ≤ 12 ∧ ci = .int .i64 (i : Int) ∧ Solo w.heap.size F2 [(w.heap.size, AA), (q1, secsV ss), (q2, intsV ws)] wr p d0 ∧ ss.length = 12 ∧ (∀ s ∈ ss, s.length = 64) ∧ ws.length = 12 ∧ (∀ m, m < i → ss.getD m [] = d0.now.getD m [] ∧ ws.getD m 0 = d0.wear.getD m 0) ∧ Below w.heap.size w wr) (fun ci _ => 12 - (intOf ci).toNat)
      case atStart => exact ⟨0, _, _, by omega, rfl, unhide HS6, by simp, fun s hs => by rw [(List.mem_replicate.1 hs).2]; exact zeroS_len, by simp, fun m hm => absurd hm (by omega), unhide Hb6⟩
      case round =>
        clear HS6 Hb6
        obtain ⟨i, ss, ws, hi, rfl, hS, hsl, hs64, hwl, hpre, hb⟩ := hrel
        have HSO := hide hS
        have Hb := hide hb
        have HFS := hide (And.intro hsl (And.intro hs64 (And.intro hwl hpre)))
        clear hS hb hsl hs64 hwl hpre
        by_cases hilt : i < 12
        · have hhas : hasD d0.kept.length (i : Int) = true := by rw [(unhide HT2).len]; simp [hasD]; omega
          have HRD : Hid (readD d0 (i : Int) = (d0.now.getD i [], 0)) := hide (by unfold readD; rw [if_pos hhas]; rfl)
          have HWD : Hid (wearD d0 (i : Int) = d0.wear.getD i 0) := hide (by unfold wearD; rw [if_pos hhas]; rfl)
          have HRL : Hid ((d0.now.getD i []).length = 64) := hide (getD_mem64 (unhide HT2).ok.nowS (by rw [(unhide HT2).ok.now, (unhide HT2).len]; exact hilt))
          have HRW := hide (read_walk (unhide HSO).dev (i : Int))
          rw [unhide HRD] at HRW
          clear hhas HRD
          obtain ⟨xs, hxs⟩ : ∃ xs, xs = d0.now.getD i [] := ⟨_, rfl⟩
          rw [← hxs] at HRW HRL
          have HXS := hide hxs
          clear hxs
          go_wp2_with fail
          refine (unhide HRW).mono ?_
          rintro e w2 ⟨rfl, hb2⟩
          have HS2 := hide ((unhide HSO).below hb2)
          have Hb2 := hide ((unhide Hb).trans (hb2.mono (unhide HSO).size))
          have hq1 := (unhide HS2).get (i := 1) rfl
          have HTH := hide (hq1.secThere (unhide HFS).2.1 (i := i) (by rw [(unhide HFS).1]; exact hilt))
          have HSE := hide (hq1.secSet (unhide HFS).2.1 (i := i) (by rw [(unhide HFS).1]; exact hilt) (unhide HRL))
          clear hb2 hq1 HRW HSO Hb
          go_wp2_with (refine wpList_store_mid rfl 26 _ _ rfl q1 (i * 64) (bytesV xs).toArray rfl rfl (by simpa [bytesV_length, unhide HRL] using unhide HTH) (by simpa [bytesV_length, unhide HRL] using info26) (all_oneCell_toArray (bytesV_one _)) ?_)
          have hp3 := (unhide HS2).set (i := 1) rfl (setCells_grown q1 (bytesV xs) (i * 64) w2) (unhide HSE)
          have HS3 := hide hp3.1
          have Hb3 := hide ((unhide Hb2).trans hp3.2)
          clear hp3 HS2 Hb2 HTH HSE
          have HRF : Hid ((bytesV xs).toArray.toList = bytesV xs) := hide (by simp)
          try rw [unhide HRF]
          generalize w2.setCells q1 (i * 64) (bytesV xs) = w3 at *
          have HWW := hide (wear_walk (unhide HS3).dev (i : Int))
          rw [unhide HWD] at HWW
          have hcw := ((unhide HS3).get (i := 2) rfl).cell (intsV_get ws (i := i) (by rw [(unhide HFS).2.2.1]; exact hilt))
          have hfw := ((unhide HS3).get (i := 2) rfl).free i
          have hset := ((unhide HS3).get (i := 2) rfl).set i (.int .i64 ((d0.wear.getD i 0 : Nat) : Int))
          rw [intsV_set] at hset
          have hp4 := (unhide HS3).set (i := 2) rfl (set_grown w3 q2 i _) hset
          have HS4 := hide hp4.1
          have Hb4 := hide ((unhide Hb3).trans hp4.2)
          clear hset hp4 HS3 Hb3 HWD
          obtain ⟨c, hc⟩ : ∃ c, c = d0.wear.getD i 0 := ⟨_, rfl⟩
          rw [← hc] at HWW HS4 Hb4
          have HC := hide hc
          clear hc
          generalize ws.getD i 0 = c9 at *
          go_wp2_with fail
          refine (unhide HWW).mono ?_
          rintro e wx ⟨rfl, hwx⟩
          subst wx
          clear HWW
          go_wp2_with fail
          go_roundw
          case rel =>
            obtain ⟨g1, g2, g3, g4⟩ := unhide HFS
            refine ⟨i + 1, ss.set i xs, ws.set i c, by omega, by go_num, unhide HS4, by rw [List.length_set]; exact g1, set_mem g2 _ _ (unhide HRL), by rw [List.length_set]; exact g3, fun m hm => ?_, unhide Hb4⟩
            by_cases e : i = m
            · subst e
              rw [List.getD_eq_getElem?_getD, List.getElem?_set_self (by omega), List.getD_eq_getElem?_getD (l := ws.set i c), List.getElem?_set_self (by omega)]
              exact ⟨unhide HXS, unhide HC⟩
            · rw [List.getD_eq_getElem?_getD, List.getElem?_set_ne e, ← List.getD_eq_getElem?_getD, List.getD_eq_getElem?_getD (l := ws.set i c), List.getElem?_set_ne e, ← List.getD_eq_getElem?_getD]
              exact g4 m (by omega)
          case measure => simp [intOf]; omega
        · obtain rfl : i = 12 := by omega
          obtain ⟨z3, hz3⟩ : ∃ z, z = zs61 := ⟨_, rfl⟩
          have HZ3 := hide hz3
          have HI3 : Hid ((Try.prog.info? 61).map (·.size) = some z3.length ∧ ∀ v ∈ z3, v.oneCell' = true) := hide (by rw [hz3]; exact ⟨info61, boolsV_one _⟩)
          clear hz3
          go_wp2_with (first
            | refine wpList_build 61 _ z3 [] rfl rfl rfl (by rw [unhide HZ3]; exact built61) ?_
            | refine wpList_alloc 61 61 z3 rfl rfl (by rw [unhide HZ3]; exact alloc61) ?_)
          intro w3 hA3 hb3 hs3
          have HS3 := hide ((unhide HSO).new hb3 hA3)
          have Hb3 := hide ((unhide Hb).trans (hb3.mono (unhide HSO).size))
          clear hA3 hb3 HSO Hb
          obtain ⟨q3, hq3⟩ : ∃ q3, q3 = wr.heap.size := ⟨_, rfl⟩
          rw [← hq3] at HS3 hs3 ⊢
          clear hq3
          go_wp2_with (refine wpList_storeAll 61 _ _ q3 z3 z3 rfl rfl rfl rfl ((unhide HS3).get (i := 3) rfl) rfl (unhide HI3).1 (unhide HI3).2 ?_)
          intro w4 hA4 hg4 hs4
          have hp4 := (unhide HS3).set (i := 3) rfl hg4 hA4
          have HS4 : Hid (Solo w.heap.size F2 [(w.heap.size, AA), (q1, secsV ss), (q2, intsV ws), (q3, boolsV (List.replicate 12 false))] w4 p d0) := hide (by
            have := hp4.1
            rw [unhide HZ3] at this
            exact this)
          have Hb4 := hide ((unhide Hb3).trans hp4.2)
          have hcb1 := ((unhide HS4).get (i := 0) rfl).cell (i := 1) (unhide HAA).2
          clear hA4 hg4 hp4 HS3 Hb3 HI3 HZ3
          go_wp2
          go_loopw [89] (fun ci wr => ∃ (j : Nat) (F : List Nat) (d : DM) (ts : List Bool), j ≤ len2 ∧ ci = .int .i64 (j : Int) ∧ Solo w.heap.size F [(w.heap.size, AA), (q1, secsV ss), (q2, intsV ws), (q3, boolsV ts)] wr p d ∧ Two d0 j ts d ∧ Below w.heap.size w wr) (fun ci _ => len2 - (intOf ci).toNat)
          case atStart => exact ⟨0, _, _, _, by omega, rfl, unhide HS4, unhide HT2, unhide Hb4⟩
          case round =>
            clear HS4 Hb4 hcb1 HT2
            obtain ⟨j, F, d, ts, hj, rfl, hS, hO, hb⟩ := hrel
            have hN := hS.size
            have HSO := hide hS
            have HO := hide hO
            have Hb := hide hb
            clear hS hO
            by_cases hlt : j < len2
            · obtain ⟨ba, off, kd, pl, v, ka, kl, kc, rfl, hbN, c0, c1, c2, c3, hpl, hkk⟩ := ((unhide HACT2).below hb) j hlt
              clear hb
              have hbl : ∀ C, Below wr.heap.size wr (wr.alloc (.cells C 42)) := fun C => (Below.refl _ _).alloc (Nat.le_refl _) _
              have HP0 : Hid (∀ C, Solo w.heap.size F [(w.heap.size, AA), (q1, secsV ss), (q2, intsV ws), (q3, boolsV ts)] (wr.alloc (.cells C 42)) p d) := hide (fun C => (unhide HSO).below (hbl C))
              have Hb0 : Hid (∀ C, Below w.heap.size w (wr.alloc (.cells C 42))) := hide (fun C => (unhide Hb).trans ((hbl C).mono hN))
              have HA0 : Hid (Arr (wr.alloc (.cells #[.int .i64 kd, .int .i64 pl, .int .u8 ((v.toNat : Nat) : Int), .slice ka kl kc] 42)) wr.heap.size [.int .i64 kd, .int .i64 pl, .int .u8 ((v.toNat : Nat) : Int), .slice ka kl kc]) := hide ⟨_, _, heap_alloc_new wr _, rfl⟩
              have HQ0 : Hid (wr.heap.size ∉ F ∧ w.heap.size ≤ wr.heap.size) := hide ⟨fun e => by have := (unhide HSO).dev.lt _ e; omega, hN⟩
              have HWL : Hid (d.wait.length ≤ 1000000) := hide (by have := (unhide HO).wait; omega)
              clear hbl hkk hN HSO Hb hpl
              obtain ⟨sb, hsb⟩ : ∃ sb, sb = wr.heap.size := ⟨_, rfl⟩
              by_cases hk1 : kd = 1
              · subst hk1
                go_wp2_with fail
                have HS1 := hide (unhide HP0 #[.int .i64 1, .int .i64 pl, .int .u8 ((v.toNat : Nat) : Int), .slice ka kl kc])
                have Hb1 := hide (unhide Hb0 #[.int .i64 1, .int .i64 pl, .int .u8 ((v.toNat : Nat) : Int), .slice ka kl kc])
                clear HP0 Hb0 c0 c1 c2 c3
                rw [← hsb] at HA0 HQ0 ⊢
                generalize wr.alloc (.cells #[.int .i64 1, .int .i64 pl, .int .u8 ((v.toNat : Nat) : Int), .slice ka kl kc] 42) = w1 at *
                clear hsb
                refine (erase_walk (unhide HS1).dev pl (unhide HWL)).mono ?_
                rintro e w2 ⟨rfl, F3, hD2, hT2⟩
                have hp2 := (unhide HS1).turn hT2 hD2
                have ha2 := hT2.keepArr (unhide HA0) (unhide HQ0).1
                have HS3 := hide hp2.1
                have Hb3 := hide ((unhide Hb1).trans hp2.2)
                have HAF := hide (erase_after (unhide HO).ok (unhide HO).budget pl)
                have HA3 := hide ha2.1
                clear hD2 hT2 hp2 ha2 HS1 Hb1 HA0 HQ0 HWL
                generalize (eraseD d pl) = xx at *
                obtain ⟨E, d3⟩ := xx
                rcases unhide HAF with ⟨he, hd⟩ | ⟨he, hd⟩
                · have he : ¬ E = 0 := he
                  have hd : d3 = d := hd
                  subst hd
                  have HO3 := hide (unhide HO).no
                  clear HAF HO
                  go_wp2_with fail
                  go_roundw
                  case rel => exact ⟨j + 1, F3, d3, ts, by omega, by go_num, unhide HS3, unhide HO3, unhide Hb3⟩
                  case measure => simp [intOf]; omega
                · have he : E = 0 := he
                  subst he
                  obtain ⟨k, hpk, hk12, hTw⟩ := (unhide HO).did hd
                  subst hpk
                  have HO3 := hide hTw
                  have hca1 := (unhide HA3).cell (i := 1) rfl
                  have hqt := (unhide HS3).get (i := 3) rfl
                  have hct := hqt.cell (boolsV_get ts (i := k) (by rw [(unhide HO).tlen]; exact hk12))
                  have hft := hqt.free k
                  have hset := hqt.set k (.bool true)
                  rw [boolsV_set] at hset
                  have hp4 := (unhide HS3).set (i := 3) rfl (set_grown w2 q3 k _) hset
                  have HS4 := hide hp4.1
                  have Hb4 := hide ((unhide Hb3).trans hp4.2)
                  clear HAF HO hTw hqt hset hp4 HS3 Hb3 HA3 hd
                  generalize ts.getD k false = c9 at *
                  go_wp2_with fail
                  go_roundw
                  case rel => exact ⟨j + 1, F3, d3, ts.set k true, by omega, by go_num, unhide HS4, unhide HO3, unhide Hb4⟩
                  case measure => simp [intOf]; omega
              · skip
                go_wp2_with fail
                have HS1 := hide (unhide HP0 #[.int .i64 kd, .int .i64 pl, .int .u8 ((v.toNat : Nat) : Int), .slice ka kl kc])
                have Hb1 := hide (unhide Hb0 #[.int .i64 kd, .int .i64 pl, .int .u8 ((v.toNat : Nat) : Int), .slice ka kl kc])
                clear HP0 Hb0 c0 c1 c2 c3
                rw [← hsb] at HA0 HQ0 ⊢
                generalize wr.alloc (.cells #[.int .i64 kd, .int .i64 pl, .int .u8 ((v.toNat : Nat) : Int), .slice ka kl kc] 42) = w1 at *
                clear hsb
                refine Flow.wp_region (Flow.VV (fun j => match j with | 0 => .pointer (some ⟨p, 0, none⟩) | 1 => .pointer (some ⟨sb, 1, none⟩) | 2 => .int .i64 pl | 3 => .pointer (some ⟨sb, 2, none⟩) | 4 => .int .u8 ((v.toNat : Nat) : Int) | 5 => secV (fullS v) | 6 => .int .i64 (programD d pl (fullS v)).1 | 7 => .int .i64 (programD d pl (fullS v)).1 | _ => undef)) (Flow.two 6 (fun _ w' => Below w1.heap.size w1 w') (fun _ w' => ∃ F2, Solo w.heap.size F2 [(w.heap.size, AA), (q1, secsV ss), (q2, intsV ws), (q3, boolsV ts)] w' p (programD d pl (fullS v)).2 ∧ Below w.heap.size w1 w' ∧ Arr w' sb [.int .i64 kd, .int .i64 pl, .int .u8 ((v.toNat : Nat) : Int), .slice ka kl kc] ∧ sb ∉ F2)) () (by kernel_rfl) (by kernel_rfl) (by unfold Flow.two; simp; exact (Below.refl _ w1).drew) ⟨?_, ?_, ?_, ?_, ?_, ?_, ?_, ?_, trivial⟩ ?_
                · exact Flow.move (Flow.goes_plain rfl) (Flow.two.upd (by decide)) (.inl rfl) fun a s w' hs hd => (hs 5 (by kernel_rfl))
                · refine Flow.pure (Flow.goes_plain rfl) (Flow.two.upd (by decide)) fun a L s w' hC hL hn hs hd => ?_
                  skip
                  exact ⟨_, op_f42_1 rfl (hs 13 (by kernel_rfl)) w', rfl⟩
                · refine Flow.pure (Flow.goes_plain rfl) (Flow.two.upd (by decide)) fun a L s w' hC hL hn hs hd => ?_
                  have hA := hC.pre (hn.after 6 (by kernel_rfl))
                  exact ⟨_, op_load3 rfl (hd 1 101 (by kernel_rfl)) ((hA.cell (p := ⟨sb, 1, none⟩) (unhide HA0).lt).trans ((unhide HA0).cell (i := 1) rfl)), rfl⟩
                · refine Flow.pure (Flow.goes_plain rfl) (Flow.two.upd (by decide)) fun a L s w' hC hL hn hs hd => ?_
                  skip
                  exact ⟨_, op_f42_2 rfl (hs 13 (by kernel_rfl)) w', rfl⟩
                · refine Flow.pure (Flow.goes_plain rfl) (Flow.two.upd (by decide)) fun a L s w' hC hL hn hs hd => ?_
                  have hA := hC.pre (hn.after 6 (by kernel_rfl))
                  exact ⟨_, op_load5 rfl (hd 3 103 (by kernel_rfl)) ((hA.cell (p := ⟨sb, 2, none⟩) (unhide HA0).lt).trans ((unhide HA0).cell (i := 2) rfl)), rfl⟩
                · refine Flow.call (Flow.goes_plain rfl) fun a L s0 w' hC hL hn hs hd => ⟨20, #[.int .u8 ((v.toNat : Nat) : Int)], op_call20 (v0 := .int .u8 ((v.toNat : Nat) : Int)) rfl (hd 4 104 (by kernel_rfl)) rfl w', (full_walk v w').mono ?_⟩
                  rintro e w'' ⟨rfl, hb⟩
                  have hA := hC.pre (hn.after 6 (by kernel_rfl))
                  exact ⟨_, (), rfl, fun _ _ _ h => h, Flow.two.put (by decide) (hn.after 6 (by kernel_rfl)) (hA.trans (hb.mono hA.size)), rfl⟩
                · refine Flow.call (Flow.goes_plain rfl) fun a L s0 w' hC hL hn hs hd => ⟨12, #[.pointer (some ⟨p, 0, none⟩), .int .i64 pl, secV (fullS v)], op_call12 (v0 := .pointer (some ⟨p, 0, none⟩)) (v1 := .int .i64 pl) (v2 := secV (fullS v)) rfl (hd 0 100 (by kernel_rfl)) (hd 2 102 (by kernel_rfl)) (hd 5 105 (by kernel_rfl)) rfl w', ?_⟩
                  have hA := hC.pre hL
                  refine (program_walk ((unhide HS1).dev.below hA) pl (fullS v) (fullS_len v) (unhide HWL)).mono ?_
                  rintro e w'' ⟨rfl, F2, hD2, hT2⟩
                  have hp2 := ((unhide HS1).below hA).turn hT2 hD2
                  have ha2 := hT2.keepArr ((unhide HA0).below hA) (unhide HQ0).1
                  exact ⟨_, (), rfl, fun _ _ _ h => h, Flow.two.post ⟨F2, hp2.1, (hA.mono (unhide HS1).size).trans hp2.2, ha2.1, ha2.2⟩, rfl⟩
                · exact Flow.move (Flow.goes_plain rfl) (Flow.two.upd (by decide)) (.inr rfl) fun a s w' hs hd => (hd 6 106 (by kernel_rfl))
                · intro L _ w2 hC hL vals hv
                  obtain ⟨F3, hS3, hb3, hA3, _⟩ := hC.end (hL 6 (by decide))
                  have e7 : vals 7 = .int .i64 (programD d pl (fullS v)).1 := hv 7 _ 14 rfl rfl
                  simp only [Free.putAll, Act.put, List.setIfInBounds_toArray, List.set_cons_succ, List.set_cons_zero, e7]
                  have HS3 := hide hS3
                  have Hb3 := hide ((unhide Hb1).trans hb3)
                  have HAF := hide (program_after (unhide HO).ok (unhide HO).budget pl (fullS_len v))
                  have HA3 := hide hA3
                  clear hS3 hb3 hA3 hv hL hC e7 HS1 Hb1 HA0 HQ0 HWL
                  generalize (programD d pl (fullS v)) = xx at *
                  obtain ⟨E, d3⟩ := xx
                  generalize vals 0 = y0 at *
                  generalize vals 1 = y1 at *
                  generalize vals 2 = y2 at *
                  generalize vals 3 = y3 at *
                  generalize vals 4 = y4 at *
                  generalize vals 5 = y5 at *
                  generalize vals 6 = y6 at *
                  rcases unhide HAF with ⟨he, hd⟩ | ⟨he, hd⟩
                  · have he : ¬ E = 0 := he
                    have hd : d3 = d := hd
                    subst hd
                    have HO3 := hide (unhide HO).no
                    clear HAF HO
                    go_wp2_with fail
                    go_roundw
                    case rel => exact ⟨j + 1, F3, d3, ts, by omega, by go_num, unhide HS3, unhide HO3, unhide Hb3⟩
                    case measure => simp [intOf]; omega
                  · have he : E = 0 := he
                    subst he
                    obtain ⟨k, hpk, hk12, hTw⟩ := (unhide HO).did hd
                    subst hpk
                    have HO3 := hide hTw
                    have hca1 := (unhide HA3).cell (i := 1) rfl
                    have hqt := (unhide HS3).get (i := 3) rfl
                    have hct := hqt.cell (boolsV_get ts (i := k) (by rw [(unhide HO).tlen]; exact hk12))
                    have hft := hqt.free k
                    have hset := hqt.set k (.bool true)
                    rw [boolsV_set] at hset
                    have hp4 := (unhide HS3).set (i := 3) rfl (set_grown w2 q3 k _) hset
                    have HS4 := hide hp4.1
                    have Hb4 := hide ((unhide Hb3).trans hp4.2)
                    clear HAF HO hTw hqt hset hp4 HS3 Hb3 HA3 hd
                    generalize ts.getD k false = c9 at *
                    go_wp2_with fail
                    go_roundw
                    case rel => exact ⟨j + 1, F3, d3, ts.set k true, by omega, by go_num, unhide HS4, unhide HO3, unhide Hb4⟩
                    case measure => simp [intOf]; omega
            · clear hb HACT2
              have HRW := hide (restart_walk (unhide HSO).dev (unhide HSO).hF (unhide HSO).size ak lenk capk bs ((unhide HB).below (unhide Hb)) (by have := (unhide HO).wait; omega))
              go_wp2_with fail
              refine (unhide HRW).mono ?_
              rintro e w5 ⟨rfl, F5, hD5, hT5⟩
              have hp5 := (unhide HSO).turn hT5 hD5
              have HS5 := hide hp5.1
              have Hb5 := hide ((unhide Hb).trans hp5.2)
              clear hD5 hT5 hp5 HSO Hb HRW HB
              go_wp2
              go_loopw [116] (fun ci wr => ∃ i : Nat, i ≤ 12 ∧ ci = .int .i64 (i : Int) ∧ Solo w.heap.size F5 [(w.heap.size, AA), (q1, secsV ss), (q2, intsV ws), (q3, boolsV ts)] wr p (restartD d bs) ∧ Below w.heap.size w wr) (fun ci _ => 12 - (intOf ci).toNat)
              case atStart => exact ⟨0, by omega, rfl, unhide HS5, unhide Hb5⟩
              case round =>
                clear HS5 Hb5
                obtain ⟨i, hi, rfl, hS, hb⟩ := hrel
                have HSO := hide hS
                have Hb := hide hb
                clear hS hb
                by_cases hilt : i < 12
                · have hlen : (restartD d bs).kept.length = 12 := (layKept_len _ _ _).trans (unhide HO).len
                  have hhas : hasD (restartD d bs).kept.length (i : Int) = true := by rw [hlen]; simp [hasD]; omega
                  have HRD : Hid (readD (restartD d bs) (i : Int) = ((layKept d.kept d.wait bs).getD i [], 0)) := hide (by unfold readD; rw [if_pos hhas]; rfl)
                  have HWD : Hid (wearD (restartD d bs) (i : Int) = d.wear.getD i 0) := hide (by unfold wearD; rw [if_pos hhas]; rfl)
                  have HOK := hide (unhide HSO).dev.ok
                  have HRL : Hid (((layKept d.kept d.wait bs).getD i []).length = 64) := hide (getD_mem64 (unhide HOK).keptS (by show i < (restartD d bs).kept.length; rw [hlen]; exact hilt))
                  have HRW := hide (read_walk (unhide HSO).dev (i : Int))
                  rw [unhide HRD] at HRW
                  obtain ⟨g1, g2, g3, g4⟩ := unhide HFS
                  have hpi := g4 i hilt
                  have HSM := hide ((unhide HO).same_or bs i)
                  rw [← hpi.1] at HSM
                  have HWL2 : Hid (ws.getD i 0 ≤ d.wear.getD i 0) := hide (by rw [hpi.2]; exact (unhide HO).wear i)
                  have HSL : Hid ((ss.getD i []).length = 64) := hide (getD_mem64 g2 (by rw [g1]; exact hilt))
                  have HTL := hide (unhide HO).tlen
                  clear hlen hhas HRD hpi g1 g3 g4 HOK
                  have G2 := hide g2
                  clear g2
                  generalize (layKept d.kept d.wait bs).getD i [] = xs at *
                  go_wp2_with fail
                  refine (unhide HRW).mono ?_
                  rintro e w2 ⟨rfl, hb2⟩
                  have HS2 := hide ((unhide HSO).below hb2)
                  have Hb2 := hide ((unhide Hb).trans (hb2.mono (unhide HSO).size))
                  clear hb2 HRW HSO Hb
                  go_wp2_with (refine wpList_alloc 26 26 (bytesV zeroS) rfl rfl alloc26 ?_)
                  intro w3 hA3 hb3 hs3
                  have HS3 := hide ((unhide HS2).new hb3 hA3)
                  have Hb3 := hide ((unhide Hb2).trans (hb3.mono (unhide HS2).size))
                  clear hA3 hb3 HS2 Hb2
                  obtain ⟨q4, hq4⟩ : ∃ q4, q4 = w2.heap.size := ⟨_, rfl⟩
                  rw [← hq4] at HS3 hs3 ⊢
                  clear hq4
                  go_wp2_with (refine wpList_storeAll 26 _ _ q4 (bytesV xs) (bytesV zeroS) rfl rfl rfl rfl ((unhide HS3).get (i := 4) rfl) (by rw [bytesV_length, bytesV_length, unhide HRL]; rfl) (info26s (unhide HRL)) (bytesV_one _) ?_)
                  intro w4 hA4 hg4 hs4
                  have hp4 := (unhide HS3).set (i := 4) rfl hg4 hA4
                  have HS4 : Hid (Solo w.heap.size F5 [(w.heap.size, AA), (q1, secsV ss), (q2, intsV ws), (q3, boolsV ts), (q4, bytesV xs)] w4 p (restartD d bs)) := hide hp4.1
                  have Hb4 := hide ((unhide Hb3).trans hp4.2)
                  clear hA4 hg4 hp4 HS3 Hb3
                  have hx4 : w4.rangeAt q4 0 (bytesV xs) := ((unhide HS4).get (i := 4) rfl).range
                  have hw4 : w4.rangeAt q1 (i * 64) (bytesV (ss.getD i [])) := ((unhide HS4).get (i := 1) rfl).sec (unhide G2) (by have := (unhide HFS).1; omega)
                  have hc2 : w4.cell? ⟨q2, i, none⟩ = some (.int .i64 ((ws.getD i 0 : Nat) : Int)) := ((unhide HS4).get (i := 2) rfl).cell (intsV_get ws (by have := (unhide HFS).2.2.1; omega))
                  have hc3 : w4.cell? ⟨q3, i, none⟩ = some (.bool (ts.getD i false)) := ((unhide HS4).get (i := 3) rfl).cell (boolsV_get ts (by rw [unhide HTL]; exact hilt))
                  go_wp2_with fail
                  by_cases hxw : xs = ss.getD i []
                  · have HXW := hide hxw
                    clear hxw
                    refine Flow.wp_region (Flow.VV (fun j => match j with | 0 => .int .i64 0 | 1 => .bool false | 2 => .bool false | 3 => .pointer (some ⟨p, 0, none⟩) | 4 => .int .i64 (i : Int) | 5 => .int .i64 ((wearD (restartD d bs) (i : Int) : Nat) : Int) | 6 => .int .i64 (i : Int) | 7 => .pointer (some ⟨q2, i, none⟩) | 8 => .int .i64 ((ws.getD i 0 : Nat) : Int) | 9 => .bool false | 10 => .bool false | 11 => .bool false | 12 => secV xs | 13 => .int .i64 (i : Int) | 14 => .pointer (some ⟨q1, i * 64, none⟩) | 15 => secV (ss.getD i []) | 16 => .bool false | 17 => .bool false | 18 => undef | 19 => undef | 20 => undef | 21 => undef | 22 => undef | 23 => undef | 24 => undef | 25 => undef | 26 => undef | 27 => .bool false | 28 => .bool false | _ => undef)) (fun _ (_ : Unit) w' => w' = w4.drew) () (by kernel_rfl) (by kernel_rfl) rfl ⟨?_, ?_, ?_, ?_, ?_, ?_, ?_, ?_, ?_, ?_, ?_, ?_, ?_, ?_, ?_, ?_, ?_, ?_, ?_, ?_, ?_, ?_, ?_, ?_, ?_, ?_, ?_, ?_, ?_, trivial⟩ ?_
                    · exact Flow.move (Flow.goes_plain rfl) (fun _ _ _ h => h) (.inl rfl) fun a s w' hs hd => (hs 17 (by kernel_rfl))
                    · refine Flow.pure (Flow.goes_plain rfl) (fun _ _ _ h => h) fun a L s w' hC hL hn hs hd => ?_
                      skip
                      exact ⟨_, op_neq27 rfl (hd 0 125 (by kernel_rfl)) rfl (by simp) w', rfl⟩
                    · exact Flow.move (Flow.goes_plain rfl) (fun _ _ _ h => h) (.inl rfl) fun a s w' hs hd => (hd 1 126 (by kernel_rfl))
                    · exact Flow.move (Flow.goes_guard false rfl rfl rfl (by kernel_rfl) (fun _ _ _ h => h)) (fun _ _ _ h => h) (.inl rfl) fun a s w' hs hd => (hs 5 (by kernel_rfl))
                    · exact Flow.move (Flow.goes_guard false rfl rfl rfl (by kernel_rfl) (fun _ _ _ h => h)) (fun _ _ _ h => h) (.inl rfl) fun a s w' hs hd => (hs 15 (by kernel_rfl))
                    · refine Flow.call (Flow.goes_guard false rfl rfl rfl (by kernel_rfl) (fun _ _ _ h => h)) fun a L s0 w' hC hL hn hs hd => ⟨15, #[.pointer (some ⟨p, 0, none⟩), .int .i64 (i : Int)], op_call15 (v0 := .pointer (some ⟨p, 0, none⟩)) (v1 := .int .i64 (i : Int)) rfl (hd 3 128 (by kernel_rfl)) (hd 4 129 (by kernel_rfl)) rfl w', ?_⟩
                      subst hC
                      refine (wear_walk (unhide HS4).dev.drew (i : Int)).mono ?_
                      rintro e w'' ⟨rfl, hw''⟩
                      subst w''
                      exact ⟨_, (), rfl, fun _ _ _ h => h, rfl, rfl⟩
                    · exact Flow.move (Flow.goes_guard false rfl rfl rfl (by kernel_rfl) (fun _ _ _ h => h)) (fun _ _ _ h => h) (.inl rfl) fun a s w' hs hd => (hs 15 (by kernel_rfl))
                    · refine Flow.pure (Flow.goes_guard false rfl rfl rfl (by kernel_rfl) (fun _ _ _ h => h)) (fun _ _ _ h => h) fun a L s w' hC hL hn hs hd => ?_
                      skip
                      exact ⟨_, op_idx60 rfl (hs 9 (by kernel_rfl)) (hd 6 131 (by kernel_rfl)) hilt w', rfl⟩
                    · refine Flow.pure (Flow.goes_guard false rfl rfl rfl (by kernel_rfl) (fun _ _ _ h => h)) (fun _ _ _ h => h) fun a L s w' hC hL hn hs hd => ?_
                      skip
                      exact ⟨_, op_load3 rfl (hd 7 132 (by kernel_rfl)) (by rw [hC]; exact hc2), rfl⟩
                    · refine Flow.pure (Flow.goes_guard false rfl rfl rfl (by kernel_rfl) (fun _ _ _ h => h)) (fun _ _ _ h => h) fun a L s w' hC hL hn hs hd => ?_
                      skip
                      exact ⟨_, op_lss3 rfl (hd 5 130 (by kernel_rfl)) (hd 8 133 (by kernel_rfl)) (decide_eq_false (by have h9 := unhide HWL2; rw [unhide HWD]; omega)) w', rfl⟩
                    · refine Flow.pure (Flow.goes_plain rfl) (fun _ _ _ h => h) fun a L s w' hC hL hn hs hd => ?_
                      skip
                      exact ⟨_, op_pickF rfl (hd 2 127 (by kernel_rfl)) (hd 9 134 (by kernel_rfl)) w', rfl⟩
                    · exact Flow.move (Flow.goes_plain rfl) (fun _ _ _ h => h) (.inl rfl) fun a s w' hs hd => (hd 10 135 (by kernel_rfl))
                    · refine Flow.pure (Flow.goes_guard false rfl rfl rfl (by kernel_rfl) (fun _ _ _ h => h)) (fun _ _ _ h => h) fun a L s w' hC hL hn hs hd => ?_
                      skip
                      exact ⟨_, op_load26 rfl (hs 16 (by kernel_rfl)) (by rw [hC]; exact hx4) (unhide HRL), rfl⟩
                    · exact Flow.move (Flow.goes_guard false rfl rfl rfl (by kernel_rfl) (fun _ _ _ h => h)) (fun _ _ _ h => h) (.inl rfl) fun a s w' hs hd => (hs 15 (by kernel_rfl))
                    · refine Flow.pure (Flow.goes_guard false rfl rfl rfl (by kernel_rfl) (fun _ _ _ h => h)) (fun _ _ _ h => h) fun a L s w' hC hL hn hs hd => ?_
                      skip
                      exact ⟨_, op_idx59 rfl (hs 8 (by kernel_rfl)) (hd 13 138 (by kernel_rfl)) hilt w', rfl⟩
                    · refine Flow.pure (Flow.goes_guard false rfl rfl rfl (by kernel_rfl) (fun _ _ _ h => h)) (fun _ _ _ h => h) fun a L s w' hC hL hn hs hd => ?_
                      skip
                      exact ⟨_, op_load26 rfl (hd 14 139 (by kernel_rfl)) (by rw [hC]; exact hw4) (unhide HSL), rfl⟩
                    · refine Flow.pure (Flow.goes_guard false rfl rfl rfl (by kernel_rfl) (fun _ _ _ h => h)) (fun _ _ _ h => h) fun a L s w' hC hL hn hs hd => ?_
                      skip
                      exact ⟨_, op_neq26 rfl (hd 12 137 (by kernel_rfl)) (hd 15 140 (by kernel_rfl)) (by rw [unhide HXW]; simp) (unhide HRL) (unhide HSL) w', rfl⟩
                    · exact Flow.move (Flow.goes_guard false rfl rfl rfl (by kernel_rfl) (fun _ _ _ h => h)) (fun _ _ _ h => h) (.inl rfl) fun a s w' hs hd => (hd 16 141 (by kernel_rfl))
                    · exact Flow.skip false rfl rfl rfl (by kernel_rfl) (fun _ _ _ h => h) (fun _ _ _ h => h) (fun _ _ => rfl)
                    · exact Flow.skip false rfl rfl rfl (by kernel_rfl) (fun _ _ _ h => h) (fun _ _ _ h => h) (fun _ _ => rfl)
                    · exact Flow.skip false rfl rfl rfl (by kernel_rfl) (fun _ _ _ h => h) (fun _ _ _ h => h) (fun _ _ => rfl)
                    · exact Flow.skip false rfl rfl rfl (by kernel_rfl) (fun _ _ _ h => h) (fun _ _ _ h => h) (fun _ _ => rfl)
                    · exact Flow.skip false rfl rfl rfl (by kernel_rfl) (fun _ _ _ h => h) (fun _ _ _ h => h) (fun _ _ => rfl)
                    · exact skipU false rfl rfl rfl (by kernel_rfl) (fun _ _ _ h => h) (fun _ _ _ h => h) (fun _ _ => rfl)
                    · exact skipU false rfl rfl rfl (by kernel_rfl) (fun _ _ _ h => h) (fun _ _ _ h => h) (fun _ _ => rfl)
                    · exact skipU false rfl rfl rfl (by kernel_rfl) (fun _ _ _ h => h) (fun _ _ _ h => h) (fun _ _ => rfl)
                    · exact Flow.skip false rfl rfl rfl (by kernel_rfl) (fun _ _ _ h => h) (fun _ _ _ h => h) (fun _ _ => rfl)
                    · exact Flow.pure (Flow.goes_guard false rfl rfl rfl (by kernel_rfl) (fun _ _ _ h => h)) (fun _ _ _ h => h) fun a L s w' hC hL hn hs hd => ⟨_, op_pickF (v := .bool false) (y := .const (.bool false)) rfl (hd 17 142 (by kernel_rfl)) rfl w', rfl⟩
                    · refine Flow.pure (Flow.goes_plain rfl) (fun _ _ _ h => h) fun a L s w' hC hL hn hs hd => ?_
                      skip
                      exact ⟨_, op_pickF rfl (hd 11 136 (by kernel_rfl)) (hd 27 152 (by kernel_rfl)) w', rfl⟩
                    · intro L _ w8 hC hL vals hv
                      have e28 : vals 28 = .bool false := hv 28 _ 153 rfl rfl
                      simp only [Free.putAll, Act.put, List.setIfInBounds_toArray, List.set_cons_succ, List.set_cons_zero, e28]
                      have HS8 : Hid (Solo w.heap.size F5 [(w.heap.size, AA), (q1, secsV ss), (q2, intsV ws), (q3, boolsV ts)] w8 p (restartD d bs)) := hide (by
                        rw [hC]
                        have h9 := (unhide HS4).below (Below.refl _ w4).drew
                        refine { h9 with keep := fun x hx => h9.keep x (List.mem_append_left [(q4, bytesV xs)] hx), nodup := ?_ }
                        have h10 := h9.nodup
                        rw [show [(w.heap.size, AA), (q1, secsV ss), (q2, intsV ws), (q3, boolsV ts), (q4, bytesV xs)] = [(w.heap.size, AA), (q1, secsV ss), (q2, intsV ws), (q3, boolsV ts)] ++ [(q4, bytesV xs)] from rfl, List.map_append] at h10
                        exact (List.nodup_append.1 h10).1)
                      have Hb8 : Hid (Below w.heap.size w w8) := hide (by rw [hC]; exact (unhide Hb4).drew)
                      clear hv hL e28 hC HS4 Hb4 hx4 hw4 hc2 hc3
                      generalize vals 0 = y0 at *
                      generalize vals 1 = y1 at *
                      generalize vals 2 = y2 at *
                      generalize vals 3 = y3 at *
                      generalize vals 4 = y4 at *
                      generalize vals 5 = y5 at *
                      generalize vals 6 = y6 at *
                      generalize vals 7 = y7 at *
                      generalize vals 8 = y8 at *
                      generalize vals 9 = y9 at *
                      generalize vals 10 = y10 at *
                      generalize vals 11 = y11 at *
                      generalize vals 12 = y12 at *
                      generalize vals 13 = y13 at *
                      generalize vals 14 = y14 at *
                      generalize vals 15 = y15 at *
                      generalize vals 16 = y16 at *
                      generalize vals 17 = y17 at *
                      generalize vals 18 = y18 at *
                      generalize vals 19 = y19 at *
                      generalize vals 20 = y20 at *
                      generalize vals 21 = y21 at *
                      generalize vals 22 = y22 at *
                      generalize vals 23 = y23 at *
                      generalize vals 24 = y24 at *
                      generalize vals 25 = y25 at *
                      generalize vals 26 = y26 at *
                      generalize vals 27 = y27 at *
                      go_wp2_with fail
                      go_roundw
                      case rel => exact ⟨i + 1, by omega, by go_num, unhide HS8, unhide Hb8⟩
                      case measure => simp [intOf]; omega
                  · have HNE := hide hxw
                    have hor : ts.getD i false = true ∧ bs ≠ [] := by
                      rcases unhide HSM with e | e
                      · exact absurd e hxw
                      · exact e
                    have HTT := hide hor.1
                    have HLK : Hid (lenk ≠ 0) := hide (fun e => hor.2 (List.length_eq_zero_iff.1 (by rw [unhide HBL]; exact e)))
                    clear hxw hor
                    refine Flow.wp_region (Flow.VV (fun j => match j with | 0 => .int .i64 0 | 1 => .bool false | 2 => .bool false | 3 => .pointer (some ⟨p, 0, none⟩) | 4 => .int .i64 (i : Int) | 5 => .int .i64 ((wearD (restartD d bs) (i : Int) : Nat) : Int) | 6 => .int .i64 (i : Int) | 7 => .pointer (some ⟨q2, i, none⟩) | 8 => .int .i64 ((ws.getD i 0 : Nat) : Int) | 9 => .bool false | 10 => .bool false | 11 => .bool false | 12 => secV xs | 13 => .int .i64 (i : Int) | 14 => .pointer (some ⟨q1, i * 64, none⟩) | 15 => secV (ss.getD i []) | 16 => .bool true | 17 => .bool true | 18 => .int .i64 (i : Int) | 19 => .pointer (some ⟨q3, i, none⟩) | 20 => .bool true | 21 => .bool false | 22 => .bool false | 23 => .slice ak lenk capk | 24 => .int .i64 (lenk : Int) | 25 => .bool false | 26 => .bool false | 27 => .bool false | 28 => .bool false | _ => undef)) (fun _ (_ : Unit) w' => w' = w4.drew) () (by kernel_rfl) (by kernel_rfl) rfl ⟨?_, ?_, ?_, ?_, ?_, ?_, ?_, ?_, ?_, ?_, ?_, ?_, ?_, ?_, ?_, ?_, ?_, ?_, ?_, ?_, ?_, ?_, ?_, ?_, ?_, ?_, ?_, ?_, ?_, trivial⟩ ?_
                    · exact Flow.move (Flow.goes_plain rfl) (fun _ _ _ h => h) (.inl rfl) fun a s w' hs hd => (hs 17 (by kernel_rfl))
                    · refine Flow.pure (Flow.goes_plain rfl) (fun _ _ _ h => h) fun a L s w' hC hL hn hs hd => ?_
                      skip
                      exact ⟨_, op_neq27 rfl (hd 0 125 (by kernel_rfl)) rfl (by simp) w', rfl⟩
                    · exact Flow.move (Flow.goes_plain rfl) (fun _ _ _ h => h) (.inl rfl) fun a s w' hs hd => (hd 1 126 (by kernel_rfl))
                    · exact Flow.move (Flow.goes_guard false rfl rfl rfl (by kernel_rfl) (fun _ _ _ h => h)) (fun _ _ _ h => h) (.inl rfl) fun a s w' hs hd => (hs 5 (by kernel_rfl))
                    · exact Flow.move (Flow.goes_guard false rfl rfl rfl (by kernel_rfl) (fun _ _ _ h => h)) (fun _ _ _ h => h) (.inl rfl) fun a s w' hs hd => (hs 15 (by kernel_rfl))
                    · refine Flow.call (Flow.goes_guard false rfl rfl rfl (by kernel_rfl) (fun _ _ _ h => h)) fun a L s0 w' hC hL hn hs hd => ⟨15, #[.pointer (some ⟨p, 0, none⟩), .int .i64 (i : Int)], op_call15 (v0 := .pointer (some ⟨p, 0, none⟩)) (v1 := .int .i64 (i : Int)) rfl (hd 3 128 (by kernel_rfl)) (hd 4 129 (by kernel_rfl)) rfl w', ?_⟩
                      subst hC
                      refine (wear_walk (unhide HS4).dev.drew (i : Int)).mono ?_
                      rintro e w'' ⟨rfl, hw''⟩
                      subst w''
                      exact ⟨_, (), rfl, fun _ _ _ h => h, rfl, rfl⟩
                    · exact Flow.move (Flow.goes_guard false rfl rfl rfl (by kernel_rfl) (fun _ _ _ h => h)) (fun _ _ _ h => h) (.inl rfl) fun a s w' hs hd => (hs 15 (by kernel_rfl))
                    · refine Flow.pure (Flow.goes_guard false rfl rfl rfl (by kernel_rfl) (fun _ _ _ h => h)) (fun _ _ _ h => h) fun a L s w' hC hL hn hs hd => ?_
                      skip
                      exact ⟨_, op_idx60 rfl (hs 9 (by kernel_rfl)) (hd 6 131 (by kernel_rfl)) hilt w', rfl⟩
                    · refine Flow.pure (Flow.goes_guard false rfl rfl rfl (by kernel_rfl) (fun _ _ _ h => h)) (fun _ _ _ h => h) fun a L s w' hC hL hn hs hd => ?_
                      skip
                      exact ⟨_, op_load3 rfl (hd 7 132 (by kernel_rfl)) (by rw [hC]; exact hc2), rfl⟩
                    · refine Flow.pure (Flow.goes_guard false rfl rfl rfl (by kernel_rfl) (fun _ _ _ h => h)) (fun _ _ _ h => h) fun a L s w' hC hL hn hs hd => ?_
                      skip
                      exact ⟨_, op_lss3 rfl (hd 5 130 (by kernel_rfl)) (hd 8 133 (by kernel_rfl)) (decide_eq_false (by have h9 := unhide HWL2; rw [unhide HWD]; omega)) w', rfl⟩
                    · refine Flow.pure (Flow.goes_plain rfl) (fun _ _ _ h => h) fun a L s w' hC hL hn hs hd => ?_
                      skip
                      exact ⟨_, op_pickF rfl (hd 2 127 (by kernel_rfl)) (hd 9 134 (by kernel_rfl)) w', rfl⟩
                    · exact Flow.move (Flow.goes_plain rfl) (fun _ _ _ h => h) (.inl rfl) fun a s w' hs hd => (hd 10 135 (by kernel_rfl))
                    · refine Flow.pure (Flow.goes_guard false rfl rfl rfl (by kernel_rfl) (fun _ _ _ h => h)) (fun _ _ _ h => h) fun a L s w' hC hL hn hs hd => ?_
                      skip
                      exact ⟨_, op_load26 rfl (hs 16 (by kernel_rfl)) (by rw [hC]; exact hx4) (unhide HRL), rfl⟩
                    · exact Flow.move (Flow.goes_guard false rfl rfl rfl (by kernel_rfl) (fun _ _ _ h => h)) (fun _ _ _ h => h) (.inl rfl) fun a s w' hs hd => (hs 15 (by kernel_rfl))
                    · refine Flow.pure (Flow.goes_guard false rfl rfl rfl (by kernel_rfl) (fun _ _ _ h => h)) (fun _ _ _ h => h) fun a L s w' hC hL hn hs hd => ?_
                      skip
                      exact ⟨_, op_idx59 rfl (hs 8 (by kernel_rfl)) (hd 13 138 (by kernel_rfl)) hilt w', rfl⟩
                    · refine Flow.pure (Flow.goes_guard false rfl rfl rfl (by kernel_rfl) (fun _ _ _ h => h)) (fun _ _ _ h => h) fun a L s w' hC hL hn hs hd => ?_
                      skip
                      exact ⟨_, op_load26 rfl (hd 14 139 (by kernel_rfl)) (by rw [hC]; exact hw4) (unhide HSL), rfl⟩
                    · exact Flow.pure (Flow.goes_guard false rfl rfl rfl (by kernel_rfl) (fun _ _ _ h => h)) (fun _ _ _ h => h) fun a L s w' hC hL hn hs hd => ⟨_, op_neq26 (r := true) rfl (hd 12 137 (by kernel_rfl)) (hd 15 140 (by kernel_rfl)) (by rw [Bool.not_eq_true', beq_eq_false_iff_ne]; exact unhide HNE) (unhide HRL) (unhide HSL) w', rfl⟩
                    · exact Flow.move (Flow.goes_guard false rfl rfl rfl (by kernel_rfl) (fun _ _ _ h => h)) (fun _ _ _ h => h) (.inl rfl) fun a s w' hs hd => (hd 16 141 (by kernel_rfl))
                    · exact Flow.move (Flow.goes_guard true rfl rfl rfl (by kernel_rfl) (fun _ _ _ h => h)) (fun _ _ _ h => h) (.inl rfl) fun a s w' hs hd => (hs 15 (by kernel_rfl))
                    · refine Flow.pure (Flow.goes_guard true rfl rfl rfl (by kernel_rfl) (fun _ _ _ h => h)) (fun _ _ _ h => h) fun a L s w' hC hL hn hs hd => ?_
                      skip
                      exact ⟨_, op_idx61 rfl (hs 11 (by kernel_rfl)) (hd 18 143 (by kernel_rfl)) hilt w', rfl⟩
                    · refine Flow.pure (Flow.goes_guard true rfl rfl rfl (by kernel_rfl) (fun _ _ _ h => h)) (fun _ _ _ h => h) fun a L s w' hC hL hn hs hd => ?_
                      skip
                      exact ⟨_, op_load4 rfl (hd 19 144 (by kernel_rfl)) (by rw [hC, ← unhide HTT]; exact hc3), rfl⟩
                    · refine Flow.pure (Flow.goes_guard true rfl rfl rfl (by kernel_rfl) (fun _ _ _ h => h)) (fun _ _ _ h => h) fun a L s w' hC hL hn hs hd => ?_
                      skip
                      exact ⟨_, op_not rfl (hd 20 145 (by kernel_rfl)) w', rfl⟩
                    · exact Flow.move (Flow.goes_guard true rfl rfl rfl (by kernel_rfl) (fun _ _ _ h => h)) (fun _ _ _ h => h) (.inl rfl) fun a s w' hs hd => (hd 21 146 (by kernel_rfl))
                    · exact Flow.move (Flow.goes_guard false rfl rfl rfl (by kernel_rfl) (fun _ _ _ h => h)) (fun _ _ _ h => h) (.inl rfl) fun a s w' hs hd => (hs 1 (by kernel_rfl))
                    · refine Flow.pure (Flow.goes_guard false rfl rfl rfl (by kernel_rfl) (fun _ _ _ h => h)) (fun _ _ _ h => h) fun a L s w' hC hL hn hs hd => ?_
                      skip
                      exact ⟨_, op_len40 rfl (hd 23 148 (by kernel_rfl))  w', rfl⟩
                    · refine Flow.pure (Flow.goes_guard false rfl rfl rfl (by kernel_rfl) (fun _ _ _ h => h)) (fun _ _ _ h => h) fun a L s w' hC hL hn hs hd => ?_
                      skip
                      exact ⟨_, op_eql3 rfl (hd 24 149 (by kernel_rfl)) rfl (by have h9 := unhide HLK; rw [beq_eq_false_iff_ne]; omega) w', rfl⟩
                    · refine Flow.pure (Flow.goes_guard true rfl rfl rfl (by kernel_rfl) (fun _ _ _ h => h)) (fun _ _ _ h => h) fun a L s w' hC hL hn hs hd => ?_
                      skip
                      exact ⟨_, op_pickF rfl (hd 22 147 (by kernel_rfl)) (hd 25 150 (by kernel_rfl)) w', rfl⟩
                    · refine Flow.pure (Flow.goes_guard false rfl rfl rfl (by kernel_rfl) (fun _ _ _ h => h)) (fun _ _ _ h => h) fun a L s w' hC hL hn hs hd => ?_
                      skip
                      exact ⟨_, op_pickT rfl (hd 17 142 (by kernel_rfl)) (hd 26 151 (by kernel_rfl)) w', rfl⟩
                    · refine Flow.pure (Flow.goes_plain rfl) (fun _ _ _ h => h) fun a L s w' hC hL hn hs hd => ?_
                      skip
                      exact ⟨_, op_pickF rfl (hd 11 136 (by kernel_rfl)) (hd 27 152 (by kernel_rfl)) w', rfl⟩
                    · intro L _ w8 hC hL vals hv
                      have e28 : vals 28 = .bool false := hv 28 _ 153 rfl rfl
                      simp only [Free.putAll, Act.put, List.setIfInBounds_toArray, List.set_cons_succ, List.set_cons_zero, e28]
                      have HS8 : Hid (Solo w.heap.size F5 [(w.heap.size, AA), (q1, secsV ss), (q2, intsV ws), (q3, boolsV ts)] w8 p (restartD d bs)) := hide (by
                        rw [hC]
                        have h9 := (unhide HS4).below (Below.refl _ w4).drew
                        refine { h9 with keep := fun x hx => h9.keep x (List.mem_append_left [(q4, bytesV xs)] hx), nodup := ?_ }
                        have h10 := h9.nodup
                        rw [show [(w.heap.size, AA), (q1, secsV ss), (q2, intsV ws), (q3, boolsV ts), (q4, bytesV xs)] = [(w.heap.size, AA), (q1, secsV ss), (q2, intsV ws), (q3, boolsV ts)] ++ [(q4, bytesV xs)] from rfl, List.map_append] at h10
                        exact (List.nodup_append.1 h10).1)
                      have Hb8 : Hid (Below w.heap.size w w8) := hide (by rw [hC]; exact (unhide Hb4).drew)
                      clear hv hL e28 hC HS4 Hb4 hx4 hw4 hc2 hc3
                      generalize vals 0 = y0 at *
                      generalize vals 1 = y1 at *
                      generalize vals 2 = y2 at *
                      generalize vals 3 = y3 at *
                      generalize vals 4 = y4 at *
                      generalize vals 5 = y5 at *
                      generalize vals 6 = y6 at *
                      generalize vals 7 = y7 at *
                      generalize vals 8 = y8 at *
                      generalize vals 9 = y9 at *
                      generalize vals 10 = y10 at *
                      generalize vals 11 = y11 at *
                      generalize vals 12 = y12 at *
                      generalize vals 13 = y13 at *
                      generalize vals 14 = y14 at *
                      generalize vals 15 = y15 at *
                      generalize vals 16 = y16 at *
                      generalize vals 17 = y17 at *
                      generalize vals 18 = y18 at *
                      generalize vals 19 = y19 at *
                      generalize vals 20 = y20 at *
                      generalize vals 21 = y21 at *
                      generalize vals 22 = y22 at *
                      generalize vals 23 = y23 at *
                      generalize vals 24 = y24 at *
                      generalize vals 25 = y25 at *
                      generalize vals 26 = y26 at *
                      generalize vals 27 = y27 at *
                      go_wp2_with fail
                      go_roundw
                      case rel => exact ⟨i + 1, by omega, by go_num, unhide HS8, unhide Hb8⟩
                      case measure => simp [intOf]; omega
                · go_wp2_with fail
                  go_ret
                  exact ⟨rfl, unhide Hb⟩

set_option maxHeartbeats 1600000 in
set_option maxRecDepth 100000 in
theorem walk (a1 : Option Addr) (len1 cap1 : Nat) (a2 : Option Addr) (len2 cap2 : Nat) (ak : Option Addr) (lenk capk : Nat) (w : World)
    (hA1 : len1 ≤ maxLen ∧ Acts w.heap.size w a1 len1) (hA2 : len2 ≤ maxLen ∧ Acts w.heap.size w a2 len2) (hB : Bytes w ak lenk capk) :
    Calls Try.prog 5 #[.agg #[.slice a1 len1 cap1, .slice a2 len2 cap2], .slice ak lenk capk] w fun e w' => e = .returned (.bool true) ∧ Below w.heap.size w w' := by
  by_cases h : len1 ≤ 60 ∧ len2 ≤ 60 ∧ lenk ≤ 100
  · obtain ⟨bs, _, hr⟩ := hB.2.2 (by omega)
    exact main a1 len1 cap1 a2 len2 cap2 ak lenk capk h.1 h.2.1 h.2.2 bs w hA1.2 hA2.2 hr
  · clear hA1 hA2 hB
    have hn : 60 < len1 ∨ (len1 ≤ 60 ∧ 60 < len2) ∨ (len1 ≤ 60 ∧ len2 ≤ 60 ∧ 100 < lenk) := by omega
    clear h
    rcases hn with h | h | h
    all_goals (
      go_enter Try.func5, Try.ntmps5
      go_wp2_with (refine wpList_box 58 _ [.slice a1 len1 cap1, .slice a2 len2 cap2] rfl rfl rfl ?_)
      intro w0 hA0 hb0 hs0
      have HA0 := hide hA0
      have Hb0 := hide hb0
      clear hA0 hb0
      go_wp2_with fail
      refine (alive_walk w0).mono ?_
      rintro e w1 ⟨rfl, hb1⟩
      have HA1 := hide ((unhide HA0).below hb1)
      have Hb1 := hide ((unhide Hb0).trans (hb1.mono (unhide Hb0).size))
      have hcb0 := (unhide HA1).cell (i := 0) rfl
      have hcb1 := (unhide HA1).cell (i := 1) rfl
      clear hb1 HA0 Hb0 HA1
      go_wp2_with fail
      go_ret
      exact ⟨rfl, unhide Hb1⟩)
end flashSure
end Go.Proofs.Ytebahemgbpjldaa
