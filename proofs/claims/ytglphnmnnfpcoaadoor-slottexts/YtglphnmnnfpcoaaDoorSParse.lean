/-
  What slot.Parse answers; the chapter's example.
-/
import Derived.Test.YtglphnmnnfpcoaaDoorSText
namespace Go.Proofs.YtglphnmnnfpcoaaDoor
open Go.RowKit

/-- What Parse tells of a text. -/
def ParseOf (t : List UInt8) (x : S) (e : Int) : Prop := e = 0 ∧ Fit x ∧ right x = true ∧ textS x = t ∨ e = 101 ∧ x = zeroS ∧ ∀ y, Fit y → right y = true → textS y ≠ t
theorem text_right {x : S} (h : textS x ≠ []) : right x = true := by
  cases hr : right x with
  | true => rfl
  | false => exact absurd (by unfold textS; rw [if_neg (by rw [hr]; simp)]) h

set_option maxHeartbeats 3200000 in
set_option maxRecDepth 100000 in
theorem parse_walk (t : List UInt8) (ht : t.length ≤ 1000000) (w : World) (hT : Tabs w) : Calls Tryd.prog 10 #[.string (tx t)] w fun e w' => ∃ x z, e = .returned (.tuple #[S.v x, .int .i64 z]) ∧ ParseOf t x z ∧ Below w.heap.size w w' := by
  have HT := hide hT
  have hemp : ((tx t).toList == []) = decide (t = []) := by
    have h := tx_beq t []
    have e : (tx []).toList = [] := by rw [ByteArray.toList_eq]; rfl
    rw [e] at h
    exact h
  have HWo : Hid (∀ w, Calls Tryd.prog 36 #[.string (tx t)] w fun e w' => ∃ v ws, e = .returned v ∧ Txs w.heap.size w' v ws ∧ WordsOf t ws ∧ Below w.heap.size w w') := hide (words_walk t ht)
  have Hal := hide alloc26
  have HZ := hide (info26s (s := zeroS) rfl)
  have HZL : Hid (zeroS.cs.length = 36) := hide rfl
  have HZ1 := hide (cs_one zeroS)
  have HB := hide built26
  have Hht := hide ht
  clear hT ht
  go_enter Tryd.func10, Tryd.ntmps10
  go_wp2_with (refine wpList_alloc 26 26 zeroS.cs rfl rfl (unhide Hal) ?_)
  intro w1 hA1 hb1 hs1
  have HA1 := hide hA1
  have Hb1 := hide hb1
  clear hA1 hb1
  go_wp2_with fail
  refine (unhide HWo w1).mono ?_
  rintro e w2 ⟨v, ws, rfl, htx, hwo, hb2⟩
  have HA1 := hide ((unhide HA1).keep hb2 (by omega))
  have Hb2 := hide ((unhide Hb1).trans (hb2.mono (by omega)))
  have Hwo := hide hwo
  have HSl := hide (slotof_walk ws (fun x hx => Nat.le_trans (hwo.2.2.2 x hx) (unhide Hht)) hwo.1 w2 ((unhide HT).below (unhide Hb2)) _ v htx)
  clear hb2 htx hwo Hb1
  go_wp2_with fail
  refine (unhide HSl).mono ?_
  rintro e w3 ⟨x, rfl, hso, hb3⟩
  have HA1 := hide ((unhide HA1).below hb3)
  have Hb3 := hide ((unhide Hb2).trans (hb3.mono (unhide Hb2).size))
  have Hso := hide hso
  have HX := hide (info26s hso.fit.dg)
  have HXL := hide (cs_length hso.fit.dg)
  have HX1 := hide (cs_one x)
  have HTx : Hid (∀ w, Tabs w → Calls Tryd.prog 20 #[.agg x.cs.toArray] w fun e w' => e = .returned (.string (tx (textS x))) ∧ Below w.heap.size w w') := hide (text_walk x hso.fit)
  clear hb3 hso Hb2 HSl
  unfold S.v
  have Hlt : Hid (w.heap.size < w3.heap.size) := hide (unhide HA1).lt
  go_wp2_with (refine wpList_alloc 26 26 zeroS.cs rfl rfl (unhide Hal) ?_)
  intro w4 hA4 hb4 hs4
  have HA1 := hide ((unhide HA1).keep hb4 (unhide Hlt))
  have Hb4 := hide ((unhide Hb3).trans (hb4.mono (by have := unhide Hlt; omega)))
  have HA4 := hide hA4
  clear hA4 hb4 Hb3
  generalize w3.heap.size = b at *
  go_wp2_with (refine wpList_storeAll 26 _ _ b x.cs zeroS.cs rfl rfl rfl rfl (unhide HA4) (by rw [unhide HXL, unhide HZL]) (unhide HX) (unhide HX1) ?_)
  intro w5 hA5 hg5 hs5
  have HA1 := hide ((unhide HA1).grown hg5 (by have := unhide Hlt; simp; omega))
  have Hb5 := hide ((unhide Hb4).grown hg5 (unhide Hb4).size (fun k hk => by have := unhide Hlt; simp at hk; omega))
  have HA5 := hide hA5
  clear hA5 hg5 HA4 Hb4
  by_cases h0 : t = []
  · rw [decide_eq_true h0] at hemp
    have Hres : Hid (ParseOf t zeroS 101) := .inr ⟨rfl, rfl, fun y _ hr e => text_ne hr (e.trans h0)⟩
    clear h0
    go_wp2_with (first
      | refine wpList_build 26 _ zeroS.cs [] rfl rfl rfl (unhide HB) ?_
      | refine wpList_storeAll 26 _ _ w.heap.size zeroS.cs zeroS.cs rfl rfl rfl rfl (unhide HA1) rfl (unhide HZ) (unhide HZ1) ?_)
    intro w9 hA9 hg9 hs9
    have Hb9 := hide ((unhide Hb5).grown hg9 (unhide Hb5).size (fun k hk => by simp at hk; omega))
    have HA9 := hide hA9
    clear hA9 hg9
    go_wp2
    refine bodyPost_ret (v := .tuple #[.agg zeroS.cs.toArray, .int .i64 101]) ?_ rfl ⟨zeroS, 101, rfl, unhide Hres, unhide Hb9⟩
    exact results_two Tryd.results10 rfl rfl (unhide HA9) Tryd.underlying26 rfl (unhide HZ)
  · rw [decide_eq_false h0] at hemp
    have H0 := hide h0
    clear h0
    have HT5 := hide ((unhide HT).below (unhide Hb5))
    go_wp2_with (refine wpList_guarded rfl (wpList_loadAll 26 _ b x.cs _ rfl rfl rfl (unhide HA5) Tryd.underlying26 rfl (unhide HX) ?_))
    refine (unhide HTx w5 (unhide HT5)).mono ?_
    rintro e w6 ⟨rfl, hb6⟩
    have HA1 := hide ((unhide HA1).below hb6)
    have HA5 := hide ((unhide HA5).below hb6)
    have Hb6 := hide ((unhide Hb5).trans (hb6.mono (unhide Hb5).size))
    have he := tx_beq (textS x) t
    clear hb6 HTx
    by_cases h1 : textS x = t
    · rw [decide_eq_true h1] at he
      have Hres : Hid (ParseOf t x 0) := .inl ⟨rfl, (unhide Hso).fit, text_right (by rw [h1]; exact unhide H0), h1⟩
      clear h1
      go_wp2_with (first
        | refine wpList_loadAll 26 _ b x.cs _ rfl rfl rfl (unhide HA5) Tryd.underlying26 rfl (unhide HX) ?_
        | refine wpList_storeAll 26 _ _ w.heap.size x.cs zeroS.cs rfl rfl rfl rfl (unhide HA1) (by rw [unhide HXL, unhide HZL]) (unhide HX) (unhide HX1) ?_)
      intro w9 hA9 hg9 hs9
      have Hb9 := hide ((unhide Hb6).grown hg9 (unhide Hb6).size (fun k hk => by simp at hk; omega))
      have HA9 := hide hA9
      clear hA9 hg9
      go_wp2
      refine bodyPost_ret (v := .tuple #[.agg x.cs.toArray, .int .i64 0]) ?_ rfl ⟨x, 0, rfl, unhide Hres, unhide Hb9⟩
      exact results_two Tryd.results10 rfl rfl (unhide HA9) Tryd.underlying26 rfl (unhide HX)
    · rw [decide_eq_false h1] at he
      have Hres : Hid (ParseOf t zeroS 101) := .inr ⟨rfl, rfl, fun y hy hr e => by
        have hl := split_text_len hr
        rw [e] at hl
        have hw := (unhide Hwo).2.2.1 (by omega)
        have hs := unhide Hso
        rw [hw, ← e] at hs
        have := slot_of_text hr hy hs
        rw [this] at h1
        exact h1 e⟩
      clear h1
      go_wp2_with (first
        | refine wpList_build 26 _ zeroS.cs [] rfl rfl rfl (unhide HB) ?_
        | refine wpList_storeAll 26 _ _ w.heap.size zeroS.cs zeroS.cs rfl rfl rfl rfl (unhide HA1) rfl (unhide HZ) (unhide HZ1) ?_)
      intro w9 hA9 hg9 hs9
      have Hb9 := hide ((unhide Hb6).grown hg9 (unhide Hb6).size (fun k hk => by simp at hk; omega))
      have HA9 := hide hA9
      clear hA9 hg9
      go_wp2
      refine bodyPost_ret (v := .tuple #[.agg zeroS.cs.toArray, .int .i64 101]) ?_ rfl ⟨zeroS, 101, rfl, unhide Hres, unhide Hb9⟩
      exact results_two Tryd.results10 rfl rfl (unhide HA9) Tryd.underlying26 rfl (unhide HZ)

/-- The chapter's example. -/
def exS : S := ⟨3, 0, 7, 100, zeros32⟩
theorem exS_fit : Fit exS := ⟨by decide, by decide, by decide, by decide, by decide, by decide, by decide, by decide⟩
theorem exS_right : right exS = true := by decide +kernel
theorem exS_boot : boot exS = true := by decide +kernel
theorem built_ex : Tryd.prog.built 26 [(0, .int .i64 3), (2, .int .u64 7), (3, .int .i64 100)] = some exS.cs.toArray := by kernel_rfl
theorem dec7 : dec 7 = [55] := dec_small (by decide)
theorem dec100 : dec 100 = [49, 48, 48] := by
  rw [dec_step (by decide), show 100 / 10 = 10 by rfl, dec_step (by decide), show 10 / 10 = 1 by rfl, dec_small (by decide)]
  rfl
theorem exS_text : textS exS = [103, 111, 111, 100, 32, 55, 32, 49, 48, 48, 32] ++ hexT zeros32 := by
  rw [textS_good exS_right rfl]
  unfold tailT
  rw [show exS.ver = 7 by rfl, show exS.sz.toNat = 100 by rfl, dec7, dec100]
  rfl
theorem exS_only {x : S} {z : Int} (h : ParseOf (textS exS) x z) : x = exS ∧ z = 0 := by
  rcases h with ⟨h1, h2, h3, h4⟩ | ⟨_, _, h3⟩
  · exact ⟨text_inj h3 exS_right h2 exS_fit h4, h1⟩
  · exact absurd rfl (h3 exS exS_fit exS_right)

set_option maxHeartbeats 3200000 in
set_option maxRecDepth 100000 in
theorem alive_walk (w : World) (hT : Tabs w) : Calls Tryd.prog 11 #[] w fun e w' => e = .returned (.bool true) ∧ Below w.heap.size w w' := by
  have HT := hide hT
  have HBx := hide built_ex
  have Hal := hide alloc26
  have HX := hide (info26s (s := exS) rfl)
  have HX1 := hide (cs_one exS)
  have HXL : Hid (zeroS.cs.length = exS.cs.length) := hide rfl
  have HTx : Hid (∀ w, Tabs w → Calls Tryd.prog 20 #[.agg exS.cs.toArray] w fun e w' => e = .returned (.string (tx (textS exS))) ∧ Below w.heap.size w w') := hide (text_walk exS exS_fit)
  have hlen : (textS exS).length = 75 := by
    rw [exS_text, List.length_append, hexT_length]
    rfl
  have hcut : (tx (textS exS)).extract 0 11 = (⟨#[103, 111, 111, 100, 32, 55, 32, 49, 48, 48, 32]⟩ : ByteArray) := by
    rw [tx_cut, exS_text, List.drop_zero, List.take_append_of_le_length (by decide)]
    rfl
  have HP : Hid (∀ w, Tabs w → Calls Tryd.prog 10 #[.string (tx (textS exS))] w fun e w' => e = .returned (.tuple #[.agg exS.cs.toArray, .int .i64 0]) ∧ Below w.heap.size w w') := hide fun w h => (parse_walk (textS exS) (by omega) w h).mono fun e w' => by
    rintro ⟨x, z, rfl, hp, hb⟩
    obtain ⟨rfl, rfl⟩ := exS_only hp
    exact ⟨rfl, hb⟩
  have HBo : Hid (∀ w, Calls Tryd.prog 16 #[.agg exS.cs.toArray] w fun e w' => e = .returned (.bool true) ∧ Below w.heap.size w w') := hide fun w => (boot_walk exS exS_fit w).mono fun e w' => by
    rintro ⟨rfl, hb⟩
    exact ⟨by rw [exS_boot], hb⟩
  have hsz : (tx (textS exS)).size = 75 := by rw [tx_size, hlen]
  have H2 : Hid (exS.cs[2]? = some (.int .u64 7)) := hide rfl
  clear hT hlen
  generalize tx (textS exS) = T at *
  generalize exS.cs = C at *
  go_enter Tryd.func11, Tryd.ntmps11
  go_wp2_with (refine wpList_build 26 _ C [(0, .int .i64 3), (2, .int .u64 7), (3, .int .i64 100)] rfl rfl rfl (unhide HBx) ?_)
  refine (unhide HTx w (unhide HT)).mono ?_
  rintro e w1 ⟨rfl, hb1⟩
  have Hb1 := hide hb1
  have HT1 := hide ((unhide HT).below hb1)
  clear hb1
  go_wp2_with fail
  refine (unhide HP w1 (unhide HT1)).mono ?_
  rintro e w2 ⟨rfl, hb2⟩
  have Hb2 := hide ((unhide Hb1).trans (hb2.mono (unhide Hb1).size))
  clear hb2 Hb1
  go_wp2_with (refine wpList_alloc 26 26 zeroS.cs rfl rfl (unhide Hal) ?_)
  intro w3 hA3 hb3 hs3
  have Hb3 := hide ((unhide Hb2).trans (hb3.mono (unhide Hb2).size))
  have HA3 := hide hA3
  have Hle : Hid (w.heap.size ≤ w2.heap.size) := hide (unhide Hb2).size
  clear hb3 hA3 Hb2
  generalize w2.heap.size = b at *
  go_wp2_with (refine wpList_storeAll 26 _ _ b C zeroS.cs rfl rfl rfl rfl (unhide HA3) (unhide HXL) (unhide HX) (unhide HX1) ?_)
  intro w4 hA4 hg4 hs4
  have Hb4 := hide ((unhide Hb3).grown hg4 (unhide Hb3).size (fun k hk => by have := unhide Hle; simp at hk; omega))
  have c2 := hA4.cell (unhide H2)
  have HA4 := hide hA4
  clear hA4 hg4
  go_wp2_with (refine wpList_guarded rfl (wpList_loadAll 26 _ b C _ rfl rfl rfl (unhide HA4) Tryd.underlying26 rfl (unhide HX) ?_))
  refine (unhide HBo w4).mono ?_
  rintro e w5 ⟨rfl, hb5⟩
  have Hb5 := hide ((unhide Hb4).trans (hb5.mono (unhide Hb4).size))
  clear hb5
  go_wp2
  go_ret
  exact ⟨rfl, unhide Hb5⟩
end Go.Proofs.YtglphnmnnfpcoaaDoor
