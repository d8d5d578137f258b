/-
  SlotTexts: a text is read as the document says, and what is written is read again.
-/
import Derived.Test.YtglphnmnnfpcoaaDoorSRIndex
import Derived.Test.YtglphnmnnfpcoaaDoorSRText
import Derived.Test.YtglphnmnnfpcoaaDoorSRef
import Derived.Test.YtglphnmnnfpcoaaDoorSParse
import Derived.Test.YtglphnmnnfpcoaaDoorSCells
namespace Go.Proofs.YtglphnmnnfpcoaaDoor.slotTexts
open Go.RowKit Go.Lib

set_option maxHeartbeats 6400000 in
set_option maxRecDepth 100000 in
theorem main (s : S) (l : List UInt8) (u : ByteArray) (hu : tx l = u) (w : World) (hU : G.Uni w) (hf : Fit s) :
    Calls Tryd.prog 7 #[s.v, .string u] w fun e w' => e = .returned (.bool true) ∧ Below w.heap.size w w' := by
  have HU0 := hide hU
  have Hal := hide alloc26
  have HAl := hide alive_walk
  have HKI := hide (info26s hf.dg)
  have HKL := hide (cs_length hf.dg)
  have HK1 := hide (cs_one s)
  have heK := run_same26 s.cs ⟨s, rfl, hf.dg⟩
  have HZL : Hid (zeroS.cs.length = 36) := hide rfl
  have hul : u.size = l.length := by rw [← hu]; exact tx_size l
  by_cases h3 : (300 : Int) < (u.size : Int)
  · unfold S.v
    clear hU hf hu hul
    generalize s.cs = K at *
    go_enter Tryd.func7, Tryd.ntmps7
    go_wp2_with (refine wpList_box 26 _ K rfl rfl rfl ?_)
    intro w1 hA1 hb1 hs1
    have Hb1 := hide hb1
    clear hA1 hb1
    go_wp2_with fail
    refine (unhide HAl w1 ((unhide HU0).below (unhide Hb1)).tabs).mono ?_
    rintro e w2 ⟨rfl, hb2⟩
    have Hb := hide ((unhide Hb1).trans (hb2.mono (unhide Hb1).size))
    clear hb2 Hb1
    go_wp2
    go_ret
    exact ⟨rfl, unhide Hb⟩
  · have hl : l.length ≤ 300 := by omega
    have HPt : Hid (∀ w, Tabs w → Calls Tryd.prog 10 #[.string u] w fun e w' => ∃ x z, e = .returned (.tuple #[.agg (S.cs x).toArray, .int .i64 z]) ∧ ParseOf l x z ∧ Below w.heap.size w w') := by
      rw [← hu]
      exact hide fun w hT => parse_walk l (by omega) w hT
    have HI1 : Hid (∀ w, G.Uni w → Calls Tryd.prog 13 #[.string u] w fun e w' => e = .returned (.int .i64 (ixF l)) ∧ Below w.heap.size w w') := by
      rw [← hu]
      exact hide (index_walk l (by omega))
    have HI2 : Hid (∀ w, G.Uni w → Calls Tryd.prog 34 #[.string u] w fun e w' => e = .returned (.int .i64 (ixF l)) ∧ Below w.heap.size w w') := by
      rw [← hu]
      exact hide (rindex_walk l (by omega))
    have HR : Hid (∀ w : World, Calls Tryd.prog 15 #[.agg s.cs.toArray] w fun e w' => e = .returned (.bool (right s)) ∧ Below w.heap.size w w') := hide (rright_walk s hf)
    have HT : Hid (∀ w : World, Calls Tryd.prog 21 #[.agg s.cs.toArray] w fun e w' => e = .returned (.string (tx (textS s))) ∧ Below w.heap.size w w') := hide (rtext_walk s hf)
    have HPs : Hid (right s = true → ∀ w, G.Uni w → Calls Tryd.prog 10 #[.string (tx (textS s))] w fun e w' => e = .returned (.tuple #[.agg s.cs.toArray, .int .i64 0]) ∧ Below w.heap.size w w') := by
      show _ → _
      intro hr w hU
      refine (parse_walk (textS s) (by have := text_len s hf; omega) w hU.tabs).mono ?_
      rintro e w' ⟨x, z, rfl, hp, hb⟩
      rcases hp with ⟨rfl, fx, rx, ht⟩ | ⟨_, _, hn⟩
      · obtain rfl := text_inj rx hr fx hf ht
        exact ⟨rfl, hb⟩
      · exact absurd rfl (hn s hf hr)
    unfold S.v
    generalize ixF l = ix at *
    generalize tx (textS s) = y at *
    have HHU := hide hu
    have hlen : ¬ (300 : Int) < (u.size : Int) := h3
    clear hU hf hu hul hl h3
    go_enter Tryd.func7, Tryd.ntmps7
    go_wp2_with (refine wpList_box 26 _ s.cs rfl rfl rfl ?_)
    intro w1 hA1 hb1 hs1
    have HS := hide hA1
    have Hb1 := hide hb1
    clear hA1 hb1
    go_wp2_with fail
    refine (unhide HAl w1 ((unhide HU0).below (unhide Hb1)).tabs).mono ?_
    rintro e w2 ⟨rfl, hb2⟩
    have HS := hide ((unhide HS).below hb2)
    have Hb := hide ((unhide Hb1).trans (hb2.mono (unhide Hb1).size))
    clear hb2 Hb1
    go_wp2_with fail
    refine (unhide HPt w2 ((unhide HU0).below (unhide Hb)).tabs).mono ?_
    rintro e w3 ⟨x, z, rfl, hp, hb⟩
    have HS := hide ((unhide HS).below hb)
    have Hb := hide ((unhide Hb).trans (hb.mono (unhide Hb).size))
    have hxd : x.dg.length = 32 := by
      rcases hp with ⟨_, fx, _, _⟩ | ⟨_, rfl, _⟩
      · exact fx.dg
      · rfl
    have HXI := hide (info26s hxd)
    have HXL := hide (cs_length hxd)
    have HX1 := hide (cs_one x)
    have heX := run_same26 x.cs ⟨x, rfl, hxd⟩
    have HRx : Hid (Fit x → right x = true → ∀ w : World, Calls Tryd.prog 15 #[.agg x.cs.toArray] w fun e w' => e = .returned (.bool true) ∧ Below w.heap.size w w') := hide fun fx rx w => by
      have h := rright_walk x fx w
      rw [rx] at h
      exact h
    have HTx : Hid (Fit x → textS x = l → ∀ w : World, Calls Tryd.prog 21 #[.agg x.cs.toArray] w fun e w' => e = .returned (.string u) ∧ Below w.heap.size w w') := hide fun fx ht w => by
      have h := rtext_walk x fx w
      rw [ht, unhide HHU] at h
      exact h
    have HXB : Hid (x = zeroS → Tryd.prog.built 26 [] = some x.cs.toArray) := hide fun h => by rw [h]; exact built26
    have HP := hide hp
    clear hb hxd hp HPt HAl HHU
    generalize hX : x.cs = X at *
    go_wp2_with (refine wpList_alloc 26 26 zeroS.cs rfl rfl (unhide Hal) ?_)
    intro w4 hA4 hb4 hs4
    have hpS := (unhide HS).lt
    have HX := hide hA4
    have HS := hide ((unhide HS).below hb4)
    have hpb := (unhide Hb).size
    have Hb := hide ((unhide Hb).trans (hb4.mono (unhide Hb).size))
    clear hA4 hb4
    generalize w3.heap.size = p at *
    go_wp2_with (refine wpList_storeAll 26 _ _ p X zeroS.cs rfl rfl rfl rfl (unhide HX) (by rw [unhide HXL, unhide HZL]) (unhide HXI) (unhide HX1) ?_)
    intro w5 hA5 hg5 hs5
    have HX := hide hA5
    have HS := hide ((unhide HS).grown hg5 (by simp; omega))
    have Hb := hide ((unhide Hb).grown hg5 (unhide Hb).size (fun k hk => by cases hk; exact hpb))
    clear hA5 hg5
    rcases unhide HP with ⟨hz, fx, rx, ht⟩ | ⟨hz, hx0, _⟩
    · have HRx := hide (unhide HRx fx rx)
      have HTx := hide (unhide HTx fx ht)
      subst hz
      clear HXB fx rx ht HP hX
      cases hrs : right s with
      | false =>
        rw [hrs] at HR
        clear HT HPs hrs
        generalize s.cs = K at *
        go_wp2_with (first | ((with_reducible refine wpList_guarded ?_ ?_); rfl; refine wpList_loadAll 26 _ p X _ rfl rfl rfl (unhide HX) Tryd.underlying26 rfl (unhide HXI) ?_) | ((with_reducible refine wpList_guarded ?_ ?_); rfl; refine wpList_loadAll 26 _ w.heap.size K _ rfl rfl rfl (unhide HS) Tryd.underlying26 rfl (unhide HKI) ?_))
        refine (unhide HRx w5).mono ?_
        rintro e w6 ⟨rfl, hb⟩
        have HS := hide ((unhide HS).below hb)
        have HX := hide ((unhide HX).below hb)
        have Hb := hide ((unhide Hb).trans (hb.mono (unhide Hb).size))
        clear hb
        go_wp2_with (first | ((with_reducible refine wpList_guarded ?_ ?_); rfl; refine wpList_loadAll 26 _ p X _ rfl rfl rfl (unhide HX) Tryd.underlying26 rfl (unhide HXI) ?_) | ((with_reducible refine wpList_guarded ?_ ?_); rfl; refine wpList_loadAll 26 _ w.heap.size K _ rfl rfl rfl (unhide HS) Tryd.underlying26 rfl (unhide HKI) ?_))
        refine (unhide HTx w6).mono ?_
        rintro e w7 ⟨rfl, hb⟩
        have HS := hide ((unhide HS).below hb)
        have HX := hide ((unhide HX).below hb)
        have Hb := hide ((unhide Hb).trans (hb.mono (unhide Hb).size))
        clear hb
        go_wp2_with (first | refine wpList_loadAll 26 _ w.heap.size K _ rfl rfl rfl (unhide HS) Tryd.underlying26 rfl (unhide HKI) ?_)
        refine (unhide HR w7).mono ?_
        rintro e w8 ⟨rfl, hb⟩
        have HS := hide ((unhide HS).below hb)
        have Hb := hide ((unhide Hb).trans (hb.mono (unhide Hb).size))
        clear hb
        go_wp2_with fail
        refine (unhide HI1 w8 ((unhide HU0).below (unhide Hb))).mono ?_
        rintro e w9 ⟨rfl, hb⟩
        have Hb := hide ((unhide Hb).trans (hb.mono (unhide Hb).size))
        clear hb
        go_wp2_with fail
        refine (unhide HI2 w9 ((unhide HU0).below (unhide Hb))).mono ?_
        rintro e w10 ⟨rfl, hb⟩
        have Hb := hide ((unhide Hb).trans (hb.mono (unhide Hb).size))
        clear hb
        go_wp2
        go_ret
        exact ⟨rfl, unhide Hb⟩
      | true =>
        rw [hrs] at HR
        have HPs := hide (unhide HPs hrs)
        clear hrs
        generalize s.cs = K at *
        go_wp2_with (first | ((with_reducible refine wpList_guarded ?_ ?_); rfl; refine wpList_loadAll 26 _ p X _ rfl rfl rfl (unhide HX) Tryd.underlying26 rfl (unhide HXI) ?_) | ((with_reducible refine wpList_guarded ?_ ?_); rfl; refine wpList_loadAll 26 _ w.heap.size K _ rfl rfl rfl (unhide HS) Tryd.underlying26 rfl (unhide HKI) ?_))
        refine (unhide HRx w5).mono ?_
        rintro e w6 ⟨rfl, hb⟩
        have HS := hide ((unhide HS).below hb)
        have HX := hide ((unhide HX).below hb)
        have Hb := hide ((unhide Hb).trans (hb.mono (unhide Hb).size))
        clear hb
        go_wp2_with (first | ((with_reducible refine wpList_guarded ?_ ?_); rfl; refine wpList_loadAll 26 _ p X _ rfl rfl rfl (unhide HX) Tryd.underlying26 rfl (unhide HXI) ?_) | ((with_reducible refine wpList_guarded ?_ ?_); rfl; refine wpList_loadAll 26 _ w.heap.size K _ rfl rfl rfl (unhide HS) Tryd.underlying26 rfl (unhide HKI) ?_))
        refine (unhide HTx w6).mono ?_
        rintro e w7 ⟨rfl, hb⟩
        have HS := hide ((unhide HS).below hb)
        have HX := hide ((unhide HX).below hb)
        have Hb := hide ((unhide Hb).trans (hb.mono (unhide Hb).size))
        clear hb
        go_wp2_with (first | refine wpList_loadAll 26 _ w.heap.size K _ rfl rfl rfl (unhide HS) Tryd.underlying26 rfl (unhide HKI) ?_)
        refine (unhide HR w7).mono ?_
        rintro e w8 ⟨rfl, hb⟩
        have HS := hide ((unhide HS).below hb)
        have Hb := hide ((unhide Hb).trans (hb.mono (unhide Hb).size))
        clear hb
        go_wp2_with (first | refine wpList_loadAll 26 _ w.heap.size K _ rfl rfl rfl (unhide HS) Tryd.underlying26 rfl (unhide HKI) ?_)
        refine (unhide HT w8).mono ?_
        rintro e w9 ⟨rfl, hb⟩
        have HS := hide ((unhide HS).below hb)
        have Hb := hide ((unhide Hb).trans (hb.mono (unhide Hb).size))
        clear hb
        go_wp2_with fail
        refine (unhide HPs w9 ((unhide HU0).below (unhide Hb))).mono ?_
        rintro e w10 ⟨rfl, hb⟩
        have HS := hide ((unhide HS).below hb)
        have Hb := hide ((unhide Hb).trans (hb.mono (unhide Hb).size))
        clear hb
        go_wp2_with (refine wpList_alloc 26 26 zeroS.cs rfl rfl (unhide Hal) ?_)
        intro w11 hA hb hs
        have hpq := (unhide HS).lt
        have HQ := hide hA
        have HS := hide ((unhide HS).below hb)
        have hqb := (unhide Hb).size
        have Hb := hide ((unhide Hb).trans (hb.mono (unhide Hb).size))
        clear hA hb
        generalize w10.heap.size = q at *
        go_wp2_with (refine wpList_storeAll 26 _ _ q K zeroS.cs rfl rfl rfl rfl (unhide HQ) (by rw [unhide HKL, unhide HZL]) (unhide HKI) (unhide HK1) ?_)
        intro w12 hA hg hs2
        have HQ := hide hA
        have HS := hide ((unhide HS).grown hg (by simp; omega))
        have Hb := hide ((unhide Hb).grown hg (unhide Hb).size (fun k hk => by cases hk; exact hqb))
        clear hA hg
        go_wp2_with (first | refine wpList_loadAll 26 _ q K _ rfl rfl rfl (unhide HQ) Tryd.underlying26 rfl (unhide HKI) ?_ | refine wpList_loadAll 26 _ w.heap.size K _ rfl rfl rfl (unhide HS) Tryd.underlying26 rfl (unhide HKI) ?_)
        refine (unhide HI1 w12 ((unhide HU0).below (unhide Hb))).mono ?_
        rintro e w13 ⟨rfl, hb⟩
        have Hb := hide ((unhide Hb).trans (hb.mono (unhide Hb).size))
        clear hb
        go_wp2_with fail
        refine (unhide HI2 w13 ((unhide HU0).below (unhide Hb))).mono ?_
        rintro e w14 ⟨rfl, hb⟩
        have Hb := hide ((unhide Hb).trans (hb.mono (unhide Hb).size))
        clear hb
        go_wp2
        go_ret
        exact ⟨rfl, unhide Hb⟩
    · have HXB := hide (unhide HXB hx0)
      subst hz
      clear HRx HTx hx0 HP hX
      cases hrs : right s with
      | false =>
        rw [hrs] at HR
        clear HT HPs hrs
        generalize s.cs = K at *
        go_wp2_with (first | ((with_reducible refine wpList_guarded ?_ ?_); rfl; refine wpList_loadAll 26 _ p X _ rfl rfl rfl (unhide HX) Tryd.underlying26 rfl (unhide HXI) ?_) | ((with_reducible refine wpList_guarded ?_ ?_); rfl; refine wpList_build 26 _ X [] rfl rfl rfl (unhide HXB) ?_) | ((with_reducible refine wpList_guarded ?_ ?_); rfl; refine wpList_loadAll 26 _ w.heap.size K _ rfl rfl rfl (unhide HS) Tryd.underlying26 rfl (unhide HKI) ?_))
        refine (unhide HR w5).mono ?_
        rintro e w6 ⟨rfl, hb⟩
        have HS := hide ((unhide HS).below hb)
        have Hb := hide ((unhide Hb).trans (hb.mono (unhide Hb).size))
        clear hb
        go_wp2_with fail
        refine (unhide HI1 w6 ((unhide HU0).below (unhide Hb))).mono ?_
        rintro e w7 ⟨rfl, hb⟩
        have Hb := hide ((unhide Hb).trans (hb.mono (unhide Hb).size))
        clear hb
        go_wp2_with fail
        refine (unhide HI2 w7 ((unhide HU0).below (unhide Hb))).mono ?_
        rintro e w8 ⟨rfl, hb⟩
        have Hb := hide ((unhide Hb).trans (hb.mono (unhide Hb).size))
        clear hb
        go_wp2
        go_ret
        exact ⟨rfl, unhide Hb⟩
      | true =>
        rw [hrs] at HR
        have HPs := hide (unhide HPs hrs)
        clear hrs
        generalize s.cs = K at *
        go_wp2_with (first | ((with_reducible refine wpList_guarded ?_ ?_); rfl; refine wpList_loadAll 26 _ p X _ rfl rfl rfl (unhide HX) Tryd.underlying26 rfl (unhide HXI) ?_) | ((with_reducible refine wpList_guarded ?_ ?_); rfl; refine wpList_build 26 _ X [] rfl rfl rfl (unhide HXB) ?_) | ((with_reducible refine wpList_guarded ?_ ?_); rfl; refine wpList_loadAll 26 _ w.heap.size K _ rfl rfl rfl (unhide HS) Tryd.underlying26 rfl (unhide HKI) ?_))
        refine (unhide HR w5).mono ?_
        rintro e w6 ⟨rfl, hb⟩
        have HS := hide ((unhide HS).below hb)
        have Hb := hide ((unhide Hb).trans (hb.mono (unhide Hb).size))
        clear hb
        go_wp2_with (first | refine wpList_loadAll 26 _ w.heap.size K _ rfl rfl rfl (unhide HS) Tryd.underlying26 rfl (unhide HKI) ?_)
        refine (unhide HT w6).mono ?_
        rintro e w7 ⟨rfl, hb⟩
        have HS := hide ((unhide HS).below hb)
        have Hb := hide ((unhide Hb).trans (hb.mono (unhide Hb).size))
        clear hb
        go_wp2_with fail
        refine (unhide HPs w7 ((unhide HU0).below (unhide Hb))).mono ?_
        rintro e w8 ⟨rfl, hb⟩
        have HS := hide ((unhide HS).below hb)
        have Hb := hide ((unhide Hb).trans (hb.mono (unhide Hb).size))
        clear hb
        go_wp2_with (refine wpList_alloc 26 26 zeroS.cs rfl rfl (unhide Hal) ?_)
        intro w9 hA hb hs
        have hpq := (unhide HS).lt
        have HQ := hide hA
        have HS := hide ((unhide HS).below hb)
        have hqb := (unhide Hb).size
        have Hb := hide ((unhide Hb).trans (hb.mono (unhide Hb).size))
        clear hA hb
        generalize w8.heap.size = q at *
        go_wp2_with (refine wpList_storeAll 26 _ _ q K zeroS.cs rfl rfl rfl rfl (unhide HQ) (by rw [unhide HKL, unhide HZL]) (unhide HKI) (unhide HK1) ?_)
        intro w10 hA hg hs2
        have HQ := hide hA
        have HS := hide ((unhide HS).grown hg (by simp; omega))
        have Hb := hide ((unhide Hb).grown hg (unhide Hb).size (fun k hk => by cases hk; exact hqb))
        clear hA hg
        go_wp2_with (first | refine wpList_loadAll 26 _ q K _ rfl rfl rfl (unhide HQ) Tryd.underlying26 rfl (unhide HKI) ?_ | refine wpList_loadAll 26 _ w.heap.size K _ rfl rfl rfl (unhide HS) Tryd.underlying26 rfl (unhide HKI) ?_)
        refine (unhide HI1 w10 ((unhide HU0).below (unhide Hb))).mono ?_
        rintro e w11 ⟨rfl, hb⟩
        have Hb := hide ((unhide Hb).trans (hb.mono (unhide Hb).size))
        clear hb
        go_wp2_with fail
        refine (unhide HI2 w11 ((unhide HU0).below (unhide Hb))).mono ?_
        rintro e w12 ⟨rfl, hb⟩
        have Hb := hide ((unhide Hb).trans (hb.mono (unhide Hb).size))
        clear hb
        go_wp2
        go_ret
        exact ⟨rfl, unhide Hb⟩

theorem walk (s : S) (u : ByteArray) (w : World) (hU : G.Uni w) (hf : Fit s) (_ : u.size ≤ maxLen) :
    Calls Tryd.prog 7 #[s.v, .string u] w fun e w' => e = .returned (.bool true) ∧ Below w.heap.size w w' := main s u.data.toList u (tx_of u) w hU hf
end Go.Proofs.YtglphnmnnfpcoaaDoor.slotTexts
