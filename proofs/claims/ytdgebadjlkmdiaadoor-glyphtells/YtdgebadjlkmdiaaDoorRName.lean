/-
  Whether a text can be a name, as bootjackref04 tells it.
-/
import Derived.Test.YtdgebadjlkmdiaaDoorRShow
import Derived.Test.YtdgebadjlkmdiaaDoorFold
namespace Go.Proofs.YtdgebadjlkmdiaaDoor
open Go.RowKit Go.Lib

def fitLD (L D : Int → Bool) (r : Int) (first : Bool) : Bool := L r || (!first && (D r || r == 45 || r == 95 || r == 46))

theorem sign_at (l : List UInt8) (hl : l ≠ []) (h : (one l).brk = false) (c : Nat) (hc : c < 128) : ((tx (one l).bytes).toList == [c.toUInt8]) = (((one l).num : Int) == (c : Int)) := by
  have hg : ¬ ((decodeL l).1 = 65533 ∧ (decodeL l).2 = 1) := by
    intro hb
    rw [one_bad l hb] at h
    exact absurd h (by simp)
  have he := encode_decode l hl hg
  rw [one_good l hg, ByteArray.toList_eq, tx_list]
  dsimp only
  rw [Bool.eq_iff_iff]
  simp only [beq_iff_eq]
  constructor
  · intro e
    rw [← he] at e
    have e2 := congrArg List.length e
    have e3 := congrArg (fun x => x.getD 0 0) e
    have hr := decodeL_rune l
    unfold encodeRune encodeRuneZ at e e2 e3
    split at e2
    · rename_i h1
      rw [if_pos h1] at e3
      simp only [List.map_cons, List.map_nil, List.getD_cons_zero] at e3
      have e4 := congrArg UInt8.toNat e3
      simp [Nat.toUInt8, UInt8.toNat_ofNat'] at e4
      omega
    · split at e2
      · simp at e2
      · split at e2
        · simp at e2
        · split at e2
          · simp at e2
          · simp at e2
  · intro e
    have hlow : (decodeL l).1 < 128 := by omega
    obtain ⟨k1, k2, k3⟩ := one_low l hl hlow
    rw [k1, k3]
    have : (decodeL l).1 = c := by omega
    rw [this]

set_option maxHeartbeats 32000000 in
set_option maxRecDepth 1000000 in
theorem rname_walk (L D : Int → Bool) (hbad : L 65533 = false ∧ D 65533 = false)
    (hL : ∀ (r : Nat), r ≤ 1114111 → ∀ w, Uni w → Calls Tryd.prog 22 #[.int .i32 (r : Int)] w fun e w' => e = .returned (.bool (L r)) ∧ Below w.heap.size w w')
    (hD : ∀ (r : Nat), r ≤ 1114111 → ∀ w, Uni w → Calls Tryd.prog 23 #[.int .i32 (r : Int)] w fun e w' => e = .returned (.bool (D r)) ∧ Below w.heap.size w w')
    (s : ByteArray) (hs : s.size ≤ 100000) (w : World) (hU : Uni w) :
    Calls Tryd.prog 11 #[.string s] w fun e w' => e = .returned (.int .i64 (nameV (fitLD L D) (runes s.data.toList))) ∧ Below w.heap.size w w' := by
  have HLC := hide hL
  have HDC := hide hD
  have HBAD := hide hbad
  have HU := hide hU
  clear hL hD hU hbad
  have hR := runes_at s (by omega)
  have hall := runes_one s.data.toList
  have hlen := runes_len s.data.toList
  rw [len_of] at hlen
  generalize runes s.data.toList = rs at *
  have HR := hide hR
  have HALL := hide hall
  clear hR hall
  by_cases hout : rs.length = 0 ∨ 24 < rs.length
  · have HV : Hid (nameV (fitLD L D) rs = 41) := hide (nameV_long hout)
    have hout' : (rs.length : Int) = 0 ∨ 24 < (rs.length : Int) := by omega
    clear hout
    rcases hout' with h0 | h0
    · go_enter Tryd.func11, Tryd.ntmps11
      go_wp2_with (go_at_call 13; refine (unhide HR _).mono ?_; rintro e w1 ⟨av, cap, rfl, hLy, hb1⟩)
      all_goals (go_ret; rw [unhide HV]; exact ⟨rfl, hb1⟩)
    · go_enter Tryd.func11, Tryd.ntmps11
      go_wp2_with (go_at_call 13; refine (unhide HR _).mono ?_; rintro e w1 ⟨av, cap, rfl, hLy, hb1⟩)
      all_goals (go_ret; rw [unhide HV]; exact ⟨rfl, hb1⟩)
  · have h1 : ¬ (rs.length : Int) = 0 := by omega
    have h2 : ¬ 24 < (rs.length : Int) := by omega
    have h3 : ((rs.length : Int) == 0) = false := by
      rw [beq_eq_false_iff_ne]
      exact h1
    have HOUT := hide hout
    clear hout
    go_enter Tryd.func11, Tryd.ntmps11
    go_wp2_with (go_at_call 13; refine (unhide HR _).mono ?_; rintro e w1 ⟨av, cap, rfl, hLy, hb1⟩)
    go_loopw [20] (fun vi wr => ∃ (i : Nat), vi = .int .i64 (i : Int) ∧ i ≤ rs.length ∧ Hid (okAll (fitLD L D) true rs = okAll (fitLD L D) (decide (i = 0)) (rs.drop i)) ∧ Below w1.heap.size w1 wr) (fun vi _ => rs.length - (intOf vi).toNat)
    case atStart =>
      exact ⟨0, rfl, Nat.zero_le _, hide rfl, Below.refl _ _⟩
    case round =>
      obtain ⟨i0, rfl, hi, HO, hbw⟩ := hrel
      by_cases hlt : i0 < rs.length
      · obtain ⟨g, rfl, hg, hcell⟩ := hLy.below hbw (Nat.le_refl _) i0 hlt
        have c0 := hcell 0 (by decide)
        have c1 := hcell 1 (by decide)
        have c2 := hcell 2 (by decide)
        rw [Nat.add_zero] at c0
        simp only [ruC, List.getElem?_cons_zero, List.getElem?_cons_succ] at c0 c1 c2
        have hmem : rs.getD i0 ⟨0, [], false⟩ ∈ rs := by
          rw [List.getD_eq_getElem?_getD, List.getElem?_eq_getElem hlt]
          exact List.getElem_mem hlt
        have hdrop : rs.drop i0 = rs.getD i0 ⟨0, [], false⟩ :: rs.drop (i0 + 1) := by
          rw [List.drop_eq_getElem_cons hlt, List.getD_eq_getElem?_getD, List.getElem?_eq_getElem hlt]
          rfl
        generalize rs.getD i0 ⟨0, [], false⟩ = r at *
        obtain ⟨l', hl', hr'⟩ := unhide HALL r hmem
        have hno := unhide HO
        rw [hdrop] at hno
        simp only [okAll] at hno
        have hnum : r.num ≤ 1114111 := by
          rw [hr']
          unfold one
          have := Lib.decodeL_rune l'
          have := (l'.getD 0 0).toNat_lt
          split
          · dsimp only; omega
          · dsimp only; omega
        have hsg : r.brk = false → ∀ c : Nat, c < 128 → ((tx r.bytes).toList == [c.toUInt8]) = ((r.num : Int) == (c : Int)) := by
          rw [hr']; exact fun h c hc => sign_at l' hl' h c hc
        have hwn : wrap32 (r.num : Int) = (r.num : Int) := by unfold wrap32; omega
        have fin : ∀ w4, fitLD L D (rvOf r) (decide (i0 = 0)) = true → Below w1.heap.size w1 w4 →
            ((∃ (i : Nat), Value.int .i64 ((i0 : Int) + 1) = .int .i64 (i : Int) ∧ i ≤ rs.length ∧ Hid (okAll (fitLD L D) true rs = okAll (fitLD L D) (decide (i = 0)) (rs.drop i)) ∧ Below w1.heap.size w1 w4) ∧
              rs.length - (intOf (Value.int .i64 ((i0 : Int) + 1))).toNat < rs.length - (intOf (Value.int .i64 (i0 : Int))).toNat) := by
          intro w4 hf hb4
          rw [hf, Bool.true_and] at hno
          refine ⟨⟨i0 + 1, by congr 1, by omega, hide ?_, hb4⟩, by simp [intOf]; omega⟩
          rw [hno, decide_eq_false (show ¬ i0 + 1 = 0 by omega)]
        have bad : fitLD L D (rvOf r) (decide (i0 = 0)) = false → nameV (fitLD L D) rs = 41 := by
          intro hf
          rw [hf, Bool.false_and] at hno
          exact nameV_bad hno
        have FIN := hide fin
        have BAD := hide bad
        clear fin bad hno hcell hmem hdrop HO
        have HSG := hide hsg
        clear hsg hl' hr'
        have hbA := hbw.alloc (o := Obj.cells #[Value.int IntKind.i64 ↑r.num, Value.string (tx r.bytes), Value.bool r.brk] 40) hbw.size
        have HUA := hide ((unhide HU).below (hb1.trans (hbA.mono hb1.size)))
        cases hbrk : r.brk with
        | true =>
          rw [hbrk] at c2 hbA
          have HV := hide (unhide BAD (by simp [fitLD, rvOf, hbrk, (unhide HBAD).1, (unhide HBAD).2]))
          clear hbrk HUA
          generalize tx r.bytes = rb at *
          generalize r.num = num at *
          go_wp2_with fail
          all_goals (go_ret; rw [unhide HV]; exact ⟨rfl, hb1.trans (hbA.mono hb1.size)⟩)
        | false =>
          rw [hbrk] at c2 hbA HUA
          have hrv : rvOf r = (r.num : Int) := by simp [rvOf, hbrk]
          rw [hrv] at FIN BAD
          have s45 : ((tx r.bytes).toList == [45]) = ((r.num : Int) == 45) := unhide HSG hbrk 45 (by decide)
          have s95 : ((tx r.bytes).toList == [95]) = ((r.num : Int) == 95) := unhide HSG hbrk 95 (by decide)
          have s46 : ((tx r.bytes).toList == [46]) = ((r.num : Int) == 46) := unhide HSG hbrk 46 (by decide)
          have hlw := unhide HLC r.num hnum
          have hdw := unhide HDC r.num hnum
          have hfit : ∀ b, fitLD L D (r.num : Int) b = (L r.num || (!b && (D r.num || ((r.num : Int) == 45) || ((r.num : Int) == 95) || ((r.num : Int) == 46)))) := fun b => rfl
          rw [hfit] at FIN BAD
          clear hbrk hrv hfit HSG
          generalize hb45 : ((r.num : Int) == 45) = b45 at *
          generalize hb95 : ((r.num : Int) == 95) = b95 at *
          generalize hb46 : ((r.num : Int) == 46) = b46 at *
          clear hb45 hb95 hb46
          generalize L (r.num : Int) = Lb at *
          generalize D (r.num : Int) = Db at *
          generalize tx r.bytes = rb at *
          generalize r.num = num at *
          have HLW := hide hlw
          have HDW := hide hdw
          clear hlw hdw
          by_cases hi0 : i0 = 0
          · subst hi0
            cases Lb with
            | true =>
              go_wp2_with fail
              refine (unhide HLW _ (unhide HUA)).mono ?_
              rintro e w5 ⟨rfl, hb5⟩
              go_wp2_with fail
              exact unhide FIN _ (by simp) (hbA.trans (hb5.mono hbA.size))
            | false =>
              have HV := hide (unhide BAD (by simp))
              go_wp2_with fail
              refine (unhide HLW _ (unhide HUA)).mono ?_
              rintro e w5 ⟨rfl, hb5⟩
              go_wp2_with fail
              go_ret
              rw [unhide HV]
              exact ⟨rfl, hb1.trans ((hbA.trans (hb5.mono hbA.size)).mono hb1.size)⟩
          · have hd0 : decide (i0 = 0) = false := by simp [hi0]
            rw [hd0] at FIN BAD
            have hi1 : 0 < (i0 : Int) := by omega
            clear hd0 hi0
            cases Lb with
            | true =>
                cases Db with
                | true =>
                  go_wp2_with fail
                  refine (unhide HLW _ (unhide HUA)).mono ?_
                  rintro e w5 ⟨rfl, hb5⟩
                  have hb6 := hbA.trans (hb5.mono hbA.size)
                  have d2 : w5.cell? ⟨wr.heap.size, 2, none⟩ = some (.bool false) := cell_keep hb5 (cell_fresh wr #[Value.int IntKind.i64 ↑num, Value.string rb, Value.bool false] 40 2)
                  go_wp2_with fail
                  refine (unhide HDW _ ((unhide HU).below (hb1.trans (hb6.mono hb1.size)))).mono ?_
                  rintro e w7 ⟨rfl, hb7⟩
                  have hb8 := hb6.trans (hb7.mono hb6.size)
                  have d1 : w7.cell? ⟨wr.heap.size, 1, none⟩ = some (.string rb) := cell_keep hb7 (cell_keep hb5 (cell_fresh wr #[Value.int IntKind.i64 ↑num, Value.string rb, Value.bool false] 40 1))
                  go_wp2_with fail
                  exact unhide FIN _ (by simp) hb8
                | false =>
                  cases b45 with
                  | true =>
                    go_wp2_with fail
                    refine (unhide HLW _ (unhide HUA)).mono ?_
                    rintro e w5 ⟨rfl, hb5⟩
                    have hb6 := hbA.trans (hb5.mono hbA.size)
                    have d2 : w5.cell? ⟨wr.heap.size, 2, none⟩ = some (.bool false) := cell_keep hb5 (cell_fresh wr #[Value.int IntKind.i64 ↑num, Value.string rb, Value.bool false] 40 2)
                    go_wp2_with fail
                    refine (unhide HDW _ ((unhide HU).below (hb1.trans (hb6.mono hb1.size)))).mono ?_
                    rintro e w7 ⟨rfl, hb7⟩
                    have hb8 := hb6.trans (hb7.mono hb6.size)
                    have d1 : w7.cell? ⟨wr.heap.size, 1, none⟩ = some (.string rb) := cell_keep hb7 (cell_keep hb5 (cell_fresh wr #[Value.int IntKind.i64 ↑num, Value.string rb, Value.bool false] 40 1))
                    go_wp2_with fail
                    exact unhide FIN _ (by simp) hb8
                  | false =>
                    cases b95 with
                    | true =>
                      go_wp2_with fail
                      refine (unhide HLW _ (unhide HUA)).mono ?_
                      rintro e w5 ⟨rfl, hb5⟩
                      have hb6 := hbA.trans (hb5.mono hbA.size)
                      have d2 : w5.cell? ⟨wr.heap.size, 2, none⟩ = some (.bool false) := cell_keep hb5 (cell_fresh wr #[Value.int IntKind.i64 ↑num, Value.string rb, Value.bool false] 40 2)
                      go_wp2_with fail
                      refine (unhide HDW _ ((unhide HU).below (hb1.trans (hb6.mono hb1.size)))).mono ?_
                      rintro e w7 ⟨rfl, hb7⟩
                      have hb8 := hb6.trans (hb7.mono hb6.size)
                      have d1 : w7.cell? ⟨wr.heap.size, 1, none⟩ = some (.string rb) := cell_keep hb7 (cell_keep hb5 (cell_fresh wr #[Value.int IntKind.i64 ↑num, Value.string rb, Value.bool false] 40 1))
                      go_wp2_with fail
                      exact unhide FIN _ (by simp) hb8
                    | false =>
                      cases b46 with
                      | true =>
                        go_wp2_with fail
                        refine (unhide HLW _ (unhide HUA)).mono ?_
                        rintro e w5 ⟨rfl, hb5⟩
                        have hb6 := hbA.trans (hb5.mono hbA.size)
                        have d2 : w5.cell? ⟨wr.heap.size, 2, none⟩ = some (.bool false) := cell_keep hb5 (cell_fresh wr #[Value.int IntKind.i64 ↑num, Value.string rb, Value.bool false] 40 2)
                        go_wp2_with fail
                        refine (unhide HDW _ ((unhide HU).below (hb1.trans (hb6.mono hb1.size)))).mono ?_
                        rintro e w7 ⟨rfl, hb7⟩
                        have hb8 := hb6.trans (hb7.mono hb6.size)
                        have d1 : w7.cell? ⟨wr.heap.size, 1, none⟩ = some (.string rb) := cell_keep hb7 (cell_keep hb5 (cell_fresh wr #[Value.int IntKind.i64 ↑num, Value.string rb, Value.bool false] 40 1))
                        go_wp2_with fail
                        exact unhide FIN _ (by simp) hb8
                      | false =>
                        go_wp2_with fail
                        refine (unhide HLW _ (unhide HUA)).mono ?_
                        rintro e w5 ⟨rfl, hb5⟩
                        have hb6 := hbA.trans (hb5.mono hbA.size)
                        have d2 : w5.cell? ⟨wr.heap.size, 2, none⟩ = some (.bool false) := cell_keep hb5 (cell_fresh wr #[Value.int IntKind.i64 ↑num, Value.string rb, Value.bool false] 40 2)
                        go_wp2_with fail
                        refine (unhide HDW _ ((unhide HU).below (hb1.trans (hb6.mono hb1.size)))).mono ?_
                        rintro e w7 ⟨rfl, hb7⟩
                        have hb8 := hb6.trans (hb7.mono hb6.size)
                        have d1 : w7.cell? ⟨wr.heap.size, 1, none⟩ = some (.string rb) := cell_keep hb7 (cell_keep hb5 (cell_fresh wr #[Value.int IntKind.i64 ↑num, Value.string rb, Value.bool false] 40 1))
                        go_wp2_with fail
                        exact unhide FIN _ (by simp) hb8
            | false =>
                cases Db with
                | true =>
                  go_wp2_with fail
                  refine (unhide HLW _ (unhide HUA)).mono ?_
                  rintro e w5 ⟨rfl, hb5⟩
                  have hb6 := hbA.trans (hb5.mono hbA.size)
                  have d2 : w5.cell? ⟨wr.heap.size, 2, none⟩ = some (.bool false) := cell_keep hb5 (cell_fresh wr #[Value.int IntKind.i64 ↑num, Value.string rb, Value.bool false] 40 2)
                  go_wp2_with fail
                  refine (unhide HDW _ ((unhide HU).below (hb1.trans (hb6.mono hb1.size)))).mono ?_
                  rintro e w7 ⟨rfl, hb7⟩
                  have hb8 := hb6.trans (hb7.mono hb6.size)
                  have d1 : w7.cell? ⟨wr.heap.size, 1, none⟩ = some (.string rb) := cell_keep hb7 (cell_keep hb5 (cell_fresh wr #[Value.int IntKind.i64 ↑num, Value.string rb, Value.bool false] 40 1))
                  go_wp2_with fail
                  exact unhide FIN _ (by simp) hb8
                | false =>
                  cases b45 with
                  | true =>
                    go_wp2_with fail
                    refine (unhide HLW _ (unhide HUA)).mono ?_
                    rintro e w5 ⟨rfl, hb5⟩
                    have hb6 := hbA.trans (hb5.mono hbA.size)
                    have d2 : w5.cell? ⟨wr.heap.size, 2, none⟩ = some (.bool false) := cell_keep hb5 (cell_fresh wr #[Value.int IntKind.i64 ↑num, Value.string rb, Value.bool false] 40 2)
                    go_wp2_with fail
                    refine (unhide HDW _ ((unhide HU).below (hb1.trans (hb6.mono hb1.size)))).mono ?_
                    rintro e w7 ⟨rfl, hb7⟩
                    have hb8 := hb6.trans (hb7.mono hb6.size)
                    have d1 : w7.cell? ⟨wr.heap.size, 1, none⟩ = some (.string rb) := cell_keep hb7 (cell_keep hb5 (cell_fresh wr #[Value.int IntKind.i64 ↑num, Value.string rb, Value.bool false] 40 1))
                    go_wp2_with fail
                    exact unhide FIN _ (by simp) hb8
                  | false =>
                    cases b95 with
                    | true =>
                      go_wp2_with fail
                      refine (unhide HLW _ (unhide HUA)).mono ?_
                      rintro e w5 ⟨rfl, hb5⟩
                      have hb6 := hbA.trans (hb5.mono hbA.size)
                      have d2 : w5.cell? ⟨wr.heap.size, 2, none⟩ = some (.bool false) := cell_keep hb5 (cell_fresh wr #[Value.int IntKind.i64 ↑num, Value.string rb, Value.bool false] 40 2)
                      go_wp2_with fail
                      refine (unhide HDW _ ((unhide HU).below (hb1.trans (hb6.mono hb1.size)))).mono ?_
                      rintro e w7 ⟨rfl, hb7⟩
                      have hb8 := hb6.trans (hb7.mono hb6.size)
                      have d1 : w7.cell? ⟨wr.heap.size, 1, none⟩ = some (.string rb) := cell_keep hb7 (cell_keep hb5 (cell_fresh wr #[Value.int IntKind.i64 ↑num, Value.string rb, Value.bool false] 40 1))
                      go_wp2_with fail
                      exact unhide FIN _ (by simp) hb8
                    | false =>
                      cases b46 with
                      | true =>
                        go_wp2_with fail
                        refine (unhide HLW _ (unhide HUA)).mono ?_
                        rintro e w5 ⟨rfl, hb5⟩
                        have hb6 := hbA.trans (hb5.mono hbA.size)
                        have d2 : w5.cell? ⟨wr.heap.size, 2, none⟩ = some (.bool false) := cell_keep hb5 (cell_fresh wr #[Value.int IntKind.i64 ↑num, Value.string rb, Value.bool false] 40 2)
                        go_wp2_with fail
                        refine (unhide HDW _ ((unhide HU).below (hb1.trans (hb6.mono hb1.size)))).mono ?_
                        rintro e w7 ⟨rfl, hb7⟩
                        have hb8 := hb6.trans (hb7.mono hb6.size)
                        have d1 : w7.cell? ⟨wr.heap.size, 1, none⟩ = some (.string rb) := cell_keep hb7 (cell_keep hb5 (cell_fresh wr #[Value.int IntKind.i64 ↑num, Value.string rb, Value.bool false] 40 1))
                        go_wp2_with fail
                        exact unhide FIN _ (by simp) hb8
                      | false =>
                        have HV := hide (unhide BAD (by simp))
                        go_wp2_with fail
                        refine (unhide HLW _ (unhide HUA)).mono ?_
                        rintro e w5 ⟨rfl, hb5⟩
                        have hb6 := hbA.trans (hb5.mono hbA.size)
                        have d2 : w5.cell? ⟨wr.heap.size, 2, none⟩ = some (.bool false) := cell_keep hb5 (cell_fresh wr #[Value.int IntKind.i64 ↑num, Value.string rb, Value.bool false] 40 2)
                        go_wp2_with fail
                        refine (unhide HDW _ ((unhide HU).below (hb1.trans (hb6.mono hb1.size)))).mono ?_
                        rintro e w7 ⟨rfl, hb7⟩
                        have hb8 := hb6.trans (hb7.mono hb6.size)
                        have d1 : w7.cell? ⟨wr.heap.size, 1, none⟩ = some (.string rb) := cell_keep hb7 (cell_keep hb5 (cell_fresh wr #[Value.int IntKind.i64 ↑num, Value.string rb, Value.bool false] 40 1))
                        go_wp2_with fail
                        go_ret
                        rw [unhide HV]
                        exact ⟨rfl, hb1.trans (hb8.mono hb1.size)⟩
      · go_wp2_with fail
        go_ret
        have h4 := unhide HO
        rw [List.drop_of_length_le (by omega)] at h4
        have hout := unhide HOUT
        rw [nameV_good (by omega) (by omega) (by rw [h4]; rfl)]
        exact ⟨rfl, hb1.trans (hbw.mono hb1.size)⟩
end Go.Proofs.YtdgebadjlkmdiaaDoor
