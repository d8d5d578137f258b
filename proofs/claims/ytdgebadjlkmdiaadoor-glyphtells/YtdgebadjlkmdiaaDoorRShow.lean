/-
  How bootjackref04 shows a text.
-/
import Derived.Test.YtdgebadjlkmdiaaDoorRunes
import Derived.Test.YtdgebadjlkmdiaaDoorDig
import Derived.Test.YtdgebadjlkmdiaaDoorOps2
namespace Go.Proofs.YtdgebadjlkmdiaaDoor
open Go.RowKit

def V7 (ob d1 d2 : ByteArray) (g5 num : Nat) : Nat → Value
  | 0 => .string ob
  | 1 => .pointer (some ⟨g5, 0, none⟩)
  | 2 => .int .i64 (num : Int)
  | 3 => .int .i64 ((num / 16 : Nat) : Int)
  | 4 => .string d1
  | 5 => .string (⟨#[92, 120]⟩ ++ d1)
  | 6 => .pointer (some ⟨g5, 0, none⟩)
  | 7 => .int .i64 (num : Int)
  | 8 => .int .i64 ((num % 16 : Nat) : Int)
  | 9 => .string d2
  | 10 => .string (⟨#[92, 120]⟩ ++ d1 ++ d2)
  | 11 => .string (ob ++ (⟨#[92, 120]⟩ ++ d1 ++ d2))
  | _ => .bool false

/-- Each of a text's runes is one that the text begins with somewhere. -/
theorem runes_one : ∀ (l : List UInt8) (r : Ru), r ∈ runes l → ∃ l', l' ≠ [] ∧ r = one l' := by
  apply runes_ind
  · intro r h; simp [runes_nil] at h
  · intro l hl ih r h
    rw [runes_cons l hl, List.mem_cons] at h
    rcases h with rfl | h
    · exact ⟨l, hl, rfl⟩
    · exact ih r h

set_option maxHeartbeats 16000000 in
set_option maxRecDepth 1000000 in
theorem rshow_walk (s : ByteArray) (hs : s.size ≤ 100000) (w : World) :
    Calls Tryd.prog 19 #[.string s] w fun e w' => e = .returned (.string (tx (showL s.data.toList))) ∧ Below w.heap.size w w' := by
  have hR := runes_at s (by omega)
  have hall := runes_one s.data.toList
  have hlen := runes_len s.data.toList
  rw [len_of] at hlen
  have hsh : showL s.data.toList = (runes s.data.toList).flatMap shown := rfl
  have hsl := showL_len s.data.toList
  rw [len_of] at hsl
  generalize runes s.data.toList = rs at *
  generalize showL s.data.toList = sh at *
  have HR := hide hR
  have HALL := hide hall
  clear hR hall
  go_enter Tryd.func19, Tryd.ntmps19
  go_wp2_with (go_at_call 13; refine (unhide HR _).mono ?_; rintro e w1 ⟨av, cap, rfl, hL, hb1⟩)
  go_loopw [3, 9] (fun vo vi wr => ∃ (i : Nat) (out : List UInt8), vo = .string (tx out) ∧ vi = .int .i64 (i : Int) ∧ i ≤ rs.length ∧ Hid (out ++ (rs.drop i).flatMap shown = sh) ∧ Below w1.heap.size w1 wr) (fun _ vi _ => rs.length - (intOf vi).toNat)
  case atStart =>
    exact ⟨0, [], rfl, rfl, Nat.zero_le _, hide (by rw [hsh]; simp), Below.refl _ _⟩
  case round =>
    obtain ⟨i0, out, rfl, rfl, hi, HO, hbw⟩ := hrel
    by_cases hlt : i0 < rs.length
    · obtain ⟨g, rfl, hg, hcell⟩ := hL.below hbw (Nat.le_refl _) i0 hlt
      have c0 := hcell 0 (by decide)
      have c1 := hcell 1 (by decide)
      have c2 := hcell 2 (by decide)
      rw [Nat.add_zero] at c0
      simp only [ruC, List.getElem?_cons_zero, List.getElem?_cons_succ] at c0 c1 c2
      have hmem : rs.getD i0 ⟨0, [], false⟩ ∈ rs := by
        rw [List.getD_eq_getElem?_getD, List.getElem?_eq_getElem hlt]
        exact List.getElem_mem hlt
      have hdrop : rs.drop i0 = rs.getD i0 ⟨0, [], false⟩ :: rs.drop (i0 + 1) := by
        rw [List.drop_eq_getElem_cons hlt, List.getD_eq_getElem?_getD, List.getElem?_eq_getElem hlt]
        rfl
      generalize rs.getD i0 ⟨0, [], false⟩ = r at *
      obtain ⟨l', hl', hr'⟩ := unhide HALL r hmem
      have hbz : (tx r.bytes).size ≤ 4 := by
        rw [tx_size, hr', one_bytes, List.length_take]
        have : (Lib.decodeL l').2 ≤ 4 := by
          rw [Lib.decodeL_N l']
          rcases Lib.decodeN_shape l'.length (l'.getD 0 0).toNat (l'.getD 1 0).toNat (l'.getD 2 0).toNat (l'.getD 3 0).toNat with ⟨c, e⟩ | ⟨c1, c2, c3, cv, e⟩ | ⟨c1, c2, c3, c4, cv, cs, e⟩ | ⟨c1, c2, c3, c4, c5, cv, cw, e⟩ | e
          all_goals (rw [e]; simp)
        omega
      have hnum : r.num ≤ 1114111 := by
        rw [hr']
        unfold one
        have := Lib.decodeL_rune l'
        have := (l'.getD 0 0).toNat_lt
        split
        · dsimp only; omega
        · dsimp only; omega
      have hnumB : r.brk = true → r.num < 256 := by
        rw [hr']
        unfold one
        have := (l'.getD 0 0).toNat_lt
        split
        · intro _; dsimp only; omega
        · intro h; exact absurd h (by simp)
      have hout : out.length ≤ sh.length := by
        have := congrArg List.length (unhide HO)
        rw [List.length_append] at this
        omega
      have hoz : (tx out).size ≤ 1000000 := by rw [tx_size]; omega
      have h2 := unhide HO
      rw [hdrop, List.flatMap_cons, ← List.append_assoc] at h2
      have fin : ∀ (q : ByteArray) (w4 : World), q = tx (out ++ shown r) → Below w1.heap.size w1 w4 →
          ((∃ (i : Nat) (out : List UInt8), Value.string q = .string (tx out) ∧ Value.int .i64 ((i0 : Int) + 1) = .int .i64 (i : Int) ∧ i ≤ rs.length ∧ Hid (out ++ (rs.drop i).flatMap shown = sh) ∧ Below w1.heap.size w1 w4) ∧
            rs.length - (intOf (Value.int .i64 ((i0 : Int) + 1))).toNat < rs.length - (intOf (Value.int .i64 (i0 : Int))).toNat) := by
        rintro q w4 rfl hb4
        exact ⟨⟨i0 + 1, out ++ shown r, rfl, by congr 1, by omega, hide h2, hb4⟩, by simp [intOf]; omega⟩
      have FIN := hide fin
      clear fin h2 hout hcell hmem hdrop hl' HO
      have HNB := hide hnumB
      clear hnumB hr'
      have HSH : Hid (∀ x, x = shown r → tx out ++ tx x = tx (out ++ shown r)) := hide (fun x hx => by rw [hx, tx_append])
      cases hbrk : r.brk with
      | true =>
        have hn256 := unhide HNB hbrk
        have HS : Hid ([92, 120] ++ [hexd (r.num / 16)] ++ [hexd (r.num % 16)] = shown r) := hide (by unfold shown; rw [hbrk]; rfl)
        rw [hbrk] at c2
        have D1 := dig_small (r.num / 16) (by omega)
        have D2 := dig_small (r.num % 16) (by omega)
        rw [hexL_small (show r.num / 16 < 16 by omega)] at D1
        rw [hexL_small (show r.num % 16 < 16 by omega)] at D2
        have HF : Hid (tx out ++ (⟨#[92, 120]⟩ ++ tx [hexd (r.num / 16)] ++ tx [hexd (r.num % 16)]) = tx (out ++ shown r)) := hide (by
          rw [← unhide HSH _ (unhide HS), ← tx_append, ← tx_append]; rfl)
        have HZ : Hid ((⟨#[92, 120]⟩ : ByteArray).size + (tx [hexd (r.num / 16)]).size ≤ 9223372036854775807 ∧ ((⟨#[92, 120]⟩ : ByteArray) ++ tx [hexd (r.num / 16)]).size + (tx [hexd (r.num % 16)]).size ≤ 9223372036854775807 ∧ (tx out).size + ((⟨#[92, 120]⟩ : ByteArray) ++ tx [hexd (r.num / 16)] ++ tx [hexd (r.num % 16)]).size ≤ 9223372036854775807) := by
          refine hide ⟨?_, ?_, ?_⟩
          · rw [tx_size]; show 2 + 1 ≤ _; omega
          · rw [ByteArray.size_append, tx_size, tx_size]; show 2 + 1 + 1 ≤ _; omega
          · rw [ByteArray.size_append, ByteArray.size_append, tx_size [_], tx_size [_]]
            show (tx out).size + (2 + 1 + 1) ≤ _
            omega
        generalize tx [hexd (r.num / 16)] = d1 at *
        generalize tx [hexd (r.num % 16)] = d2 at *
        generalize tx r.bytes = rb at *
        generalize r.num = num at *
        generalize tx out = ob at *
        have HD1 := hide D1
        have HD2 := hide D2
        clear hbrk D1 D2
        go_wp2_with fail
        have hb5 : Below w1.heap.size w1 (wr.alloc (Obj.cells #[Value.int IntKind.i64 ↑num, Value.string rb, Value.bool true] 40)) := hbw.alloc hbw.size _
        refine Free.wp_region_tail 12 (VV (V7 ob d1 d2 wr.heap.size num)) (fun w' => Below (wr.alloc (Obj.cells #[Value.int IntKind.i64 ↑num, Value.string rb, Value.bool true] 40)).heap.size (wr.alloc (Obj.cells #[Value.int IntKind.i64 ↑num, Value.string rb, Value.bool true] 40)) w') (by kernel_rfl) (by decide) (by kernel_rfl) (by kernel_rfl) (by kernel_rfl) VV.stable (Below.drew (Below.refl _ _)) ⟨?_, ?_, ?_, ?_, ?_, ?_, ?_, ?_, ?_, ?_, ?_, ?_, trivial⟩ ?_
        · exact Free.owed_move (Free.goes_plain rfl) (.inl rfl) fun a w' _ hs hd => (hs 3 (by kernel_rfl))
        · exact Free.owed_pure (Free.goes_plain rfl) fun a w' hC hs hd => ⟨_, op_field0 rfl (hs 5 (by kernel_rfl)) w', rfl⟩
        · exact Free.owed_pure (Free.goes_plain rfl) fun a w' hC hs hd => ⟨_, op_load3 rfl (hd 1 24 (by kernel_rfl)) (by rw [cell_below hC (by simp)]; exact cell_fresh _ _ _ 0), rfl⟩
        · exact Free.owed_pure (Free.goes_plain rfl) fun a w' hC hs hd => ⟨_, op_quo3 rfl (hd 2 25 (by kernel_rfl)) rfl (by omega) (by omega) (by omega) w', rfl⟩
        · refine Free.owed_call (Free.goes_plain rfl) fun a w' hC hs hd => ?_
          refine ⟨31, _, op_call31 rfl (hd 3 26 (by kernel_rfl)) rfl w', (unhide HD1 w').mono ?_⟩
          rintro e w7 ⟨rfl, hb7⟩
          exact ⟨_, rfl, hb7, hC.trans (hb7.mono hC.size), rfl⟩
        · exact Free.owed_pure (Free.goes_plain rfl) fun a w' hC hs hd => ⟨_, op_add9 rfl rfl (hd 4 27 (by kernel_rfl)) rfl (unhide HZ).1 w', rfl⟩
        · exact Free.owed_pure (Free.goes_plain rfl) fun a w' hC hs hd => ⟨_, op_field0 rfl (hs 5 (by kernel_rfl)) w', rfl⟩
        · exact Free.owed_pure (Free.goes_plain rfl) fun a w' hC hs hd => ⟨_, op_load3 rfl (hd 6 29 (by kernel_rfl)) (by rw [cell_below hC (by simp)]; exact cell_fresh _ _ _ 0), rfl⟩
        · exact Free.owed_pure (Free.goes_plain rfl) fun a w' hC hs hd => ⟨_, op_rem3 rfl (hd 7 30 (by kernel_rfl)) rfl (by omega) (by omega) (by omega) w', rfl⟩
        · refine Free.owed_call (Free.goes_plain rfl) fun a w' hC hs hd => ?_
          refine ⟨31, _, op_call31 rfl (hd 8 31 (by kernel_rfl)) rfl w', (unhide HD2 w').mono ?_⟩
          rintro e w7 ⟨rfl, hb7⟩
          exact ⟨_, rfl, hb7, hC.trans (hb7.mono hC.size), rfl⟩
        · exact Free.owed_pure (Free.goes_plain rfl) fun a w' hC hs hd => ⟨_, op_add9 rfl (hd 5 28 (by kernel_rfl)) (hd 9 32 (by kernel_rfl)) rfl (unhide HZ).2.1 w', rfl⟩
        · exact Free.owed_pure (Free.goes_plain rfl) fun a w' hC hs hd => ⟨_, op_add9 rfl (hd 0 23 (by kernel_rfl)) (hd 10 33 (by kernel_rfl)) rfl (unhide HZ).2.2 w', rfl⟩

        · intro w6 hC vals hv
          have e12 : vals 11 = .string (ob ++ (⟨#[92, 120]⟩ ++ d1 ++ d2)) := hv 11 _ 34 rfl rfl
          clear hv
          simp only [Free.putAll, List.take, List.drop, Act.put, List.setIfInBounds_toArray, List.set_cons_succ, List.set_cons_zero, e12]
          clear e12
          have hb6 := hb5.trans (hC.mono hb5.size)
          clear hC hb5
          rw [unhide HF]
          go_wp2_with fail
          exact unhide FIN _ _ rfl hb6
      | false =>
        rw [hbrk] at c2
        by_cases hpl : plainN r.num = true
        · have HS : Hid (r.bytes = shown r) := hide (by unfold shown; rw [hbrk, hpl]; rfl)
          have hp := hpl
          simp only [plainN, Bool.and_eq_true, decide_eq_true_eq] at hp
          obtain ⟨⟨⟨p1, p2⟩, p3⟩, p4⟩ := hp
          have q1 : 32 ≤ (r.num : Int) := by omega
          have q2 : (r.num : Int) ≤ 126 := by omega
          have q3 : ¬ (r.num : Int) = 34 := by omega
          have q4 : ¬ (r.num : Int) = 92 := by omega
          have HF := hide (unhide HSH r.bytes (unhide HS))
          clear p1 p2 p3 p4 hpl hbrk HNB HS HSH
          generalize tx r.bytes = rb at *
          generalize r.num = num at *
          generalize tx out = ob at *
          go_wp2_with fail
          all_goals first | exact unhide FIN _ _ (unhide HF) (hbw.alloc hbw.size _) | (exfalso; omega) | (exfalso; simp_all; done)
        · have HS : Hid ([92, 117, 123] ++ hexL r.num ++ [125] = shown r) := hide (by unfold shown; rw [hbrk]; simp [hpl])
          have hp : r.num < 32 ∨ 126 < r.num ∨ r.num = 34 ∨ r.num = 92 := by
            simp only [plainN, Bool.and_eq_true, decide_eq_true_eq] at hpl
            omega
          have q0 : (r.num : Int) < 32 ∨ 126 < (r.num : Int) ∨ (r.num : Int) = 34 ∨ (r.num : Int) = 92 := by omega
          have D1 := dig_walk r.num (by omega)
          have hdl := hexF_len (r.num + 1) r.num (by omega)
          have hdz : (tx (hexL r.num)).size ≤ 6 := by rw [tx_size]; exact hdl
          have HF : Hid (tx out ++ (⟨#[92, 117, 123]⟩ ++ tx (hexL r.num) ++ ⟨#[125]⟩) = tx (out ++ shown r)) := hide (by
            rw [← unhide HSH _ (unhide HS), ← tx_append, ← tx_append]; rfl)
          have z1 : (⟨#[92, 117, 123]⟩ : ByteArray).size + (tx (hexL r.num)).size ≤ 9223372036854775807 := by
            show 3 + (tx (hexL r.num)).size ≤ _
            omega
          have z2 : ((⟨#[92, 117, 123]⟩ : ByteArray) ++ tx (hexL r.num)).size + (⟨#[125]⟩ : ByteArray).size ≤ 9223372036854775807 := by
            rw [ByteArray.size_append]
            show 3 + (tx (hexL r.num)).size + 1 ≤ _
            omega
          have z3 : (tx out).size + ((⟨#[92, 117, 123]⟩ : ByteArray) ++ tx (hexL r.num) ++ ⟨#[125]⟩).size ≤ 9223372036854775807 := by
            rw [ByteArray.size_append, ByteArray.size_append]
            show (tx out).size + (3 + (tx (hexL r.num)).size + 1) ≤ _
            omega
          clear hp hpl hbrk HNB HS HSH hdl
          generalize tx (hexL r.num) = d at *
          generalize tx r.bytes = rb at *
          generalize r.num = num at *
          generalize tx out = ob at *
          have HD1 := hide D1
          clear D1
          rcases q0 with q0 | q0 | q0 | q0
          · go_wp2_with (go_at_call 31; refine (unhide HD1 _).mono ?_; rintro e w5 ⟨rfl, hb5⟩)
            rw [unhide HF]
            exact unhide FIN _ _ rfl ((hbw.alloc hbw.size _).trans (hb5.mono (hbw.alloc hbw.size _).size))
          · go_wp2_with (go_at_call 31; refine (unhide HD1 _).mono ?_; rintro e w5 ⟨rfl, hb5⟩)
            rw [unhide HF]
            exact unhide FIN _ _ rfl ((hbw.alloc hbw.size _).trans (hb5.mono (hbw.alloc hbw.size _).size))
          · obtain rfl : num = 34 := by omega
            have HD : Hid (∀ w, Calls Tryd.prog 31 #[.int .i64 34] w fun e w' => e = .returned (.string d) ∧ Below w.heap.size w w') := HD1
            clear q0 HD1
            go_wp2_with (go_at_call 31; refine (unhide HD _).mono ?_; rintro e w5 ⟨rfl, hb5⟩)
            rw [unhide HF]
            exact unhide FIN _ _ rfl ((hbw.alloc hbw.size _).trans (hb5.mono (hbw.alloc hbw.size _).size))
          · obtain rfl : num = 92 := by omega
            have HD : Hid (∀ w, Calls Tryd.prog 31 #[.int .i64 92] w fun e w' => e = .returned (.string d) ∧ Below w.heap.size w w') := HD1
            clear q0 HD1
            go_wp2_with (go_at_call 31; refine (unhide HD _).mono ?_; rintro e w5 ⟨rfl, hb5⟩)
            rw [unhide HF]
            exact unhide FIN _ _ rfl ((hbw.alloc hbw.size _).trans (hb5.mono (hbw.alloc hbw.size _).size))
    · go_wp2
      go_ret
      have h2 := unhide HO
      rw [List.drop_of_length_le (by omega)] at h2
      simp at h2
      rw [← h2]
      exact ⟨rfl, hb1.trans (hbw.mono hb1.size)⟩
end Go.Proofs.YtdgebadjlkmdiaaDoor
