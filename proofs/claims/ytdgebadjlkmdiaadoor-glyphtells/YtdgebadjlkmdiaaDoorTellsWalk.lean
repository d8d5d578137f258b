/-
  GlyphTells returns true, whatever the two texts and the number.
-/
import Derived.Test.YtdgebadjlkmdiaaDoorRLoops
import Derived.Test.YtdgebadjlkmdiaaDoorRName
namespace Go.Proofs.YtdgebadjlkmdiaaDoor.glyphTells
open Go.RowKit Go.Lib

theorem str_eq (s : ByteArray) : (s.toList == s.toList) = true := by simp
theorem bad_rune : isLetterU 65533 = false ∧ isDigitU 65533 = false := by decide +kernel

set_option maxHeartbeats 32000000 in
set_option maxRecDepth 1000000 in
theorem walk (a b : ByteArray) (n : Int) (W : World) (hU : Uni W) (ha : a.size ≤ maxLen) (hb : b.size ≤ maxLen) (hn : (Lit.int .i64 n).wf = true) :
    Calls Tryd.prog 4 #[.string a, .string b, .int .i64 n] W fun e W' => e = .returned (.bool true) ∧ Below W.heap.size W W' := by
  have hn1 : -9223372036854775808 ≤ n ∧ n ≤ 9223372036854775807 := by simpa [Lit.wf, IntKind.min, IntKind.max, IntKind.signed, IntKind.bits] using hn
  obtain ⟨hn1, hn2⟩ := hn1
  have haz : (a.size : Int) ≤ 9223372036854775807 := by simp only [maxLen] at ha; omega
  have hbz : (b.size : Int) ≤ 9223372036854775807 := by simp only [maxLen] at hb; omega
  clear ha hb hn
  have HA := hide (alive_walk W hU.env)
  by_cases ha5 : 500 < (a.size : Int)
  · go_enter Tryd.func4, Tryd.ntmps4
    go_wp2_with (go_at_call 8; refine (unhide HA).mono ?_; rintro e w1 ⟨rfl, hb1⟩)
    go_ret
    exact ⟨rfl, hb1⟩
  · by_cases hb5 : 500 < (b.size : Int)
    · go_enter Tryd.func4, Tryd.ntmps4
      go_wp2_with (go_at_call 8; refine (unhide HA).mono ?_; rintro e w1 ⟨rfl, hb1⟩)
      go_ret
      exact ⟨rfl, hb1⟩
    · have N1 : ∀ w, Uni w → Calls Tryd.prog 9 #[.string a] w fun e w' => e = .returned (.int .i64 (nameV fitB (runes a.data.toList))) ∧ Below w.heap.size w w' := fun w hU =>
        name_walk fitB (fun r hr b w hU => fits_walk r (by omega) (by omega) b w hU) a (by omega) w hU
      have N2 : ∀ w, Uni w → Calls Tryd.prog 11 #[.string a] w fun e w' => e = .returned (.int .i64 (nameV fitB (runes a.data.toList))) ∧ Below w.heap.size w w' := fun w hU =>
        rname_walk isLetterU isDigitU bad_rune (fun r hr w hU => Tryd.unicode_IsLetter_all r w (by omega) (by omega) hU.pr hU.le) (fun r hr w hU => Tryd.unicode_IsDigit_all r w (by omega) (by omega) hU.di) a (by omega) w hU
      have L1 : ∀ w, Uni w → Calls Tryd.prog 12 #[.string a] w fun e w' => e = .returned (.int .i64 ((runes a.data.toList).length : Nat)) ∧ Below w.heap.size w w' := fun w _ => len_walk a w (by omega)
      have L2 : ∀ w, Uni w → Calls Tryd.prog 13 #[.string a] w fun e w' => ∃ av cap, e = .returned (.slice av (runes a.data.toList).length cap) ∧ Below w.heap.size w w' := fun w _ => by
        refine (runes_at a (by omega) w).mono ?_
        rintro e w' ⟨av, cap, rfl, _, hb⟩
        exact ⟨av, cap, rfl, hb⟩
      have F1 : ∀ w, Uni w → Calls Tryd.prog 14 #[.string a] w fun e w' => e = .returned (.string (tx (foldL toLowerU a.data.toList))) ∧ Below w.heap.size w w' := fun w hU => fold_walk toLowerU low_ok a (by omega) w hU
      have F2 : ∀ w, Uni w → Calls Tryd.prog 15 #[.string a] w fun e w' => e = .returned (.string (tx (foldL toLowerU a.data.toList))) ∧ Below w.heap.size w w' := fun w hU => rfold_walk a (by omega) toLowerU low_ok low_valid w hU
      have F3 : ∀ w, Uni w → Calls Tryd.prog 15 #[.string b] w fun e w' => e = .returned (.string (tx (foldL toLowerU b.data.toList))) ∧ Below w.heap.size w w' := fun w hU => rfold_walk b (by omega) toLowerU low_ok low_valid w hU
      have S0 : ∀ w, Uni w → Calls Tryd.prog 10 #[.string a, .string b] w fun e w' => e = .returned (.bool ((tx (foldL toLowerU a.data.toList)).toList == (tx (foldL toLowerU b.data.toList)).toList)) ∧ Below w.heap.size w w' := fun w hU => same_walk toLowerU low_ok a b (by omega) (by omega) w hU
      have C1 : ∀ w, Uni w → Calls Tryd.prog 16 #[.string a, .int .i64 n] w fun e w' => e = .returned (.string (tx (((runes a.data.toList).take n.toNat).flatMap Ru.bytes))) ∧ Below w.heap.size w w' := fun w _ => cut_walk a n hn1 hn2 w (by omega)
      have C2 : ∀ w, Uni w → Calls Tryd.prog 17 #[.string a, .int .i64 n] w fun e w' => e = .returned (.string (tx (((runes a.data.toList).take n.toNat).flatMap Ru.bytes))) ∧ Below w.heap.size w w' := fun w _ => rcut_walk a (by omega) n hn1 hn2 w
      have W1 : ∀ w, Uni w → Calls Tryd.prog 18 #[.string a] w fun e w' => e = .returned (.string (tx (showL a.data.toList))) ∧ Below w.heap.size w w' := fun w hU => show_walk a w hU.env (by omega)
      have W2 : ∀ w, Uni w → Calls Tryd.prog 19 #[.string a] w fun e w' => e = .returned (.string (tx (showL a.data.toList))) ∧ Below w.heap.size w w' := fun w _ => rshow_walk a (by omega) w
      generalize nameV fitB (runes a.data.toList) = nv at *
      generalize tx (((runes a.data.toList).take n.toNat).flatMap Ru.bytes) = cu at *
      generalize tx (foldL toLowerU a.data.toList) = fa at *
      generalize tx (foldL toLowerU b.data.toList) = fb at *
      generalize tx (showL a.data.toList) = sa at *
      generalize hm : (runes a.data.toList).length = m at *
      clear hm
      generalize hfe : (fa.toList == fb.toList) = fe at *
      have HU := hide hU
      have HN1 := hide N1
      have HN2 := hide N2
      have HL1 := hide L1
      have HL2 := hide L2
      have HF1 := hide F1
      have HF2 := hide F2
      have HF3 := hide F3
      have HS0 := hide S0
      have HC1 := hide C1
      have HC2 := hide C2
      have HW1 := hide W1
      have HW2 := hide W2
      clear hU N1 N2 L1 L2 F1 F2 F3 S0 C1 C2 W1 W2
      have q1 := str_eq fa
      have q2 := str_eq cu
      have q3 := str_eq sa
      have q4 : (nv == nv) = true := by simp
      go_enter Tryd.func4, Tryd.ntmps4
      go_wp2_with fail
      refine (unhide HA).mono ?_
      rintro e w0 ⟨rfl, b0⟩
      go_wp2_with fail
      refine (unhide HN1 _ ((unhide HU).below b0)).mono ?_
      rintro e w1 ⟨rfl, c1⟩
      have b1 := b0.trans (c1.mono b0.size)
      clear c1
      go_wp2_with fail
      refine (unhide HN2 _ ((unhide HU).below b1)).mono ?_
      rintro e w2 ⟨rfl, c2⟩
      have b2 := b1.trans (c2.mono b1.size)
      clear c2
      go_wp2_with fail
      refine (unhide HL1 _ ((unhide HU).below b2)).mono ?_
      rintro e w3 ⟨rfl, c3⟩
      have b3 := b2.trans (c3.mono b2.size)
      clear c3
      go_wp2_with fail
      refine (unhide HL2 _ ((unhide HU).below b3)).mono ?_
      rintro e w4 ⟨av, cap, rfl, c4⟩
      have b4 := b3.trans (c4.mono b3.size)
      clear c4
      go_wp2_with fail
      refine (unhide HF1 _ ((unhide HU).below b4)).mono ?_
      rintro e w5 ⟨rfl, c5⟩
      have b5 := b4.trans (c5.mono b4.size)
      clear c5
      go_wp2_with fail
      refine (unhide HF2 _ ((unhide HU).below b5)).mono ?_
      rintro e w6 ⟨rfl, c6⟩
      have b6 := b5.trans (c6.mono b5.size)
      clear c6
      go_wp2_with fail
      refine (unhide HS0 _ ((unhide HU).below b6)).mono ?_
      rintro e w7 ⟨rfl, c7⟩
      have b7 := b6.trans (c7.mono b6.size)
      clear c7
      go_wp2_with fail
      refine (unhide HF2 _ ((unhide HU).below b7)).mono ?_
      rintro e w8 ⟨rfl, c8⟩
      have b8 := b7.trans (c8.mono b7.size)
      clear c8
      go_wp2_with fail
      refine (unhide HF3 _ ((unhide HU).below b8)).mono ?_
      rintro e w9 ⟨rfl, c9⟩
      have b9 := b8.trans (c9.mono b8.size)
      clear c9
      go_wp2_with fail
      refine (unhide HC1 _ ((unhide HU).below b9)).mono ?_
      rintro e w10 ⟨rfl, c10⟩
      have b10 := b9.trans (c10.mono b9.size)
      clear c10
      go_wp2_with fail
      refine (unhide HC2 _ ((unhide HU).below b10)).mono ?_
      rintro e w11 ⟨rfl, c11⟩
      have b11 := b10.trans (c11.mono b10.size)
      clear c11
      go_wp2_with fail
      refine (unhide HW1 _ ((unhide HU).below b11)).mono ?_
      rintro e w12 ⟨rfl, c12⟩
      have b12 := b11.trans (c12.mono b11.size)
      clear c12
      go_wp2_with fail
      refine (unhide HW2 _ ((unhide HU).below b12)).mono ?_
      rintro e w13 ⟨rfl, c13⟩
      have b13 := b12.trans (c13.mono b12.size)
      clear c13
      go_wp2_with fail
      go_ret
      exact ⟨rfl, b13⟩
end Go.Proofs.YtdgebadjlkmdiaaDoor.glyphTells
