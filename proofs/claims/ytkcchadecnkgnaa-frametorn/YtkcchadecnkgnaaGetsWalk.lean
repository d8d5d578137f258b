/-
  FrameGets: the walk.
-/
import Derived.Test.YtkcchadecnkgnaaFAlive
import Derived.Test.YtkcchadecnkgnaaRGet
namespace Go.Proofs.Ytkcchadecnkgnaa
open Go.RowKit

theorem getF_n (l : List Sec) : (getF l).2.2.2 ≤ 64 := by
  by_cases h : toldF l = 0 ∨ l.length < toldF l
  · rw [getF_none h]
    exact Nat.zero_le _
  · rw [getF_some h]
    split
    · exact toldF_le l
    · exact Nat.zero_le _

set_option maxRecDepth 100000 in
set_option maxHeartbeats 1000000 in
theorem frameGets.inner (v : Value) (ss : List Sec) (w : World) (hr : SRowV w.heap.size w v ss) : Calls Try.prog 5 #[v] w fun e w' => e = .returned (.bool true) ∧ Below w.heap.size w w' := by
  have HR := hide hr
  have H0 := hide (fun w => alive_walk w)
  obtain ⟨a, len, cap, rfl, q1, q2, q3, hrow⟩ := hr
  have hlen : ss.length = len := hrow.1
  have HSEC := hide hrow.2.1
  clear hrow
  by_cases h20 : 20 < len
  · clear hlen
    go_enter Try.func5, Try.ntmps5
    go_wp2_with fail
    refine (unhide H0 w).mono ?_
    rintro e w1 ⟨rfl, hb1⟩
    have Hb1 := hide hb1
    clear hb1
    go_wp2_with fail
    go_ret
    exact ⟨rfl, unhide Hb1⟩
  · have hl20 : ss.length ≤ 20 := by omega
    have HD := hide (getF_doc (l := ss) (unhide HSEC))
    have HF := hide (flat_length (l := ss) (unhide HSEC))
    clear hlen
    go_enter Try.func5, Try.ntmps5
    go_wp2_with fail
    refine (unhide H0 w).mono ?_
    rintro e w1 ⟨rfl, hb1⟩
    have Hb1 := hide hb1
    have H1 := hide (get_walk w.heap.size (.slice a len cap) ss w1 hb1.size ((unhide HR).below hb1))
    clear hb1
    go_wp2_with fail
    refine (unhide H1).mono ?_
    rintro e w2 ⟨⟨v2, rfl, hR2⟩, hb2⟩
    have HR2 := hide hR2
    have Hb2 := hide ((unhide Hb1).trans (hb2.mono (unhide Hb1).size))
    have H2 := hide (join_walk w.heap.size (.slice a len cap) ss w2 (unhide Hb2).size ((unhide HR).below (unhide Hb2)) (by omega))
    clear hR2 hb2 H1 Hb1
    go_wp2_with fail
    refine (unhide H2).mono ?_
    rintro e w3 ⟨v3, rfl, hO3, hb3⟩
    have HR3 := hide (((unhide HR2).below hb3).up hb3.size)
    have Hb3 := hide ((unhide Hb2).trans (hb3.mono (unhide Hb2).size))
    have H3 := hide (refget_walk w3.heap.size v3 ss.flatten w3 (Nat.le_refl _) (hO3.row (by rw [unhide HF]; omega)) (by rw [unhide HF]; omega))
    rw [unhide HD] at H3
    clear hO3 hb3 H2 HR2 Hb2
    go_wp2_with fail
    refine (unhide H3).mono ?_
    rintro e w4 ⟨⟨v4, rfl, hR4⟩, hb4⟩
    have HR4 := hide hR4
    have HR5 := hide (((unhide HR3).below hb4).up hb4.size)
    have Hb4 := hide ((unhide Hb3).trans (hb4.mono (unhide Hb3).size))
    clear hR4 hb4 H3 HR3 Hb3
    have hn64 := getF_n ss
    generalize getF ss = g at *
    obtain ⟨gk, gs, gb, gn⟩ := g
    simp only at HR4 HR5 hn64
    have hgk := gk.toNat_lt
    have ht1 := run_text (unhide HR5)
    have ht2 := run_text (unhide HR4)
    have hself : ((tx gb).toList == (tx gb).toList) = true := by simp
    clear HR4 HR5 HD HF H0 HR HSEC
    simp only
    generalize tx gb = tb at *
    go_wp2_with fail
    go_ret
    exact ⟨rfl, unhide Hb4⟩
end Go.Proofs.Ytkcchadecnkgnaa
