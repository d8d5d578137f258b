/-
  What the document's Right of a table answers.
-/
import Derived.Test.YtdfdalkcljfghaaGreatTApply
namespace Go.Proofs.YtdfdalkcljfghaaGreat.Slot
open Go.RowKit

set_option maxHeartbeats 3200000 in
set_option maxRecDepth 100000 in
theorem rrightT_walk (t : T) (ht : FitT t) (w : World) : Calls Tryz.prog 20 #[t.v] w fun e w' => e = .returned (.bool (rightT t)) ∧ Below w.heap.size w w' := by
  have HR0 : Hid (∀ w b, Arr w b t.cs → w.rangeAt b 0 t.s0.cs) := hide fun w b h => trange0 (o := 0) h.range
  have HR1 : Hid (∀ w b, Arr w b t.cs → w.rangeAt b 36 t.s1.cs) := hide fun w b h => by have := trange1 (o := 0) ht h.range; simpa using this
  have HI0 := hide (info34s ht.s0.dg)
  have HI1 := hide (info34s ht.s1.dg)
  have HG := hide (tget ht)
  have HW0 : Hid (∀ w, Calls Tryz.prog 45 #[.agg t.s0.cs.toArray] w fun e w' => e = .returned (.bool (right t.s0)) ∧ Below w.heap.size w w') := hide (rright_walk t.s0 ht.s0)
  have HW1 : Hid (∀ w, Calls Tryz.prog 45 #[.agg t.s1.cs.toArray] w fun e w' => e = .returned (.bool (right t.s1)) ∧ Below w.heap.size w w') := hide (rright_walk t.s1 ht.s1)
  have Hr : Hid (rightT t = (right t.s0 && (right t.s1 && (decide (0 ≤ t.act) && decide (t.act ≤ 1) && decide (-1 ≤ t.boo) && decide (t.boo ≤ 1) && decide ((t.flo : Int) ≤ 281474976710656))))) := by
    show _ = _
    rw [Bool.eq_iff_iff, rightT_iff]
    simp only [Bool.and_eq_true, decide_eq_true_eq]
    constructor
    · rintro ⟨h1, h2, h3, h4, h5⟩
      exact ⟨h1, h2, ⟨⟨⟨by omega, by omega⟩, by omega⟩, by omega⟩, by omega⟩
    · rintro ⟨h1, h2, ⟨⟨⟨h3, h4⟩, h5⟩, h6⟩, h7⟩
      exact ⟨h1, h2, by omega, by omega, by omega⟩
  unfold T.v
  clear ht
  generalize t.cs = X at *
  generalize t.s0.cs = S0 at *
  generalize t.s1.cs = S1 at *
  generalize right t.s0 = r0 at *
  generalize right t.s1 = r1 at *
  generalize rightT t = R at *
  generalize t.act = xa at *
  generalize t.boo = xb at *
  generalize (t.flo : Int) = xf at *
  go_enter Tryz.func20, Tryz.ntmps20
  go_wp2_with (refine wpList_box 37 _ X rfl rfl rfl ?_)
  intro w1 hA1 hb1 hs1
  have HA1 := hide hA1
  have Hb1 := hide hb1
  have HS0 := hide (unhide HR0 w1 _ hA1)
  clear hA1 hb1
  go_wp2_with (refine wpList_loadPart 34 _ w.heap.size 0 S0 _ rfl rfl rfl (unhide HS0) Tryz.underlying34 rfl (unhide HI0) ?_)
  refine (unhide HW0 w1).mono ?_
  rintro e w2 ⟨rfl, hb2⟩
  have HA2 := hide ((unhide HA1).below hb2)
  have Hb2 := hide ((unhide Hb1).trans (hb2.mono (unhide Hb1).size))
  clear hb2 HA1 Hb1 HW0
  cases r0 with
  | false =>
    go_wp2
    go_ret
    exact ⟨by rw [unhide Hr]; rfl, unhide Hb2⟩
  | true =>
    have HS1 := hide (unhide HR1 w2 _ (unhide HA2))
    go_wp2_with ((with_reducible refine wpList_guarded ?_ ?_); rfl; refine wpList_loadPart 34 _ w.heap.size 36 S1 _ rfl rfl rfl (unhide HS1) Tryz.underlying34 rfl (unhide HI1) ?_)
    refine (unhide HW1 w2).mono ?_
    rintro e w3 ⟨rfl, hb3⟩
    have HA3 := hide ((unhide HA2).below hb3)
    have Hb3 := hide ((unhide Hb2).trans (hb3.mono (unhide Hb2).size))
    clear hb3 HA2 Hb2 HW1
    cases r1 with
    | false =>
      go_wp2
      go_ret
      exact ⟨by rw [unhide Hr]; rfl, unhide Hb3⟩
    | true =>
      have c72 := (unhide HA3).cell (unhide HG).1
      have c73 := (unhide HA3).cell (unhide HG).2.1
      have c74 := (unhide HA3).cell (unhide HG).2.2
      go_wp2
      all_goals
        go_ret
        refine ⟨congrArg (fun b => Ending.returned (Value.bool b)) ?_, unhide Hb3⟩
        rw [unhide Hr]
        rw [Bool.eq_iff_iff]
        simp only [Bool.and_eq_true, decide_eq_true_eq, Bool.false_eq_true, false_iff]
        first | omega | simp_all
end Go.Proofs.YtdfdalkcljfghaaGreat.Slot
