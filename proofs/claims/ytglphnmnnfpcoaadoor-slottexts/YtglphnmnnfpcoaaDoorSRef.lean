/-
  What the document's Right and Bootable answer, and slot.Bootable, slot.whole, slot.checked.
-/
import Derived.Test.YtglphnmnnfpcoaaDoorSRight
import Derived.Deep.CutRange
namespace Go.Proofs.YtglphnmnnfpcoaaDoor
open Go.RowKit

theorem built24 : Tryd.prog.built 24 [] = some (bytesV zeros32).toArray := by kernel_rfl

set_option maxHeartbeats 1600000 in
set_option maxRecDepth 100000 in
theorem rright_walk (s : S) (hf : Fit s) (w : World) : Calls Tryd.prog 15 #[s.v] w fun e w' => e = .returned (.bool (right s)) ∧ Below w.heap.size w w' := by
  have hdg := hf.dg
  have he := run_equal24 s.dg zeros32 hdg rfl
  have HB := hide built24
  obtain ⟨N, hN⟩ : ∃ N, N = ((s.tr == 0) && ((s.ver : Int) == 0) && (s.sz == 0) && decide (s.dg = zeros32)) := ⟨_, rfl⟩
  obtain ⟨I, hI⟩ : ∃ I, I = (decide ((s.ver : Int) ≥ 1) && decide ((s.ver : Int) ≤ 281474976710656) && decide (s.sz ≥ 1) && decide (s.sz ≤ 65536)) := ⟨_, rfl⟩
  have HN := hide hN
  have HI := hide hI
  have Hr : Hid (right s = if s.st = 0 ∨ s.st = 1 ∨ s.st = 4 then N else if s.st = 2 then I && decide (0 ≤ s.tr) && decide (s.tr ≤ 7) else if s.st = 3 then I && decide (s.tr = 0) else false) := by
    show _ = _
    have e1 : N = decide (s = bare s.st) := by
      rw [hN, slot_eq]
      simp [bare, Bool.and_assoc]
      rfl
    have e2 : I = img s := by
      rw [hI, Bool.eq_iff_iff]
      simp only [Bool.and_eq_true, decide_eq_true_eq, img]
      omega
    rw [e1, e2]
    unfold right
    have e3 : (decide (0 ≤ s.tr ∧ s.tr ≤ 7) && img s) = (img s && decide (0 ≤ s.tr) && decide (s.tr ≤ 7)) := by
      rw [Bool.eq_iff_iff]
      simp only [Bool.and_eq_true, decide_eq_true_eq]
      exact ⟨fun h => ⟨⟨h.2, h.1.1⟩, h.1.2⟩, fun h => ⟨⟨h.1.2, h.2⟩, h.1.1⟩⟩
    rw [e3, Bool.and_comm (decide (s.tr = 0))]
  clear hN hI
  generalize decide (s.dg = zeros32) = D at *
  generalize hZ : bytesV zeros32 = Z at *
  clear hZ
  have HG := hide (info24s hdg)
  have H0 : Hid (s.cs[0]? = some (.int .i64 s.st)) := hide rfl
  have H1 : Hid (s.cs[1]? = some (.int .i64 s.tr)) := hide rfl
  have H2 : Hid (s.cs[2]? = some (.int .u64 (s.ver : Int))) := hide rfl
  have H3 : Hid (s.cs[3]? = some (.int .i64 s.sz)) := hide rfl
  have H4 : Hid (∀ j v, (bytesV s.dg)[j]? = some v → s.cs[4 + j]? = some v) := by
    show ∀ j v, _
    intro j v hj
    rw [← hj, S.cs, Nat.add_comm]
    rfl
  unfold S.v
  generalize right s = R at *
  generalize s.cs = C at *
  generalize bytesV s.dg = G at *
  clear hf hdg
  generalize s.st = x at *
  generalize s.tr = y at *
  generalize s.ver = v at *
  generalize s.sz = z at *
  go_enter Tryd.func15, Tryd.ntmps15
  go_upto_region 1 with (refine wpList_box 26 _ C rfl rfl rfl ?_)
  intro w1 hA1 hb1 hs1
  have c0 := hA1.cell (unhide H0)
  have c1 := hA1.cell (unhide H1)
  have c2 := hA1.cell (unhide H2)
  have c3 := hA1.cell (unhide H3)
  have HRG := hide (hA1.rangeMid 4 G (unhide H4))
  have Hb := hide hb1
  clear hA1 hb1 hs1
  go_upto_region 1 with fail
  go_cut [3] from 5 to 23 (fun c wx => c = .bool N ∧ wx = w1)
  case first =>
    go_wp2_with (first
      | refine wpList_guarded rfl (wpList_load_mid rfl 24 _ rfl w.heap.size 4 rfl G _ (unhide HRG) Tryd.underlying24 rfl (unhide HG) ?_)
      | refine wpList_guarded rfl (wpList_build 24 _ Z [] rfl rfl rfl (unhide HB) ?_))
    all_goals
      go_meet
      case rel =>
        refine ⟨?_, rfl⟩
        rw [unhide HN]
        refine congrArg Value.bool ?_
        rw [Bool.eq_iff_iff]
        simp only [Bool.and_eq_true, beq_iff_eq, Bool.false_eq_true, false_iff]
        first
          | omega
          | (constructor
             · intro hd
               exact ⟨⟨⟨by omega, by omega⟩, by omega⟩, hd⟩
             · exact fun hd => hd.2)
  case rest =>
    obtain ⟨rfl, hw⟩ := hcut
    subst wc
    clear he HB HG HRG HN H2 H3
    go_upto_region 2 with fail
    go_cut [4] from 24 to 41 (fun c wx => c = .bool I ∧ wx = w1)
    case first =>
      go_wp2
      all_goals
        go_meet
        case rel =>
          refine ⟨?_, rfl⟩
          rw [unhide HI]
          refine congrArg Value.bool ?_
          rw [Bool.eq_iff_iff]
          simp only [Bool.and_eq_true, decide_eq_true_eq, Bool.false_eq_true, false_iff]
          omega
    case rest =>
      obtain ⟨rfl, hw⟩ := hcut
      subst wc
      clear HI c2 c3
      by_cases h0 : x = 0 ∨ x = 1 ∨ x = 4
      · rw [if_pos h0] at Hr
        have hx : (x == 0) = true ∨ (x == 0) = false ∧ (x == 1) = true ∨ (x == 0) = false ∧ (x == 1) = false ∧ (x == 4) = true := by
          rcases h0 with h | h | h <;> subst h <;> decide
        clear h0
        rcases hx with h1 | ⟨h1, h2⟩ | ⟨h1, h2, h3⟩
        all_goals
          go_wp2
          go_ret
          refine ⟨?_, unhide Hb⟩
          rw [unhide Hr]
          rfl
      · rw [if_neg h0] at Hr
        have n0 : (x == 0) = false := by simp; omega
        have n1 : (x == 1) = false := by simp; omega
        have n4 : (x == 4) = false := by simp; omega
        clear h0
        by_cases h2 : x = 2
        · rw [if_pos h2] at Hr
          have e2 : (x == 2) = true := by simpa using h2
          clear h2
          cases I with
          | false =>
            go_wp2
            go_ret
            refine ⟨?_, unhide Hb⟩
            rw [unhide Hr]
            rfl
          | true =>
            go_wp2
            all_goals
              go_ret
              refine ⟨congrArg (fun b => Ending.returned (Value.bool b)) ?_, unhide Hb⟩
              rw [unhide Hr]
              rw [Bool.eq_iff_iff]
              simp only [Bool.and_eq_true, decide_eq_true_eq, Bool.false_eq_true, false_iff, true_and]
              omega
        · rw [if_neg h2] at Hr
          have e2 : (x == 2) = false := by simpa using h2
          by_cases h3 : x = 3
          · rw [if_pos h3] at Hr
            have e3 : (x == 3) = true := by simpa using h3
            clear h2 h3
            cases I with
            | false =>
              go_wp2
              go_ret
              refine ⟨?_, unhide Hb⟩
              rw [unhide Hr]
              rfl
            | true =>
              go_wp2
              all_goals
                go_ret
                refine ⟨congrArg (fun b => Ending.returned (Value.bool b)) ?_, unhide Hb⟩
                rw [unhide Hr]
                rw [Bool.eq_iff_iff]
                simp
          · rw [if_neg h3] at Hr
            have e3 : (x == 3) = false := by simpa using h3
            clear h2 h3
            go_wp2
            go_ret
            refine ⟨?_, unhide Hb⟩
            rw [unhide Hr]
            rfl

end Go.Proofs.YtglphnmnnfpcoaaDoor
