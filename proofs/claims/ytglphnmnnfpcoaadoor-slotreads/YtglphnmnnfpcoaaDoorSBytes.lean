/-
  What slot.Bytes answers, and the document's Bytes.
-/
import Derived.Test.YtglphnmnnfpcoaaDoorSBoot
import Derived.Test.YtglphnmnnfpcoaaDoorSTexs
import Derived.Test.YtglphnmnnfpcoaaDoorCRefPut
namespace Go.Proofs.YtglphnmnnfpcoaaDoor
open Go.RowKit

theorem full34 : ∃ i, Tryd.prog.info? 34 = some i ∧ i.zero = some (.slice none 0 0) ∧ i.size = 1 ∧ i.bytes = 24 := infoOf (by kernel_rfl)
section
variable {ops : Array Oper} {rest : List Oper} {o : Oper} {a : Act} {w : World} {Q : Exit → Act → World → Prop}
theorem run_one76 (w : World) (ad : Option Addr) (n c : Nat) : (Instr.buildSlice 76 1 #[(0, .slice ad n c)]).run Tryd.prog w = .ok (.slice (some ⟨w.heap.size, 0, none⟩) 1 1) (w.alloc (.cells #[.slice ad n c] 34)) := by
  obtain ⟨i, i1, i2, i3, i4⟩ := full34
  exact run_buildSlice (P := Tryd.prog) w 76 34 1 #[(0, .slice ad n c)] #[.slice ad n c] i _ Tryd.underlying76 i1 i2 (by rw [i3]; decide) (by rw [i3]; decide) (by rw [i3]; kernel_rfl)
theorem wpList_one76 (x : Operand) (ad : Option Addr) (n c : Nat) (ho : o.op = .buildSlice 76 1 #[(0, x)]) (hg : o.guard = none) (hx : a.eval x = .slice ad n c)
    (h : ∀ w', w'.ownsRow w.heap.size 34 1 (.slice (some ⟨w.heap.size, 0, none⟩) 1 1) 1 [.slice ad n c] → Below w.heap.size w w' → w'.heap.size = w.heap.size + 1 → wpList Tryd.prog ops Q rest (a.put o.dst (.slice (some ⟨w.heap.size, 0, none⟩) 1 1)) w') :
    wpList Tryd.prog ops Q (o :: rest) a w := by
  refine wpList_plain hg fun K hK => ?_
  have r : (execOp a.eval o).run Tryd.prog w = .ok (.value (.slice (some ⟨w.heap.size, 0, none⟩) 1 1)) (w.alloc (.cells #[.slice ad n c] 34)) := by
    unfold execOp
    simp only [ho, List.map_toArray, List.map_cons, List.map_nil, hx, Sem.run_bind, run_one76, Result.andThen_ok, Sem.run_pure]
  unfold Oper.wp
  rw [r, Oper.upon_value]
  exact hK _ _ (h _ (owns_one w 34 _) ((Below.refl _ _).alloc (Nat.le_refl _) _) (by simp))
end
theorem run_whole24 (b : Nat) (w : World) : (Instr.sliceAt 24 (.pointer (some ⟨b, 4, none⟩)) none none none).run Tryd.prog w = .ok (.slice (some ⟨b, 4, none⟩) 32 32) w := by
  have hal : Tryd.prog.arrayLen 24 = 32 := by kernel_rfl
  have h := run_sliceAt_array_all (P := Tryd.prog) w 24 ⟨b, 4, none⟩ (by simp [Program.arrayLen, Program.elem, Tryd.underlying24])
  rw [h, hal]
  have hz : (Go.sizeOf (Tryd.prog.elem 24)).run Tryd.prog w = .ok 1 w := by kernel_rfl
  rw [hz]
  rfl
/-- A hash that lies in the midst of a block, as a slice. -/
theorem row_of {N b : Nat} {w : World} {dg : List UInt8} (h : w.rangeAt b 4 (bytesV dg)) (hd : dg.length = 32) (hb : b < N) : RowV N w (.slice (some ⟨b, 4, none⟩) 32 32) dg := by
  refine ⟨_, _, _, rfl, Nat.le_refl _, by decide, by simp, hd, by decide, fun i hi => ⟨b, 4, rfl, hb, ?_⟩⟩
  exact h i _ (bytesV_get dg (by omega))
theorem sizeN1 : sizeN 1 = 1 := rfl
theorem sizeN8 : sizeN 8 = 8 := rfl
theorem sizeN4 : sizeN 4 = 4 := rfl

set_option maxHeartbeats 3200000 in
set_option maxRecDepth 100000 in
theorem bytes_walk (s : S) (hf : Fit s) (w : World) : Calls Tryd.prog 18 #[s.v] w fun e w' => ∃ v, e = .returned v ∧ RowV w'.heap.size w' v (bytesS s) ∧ Below w.heap.size w w' := by
  have HW : Hid (∀ w : World, Calls Tryd.prog 14 #[.agg s.cs.toArray] w fun e w' => e = .returned (.bool (right s)) ∧ Below w.heap.size w w') := hide (right_walk s hf)
  have HS := hide (info26s hf.dg)
  cases hr : right s with
  | false =>
    have Hx : Hid (bytesS s = []) := by
      show _ = _
      unfold bytesS
      rw [if_neg (by rw [hr]; simp)]
    rw [hr] at HW
    clear hf hr
    unfold S.v
    generalize s.cs = K at *
    generalize bytesS s = Bs at *
    go_enter Tryd.func18, Tryd.ntmps18
    go_wp2_with (refine wpList_box 26 _ K rfl rfl rfl ?_)
    intro w1 hA1 hb1 hs1
    have HA1 := hide hA1
    have Hb1 := hide hb1
    clear hA1 hb1
    go_wp2_with (refine wpList_loadAll 26 _ w.heap.size K _ rfl rfl rfl (unhide HA1) Tryd.underlying26 rfl (unhide HS) ?_)
    refine ((unhide HW) w1).mono ?_
    rintro e w3 ⟨rfl, hb3⟩
    have Hb3 := hide ((unhide Hb1).trans (hb3.mono (unhide Hb1).size))
    clear hb3
    go_wp2
    go_ret
    refine ⟨_, rfl, ?_, unhide Hb3⟩
    rw [unhide Hx]
    exact RowV.nil _ _
  | true =>
    have hg := right_range hr
    obtain ⟨sn, hsn⟩ : ∃ n : Nat, s.st = (n : Int) := ⟨s.st.toNat, by omega⟩
    obtain ⟨tn, htn⟩ : ∃ n : Nat, s.tr = (n : Int) := ⟨s.tr.toNat, by omega⟩
    obtain ⟨zn, hzn⟩ : ∃ n : Nat, s.sz = (n : Int) := ⟨s.sz.toNat, by omega⟩
    have Hx : Hid (bytesS s = fixedL sn 1 ++ fixedL tn 1 ++ fixedL s.ver 8 ++ fixedL zn 4 ++ s.dg) := by
      show _ = _
      unfold bytesS
      rw [if_pos hr, hsn, htn, hzn, Int.toNat_natCast, Int.toNat_natCast, Int.toNat_natCast]
    have hver := hf.ver
    have hdg := hf.dg
    have H0 : Hid (s.cs[0]? = some (.int .i64 (sn : Int))) := by rw [← hsn]; exact hide rfl
    have H1 : Hid (s.cs[1]? = some (.int .i64 (tn : Int))) := by rw [← htn]; exact hide rfl
    have H2 : Hid (s.cs[2]? = some (.int .u64 (s.ver : Int))) := hide rfl
    have H3 : Hid (s.cs[3]? = some (.int .i64 (zn : Int))) := by rw [← hzn]; exact hide rfl
    have H4 : Hid (∀ j v, (bytesV s.dg)[j]? = some v → s.cs[4 + j]? = some v) := by
      show ∀ j v, _
      intro j v hj
      rw [← hj, S.cs, Nat.add_comm]
      rfl
    have hs5 : sn ≤ 4 := by omega
    have ht7 : tn ≤ 7 := by omega
    have hz6 : zn ≤ 65536 := by omega
    rw [hr] at HW
    clear hf hr hg hsn htn hzn
    unfold S.v
    generalize s.cs = K at *
    generalize s.ver = ver at *
    generalize bytesS s = Bs at *
    generalize s.dg = dg at *
    have cv1 : IntKind.u64.wrap (sn : Int) = (sn : Int) := by rw [IntKind.wrap_u64]; omega
    have cv2 : IntKind.u64.wrap (tn : Int) = (tn : Int) := by rw [IntKind.wrap_u64]; omega
    have cv3 : IntKind.u64.wrap (zn : Int) = (zn : Int) := by rw [IntKind.wrap_u64]; omega
    have Hs : Hid (sn < 18446744073709551616) := by show _ < _; omega
    have Ht : Hid (tn < 18446744073709551616) := by show _ < _; omega
    have Hz : Hid (zn < 18446744073709551616) := by show _ < _; omega
    have Hv := hide hver
    have Hd := hide hdg
    clear hver hdg
    go_enter Tryd.func18, Tryd.ntmps18
    go_wp2_with (refine wpList_box 26 _ K rfl rfl rfl ?_)
    intro w1 hA1 hb1 hs1
    have HA1 := hide hA1
    have Hb1 := hide hb1
    clear hA1 hb1
    go_wp2_with (refine wpList_loadAll 26 _ w.heap.size K _ rfl rfl rfl (unhide HA1) Tryd.underlying26 rfl (unhide HS) ?_)
    refine ((unhide HW) w1).mono ?_
    rintro e w2 ⟨rfl, hb2⟩
    have HA2 := hide ((unhide HA1).below hb2)
    have Hb2 := hide ((unhide Hb1).trans (hb2.mono (unhide Hb1).size))
    clear hb2 HA1 Hb1
    have d0 := (unhide HA2).cell (unhide H0)
    go_wp2_with fail
    refine (fixed_walk w2.heap.size _ [] sn (unhide Hs) 1 w2 (Nat.le_refl _) (RowV.nil _ _) (by simp)).mono ?_
    rintro e w3 ⟨v3, rfl, ho3, hb3⟩
    rw [List.nil_append, sizeN1] at ho3
    have HR3 := hide (ho3.row (by rw [fixedL_length]; decide))
    have HA3 := hide ((unhide HA2).below hb3)
    have Hb3 := hide ((unhide Hb2).trans (hb3.mono (unhide Hb2).size))
    clear hb3 ho3 HA2 Hb2 d0
    have d1 := (unhide HA3).cell (unhide H1)
    go_wp2_with fail
    refine (fixed_walk w3.heap.size _ _ tn (unhide Ht) 1 w3 (Nat.le_refl _) (unhide HR3) (by rw [fixedL_length]; omega)).mono ?_
    rintro e w4 ⟨v4, rfl, ho4, hb4⟩
    rw [sizeN1] at ho4
    have HR4 := hide (ho4.row (by simp only [List.length_append, fixedL_length]; omega))
    have HA4 := hide ((unhide HA3).below hb4)
    have Hb4 := hide ((unhide Hb3).trans (hb4.mono (unhide Hb3).size))
    clear hb4 ho4 HA3 Hb3 d1 HR3
    have d2 := (unhide HA4).cell (unhide H2)
    go_wp2_with fail
    refine (fixed_walk w4.heap.size _ _ ver (unhide Hv) 8 w4 (Nat.le_refl _) (unhide HR4) (by simp only [List.length_append, fixedL_length]; omega)).mono ?_
    rintro e w5 ⟨v5, rfl, ho5, hb5⟩
    rw [sizeN8] at ho5
    have HR5 := hide (ho5.row (by simp only [List.length_append, fixedL_length]; omega))
    have HA5 := hide ((unhide HA4).below hb5)
    have Hb5 := hide ((unhide Hb4).trans (hb5.mono (unhide Hb4).size))
    clear hb5 ho5 HA4 Hb4 d2 HR4
    have d3 := (unhide HA5).cell (unhide H3)
    go_wp2_with fail
    refine (fixed_walk w5.heap.size _ _ zn (unhide Hz) 4 w5 (Nat.le_refl _) (unhide HR5) (by simp only [List.length_append, fixedL_length]; omega)).mono ?_
    rintro e w6 ⟨v6, rfl, ho6, hb6⟩
    rw [sizeN4] at ho6
    have HR6 := hide (ho6.row (by simp only [List.length_append, fixedL_length]; omega))
    have HA6 := hide ((unhide HA5).below hb6)
    have Hb6 := hide ((unhide Hb5).trans (hb6.mono (unhide Hb5).size))
    have HRG := hide ((unhide HA6).rangeMid 4 (bytesV dg) (unhide H4))
    have Hlt : Hid (w.heap.size < w6.heap.size) := hide (unhide HA6).lt
    have hsl := run_whole24 w.heap.size
    clear hb6 ho6 HA5 Hb5 d3 HR5
    go_wp2_with (refine wpList_one76 _ (some ⟨w.heap.size, 4, none⟩) 32 32 rfl rfl rfl ?_)
    intro w7 ho7 hb7 hs7
    have HR7 := hide (RowV.below (unhide HR6) hb7)
    have HRD : Hid (RowV w7.heap.size w7 (.slice (some ⟨w.heap.size, 4, none⟩) 32 32) dg) := by
      show RowV _ _ _ _
      have h := row_of (N := w6.heap.size) (unhide HRG) (unhide Hd) (unhide Hlt)
      exact (RowV.below h hb7).up hb7.size
    have HP : Hid (Parts w7.heap.size w7 (some ⟨w6.heap.size, 0, none⟩) 1 [dg]) := by
      show Parts _ _ _ _ _
      refine ⟨rfl, fun i hi => ?_⟩
      obtain rfl : i = 0 := by omega
      obtain ⟨g2, cap, e2, _, hg2, _, hc⟩ := owns_at ho7 (i := 0) (by omega)
      cases e2
      exact ⟨_, 0, _, rfl, hg2, hc, unhide HRD⟩
    have Hb7 := hide ((unhide Hb6).trans (hb7.mono (unhide Hb6).size))
    have Hle7 : Hid (w6.heap.size ≤ w7.heap.size) := hide hb7.size
    clear ho7 hb7 hs7 HR6 HRG Hlt Hb6 HRD HA6
    go_wp2_with fail
    refine (raw_walk w7.heap.size _ _ _ 1 1 [dg] w7 (Nat.le_refl _) ((unhide HR7).up (unhide Hle7)) (unhide HP) (by simp only [List.length_append, fixedL_length]; omega) (by have := unhide Hd; simp; omega) (by omega)).mono ?_
    rintro e w8 ⟨v8, rfl, ho8, hb8⟩
    have Hb8 := hide ((unhide Hb7).trans (hb8.mono (unhide Hb7).size))
    have HR8 := hide (ho8.row (by have := unhide Hd; simp [fixedL_length]; omega))
    clear hb8 ho8 Hb7
    go_wp2
    go_ret
    refine ⟨_, rfl, ?_, unhide Hb8⟩
    have h := unhide HR8
    simp only [List.flatten_cons, List.flatten_nil, List.append_nil] at h
    rw [unhide Hx]
    exact h
end Go.Proofs.YtglphnmnnfpcoaaDoor
