/-
  What slot.Bytes answers, and the document's Bytes. What slot.Read answers.
-/
import Derived.Test.YtdfdalkcljfghaaGreatLRight
import Derived.Test.YtdfdalkcljfghaaGreatLCode
import Derived.Test.YtdfdalkcljfghaaGreatJBods
import Derived.Test.YtdfdalkcljfghaaGreatFlow
import Derived.Laws.CopyRow
import Derived.Laws.IdiomCopy
namespace Go.Proofs.YtdfdalkcljfghaaGreat.Slot
open Go.RowKit

theorem kept {w w' : World} {b i : Nat} {v : Value} (h : w.cell? ⟨b, i, none⟩ = some v) (hb : Below w.heap.size w w') : w'.cell? ⟨b, i, none⟩ = some v :=
  (hb.cell (p := ⟨b, i, none⟩) (lt_of_cell h)).trans h

theorem full34 : ∃ i, Tryz.prog.info? 46 = some i ∧ i.zero = some (.slice none 0 0) ∧ i.size = 1 ∧ i.bytes = 24 := infoOf (by kernel_rfl)
section
variable {ops : Array Oper} {rest : List Oper} {o : Oper} {a : Act} {w : World} {Q : Exit → Act → World → Prop}
theorem run_one76 (w : World) (ad : Option Addr) (n c : Nat) : (Instr.buildSlice 94 1 #[(0, .slice ad n c)]).run Tryz.prog w = .ok (.slice (some ⟨w.heap.size, 0, none⟩) 1 1) (w.alloc (.cells #[.slice ad n c] 46)) := by
  obtain ⟨i, i1, i2, i3, i4⟩ := full34
  exact run_buildSlice (P := Tryz.prog) w 94 46 1 #[(0, .slice ad n c)] #[.slice ad n c] i _ Tryz.underlying94 i1 i2 (by rw [i3]; decide) (by rw [i3]; decide) (by rw [i3]; kernel_rfl)
theorem wpList_one76 (x : Operand) (ad : Option Addr) (n c : Nat) (ho : o.op = .buildSlice 94 1 #[(0, x)]) (hg : o.guard = none) (hx : a.eval x = .slice ad n c)
    (h : ∀ w', w'.ownsRow w.heap.size 46 1 (.slice (some ⟨w.heap.size, 0, none⟩) 1 1) 1 [.slice ad n c] → Below w.heap.size w w' → w'.heap.size = w.heap.size + 1 → wpList Tryz.prog ops Q rest (a.put o.dst (.slice (some ⟨w.heap.size, 0, none⟩) 1 1)) w') :
    wpList Tryz.prog ops Q (o :: rest) a w := by
  refine wpList_plain hg fun K hK => ?_
  have r : (execOp a.eval o).run Tryz.prog w = .ok (.value (.slice (some ⟨w.heap.size, 0, none⟩) 1 1)) (w.alloc (.cells #[.slice ad n c] 46)) := by
    unfold execOp
    simp only [ho, List.map_toArray, List.map_cons, List.map_nil, hx, Sem.run_bind, run_one76, Result.andThen_ok, Sem.run_pure]
  unfold Oper.wp
  rw [r, Oper.upon_value]
  exact hK _ _ (h _ (owns_one w 46 _) ((Below.refl _ _).alloc (Nat.le_refl _) _) (by simp))
end
theorem run_whole24 (b : Nat) (w : World) : (Instr.sliceAt 32 (.pointer (some ⟨b, 4, none⟩)) none none none).run Tryz.prog w = .ok (.slice (some ⟨b, 4, none⟩) 32 32) w := by
  have hal : Tryz.prog.arrayLen 32 = 32 := by kernel_rfl
  have h := run_sliceAt_array_all (P := Tryz.prog) w 32 ⟨b, 4, none⟩ (by simp [Program.arrayLen, Program.elem, Tryz.underlying32])
  rw [h, hal]
  have hz : (Go.sizeOf (Tryz.prog.elem 32)).run Tryz.prog w = .ok 1 w := by kernel_rfl
  rw [hz]
  rfl
/-- A hash that lies in the midst of a block, as a slice. -/
theorem row_of {N b : Nat} {w : World} {dg : List UInt8} (h : w.rangeAt b 4 (bytesV dg)) (hd : dg.length = 32) (hb : b < N) : RowV N w (.slice (some ⟨b, 4, none⟩) 32 32) dg := by
  refine ⟨_, _, _, rfl, Nat.le_refl _, by decide, by simp, hd, by decide, fun i hi => ⟨b, 4, rfl, hb, ?_⟩⟩
  exact h i _ (bytesV_get dg (by omega))
theorem sizeN1 : sizeN 1 = 1 := rfl
theorem sizeN8 : sizeN 8 = 8 := rfl
theorem sizeN4 : sizeN 4 = 4 := rfl

set_option maxHeartbeats 3200000 in
set_option maxRecDepth 100000 in
theorem bytes_walk (s : S) (hf : Fit s) (w : World) : Calls Tryz.prog 56 #[s.v] w fun e w' => ∃ v, e = .returned v ∧ RowV w'.heap.size w' v (bytesS s) ∧ Below w.heap.size w w' := by
  have HW : Hid (∀ w : World, Calls Tryz.prog 60 #[.agg s.cs.toArray] w fun e w' => e = .returned (.bool (right s)) ∧ Below w.heap.size w w') := hide (right_walk s hf)
  have HS := hide (info34s hf.dg)
  cases hr : right s with
  | false =>
    have Hx : Hid (bytesS s = []) := by
      show _ = _
      unfold bytesS
      rw [if_neg (by rw [hr]; simp)]
    rw [hr] at HW
    clear hf hr
    unfold S.v
    generalize s.cs = K at *
    generalize bytesS s = Bs at *
    go_enter Tryz.func56, Tryz.ntmps56
    go_wp2_with (refine wpList_box 34 _ K rfl rfl rfl ?_)
    intro w1 hA1 hb1 hs1
    have HA1 := hide hA1
    have Hb1 := hide hb1
    clear hA1 hb1
    go_wp2_with (refine wpList_loadAll 34 _ w.heap.size K _ rfl rfl rfl (unhide HA1) Tryz.underlying34 rfl (unhide HS) ?_)
    refine ((unhide HW) w1).mono ?_
    rintro e w3 ⟨rfl, hb3⟩
    have Hb3 := hide ((unhide Hb1).trans (hb3.mono (unhide Hb1).size))
    clear hb3
    go_wp2
    go_ret
    refine ⟨_, rfl, ?_, unhide Hb3⟩
    rw [unhide Hx]
    exact RowV.nil _ _
  | true =>
    have hg := right_range hr
    obtain ⟨sn, hsn⟩ : ∃ n : Nat, s.st = (n : Int) := ⟨s.st.toNat, by omega⟩
    obtain ⟨tn, htn⟩ : ∃ n : Nat, s.tr = (n : Int) := ⟨s.tr.toNat, by omega⟩
    obtain ⟨zn, hzn⟩ : ∃ n : Nat, s.sz = (n : Int) := ⟨s.sz.toNat, by omega⟩
    have Hx : Hid (bytesS s = fixedL sn 1 ++ fixedL tn 1 ++ fixedL s.ver 8 ++ fixedL zn 4 ++ s.dg) := by
      show _ = _
      unfold bytesS
      rw [if_pos hr, hsn, htn, hzn, Int.toNat_natCast, Int.toNat_natCast, Int.toNat_natCast]
    have hver := hf.ver
    have hdg := hf.dg
    have H0 : Hid (s.cs[0]? = some (.int .i64 (sn : Int))) := by rw [← hsn]; exact hide rfl
    have H1 : Hid (s.cs[1]? = some (.int .i64 (tn : Int))) := by rw [← htn]; exact hide rfl
    have H2 : Hid (s.cs[2]? = some (.int .u64 (s.ver : Int))) := hide rfl
    have H3 : Hid (s.cs[3]? = some (.int .i64 (zn : Int))) := by rw [← hzn]; exact hide rfl
    have H4 : Hid (∀ j v, (bytesV s.dg)[j]? = some v → s.cs[4 + j]? = some v) := by
      show ∀ j v, _
      intro j v hj
      rw [← hj, S.cs, Nat.add_comm]
      rfl
    have hs5 : sn ≤ 4 := by omega
    have ht7 : tn ≤ 7 := by omega
    have hz6 : zn ≤ 65536 := by omega
    rw [hr] at HW
    clear hf hr hg hsn htn hzn
    unfold S.v
    generalize s.cs = K at *
    generalize s.ver = ver at *
    generalize bytesS s = Bs at *
    generalize s.dg = dg at *
    have cv1 : IntKind.u64.wrap (sn : Int) = (sn : Int) := by rw [IntKind.wrap_u64]; omega
    have cv2 : IntKind.u64.wrap (tn : Int) = (tn : Int) := by rw [IntKind.wrap_u64]; omega
    have cv3 : IntKind.u64.wrap (zn : Int) = (zn : Int) := by rw [IntKind.wrap_u64]; omega
    have Hs : Hid (sn < 18446744073709551616) := by show _ < _; omega
    have Ht : Hid (tn < 18446744073709551616) := by show _ < _; omega
    have Hz : Hid (zn < 18446744073709551616) := by show _ < _; omega
    have Hv := hide hver
    have Hd := hide hdg
    clear hver hdg
    go_enter Tryz.func56, Tryz.ntmps56
    go_wp2_with (refine wpList_box 34 _ K rfl rfl rfl ?_)
    intro w1 hA1 hb1 hs1
    have HA1 := hide hA1
    have Hb1 := hide hb1
    clear hA1 hb1
    go_wp2_with (refine wpList_loadAll 34 _ w.heap.size K _ rfl rfl rfl (unhide HA1) Tryz.underlying34 rfl (unhide HS) ?_)
    refine ((unhide HW) w1).mono ?_
    rintro e w2 ⟨rfl, hb2⟩
    have HA2 := hide ((unhide HA1).below hb2)
    have Hb2 := hide ((unhide Hb1).trans (hb2.mono (unhide Hb1).size))
    clear hb2 HA1 Hb1
    have d0 := (unhide HA2).cell (unhide H0)
    go_wp2_with fail
    refine (fixed_walk w2.heap.size _ [] sn (unhide Hs) 1 w2 (Nat.le_refl _) (RowV.nil _ _) (by simp)).mono ?_
    rintro e w3 ⟨v3, rfl, ho3, hb3⟩
    rw [List.nil_append, sizeN1] at ho3
    have HR3 := hide (ho3.row (by rw [fixedL_length]; decide))
    have HA3 := hide ((unhide HA2).below hb3)
    have Hb3 := hide ((unhide Hb2).trans (hb3.mono (unhide Hb2).size))
    clear hb3 ho3 HA2 Hb2 d0
    have d1 := (unhide HA3).cell (unhide H1)
    go_wp2_with fail
    refine (fixed_walk w3.heap.size _ _ tn (unhide Ht) 1 w3 (Nat.le_refl _) (unhide HR3) (by rw [fixedL_length]; omega)).mono ?_
    rintro e w4 ⟨v4, rfl, ho4, hb4⟩
    rw [sizeN1] at ho4
    have HR4 := hide (ho4.row (by simp only [List.length_append, fixedL_length]; omega))
    have HA4 := hide ((unhide HA3).below hb4)
    have Hb4 := hide ((unhide Hb3).trans (hb4.mono (unhide Hb3).size))
    clear hb4 ho4 HA3 Hb3 d1 HR3
    have d2 := (unhide HA4).cell (unhide H2)
    go_wp2_with fail
    refine (fixed_walk w4.heap.size _ _ ver (unhide Hv) 8 w4 (Nat.le_refl _) (unhide HR4) (by simp only [List.length_append, fixedL_length]; omega)).mono ?_
    rintro e w5 ⟨v5, rfl, ho5, hb5⟩
    rw [sizeN8] at ho5
    have HR5 := hide (ho5.row (by simp only [List.length_append, fixedL_length]; omega))
    have HA5 := hide ((unhide HA4).below hb5)
    have Hb5 := hide ((unhide Hb4).trans (hb5.mono (unhide Hb4).size))
    clear hb5 ho5 HA4 Hb4 d2 HR4
    have d3 := (unhide HA5).cell (unhide H3)
    go_wp2_with fail
    refine (fixed_walk w5.heap.size _ _ zn (unhide Hz) 4 w5 (Nat.le_refl _) (unhide HR5) (by simp only [List.length_append, fixedL_length]; omega)).mono ?_
    rintro e w6 ⟨v6, rfl, ho6, hb6⟩
    rw [sizeN4] at ho6
    have HR6 := hide (ho6.row (by simp only [List.length_append, fixedL_length]; omega))
    have HA6 := hide ((unhide HA5).below hb6)
    have Hb6 := hide ((unhide Hb5).trans (hb6.mono (unhide Hb5).size))
    have HRG := hide ((unhide HA6).rangeMid 4 (bytesV dg) (unhide H4))
    have Hlt : Hid (w.heap.size < w6.heap.size) := hide (unhide HA6).lt
    have hsl := run_whole24 w.heap.size
    clear hb6 ho6 HA5 Hb5 d3 HR5
    go_wp2_with (refine wpList_one76 _ (some ⟨w.heap.size, 4, none⟩) 32 32 rfl rfl rfl ?_)
    intro w7 ho7 hb7 hs7
    have HR7 := hide (RowV.below (unhide HR6) hb7)
    have HRD : Hid (RowV w7.heap.size w7 (.slice (some ⟨w.heap.size, 4, none⟩) 32 32) dg) := by
      show RowV _ _ _ _
      have h := row_of (N := w6.heap.size) (unhide HRG) (unhide Hd) (unhide Hlt)
      exact (RowV.below h hb7).up hb7.size
    have HP : Hid (Parts w7.heap.size w7 (some ⟨w6.heap.size, 0, none⟩) 1 [dg]) := by
      show Parts _ _ _ _ _
      refine ⟨rfl, fun i hi => ?_⟩
      obtain rfl : i = 0 := by omega
      obtain ⟨g2, cap, e2, _, hg2, _, hc⟩ := owns_at ho7 (i := 0) (by omega)
      cases e2
      exact ⟨_, 0, _, rfl, hg2, hc, unhide HRD⟩
    have Hb7 := hide ((unhide Hb6).trans (hb7.mono (unhide Hb6).size))
    have Hle7 : Hid (w6.heap.size ≤ w7.heap.size) := hide hb7.size
    clear ho7 hb7 hs7 HR6 HRG Hlt Hb6 HRD HA6
    go_wp2_with fail
    refine (raw_walk w7.heap.size _ _ _ 1 1 [dg] w7 (Nat.le_refl _) ((unhide HR7).up (unhide Hle7)) (unhide HP) (by simp only [List.length_append, fixedL_length]; omega) (by have := unhide Hd; simp; omega) (by omega)).mono ?_
    rintro e w8 ⟨v8, rfl, ho8, hb8⟩
    have Hb8 := hide ((unhide Hb7).trans (hb8.mono (unhide Hb7).size))
    have HR8 := hide (ho8.row (by have := unhide Hd; simp [fixedL_length]; omega))
    clear hb8 ho8 Hb7
    go_wp2
    go_ret
    refine ⟨_, rfl, ?_, unhide Hb8⟩
    have h := unhide HR8
    simp only [List.flatten_cons, List.flatten_nil, List.append_nil] at h
    rw [unhide Hx]
    exact h

set_option maxHeartbeats 3200000 in
set_option maxRecDepth 100000 in
theorem rbytes_walk (s : S) (hf : Fit s) (w : World) : Calls Tryz.prog 64 #[s.v] w fun e w' => ∃ v, e = .returned v ∧ RowV w'.heap.size w' v (bytesS s) ∧ Below w.heap.size w w' := by
  have HW : Hid (∀ w : World, Calls Tryz.prog 45 #[.agg s.cs.toArray] w fun e w' => e = .returned (.bool (right s)) ∧ Below w.heap.size w w') := hide (rright_walk s hf)
  have HS := hide (info34s hf.dg)
  have HEm := hide Own.empty
  cases hr : right s with
  | false =>
    have Hx : Hid (bytesS s = []) := by
      show _ = _
      unfold bytesS
      rw [if_neg (by rw [hr]; simp)]
    rw [hr] at HW
    clear hf hr
    unfold S.v
    generalize s.cs = K at *
    generalize bytesS s = Bs at *
    go_enter Tryz.func64, Tryz.ntmps64
    go_wp2_with (refine wpList_box 34 _ K rfl rfl rfl ?_)
    intro w1 hA1 hb1 hs1
    have HA1 := hide hA1
    have Hb1 := hide hb1
    have Hs1 := hide hs1
    clear hA1 hb1 hs1
    have ho := unhide HEm w1
    have hbe : Below w1.heap.size w1 (w1.alloc (.cells #[] 5)) := (Below.refl _ _).alloc (Nat.le_refl _) _
    have HA2 := hide ((unhide HA1).below hbe)
    have Ho := hide ho
    have Hb2 := hide ((unhide Hb1).trans (hbe.mono (unhide Hb1).size))
    clear ho hbe
    go_wp2_with (refine wpList_loadAll 34 _ w.heap.size K _ rfl rfl rfl (unhide HA2) Tryz.underlying34 rfl (unhide HS) ?_)
    refine ((unhide HW) _).mono ?_
    rintro e w3 ⟨rfl, hb3⟩
    have Ho := hide ((unhide Ho).keepB hb3)
    have Hb3 := hide ((unhide Hb2).trans (hb3.mono (unhide Hb2).size))
    clear hb3
    go_wp2
    go_ret
    refine ⟨_, rfl, ?_, unhide Hb3⟩
    rw [unhide Hx]
    exact (unhide Ho).row (by simp)
  | true =>
    have hg := right_range hr
    obtain ⟨sn, hsn⟩ : ∃ n : Nat, s.st = (n : Int) := ⟨s.st.toNat, by omega⟩
    obtain ⟨tn, htn⟩ : ∃ n : Nat, s.tr = (n : Int) := ⟨s.tr.toNat, by omega⟩
    obtain ⟨zn, hzn⟩ : ∃ n : Nat, s.sz = (n : Int) := ⟨s.sz.toNat, by omega⟩
    have Hx : Hid (bytesS s = [] ++ [UInt8.ofNat sn, UInt8.ofNat tn] ++ fixedL s.ver 8 ++ fixedL zn 4 ++ s.dg) := by
      show _ = _
      unfold bytesS
      rw [if_pos hr, hsn, htn, hzn, Int.toNat_natCast, Int.toNat_natCast, Int.toNat_natCast]
      rfl
    have hver := hf.ver
    have hdg := hf.dg
    have H0 : Hid (s.cs[0]? = some (.int .i64 (sn : Int))) := by rw [← hsn]; exact hide rfl
    have H1 : Hid (s.cs[1]? = some (.int .i64 (tn : Int))) := by rw [← htn]; exact hide rfl
    have H2 : Hid (s.cs[2]? = some (.int .u64 (s.ver : Int))) := hide rfl
    have H3 : Hid (s.cs[3]? = some (.int .i64 (zn : Int))) := by rw [← hzn]; exact hide rfl
    have H4 : Hid (∀ j v, (bytesV s.dg)[j]? = some v → s.cs[4 + j]? = some v) := by
      show ∀ j v, _
      intro j v hj
      rw [← hj, S.cs, Nat.add_comm]
      rfl
    have hs5 : sn ≤ 4 := by omega
    have ht7 : tn ≤ 7 := by omega
    have hz6 : zn ≤ 65536 := by omega
    rw [hr] at HW
    clear hf hr hg hsn htn hzn
    unfold S.v
    generalize s.cs = K at *
    generalize s.ver = ver at *
    generalize bytesS s = Bs at *
    generalize s.dg = dg at *
    have cv1 : IntKind.u8.wrap (sn : Int) = (sn : Int) := by rw [IntKind.wrap_u8]; omega
    have cv2 : IntKind.u8.wrap (tn : Int) = (tn : Int) := by rw [IntKind.wrap_u8]; omega
    have cv3 : IntKind.u64.wrap (zn : Int) = (zn : Int) := by rw [IntKind.wrap_u64]; omega
    have Hz : Hid (zn < 18446744073709551616) := by show _ < _; omega
    have Hsb : Hid (((UInt8.ofNat sn).toNat : Nat) = sn) := by show _ = _; simp; omega
    have Htb : Hid (((UInt8.ofNat tn).toNat : Nat) = tn) := by show _ = _; simp; omega
    have Hv := hide hver
    have Hd := hide hdg
    clear hver hdg
    go_enter Tryz.func64, Tryz.ntmps64
    go_wp2_with (refine wpList_box 34 _ K rfl rfl rfl ?_)
    intro w1 hA1 hb1 hs1
    have HA1 := hide hA1
    have Hb1 := hide hb1
    have Hs1 : Hid (w.heap.size + 1 ≤ w1.heap.size) := by show _ ≤ _; omega
    clear hA1 hb1 hs1
    have ho := (unhide HEm w1).lower (unhide Hs1)
    have hbe : Below w1.heap.size w1 (w1.alloc (.cells #[] 5)) := (Below.refl _ _).alloc (Nat.le_refl _) _
    have HA2 := hide ((unhide HA1).below hbe)
    have Ho := hide ho
    have Hb2 := hide ((unhide Hb1).trans (hbe.mono (unhide Hb1).size))
    clear ho hbe HA1 Hb1
    go_wp2_with (refine wpList_loadAll 34 _ w.heap.size K _ rfl rfl rfl (unhide HA2) Tryz.underlying34 rfl (unhide HS) ?_)
    refine ((unhide HW) _).mono ?_
    rintro e w3 ⟨rfl, hb3⟩
    have Ho3 := hide ((unhide Ho).keepB hb3)
    have HA3 := hide ((unhide HA2).below hb3)
    have Hb3 := hide ((unhide Hb2).trans (hb3.mono (unhide Hb2).size))
    have Hlt3 : Hid (w.heap.size < w3.heap.size) := hide (unhide HA3).lt
    clear hb3 Hb2 HA2 Ho
    have d0 := (unhide HA3).cell (unhide H0)
    have d1 := (unhide HA3).cell (unhide H1)
    have hb4 : Below w3.heap.size w3 (w3.alloc (.cells #[.int .u8 (sn : Int), .int .u8 (tn : Int)] 5)) := (Below.refl _ _).alloc (Nat.le_refl _) _
    have Hn : Hid (∀ j, j < 2 → (w3.alloc (.cells #[.int .u8 (sn : Int), .int .u8 (tn : Int)] 5)).cell? ((⟨w3.heap.size, 0, none⟩ : Addr).add j) = some (.int .u8 ((([UInt8.ofNat sn, UInt8.ofNat tn].getD j 0).toNat : Nat)))) := by
      show ∀ j, _
      intro j hj
      rw [Addr.add_mid, Nat.zero_add, cell_fresh]
      have : j = 0 ∨ j = 1 := by omega
      rcases this with rfl | rfl
      · show some (Value.int .u8 (sn : Int)) = some (Value.int .u8 (((UInt8.ofNat sn).toNat : Nat) : Int))
        rw [unhide Hsb]
      · show some (Value.int .u8 (tn : Int)) = some (Value.int .u8 (((UInt8.ofNat tn).toNat : Nat) : Int))
        rw [unhide Htb]
    have Ho4 := hide ((unhide Ho3).keepB hb4)
    have HA4 := hide ((unhide HA3).below hb4)
    have Hb4 := hide ((unhide Hb3).trans (hb4.mono (unhide Hb3).size))
    have Hsz4 : Hid (w.heap.size + 1 ≤ (w3.alloc (.cells #[.int .u8 (sn : Int), .int .u8 (tn : Int)] 5)).heap.size) := by
      show _ ≤ _
      have := hb4.size
      have := unhide Hlt3
      omega
    clear hb4 Ho3 HA3 Hb3
    go_wp2_with (refine wpList_app rfl _ _ rfl (w.heap.size + 1) _ [] rfl (unhide Ho4) _ 2 2 rfl [UInt8.ofNat sn, UInt8.ofNat tn] rfl (unhide Hn) (by simp) (unhide Hsz4) ?_)
    intro v5 w5 ho5 hg5
    have Hbb := hide ((unhide Ho4).below hg5 (unhide Hsz4))
    have HA5 := hide ((unhide HA4).keep (unhide Hbb) (by omega))
    have Hb5 := hide ((unhide Hb4).trans ((unhide Hbb).mono (by omega)))
    have Ho5 := hide ho5
    have Hsz5 : Hid (w.heap.size + 1 ≤ w5.heap.size) := hide (Nat.le_trans (unhide Hsz4) hg5.size)
    clear ho5 hg5 Hbb HA4 Hb4 Ho4 Hn Hsz4 d0 d1
    have d2 := (unhide HA5).cell (unhide H2)
    go_wp2_with fail
    refine (rfix_walk ver (unhide Hv) 8 w5).mono ?_
    rintro e w6 ⟨v6, rfl, ho6, hb6⟩
    rw [sizeN8] at ho6
    have HR6 := hide (ho6.row (by rw [fixedL_length]; decide))
    have Ho6 := hide ((unhide Ho5).keepB hb6)
    have HA6 := hide ((unhide HA5).below hb6)
    have Hb6 := hide ((unhide Hb5).trans (hb6.mono (unhide Hb5).size))
    have Hsz6 : Hid (w.heap.size + 1 ≤ w6.heap.size) := hide (Nat.le_trans (unhide Hsz5) hb6.size)
    clear ho6 hb6 HA5 Hb5 Ho5 d2
    go_wp2_with (refine wpList_appRow rfl _ _ rfl (w.heap.size + 1) w6.heap.size _ _ rfl (unhide Ho6) _ rfl (fixedL ver 8) (unhide HR6) (by simp [fixedL_length]) (unhide Hsz6) ?_)
    intro v7 w7 ho7 hg7
    have Hbb := hide ((unhide Ho6).below hg7 (unhide Hsz6))
    have HA7 := hide ((unhide HA6).keep (unhide Hbb) (by omega))
    have Hb7 := hide ((unhide Hb6).trans ((unhide Hbb).mono (by omega)))
    have Ho7 := hide ho7
    have Hsz7 : Hid (w.heap.size + 1 ≤ w7.heap.size) := hide (Nat.le_trans (unhide Hsz6) hg7.size)
    clear ho7 hg7 Hbb HA6 Hb6 Ho6 HR6
    have d3 := (unhide HA7).cell (unhide H3)
    go_wp2_with fail
    refine (rfix_walk zn (unhide Hz) 4 w7).mono ?_
    rintro e w8 ⟨v8, rfl, ho8, hb8⟩
    rw [sizeN4] at ho8
    have HR8 := hide (ho8.row (by rw [fixedL_length]; decide))
    have Ho8 := hide ((unhide Ho7).keepB hb8)
    have HA8 := hide ((unhide HA7).below hb8)
    have Hb8 := hide ((unhide Hb7).trans (hb8.mono (unhide Hb7).size))
    have Hsz8 : Hid (w.heap.size + 1 ≤ w8.heap.size) := hide (Nat.le_trans (unhide Hsz7) hb8.size)
    clear ho8 hb8 HA7 Hb7 Ho7 d3
    go_wp2_with (refine wpList_appRow rfl _ _ rfl (w.heap.size + 1) w8.heap.size _ _ rfl (unhide Ho8) _ rfl (fixedL zn 4) (unhide HR8) (by simp [fixedL_length]) (unhide Hsz8) ?_)
    intro v9 w9 ho9 hg9
    have Hbb := hide ((unhide Ho8).below hg9 (unhide Hsz8))
    have HA9 := hide ((unhide HA8).keep (unhide Hbb) (by omega))
    have Hb9 := hide ((unhide Hb8).trans ((unhide Hbb).mono (by omega)))
    have Ho9 := hide ho9
    have Hsz9 : Hid (w.heap.size + 1 ≤ w9.heap.size) := hide (Nat.le_trans (unhide Hsz8) hg9.size)
    clear ho9 hg9 Hbb HA8 Hb8 Ho8 HR8
    have HRD : Hid (RowV w9.heap.size w9 (.slice (some ⟨w.heap.size, 4, none⟩) 32 32) dg) := hide (row_of ((unhide HA9).rangeMid 4 (bytesV dg) (unhide H4)) (unhide Hd) (unhide HA9).lt)
    have hsl := run_whole24 w.heap.size
    go_wp2_with (refine wpList_appRow rfl _ _ rfl (w.heap.size + 1) w9.heap.size _ _ rfl (unhide Ho9) _ rfl dg (unhide HRD) (by have := unhide Hd; simp [fixedL_length]; omega) (unhide Hsz9) ?_)
    intro v10 w10 ho10 hg10
    have Hb10 := hide ((unhide Hb9).trans (((unhide Ho9).below hg10 (unhide Hsz9)).mono (by omega)))
    have HR10 := hide (ho10.row (by have := unhide Hd; simp [fixedL_length]; omega))
    clear ho10 hg10
    go_wp2
    go_ret
    refine ⟨_, rfl, ?_, unhide Hb10⟩
    rw [unhide Hx]
    exact unhide HR10

end Go.Proofs.YtdfdalkcljfghaaGreat.Slot

namespace Go.Proofs.YtdfdalkcljfghaaGreat.Slot
open Go.RowKit

theorem run_copy_wide (w : World) (dT sT ty elem : TypeId) (g o dLen dCap : Nat) (a : Addr) (sLen sCap m : Nat) (cur cs : List Value)
    (hu : Tryz.prog.underlying dT = some (.slice elem)) (hs : (Tryz.prog.info? elem).map (·.size) = some m) (hA : Arr w g cur) (hn : cs.length = Nat.min sLen dLen * m)
    (hsrc : ∀ j v, cs[j]? = some v → w.cell? (a.add j) = some v) (hfit : o + cs.length ≤ cur.length) (h1 : ∀ v ∈ cs, v.oneCell' = true) :
    ∃ w', (Builtin.copy_ #[dT, sT] ty #[.slice (some ⟨g, o, none⟩) dLen dCap, .slice (some a) sLen sCap]).run Tryz.prog w = .ok (goInt (Nat.min sLen dLen)) w' ∧
      Arr w' g (cur.take o ++ (cs ++ cur.drop (o + cs.length))) ∧ w.grownBy w' (some g) ∧ w'.heap.size = w.heap.size := by
  obtain ⟨C, t, hg, rfl⟩ := hA
  have hl := run_loadCells_list (P := Tryz.prog) w a cs hsrc
  have hst := run_storeCells_at Tryz.prog g o t cs 0 C w hg (by simpa using hfit) h1
  refine ⟨w.setRow g (C.toList.take o ++ cs ++ C.toList.drop (o + cs.length)).toArray, ?_, ⟨_, t, setRow_heap w g C _ t _ hg, by simp⟩, ⟨rfl, rfl, rfl, by simp, fun k _ hk => setRow_other w g k _ (fun e => hk (by simp [e]))⟩, by simp⟩
  cases hq : Tryz.prog.info? elem with
  | none => simp [hq] at hs
  | some i =>
    have hi : i.size = m := by simpa [hq] using hs
    simp only [Nat.add_zero] at hst
    simp [Builtin.copy_, run_underlying hu, Builtin.lenOf, Builtin.firstCells, sizeOf, typeInfo, hq, hi, ← hn, hl, hst]

section
variable {ρ : Operand → Value} {o : Oper}
theorem op_copy46 {x y : Operand} {g off g2 o2 n n2 c2 : Nat} {cur : List Value} {bs : List UInt8} {w : World} (h1 : ρ x = .slice (some ⟨g, off, none⟩) n c2) (h2 : ρ y = .slice (some ⟨g2, o2, none⟩) bs.length n2)
    (hA : Arr w g cur) (hr : w.rangeAt g2 o2 (bytesV bs)) (hle : bs.length ≤ n) (hfit : off + bs.length ≤ cur.length) :
    ∃ w', (∀ o : Oper, o.op = .call { callee := .builtin .copy, args := #[x, y], argTypes := #[46, 46] } → (execOp ρ o).run Tryz.prog w = .ok (.value (.int .i64 (bs.length : Int))) w') ∧
      Arr w' g (cur.take off ++ (bytesV bs ++ cur.drop (off + bs.length))) ∧ w.grownBy w' (some g) ∧ w'.heap.size = w.heap.size := by
  obtain ⟨w', hr', q1, q2, q3⟩ := run_copy_wide w 46 46 3 5 g off n c2 ⟨g2, o2, none⟩ bs.length n2 1 cur (bytesV bs) Tryz.underlying46 (by kernel_rfl) hA (by rw [bytesV_length, Nat.mul_one]; exact (Nat.min_eq_left hle).symm)
    (fun j v hj => by rw [Addr.add_mid]; exact hr j v hj) (by rw [bytesV_length]; exact hfit) (bytesV_one bs)
  rw [bytesV_length] at q1
  refine ⟨w', fun o ho => ?_, q1, q2, q3⟩
  have e : ∀ ty, (Builtin.copy_ #[46, 46] ty #[.slice (some ⟨g, off, none⟩) n c2, .slice (some ⟨g2, o2, none⟩) bs.length n2]).run Tryz.prog w = .ok (.int .i64 (bs.length : Int)) w' := fun ty => by
    have e2 : Nat.min bs.length n = bs.length := Nat.min_eq_left hle
    rw [e2] at hr'
    exact hr'
  unfold execOp
  rw [ho]
  simp only [resolve, invoke, builtin, Sem.run_bind, Sem.run_pure, Result.andThen_ok, List.map_toArray, List.map_cons, List.map_nil, h1, h2, e]
theorem op_copyN {x y : Operand} {a : Addr} {n c : Nat} (ho : o.op = .call { callee := .builtin .copy, args := #[x, y], argTypes := #[46, 46] }) (h1 : ρ x = .slice (some a) n c) (h2 : ρ y = .slice none 0 0) (w : World) :
    (execOp ρ o).run Tryz.prog w = .ok (.value (.int .i64 0)) w := by
  have hr : ∀ ty, (Builtin.copy_ #[46, 46] ty #[.slice (some a) n c, .slice none 0 0]).run Tryz.prog w = .ok (.int .i64 0) w := fun ty => run_copy_none (P := Tryz.prog) w 46 46 ty 5 (some a) none n c 0 0 Tryz.underlying46 (by kernel_rfl) (Nat.zero_min _)
  unfold execOp
  rw [ho]
  simp only [resolve, invoke, builtin, Sem.run_bind, Sem.run_pure, Result.andThen_ok, List.map_toArray, List.map_cons, List.map_nil, h1, h2, hr]
theorem op_whole24 {x : Operand} {g : Nat} (ho : o.op = .slice 32 x none none none) (h1 : ρ x = .pointer (some ⟨g, 4, none⟩)) (w : World) :
    (execOp ρ o).run Tryz.prog w = .ok (.value (.slice (some ⟨g, 4, none⟩) 32 32)) w := by
  have h := run_whole24 g w
  unfold execOp
  rw [ho]
  go_simp
theorem op_f34_4r {x : Operand} {g : Nat} (ho : o.op = .fieldAddr 34 x 4) (h1 : ρ x = .pointer (some ⟨g, 0, none⟩)) (w : World) :
    (execOp ρ o).run Tryz.prog w = .ok (.value (.pointer (some ⟨g, 4, none⟩))) w := by
  unfold execOp
  rw [ho]
  go_simp
theorem op_call119 {x y : Operand} {u v : Value} (ho : o.op = .call { callee := .value (.func 119), args := #[x, y], argTypes := #[110, 3] }) (h1 : ρ x = u) (h2 : ρ y = v) (hf : ρ (.func 119) = .func (.func 119) #[] #[]) (w : World) :
    (execOp ρ o).run Tryz.prog w = .ok (.enter 119 #[u, v]) w := by
  unfold execOp
  rw [ho]
  go_simp
end

/-- The slot with which bytes begin. -/
def rdS (l : List UInt8) : S := ⟨(numL (l.take 1) : Int), (numL ((l.drop 1).take 1) : Int), numL ((l.drop 2).take 8), (numL ((l.drop 10).take 4) : Int), (l.drop 14).take 32⟩
/-- What a Read answers, its error, what is left, the reader's error. -/
def readF (l : List UInt8) (e : Int) : S × Int × List UInt8 × Int := if e = 0 ∧ 46 ≤ l.length then ((checkedF (rdS l)).1, (checkedF (rdS l)).2, l.drop 46, 0) else (zeroS, failL e 51, [], failL e 51)
theorem fix_long {l : List UInt8} {k : Nat} {m : Int} (hm : sizeN m = k) (h : ¬ l.length < k) : fixL l 0 m = (numL (l.take k), l.drop k, 0) := by
  unfold fixL
  rw [hm, takeL_long h]
theorem fix_short {l : List UInt8} {k : Nat} {m : Int} (hm : sizeN m = k) (h : l.length < k) : fixL l 0 m = (0, [], 51) := by
  unfold fixL
  rw [hm, takeL_short h]
  rfl
theorem fix_err {e : Int} (he : e ≠ 0) (m : Int) : fixL [] e m = (0, [], e) := by
  unfold fixL
  rw [takeL_err he]
  rfl
/-- The five takings are one of forty-six bytes. -/
theorem chain {l : List UInt8} {e : Int} (ho : Over l e) {a1 a2 a3 a4 : Nat × List UInt8 × Int} {a5 : List UInt8 × List UInt8 × Int}
    (h1 : a1 = fixL l e 1) (h2 : a2 = fixL a1.2.1 a1.2.2 1) (h3 : a3 = fixL a2.2.1 a2.2.2 8) (h4 : a4 = fixL a3.2.1 a3.2.2 4) (h5 : a5 = takeL a4.2.1 a4.2.2 32) :
    (e = 0 ∧ 46 ≤ l.length ∧ a5.2 = (l.drop 46, 0) ∧ rdS l = ⟨(a1.1 : Int), (a2.1 : Int), a3.1, (a4.1 : Int), a5.1⟩ ∧ a5.1.length = 32) ∨ (¬ (e = 0 ∧ 46 ≤ l.length) ∧ a5 = ([], [], failL e 51) ∧ failL e 51 ≠ 0) := by
  have n51 : (51 : Int) ≠ 0 := by decide
  by_cases he : e = 0
  · subst he
    have hf : failL 0 51 = 51 := rfl
    by_cases g1 : l.length < 1
    · right
      rw [fix_short (k := 1) rfl g1] at h1; subst h1
      rw [fix_err n51] at h2; subst h2
      rw [fix_err n51] at h3; subst h3
      rw [fix_err n51] at h4; subst h4
      rw [takeL_err n51] at h5
      exact ⟨by omega, by rw [h5, hf], by rw [hf]; exact n51⟩
    · rw [fix_long (k := 1) rfl g1] at h1; subst h1
      simp only at h2
      by_cases g2 : (l.drop 1).length < 1
      · right
        rw [fix_short (k := 1) rfl g2] at h2; subst h2
        rw [fix_err n51] at h3; subst h3
        rw [fix_err n51] at h4; subst h4
        rw [takeL_err n51] at h5
        rw [List.length_drop] at g2
        exact ⟨by omega, by rw [h5, hf], by rw [hf]; exact n51⟩
      · rw [fix_long (k := 1) rfl g2] at h2; subst h2
        simp only [List.drop_drop] at h3
        by_cases g3 : (l.drop (1 + 1)).length < 8
        · right
          rw [fix_short (k := 8) rfl g3] at h3; subst h3
          rw [fix_err n51] at h4; subst h4
          rw [takeL_err n51] at h5
          rw [List.length_drop] at g3
          exact ⟨by omega, by rw [h5, hf], by rw [hf]; exact n51⟩
        · rw [fix_long (k := 8) rfl g3] at h3; subst h3
          simp only [List.drop_drop] at h4
          by_cases g4 : (l.drop (1 + 1 + 8)).length < 4
          · right
            rw [fix_short (k := 4) rfl g4] at h4; subst h4
            rw [takeL_err n51] at h5
            rw [List.length_drop] at g4
            exact ⟨by omega, by rw [h5, hf], by rw [hf]; exact n51⟩
          · rw [fix_long (k := 4) rfl g4] at h4; subst h4
            simp only [List.drop_drop] at h5
            by_cases g5 : (l.drop (1 + 1 + 8 + 4)).length < 32
            · right
              rw [takeL_short g5] at h5
              rw [List.length_drop] at g5
              exact ⟨by omega, h5, by rw [hf]; exact n51⟩
            · left
              rw [takeL_long g5] at h5
              rw [List.length_drop] at g5
              refine ⟨rfl, by omega, by rw [h5, List.drop_drop], by rw [h5]; rfl, by rw [h5, List.length_take, List.length_drop]; omega⟩
  · have hl := ho he
    subst hl
    right
    have hf : failL e 51 = e := by unfold failL; rw [if_neg he]
    rw [fix_err he] at h1; subst h1
    rw [fix_err he] at h2; subst h2
    rw [fix_err he] at h3; subst h3
    rw [fix_err he] at h4; subst h4
    rw [takeL_err he] at h5
    exact ⟨fun h => he h.1, by rw [h5, hf], by rw [hf]; exact he⟩
theorem rdS_fit {l : List UInt8} (h : 46 ≤ l.length) : Fit (rdS l) := by
  have n1 := numL_lt (l.take 1)
  have n2 := numL_lt ((l.drop 1).take 1)
  have n3 := numL_lt ((l.drop 2).take 8)
  have n4 := numL_lt ((l.drop 10).take 4)
  rw [List.length_take, show min 1 l.length = 1 by omega] at n1
  rw [List.length_take, List.length_drop, show min 1 (l.length - 1) = 1 by omega] at n2
  rw [List.length_take, List.length_drop, show min 8 (l.length - 2) = 8 by omega] at n3
  rw [List.length_take, List.length_drop, show min 4 (l.length - 10) = 4 by omega] at n4
  have e8 : (256 : Nat) ^ 8 = 18446744073709551616 := by decide
  have e4 : (256 : Nat) ^ 4 = 4294967296 := by decide
  unfold rdS
  exact ⟨by simp only; omega, by simp only; omega, by simp only; omega, by simp only; omega, by simp only; omega, by simp only; omega, by simp only; omega, by simp only; rw [List.length_take, List.length_drop]; omega⟩

/-- What the operations of the region that copies yield. -/
def VR (b r : Nat) : Nat → Value → Value → World → Prop
  | 0, v, _, _ => v = .pointer (some ⟨b, 4, none⟩)
  | 1, v, _, _ => v = .slice (some ⟨b, 4, none⟩) 32 32
  | 2, v, _, _ => v = .pointer (some ⟨r, 0, none⟩)
  | 3, v, s, _ => v = s
  | _, _, _, _ => True
theorem VR.turn {b r j : Nat} {u s s' : Value} {w w' : World} (hj : j ≠ 3) (h : VR b r j u s w) : VR b r j u s' w' := by
  unfold VR at *
  split at h
  all_goals first | exact h | exact absurd rfl hj | trivial
theorem VR.keep {b r j : Nat} {u s : Value} {w w' : World} (h : VR b r j u s w) : VR b r j u s w' := by
  unfold VR at *
  split at h <;> exact h
/-- The hash behind the copy. -/
def dgF (l : List UInt8) : List UInt8 := if l = [] then zeros32 else l
/-- How memory stands while a slot is read: the answer's block, the slot's, the reader. -/
structure J (w : World) (N r : Nat) (W : World) (cs : List Value) (l : List UInt8) (e : Int) : Prop where
  one : Arr W w.heap.size zeroS.cs
  two : Arr W (w.heap.size + 1) cs
  rd : Rd N W r l e
  gr : w.grownBy W (some r)
  lt : r < w.heap.size
  nr : N ≤ r
section
variable {w W W' : World} {N r : Nat} {cs cs' : List Value} {l l' : List UInt8} {e e' : Int}
theorem J.call (h : J w N r W cs l e) (hr : Rd N W' r l' e') (hg : W.grownBy W' (some r)) : J w N r W' cs l' e' :=
  ⟨h.one.grown hg (by have := h.lt; simp; omega), h.two.grown hg (by have := h.lt; simp; omega), hr, grown_two h.gr hg, h.lt, h.nr⟩
theorem J.lay (h : J w N r W cs l e) (hA : Arr W' (w.heap.size + 1) cs') (hg : W.grownBy W' (some (w.heap.size + 1))) : J w N r W' cs' l e :=
  ⟨h.one.grown hg (by simp), hA, h.rd.other hg (by have := h.lt; omega) (by have := h.lt; have := h.nr; omega), ⟨hg.os.trans h.gr.os, hg.tape.trans h.gr.tape, hg.output.trans h.gr.output, Nat.le_trans h.gr.size hg.size, fun k hk hne => by
    rw [hg.block k (Nat.lt_of_lt_of_le hk h.gr.size) (by simp; omega), h.gr.block k hk hne]⟩, h.lt, h.nr⟩
theorem J.set (h : J w N r W cs l e) (i : Nat) (v : Value) : J w N r (W.setCell ⟨w.heap.size + 1, i, none⟩ v) (cs.set i v) l e := h.lay (h.two.set i v) (set_grown _ _ _ _)
theorem J.below (h : J w N r W cs l e) (hb : Below W.heap.size W W') : J w N r W' cs l e := ⟨h.one.below hb, h.two.below hb, h.rd.below hb, grown_below h.gr hb, h.lt, h.nr⟩
end

set_option maxHeartbeats 3200000 in
set_option maxRecDepth 100000 in
theorem read_walk (N r : Nat) (l : List UInt8) (er : Int) (w : World) (h : Rd N w r l er) (ho : Over l er) :
    Calls Tryz.prog 88 #[.pointer (some ⟨r, 0, none⟩)] w fun e w' => e = .returned (.tuple #[(readF l er).1.v, .int .i64 (readF l er).2.1]) ∧ Rd N w' r (readF l er).2.2.1 (readF l er).2.2.2 ∧ w.grownBy w' (some r) := by
  have Hal := hide alloc34
  have HO := hide ho
  have H0 := hide h
  clear h ho
  go_enter Tryz.func88, Tryz.ntmps88
  go_wp2_with (refine wpList_alloc 34 34 zeroS.cs rfl rfl (unhide Hal) ?_)
  intro w1 hA1 hb1 hs1
  have HA1 := hide hA1
  have Hb1 := hide hb1
  clear hA1 hb1
  go_wp2_with (refine wpList_alloc 34 34 zeroS.cs rfl rfl (unhide Hal) ?_)
  intro w2 hA2 hb2 hs2
  have HJ : Hid (J w N r w2 zeroS.cs l er) := by
    have hb := (unhide Hb1).trans (hb2.mono (by omega))
    exact hide ⟨(unhide HA1).keep hb2 (by omega), hA2, (unhide H0).below hb, ⟨hb.os, hb.tape, hb.output, hb.size, fun k hk _ => hb.block k hk⟩, (unhide H0).lt, (unhide H0).1⟩
  clear hA2 hb2 HA1 Hb1
  go_wp2_with fail
  refine (rfixed_walk N r 1 _ _ w2 (unhide HJ).rd).mono ?_
  rintro e w3 ⟨rfl, hr, hg⟩
  have HJ := hide ((unhide HJ).call hr hg)
  obtain ⟨q1, hq1⟩ : ∃ q, q = fixL l er 1 := ⟨_, rfl⟩
  have HL1 : Hid (q1.1 < 256 ^ 1) := by rw [hq1]; exact hide (fixL_lt _ _ _)
  rw [← hq1] at HJ ⊢
  have HQ1 := hide hq1
  clear hr hg hq1
  have f1 := (unhide HJ).two.free 0
  have l1 := (unhide HJ).two.cell (i := 0) (v := .int .i64 0) rfl
  have cv1 : wrap64 (q1.1 : Int) = (q1.1 : Int) := by have := unhide HL1; unfold wrap64; omega
  have HJ : Hid (J w N r (w3.setCell ⟨w.heap.size + 1, 0, none⟩ (.int .i64 (q1.1 : Int))) (S.mk (q1.1 : Int) 0 0 0 zeros32).cs q1.2.1 q1.2.2) := hide ((unhide HJ).set 0 _)
  go_wp2_with fail
  refine (rfixed_walk N r 1 _ _ _ (unhide HJ).rd).mono ?_
  rintro e w4 ⟨rfl, hr, hg⟩
  have HJ := hide ((unhide HJ).call hr hg)
  obtain ⟨q2, hq2⟩ : ∃ q, q = fixL q1.2.1 q1.2.2 1 := ⟨_, rfl⟩
  have HL2 : Hid (q2.1 < 256 ^ 1) := by rw [hq2]; exact hide (fixL_lt _ _ _)
  rw [← hq2] at HJ ⊢
  have HQ2 := hide hq2
  clear hr hg hq2
  have f2 := (unhide HJ).two.free 1
  have l2 := (unhide HJ).two.cell (i := 1) (v := .int .i64 0) rfl
  have cv2 : wrap64 (q2.1 : Int) = (q2.1 : Int) := by have := unhide HL2; unfold wrap64; omega
  have HJ : Hid (J w N r (w4.setCell ⟨w.heap.size + 1, 1, none⟩ (.int .i64 (q2.1 : Int))) (S.mk (q1.1 : Int) (q2.1 : Int) 0 0 zeros32).cs q2.2.1 q2.2.2) := hide ((unhide HJ).set 1 _)
  go_wp2_with fail
  refine (rfixed_walk N r 8 _ _ _ (unhide HJ).rd).mono ?_
  rintro e w5 ⟨rfl, hr, hg⟩
  have HJ := hide ((unhide HJ).call hr hg)
  obtain ⟨q3, hq3⟩ : ∃ q, q = fixL q2.2.1 q2.2.2 8 := ⟨_, rfl⟩
  have HL3 : Hid (q3.1 < 256 ^ 8) := by rw [hq3]; exact hide (fixL_lt _ _ _)
  rw [← hq3] at HJ ⊢
  have HQ3 := hide hq3
  clear hr hg hq3
  have f3 := (unhide HJ).two.free 2
  have l3 := (unhide HJ).two.cell (i := 2) (v := .int .u64 0) rfl
  have HJ : Hid (J w N r (w5.setCell ⟨w.heap.size + 1, 2, none⟩ (.int .u64 (q3.1 : Int))) (S.mk (q1.1 : Int) (q2.1 : Int) q3.1 0 zeros32).cs q3.2.1 q3.2.2) := hide ((unhide HJ).set 2 _)
  go_wp2_with fail
  refine (rfixed_walk N r 4 _ _ _ (unhide HJ).rd).mono ?_
  rintro e w6 ⟨rfl, hr, hg⟩
  have HJ := hide ((unhide HJ).call hr hg)
  obtain ⟨q4, hq4⟩ : ∃ q, q = fixL q3.2.1 q3.2.2 4 := ⟨_, rfl⟩
  have HL4 : Hid (q4.1 < 256 ^ 4) := by rw [hq4]; exact hide (fixL_lt _ _ _)
  rw [← hq4] at HJ ⊢
  have HQ4 := hide hq4
  clear hr hg hq4
  have f4 := (unhide HJ).two.free 3
  have l4 := (unhide HJ).two.cell (i := 3) (v := .int .i64 0) rfl
  have cv4 : wrap64 (q4.1 : Int) = (q4.1 : Int) := by have := unhide HL4; unfold wrap64; omega
  have HJ : Hid (J w N r (w6.setCell ⟨w.heap.size + 1, 3, none⟩ (.int .i64 (q4.1 : Int))) (S.mk (q1.1 : Int) (q2.1 : Int) q3.1 (q4.1 : Int) zeros32).cs q4.2.1 q4.2.2) := hide ((unhide HJ).set 3 _)
  go_wp2_with fail
  generalize hW7 : w6.setCell ⟨w.heap.size + 1, 3, none⟩ (.int .i64 (q4.1 : Int)) = w7 at *
  obtain ⟨q5, hq5⟩ : ∃ q, q = takeL q4.2.1 q4.2.2 32 := ⟨_, rfl⟩
  have Hch := hide (chain (unhide HO) (unhide HQ1) (unhide HQ2) (unhide HQ3) (unhide HQ4) hq5)
  have H32 : Hid (q5.1 = [] ∨ q5.1.length = 32) := by
    show _ ∨ _
    rcases unhide Hch with ⟨_, _, _, _, h⟩ | ⟨_, h, _⟩
    · exact .inr h
    · exact .inl (by rw [h])
  have HQ5 := hide hq5
  clear hW7 hq5
  have HJd : Hid (J w N r w7.drew (S.mk (q1.1 : Int) (q2.1 : Int) q3.1 (q4.1 : Int) zeros32).cs q4.2.1 q4.2.2) := hide ((unhide HJ).below (Below.drew (Below.refl _ _)))
  refine Flow.wp_region (VR (w.heap.size + 1) r) (Flow.three 3 4 (fun _ w' => w' = w7.drew) (fun v w' => J w N r w' (S.mk (q1.1 : Int) (q2.1 : Int) q3.1 (q4.1 : Int) zeros32).cs q5.2.1 q5.2.2 ∧ ∃ B0, Own B0 w' v q5.1) (fun _ w' => J w N r w' (S.mk (q1.1 : Int) (q2.1 : Int) q3.1 (q4.1 : Int) (dgF q5.1)).cs q5.2.1 q5.2.2)) undef (by kernel_rfl) (by kernel_rfl) (by unfold Flow.three; simp) ⟨?_, ?_, ?_, ?_, ?_, trivial⟩ ?_
  · exact Flow.pure (Flow.goes_plain rfl) (Flow.three.upd (by decide) (by decide)) fun a L s w' hC hL hn hs hd => ⟨_, op_f34_4r rfl (hs 4 (by kernel_rfl)) w', rfl⟩
  · exact Flow.pure (Flow.goes_plain rfl) (Flow.three.upd (by decide) (by decide)) fun a L s w' hC hL hn hs hd => ⟨_, op_whole24 rfl (hd 0 21 (by kernel_rfl)) w', rfl⟩
  · exact Flow.move (Flow.goes_plain rfl) (Flow.three.upd (by decide) (by decide)) (.inl rfl) fun a s w' hs hd => hs 0 (by kernel_rfl)
  · refine Flow.call (Flow.goes_plain rfl) fun a L s w' hC hL hn hs hd => ?_
    have h4 := hn.after 4 (by kernel_rfl)
    have hp : w' = w7.drew := hC.pre hL h4
    subst hp
    refine ⟨119, #[.pointer (some ⟨r, 0, none⟩), .int .i64 32], op_call119 (u := .pointer (some ⟨r, 0, none⟩)) (v := .int .i64 32) rfl (hd 2 23 (by kernel_rfl)) rfl rfl _, (rraw_walk N r 32 (by decide) _ _ _ (unhide HJd).rd).mono ?_⟩
    rintro e w8 ⟨v, rfl, hO, hr, hg⟩
    rw [show (32 : Int).toNat = 32 by rfl, ← unhide HQ5] at hO hr
    exact ⟨v, v, rfl, fun j u hLj h => VR.turn (fun e => by rw [e, hL] at hLj; cases hLj) h, Flow.three.first (by decide) h4 ⟨(unhide HJd).call hr hg, _, hO⟩, rfl⟩
  · refine Flow.value (Flow.goes_plain rfl) fun a L s w' hC hL hn hs hd => ?_
    have h3 : L 3 = true := hn.done 3 (by kernel_rfl)
    obtain ⟨hJ, B0, hO⟩ := hC.mid h3 hL
    have hx : a.eval (.tmp 22) = .slice (some ⟨w.heap.size + 1, 4, none⟩) 32 32 := hd 1 22 (by kernel_rfl)
    have hy : a.eval (.tmp 24) = s := hd 3 24 (by kernel_rfl)
    have hL36 : (S.mk (q1.1 : Int) (q2.1 : Int) q3.1 (q4.1 : Int) zeros32).cs.length = 36 := rfl
    rcases hO.2 with ⟨e, h0⟩ | ⟨g, cap, cur, e, hb, hh, hcap, hmax, hcur, htk⟩
    · have hnil : q5.1 = [] := List.length_eq_zero_iff.1 h0
      subst e
      refine ⟨_, _, w', op_copyN rfl hx hy w', fun j u _ h => h, Flow.three.post ?_, trivial⟩
      rw [show dgF q5.1 = zeros32 by unfold dgF; rw [if_pos hnil]]
      exact hJ
    · have hr : w'.rangeAt g 0 (bytesV q5.1) := fun j v hj => by
        rw [Nat.zero_add, cell_of_row w' g j cur 5 _ hh, ← Array.getElem?_toList]
        have hjl : j < q5.1.length := by
          have := (List.getElem?_eq_some_iff.1 hj).1
          rwa [bytesV_length] at this
        have h3 : (cur.toList.take (q5.1.length * 1))[j]? = cur.toList[j]? := by rw [List.getElem?_take]; simp [hjl]
        rw [← h3, htk]
        exact hj
      subst e
      have h32 := unhide H32
      obtain ⟨w9, hr9, p1, p2, p3⟩ := op_copy46 (ρ := a.eval) (g := w.heap.size + 1) (off := 4) (g2 := g) (o2 := 0) (n := 32) (n2 := cap) (c2 := 32) (bs := q5.1) hx hy hJ.two hr (by rcases h32 with h | h; rw [h]; simp; omega) (by rw [hL36]; rcases h32 with h | h; rw [h]; simp; omega)
      refine ⟨_, _, w9, hr9 _ rfl, fun j u _ h => VR.keep h, Flow.three.post (hJ.lay ?_ p2), trivial⟩
      have e : (S.mk (q1.1 : Int) (q2.1 : Int) q3.1 (q4.1 : Int) zeros32).cs.take 4 ++ (bytesV q5.1 ++ (S.mk (q1.1 : Int) (q2.1 : Int) q3.1 (q4.1 : Int) zeros32).cs.drop (4 + q5.1.length)) = (S.mk (q1.1 : Int) (q2.1 : Int) q3.1 (q4.1 : Int) (dgF q5.1)).cs := by
        unfold dgF
        rcases h32 with h | h
        · rw [if_pos h, h]; rfl
        · rw [if_neg (fun e => by rw [e] at h; cases h), h]
          show [_, _, _, _] ++ (bytesV q5.1 ++ []) = _
          rw [List.append_nil]
          rfl
      rw [← e]
      exact p1
  · intro L sv w8 hC hL vals hv
    have hJ8 : J w N r w8 (S.mk (q1.1 : Int) (q2.1 : Int) q3.1 (q4.1 : Int) (dgF q5.1)).cs q5.2.1 q5.2.2 := hC.end (hL 4 (by decide))
    have HJ8 := hide hJ8
    clear hC hL hv hJ8
    simp only [Free.putAll, Act.put, List.setIfInBounds_toArray, List.set_cons_succ, List.set_cons_zero]
    generalize vals 0 = y0
    generalize vals 1 = y1
    generalize vals 2 = y2
    generalize vals 3 = y3
    generalize vals 4 = y4
    go_wp2_with fail
    refine (rerr_walk N r _ _ w8 (unhide HJ8).rd).mono ?_
    rintro e w9 ⟨rfl, hw9⟩
    subst w9
    have HZ := hide (info34s (s := zeroS) rfl)
    have HZL : Hid (zeroS.cs.length = 36) := hide rfl
    rcases unhide Hch with ⟨e0, hl46, ha5, hS, hd32⟩ | ⟨hno, ha5, hne⟩
    · have hdg : dgF q5.1 = q5.1 := by unfold dgF; rw [if_neg (fun e => by rw [e] at hd32; cases hd32)]
      rw [hdg, ← hS, ha5] at HJ8
      have hfS := rdS_fit hl46
      have HF : Hid (readF l er = ((checkedF (rdS l)).1, (checkedF (rdS l)).2, l.drop 46, 0)) := by
        show _ = _
        unfold readF
        rw [if_pos ⟨e0, hl46⟩]
      have HCk : Hid (∀ w : World, Calls Tryz.prog 121 #[.agg (rdS l).cs.toArray] w fun e w' => e = .returned (.tuple #[.agg (checkedF (rdS l)).1.cs.toArray, .int .i64 (checkedF (rdS l)).2]) ∧ Below w.heap.size w w') := hide (checked_walk (rdS l) hfS)
      have hkd : (checkedF (rdS l)).1.dg.length = 32 := by
        unfold checkedF; split
        · exact hfS.dg
        · rfl
      have HkI := hide (info34s hkd)
      have HkL := hide (cs_length hkd)
      have Hk1 := hide (cs_one (checkedF (rdS l)).1)
      have HSI := hide (info34s hfS.dg)
      rw [show q5.2.2 = 0 by rw [ha5]]
      clear e0 hl46 ha5 hS hd32 hdg hfS hkd Hch H32
      generalize checkedF (rdS l) = k at *
      generalize (rdS l) = sl at *
      go_wp2_with (refine wpList_loadAll 34 _ (w.heap.size + 1) sl.cs _ rfl rfl rfl (unhide HJ8).two Tryz.underlying34 rfl (unhide HSI) ?_)
      refine (unhide HCk w8).mono ?_
      rintro e w9 ⟨rfl, hb9⟩
      have HJ9 := hide ((unhide HJ8).below hb9)
      clear hb9 HJ8
      go_wp2_with (refine wpList_storeAll 34 _ _ w.heap.size k.1.cs zeroS.cs rfl rfl rfl rfl (unhide HJ9).one (by rw [unhide HkL, unhide HZL]) (unhide HkI) (unhide Hk1) ?_)
      intro w10 hA10 hg10 hs10
      have HA10 := hide hA10
      have Hres : Hid (Rd N w10 r (l.drop 46) 0 ∧ w.grownBy w10 (some r)) := by
        have hj := unhide HJ9
        exact hide ⟨hj.rd.other hg10 (by have := hj.lt; omega) (by have := hj.lt; have := hj.nr; omega), ⟨hg10.os.trans hj.gr.os, hg10.tape.trans hj.gr.tape, hg10.output.trans hj.gr.output, Nat.le_trans hj.gr.size hg10.size, fun i hi hne => by
          rw [hg10.block i (Nat.lt_of_lt_of_le hi hj.gr.size) (by simp; omega), hj.gr.block i hi hne]⟩⟩
      clear hA10 hg10 HJ9
      go_wp2
      refine bodyPost_ret (v := .tuple #[.agg k.1.cs.toArray, .int .i64 k.2]) ?_ rfl ⟨?_, ?_, (unhide Hres).2⟩
      · exact results_two Tryz.results88 rfl rfl (unhide HA10) Tryz.underlying34 rfl (unhide HkI)
      · rw [unhide HF]
        rfl
      · rw [unhide HF]
        exact (unhide Hres).1
    · have HF : Hid (readF l er = (zeroS, failL er 51, [], failL er 51)) := by
        show _ = _
        unfold readF
        rw [if_neg hno]
      rw [ha5] at HJ8
      have hnb : (failL er 51 != 0) = true := by simpa using hne
      rw [show q5.2.2 = failL er 51 by rw [ha5]]
      have HBz := hide built34
      obtain ⟨zR, hzR⟩ : ∃ zR : S, zR = zeroS := ⟨_, rfl⟩
      have hzd : zR.dg.length = 32 := by rw [hzR]; rfl
      have HzI := hide (info34s hzd)
      have HzL := hide (cs_length hzd)
      have Hz1 := hide (cs_one zR)
      have HzB : Hid (Tryz.prog.built 34 [] = some zR.cs.toArray) := by rw [hzR]; exact hide built34
      rw [← hzR] at HF
      have Hone : Hid (Arr w8 w.heap.size zeroS.cs) := hide (unhide HJ8).one
      clear hno ha5 hne hzR hzd Hch H32
      generalize failL er 51 = ef at *
      go_wp2_with (first
        | refine wpList_build 34 _ zR.cs [] rfl rfl rfl (unhide HzB) ?_
        | refine wpList_storeAll 34 _ _ w.heap.size zR.cs zeroS.cs rfl rfl rfl rfl (unhide Hone) (by rw [unhide HzL, unhide HZL]) (unhide HzI) (unhide Hz1) ?_)
      intro w10 hA10 hg10 hs10
      have HA10 := hide hA10
      have Hres : Hid (Rd N w10 r [] ef ∧ w.grownBy w10 (some r)) := by
        have hj := unhide HJ8
        exact hide ⟨hj.rd.other hg10 (by have := hj.lt; omega) (by have := hj.lt; have := hj.nr; omega), ⟨hg10.os.trans hj.gr.os, hg10.tape.trans hj.gr.tape, hg10.output.trans hj.gr.output, Nat.le_trans hj.gr.size hg10.size, fun i hi hne => by
          rw [hg10.block i (Nat.lt_of_lt_of_le hi hj.gr.size) (by simp; omega), hj.gr.block i hi hne]⟩⟩
      clear hA10 hg10 HJ8
      go_wp2
      refine bodyPost_ret (v := .tuple #[.agg zR.cs.toArray, .int .i64 ef]) ?_ rfl ⟨?_, ?_, (unhide Hres).2⟩
      · exact results_two Tryz.results88 rfl rfl (unhide HA10) Tryz.underlying34 rfl (unhide HzI)
      · rw [unhide HF]
        rfl
      · rw [unhide HF]
        exact (unhide Hres).1

end Go.Proofs.YtdfdalkcljfghaaGreat.Slot
