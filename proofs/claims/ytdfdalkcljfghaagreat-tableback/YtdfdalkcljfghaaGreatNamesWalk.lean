/-
  TableNames, walked.
-/
import Derived.Test.YtdfdalkcljfghaaGreatTAlive
namespace Go.Proofs.YtdfdalkcljfghaaGreat.Slot
open Go.RowKit

def tW : T := { zeroT with act := 2 }
def tF : T := { zeroT with flo := 5 }
def cF : C := ⟨4, 0, 0, zeroS, 4⟩
theorem tW_fit : FitT tW := ⟨zeroS_fit, zeroS_fit, by decide, by decide, by decide, by decide, by decide⟩
theorem tF_fit : FitT tF := ⟨zeroS_fit, zeroS_fit, by decide, by decide, by decide, by decide, by decide⟩
theorem cF_fit : FitC cF := ⟨by decide, by decide, by decide, by decide, by decide, by decide, zeroS_fit, by decide⟩
theorem tW_wrong : rightT tW = false := by decide +kernel
theorem applyF : applyT tF [cF] = (zeroT, 111) := by decide +kernel
theorem parse_nil : parseF [] = (zeroT, 111) := by unfold parseF; rw [if_neg (by simp)]
theorem get_zero : getF [0] = ([], 0) := by decide +kernel
theorem one_row (w : World) (c : UInt8) : RowV (w.alloc (.cells #[.int .u8 ((c.toNat : Nat) : Int)] 5)).heap.size (w.alloc (.cells #[.int .u8 ((c.toNat : Nat) : Int)] 5)) (.slice (some ⟨w.heap.size, 0, none⟩) 1 1) [c] := by
  refine ⟨_, _, _, rfl, Nat.le_refl _, by decide, by simp, rfl, by decide, fun i hi => ⟨w.heap.size, 0, rfl, by simp, ?_⟩⟩
  obtain rfl : i = 0 := by omega
  rw [Nat.zero_add, cell_fresh]
  rfl
section
variable {ops : Array Oper} {rest : List Oper} {o : Oper} {a : Act} {w : World} {Q : Exit → Act → World → Prop}
theorem run_one46 (w : World) (c : UInt8) : (Instr.buildSlice 46 1 #[(0, .int .u8 ((c.toNat : Nat) : Int))]).run Tryz.prog w = .ok (.slice (some ⟨w.heap.size, 0, none⟩) 1 1) (w.alloc (.cells #[.int .u8 ((c.toNat : Nat) : Int)] 5)) := by
  obtain ⟨i, i1, i2, i3, i4⟩ := full5
  exact run_buildSlice (P := Tryz.prog) w 46 5 1 #[(0, .int .u8 ((c.toNat : Nat) : Int))] #[.int .u8 ((c.toNat : Nat) : Int)] i _ Tryz.underlying46 i1 i2 (by rw [i3]; decide) (by rw [i3]; decide) (by rw [i3]; kernel_rfl)
theorem wpList_one46 (x : Operand) (c : UInt8) (ho : o.op = .buildSlice 46 1 #[(0, x)]) (hg : o.guard = none) (hx : a.eval x = .int .u8 ((c.toNat : Nat) : Int))
    (h : ∀ w', RowV w'.heap.size w' (.slice (some ⟨w.heap.size, 0, none⟩) 1 1) [c] → Below w.heap.size w w' → w'.heap.size = w.heap.size + 1 → wpList Tryz.prog ops Q rest (a.put o.dst (.slice (some ⟨w.heap.size, 0, none⟩) 1 1)) w') : wpList Tryz.prog ops Q (o :: rest) a w := by
  refine wpList_plain hg fun K hK => ?_
  have r : (execOp a.eval o).run Tryz.prog w = .ok (.value (.slice (some ⟨w.heap.size, 0, none⟩) 1 1)) (w.alloc (.cells #[.int .u8 ((c.toNat : Nat) : Int)] 5)) := by
    unfold execOp
    simp only [ho, List.map_toArray, List.map_cons, List.map_nil, hx, Sem.run_bind, run_one46, Result.andThen_ok, Sem.run_pure]
  unfold Oper.wp
  rw [r, Oper.upon_value]
  exact hK _ _ (h _ (one_row w c) ((Below.refl _ _).alloc (Nat.le_refl _) _) (by simp))
end
end Go.Proofs.YtdfdalkcljfghaaGreat.Slot
namespace Go.Proofs.YtdfdalkcljfghaaGreat.tableNames
open Go.RowKit Slot

set_option maxHeartbeats 6400000 in
set_option maxRecDepth 100000 in
theorem walk (w : World) : Calls Tryz.prog 3 #[] w fun e w' => e = .returned (.bool true) ∧ Below w.heap.size w w' := by
  have HAl := hide (alive_walk w)
  have HLA : Hid (∀ w, Calls Tryz.prog 13 #[.agg #[.int .i64 4, .int .i64 4]] w fun e w' => ∃ F D m p, e = .returned (.pointer (some ⟨m, 0, none⟩)) ∧ PMap F D w' m p (newD 60 10000) ⟨[4, 4], 0, []⟩ ∧ (∀ k ∈ F ++ D, w.heap.size ≤ k) ∧ Below w.heap.size w w') := hide (law_open 4 4 (by omega) (by omega))
  have HB2 := hide (built37_act 2)
  have HBF : Hid (Tryz.prog.built 37 [(3, .int .u64 5)] = some tF.cs.toArray) := hide (by kernel_rfl)
  have HBC : Hid (Tryz.prog.built 41 [(0, .int .i64 4), (4, .int .u64 4)] = some cF.cs.toArray) := hide (built41_v 4 4)
  have HB0 := hide built37
  have HNO : Hid (∀ mv w, Calls Tryz.prog 12 #[mv, .int .i64 0, .int .i64 1, .agg tW.cs.toArray] w fun e w' => e = .returned (.tuple #[.pointer none, .int .i64 111]) ∧ Below w.heap.size w w') := hide fun mv w => open_no 0 1 mv tW tW_fit tW_wrong w
  have HB2' : Hid (Tryz.prog.built 37 [(1, .int .i64 2)] = some tW.cs.toArray) := HB2
  have HAP : Hid (∀ w v, CRowV w.heap.size w v [cF] → Calls Tryz.prog 14 #[.agg tF.cs.toArray, v] w fun e w' => e = .returned (.tuple #[.agg zeroT.cs.toArray, .int .i64 111]) ∧ Below w.heap.size w w') := hide fun w v h => by
    have := apply_walk _ v tF tF_fit [cF] w (Nat.le_refl _) h
    rw [applyF] at this
    exact this
  have HPA : Hid (∀ w, Calls Tryz.prog 15 #[.slice none 0 0] w fun e w' => e = .returned (.tuple #[.agg zeroT.cs.toArray, .int .i64 111]) ∧ Below w.heap.size w w') := hide fun w => by
    have := parse_walk w.heap.size (.slice none 0 0) [] w (Nat.le_refl _) (RowV.nil _ _)
    rw [parse_nil] at this
    exact this
  have HBY : Hid (∀ w, Calls Tryz.prog 17 #[.agg zeroT.cs.toArray] w fun e w' => ∃ a c, e = .returned (.slice a 102 c) ∧ Below w.heap.size w w') := hide fun w => by
    refine (tbytes_walk zeroT zeroT_fit w).mono ?_
    rintro e w' ⟨v, rfl, hr, hb⟩
    obtain ⟨a, len, cap, rfl, _, _, _, hrow⟩ := hr
    have h1 := hrow.1
    rw [bytesT_len zeroT_right zeroT_fit] at h1
    subst h1
    exact ⟨a, cap, rfl, hb⟩
  have HAL := hide alloc37
  have HZL := hide (tcs_length zeroT_fit)
  have HZI := hide (info37t zeroT_fit)
  have HZ1 := hide (tcs_one zeroT)
  clear HB2
  generalize zeroT.cs = Z at *
  generalize tW.cs = W2 at *
  generalize tF.cs = W5 at *
  go_enter Tryz.func3, Tryz.ntmps3
  go_wp2_with fail
  refine (unhide HAl).mono ?_
  rintro e w1 ⟨rfl, hb1⟩
  have HB1 := hide hb1
  clear hb1 HAl
  go_wp2_with (refine wpList_build 29 _ [.int .i64 4, .int .i64 4] [(0, .int .i64 4), (1, .int .i64 4)] rfl rfl rfl (by kernel_rfl) ?_)
  refine (unhide HLA w1).mono ?_
  rintro e w2 ⟨F, D, m, p, rfl, _, _, hb2⟩
  have HB2 := hide ((unhide HB1).trans (hb2.mono (unhide HB1).size))
  clear hb2 HB1 HLA
  go_wp2_with (refine wpList_build 37 _ W2 [(1, .int .i64 2)] rfl rfl rfl (unhide HB2') ?_)
  refine (unhide HNO _ w2).mono ?_
  rintro e w3 ⟨rfl, hb3⟩
  have HB3 := hide ((unhide HB2).trans (hb3.mono (unhide HB2).size))
  clear hb3 HB2 HNO HB2'
  go_wp2_with (first
    | refine wpList_build 37 _ W5 [(3, .int .u64 5)] rfl rfl rfl (unhide HBF) ?_
    | refine wpList_build 41 _ cF.cs [(0, .int .i64 4), (4, .int .u64 4)] rfl rfl rfl (unhide HBC) ?_
    | refine wpList_one43 _ cF cF_fit rfl rfl rfl ?_)
  intro w4 hr4 hb4 hs4
  have HB4 := hide ((unhide HB3).trans (hb4.mono (unhide HB3).size))
  have HA4 := hide (unhide HAP w4 _ hr4)
  clear hr4 hb4 HB3 HAP
  go_wp2_with fail
  refine (unhide HA4).mono ?_
  rintro e w5 ⟨rfl, hb5⟩
  have HB5 := hide ((unhide HB4).trans (hb5.mono (unhide HB4).size))
  clear hb5 HB4 HA4
  go_wp2_with (refine wpList_alloc 37 37 Z rfl rfl (unhide HAL) ?_)
  intro w6 hA6 hb6 hs6
  have HA6 := hide hA6
  have HB6 := hide ((unhide HB5).trans (hb6.mono (unhide HB5).size))
  have hs5 : w.heap.size ≤ w5.heap.size := (unhide HB5).size
  clear hA6 hb6 HB5
  generalize w5.heap.size = b at *
  go_wp2_with (refine wpList_storeAll 37 _ _ b Z Z rfl rfl rfl rfl (unhide HA6) rfl (unhide HZI) (unhide HZ1) ?_)
  intro w7 hA7 hg7 hs7
  have HB7 := hide ((unhide HB6).grown hg7 (unhide HB6).size (fun k hk => by simp at hk; omega))
  clear hA7 hg7 HA6 HB6
  go_wp2_with fail
  refine (unhide HPA w7).mono ?_
  rintro e w8 ⟨rfl, hb8⟩
  have HB8 := hide ((unhide HB7).trans (hb8.mono (unhide HB7).size))
  clear hb8 HB7 HPA
  go_wp2_with (refine wpList_alloc 37 37 Z rfl rfl (unhide HAL) ?_)
  intro w9 hA9 hb9 hs9
  have HA9 := hide hA9
  have HB9 := hide ((unhide HB8).trans (hb9.mono (unhide HB8).size))
  have hs8 : w.heap.size ≤ w8.heap.size := (unhide HB8).size
  clear hA9 hb9 HB8
  generalize w8.heap.size = b2 at *
  go_wp2_with (refine wpList_storeAll 37 _ _ b2 Z Z rfl rfl rfl rfl (unhide HA9) rfl (unhide HZI) (unhide HZ1) ?_)
  intro w10 hA10 hg10 hs10
  have HB10 := hide ((unhide HB9).grown hg10 (unhide HB9).size (fun k hk => by simp at hk; omega))
  clear hA10 hg10 HA9 HB9 hs10 hs9
  go_wp2_with (refine wpList_one46 _ 0 rfl rfl rfl ?_)
  intro w11 hr11 hb11 hs11
  have HB11 := hide ((unhide HB10).trans (hb11.mono (unhide HB10).size))
  have HG11 : Hid (Calls Tryz.prog 16 #[.slice (some ⟨w10.heap.size, 0, none⟩) 1 1] w11 fun e w' => ∃ a c, e = .returned (.tuple #[.slice a 0 c, .int .i64 0]) ∧ Below w11.heap.size w11 w') := by
    refine hide ((Slot.get_walk _ _ [0] w11 (Nat.le_refl _) hr11).mono ?_)
    rintro e w' ⟨u, rfl, hC, hb⟩
    rw [get_zero] at hC ⊢
    obtain ⟨a, len, cap, rfl, _, _, _, hrow⟩ := hC
    have h1 := hrow.1
    simp only [List.length_nil] at h1
    subst h1
    exact ⟨a, cap, rfl, hb⟩
  clear hr11 hb11 HB10
  go_wp2_with fail
  refine (unhide HG11).mono ?_
  rintro e w12 ⟨ga, gc, rfl, hb12⟩
  have HB12 := hide ((unhide HB11).trans (hb12.mono (unhide HB11).size))
  clear hb12 HB11 HG11
  go_wp2_with ((with_reducible refine wpList_guarded ?_ ?_); rfl; refine wpList_build 37 _ Z [] rfl rfl rfl (unhide HB0) ?_)
  refine (unhide HBY w12).mono ?_
  rintro e w13 ⟨a13, c13, rfl, hb13⟩
  have HB13 := hide ((unhide HB12).trans (hb13.mono (unhide HB12).size))
  clear hb13 HB12 HBY
  go_wp2
  go_ret
  exact ⟨rfl, unhide HB13⟩
end Go.Proofs.YtdfdalkcljfghaaGreat.tableNames
