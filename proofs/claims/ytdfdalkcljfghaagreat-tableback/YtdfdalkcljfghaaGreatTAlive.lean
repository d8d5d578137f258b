/-
  The chapter's example, walked: a transaction is kept; in banks that are too small none is.
-/
import Derived.Test.YtdfdalkcljfghaaGreatTDo
import Derived.Test.YtdfdalkcljfghaaGreatJLaw
namespace Go.Proofs.YtdfdalkcljfghaaGreat.Slot
open Go.RowKit

theorem Turns.above {N : Nat} {G G' : List Nat} {w w' : World} (h : Turns G G' w w') (hG : ∀ k ∈ G, N ≤ k) (hN : N ≤ w.heap.size) : Below N w w' ∧ ∀ k ∈ G', N ≤ k :=
  ⟨h.1.below hG hN, fun k hk => by
    rcases h.2 k hk with e | e
    · exact hG k e
    · omega⟩
theorem Sto.but {F D G : List Nat} {w w' : World} {z q m p : Nat} {d : DM} {x : MX} {j : JX} {t : T} (h : Sto F D w z q m p d x j t) (hb : But G w w') (hd : ∀ k ∈ z :: q :: (F ++ D), k ∉ G) : Sto F D w' z q m p d x j t :=
  { h with jour := h.jour.but hb (fun k hk => hd k (List.mem_cons_of_mem _ hk)), arr := h.arr.same (hb.block z h.arr.lt (hd z (List.mem_cons_self ..))) }
def cA : C := ⟨2, 0, 1, zeroS, 0⟩
def tA : T := { zeroT with act := 1 }
theorem cA_fit : FitC cA := ⟨by decide, by decide, by decide, by decide, by decide, by decide, zeroS_fit, by decide⟩
theorem tA_fit : FitT tA := ⟨zeroS_fit, zeroS_fit, by decide, by decide, by decide, by decide, by decide⟩
theorem tA_right : rightT tA = true := by decide +kernel
theorem applyA : applyT zeroT [cA] = (tA, 0) := by decide +kernel
theorem apply0 {t : T} (h : rightT t = true) : applyT t [] = (t, 0) := by
  unfold applyT
  rw [if_pos ⟨h, by decide⟩]
  rfl
theorem bytesT_102 {t : T} (h : rightT t = true) (hf : FitT t) : sizeF (bytesT t).length = 2 := by rw [bytesT_len h hf]; decide
def jA : JX := ⟨0, 1, 0, 1, (putF 1 1 (bytesT tA)).length, true⟩
theorem alive_do : ∃ d1 x1 j1, doF (newD 60 10000) ⟨[4, 4], 0, []⟩ jnew zeroT [cA] = (0, d1, x1, j1, tA) ∧ x1.sz = [4, 4] ∧ openD2 d1 x1.sz 0 1 = (0, 1, [bytesT tA]) := by
  have hl := bytesT_len tA_right tA_fit
  obtain ⟨d1, x1, e1, f1, f2, f3, f4, f5, f6⟩ := begin_let (x := ⟨[4, 4], 0, []⟩) (bytesT tA) rfl (jnew_ok 4 4) (fit0 (by omega) (by omega)) (by rw [most0]; omega) (up0 4 4) (by simp [jnew]) (by omega) bud0 (by rw [hl]; decide)
  have hk : keepF (newD 60 10000) ⟨[4, 4], 0, []⟩ jnew tA [cA] = (0, d1, x1, jA) := by
    unfold keepF
    rw [if_neg (by decide)]
    exact e1
  refine ⟨d1, x1, jA, ?_, f3.sz, ?_⟩
  · unfold doF
    rw [applyA, if_neg (by simp)]
    simp only
    rw [hk, if_neg (by simp)]
  · rw [f3.sz]
    exact f6.opened f1 ⟨by simp [jnew], by simp [jnew], by simp [jnew], by simp [jnew]⟩ (by simp [jnew])
theorem alive_small : doF (newD 60 10000) ⟨[1, 1], 0, []⟩ jnew zeroT [] = (92, newD 60 10000, ⟨[1, 1], 0, []⟩, jnew, zeroT) := by
  have hl := bytesT_len zeroT_right zeroT_fit
  have hk : keepF (newD 60 10000) ⟨[1, 1], 0, []⟩ jnew zeroT [] = (92, newD 60 10000, ⟨[1, 1], 0, []⟩, jnew) := by
    unfold keepF
    rw [if_neg (by decide)]
    exact fits_no (sz := [1, 1]) _ rfl (by rw [hl]; decide)
  unfold doF
  rw [apply0 zeroT_right, if_neg (by simp)]
  simp only
  rw [hk, if_pos (by decide)]
/-- What a slice literal with one change makes. -/
theorem run_one43 (w : World) (c : C) (hc : FitC c) : (Instr.buildSlice 43 1 #[(0, .agg c.cs.toArray)]).run Tryz.prog w = .ok (.slice (some ⟨w.heap.size, 0, none⟩) 1 1) (w.alloc (.cells c.cs.toArray 41)) := by
  obtain ⟨i, i1, i2, i3, i4⟩ := full41
  refine run_buildSlice (P := Tryz.prog) w 43 41 1 #[(0, .agg c.cs.toArray)] c.cs.toArray i _ Tryz.underlying43 i1 i2 (by rw [i3]; decide) (by rw [i3]; decide) ?_
  rw [i3]
  obtain ⟨k, sl, n, ⟨a, b, v, z, dg⟩, ver⟩ := c
  obtain ⟨f, rfl⟩ := of_len hc.s.dg
  kernel_rfl
section
variable {ops : Array Oper} {rest : List Oper} {o : Oper} {a : Act} {w : World} {Q : Exit → Act → World → Prop}
theorem wpList_one43 (x : Operand) (c : C) (hc : FitC c) (ho : o.op = .buildSlice 43 1 #[(0, x)]) (hg : o.guard = none) (hx : a.eval x = .agg c.cs.toArray)
    (h : ∀ w', CRowV w'.heap.size w' (.slice (some ⟨w.heap.size, 0, none⟩) 1 1) [c] → Below w.heap.size w w' → w'.heap.size = w.heap.size + 1 → wpList Tryz.prog ops Q rest (a.put o.dst (.slice (some ⟨w.heap.size, 0, none⟩) 1 1)) w') : wpList Tryz.prog ops Q (o :: rest) a w := by
  refine wpList_plain hg fun K hK => ?_
  have r : (execOp a.eval o).run Tryz.prog w = .ok (.value (.slice (some ⟨w.heap.size, 0, none⟩) 1 1)) (w.alloc (.cells c.cs.toArray 41)) := by
    unfold execOp
    simp only [ho, List.map_toArray, List.map_cons, List.map_nil, hx, Sem.run_bind, run_one43 w c hc, Result.andThen_ok, Sem.run_pure]
  unfold Oper.wp
  rw [r, Oper.upon_value]
  refine hK _ _ (h _ (row_cells ⟨_, _, heap_alloc_new w _, ?_⟩ (fun x hx => by obtain rfl := List.mem_singleton.1 hx; exact hc) rfl (Nat.le_refl _) (by decide)) ((Below.refl _ _).alloc (Nat.le_refl _) _) (by simp))
  simp [csL]
end

theorem open_fresh {F D : List Nat} {w : World} {m p s0 s1 : Nat} (h0 : 1 ≤ s0 ∧ s0 ≤ 25) (h1 : 1 ≤ s1 ∧ s1 ≤ 25) (h : PMap F D w m p (newD 60 10000) ⟨[s0, s1], 0, []⟩) (first : T) (hf : FitT first) (hr : rightT first = true) :
    Calls Tryz.prog 12 #[.pointer (some ⟨m, 0, none⟩), .int .i64 0, .int .i64 1, first.v] w fun e w' => ∃ z q, e = .returned (.tuple #[.pointer (some ⟨z, 0, none⟩), .int .i64 0]) ∧
      Sto F D w' z q m p (newD 60 10000) ⟨[s0, s1], 0, []⟩ jnew first ∧ Below w.heap.size w w' ∧ w.heap.size ≤ z ∧ w.heap.size ≤ q := by
  have := topen_walk h 0 1 (by simp) (by simp) (by omega) first hf hr
  rw [open0 s0 s1 h0.2 h1.2] at this
  exact this

set_option maxHeartbeats 12800000 in
set_option maxRecDepth 100000 in
theorem alive_walk (w : World) : Calls Tryz.prog 11 #[] w fun e w' => e = .returned (.bool true) ∧ Below w.heap.size w w' := by
  obtain ⟨d1, x1, j1, e1, hsz, hop⟩ := alive_do
  have HE1 := hide e1
  have HSZ := hide hsz
  have HOP := hide hop
  clear e1 hsz hop
  have HLA : Hid (∀ w, Calls Tryz.prog 13 #[.agg #[.int .i64 4, .int .i64 4]] w fun e w' => ∃ F D m p, e = .returned (.pointer (some ⟨m, 0, none⟩)) ∧ PMap F D w' m p (newD 60 10000) ⟨[4, 4], 0, []⟩ ∧ (∀ k ∈ F ++ D, w.heap.size ≤ k) ∧ Below w.heap.size w w') := hide (law_open 4 4 (by omega) (by omega))
  have HLB : Hid (∀ w, Calls Tryz.prog 13 #[.agg #[.int .i64 1, .int .i64 1]] w fun e w' => ∃ F D m p, e = .returned (.pointer (some ⟨m, 0, none⟩)) ∧ PMap F D w' m p (newD 60 10000) ⟨[1, 1], 0, []⟩ ∧ (∀ k ∈ F ++ D, w.heap.size ≤ k) ∧ Below w.heap.size w w') := hide (law_open 1 1 (by omega) (by omega))
  have HB0 := hide built37
  have HB1 := hide (built37_act 1)
  have HBC := hide (built41_n 2 1)
  have HOA : Hid (∀ {F D : List Nat} {w : World} {m p : Nat}, PMap F D w m p (newD 60 10000) ⟨[4, 4], 0, []⟩ → Calls Tryz.prog 12 #[.pointer (some ⟨m, 0, none⟩), .int .i64 0, .int .i64 1, .agg zeroT.cs.toArray] w fun e w' => ∃ z q, e = .returned (.tuple #[.pointer (some ⟨z, 0, none⟩), .int .i64 0]) ∧ Sto F D w' z q m p (newD 60 10000) ⟨[4, 4], 0, []⟩ jnew zeroT ∧ Below w.heap.size w w' ∧ w.heap.size ≤ z ∧ w.heap.size ≤ q) := hide fun h => open_fresh (by omega) (by omega) h zeroT zeroT_fit zeroT_right
  have HOB : Hid (∀ {F D : List Nat} {w : World} {m p : Nat}, PMap F D w m p (newD 60 10000) ⟨[1, 1], 0, []⟩ → Calls Tryz.prog 12 #[.pointer (some ⟨m, 0, none⟩), .int .i64 0, .int .i64 1, .agg zeroT.cs.toArray] w fun e w' => ∃ z q, e = .returned (.tuple #[.pointer (some ⟨z, 0, none⟩), .int .i64 0]) ∧ Sto F D w' z q m p (newD 60 10000) ⟨[1, 1], 0, []⟩ jnew zeroT ∧ Below w.heap.size w w' ∧ w.heap.size ≤ z ∧ w.heap.size ≤ q) := hide fun h => open_fresh (by omega) (by omega) h zeroT zeroT_fit zeroT_right
  obtain ⟨Z, hZ⟩ : ∃ Z, Z = zeroT.cs := ⟨_, rfl⟩
  rw [← hZ] at HB0 HOA HOB
  have HZ := hide hZ
  clear hZ
  go_enter Tryz.func11, Tryz.ntmps11
  go_wp2_with (first
    | refine wpList_build 29 _ [.int .i64 4, .int .i64 4] [(0, .int .i64 4), (1, .int .i64 4)] rfl rfl rfl (by kernel_rfl) ?_
    | refine wpList_build 29 _ [.int .i64 1, .int .i64 1] [(0, .int .i64 1), (1, .int .i64 1)] rfl rfl rfl (by kernel_rfl) ?_)
  refine (unhide HLA w).mono ?_
  rintro e w1 ⟨FA, DA, ma, pa, rfl, hMA, hFA, hb1⟩
  have HMA := hide hMA
  have HFA := hide hFA
  have HB := hide hb1
  clear hMA hFA hb1 HLA
  go_wp2_with (first
    | refine wpList_build 29 _ [.int .i64 4, .int .i64 4] [(0, .int .i64 4), (1, .int .i64 4)] rfl rfl rfl (by kernel_rfl) ?_
    | refine wpList_build 29 _ [.int .i64 1, .int .i64 1] [(0, .int .i64 1), (1, .int .i64 1)] rfl rfl rfl (by kernel_rfl) ?_)
  refine (unhide HLB w1).mono ?_
  rintro e w2 ⟨FB, DB, mb, pb, rfl, hMB, hFB, hb2⟩
  have HLTA : Hid (∀ k ∈ FA ++ DA, k < w1.heap.size) := hide fun k hk => (unhide HMA).lt k hk
  have HMB := hide hMB
  have HFB := hide hFB
  have HMA2 := hide ((unhide HMA).below hb2)
  have HB2 := hide ((unhide HB).trans (hb2.mono (unhide HB).size))
  have hs12 : w1.heap.size ≤ w2.heap.size := hb2.size
  have hs01 : w.heap.size ≤ w1.heap.size := (unhide HB).size
  clear hMB hFB hb2 HLB HMA HB
  go_wp2_with (refine wpList_build 37 _ Z [] rfl rfl rfl (unhide HB0) ?_)
  refine (unhide HOA (unhide HMA2)).mono ?_
  rintro e w3 ⟨za, qa, rfl, hSA, hb3, hza, hqa⟩
  have hlta := fun k hk => hSA.lt k hk
  have HSA := hide hSA
  have HMB3 := hide ((unhide HMB).below hb3)
  have HLTB : Hid (∀ k ∈ FB ++ DB, k < w2.heap.size) := hide fun k hk => (unhide HMB).lt k hk
  have HB3 := hide ((unhide HB2).trans (hb3.mono (unhide HB2).size))
  have hs23 : w2.heap.size ≤ w3.heap.size := hb3.size
  have hza3 : za < w3.heap.size := hlta za (by simp)
  have hqa3 : qa < w3.heap.size := hlta qa (by simp)
  clear hSA hb3 HMB HMA2 HB2 hlta
  go_wp2_with (refine wpList_build 37 _ Z [] rfl rfl rfl (unhide HB0) ?_)
  refine (unhide HOB (unhide HMB3)).mono ?_
  rintro e w4 ⟨zb, qb, rfl, hSB, hb4, hzb, hqb⟩
  have HSB := hide hSB
  have HSA4 := hide ((unhide HSA).below hb4)
  have HB4 := hide ((unhide HB3).trans (hb4.mono (unhide HB3).size))
  have hs34 : w3.heap.size ≤ w4.heap.size := hb4.size
  -- the blocks of the one, and those of the other
  have HDJ : Hid (∀ k ∈ za :: qa :: (FA ++ DA), k ∉ zb :: qb :: (FB ++ DB)) := hide fun k hk e => by
    have c1 : (k = za ∨ k = qa) ∨ k ∈ FA ++ DA := by
      rcases List.mem_cons.1 hk with h | h
      · exact .inl (.inl h)
      · rcases List.mem_cons.1 h with h | h
        · exact .inl (.inr h)
        · exact .inr h
    have c2 : (k = zb ∨ k = qb) ∨ k ∈ FB ++ DB := by
      rcases List.mem_cons.1 e with h | h
      · exact .inl (.inl h)
      · rcases List.mem_cons.1 h with h | h
        · exact .inl (.inr h)
        · exact .inr h
    rcases c1 with c1 | c1 <;> rcases c2 with c2 | c2
    · omega
    · have h1 := unhide HLTB k c2
      have h2 := unhide HFB k c2
      omega
    · have h1 := unhide HLTA k c1
      omega
    · have h1 := unhide HLTA k c1
      have h2 := unhide HFB k c2
      omega
  have HGA : Hid (∀ k ∈ za :: qa :: (FA ++ DA), w.heap.size ≤ k) := hide fun k hk => by
    rcases List.mem_cons.1 hk with rfl | h
    · omega
    · rcases List.mem_cons.1 h with rfl | h
      · omega
      · exact unhide HFA k h
  have HGB : Hid (∀ k ∈ zb :: qb :: (FB ++ DB), w.heap.size ≤ k) := hide fun k hk => by
    rcases List.mem_cons.1 hk with rfl | h
    · omega
    · rcases List.mem_cons.1 h with rfl | h
      · omega
      · have := unhide HFB k h; omega
  clear hSB hb4 HMB3 HSA HB3 HLTA HLTB HFA HFB
  have hs04 : w.heap.size ≤ w4.heap.size := by omega
  clear hza hqa hza3 hqa3 hzb hqb hs12 hs01 hs23 hs34
  go_wp2_with (first
    | ((with_reducible refine wpList_guarded ?_ ?_); rfl; refine wpList_build 41 _ cA.cs [(0, .int .i64 2), (2, .int .i64 1)] rfl rfl rfl (unhide HBC) ?_)
    | ((with_reducible refine wpList_guarded ?_ ?_); rfl; refine wpList_one43 _ cA cA_fit rfl rfl rfl ?_))
  intro w5 hr5 hb5 hs5
  have HSA5 := hide ((unhide HSA4).below hb5)
  have HSB5 := hide ((unhide HSB).below hb5)
  have HB5 := hide ((unhide HB4).trans (hb5.mono hs04))
  have HD5 : Hid (Calls Tryz.prog 29 #[.pointer (some ⟨za, 0, none⟩), .slice (some ⟨w4.heap.size, 0, none⟩) 1 1] w5 fun e w' => e = .returned (.int .i64 0) ∧ ∃ F' D', Sto F' D' w' za qa ma pa d1 x1 j1 tA ∧ Turns (za :: qa :: (FA ++ DA)) (za :: qa :: (F' ++ D')) w5 w') := by
    have h := do_walk (unhide HSA5) _ [cA] hr5 (by show ([] : List (Nat × Sec)).length ≤ _; simp) (by simp)
    rw [unhide HE1] at h
    exact hide h
  clear hr5 hb5 HSA4 HSB HB4
  go_wp2_with fail
  refine (unhide HD5).mono ?_
  rintro e w6 ⟨rfl, FA6, DA6, hSA6, hT6⟩
  have hs6 : w5.heap.size ≤ w6.heap.size := hT6.1.size
  have HSB6 := hide ((unhide HSB5).but hT6.1 (fun k hk e => unhide HDJ k e hk))
  have HDJ6 : Hid (∀ k ∈ za :: qa :: (FA6 ++ DA6), k ∉ zb :: qb :: (FB ++ DB)) := hide fun k hk e => by
    rcases hT6.2 k hk with h | h
    · exact unhide HDJ k h e
    · have := (unhide HSB5).lt k e
      omega
  have hab := Turns.above hT6 (unhide HGA) (by omega)
  have HB6 := hide ((unhide HB5).trans hab.1)
  have HSA6 := hide hSA6
  clear hSA6 hT6 hab HD5 HSA5 HSB5 HB5 HDJ HGA HOB
  have HD7 : Hid (Calls Tryz.prog 29 #[.pointer (some ⟨zb, 0, none⟩), .slice none 0 0] w6 fun e w' => e = .returned (.int .i64 92) ∧ ∃ F' D', Sto F' D' w' zb qb mb pb (newD 60 10000) ⟨[1, 1], 0, []⟩ jnew zeroT ∧ Turns (zb :: qb :: (FB ++ DB)) (zb :: qb :: (F' ++ D')) w6 w') := by
    have h := do_walk (unhide HSB6) _ [] (CRowV.nil _ _) (by show ([] : List (Nat × Sec)).length ≤ _; simp) (by simp)
    rw [alive_small] at h
    exact hide h
  have hs06 : w.heap.size ≤ w6.heap.size := by omega
  go_wp2_with fail
  refine (unhide HD7).mono ?_
  rintro e w7 ⟨rfl, FB7, DB7, _, hT7⟩
  have HSA7 := hide ((unhide HSA6).but hT7.1 (unhide HDJ6))
  have hab := Turns.above hT7 (unhide HGB) hs06
  have HB7 := hide ((unhide HB6).trans hab.1)
  have hs07 : w.heap.size ≤ w7.heap.size := (unhide HB7).size
  clear hT7 hab HD7 HSA6 HSB6 HB6 HDJ6 HGB
  have HO7 : Hid (Calls Tryz.prog 12 #[.pointer (some ⟨ma, 0, none⟩), .int .i64 0, .int .i64 1, .agg Z.toArray] w7 fun e w' => ∃ z q, e = .returned (.tuple #[.pointer (some ⟨z, 0, none⟩), .int .i64 0]) ∧ Sto FA6 DA6 w' z q ma pa d1 x1 ⟨0, 1, 0, 1, 0, false⟩ tA ∧ Below w7.heap.size w7 w' ∧ w7.heap.size ≤ z ∧ w7.heap.size ≤ q) := by
    have h := topen_walk (unhide HSA7).jour.map 0 1 (by rw [unhide HSZ]; simp) (by rw [unhide HSZ]; simp) (by omega) zeroT zeroT_fit zeroT_right
    rw [unhide HOP] at h
    have hk : keptF zeroT [bytesT tA] = tA := kept_base tA_right tA_fit
    rw [hk] at h
    rw [unhide HZ]
    exact hide h
  go_wp2_with (refine wpList_build 37 _ Z [] rfl rfl rfl (unhide HB0) ?_)
  refine (unhide HO7).mono ?_
  rintro e w8 ⟨zc, qc, rfl, hSC, hb8, _, _⟩
  have HT8 := hide (table_walk hSC)
  have HSA8 := hide ((unhide HSA7).below hb8)
  have HB8 := hide ((unhide HB7).trans (hb8.mono hs07))
  clear hSC hb8 HSA7 HB7 HO7
  have he := run_equal37 tA tA tA_fit tA_fit
  rw [decide_eq_true rfl] at he
  have HB1' : Hid (Tryz.prog.built 37 [(1, .int .i64 1)] = some tA.cs.toArray) := HB1
  clear HB1
  unfold T.v at HT8
  have HTA : Hid (∀ w, (∃ F D z q m p d x j, z = za ∧ Sto F D w z q m p d x j tA) → Calls Tryz.prog 36 #[.pointer (some ⟨za, 0, none⟩)] w fun e w' => e = .returned (.agg tA.cs.toArray) ∧ Below w.heap.size w w') := hide fun w h => by
    obtain ⟨F, D, z, q, m, p, d, x, j, rfl, h⟩ := h
    exact table_walk h
  generalize tA.cs = Y at *
  go_wp2_with fail
  refine (unhide HT8).mono ?_
  rintro e w9 ⟨rfl, hb9⟩
  have HSA9 := hide ((unhide HSA8).below hb9)
  have HB9 := hide ((unhide HB8).trans (hb9.mono (unhide HB8).size))
  clear hb9 HSA8 HB8 HT8
  go_wp2_with ((with_reducible refine wpList_guarded ?_ ?_); rfl; refine wpList_build 37 _ Y [(1, .int .i64 1)] rfl rfl rfl (unhide HB1') ?_)
  refine (unhide HTA w9 ⟨_, _, _, _, _, _, _, _, _, rfl, unhide HSA9⟩).mono ?_
  rintro e w10 ⟨rfl, hb10⟩
  have HB10 := hide ((unhide HB9).trans (hb10.mono (unhide HB9).size))
  clear hb10 HSA9 HB9 HTA
  go_wp2_with ((with_reducible refine wpList_guarded ?_ ?_); rfl; refine wpList_build 37 _ Y [(1, .int .i64 1)] rfl rfl rfl (unhide HB1') ?_)
  go_ret
  exact ⟨rfl, unhide HB10⟩
end Go.Proofs.YtdfdalkcljfghaaGreat.Slot
