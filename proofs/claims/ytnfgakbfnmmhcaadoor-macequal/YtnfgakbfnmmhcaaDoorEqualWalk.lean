/-
  MacEqual returns true, whatever the hashes and the number.
-/
import Derived.Test.YtnfgakbfnmmhcaaDoorSame
namespace Go.Proofs.YtnfgakbfnmmhcaaDoor.macEqual
open Go.RowKit

theorem run_max0 (m : Int) (w : World) : (Builtin.max_ #[3, 3] 3 #[.int .i64 0, .int .i64 m]).run Tryd.prog w = .ok (.int .i64 ((m.toNat : Nat) : Int)) w := by
  simp [Builtin.max_, Builtin.max2]
  split <;> omega

theorem run_load25 {ρ : Operand → Value} {o : Oper} {x : Operand} {b : Nat} {cs : List Value} {w : World} (ho : o.op = .load 25 x) (h : ρ x = .pointer (some ⟨b, 0, none⟩)) (hc : w.rangeAt b 0 cs) (hl : cs.length = 32) :
    (execOp ρ o).run Tryd.prog w = .ok (.value (.agg cs.toArray)) w := by
  have hr := run_loadAt_mid (P := Tryd.prog) w b 0 25 cs _ hc Tryd.underlying25 rfl (by rw [hl]; exact info25)
  unfold execOp
  simp only [ho, h, Sem.run_bind, hr, Result.andThen, Sem.run_pure]
theorem run_eql25 {ρ : Operand → Value} {o : Oper} {x y : Operand} {S T : List (BitVec 8)} (hS : S.length = 32) (hT : T.length = 32) (ho : o.op = .binOp .eql 25 x y 25) (h : ρ x = .agg (bytesV S).toArray) (h' : ρ y = .agg (bytesV T).toArray) (w : World) :
    (execOp ρ o).run Tryd.prog w = .ok (.value (.bool (S == T))) w := by
  have hE := run_equal25 S T hS hT w
  unfold execOp
  rw [ho]
  go_simp
theorem run_eqlB {ρ : Operand → Value} {o : Oper} {x y : Operand} {b : Bool} (ho : o.op = .binOp .eql 4 x y 4) (h : ρ x = .bool b) (h' : ρ y = .bool b) (w : World) :
    (execOp ρ o).run Tryd.prog w = .ok (.value (.bool true)) w := by
  unfold execOp
  rw [ho]
  cases b <;> go_simp
theorem run_pick {ρ : Operand → Value} {o : Oper} {t u : Nat} {v : Value} {x : Operand} (ho : o.op = .pick (.tmp t) (.tmp u) x) (h : ρ (.tmp t) = .bool true) (h' : ρ (.tmp u) = v) (w : World) :
    (execOp ρ o).run Tryd.prog w = .ok (.value v) w := by
  unfold execOp
  rw [ho]
  go_simp
theorem run_not {ρ : Operand → Value} {o : Oper} {x : Operand} (ho : o.op = .unOp .not 4 x) (h : ρ x = .bool false) (w : World) :
    (execOp ρ o).run Tryd.prog w = .ok (.value (.bool true)) w := by
  unfold execOp
  rw [ho]
  go_simp
theorem run_call9 {ρ : Operand → Value} {o : Oper} {t u : Nat} {v v' : Value} (ho : o.op = .call { callee := .value (.func 9), args := #[.tmp t, .tmp u], argTypes := #[25, 25] }) (hf : ρ (.func 9) = .func (.func 9) #[] #[]) (h : ρ (.tmp t) = v) (h' : ρ (.tmp u) = v') (w : World) :
    (execOp ρ o).run Tryd.prog w = .ok (.enter 9 #[v, v']) w := by
  unfold execOp
  rw [ho]
  go_simp

theorem turned_differs (x : List (BitVec 8)) (n : Nat) (c : BitVec 8) (hn : n < x.length) (hc : c = x.getD n 0) : (x == x.set n (c ^^^ 1#8)) = false := by
  rw [beq_eq_false_iff_ne]
  intro h
  have h1 : x.getD n 0 = (x.set n (c ^^^ 1#8)).getD n 0 := congrArg (fun l => l.getD n 0) h
  rw [← hc, List.getD_eq_getElem?_getD, List.getElem?_set_self hn] at h1
  have : ∀ c : BitVec 8, c ≠ c ^^^ 1#8 := by decide
  exact this c h1

/-- What the operations of the question yield. -/
def VE (x y z : List (BitVec 8)) : Nat → Value → World → Prop
  | 0, v, _ => v = .agg (bytesV x).toArray
  | 1, v, _ => v = .agg (bytesV y).toArray
  | 2, v, _ => v = .bool (x == y)
  | 3, v, _ => v = .agg (bytesV x).toArray
  | 4, v, _ => v = .agg (bytesV y).toArray
  | 5, v, _ => v = .bool (x == y)
  | 6, v, _ => v = .bool true
  | 7, v, _ => v = .bool true
  | 8, v, _ => v = .agg (bytesV x).toArray
  | 9, v, _ => v = .agg (bytesV x).toArray
  | 10, v, _ => v = .bool true
  | 11, v, _ => v = .bool true
  | 12, v, _ => v = .bool true
  | 13, v, _ => v = .agg (bytesV x).toArray
  | 14, v, _ => v = .agg (bytesV z).toArray
  | 15, v, _ => v = .bool false
  | 16, v, _ => v = .bool true
  | 17, v, _ => v = .bool true
  | 18, v, _ => v = .bool true
  | _, _, _ => True

theorem VE.stable {x y z : List (BitVec 8)} (j : Nat) (v : Value) (w w' : World) (h : VE x y z j v w) (_ : Below w.heap.size w w') : VE x y z j v w' := by
  unfold VE at *
  split at h <;> exact h

set_option maxRecDepth 100000 in
set_option maxHeartbeats 800000 in
theorem main (H0 H1 : List Value) (x y : List (BitVec 8)) (at' : Int) (w : World) (hT : Tabs w) (hH0 : H0 = bytesV x) (hx : x.length = 32) (hH1 : H1 = bytesV y) (hy : y.length = 32) :
    Calls Tryd.prog 4 #[.agg H0.toArray, .agg H1.toArray, .int .i64 at'] w fun e w' => e = .returned (.bool true) ∧ Below w.heap.size w w' := by
  have HT := hide hT
  have hsz := hT.size
  have Hx := hide hx
  have Hy := hide hy
  have Hcs := hide hH0
  have Hds := hide hH1
  have Hl0 : Hid (H0.length = 32) := by show _ = _; rw [hH0, bytesV_length, hx]
  have Hl1 : Hid (H1.length = 32) := by show _ = _; rw [hH1, bytesV_length, hy]
  have Hone : Hid (∀ v ∈ H0, v.oneCell' = true) := by show ∀ v ∈ H0, _; rw [hH0]; exact bytesV_one x
  have hmax := run_max0 at'
  clear hT hH0 hH1 hx hy
  go_enter Tryd.func4, Tryd.ntmps4
  go_wp2_with (refine wpList_box 25 _ H0 rfl rfl rfl ?_)
  intro w1 hA1 hb1 hs1
  have HA1 := hide hA1
  have Hb1 := hide hb1
  clear hA1 hb1
  go_wp2_with (refine wpList_box 25 _ H1 rfl rfl rfl ?_)
  intro w2 hB2 hb2 hs2
  have HA2 := hide ((unhide HA1).keep hb2 (by omega))
  have HB2 := hide hB2
  have Hb2 := hide ((unhide Hb1).trans (hb2.mono (by omega)))
  clear hB2 hb2 HA1 Hb1
  go_wp2_with fail
  refine (alive_any _ ((unhide HT).below (unhide Hb2) hsz)).mono ?_
  rintro e w3 ⟨rfl, hb3⟩
  have HA3 := hide ((unhide HA2).below hb3)
  have HB3 := hide ((unhide HB2).below hb3)
  have Hb3 := hide ((unhide Hb2).trans (hb3.mono (unhide Hb2).size))
  have h3 : w.heap.size + 1 < w3.heap.size := (unhide HB3).lt
  clear hb3 HA2 HB2 Hb2 hs1 hs2
  go_wp2_with (first
    | refine wpList_loadAll 25 _ w.heap.size H0 _ rfl rfl rfl (unhide HA3) Tryd.underlying25 rfl (by rw [unhide Hl0]; exact info25) ?_
    | refine wpList_alloc 25 25 (bytesV zerosB) rfl rfl alloc25 ?_)
  intro w4 hC4 hb4 hs4
  have HA4 := hide ((unhide HA3).below hb4)
  have HB4 := hide ((unhide HB3).below hb4)
  have HC4 := hide hC4
  have Hb4 := hide ((unhide Hb3).trans (hb4.mono (unhide Hb3).size))
  clear hb4 hC4 HA3 HB3 Hb3
  obtain ⟨b7, hb7⟩ : ∃ b, b = w3.heap.size := ⟨_, rfl⟩
  rw [← hb7] at HC4 hs4 h3 ⊢
  clear hb7
  go_wp2_with (refine wpList_storeAll 25 _ _ b7 H0 (bytesV zerosB) rfl rfl rfl rfl (unhide HC4) (by rw [unhide Hl0]; rfl) (by rw [unhide Hl0]; exact info25) (unhide Hone) ?_)
  intro w5 hC5 hg5 hs5
  have HA5 := hide ((unhide HA4).grown hg5 (by simp; omega))
  have HB5 := hide ((unhide HB4).grown hg5 (by simp; omega))
  have Hb5 := hide ((unhide Hb4).grown hg5 (unhide Hb4).size (fun k hk => by simp at hk; omega))
  have HC5 := hide hC5
  clear hC5 hg5 hs5 hs4 HA4 HB4 HC4 Hb4
  generalize at'.toNat = M at *
  have hlt : M % 32 < 32 := Nat.mod_lt _ (by decide)
  obtain ⟨c, hc⟩ : ∃ c, c = x.getD (M % 32) 0 := ⟨_, rfl⟩
  have hcell := (unhide HC5).cell (i := M % 32) (by rw [unhide Hcs]; exact bytesV_get x (by rw [unhide Hx]; exact hlt))
  rw [← hc] at hcell
  have hfree := (unhide HC5).free (M % 32)
  have Hxo : Hid (bits .xor .u8 ((c.toNat : Nat) : Int) 1 = (((c ^^^ 1#8).toNat : Nat) : Int)) := xor8 _ 1#8
  have hC6 := (unhide HC5).set (M % 32) (.int .u8 (((c ^^^ 1#8).toNat : Nat) : Int))
  rw [unhide Hcs, bytesV_set] at hC6
  have HC6 := hide hC6
  have HA6 := hide ((unhide HA5).other ⟨b7, M % 32, none⟩ (.int .u8 (((c ^^^ 1#8).toNat : Nat) : Int)) (by show w.heap.size ≠ b7; omega))
  have HB6 := hide ((unhide HB5).other ⟨b7, M % 32, none⟩ (.int .u8 (((c ^^^ 1#8).toNat : Nat) : Int)) (by show w.heap.size + 1 ≠ b7; omega))
  have Hb6 := hide ((unhide Hb5).setCell (p := ⟨b7, M % 32, none⟩) (by show w.heap.size ≤ b7; omega) (.int .u8 (((c ^^^ 1#8).toNat : Nat) : Int)))
  have hz : (x == x.set (M % 32) (c ^^^ 1#8)) = false := turned_differs x _ c (by rw [unhide Hx]; exact hlt) hc
  obtain ⟨z, hz'⟩ : ∃ z, z = x.set (M % 32) (c ^^^ 1#8) := ⟨_, rfl⟩
  have Hzl : Hid (z.length = 32) := by show _ = _; rw [hz', List.length_set, unhide Hx]
  rw [← hz'] at HC6 hz
  have Hz := hide hz
  clear hC6 HC5 HA5 HB5 Hb5 hz hz' hc
  go_wp2_with fail
  rw [unhide Hxo]
  generalize w5.setCell ⟨b7, M % 32, none⟩ (.int .u8 (((c ^^^ 1#8).toNat : Nat) : Int)) = w6 at *
  have Hr0 : Hid (Value.agg H0.toArray = .agg (bytesV x).toArray) := by show _ = _; rw [unhide Hcs]
  have Hr1 : Hid (Value.agg H1.toArray = .agg (bytesV y).toArray) := by show _ = _; rw [unhide Hds]
  have Hzv : Hid ((bytesV z).length = 32) := by show _ = _; rw [bytesV_length, unhide Hzl]
  refine Free.wp_region_owes (VE x y z) (fun w' => Below w6.heap.size w6 w') (by kernel_rfl) (by kernel_rfl) VE.stable (Below.drew (Below.refl _ _)) ⟨?_, ?_, ?_, ?_, ?_, ?_, ?_, ?_, ?_, ?_, ?_, ?_, ?_, ?_, ?_, ?_, ?_, ?_, ?_, trivial⟩ ?_
  · refine Free.owed_pure (Free.goes_plain rfl) fun a w' hC hs hd => ?_
    exact ⟨_, run_load25 rfl (hs 3 (by kernel_rfl)) ((unhide HA6).below hC).range (unhide Hl0), unhide Hr0⟩
  · refine Free.owed_pure (Free.goes_plain rfl) fun a w' hC hs hd => ?_
    exact ⟨_, run_load25 rfl (hs 4 (by kernel_rfl)) ((unhide HB6).below hC).range (unhide Hl1), unhide Hr1⟩
  · refine Free.owed_call (Free.goes_plain rfl) fun a w' hC hs hd => ?_
    refine ⟨9, _, run_call9 rfl rfl (hd 0 18 (by kernel_rfl)) (hd 1 19 (by kernel_rfl)) w', (equal_any x y (unhide Hx) (unhide Hy) _ _ rfl rfl w').mono ?_⟩
    rintro e w7 ⟨rfl, hb7⟩
    exact ⟨_, rfl, hb7, hC.trans (hb7.mono hC.size), rfl⟩
  · refine Free.owed_pure (Free.goes_plain rfl) fun a w' hC hs hd => ?_
    exact ⟨_, run_load25 rfl (hs 3 (by kernel_rfl)) ((unhide HA6).below hC).range (unhide Hl0), unhide Hr0⟩
  · refine Free.owed_pure (Free.goes_plain rfl) fun a w' hC hs hd => ?_
    exact ⟨_, run_load25 rfl (hs 4 (by kernel_rfl)) ((unhide HB6).below hC).range (unhide Hl1), unhide Hr1⟩
  · exact Free.owed_pure (Free.goes_plain rfl) fun a w' hC hs hd => ⟨_, run_eql25 (unhide Hx) (unhide Hy) rfl (hd 3 21 (by kernel_rfl)) (hd 4 22 (by kernel_rfl)) w', rfl⟩
  · exact Free.owed_pure (Free.goes_plain rfl) fun a w' hC hs hd => ⟨_, run_eqlB rfl (hd 2 20 (by kernel_rfl)) (hd 5 23 (by kernel_rfl)) w', rfl⟩
  · exact Free.owed_move (Free.goes_plain rfl) (.inl rfl) fun a w' _ _ hd => hd 6 24 (by kernel_rfl)
  · refine Free.owed_pure (Free.goes_guard true rfl rfl rfl (by kernel_rfl) fun _ _ h => h) fun a w' hC hs hd => ?_
    exact ⟨_, run_load25 rfl (hs 3 (by kernel_rfl)) ((unhide HA6).below hC).range (unhide Hl0), unhide Hr0⟩
  · refine Free.owed_pure (Free.goes_guard true rfl rfl rfl (by kernel_rfl) fun _ _ h => h) fun a w' hC hs hd => ?_
    exact ⟨_, run_load25 rfl (hs 3 (by kernel_rfl)) ((unhide HA6).below hC).range (unhide Hl0), unhide Hr0⟩
  · refine Free.owed_call (Free.goes_guard true rfl rfl rfl (by kernel_rfl) fun _ _ h => h) fun a w' hC hs hd => ?_
    refine ⟨9, _, run_call9 rfl rfl (hd 8 26 (by kernel_rfl)) (hd 9 27 (by kernel_rfl)) w', (equal_any x x (unhide Hx) (unhide Hx) _ _ rfl rfl w').mono ?_⟩
    rintro e w7 ⟨rfl, hb7⟩
    refine ⟨_, rfl, hb7, hC.trans (hb7.mono hC.size), ?_⟩
    show Value.bool (x == x) = .bool true
    simp
  · exact Free.owed_pure (Free.goes_plain rfl) fun a w' hC hs hd => ⟨_, run_pick rfl (hd 7 25 (by kernel_rfl)) (hd 10 28 (by kernel_rfl)) w', rfl⟩
  · exact Free.owed_move (Free.goes_plain rfl) (.inl rfl) fun a w' _ _ hd => hd 11 29 (by kernel_rfl)
  · refine Free.owed_pure (Free.goes_guard true rfl rfl rfl (by kernel_rfl) fun _ _ h => h) fun a w' hC hs hd => ?_
    exact ⟨_, run_load25 rfl (hs 3 (by kernel_rfl)) ((unhide HA6).below hC).range (unhide Hl0), unhide Hr0⟩
  · refine Free.owed_pure (Free.goes_guard true rfl rfl rfl (by kernel_rfl) fun _ _ h => h) fun a w' hC hs hd => ?_
    exact ⟨_, run_load25 rfl (hs 7 (by kernel_rfl)) ((unhide HC6).below hC).range (unhide Hzv), rfl⟩
  · refine Free.owed_call (Free.goes_guard true rfl rfl rfl (by kernel_rfl) fun _ _ h => h) fun a w' hC hs hd => ?_
    refine ⟨9, _, run_call9 rfl rfl (hd 13 31 (by kernel_rfl)) (hd 14 32 (by kernel_rfl)) w', (equal_any x z (unhide Hx) (unhide Hzl) _ _ rfl rfl w').mono ?_⟩
    rintro e w7 ⟨rfl, hb7⟩
    refine ⟨_, rfl, hb7, hC.trans (hb7.mono hC.size), ?_⟩
    show Value.bool (x == z) = .bool false
    rw [unhide Hz]
  · exact Free.owed_pure (Free.goes_guard true rfl rfl rfl (by kernel_rfl) fun _ _ h => h) fun a w' hC hs hd => ⟨_, run_not rfl (hd 15 33 (by kernel_rfl)) w', rfl⟩
  · exact Free.owed_pure (Free.goes_plain rfl) fun a w' hC hs hd => ⟨_, run_pick rfl (hd 12 30 (by kernel_rfl)) (hd 16 34 (by kernel_rfl)) w', rfl⟩
  · exact Free.owed_move (Free.goes_plain rfl) (.inr rfl) fun a w' _ _ hd => hd 17 35 (by kernel_rfl)
  · intro w8 hC vals hv
    have e18 : vals 18 = .bool true := hv 18 _ 6 rfl rfl
    clear hv
    simp only [Free.putAll, Act.put, List.setIfInBounds_toArray, List.set_cons_succ, List.set_cons_zero, e18]
    clear e18
    have Hb8 := hide ((unhide Hb6).trans (hC.mono (unhide Hb6).size))
    clear hC HA6 HB6 HC6 Hb6
    go_wp2
    go_ret
    exact ⟨rfl, unhide Hb8⟩

theorem walk (s0 s1 : List (BitVec 8)) (a2 : Int) (w : World) (hT : Tabs w) (w0 : s0.length = 32) (w1 : s1.length = 32) (_ : (Lit.int .i64 a2).wf = true) :
    Calls Tryd.prog 4 #[.agg (bytesV s0).toArray, .agg (bytesV s1).toArray, .int .i64 a2] w fun e w' => e = .returned (.bool true) ∧ Below w.heap.size w w' :=
  main _ _ s0 s1 a2 w hT rfl w0 rfl w1

end Go.Proofs.YtnfgakbfnmmhcaaDoor.macEqual
