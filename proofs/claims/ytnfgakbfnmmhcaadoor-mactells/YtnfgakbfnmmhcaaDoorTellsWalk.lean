/-
  MacTells returns true, whatever the slices and the number.
-/
import Derived.Test.YtnfgakbfnmmhcaaDoorAsk
import Derived.Test.YtnfgakbfnmmhcaaDoorMacRef
import Derived.WalkSpells
import Derived.WalkLawsBesides
namespace Go.Proofs.YtnfgakbfnmmhcaaDoor.macTells
open Go.RowKit MacAsk

theorem run_min (c : Int) (l : Nat) (w : World) : (Builtin.min_ #[3, 3] 3 #[.int .i64 c, .int .i64 (l : Int)]).run Tryd.prog w = .ok (.int .i64 (min c (l : Int))) w := by
  simp [Builtin.min_, Builtin.min2]
  split <;> omega
theorem run_max0 (m : Int) (w : World) : (Builtin.max_ #[3, 3] 3 #[.int .i64 0, .int .i64 m]).run Tryd.prog w = .ok (.int .i64 ((m.toNat : Nat) : Int)) w := by
  simp [Builtin.max_, Builtin.max2]
  split <;> omega
theorem run_first {ρ : Operand → Value} {o : Oper} {t u : Nat} {aa : Option Addr} {ll cc k : Nat} (ho : o.op = .slice 22 (.tmp t) none (some (.tmp u)) none) (h : ρ (.tmp t) = .slice aa ll cc) (h' : ρ (.tmp u) = .int .i64 (k : Int)) (hk : (k : Int) ≤ (cc : Int)) (hk0 : (0 : Int) ≤ (k : Int)) (w : World) :
    (execOp ρ o).run Tryd.prog w = .ok (.value (.slice aa k cc)) w := by
  unfold execOp
  rw [ho]
  go_simp
theorem run_from {ρ : Operand → Value} {o : Oper} {t u : Nat} {aa : Option Addr} {ll cc k : Nat} (ho : o.op = .slice 22 (.tmp t) (some (.tmp u)) none none) (h : ρ (.tmp t) = .slice aa ll cc) (h' : ρ (.tmp u) = .int .i64 (k : Int)) (hk : (k : Int) ≤ (ll : Int)) (hk0 : (0 : Int) ≤ (k : Int)) (w : World) :
    (execOp ρ o).run Tryd.prog w = .ok (.value (.slice (if cc = k then aa else aa.map fun x => x.add k) (ll - k) (cc - k))) w := by
  unfold execOp
  rw [ho]
  go_simp

theorem nil_of {w : World} {k : IntKind} {a : Option Addr} {len cap : Nat} {zs : List Int} (h : IsRow k w a len cap zs) : a = none → cap = 0 := by
  rcases h with ⟨_, _, rfl, _⟩ | ⟨x, rfl, _⟩
  · exact fun _ => rfl
  · exact fun h => by cases h

/-- What the operations of the question yield. -/
def VT (a0 : Option Addr) (len0 cap0 : Nat) (a1 : Option Addr) (len1 cap1 n : Nat) (S : List (BitVec 8)) : Nat → Value → World → Prop
  | 0, v, _ => v = .slice a0 len0 cap0
  | 1, v, _ => v = .slice a1 len1 cap1
  | 2, v, w => ∃ b, v = .slice (some ⟨b, 0, none⟩) 1 1 ∧ w.cell? ⟨b, 0, none⟩ = some (.slice a1 len1 cap1)
  | 3, v, _ => v = .agg (bytesV S).toArray
  | 4, v, _ => v = .agg (bytesV S).toArray
  | 5, v, _ => v = .bool true
  | 6, v, _ => v = .bool true
  | 7, v, _ => v = .slice a0 len0 cap0
  | 8, v, _ => v = .slice a1 len1 cap1
  | 9, v, _ => v = .int .i64 (n : Int)
  | 10, v, _ => v = .slice a1 n cap1
  | 11, v, _ => v = .slice a1 len1 cap1
  | 12, v, _ => v = .int .i64 (n : Int)
  | 13, v, _ => v = .slice (if cap1 = n then a1 else a1.map fun x => x.add n) (len1 - n) (cap1 - n)
  | 14, v, w => ∃ b, v = .slice (some ⟨b, 0, none⟩) 2 2 ∧ w.cell? ⟨b, 0, none⟩ = some (.slice a1 n cap1) ∧ w.cell? ⟨b, 1, none⟩ = some (.slice (if cap1 = n then a1 else a1.map fun x => x.add n) (len1 - n) (cap1 - n))
  | 15, v, _ => v = .agg (bytesV S).toArray
  | 16, v, _ => v = .agg (bytesV S).toArray
  | 17, v, _ => v = .bool true
  | 18, v, _ => v = .bool true
  | 19, v, _ => v = .bool true
  | _, _, _ => True

theorem VT.stable {a0 : Option Addr} {len0 cap0 : Nat} {a1 : Option Addr} {len1 cap1 n : Nat} {S : List (BitVec 8)} (j : Nat) (v : Value) (w w' : World) (h : VT a0 len0 cap0 a1 len1 cap1 n S j v w) (hb : Below w.heap.size w w') : VT a0 len0 cap0 a1 len1 cap1 n S j v w' := by
  unfold VT at *
  split at h
  all_goals first | exact h | skip
  all_goals obtain ⟨b, hv, hc⟩ := h
  all_goals first | exact ⟨b, hv, kept_cell hc hb⟩ | exact ⟨b, hv, kept_cell hc.1 hb, kept_cell hc.2 hb⟩

set_option maxRecDepth 100000 in
set_option maxHeartbeats 1600000 in
theorem main (a0 : Option Addr) (len0 cap0 : Nat) (key : List (BitVec 8)) (a1 : Option Addr) (len1 cap1 : Nat) (B : List (BitVec 8)) (at' : Int) (w : World) (hT : Tabs w) (hK : Row w a0 len0 key) (hnil0 : a0 = none → cap0 = 0) (c0 : len0 ≤ cap0)
    (hB : Row w a1 len1 B) (hnil1 : a1 = none → cap1 = 0) (c1 : len1 ≤ cap1) (l0 : len0 ≤ 500) (l1 : len1 ≤ 1000) :
    Calls Tryd.prog 3 #[.slice a0 len0 cap0, .slice a1 len1 cap1, .int .i64 at'] w fun e w' => e = .returned (.bool true) ∧ Below w.heap.size w w' := by
  have HT := hide hT
  have hsz := hT.size
  have HK := hide hK
  have HB := hide hB
  have Hn0 := hide hnil0
  have Hn1 := hide hnil1
  clear hT hK hB hnil0 hnil1
  have hmin := run_min at' len1
  have hmax := run_max0 (min at' (len1 : Int))
  obtain ⟨n, hn⟩ : ∃ n, n = (min at' (len1 : Int)).toNat := ⟨_, rfl⟩
  have hnl : n ≤ len1 := by omega
  rw [← hn] at hmax
  clear hn
  go_enter Tryd.func3, Tryd.ntmps3
  go_wp2_with fail
  refine (alive_any _ (unhide HT)).mono ?_
  rintro e w1 ⟨rfl, hb1⟩
  have Hb1 := hide hb1
  clear hb1
  go_wp2_with fail
  refine (mref_any a0 len0 cap0 key a1 len1 cap1 B _ ((unhide HK).below (unhide Hb1)) (unhide Hn0) ((unhide HB).below (unhide Hb1)) (unhide Hn1) l0 l1).mono ?_
  rintro e w2 ⟨rfl, hb2⟩
  clear hmin hmax
  have Hb2 := hide ((unhide Hb1).trans (hb2.mono (unhide Hb1).size))
  have HS : Hid ((Mac.sum key B).length = 32) := Mac.sum_length key B
  have Hall : Hid (B.take n ++ B.drop n = B) := List.take_append_drop n B
  obtain ⟨S, hS⟩ : ∃ S, S = Mac.sum key B := ⟨_, rfl⟩
  rw [← hS] at HS ⊢
  have HSB := hide hS
  clear hb2 Hb1 hS
  have Hrl : Hid ((bytesV S).length = 32) := by show _ = _; rw [bytesV_length, unhide HS]
  have Hro := hide (bytesV_one S)
  obtain ⟨rs, hrs⟩ : ∃ rs, rs = bytesV S := ⟨_, rfl⟩
  rw [← hrs] at Hrl Hro ⊢
  have Hrs : Hid (Value.agg rs.toArray = .agg (bytesV S).toArray) := by show _ = _; rw [hrs]
  clear hrs
  go_wp2_with (refine wpList_alloc 25 25 (bytesV zerosB) rfl rfl alloc25 ?_)
  intro w3 hA3 hb3 hs3
  obtain ⟨b8, hb8⟩ : ∃ b, b = w2.heap.size := ⟨_, rfl⟩
  rw [← hb8] at hA3 hs3 ⊢
  have hwb : w.heap.size ≤ b8 := by rw [hb8]; exact (unhide Hb2).size
  have Hb3 := hide ((unhide Hb2).trans (hb3.mono (unhide Hb2).size))
  have HA3 := hide hA3
  clear hA3 hb3 Hb2 hb8
  go_wp2_with (refine wpList_storeAll 25 _ _ b8 rs (bytesV zerosB) rfl rfl rfl rfl (unhide HA3) (by rw [unhide Hrl]; rfl) (by rw [unhide Hrl]; exact info25) (unhide Hro) ?_)
  intro w4 hA4 hg4 hs4
  have Hb4 := hide ((unhide Hb3).grown hg4 (unhide Hb3).size (fun k hk => by simp at hk; omega))
  have HA4 := hide hA4
  clear hA4 hg4 HA3 Hb3 hs3 hs4
  have HOk : Hid (Sl.Ok w ⟨a0, len0, cap0, key⟩) := ⟨unhide HK, c0⟩
  have HO0 : Hid (Sl.Ok w ⟨a1, len1, cap1, B⟩) := ⟨unhide HB, c1⟩
  have HO1 : Hid (Sl.Ok w ⟨a1, n, cap1, B.take n⟩) := ⟨(unhide HB).take n hnl, by show n ≤ cap1; omega⟩
  have HO2 : Hid (Sl.Ok w ⟨if cap1 = n then a1 else a1.map fun x => x.add n, len1 - n, cap1 - n, B.drop n⟩) := ⟨Row.drop (unhide HB) c1 n hnl, by show len1 - n ≤ cap1 - n; omega⟩
  go_wp2_with fail
  refine Free.wp_region_owes (VT a0 len0 cap0 a1 len1 cap1 n S) (fun w' => Below w4.heap.size w4 w') (by kernel_rfl) (by kernel_rfl) VT.stable (Below.drew (Below.refl _ _)) ⟨?_, ?_, ?_, ?_, ?_, ?_, ?_, ?_, ?_, ?_, ?_, ?_, ?_, ?_, ?_, ?_, ?_, ?_, ?_, ?_, trivial⟩ ?_
  · exact Free.owed_move (Free.goes_plain rfl) (.inl rfl) fun a w' _ hs _ => hs 0 (by kernel_rfl)
  · exact Free.owed_move (Free.goes_plain rfl) (.inl rfl) fun a w' _ hs _ => hs 1 (by kernel_rfl)
  · refine Free.owed_value (Free.goes_plain rfl) fun a w' hC hs hd => ?_
    exact ⟨_, _, run_build1 rfl (hd 1 28 (by kernel_rfl)) w', (Below.refl _ _).alloc (Nat.le_refl _) _, hC.alloc hC.size _, w'.heap.size, rfl, cell_new w' _ _ _ 0⟩
  · refine Free.owed_call (Free.goes_plain rfl) fun a w' hC hs hd => ?_
    obtain ⟨b, h1, h2⟩ := hd 2 29 (by kernel_rfl)
    have hw := (unhide Hb4).trans (hC.mono (unhide Hb4).size)
    refine ⟨8, _, run_call8 rfl rfl (hd 0 27 (by kernel_rfl)) h1 w', (msum_one ⟨a0, len0, cap0, key⟩ b ⟨a1, len1, cap1, B⟩ w' ((unhide HT).below hw hsz) h2 ((unhide HOk).below hw) ((unhide HO0).below hw) (by show len0 ≤ 1500; omega) (by show len1 ≤ 1500; omega)).mono ?_⟩
    rintro e w7 ⟨rfl, hb7⟩
    refine ⟨_, rfl, hb7, hC.trans (hb7.mono hC.size), ?_⟩
    show Value.agg (bytesV (Mac.sum key B)).toArray = _
    rw [← unhide HSB]
  · refine Free.owed_pure (Free.goes_plain rfl) fun a w' hC hs hd => ?_
    exact ⟨_, run_load25 rfl (hs 8 (by kernel_rfl)) ((unhide HA4).below hC).range (unhide Hrl), unhide Hrs⟩
  · exact Free.owed_pure (Free.goes_plain rfl) fun a w' hC hs hd => ⟨_, run_eql25 (unhide HS) rfl (hd 3 30 (by kernel_rfl)) (hd 4 31 (by kernel_rfl)) w', rfl⟩
  · exact Free.owed_move (Free.goes_plain rfl) (.inl rfl) fun a w' _ _ hd => hd 5 32 (by kernel_rfl)
  · exact Free.owed_move (Free.goes_guard true rfl rfl rfl (by kernel_rfl) fun _ _ h => h) (.inl rfl) fun a w' _ hs _ => hs 0 (by kernel_rfl)
  · exact Free.owed_move (Free.goes_guard true rfl rfl rfl (by kernel_rfl) fun _ _ h => h) (.inl rfl) fun a w' _ hs _ => hs 1 (by kernel_rfl)
  · exact Free.owed_move (Free.goes_guard true rfl rfl rfl (by kernel_rfl) fun _ _ h => h) (.inl rfl) fun a w' _ hs _ => hs 7 (by kernel_rfl)
  · exact Free.owed_pure (Free.goes_guard true rfl rfl rfl (by kernel_rfl) fun _ _ h => h) fun a w' hC hs hd => ⟨_, run_first rfl (hd 8 35 (by kernel_rfl)) (hd 9 36 (by kernel_rfl)) (by omega) (by omega) w', rfl⟩
  · exact Free.owed_move (Free.goes_guard true rfl rfl rfl (by kernel_rfl) fun _ _ h => h) (.inl rfl) fun a w' _ hs _ => hs 1 (by kernel_rfl)
  · exact Free.owed_move (Free.goes_guard true rfl rfl rfl (by kernel_rfl) fun _ _ h => h) (.inl rfl) fun a w' _ hs _ => hs 7 (by kernel_rfl)
  · exact Free.owed_pure (Free.goes_guard true rfl rfl rfl (by kernel_rfl) fun _ _ h => h) fun a w' hC hs hd => ⟨_, run_from rfl (hd 11 38 (by kernel_rfl)) (hd 12 39 (by kernel_rfl)) (by omega) (by omega) w', rfl⟩
  · refine Free.owed_value (Free.goes_guard true rfl rfl rfl (by kernel_rfl) fun _ _ h => h) fun a w' hC hs hd => ?_
    exact ⟨_, _, run_pair rfl (hd 10 37 (by kernel_rfl)) (hd 13 40 (by kernel_rfl)) w', (Below.refl _ _).alloc (Nat.le_refl _) _, hC.alloc hC.size _, w'.heap.size, rfl, cell_new w' _ _ _ 0, cell_new w' _ _ _ 1⟩
  · refine Free.owed_call (Free.goes_guard true rfl rfl rfl (by kernel_rfl) fun _ _ h => h) fun a w' hC hs hd => ?_
    obtain ⟨b, h1, h2, h3⟩ := hd 14 41 (by kernel_rfl)
    have hw := (unhide Hb4).trans (hC.mono (unhide Hb4).size)
    refine ⟨8, _, run_call8 rfl rfl (hd 7 34 (by kernel_rfl)) h1 w', (msum_two ⟨a0, len0, cap0, key⟩ b ⟨a1, n, cap1, B.take n⟩ ⟨_, _, _, B.drop n⟩ w' ((unhide HT).below hw hsz) h2 h3 ((unhide HOk).below hw) ((unhide HO1).below hw) ((unhide HO2).below hw) (by show len0 ≤ 1500; omega) (by show n + (len1 - n) ≤ 1500; omega)).mono ?_⟩
    rintro e w7 ⟨rfl, hb7⟩
    refine ⟨_, rfl, hb7, hC.trans (hb7.mono hC.size), ?_⟩
    show Value.agg (bytesV (Mac.sum key (B.take n ++ B.drop n))).toArray = _
    rw [unhide Hall, ← unhide HSB]
  · refine Free.owed_pure (Free.goes_guard true rfl rfl rfl (by kernel_rfl) fun _ _ h => h) fun a w' hC hs hd => ?_
    exact ⟨_, run_load25 rfl (hs 8 (by kernel_rfl)) ((unhide HA4).below hC).range (unhide Hrl), unhide Hrs⟩
  · exact Free.owed_pure (Free.goes_guard true rfl rfl rfl (by kernel_rfl) fun _ _ h => h) fun a w' hC hs hd => ⟨_, run_eql25 (unhide HS) rfl (hd 15 42 (by kernel_rfl)) (hd 16 43 (by kernel_rfl)) w', rfl⟩
  · exact Free.owed_pure (Free.goes_plain rfl) fun a w' hC hs hd => ⟨_, run_pick rfl (hd 6 33 (by kernel_rfl)) (hd 17 44 (by kernel_rfl)) w', rfl⟩
  · exact Free.owed_move (Free.goes_plain rfl) (.inr rfl) fun a w' _ _ hd => hd 18 45 (by kernel_rfl)
  · intro w8 hC vals hv
    have e19 : vals 19 = .bool true := hv 19 _ 6 rfl rfl
    clear hv
    simp only [Free.putAll, Act.put, List.setIfInBounds_toArray, List.set_cons_succ, List.set_cons_zero, e19]
    clear e19
    have Hb8 := hide ((unhide Hb4).trans (hC.mono (unhide Hb4).size))
    clear hC HA4 Hb4
    go_wp2
    go_ret
    exact ⟨rfl, unhide Hb8⟩

set_option maxHeartbeats 800000 in
theorem early (a0 a1 : Option Addr) (len0 cap0 len1 cap1 : Nat) (at' : Int) (w : World) (hT : Tabs w) (h : ¬ (len0 ≤ 500 ∧ len1 ≤ 1000)) :
    Calls Tryd.prog 3 #[.slice a0 len0 cap0, .slice a1 len1 cap1, .int .i64 at'] w fun e w' => e = .returned (.bool true) ∧ Below w.heap.size w w' := by
  have HT := hide hT
  clear hT
  have hd : (decide (500 < (len0 : Int)) || decide (1000 < (len1 : Int))) = true := by simp; omega
  have h' : ¬ ((len0 : Int) ≤ 500 ∧ (len1 : Int) ≤ 1000) := by omega
  clear h
  go_enter Tryd.func3, Tryd.ntmps3
  go_wp2_with fail
  refine (alive_any _ (unhide HT)).mono ?_
  rintro e w1 ⟨rfl, hb1⟩
  have Hb1 := hide hb1
  clear hb1
  go_wp2
  all_goals
    go_ret
    exact ⟨rfl, unhide Hb1⟩

theorem walk (a0 : Option Addr) (len0 cap0 : Nat) (z0 : List Int) (a1 : Option Addr) (len1 cap1 : Nat) (z1 : List Int) (at' : Int) (w : World) (hT : Tabs w) (w0 : IsRow .u8 w a0 len0 cap0 z0) (w1 : IsRow .u8 w a1 len1 cap1 z1) (_ : (Lit.int .i64 at').wf = true) :
    Calls Tryd.prog 3 #[.slice a0 len0 cap0, .slice a1 len1 cap1, .int .i64 at'] w fun e w' => e = .returned (.bool true) ∧ Below w.heap.size w w' := by
  by_cases h : len0 ≤ 500 ∧ len1 ≤ 1000
  · obtain ⟨l0, l1⟩ := h
    obtain ⟨key, hK⟩ := w0.row (by omega)
    obtain ⟨B, hB⟩ := w1.row (by omega)
    exact main a0 len0 cap0 key a1 len1 cap1 B at' w hT hK (nil_of w0) w0.room hB (nil_of w1) w1.room l0 l1
  · exact early a0 a1 len0 cap0 len1 cap1 at' w hT h

end Go.Proofs.YtnfgakbfnmmhcaaDoor.macTells
