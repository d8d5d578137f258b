/-
  The statements' own map: two banks and another part.
-/
import Derived.Test.YtdfdalkcljfghaaGreatJOpen
namespace Go.Proofs.YtdfdalkcljfghaaGreat
open Go.RowKit

section
variable {ρ : Operand → Value} {o : Oper}
theorem op_slice2 {x y : Operand} {z u : Int} (ho : o.op = .buildSlice 63 2 #[(0, x), (1, y)]) (hx : ρ x = .int .i64 z) (hy : ρ y = .int .i64 u) (w : World) :
    (execOp ρ o).run Tryz.prog w = .ok (.value (.slice (some ⟨w.heap.size, 0, none⟩) 2 2)) (w.alloc (.cells ([z, u].map fun z => Value.int .i64 z).toArray 3)) := by
  unfold execOp
  simp only [ho, List.map_toArray, List.map_cons, List.map_nil, hx, hy, Sem.run_bind, run_slice41 w [z, u] #[(0, .int .i64 z), (1, .int .i64 u)] 2 (by decide) rfl (by kernel_rfl), Result.andThen_ok, Sem.run_pure]
theorem op_ext0 {x : Operand} {u v : Value} (ho : o.op = .extract x 0) (h : ρ x = .tuple #[u, v]) (w : World) : (execOp ρ o).run Tryz.prog w = .ok (.value u) w := by
  unfold execOp
  rw [ho]
  go_simp
theorem op_ext1 {x : Operand} {u v : Value} (ho : o.op = .extract x 1) (h : ρ x = .tuple #[u, v]) (w : World) : (execOp ρ o).run Tryz.prog w = .ok (.value v) w := by
  unfold execOp
  rw [ho]
  go_simp
theorem op_call48c {x0 x1 : Operand} {v0 v1 : Value} (ho : o.op = .call { callee := .value (.func 48), args := #[x0, x1], argTypes := #[3, 3] }) (h0 : ρ x0 = v0) (h1 : ρ x1 = v1) (hf : ρ (.func 48) = .func (.func 48) #[] #[]) (w : World) : (execOp ρ o).run Tryz.prog w = .ok (.enter 48 #[v0, v1]) w := by
  unfold execOp
  rw [ho]
  go_simp
end
def AtDev (N : Nat) (d : DM) (v : Value) (_ : Unit) (w : World) : Prop := ∃ D p, v = .pointer (some ⟨p, 0, none⟩) ∧ Dev D w p d ∧ ∀ k ∈ D, N ≤ k
def AtRow (l : List Int) (v : Value) (_ : Unit) (w : World) : Prop := ∃ b, v = .slice (some ⟨b, 0, none⟩) l.length l.length ∧ Arr w b (l.map fun z => .int .i64 z)
def AtMap (N : Nat) (d : DM) (x : MX) (v : Value) (_ : Unit) (w : World) : Prop := ∃ F D m p, v = .pointer (some ⟨m, 0, none⟩) ∧ PMap F D w m p d x ∧ ∀ k ∈ F ++ D, N ≤ k
def AtMap2 (N : Nat) (d : DM) (x : MX) (v : Value) (_ : Unit) (w : World) : Prop := ∃ u, v = .tuple #[u, .int .i64 0] ∧ AtMap N d x u () w
theorem AtDev.grows (N : Nat) (d : DM) : Grows (AtDev N d) := fun v w w' hb h => by
  obtain ⟨D, p, e, h1, h2⟩ := h
  exact ⟨D, p, e, h1.below hb, h2⟩
theorem AtRow.grows (l : List Int) : Grows (AtRow l) := fun v w w' hb h => by
  obtain ⟨b, e, h1⟩ := h
  exact ⟨b, e, h1.below hb⟩
theorem AtMap.grows (N : Nat) (d : DM) (x : MX) : Grows (AtMap N d x) := fun v w w' hb h => by
  obtain ⟨F, D, m, p, e, h1, h2⟩ := h
  exact ⟨F, D, m, p, e, h1.below hb, h2⟩
theorem AtMap2.grows (N : Nat) (d : DM) (x : MX) : Grows (AtMap2 N d x) := fun v w w' hb h => by
  obtain ⟨u, e, h1⟩ := h
  exact ⟨u, e, AtMap.grows N d x _ _ _ hb h1⟩
def sixG (N : Nat) (d : DM) (x : MX) (l : List Int) : List (Nat × (Value → Unit → World → Prop)) :=
  [(0, AtDev N d), (5, AtRow l), (6, AtMap2 N d x), (7, AtMap2 N d x), (8, AtMap N d x), (10, AtMap N d x)]
theorem sixG_grows (N : Nat) (d : DM) (x : MX) (l : List Int) : ∀ y ∈ sixG N d x l, Grows y.2 := fun y hy => by
  simp only [sixG, List.mem_cons, List.not_mem_nil, or_false] at hy
  rcases hy with rfl | rfl | rfl | rfl | rfl | rfl
  · exact AtDev.grows _ _
  · exact AtRow.grows _
  · exact AtMap2.grows _ _ _
  · exact AtMap2.grows _ _ _
  · exact AtMap.grows _ _ _
  · exact AtMap.grows _ _ _
theorem kept60 : (newD 60 10000).kept.length = 60 := by
  show (List.replicate (clampD 60 4096) blankS).length = 60
  rw [List.length_replicate]; decide
theorem right60 {a b : Nat} (ha : 1 ≤ a ∧ a ≤ 25) (hb : 1 ≤ b ∧ b ≤ 25) : rightD (newD 60 10000).kept.length [(a : Int), (b : Int)] = true := by
  rw [kept60]
  refine rightD_iff.2 ⟨by simp, by simp, fun z hz => ?_, ?_⟩
  · simp only [List.mem_cons, List.not_mem_nil, or_false] at hz
    rcases hz with rfl | rfl <;> omega
  · simp only [List.sum_cons, List.sum_nil]
    omega
set_option maxHeartbeats 1600000 in
set_option maxRecDepth 100000 in
theorem law_open (s0 s1 : Nat) (h0 : 1 ≤ s0 ∧ s0 ≤ 25) (h1 : 1 ≤ s1 ∧ s1 ≤ 25) (w : World) : Calls Tryz.prog 13 #[.agg #[.int .i64 (s0 : Int), .int .i64 (s1 : Int)]] w fun e w' =>
    ∃ F D m p, e = .returned (.pointer (some ⟨m, 0, none⟩)) ∧ PMap F D w' m p (newD 60 10000) ⟨[s0, s1], 0, []⟩ ∧ (∀ k ∈ F ++ D, w.heap.size ≤ k) ∧ Below w.heap.size w w' := by
  have HRT := hide (right60 h0 h1)
  have HGR := hide (sixG_grows w.heap.size (newD 60 10000) ⟨[s0, s1], 0, []⟩ [(s0 : Int), (s1 : Int)])
  have hs0 : (s0 : Int) ≤ 25 := by omega
  have hs1 : (s1 : Int) ≤ 25 := by omega
  clear h0 h1
  go_enter Tryz.func13, Tryz.ntmps13
  go_wp2_with (refine wpList_box 29 _ [.int .i64 (s0 : Int), .int .i64 (s1 : Int)] rfl rfl rfl ?_)
  intro w1 hA1 hb1 hz1
  have HA1 := hide hA1
  have HB1 := hide hb1
  clear hA1 hb1
  go_wp2_with fail
  refine Flow.wp_region (VG (fun ix => match ix with | 0 => undef | 1 => .pointer (some ⟨w.heap.size, 0, none⟩) | 2 => .int .i64 (s0 : Int) | 3 => .pointer (some ⟨w.heap.size, 1, none⟩) | 4 => .int .i64 (s1 : Int) | 5 => undef | 6 => undef | 7 => undef | 8 => undef | 9 => .int .i64 0 | 10 => undef | 11 => .int .i64 0 | _ => undef) (sixG w.heap.size (newD 60 10000) ⟨[s0, s1], 0, []⟩ [(s0 : Int), (s1 : Int)])) (fun _ (_ : Unit) w' => Below w1.heap.size w1 w') () (by kernel_rfl) (by kernel_rfl) (Below.refl _ w1).drew ⟨?_, ?_, ?_, ?_, ?_, ?_, ?_, ?_, ?_, ?_, ?_, ?_, trivial⟩ ?_
  · refine Flow.call (Flow.goes_plain rfl) fun a L s0 w' hC hL hn hs hd => ⟨48, _, op_call48c rfl rfl rfl rfl w', ?_⟩
    refine (new_walk 60 10000 w').mono ?_
    rintro e w'' ⟨D, p, rfl, hD, hF, hb⟩
    exact ⟨_, (), rfl, VG.grow (unhide HGR) hb, hC.trans (hb.mono hC.size), D, p, rfl, hD, fun k hk => Nat.le_trans (Nat.le_trans (by omega) hC.size) (hF k hk)⟩
  · refine Flow.pure (Flow.goes_plain rfl) (fun _ _ _ h => h) fun a L s w' hC hL hn hs hd => ?_
    exact ⟨_, op_idx29 (k := 0) rfl (hs 1 (by kernel_rfl)) rfl (by decide) w', rfl⟩
  · refine Flow.pure (Flow.goes_plain rfl) (fun _ _ _ h => h) fun a L s w' hC hL hn hs hd => ?_
    exact ⟨_, op_load3 rfl (hd 1 7 (by kernel_rfl)) (((unhide HA1).below hC).cell (i := 0) rfl), rfl⟩
  · refine Flow.pure (Flow.goes_plain rfl) (fun _ _ _ h => h) fun a L s w' hC hL hn hs hd => ?_
    exact ⟨_, op_idx29 (k := 1) rfl (hs 1 (by kernel_rfl)) rfl (by decide) w', rfl⟩
  · refine Flow.pure (Flow.goes_plain rfl) (fun _ _ _ h => h) fun a L s w' hC hL hn hs hd => ?_
    exact ⟨_, op_load3 rfl (hd 3 9 (by kernel_rfl)) (((unhide HA1).below hC).cell (i := 1) rfl), rfl⟩
  · refine Flow.value (Flow.goes_plain rfl) fun a L s w' hC hL hn hs hd => ?_
    have hb : ∀ C, Below w'.heap.size w' (w'.alloc (.cells C 3)) := fun C => (Below.refl _ _).alloc (Nat.le_refl _) _
    exact ⟨_, (), _, op_slice2 rfl (hd 2 8 (by kernel_rfl)) (hd 4 10 (by kernel_rfl)) w', VG.grow (unhide HGR) (hb _), hC.trans ((hb _).mono hC.size), w'.heap.size, rfl, _, _, heap_alloc_new w' _, rfl⟩
  · refine Flow.call (Flow.goes_plain rfl) fun a L s w' hC hL hn hs hd => ?_
    obtain ⟨D, p, e0, hD, hF⟩ : AtDev w.heap.size (newD 60 10000) _ s w' := (hd 0 6 (by kernel_rfl))
    obtain ⟨b, e7, hA⟩ : AtRow [(s0 : Int), (s1 : Int)] _ s w' := (hd 5 11 (by kernel_rfl))
    refine ⟨47, _, op_call47 rfl e0 e7 rfl w', ?_⟩
    refine (mnew_walk hD _ _ _ _ ((IRow.arr hA).up hA.lt) (by simp)).mono ?_
    intro e w'' hP
    unfold NewP at hP
    rw [if_pos (unhide HRT)] at hP
    obtain ⟨m, F, rfl, hM, hF2, hb⟩ := hP
    exact ⟨_, (), rfl, VG.grow (unhide HGR) hb, hC.trans (hb.mono hC.size), _, rfl, F, D, m, p, rfl, hM, fun k hk => by
      rcases List.mem_append.1 hk with e | e
      · exact Nat.le_trans (Nat.le_trans (by omega) hC.size) (hF2 k e)
      · exact hF k e⟩
  · exact Flow.move (Flow.goes_plain rfl) (fun _ _ _ h => h) (.inl rfl) fun a s w' hs hd => (hd 6 12 (by kernel_rfl))
  · refine Flow.pure (Flow.goes_plain rfl) (fun _ _ _ h => h) fun a L s w' hC hL hn hs hd => ?_
    obtain ⟨u, e9, hu⟩ : AtMap2 w.heap.size (newD 60 10000) ⟨[s0, s1], 0, []⟩ _ s w' := (hd 7 5 (by kernel_rfl))
    exact ⟨_, op_ext0 rfl e9 w', hu⟩
  · refine Flow.pure (Flow.goes_plain rfl) (fun _ _ _ h => h) fun a L s w' hC hL hn hs hd => ?_
    obtain ⟨u, e9, hu⟩ : AtMap2 w.heap.size (newD 60 10000) ⟨[s0, s1], 0, []⟩ _ s w' := (hd 7 5 (by kernel_rfl))
    exact ⟨_, op_ext1 rfl e9 w', rfl⟩
  · exact Flow.move (Flow.goes_plain rfl) (fun _ _ _ h => h) (.inr rfl) fun a s w' hs hd => (hd 8 13 (by kernel_rfl))
  · exact Flow.move (Flow.goes_plain rfl) (fun _ _ _ h => h) (.inr rfl) fun a s w' hs hd => (hd 9 14 (by kernel_rfl))
  · intro L s5 w5 hC hL vals hv
    obtain ⟨F, D, m, p, e10, hM, hF⟩ : AtMap w.heap.size (newD 60 10000) ⟨[s0, s1], 0, []⟩ (vals 10) s5 w5 := hv 10 _ 3 rfl rfl
    have e11 : vals 11 = .int .i64 0 := hv 11 _ 4 rfl rfl
    simp only [Free.putAll, Act.put, List.setIfInBounds_toArray, List.set_cons_succ, List.set_cons_zero, e10, e11]
    have HM := hide hM
    have HF := hide hF
    have HB5 := hide ((unhide HB1).trans (hC.mono (unhide HB1).size))
    clear hC hL hv e10 e11 hM hF
    generalize vals 0 = x0 at *
    generalize vals 1 = x1 at *
    generalize vals 2 = x2 at *
    generalize vals 3 = x3 at *
    generalize vals 4 = x4 at *
    generalize vals 5 = x5 at *
    generalize vals 6 = x6 at *
    generalize vals 7 = x7 at *
    generalize vals 8 = x8 at *
    generalize vals 9 = x9 at *
    go_wp2
    go_ret
    exact ⟨F, D, m, p, rfl, unhide HM, unhide HF, unhide HB5⟩
end Go.Proofs.YtdfdalkcljfghaaGreat
