/-
  TableSlots, walked.
-/
import Derived.Test.YtdfdalkcljfghaaGreatTAlive
import Derived.Test.YtdfdalkcljfghaaGreatTRef
import Derived.Test.YtdfdalkcljfghaaGreatTKit
namespace Go.Proofs.YtdfdalkcljfghaaGreat.Slot
open Go.RowKit

section
variable {ρ : Operand → Value} {o : Oper}
theorem op_eqlE34 {x y : Operand} {u v : List Value} {r : Bool} (ho : o.op = .binOp .eql 34 x y 34) (h1 : ρ x = .agg u.toArray) (h2 : ρ y = .agg v.toArray) (he : ∀ w : World, (Op.equalIn 10000 34 (.agg u.toArray) (.agg v.toArray)).run Tryz.prog w = .ok r w) (w : World) :
    (execOp ρ o).run Tryz.prog w = .ok (.value (.bool r)) w := by
  unfold execOp
  rw [ho]
  go_simp
theorem op_eqlE37 {x y : Operand} {u v : List Value} {r : Bool} (ho : o.op = .binOp .eql 37 x y 37) (h1 : ρ x = .agg u.toArray) (h2 : ρ y = .agg v.toArray) (he : ∀ w : World, (Op.equalIn 10000 37 (.agg u.toArray) (.agg v.toArray)).run Tryz.prog w = .ok r w) (w : World) :
    (execOp ρ o).run Tryz.prog w = .ok (.value (.bool r)) w := by
  unfold execOp
  rw [ho]
  go_simp
theorem op_subK {x y : Operand} {k : Nat} (ho : o.op = .binOp .sub 3 x y 3) (h1 : ρ x = .int .i64 1) (h2 : ρ y = .int .i64 (k : Int)) (hk : k < 2) (w : World) : (execOp ρ o).run Tryz.prog w = .ok (.value (.int .i64 ((1 - k : Nat) : Int))) w := by
  unfold execOp
  rw [ho]
  match k, hk with
  | 0, _ => go_simp; decide
  | 1, _ => go_simp; decide
theorem op_call14T {x0 x1 : Operand} {v0 v1 : Value} (ho : o.op = .call { callee := .value (.func 14), args := #[x0, x1], argTypes := #[37, 43] }) (h0 : ρ x0 = v0) (h1 : ρ x1 = v1) (hf : ρ (.func 14) = .func (.func 14) #[] #[]) (w : World) : (execOp ρ o).run Tryz.prog w = .ok (.enter 14 #[v0, v1]) w := by
  unfold execOp
  rw [ho]
  go_simp
theorem op_eql3' {x y : Operand} {a b : Int} (ho : o.op = .binOp .eql 3 x y 3) (h1 : ρ x = .int .i64 a) (h2 : ρ y = .int .i64 b) (w : World) : (execOp ρ o).run Tryz.prog w = .ok (.value (.bool (a == b))) w := by
  unfold execOp
  rw [ho]
  go_simp
theorem op_eql24' {x y : Operand} {a b : Int} (ho : o.op = .binOp .eql 24 x y 24) (h1 : ρ x = .int .i64 a) (h2 : ρ y = .int .i64 b) (w : World) : (execOp ρ o).run Tryz.prog w = .ok (.value (.bool (a == b))) w := by
  unfold execOp
  rw [ho]
  go_simp
theorem op_eql30' {x y : Operand} {a b : Int} (ho : o.op = .binOp .eql 30 x y 30) (h1 : ρ x = .int .u64 a) (h2 : ρ y = .int .u64 b) (w : World) : (execOp ρ o).run Tryz.prog w = .ok (.value (.bool (a == b))) w := by
  unfold execOp
  rw [ho]
  go_simp
theorem op_load30' {x : Operand} {g k : Nat} {v : Value} {w : World} (ho : o.op = .load 30 x) (h1 : ρ x = .pointer (some ⟨g, k, none⟩)) (hc : w.cell? ⟨g, k, none⟩ = some v) : (execOp ρ o).run Tryz.prog w = .ok (.value v) w := by
  unfold execOp
  rw [ho]
  go_simp
theorem op_build41 {x y z : Operand} {u v q : Value} {cs : List Value} (ho : o.op = .build 41 #[(0, x), (1, y), (3, z)]) (h1 : ρ x = u) (h2 : ρ y = v) (h3 : ρ z = q) (hb : Tryz.prog.built 41 [(0, u), (1, v), (3, q)] = some cs.toArray) (w : World) : (execOp ρ o).run Tryz.prog w = .ok (.value (.agg cs.toArray)) w := by
  unfold execOp
  have hb' : Tryz.prog.built 41 (#[((0 : Nat), x), (1, y), (3, z)].map fun (i, x) => (i, ρ x)).toList = some cs.toArray := by
    simp only [List.map_toArray, List.map_cons, List.map_nil, h1, h2, h3]
    exact hb
  simp only [ho, Sem.run_bind, run_build w 41 _ _ hb', Result.andThen, Sem.run_pure]
theorem op_one43 {x : Operand} {c : C} (hc : FitC c) (ho : o.op = .buildSlice 43 1 #[(0, x)]) (h1 : ρ x = .agg c.cs.toArray) (w : World) : (execOp ρ o).run Tryz.prog w = .ok (.value (.slice (some ⟨w.heap.size, 0, none⟩) 1 1)) (w.alloc (.cells c.cs.toArray 41)) := by
  unfold execOp
  simp only [ho, List.map_toArray, List.map_cons, List.map_nil, h1, Sem.run_bind, run_one43 w c hc, Result.andThen_ok, Sem.run_pure]
theorem op_alloc37 (ho : o.op = .alloc 37) (w : World) : (execOp ρ o).run Tryz.prog w = .ok (.value (.pointer (some ⟨w.heap.size, 0, none⟩))) (w.alloc (.cells zeroT.cs.toArray 37)) := by
  unfold execOp
  simp only [ho, Sem.run_bind, alloc37 w, Result.andThen, Sem.run_pure]
theorem op_load3S {x : Operand} {g k : Nat} {v : Value} {w : World} (ho : o.op = .load 3 x) (h1 : ρ x = .pointer (some ⟨g, k, none⟩)) (hc : w.cell? ⟨g, k, none⟩ = some v) : (execOp ρ o).run Tryz.prog w = .ok (.value v) w := by
  unfold execOp
  rw [ho]
  go_simp
theorem op_pickS {c x y : Operand} {v : Value} (ho : o.op = .pick c x y) (h1 : ρ c = .bool true) (h2 : ρ x = v) (w : World) : (execOp ρ o).run Tryz.prog w = .ok (.value v) w := by
  unfold execOp
  rw [ho]
  go_simp
theorem op_ext0T {x : Operand} {u v : Value} (ho : o.op = .extract x 0) (h : ρ x = .tuple #[u, v]) (w : World) : (execOp ρ o).run Tryz.prog w = .ok (.value u) w := by
  unfold execOp
  rw [ho]
  go_simp
theorem op_ext1T {x : Operand} {u v : Value} (ho : o.op = .extract x 1) (h : ρ x = .tuple #[u, v]) (w : World) : (execOp ρ o).run Tryz.prog w = .ok (.value v) w := by
  unfold execOp
  rw [ho]
  go_simp
end
theorem one_row43 (w : World) (c : C) (hc : FitC c) : CRowV (w.alloc (.cells c.cs.toArray 41)).heap.size (w.alloc (.cells c.cs.toArray 41)) (.slice (some ⟨w.heap.size, 0, none⟩) 1 1) [c] :=
  row_cells ⟨_, _, heap_alloc_new w _, by simp [csL]⟩ (fun x hx => by obtain rfl := List.mem_singleton.1 hx; exact hc) rfl (Nat.le_refl _) (by decide)
def AtC (l : List C) (v : Value) (_ : Unit) (w : World) : Prop := CRowV w.heap.size w v l
theorem AtC.grows (l : List C) : Grows (AtC l) := fun _ _ _ hb h => (CRowV.below h hb).up hb.size
theorem op_store37 {ρ : Operand → Value} {o : Oper} {x y : Operand} {b : Nat} {cs ds : List Value} {w : World} (ho : o.op = .store 37 x y) (hx : ρ x = .pointer (some ⟨b, 0, none⟩)) (hy : ρ y = .agg cs.toArray) (hA : Arr w b ds) (hl : ds.length = cs.length)
    (hi : (Tryz.prog.info? 37).map (·.size) = some cs.length) (hone : ∀ v ∈ cs, v.oneCell' = true) : (execOp ρ o).run Tryz.prog w = .ok .skip (w.setCells b 0 cs) := by
  have hr := run_storeVar_mid (P := Tryz.prog) w b 0 37 cs.toArray (by have := hA.there; rw [hl] at this; simpa using this) (by simpa using hi) (all_oneCell_toArray hone)
  unfold execOp
  simp only [ho, hx, hy, Instr.storeAt, Instr.sureAddr, Sem.run_bind, Sem.run_pure, Result.andThen_ok, hr]
/-- A region that lays a change, applies it, makes a block for what comes of it, and writes it there: what stands. -/
def setV (N : Nat) (c : C) (X Z : List Value) (f : Nat → Value) (j : Nat) (v : Value) (s : Option (Nat × Bool)) (w : World) : Prop := match j with
  | 7 => (∀ b, s = some (b, true) → False) → AtC [c] v () w
  | 12 => ∃ b g, s = some (b, g) ∧ v = .pointer (some ⟨b, 0, none⟩) ∧ N ≤ b ∧ Arr w b (if g = true then X else Z)
  | j => v = f j
def setC (w0 : World) (L : Nat → Bool) (s : Option (Nat × Bool)) (w : World) : Prop := Below w0.heap.size w0 w ∧ (∀ b, s = some (b, true) → L 8 = true ∧ L 13 = true) ∧ (∀ x, s = some x → L 12 = true) ∧ (L 13 = true → ∃ b, s = some (b, true))
section
variable {N : Nat} {c : C} {X Z : List Value} {f : Nat → Value} {w w' w0 : World} {L : Nat → Bool} {s : Option (Nat × Bool)}
theorem setV.grow (hb : Below w.heap.size w w') : ∀ j u, L j = true → setV N c X Z f j u s w → setV N c X Z f j u s w' := fun j u _ h => by
  unfold setV at h ⊢
  split
  · exact fun hn => AtC.grows _ _ _ _ hb (h hn)
  · obtain ⟨b, g, e, hv, hN, hA⟩ := h
    exact ⟨b, g, e, hv, hN, hA.below hb⟩
  · rename_i h7 h12
    split at h
    · exact (h7 rfl).elim
    · exact (h12 rfl).elim
    · exact h
theorem setV.new (hb : Below w.heap.size w w') (x : Nat) : ∀ j u, L j = true → setV N c X Z f j u none w → setV N c X Z f j u (some (x, false)) w' := fun j u _ h => by
  unfold setV at h ⊢
  split
  · exact fun _ => AtC.grows _ _ _ _ hb (h fun _ e => by cases e)
  · obtain ⟨b, g, e, _⟩ := h
    cases e
  · rename_i h7 h12
    split at h
    · exact (h7 rfl).elim
    · exact (h12 rfl).elim
    · exact h
theorem setV.set {b : Nat} (hA : Arr w b (if false = true then X else Z)) (hl : Z.length = X.length) : ∀ j u, L j = true → setV N c X Z f j u (some (b, false)) w → setV N c X Z f j u (some (b, true)) (w.setCells b 0 X) := fun j u _ h => by
  unfold setV at h ⊢
  split
  · exact fun hn => (hn b rfl).elim
  · obtain ⟨b', g, e, hv, hN, _⟩ := h
    cases e
    exact ⟨b, true, rfl, hv, hN, Arr.sets (cs := Z) hA X hl⟩
  · rename_i h7 h12
    split at h
    · exact (h7 rfl).elim
    · exact (h12 rfl).elim
    · exact h
theorem setC.upd {i : Nat} (h : 13 ≠ i) : ∀ L s w, setC w0 L s w → setC w0 (Flow.upd L i) s w := fun L s w hC => by
  have hu : ∀ j, L j = true → Flow.upd L i j = true := fun j hj => by unfold Flow.upd; split <;> simp [hj]
  exact ⟨hC.1, fun b e => ⟨hu _ (hC.2.1 b e).1, hu _ (hC.2.1 b e).2⟩, fun x e => hu _ (hC.2.2.1 x e), fun h13 => hC.2.2.2 (by rwa [Flow.upd_ne h] at h13)⟩
theorem setC.put {i : Nat} (h : 13 ≠ i) (hC : setC w0 L s w) (hb : Below w.heap.size w w') : setC w0 (Flow.upd L i) s w' := by
  have h1 := setC.upd h _ _ _ hC
  exact ⟨h1.1.trans (hb.mono h1.1.size), h1.2⟩
theorem setC.new (hC : setC w0 L none w) (hb : Below w.heap.size w w') (x : Nat) : setC w0 (Flow.upd L 12) (some (x, false)) w' :=
  ⟨hC.1.trans (hb.mono hC.1.size), fun b e => (by cases e), fun _ _ => Flow.upd_eq, fun h13 => by
    rw [Flow.upd_ne (by decide)] at h13
    obtain ⟨b, e⟩ := hC.2.2.2 h13
    cases e⟩
theorem setC.set {b : Nat} {cs : List Value} (hC : setC w0 L (some (b, false)) w) (hN : w0.heap.size ≤ b) (h8 : L 8 = true) (h12 : L 12 = true) : setC w0 (Flow.upd L 13) (some (b, true)) (w.setCells b 0 cs) :=
  ⟨hC.1.grown (setCells_grown _ _ _ _) hC.1.size (fun k e => by cases e; exact hN), fun _ _ => ⟨by rw [Flow.upd_ne (by decide)]; exact h8, Flow.upd_eq⟩, fun _ _ => by rw [Flow.upd_ne (by decide)]; exact h12, fun _ => ⟨b, rfl⟩⟩
end
/-- One slot set, in a table that can be. -/
theorem apply_one {t : T} {c : C} (h1 : rightT t = true) (h2 : oneC c = true) (h3 : c.k = 1) : applyT t [c] = (setT t c, 0) := by
  unfold applyT
  rw [if_pos ⟨h1, by rw [allC_iff]; exact ⟨by simp, fun x hx => by obtain rfl := List.mem_singleton.1 hx; exact h2⟩⟩]
  have hl : lowC t c = false := by unfold lowC; rw [h3]; rfl
  rw [foldT, if_neg (by rw [hl]; simp)]
  rfl
theorem oneC_slot (i : Int) (s : S) : oneC ⟨1, i, 0, s, 0⟩ = (actOk i && right s) := by
  unfold oneC
  rw [if_pos rfl, decide_eq_true rfl]
  rfl
/-- One of the two slots; a table with one set. -/
def T.at (t : T) (k : Nat) : S := if k = 0 then t.s0 else t.s1
def T.upd (t : T) (k : Nat) (s : S) : T := if k = 0 then { t with s0 := s } else { t with s1 := s }
theorem setT_upd (t : T) (k : Nat) (s : S) (hk : k < 2) : setT t ⟨1, (k : Int), 0, s, 0⟩ = t.upd k s := by
  match k, hk with
  | 0, _ => rfl
  | 1, _ => rfl
theorem upd_upd (t : T) (k : Nat) (s : S) (hk : k < 2) : (t.upd k s).upd k (t.at k) = t := by
  match k, hk with
  | 0, _ => rfl
  | 1, _ => rfl
theorem upd_at (t : T) (k : Nat) (s : S) (hk : k < 2) : (t.upd k s).at k = s ∧ (t.upd k s).at (1 - k) = t.at (1 - k) := by
  match k, hk with
  | 0, _ => exact ⟨rfl, rfl⟩
  | 1, _ => exact ⟨rfl, rfl⟩
theorem upd_rest (t : T) (k : Nat) (s : S) (hk : k < 2) : (t.upd k s).act = t.act ∧ (t.upd k s).boo = t.boo ∧ (t.upd k s).flo = t.flo := by
  match k, hk with
  | 0, _ => exact ⟨rfl, rfl, rfl⟩
  | 1, _ => exact ⟨rfl, rfl, rfl⟩
theorem at_fit {t : T} (ht : FitT t) (k : Nat) : Fit (t.at k) := by
  unfold T.at
  split
  · exact ht.s0
  · exact ht.s1
theorem at_right {t : T} (ht : rightT t = true) (k : Nat) : right (t.at k) = true := by
  rw [rightT_iff] at ht
  unfold T.at
  split
  · exact ht.1
  · exact ht.2.1
theorem at_range {w : World} {b : Nat} {t : T} (ht : FitT t) (h : w.rangeAt b 0 t.cs) (k : Nat) (hk : k < 2) : w.rangeAt b (36 * k) (t.at k).cs := by
  match k, hk with
  | 0, _ => exact trange0 h
  | 1, _ => have := trange1 ht h; rwa [Nat.zero_add] at this
theorem act_nat (k : Nat) (hk : k < 2) : actOk (k : Int) = true := by
  match k, hk with
  | 0, _ => rfl
  | 1, _ => rfl
end Go.Proofs.YtdfdalkcljfghaaGreat.Slot
namespace Go.Proofs.YtdfdalkcljfghaaGreat.tableSlots
open Go.RowKit Slot

set_option maxHeartbeats 12800000 in
set_option maxRecDepth 100000 in
theorem walk (t : T) (i : Int) (s : S) (w : World) (ht : FitT t) (hi0 : (Lit.int .i64 i).wf = true) (hs : Slot.Fit s) : Calls Tryz.prog 10 #[t.v, .int .i64 i, s.v] w fun e w' => e = .returned (.bool true) ∧ Below w.heap.size w w' := by
  have hi := wf_i64 hi0
  have HAl := hide alive_walk
  have hcf : FitC ⟨1, i, 0, s, 0⟩ := ⟨by simp only; omega, by simp only; omega, hi.1, hi.2, by simp only; omega, by simp only; omega, hs, by simp only; omega⟩
  have HCF := hide hcf
  have HTI := hide (info37t ht)
  have HTA := hide ht
  have HSA := hide hs
  have HSI := hide (info34s hs.dg)
  have HBC := hide (built41_s 1 i s hs.dg)
  have HAL := hide alloc37
  have HZL := hide (tcs_length zeroT_fit)
  have HAW := hide (fun (v : Value) (w : World) (h : CRowV w.heap.size w v [⟨1, i, 0, s, 0⟩]) => apply_walk _ v t ht [⟨1, i, 0, s, 0⟩] w (Nat.le_refl _) h)
  have HFA := hide (apply_fit (l := [⟨1, i, 0, s, 0⟩]) ht (fun x hx => by obtain rfl := List.mem_singleton.1 hx; exact hcf))
  have HRT := hide (rrightT_walk t ht)
  have HRS := hide (rright_walk s hs)
  have HAL2 := hide (tcs_length (unhide HFA))
  have HAI := hide (info37t (unhide HFA))
  have HA1' := hide (tcs_one (applyT t [⟨1, i, 0, s, 0⟩]).1)
  have HNO : Hid (¬ (rightT t = true ∧ actOk i = true ∧ right s = true) → applyT t [⟨1, i, 0, s, 0⟩] = (zeroT, 111)) := hide fun h => by
    unfold applyT
    rw [if_neg]
    rintro ⟨h1, h2⟩
    have h3 := (allC_iff.1 h2).2 _ (List.mem_singleton.2 rfl)
    rw [oneC_slot, Bool.and_eq_true] at h3
    exact h ⟨h1, h3.1, h3.2⟩
  have HYES : Hid (rightT t = true → actOk i = true → right s = true → applyT t [⟨1, i, 0, s, 0⟩] = (setT t ⟨1, i, 0, s, 0⟩, 0)) := hide fun h1 h2 h3 => apply_one h1 (by rw [oneC_slot, h2, h3]; rfl) rfl
  have HB0 := hide built37
  have HEZ0 : Hid (applyT t [⟨1, i, 0, s, 0⟩] = (zeroT, 111) → ∀ w : World, (Op.equalIn 10000 37 (.agg (applyT t [⟨1, i, 0, s, 0⟩]).1.cs.toArray) (.agg zeroT.cs.toArray)).run Tryz.prog w = .ok true w) := hide fun h w => by
    rw [h, run_equal37 _ _ zeroT_fit zeroT_fit]
    simp
  -- what a slot that may be set leaves
  have HK : Hid (∀ k : Nat, k < 2 → i = (k : Int) → rightT t = true → right s = true →
      (applyT t [⟨1, i, 0, s, 0⟩]).2 = 0 ∧ (applyT t [⟨1, i, 0, s, 0⟩]).1 = t.upd k s) := hide fun k hk e h1 h2 => by
    subst e
    rw [unhide HYES h1 (act_nat k hk) h2, setT_upd t k s hk]
    exact ⟨rfl, rfl⟩
  have HBACK : Hid (∀ k : Nat, k < 2 → rightT t = true → right s = true → ∀ (v : Value) (w : World), CRowV w.heap.size w v [⟨1, (k : Int), 0, t.at k, 0⟩] →
      Calls Tryz.prog 14 #[.agg (t.upd k s).cs.toArray, v] w fun e w' => e = .returned (.tuple #[.agg t.cs.toArray, .int .i64 0]) ∧ Below w.heap.size w w') := hide fun k hk h1 h2 v w hv => by
    have hf : FitT (t.upd k s) := by
      rw [← setT_upd t k s hk]
      exact setT_fit ht ⟨by simp only; omega, by simp only; omega, by simp only; omega, by simp only; omega, by simp only; omega, by simp only; omega, hs, by simp only; omega⟩
    have hr : rightT (t.upd k s) = true := by
      rw [← setT_upd t k s hk]
      exact setT_right h1 (by rw [oneC_slot, act_nat k hk, h2]; rfl)
    have := apply_walk _ v (t.upd k s) hf _ w (Nat.le_refl _) hv
    rw [apply_one hr (by rw [oneC_slot, act_nat k hk, at_right h1 k]; rfl) rfl, setT_upd _ k _ hk, upd_upd t k s hk] at this
    exact this
  have HUF : Hid (∀ k : Nat, k < 2 → FitT (t.upd k s)) := hide fun k hk => by
    rw [← setT_upd t k s hk]
    exact setT_fit ht ⟨by simp only; omega, by simp only; omega, by simp only; omega, by simp only; omega, by simp only; omega, by simp only; omega, hs, by simp only; omega⟩
  have HNO2 : Hid (¬ (rightT t = true ∧ actOk i = true ∧ right s = true) → applyT t [⟨1, i, 0, s, 0⟩] = (zeroT, 111) ∧ (applyT t [⟨1, i, 0, s, 0⟩]).2 = 111) := hide fun h => ⟨unhide HNO h, by rw [unhide HNO h]⟩
  clear HNO HYES
  have HNO := HNO2
  clear HNO2
  unfold T.v at HAW HRT ⊢
  unfold S.v at HRS ⊢
  clear hcf hi hi0
  obtain ⟨Q, hQ⟩ : ∃ Q, Q = (applyT t [⟨1, i, 0, s, 0⟩] = (zeroT, 111)) := ⟨_, rfl⟩
  rw [← hQ] at HNO HEZ0
  clear hQ
  obtain ⟨A, hA⟩ : ∃ A, A = applyT t [⟨1, i, 0, s, 0⟩] := ⟨_, rfl⟩
  rw [← hA] at HAW HFA HAL2 HAI HA1' HNO HEZ0 HK
  clear hA
  obtain ⟨E, hE⟩ : ∃ E, E = A.2 := ⟨_, rfl⟩
  rw [← hE] at HAW HNO HK
  clear hE
  obtain ⟨A1, hA1⟩ : ∃ A1, A1 = A.1 := ⟨_, rfl⟩
  rw [← hA1] at HAW HFA HAL2 HAI HA1' HK HEZ0
  clear hA1
  obtain ⟨U, hU⟩ : ∃ U, U = A1.cs := ⟨_, rfl⟩
  have HU := hide hU
  rw [← hU] at HAW HAL2 HAI HA1' HEZ0
  obtain ⟨X, hX⟩ : ∃ X, X = t.cs := ⟨_, rfl⟩
  have HX := hide hX
  rw [← hX] at HAW HTI HRT ⊢
  obtain ⟨S2, hS2⟩ : ∃ S2, S2 = s.cs := ⟨_, rfl⟩
  have HS2 := hide hS2
  rw [← hS2] at HBC HSI HRS ⊢
  obtain ⟨Z, hZ⟩ : ∃ Z, Z = zeroT.cs := ⟨_, rfl⟩
  have HZ := hide hZ
  rw [← hZ] at HAL HZL HB0 HEZ0
  have HUI := HAI
  clear hU hX hS2 hZ
  have HTF := hide ht
  have HSF := hide hs
  clear ht hs
  go_enter Tryz.func10, Tryz.ntmps10
  go_wp2_with (refine wpList_box 37 _ X rfl rfl rfl ?_)
  intro w1 hA1 hb1 hs1
  have HA1 := hide hA1
  have Hb1 := hide hb1
  clear hA1 hb1
  go_wp2_with (refine wpList_box 34 _ S2 rfl rfl rfl ?_)
  intro w2 hA2 hb2 hs2
  have HB2 := hide hA2
  have HA2 := hide ((unhide HA1).keep hb2 (by omega))
  have Hb2 := hide ((unhide Hb1).trans (hb2.mono (by omega)))
  clear hA2 hb2 HA1 Hb1
  clear hs2
  generalize hbs : w.heap.size + 1 = bs at *
  have hbs' : w.heap.size < bs := by omega
  clear hbs hs1
  go_wp2_with fail
  refine (unhide HAl w2).mono ?_
  rintro e w3 ⟨rfl, hb3⟩
  have HA3 := hide ((unhide HA2).below hb3)
  have HB3 := hide ((unhide HB2).below hb3)
  have Hb3 := hide ((unhide Hb2).trans (hb3.mono (unhide Hb2).size))
  clear hb3 HA2 HB2 Hb2 HAl
  go_wp2_with (first
    | refine wpList_loadAll 37 _ w.heap.size X _ rfl rfl rfl (unhide HA3) Tryz.underlying37 rfl (unhide HTI) ?_
    | refine wpList_loadAll 34 _ bs S2 _ rfl rfl rfl (unhide HB3) Tryz.underlying34 rfl (unhide HSI) ?_
    | refine wpList_build 41 _ (C.mk 1 i 0 s 0).cs [(0, .int .i64 1), (1, .int .i64 i), (3, .agg S2.toArray)] rfl rfl rfl (unhide HBC) ?_
    | refine wpList_one43 _ (C.mk 1 i 0 s 0) (unhide HCF) rfl rfl rfl ?_)
  intro w4 hr4 hb4 hs4
  have HA4 := hide ((unhide HA3).below hb4)
  have HB4 := hide ((unhide HB3).below hb4)
  have Hb4 := hide ((unhide Hb3).trans (hb4.mono (unhide Hb3).size))
  have HAW4 := hide (unhide HAW _ w4 hr4)
  clear hr4 hb4 HA3 HB3 Hb3 HAW
  go_wp2_with fail
  refine (unhide HAW4).mono ?_
  rintro e w5 ⟨rfl, hb5⟩
  have HA5 := hide ((unhide HA4).below hb5)
  have HB5 := hide ((unhide HB4).below hb5)
  have Hb5 := hide ((unhide Hb4).trans (hb5.mono (unhide Hb4).size))
  have hB5 : bs < w5.heap.size := (unhide HB5).lt
  clear hb5 HA4 HB4 Hb4 HAW4 hs4
  go_wp2_with (refine wpList_alloc 37 37 Z rfl rfl (unhide HAL) ?_)
  intro w6 hA6 hb6 hs6
  have HU6 := hide hA6
  have HA6 := hide ((unhide HA5).below hb6)
  have HB6 := hide ((unhide HB5).below hb6)
  have Hb6 := hide ((unhide Hb5).trans (hb6.mono (unhide Hb5).size))
  clear hA6 hb6 HA5 HB5 Hb5
  generalize w5.heap.size = bu at *
  go_wp2_with (refine wpList_storeAll 37 _ _ bu U Z rfl rfl rfl rfl (unhide HU6) (by rw [unhide HAL2, unhide HZL]) (unhide HAI) (unhide HA1') ?_)
  intro w7 hA7 hg7 hs7
  have HU7 := hide hA7
  have HA7 := hide ((unhide HA6).grown hg7 (by simp; omega))
  have HB7 := hide ((unhide HB6).grown hg7 (by simp; omega))
  have Hb7 := hide ((unhide Hb6).grown hg7 (unhide Hb6).size (fun k hk => by simp at hk; omega))
  clear hA7 hg7 HU6 HA6 HB6 Hb6 hs7 hs6
  go_wp2_with (refine wpList_loadAll 37 _ w.heap.size X _ rfl rfl rfl (unhide HA7) Tryz.underlying37 rfl (unhide HTI) ?_)
  refine (unhide HRT w7).mono ?_
  rintro e w8 ⟨rfl, hb8⟩
  have HU8 := hide ((unhide HU7).below hb8)
  have HA8 := hide ((unhide HA7).below hb8)
  have HB8 := hide ((unhide HB7).below hb8)
  have Hb8 := hide ((unhide Hb7).trans (hb8.mono (unhide Hb7).size))
  clear hb8 HU7 HA7 HB7 Hb7 HRT
  cases hR : rightT t with
  | false =>
    obtain ⟨e1, e2⟩ := unhide HNO (by rw [hR]; simp)
    subst e2
    have HEZ := unhide HEZ0 e1
    go_wp2_with (first | (refine wpList_loadAll 37 _ bu U _ rfl rfl rfl (unhide HU8) Tryz.underlying37 rfl (unhide HUI) ?_) | ((with_reducible refine wpList_guarded ?_ ?_); rfl; refine wpList_loadAll 37 _ bu U _ rfl rfl rfl (unhide HU8) Tryz.underlying37 rfl (unhide HUI) ?_) | ((with_reducible refine wpList_guarded ?_ ?_); rfl; refine wpList_build 37 _ Z [] rfl rfl rfl (unhide HB0) ?_))
    go_wp2
    go_ret
    exact ⟨rfl, unhide Hb8⟩
  | true =>
    go_wp2_with ((with_reducible refine wpList_guarded ?_ ?_); rfl; refine wpList_loadAll 34 _ bs S2 _ rfl rfl rfl (unhide HB8) Tryz.underlying34 rfl (unhide HSI) ?_)
    refine (unhide HRS w8).mono ?_
    rintro e w9 ⟨rfl, hb9⟩
    have HU9 := hide ((unhide HU8).below hb9)
    have HA9 := hide ((unhide HA8).below hb9)
    have HB9 := hide ((unhide HB8).below hb9)
    have Hb9 := hide ((unhide Hb8).trans (hb9.mono (unhide Hb8).size))
    have h9 := (unhide HB9).lt
    clear hb9 HU8 HA8 HB8 Hb8 HRS
    cases hS : right s with
    | false =>
      obtain ⟨e1, e2⟩ := unhide HNO (by rw [hS]; simp)
      subst e2
      have HEZ := unhide HEZ0 e1
      go_wp2_with (first | (refine wpList_loadAll 37 _ bu U _ rfl rfl rfl (unhide HU9) Tryz.underlying37 rfl (unhide HUI) ?_) | ((with_reducible refine wpList_guarded ?_ ?_); rfl; refine wpList_loadAll 37 _ bu U _ rfl rfl rfl (unhide HU9) Tryz.underlying37 rfl (unhide HUI) ?_) | ((with_reducible refine wpList_guarded ?_ ?_); rfl; refine wpList_build 37 _ Z [] rfl rfl rfl (unhide HB0) ?_))
      go_wp2
      go_ret
      exact ⟨rfl, unhide Hb9⟩
    | true =>
      by_cases hi1 : i < 0
      · have hdi : decide (i < 0) = true := decide_eq_true hi1
        obtain ⟨e1, e2⟩ := unhide HNO (by intro h; have := actOk_iff.1 h.2.1; omega)
        subst e2
        have HEZ := unhide HEZ0 e1
        go_wp2_with (first | (refine wpList_loadAll 37 _ bu U _ rfl rfl rfl (unhide HU9) Tryz.underlying37 rfl (unhide HUI) ?_) | ((with_reducible refine wpList_guarded ?_ ?_); rfl; refine wpList_loadAll 37 _ bu U _ rfl rfl rfl (unhide HU9) Tryz.underlying37 rfl (unhide HUI) ?_) | ((with_reducible refine wpList_guarded ?_ ?_); rfl; refine wpList_build 37 _ Z [] rfl rfl rfl (unhide HB0) ?_))
        go_wp2
        go_ret
        exact ⟨rfl, unhide Hb9⟩
      · by_cases hi2 : 1 < i
        · have hdi : decide (i < 0) = false := decide_eq_false hi1
          have hdi2 : decide (1 < i) = true := decide_eq_true hi2
          obtain ⟨e1, e2⟩ := unhide HNO (by intro h; have := actOk_iff.1 h.2.1; omega)
          subst e2
          have HEZ := unhide HEZ0 e1
          go_wp2_with (first | (refine wpList_loadAll 37 _ bu U _ rfl rfl rfl (unhide HU9) Tryz.underlying37 rfl (unhide HUI) ?_) | ((with_reducible refine wpList_guarded ?_ ?_); rfl; refine wpList_loadAll 37 _ bu U _ rfl rfl rfl (unhide HU9) Tryz.underlying37 rfl (unhide HUI) ?_) | ((with_reducible refine wpList_guarded ?_ ?_); rfl; refine wpList_build 37 _ Z [] rfl rfl rfl (unhide HB0) ?_))
          go_wp2
          go_ret
          exact ⟨rfl, unhide Hb9⟩
        · obtain ⟨k, rfl⟩ : ∃ k : Nat, i = (k : Int) := ⟨i.toNat, by omega⟩
          have hk : k < 2 := by omega
          obtain ⟨e1, e2⟩ := unhide HK k hk rfl hR hS
          subst e1
          subst e2
          have hdi : decide (((k : Nat) : Int) < 0) = false := decide_eq_false hi1
          have hdi2 : decide (1 < ((k : Nat) : Int)) = false := decide_eq_false hi2
          have HCO : FitC ⟨1, (k : Int), 0, t.at k, 0⟩ := ⟨by simp only; omega, by simp only; omega, by simp only; omega, by simp only; omega, by simp only; omega, by simp only; omega, at_fit (unhide HTF) k, by simp only; omega⟩
          have HBK := hide (fun (v : Value) (w : World) (h : CRowV w.heap.size w v [⟨1, (k : Int), 0, t.at k, 0⟩]) => unhide HBACK k hk hR hS v w h)
          have HBO := hide (built41_s 1 (k : Int) (t.at k) (at_fit (unhide HTF) k).dg)
          have HIO := hide (info34s (at_fit (unhide HTF) k).dg)
          have HI3 := hide (info34s (at_fit (unhide HTF) (1 - k)).dg)
          have HE3 : Hid (∀ w : World, (Op.equalIn 10000 34 (.agg (t.at (1 - k)).cs.toArray) (.agg (t.at (1 - k)).cs.toArray)).run Tryz.prog w = .ok true w) := hide (fun w => (run_equal34 (t.at (1 - k)) (t.at (1 - k)) (at_fit (unhide HTF) (1 - k)).dg (at_fit (unhide HTF) (1 - k)).dg w).trans (by simp))
          have HE2 : Hid (∀ w : World, (Op.equalIn 10000 34 (.agg s.cs.toArray) (.agg s.cs.toArray)).run Tryz.prog w = .ok true w) := hide (fun w => (run_equal34 s s (unhide HSF).dg (unhide HSF).dg w).trans (by simp))
          have HEX : Hid (∀ w : World, (Op.equalIn 10000 37 (.agg t.cs.toArray) (.agg t.cs.toArray)).run Tryz.prog w = .ok true w) := hide (fun w => (run_equal37 t t (unhide HTF) (unhide HTF) w).trans (by simp))
          have HX1 := hide (tcs_one t)
          have HXL := hide (tcs_length (unhide HTF))
          have HGT := hide (tget (unhide HTF))
          have HUFk := unhide HUF k hk
          have HGU := tget HUFk
          obtain ⟨ua, ub, uc⟩ := upd_rest t k s hk
          rw [ua, ub, uc] at HGU
          have HGU' := hide HGU
          obtain ⟨va, vb⟩ := upd_at t k s hk
          have HUk := hide (fun (w' : World) (h : w'.rangeAt bu 0 (t.upd k s).cs) => at_range HUFk h k hk)
          have HUk' := hide (fun (w' : World) (h : w'.rangeAt bu 0 (t.upd k s).cs) => at_range HUFk h (1 - k) (by omega))
          rw [va] at HUk
          rw [vb] at HUk'
          have HTk := hide (fun (w' : World) (h : w'.rangeAt w.heap.size 0 t.cs) => at_range (unhide HTF) h k hk)
          have HTk' := hide (fun (w' : World) (h : w'.rangeAt w.heap.size 0 t.cs) => at_range (unhide HTF) h (1 - k) (by omega))
          have hxe := unhide HX
          have hse := unhide HS2
          have hue := unhide HU
          rw [← hxe] at HEX HX1 HXL HGT HTk HTk' HBK
          rw [← hse] at HE2 HUk
          rw [← hue] at HBK HGU' HUk HUk'
          clear HGU va vb ua ub uc HUFk hxe hse hue HX HS2 HU HUF HBACK HNO HEZ0 HK HCF HTA HSA HTF HSF HFA hR hS hi1 hi2
          have HI2 := HSI
          have HXI := HTI
          obtain ⟨SO, hSO⟩ : ∃ SO, SO = (t.at k).cs := ⟨_, rfl⟩
          rw [← hSO] at HBO HIO HTk
          obtain ⟨S3, hS3⟩ : ∃ S3, S3 = (t.at (1 - k)).cs := ⟨_, rfl⟩
          rw [← hS3] at HI3 HE3 HUk' HTk'
          obtain ⟨xa, hxa⟩ : ∃ xa, xa = t.act := ⟨_, rfl⟩
          obtain ⟨xb, hxb⟩ : ∃ xb, xb = t.boo := ⟨_, rfl⟩
          obtain ⟨xf, hxf⟩ : ∃ xf, xf = (t.flo : Int) := ⟨_, rfl⟩
          rw [← hxa, ← hxb, ← hxf] at HGT HGU'
          clear hSO hS3 hxa hxb hxf
          obtain ⟨cO, hcO⟩ : ∃ cO, cO = (⟨1, (k : Int), 0, t.at k, 0⟩ : C) := ⟨_, rfl⟩
          rw [← hcO] at HCO HBK
          rw [show (C.mk 1 (k : Int) 0 (t.at k) 0) = cO from hcO.symm] at HBO
          clear hcO
          have HCOh := hide HCO
          clear HCO
          have hbt : w.heap.size < w9.heap.size := by omega
          have hw9 : w.heap.size ≤ w9.heap.size := by omega
          have hbu9 : bu < w9.heap.size := (unhide HU9).lt
          go_wp2_with fail
          refine Flow.wp_region (setV w9.heap.size cO X Z (fun ix => match ix with | 0 => .agg U.toArray | 1 => .int .i64 (k : Int) | 2 => .int .i64 (k : Int) | 3 => .pointer (some ⟨w.heap.size, 0, none⟩) | 4 => .pointer (some ⟨w.heap.size, 36 * k, none⟩) | 5 => .agg SO.toArray | 6 => .agg cO.cs.toArray | 8 => .tuple #[.agg X.toArray, .int .i64 0] | 9 => .tuple #[.agg X.toArray, .int .i64 0] | 10 => .agg X.toArray | 11 => .int .i64 0 | 14 => .int .i64 0 | _ => undef)) (setC w9) none (by kernel_rfl) (by kernel_rfl) ⟨(Below.refl _ w9).drew, fun _ h => (by cases h), fun _ h => (by cases h), fun h => (by cases h)⟩ ⟨?_, ?_, ?_, ?_, ?_, ?_, ?_, ?_, ?_, ?_, ?_, ?_, ?_, ?_, ?_, trivial⟩ ?_
          · exact Flow.pure (Flow.goes_plain rfl) (setC.upd (by decide)) fun a L s w' hC hL hn hs hd => ⟨_, op_loadV rfl (hs 7 (by kernel_rfl)) (((unhide HU9).below hC.1).range) Tryz.underlying37 rfl (unhide HUI), rfl⟩
          · exact Flow.move (Flow.goes_plain rfl) (setC.upd (by decide)) (.inl rfl) fun a s w' hs hd => (hs 1 (by kernel_rfl))
          · exact Flow.move (Flow.goes_plain rfl) (setC.upd (by decide)) (.inl rfl) fun a s w' hs hd => (hs 1 (by kernel_rfl))
          · exact Flow.pure (Flow.goes_plain rfl) (setC.upd (by decide)) fun a L s w' hC hL hn hs hd => ⟨_, op_f37_0 rfl (hs 3 (by kernel_rfl)) w', rfl⟩
          · exact Flow.pure (Flow.goes_plain rfl) (setC.upd (by decide)) fun a L s w' hC hL hn hs hd => ⟨_, op_idx35 rfl (hd 3 49 (by kernel_rfl)) (hd 2 48 (by kernel_rfl)) hk w', rfl⟩
          · exact Flow.pure (Flow.goes_plain rfl) (setC.upd (by decide)) fun a L s w' hC hL hn hs hd => ⟨_, op_loadV rfl (hd 4 50 (by kernel_rfl)) (unhide HTk w' (((unhide HA9).below hC.1).range)) Tryz.underlying34 rfl (unhide HIO), rfl⟩
          · exact Flow.pure (Flow.goes_plain rfl) (setC.upd (by decide)) fun a L s w' hC hL hn hs hd => ⟨_, op_build41 (u := .int .i64 1) (v := .int .i64 (k : Int)) (q := .agg SO.toArray) rfl rfl (hd 1 47 (by kernel_rfl)) (hd 5 51 (by kernel_rfl)) (unhide HBO) w', rfl⟩
          · refine Flow.value (Flow.goes_plain rfl) fun a L s w' hC hL hn hs hd => ?_
            have hb := (Below.refl w'.heap.size w').alloc (Nat.le_refl _) (.cells cO.cs.toArray 41)
            exact ⟨_, s, _, op_one43 (unhide HCOh) rfl (hd 6 52 (by kernel_rfl)) w', setV.grow hb, setC.put (by decide) hC hb, fun _ => one_row43 w' cO (unhide HCOh)⟩
          · refine Flow.call (Flow.goes_plain rfl) fun a L s w' hC hL hn hs hd => ?_
            have h7 : AtC [cO] _ () w' := (hd 7 53 (by kernel_rfl)) fun b e => by rw [(hC.2.1 b e).1] at hL; cases hL
            refine ⟨14, _, op_call14T rfl (hd 0 46 (by kernel_rfl)) rfl rfl w', ?_⟩
            refine (unhide HBK _ w' h7).mono ?_
            rintro e w'' ⟨rfl, hb⟩
            exact ⟨_, s, rfl, setV.grow hb, setC.put (by decide) hC hb, rfl⟩
          · exact Flow.move (Flow.goes_plain rfl) (setC.upd (by decide)) (.inl rfl) fun a s w' hs hd => (hd 8 54 (by kernel_rfl))
          · exact Flow.pure (Flow.goes_plain rfl) (setC.upd (by decide)) fun a L s w' hC hL hn hs hd => ⟨_, op_ext0T rfl (hd 9 45 (by kernel_rfl)) w', rfl⟩
          · exact Flow.pure (Flow.goes_plain rfl) (setC.upd (by decide)) fun a L s w' hC hL hn hs hd => ⟨_, op_ext1T rfl (hd 9 45 (by kernel_rfl)) w', rfl⟩
          · refine Flow.value (Flow.goes_plain rfl) fun a L s w' hC hL hn hs hd => ?_
            have hb := (Below.refl w'.heap.size w').alloc (Nat.le_refl _) (.cells Z.toArray 37)
            have es : s = none := by
              cases s with
              | none => rfl
              | some x => have := hC.2.2.1 x rfl; rw [this] at hL; cases hL
            subst es
            exact ⟨_, some (w'.heap.size, false), _, (op_alloc37 rfl w').trans (by rw [unhide HZ]), setV.new hb _, setC.new hC hb _, ⟨_, _, rfl, rfl, hC.1.size, ⟨_, _, heap_alloc_new w' _, by simp⟩⟩⟩
          · refine Flow.store (Flow.goes_plain rfl) fun a L s w' hC hL hn hs hd => ?_
            obtain ⟨b, f, e, hv, hN, hA⟩ := (hd 12 9 (by kernel_rfl))
            subst e
            have hff : f = false := by
              cases f with
              | false => rfl
              | true => have := (hC.2.1 b rfl).2; rw [this] at hL; cases hL
            subst hff
            exact ⟨some (b, true), _, op_store37 (cs := X) (ds := Z) rfl hv (hd 10 55 (by kernel_rfl)) hA (by rw [unhide HZL, unhide HXL]) (unhide HXI) (unhide HX1), setV.set hA (by rw [unhide HZL, unhide HXL]), setC.set hC hN (hn.done 8 (by kernel_rfl)) (hn.done 12 (by kernel_rfl)), rfl⟩
          · exact Flow.move (Flow.goes_plain rfl) (setC.upd (by decide)) (.inr rfl) fun a s w' hs hd => (hd 11 56 (by kernel_rfl))
          · intro L s11 w11 hC hL vals hv
            obtain ⟨b9, f9, e9, e12, hN9, hA9⟩ := hv 12 _ 9 rfl rfl
            have h14 : vals 14 = .int .i64 0 := hv 14 _ 10 rfl rfl
            have hf9 : f9 = true := by
              obtain ⟨b', e'⟩ := hC.2.2.2 (hL 13 (by decide))
              rw [e9] at e'
              cases e'
              rfl
            subst hf9
            simp only [Free.putAll, Act.put, List.setIfInBounds_toArray, List.set_cons_succ, List.set_cons_zero]
            rw [e12, h14]
            have HD11 : Hid (Arr w11 b9 X) := hide hA9
            have HU11 := hide ((unhide HU9).below hC.1)
            have HA11 := hide ((unhide HA9).below hC.1)
            have HB11 := hide ((unhide HB9).below hC.1)
            have Hb11 := hide ((unhide Hb9).trans (hC.1.mono (by omega)))
            clear hC hv h14 e9 hL HU9 HA9 HB9 Hb9 HBK
            generalize vals 0 = y0
            generalize vals 1 = y1
            generalize vals 2 = y2
            generalize vals 3 = y3
            generalize vals 4 = y4
            generalize vals 5 = y5
            generalize vals 6 = y6
            generalize vals 7 = y7
            generalize vals 8 = y8
            generalize vals 9 = y9
            generalize vals 10 = y10
            generalize vals 11 = y11
            generalize vals 13 = y13
            go_wp2_with fail
            have RB := hide (fun (w' : World) (h : Below w11.heap.size w11 w') => ((unhide HD11).below h).range)
            have RT := hide (fun (w' : World) (h : Below w11.heap.size w11 w') => ((unhide HA11).below h).range)
            have RS := hide (fun (w' : World) (h : Below w11.heap.size w11 w') => ((unhide HB11).below h).range)
            have RU := hide (fun (w' : World) (h : Below w11.heap.size w11 w') => unhide HUk w' (((unhide HU11).below h).range))
            have RO := hide (fun (w' : World) (h : Below w11.heap.size w11 w') => unhide HUk' w' (((unhide HU11).below h).range))
            have RP := hide (fun (w' : World) (h : Below w11.heap.size w11 w') => unhide HTk' w' (((unhide HA11).below h).range))
            have U72 := hide (fun (w' : World) (h : Below w11.heap.size w11 w') => ((unhide HU11).below h).cell (unhide HGU').1)
            have U73 := hide (fun (w' : World) (h : Below w11.heap.size w11 w') => ((unhide HU11).below h).cell (unhide HGU').2.1)
            have U74 := hide (fun (w' : World) (h : Below w11.heap.size w11 w') => ((unhide HU11).below h).cell (unhide HGU').2.2)
            have T72 := hide (fun (w' : World) (h : Below w11.heap.size w11 w') => ((unhide HA11).below h).cell (unhide HGT).1)
            have T73 := hide (fun (w' : World) (h : Below w11.heap.size w11 w') => ((unhide HA11).below h).cell (unhide HGT).2.1)
            have T74 := hide (fun (w' : World) (h : Below w11.heap.size w11 w') => ((unhide HA11).below h).cell (unhide HGT).2.2)
            refine Free.wp_region_owes (fun j v _ => v = (match j with | 0 => .int .i64 0 | 1 => .bool true | 2 => .bool true | 3 => .int .i64 0 | 4 => .bool true | 5 => .bool true | 6 => .bool true | 7 => .agg X.toArray | 8 => .agg X.toArray | 9 => .bool true | 10 => .bool true | 11 => .bool true | 12 => .int .i64 (k : Int) | 13 => .pointer (some ⟨bu, 0, none⟩) | 14 => .pointer (some ⟨bu, 36 * k, none⟩) | 15 => .agg S2.toArray | 16 => .agg S2.toArray | 17 => .bool true | 18 => .bool true | 19 => .bool true | 20 => .int .i64 (k : Int) | 21 => .int .i64 ((1 - k : Nat) : Int) | 22 => .pointer (some ⟨bu, 0, none⟩) | 23 => .pointer (some ⟨bu, 36 * (1 - k), none⟩) | 24 => .agg S3.toArray | 25 => .int .i64 (k : Int) | 26 => .int .i64 ((1 - k : Nat) : Int) | 27 => .pointer (some ⟨w.heap.size, 0, none⟩) | 28 => .pointer (some ⟨w.heap.size, 36 * (1 - k), none⟩) | 29 => .agg S3.toArray | 30 => .bool true | 31 => .bool true | 32 => .bool true | 33 => .pointer (some ⟨bu, 72, none⟩) | 34 => .int .i64 xa | 35 => .pointer (some ⟨w.heap.size, 72, none⟩) | 36 => .int .i64 xa | 37 => .bool true | 38 => .bool true | 39 => .bool true | 40 => .pointer (some ⟨bu, 73, none⟩) | 41 => .int .i64 xb | 42 => .pointer (some ⟨w.heap.size, 73, none⟩) | 43 => .int .i64 xb | 44 => .bool true | 45 => .bool true | 46 => .bool true | 47 => .pointer (some ⟨bu, 74, none⟩) | 48 => .int .u64 xf | 49 => .pointer (some ⟨w.heap.size, 74, none⟩) | 50 => .int .u64 xf | 51 => .bool true | 52 => .bool true | 53 => .bool true | _ => undef)) (fun w' => Below w11.heap.size w11 w') (by kernel_rfl) (by kernel_rfl) (fun j v w w' h _ => h) (Below.refl _ w11).drew ⟨?_, ?_, ?_, ?_, ?_, ?_, ?_, ?_, ?_, ?_, ?_, ?_, ?_, ?_, ?_, ?_, ?_, ?_, ?_, ?_, ?_, ?_, ?_, ?_, ?_, ?_, ?_, ?_, ?_, ?_, ?_, ?_, ?_, ?_, ?_, ?_, ?_, ?_, ?_, ?_, ?_, ?_, ?_, ?_, ?_, ?_, ?_, ?_, ?_, ?_, ?_, ?_, ?_, ?_, trivial⟩ ?_
            · exact Free.owed_move (Free.goes_plain rfl) (.inl rfl) fun a w' _ hs hd => (hs 8 (by kernel_rfl))
            · exact Free.owed_pure (Free.goes_plain rfl) fun a w' hC hs hd => ⟨_, op_eql24' rfl (hd 0 57 (by kernel_rfl)) rfl w', by simp⟩
            · exact Free.owed_move (Free.goes_plain rfl) (.inl rfl) fun a w' _ hs hd => (hd 1 58 (by kernel_rfl))
            · exact Free.owed_move (Free.goes_guard true rfl rfl rfl (by kernel_rfl) fun _ _ h => h) (.inl rfl) fun a w' _ hs hd => (hs 10 (by kernel_rfl))
            · exact Free.owed_pure (Free.goes_guard true rfl rfl rfl (by kernel_rfl) fun _ _ h => h) fun a w' hC hs hd => ⟨_, op_eql24' rfl (hd 3 60 (by kernel_rfl)) rfl w', by simp⟩
            · exact Free.owed_pure (Free.goes_plain rfl) fun a w' hC hs hd => ⟨_, op_pickS rfl (hd 2 59 (by kernel_rfl)) (hd 4 61 (by kernel_rfl)) w', rfl⟩
            · exact Free.owed_move (Free.goes_plain rfl) (.inl rfl) fun a w' _ hs hd => (hd 5 62 (by kernel_rfl))
            · exact Free.owed_pure (Free.goes_guard true rfl rfl rfl (by kernel_rfl) fun _ _ h => h) fun a w' hC hs hd => ⟨_, op_loadV rfl (hs 9 (by kernel_rfl)) (unhide RB w' hC) Tryz.underlying37 rfl (unhide HXI), rfl⟩
            · exact Free.owed_pure (Free.goes_guard true rfl rfl rfl (by kernel_rfl) fun _ _ h => h) fun a w' hC hs hd => ⟨_, op_loadV rfl (hs 3 (by kernel_rfl)) (unhide RT w' hC) Tryz.underlying37 rfl (unhide HXI), rfl⟩
            · exact Free.owed_pure (Free.goes_guard true rfl rfl rfl (by kernel_rfl) fun _ _ h => h) fun a w' hC hs hd => ⟨_, op_eqlE37 rfl (hd 7 64 (by kernel_rfl)) (hd 8 65 (by kernel_rfl)) (unhide HEX) w', rfl⟩
            · exact Free.owed_pure (Free.goes_plain rfl) fun a w' hC hs hd => ⟨_, op_pickS rfl (hd 6 63 (by kernel_rfl)) (hd 9 66 (by kernel_rfl)) w', rfl⟩
            · exact Free.owed_move (Free.goes_plain rfl) (.inl rfl) fun a w' _ hs hd => (hd 10 67 (by kernel_rfl))
            · exact Free.owed_move (Free.goes_guard true rfl rfl rfl (by kernel_rfl) fun _ _ h => h) (.inl rfl) fun a w' _ hs hd => (hs 1 (by kernel_rfl))
            · exact Free.owed_pure (Free.goes_guard true rfl rfl rfl (by kernel_rfl) fun _ _ h => h) fun a w' hC hs hd => ⟨_, op_f37_0 rfl (hs 7 (by kernel_rfl)) w', rfl⟩
            · exact Free.owed_pure (Free.goes_guard true rfl rfl rfl (by kernel_rfl) fun _ _ h => h) fun a w' hC hs hd => ⟨_, op_idx35 rfl (hd 13 70 (by kernel_rfl)) (hd 12 69 (by kernel_rfl)) (by omega) w', rfl⟩
            · exact Free.owed_pure (Free.goes_guard true rfl rfl rfl (by kernel_rfl) fun _ _ h => h) fun a w' hC hs hd => ⟨_, op_loadV rfl (hd 14 71 (by kernel_rfl)) (unhide RU w' hC) Tryz.underlying34 rfl (unhide HI2), rfl⟩
            · exact Free.owed_pure (Free.goes_guard true rfl rfl rfl (by kernel_rfl) fun _ _ h => h) fun a w' hC hs hd => ⟨_, op_loadV rfl (hs 5 (by kernel_rfl)) (unhide RS w' hC) Tryz.underlying34 rfl (unhide HI2), rfl⟩
            · exact Free.owed_pure (Free.goes_guard true rfl rfl rfl (by kernel_rfl) fun _ _ h => h) fun a w' hC hs hd => ⟨_, op_eqlE34 rfl (hd 15 72 (by kernel_rfl)) (hd 16 73 (by kernel_rfl)) (unhide HE2) w', rfl⟩
            · exact Free.owed_pure (Free.goes_plain rfl) fun a w' hC hs hd => ⟨_, op_pickS rfl (hd 11 68 (by kernel_rfl)) (hd 17 74 (by kernel_rfl)) w', rfl⟩
            · exact Free.owed_move (Free.goes_plain rfl) (.inl rfl) fun a w' _ hs hd => (hd 18 75 (by kernel_rfl))
            · exact Free.owed_move (Free.goes_guard true rfl rfl rfl (by kernel_rfl) fun _ _ h => h) (.inl rfl) fun a w' _ hs hd => (hs 1 (by kernel_rfl))
            · exact Free.owed_pure (Free.goes_guard true rfl rfl rfl (by kernel_rfl) fun _ _ h => h) fun a w' hC hs hd => ⟨_, op_subK rfl rfl (hd 20 77 (by kernel_rfl)) hk w', rfl⟩
            · exact Free.owed_pure (Free.goes_guard true rfl rfl rfl (by kernel_rfl) fun _ _ h => h) fun a w' hC hs hd => ⟨_, op_f37_0 rfl (hs 7 (by kernel_rfl)) w', rfl⟩
            · exact Free.owed_pure (Free.goes_guard true rfl rfl rfl (by kernel_rfl) fun _ _ h => h) fun a w' hC hs hd => ⟨_, op_idx35 rfl (hd 22 79 (by kernel_rfl)) (hd 21 78 (by kernel_rfl)) (by omega) w', rfl⟩
            · exact Free.owed_pure (Free.goes_guard true rfl rfl rfl (by kernel_rfl) fun _ _ h => h) fun a w' hC hs hd => ⟨_, op_loadV rfl (hd 23 80 (by kernel_rfl)) (unhide RO w' hC) Tryz.underlying34 rfl (unhide HI3), rfl⟩
            · exact Free.owed_move (Free.goes_guard true rfl rfl rfl (by kernel_rfl) fun _ _ h => h) (.inl rfl) fun a w' _ hs hd => (hs 1 (by kernel_rfl))
            · exact Free.owed_pure (Free.goes_guard true rfl rfl rfl (by kernel_rfl) fun _ _ h => h) fun a w' hC hs hd => ⟨_, op_subK rfl rfl (hd 25 82 (by kernel_rfl)) hk w', rfl⟩
            · exact Free.owed_pure (Free.goes_guard true rfl rfl rfl (by kernel_rfl) fun _ _ h => h) fun a w' hC hs hd => ⟨_, op_f37_0 rfl (hs 3 (by kernel_rfl)) w', rfl⟩
            · exact Free.owed_pure (Free.goes_guard true rfl rfl rfl (by kernel_rfl) fun _ _ h => h) fun a w' hC hs hd => ⟨_, op_idx35 rfl (hd 27 84 (by kernel_rfl)) (hd 26 83 (by kernel_rfl)) (by omega) w', rfl⟩
            · exact Free.owed_pure (Free.goes_guard true rfl rfl rfl (by kernel_rfl) fun _ _ h => h) fun a w' hC hs hd => ⟨_, op_loadV rfl (hd 28 85 (by kernel_rfl)) (unhide RP w' hC) Tryz.underlying34 rfl (unhide HI3), rfl⟩
            · exact Free.owed_pure (Free.goes_guard true rfl rfl rfl (by kernel_rfl) fun _ _ h => h) fun a w' hC hs hd => ⟨_, op_eqlE34 rfl (hd 24 81 (by kernel_rfl)) (hd 29 86 (by kernel_rfl)) (unhide HE3) w', rfl⟩
            · exact Free.owed_pure (Free.goes_plain rfl) fun a w' hC hs hd => ⟨_, op_pickS rfl (hd 19 76 (by kernel_rfl)) (hd 30 87 (by kernel_rfl)) w', rfl⟩
            · exact Free.owed_move (Free.goes_plain rfl) (.inl rfl) fun a w' _ hs hd => (hd 31 88 (by kernel_rfl))
            · exact Free.owed_pure (Free.goes_guard true rfl rfl rfl (by kernel_rfl) fun _ _ h => h) fun a w' hC hs hd => ⟨_, op_f37_1 rfl (hs 7 (by kernel_rfl)) w', rfl⟩
            · exact Free.owed_pure (Free.goes_guard true rfl rfl rfl (by kernel_rfl) fun _ _ h => h) fun a w' hC hs hd => ⟨_, op_load3S rfl (hd 33 90 (by kernel_rfl)) (unhide U72 w' hC), rfl⟩
            · exact Free.owed_pure (Free.goes_guard true rfl rfl rfl (by kernel_rfl) fun _ _ h => h) fun a w' hC hs hd => ⟨_, op_f37_1 rfl (hs 3 (by kernel_rfl)) w', rfl⟩
            · exact Free.owed_pure (Free.goes_guard true rfl rfl rfl (by kernel_rfl) fun _ _ h => h) fun a w' hC hs hd => ⟨_, op_load3S rfl (hd 35 92 (by kernel_rfl)) (unhide T72 w' hC), rfl⟩
            · exact Free.owed_pure (Free.goes_guard true rfl rfl rfl (by kernel_rfl) fun _ _ h => h) fun a w' hC hs hd => ⟨_, op_eql3' rfl (hd 34 91 (by kernel_rfl)) (hd 36 93 (by kernel_rfl)) w', by simp⟩
            · exact Free.owed_pure (Free.goes_plain rfl) fun a w' hC hs hd => ⟨_, op_pickS rfl (hd 32 89 (by kernel_rfl)) (hd 37 94 (by kernel_rfl)) w', rfl⟩
            · exact Free.owed_move (Free.goes_plain rfl) (.inl rfl) fun a w' _ hs hd => (hd 38 95 (by kernel_rfl))
            · exact Free.owed_pure (Free.goes_guard true rfl rfl rfl (by kernel_rfl) fun _ _ h => h) fun a w' hC hs hd => ⟨_, op_f37_2 rfl (hs 7 (by kernel_rfl)) w', rfl⟩
            · exact Free.owed_pure (Free.goes_guard true rfl rfl rfl (by kernel_rfl) fun _ _ h => h) fun a w' hC hs hd => ⟨_, op_load3S rfl (hd 40 97 (by kernel_rfl)) (unhide U73 w' hC), rfl⟩
            · exact Free.owed_pure (Free.goes_guard true rfl rfl rfl (by kernel_rfl) fun _ _ h => h) fun a w' hC hs hd => ⟨_, op_f37_2 rfl (hs 3 (by kernel_rfl)) w', rfl⟩
            · exact Free.owed_pure (Free.goes_guard true rfl rfl rfl (by kernel_rfl) fun _ _ h => h) fun a w' hC hs hd => ⟨_, op_load3S rfl (hd 42 99 (by kernel_rfl)) (unhide T73 w' hC), rfl⟩
            · exact Free.owed_pure (Free.goes_guard true rfl rfl rfl (by kernel_rfl) fun _ _ h => h) fun a w' hC hs hd => ⟨_, op_eql3' rfl (hd 41 98 (by kernel_rfl)) (hd 43 100 (by kernel_rfl)) w', by simp⟩
            · exact Free.owed_pure (Free.goes_plain rfl) fun a w' hC hs hd => ⟨_, op_pickS rfl (hd 39 96 (by kernel_rfl)) (hd 44 101 (by kernel_rfl)) w', rfl⟩
            · exact Free.owed_move (Free.goes_plain rfl) (.inl rfl) fun a w' _ hs hd => (hd 45 102 (by kernel_rfl))
            · exact Free.owed_pure (Free.goes_guard true rfl rfl rfl (by kernel_rfl) fun _ _ h => h) fun a w' hC hs hd => ⟨_, op_f37_3 rfl (hs 7 (by kernel_rfl)) w', rfl⟩
            · exact Free.owed_pure (Free.goes_guard true rfl rfl rfl (by kernel_rfl) fun _ _ h => h) fun a w' hC hs hd => ⟨_, op_load30' rfl (hd 47 104 (by kernel_rfl)) (unhide U74 w' hC), rfl⟩
            · exact Free.owed_pure (Free.goes_guard true rfl rfl rfl (by kernel_rfl) fun _ _ h => h) fun a w' hC hs hd => ⟨_, op_f37_3 rfl (hs 3 (by kernel_rfl)) w', rfl⟩
            · exact Free.owed_pure (Free.goes_guard true rfl rfl rfl (by kernel_rfl) fun _ _ h => h) fun a w' hC hs hd => ⟨_, op_load30' rfl (hd 49 106 (by kernel_rfl)) (unhide T74 w' hC), rfl⟩
            · exact Free.owed_pure (Free.goes_guard true rfl rfl rfl (by kernel_rfl) fun _ _ h => h) fun a w' hC hs hd => ⟨_, op_eql30' rfl (hd 48 105 (by kernel_rfl)) (hd 50 107 (by kernel_rfl)) w', by simp⟩
            · exact Free.owed_pure (Free.goes_plain rfl) fun a w' hC hs hd => ⟨_, op_pickS rfl (hd 46 103 (by kernel_rfl)) (hd 51 108 (by kernel_rfl)) w', rfl⟩
            · exact Free.owed_move (Free.goes_plain rfl) (.inr rfl) fun a w' _ hs hd => (hd 52 109 (by kernel_rfl))
            · intro w12 hC vals hv
              have h53 : vals 53 = .bool true := hv 53 _ 6 rfl rfl
              have Hb12 := hide ((unhide Hb11).trans (hC.mono (unhide Hb11).size))
              simp only [Free.putAll, Act.put, List.setIfInBounds_toArray, List.set_cons_succ, List.set_cons_zero]
              rw [h53]
              clear hC hv h53
              generalize vals 0 = y0
              generalize vals 1 = y1
              generalize vals 2 = y2
              generalize vals 3 = y3
              generalize vals 4 = y4
              generalize vals 5 = y5
              generalize vals 6 = y6
              generalize vals 7 = y7
              generalize vals 8 = y8
              generalize vals 9 = y9
              generalize vals 10 = y10
              generalize vals 11 = y11
              generalize vals 12 = y12
              generalize vals 13 = y13
              generalize vals 14 = y14
              generalize vals 15 = y15
              generalize vals 16 = y16
              generalize vals 17 = y17
              generalize vals 18 = y18
              generalize vals 19 = y19
              generalize vals 20 = y20
              generalize vals 21 = y21
              generalize vals 22 = y22
              generalize vals 23 = y23
              generalize vals 24 = y24
              generalize vals 25 = y25
              generalize vals 26 = y26
              generalize vals 27 = y27
              generalize vals 28 = y28
              generalize vals 29 = y29
              generalize vals 30 = y30
              generalize vals 31 = y31
              generalize vals 32 = y32
              generalize vals 33 = y33
              generalize vals 34 = y34
              generalize vals 35 = y35
              generalize vals 36 = y36
              generalize vals 37 = y37
              generalize vals 38 = y38
              generalize vals 39 = y39
              generalize vals 40 = y40
              generalize vals 41 = y41
              generalize vals 42 = y42
              generalize vals 43 = y43
              generalize vals 44 = y44
              generalize vals 45 = y45
              generalize vals 46 = y46
              generalize vals 47 = y47
              generalize vals 48 = y48
              generalize vals 49 = y49
              generalize vals 50 = y50
              generalize vals 51 = y51
              generalize vals 52 = y52
              go_wp2
              go_ret
              exact ⟨rfl, unhide Hb12⟩
end Go.Proofs.YtdfdalkcljfghaaGreat.tableSlots
