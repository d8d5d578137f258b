/-
  PartApart: single operations that only it has, and what the operations of its drawn regions yield.
-/
import Derived.Test.YtlgknllcnkainaaASit
import Derived.Test.YtlgknllcnkainaaKit2
import Derived.Test.YtlgknllcnkainaaPAlive
namespace Go.Proofs.Ytlgknllcnkainaa
open Go.RowKit

theorem alloc71 (w : World) : (Instr.alloc 71 true (.tuple #[])).run Try.prog w = .ok (.pointer (some ⟨w.heap.size, 0, none⟩)) (w.alloc (.cells [Value.int .i64 0, .int .i64 0, .int .i64 0].toArray 71)) := by kernel_rfl
theorem built71 (a b c : Int) : Try.prog.built 71 [(0, .int .i64 a), (1, .int .i64 b), (2, .int .i64 c)] = some [Value.int .i64 a, .int .i64 b, .int .i64 c].toArray := by kernel_rfl
theorem info71 : (Try.prog.info? 71).map (·.size) = some 3 := by kernel_rfl
theorem alloc72 (w : World) : (Instr.alloc 72 true (.tuple #[])).run Try.prog w = .ok (.pointer (some ⟨w.heap.size, 0, none⟩)) (w.alloc (.cells [Value.string ⟨#[]⟩, .string ⟨#[]⟩].toArray 72)) := by kernel_rfl
theorem built72 (a b : ByteArray) : Try.prog.built 72 [(0, .string a), (1, .string b)] = some [Value.string a, .string b].toArray := by kernel_rfl
theorem info72 : (Try.prog.info? 72).map (·.size) = some 2 := by kernel_rfl
theorem alloc39 (w : World) : (Instr.alloc 39 true (.tuple #[])).run Try.prog w = .ok (.pointer (some ⟨w.heap.size, 0, none⟩)) (w.alloc (.cells (opV (0, 0, 0, 0)).toArray 39)) := by kernel_rfl
section
variable {ρ : Operand → Value} {o : Oper}
theorem op_idx71 {x y : Operand} {g b k : Nat} (ho : o.op = .indexAddr 71 x y) (h1 : ρ x = .pointer (some ⟨g, b, none⟩)) (h2 : ρ y = .int .i64 (k : Int)) (hk : k < 3) (w : World) :
    (execOp ρ o).run Try.prog w = .ok (.value (.pointer (some ⟨g, b + k, none⟩))) w := by
  have hk2 : (k : Int) < 3 := by omega
  have hk3 : ¬ (3 : Int) ≤ (k : Int) := by omega
  unfold execOp
  rw [ho]
  go_simp
theorem op_idx72 {x y : Operand} {g b k : Nat} (ho : o.op = .indexAddr 72 x y) (h1 : ρ x = .pointer (some ⟨g, b, none⟩)) (h2 : ρ y = .int .i64 (k : Int)) (hk : k < 2) (w : World) :
    (execOp ρ o).run Try.prog w = .ok (.value (.pointer (some ⟨g, b + k, none⟩))) w := by
  have hk2 : (k : Int) < 2 := by omega
  have hk3 : ¬ (2 : Int) ≤ (k : Int) := by omega
  unfold execOp
  rw [ho]
  go_simp
theorem op_call8 {x0 x1 : Operand} {v0 v1 : Value} (ho : o.op = .call { callee := .value (.func 8), args := #[x0, x1], argTypes := #[23, 41] }) (h0 : ρ x0 = v0) (h1 : ρ x1 = v1) (hf : ρ (.func 8) = .func (.func 8) #[] #[]) (w : World) : (execOp ρ o).run Try.prog w = .ok (.enter 8 #[v0, v1]) w := by
  unfold execOp
  rw [ho]
  go_simp
theorem op_ext0 {x : Operand} {u v : Value} (ho : o.op = .extract x 0) (h : ρ x = .tuple #[u, v]) (w : World) : (execOp ρ o).run Try.prog w = .ok (.value u) w := by
  unfold execOp
  rw [ho]
  go_simp
theorem op_ext1 {x : Operand} {u v : Value} (ho : o.op = .extract x 1) (h : ρ x = .tuple #[u, v]) (w : World) : (execOp ρ o).run Try.prog w = .ok (.value v) w := by
  unfold execOp
  rw [ho]
  go_simp
theorem op_build72 {x y : Operand} {a b : ByteArray} (ho : o.op = .build 72 #[(0, x), (1, y)]) (h1 : ρ x = .string a) (h2 : ρ y = .string b) (w : World) :
    (execOp ρ o).run Try.prog w = .ok (.value (.agg [Value.string a, .string b].toArray)) w := by
  have hb := built72 a b
  unfold execOp
  rw [ho]
  simp only [List.map_toArray, List.map_cons, List.map_nil, h1, h2, Sem.run_bind, run_build w 72 _ _ hb, Result.andThen, Sem.run_pure]
theorem op_alloc72 (ho : o.op = .alloc 72) (w : World) :
    (execOp ρ o).run Try.prog w = .ok (.value (.pointer (some ⟨w.heap.size, 0, none⟩))) (w.alloc (.cells [Value.string ⟨#[]⟩, .string ⟨#[]⟩].toArray 72)) := by
  unfold execOp
  simp only [ho, Sem.run_bind, alloc72 w, Result.andThen, Sem.run_pure]
theorem op_store72 {x y : Operand} {g : Nat} {cs : List Value} {w : World} (ho : o.op = .store 72 x y) (h1 : ρ x = .pointer (some ⟨g, 0, none⟩)) (h2 : ρ y = .agg cs.toArray) (hr : w.there g 0 2) (hl : cs.length = 2) (hs : ∀ v ∈ cs, v.oneCell' = true) :
    (execOp ρ o).run Try.prog w = .ok .skip (w.setCells g 0 cs) := by
  have hsz : cs.toArray.size = 2 := by simp [hl]
  unfold execOp
  rw [ho]
  simp only [h1, h2, Sem.run_bind, Sem.run_pure, run_storeAt_mid (P := Try.prog) w g 0 72 cs.toArray (by rw [hsz]; exact hr) (by rw [hsz]; exact info72) (all_oneCell_toArray hs), Result.andThen_ok]
end

/-- What is yielded that memory only need not lose. -/
def Grows (p : Value → Unit → World → Prop) : Prop := ∀ v w w', Below w.heap.size w w' → p v () w → p v () w'
def AtDev (N : Nat) (d : DM) (v : Value) (_ : Unit) (w : World) : Prop := ∃ D p, v = .pointer (some ⟨p, 0, none⟩) ∧ Dev D w p d ∧ ∀ k ∈ D, N ≤ k
def AtRow (l : List Int) (v : Value) (_ : Unit) (w : World) : Prop := ∃ b, v = .slice (some ⟨b, 0, none⟩) l.length l.length ∧ Arr w b (l.map fun z => .int .i64 z)
def AtMap (N : Nat) (d : DM) (x : MX) (v : Value) (_ : Unit) (w : World) : Prop := ∃ F D m p, v = .pointer (some ⟨m, 0, none⟩) ∧ PMap F D w m p d x ∧ ∀ k ∈ F ++ D, N ≤ k
def AtMap2 (N : Nat) (d : DM) (x : MX) (v : Value) (_ : Unit) (w : World) : Prop := ∃ u, v = .tuple #[u, .int .i64 0] ∧ AtMap N d x u () w
def Sees (bs : List UInt8) (v : Value) (_ : Unit) (w : World) : Prop := Shows bs v w
theorem AtDev.grows (N : Nat) (d : DM) : Grows (AtDev N d) := fun v w w' hb h => by
  obtain ⟨D, p, e, h1, h2⟩ := h
  exact ⟨D, p, e, h1.below hb, h2⟩
theorem AtRow.grows (l : List Int) : Grows (AtRow l) := fun v w w' hb h => by
  obtain ⟨b, e, h1⟩ := h
  exact ⟨b, e, h1.below hb⟩
theorem AtMap.grows (N : Nat) (d : DM) (x : MX) : Grows (AtMap N d x) := fun v w w' hb h => by
  obtain ⟨F, D, m, p, e, h1, h2⟩ := h
  exact ⟨F, D, m, p, e, h1.below hb, h2⟩
theorem AtMap2.grows (N : Nat) (d : DM) (x : MX) : Grows (AtMap2 N d x) := fun v w w' hb h => by
  obtain ⟨u, e, h1⟩ := h
  exact ⟨u, e, AtMap.grows N d x _ _ _ hb h1⟩
theorem Sees.grows (bs : List UInt8) : Grows (Sees bs) := fun _ _ _ hb h => Shows.grow h hb
/-- Values, and a few things of which something is said. -/
def VG (f : Nat → Value) (g : List (Nat × (Value → Unit → World → Prop))) : Nat → Value → Unit → World → Prop := fun j v s w => match g.lookup j with | some p => p v s w | none => v = f j
theorem VG.grow {f : Nat → Value} {g : List (Nat × (Value → Unit → World → Prop))} (hg : ∀ y ∈ g, Grows y.2) {L : Nat → Bool} {w w' : World} (hb : Below w.heap.size w w') : ∀ j u, L j = true → VG f g j u () w → VG f g j u () w' := fun j u _ h => by
  unfold VG at h ⊢
  cases e : g.lookup j with
  | none => rw [e] at h; exact h
  | some p =>
    rw [e] at h
    have hm : ∃ y ∈ g, y.2 = p := by
      clear h
      induction g with
      | nil => cases e
      | cons y g ih =>
        obtain ⟨a, q⟩ := y
        rw [List.lookup_cons] at e
        split at e
        · cases e
          exact ⟨_, List.mem_cons_self .., rfl⟩
        · obtain ⟨y, hy, e⟩ := ih (fun y hy => hg y (List.mem_cons_of_mem _ hy)) e
          exact ⟨y, List.mem_cons_of_mem _ hy, e⟩
    obtain ⟨y, hy, rfl⟩ := hm
    exact hg y hy _ _ _ hb h

theorem new_inv : Inv (newD 20 1000) 0 :=
  { ok := newD_ok 20 1000, budget := rfl, down := rfl, most := rfl, len := by rw [newD_kept]; decide, wear := fun z hz => by
      rw [List.eq_of_mem_replicate hz]
      exact Nat.le_refl _ }
theorem right20 {a b c : Nat} (ha : 1 ≤ a ∧ a ≤ 6) (hb : 1 ≤ b ∧ b ≤ 6) (hc : 1 ≤ c ∧ c ≤ 6) : rightD (newD 20 1000).kept.length [(a : Int), (b : Int), (c : Int)] = true := by
  rw [new_inv.len]
  refine rightD_iff.2 ⟨by simp, by simp, fun z hz => ?_, ?_⟩
  · simp only [List.mem_cons, List.not_mem_nil, or_false] at hz
    rcases hz with rfl | rfl | rfl <;> omega
  · simp only [List.sum_cons, List.sum_nil]
    omega
/-- What the operations yield that make the map. -/
def sixG (N : Nat) (d : DM) (x : MX) (l : List Int) : List (Nat × (Value → Unit → World → Prop)) :=
  [(0, AtDev N d), (7, AtRow l), (8, AtMap2 N d x), (9, AtMap2 N d x), (10, AtMap N d x), (12, AtMap N d x)]
theorem sixG_grows (N : Nat) (d : DM) (x : MX) (l : List Int) : ∀ y ∈ sixG N d x l, Grows y.2 := fun y hy => by
  simp only [sixG, List.mem_cons, List.not_mem_nil, or_false] at hy
  rcases hy with rfl | rfl | rfl | rfl | rfl | rfl
  · exact AtDev.grows _ _
  · exact AtRow.grows _
  · exact AtMap2.grows _ _ _
  · exact AtMap2.grows _ _ _
  · exact AtMap.grows _ _ _
  · exact AtMap.grows _ _ _
/-- What the operations yield that keep the texts of the first and the last part; s: the block into which they go, and whether they are there. -/
def wasV (f : Nat → Value) (b0 b2 : List UInt8) : Nat → Value → Nat × Bool → World → Prop := fun j v s w =>
  if j = 1 then s.2 = true ∨ Shows b0 v w else if j = 4 then s.2 = true ∨ Shows b2 v w else if j = 7 then v = .pointer (some ⟨s.1, 0, none⟩) else v = f j
theorem wasV.grow {f : Nat → Value} {b0 b2 : List UInt8} {L : Nat → Bool} {w w' : World} {s s' : Nat × Bool} (hb : Below w.heap.size w w') (h2 : s'.2 = s.2) (h7 : s' = s ∨ L 7 = false) : ∀ j u, L j = true → wasV f b0 b2 j u s w → wasV f b0 b2 j u s' w' := fun j u hj h => by
  unfold wasV at *
  split
  · rename_i e; rw [if_pos e] at h; rw [h2]; exact h.imp id (·.grow hb)
  · rename_i e
    rw [if_neg e] at h
    split
    · rename_i e2; rw [if_pos e2] at h; rw [h2]; exact h.imp id (·.grow hb)
    · rename_i e2
      rw [if_neg e2] at h
      split
      · rename_i e3
        rw [if_pos e3] at h
        rcases h7 with rfl | h7
        · exact h
        · rw [e3, h7] at hj; cases hj
      · rename_i e3; rw [if_neg e3] at h; exact h
theorem wasV.done {f : Nat → Value} {b0 b2 : List UInt8} {w w' : World} {b : Nat} : ∀ j u, wasV f b0 b2 j u (b, false) w → wasV f b0 b2 j u (b, true) w' := fun j u h => by
  unfold wasV at *
  split
  · exact .inl rfl
  · rename_i e
    rw [if_neg e] at h
    split
    · exact .inl rfl
    · rename_i e2
      rw [if_neg e2] at h
      exact h
def WasA (W : World) (s : Nat × Bool) (u : World) : Prop := s.2 = false ∧ Below W.heap.size W u
def WasB (W : World) (s : Nat × Bool) (u : World) : Prop := s.2 = false ∧ Below W.heap.size W u ∧ Arr u s.1 [Value.string ⟨#[]⟩, .string ⟨#[]⟩] ∧ W.heap.size ≤ s.1
def WasD (W : World) (b0 b2 : List UInt8) (s : Nat × Bool) (u : World) : Prop := Below W.heap.size W u ∧ Arr u s.1 [Value.string (tx b0), .string (tx b2)] ∧ W.heap.size ≤ s.1
theorem was_low {W : World} {D : Nat × Bool → World → Prop} {L : Nat → Bool} {s : Nat × Bool} {u : World} (h : Flow.three 7 8 (WasA W) (WasB W) D L s u) (h8 : L 8 = false) : s.2 = false ∧ Below W.heap.size W u := by
  cases h7 : L 7 with
  | false => exact h.pre h7 h8
  | true => have := h.mid h7 h8; exact ⟨this.1, this.2.1⟩
theorem was_grow {W : World} {D : Nat × Bool → World → Prop} {L : Nat → Bool} {s : Nat × Bool} {u u' : World} {i : Nat} (h1 : 7 ≠ i) (h2 : 8 ≠ i) (h : Flow.three 7 8 (WasA W) (WasB W) D L s u) (h8 : L 8 = false) (hb : Below u.heap.size u u') : Flow.three 7 8 (WasA W) (WasB W) D (Flow.upd L i) s u' := by
  have hl := was_low h h8
  cases h7 : L 7 with
  | false => exact Flow.three.put h1 h2 h7 h8 ⟨hl.1, hl.2.trans (hb.mono hl.2.size)⟩
  | true =>
    have hm := h.mid h7 h8
    unfold Flow.three
    rw [Flow.upd_ne h1, Flow.upd_ne h2, h7, h8]
    exact ⟨hl.1, hl.2.trans (hb.mono hl.2.size), hm.2.2.1.below hb, hm.2.2.2⟩
theorem all_short2 {d : DM} (h : d.Ok) {sz : List Nat} (hs : sz.sum ≤ 4096) (i : Int) : (allM d sz i).length ≤ 140737488351232 := by
  have h1 : (allM d sz i).length = sizeX sz i * 64 := someD_len h sz i _
  have h2 := sizeX_le sz i
  omega
/-- Values; of operation i nothing is said. -/
def VT (f : Nat → Value) (i : Nat) : Nat → Value → Unit → World → Prop := fun j v _ _ => if j = i then True else v = f j
theorem getD_memO {l : List OpT} {i : Nat} (h : i < l.length) (z : OpT) : l.getD i z ∈ l := by
  rw [List.getD_eq_getElem?_getD, List.getElem?_eq_getElem h]
  exact List.getElem_mem h
/-- The other parts are as they were. -/
theorem all_else {d e : DM} {a b c : Nat} (h1 : a + b + c ≤ d.kept.length) (h2 : a + b + c ≤ e.kept.length) (h : Else (bnd [a, b, c] 1) (bnd [a, b, c] 1 + [a, b, c].getD 1 0) d e) : allM e [a, b, c] 0 = allM d [a, b, c] 0 ∧ allM e [a, b, c] 2 = allM d [a, b, c] 2 := by
  have e1 : bnd [a, b, c] 1 = a := by simp [bnd]
  have e2 : bnd [a, b, c] 2 = a + b := by simp [bnd]
  have hs : [a, b, c].sum = a + b + c := by simp; omega
  have g1 : [a, b, c].getD 1 0 = b := rfl
  rw [e1, g1] at h
  constructor
  · exact all_same (k := 0) (by omega) (by omega) (by simp) (fun j hj => h _ (.inl (by rw [bnd_zero]; have : [a, b, c].getD 0 0 = a := rfl; omega))) _ (by rw [show sizeX [a, b, c] 0 = _ from size_some (k := 0) (by simp)]; exact Nat.le_refl _)
  · exact all_same (k := 2) (by omega) (by omega) (by simp) (fun j hj => h _ (.inr (by rw [e2]; omega))) _ (by rw [show sizeX [a, b, c] 2 = _ from size_some (k := 2) (by simp)]; exact Nat.le_refl _)
theorem all_white {d : DM} {sz : List Nat} (hok : d.Ok) (h1 : sz.sum ≤ d.kept.length) (hk : 1 < sz.length) (h : ∀ j, j < sz.getD 1 0 → d.now.getD (bnd sz 1 + j) [] = blankS) : (∀ b ∈ allM d sz 1, b = 255) ∧ (allM d sz 1).length = sz.getD 1 0 * 64 := by
  have e : sizeX sz 1 = sz.getD 1 0 := size_some (k := 1) hk
  have e1 : allM d sz 1 = someG readD d sz 1 (sz.getD 1 0) := by show someG readD d sz 1 (sizeX sz 1) = _; rw [e]
  rw [e1]
  exact ⟨all_blank (k := 1) h1 hk h _ (Nat.le_refl _), someD_len hok sz 1 _⟩
def endG (b0 b1 b2 : List UInt8) : List (Nat × (Value → Unit → World → Prop)) := [(1, Sees b0), (8, Sees b2), (16, Sees b1)]
theorem endG_grows (b0 b1 b2 : List UInt8) : ∀ y ∈ endG b0 b1 b2, Grows y.2 := fun y hy => by
  simp only [endG, List.mem_cons, List.not_mem_nil, or_false] at hy
  rcases hy with rfl | rfl | rfl <;> exact Sees.grows _
end Go.Proofs.Ytlgknllcnkainaa
