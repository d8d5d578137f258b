/-
  PartApart: the map and its device, with what else is kept beside them; each call by what the statement needs of it.
-/
import Derived.Test.YtlgknllcnkainaaAMath
import Derived.Test.YtlgknllcnkainaaSteps
namespace Go.Proofs.Ytlgknllcnkainaa
open Go.RowKit

/-- A map and its device, all above block N, and other blocks that stand by themselves. -/
structure Sit (N : Nat) (K : List (Nat × List Value)) (F D : List Nat) (w : World) (m p : Nat) (d : DM) (x : MX) : Prop where
  pm : PMap F D w m p d x
  above : ∀ k ∈ F ++ D, N ≤ k
  size : N ≤ w.heap.size
  keep : ∀ y ∈ K, Arr w y.1 y.2 ∧ y.1 ∉ F ++ D
section
variable {N : Nat} {K : List (Nat × List Value)} {F D F' D' : List Nat} {w w' : World} {m p : Nat} {d d' : DM} {x x' : MX}
theorem Sit.below (h : Sit N K F D w m p d x) (hb : Below w.heap.size w w') : Sit N K F D w' m p d x :=
  { pm := h.pm.below hb, above := h.above, size := Nat.le_trans h.size hb.size, keep := fun y hy => ⟨(h.keep y hy).1.below hb, (h.keep y hy).2⟩ }
theorem Sit.drew (h : Sit N K F D w m p d x) : Sit N K F D w.drew m p d x := h.below (Below.refl _ w).drew
theorem Sit.turn (h : Sit N K F D w m p d x) (ht : Turns (F ++ D) (F' ++ D') w w') (hp : PMap F' D' w' m p d' x') : Sit N K F' D' w' m p d' x' ∧ Below N w w' :=
  ⟨{ pm := hp, above := ht.above h.above h.size, size := Nat.le_trans h.size ht.1.size, keep := fun y hy => ht.keep (h.keep y hy).1 (h.keep y hy).2 }, ht.1.below h.above h.size⟩
theorem Sit.add (h : Sit N K F D w m p d x) {b : Nat} {cs : List Value} (hA : Arr w b cs) (hb : b ∉ F ++ D) : Sit N ((b, cs) :: K) F D w m p d x :=
  ⟨h.pm, h.above, h.size, fun y hy => by
    rcases List.mem_cons.1 hy with rfl | hy
    · exact ⟨hA, hb⟩
    · exact h.keep y hy⟩

/-- While each part gets its first sector. -/
def Pre (N : Nat) (K : List (Nat × List Value)) (m p : Nat) (sz : List Nat) (j : Nat) (w : World) : Prop :=
  ∃ F D d x, Sit N K F D w m p d x ∧ Inv d 0 ∧ x.sz = sz ∧ d.wait.length ≤ j ∧ x.ops.length ≤ j
theorem Pre.below {sz : List Nat} {j : Nat} (h : Pre N K m p sz j w) (hb : Below w.heap.size w w') : Pre N K m p sz j w' := by
  obtain ⟨F, D, d, x, h1, h2⟩ := h
  exact ⟨F, D, d, x, h1.below hb, h2⟩
theorem pre_program {sz : List Nat} {j : Nat} (h : Pre N K m p sz j w) (hsz : sz.sum ≤ 20) (hj : j ≤ 100) (k : Nat) (s : Sec) (hs : s.length = 64) :
    Calls Try.prog 11 #[.pointer (some ⟨m, 0, none⟩), .int .i64 (k : Int), .int .i64 0, secV s] w fun e w' => (∃ z, e = .returned (.int .i64 z)) ∧ Pre N K m p sz (j + 1) w' ∧ Below N w w' := by
  obtain ⟨F, D, d, x, hS, hI, hx, hw, ho⟩ := h
  refine (mprogram_walk hS.pm (k : Int) 0 (by omega) s hs (by omega) (by omega)).mono ?_
  rintro e w' ⟨rfl, F', D', hP, hT⟩
  have h1 := hS.turn hT hP
  have h2 := program_did hI (by rw [hx]; exact hsz) k 0 hs
  have h3 : (programM s d x (k : Int) 0).2.1.wait.length ≤ d.wait.length + 1 := opG_wait 2 (fun d i => program_wait d i s) d x _ _
  have h4 := opG_ops 2 (fun d i => programD d i s) d x (k : Int) 0
  exact ⟨⟨_, rfl⟩, ⟨F', D', _, _, h1.1, h2.1, h2.2.2.keep.trans hx, by omega, Nat.le_trans h4 (by omega)⟩, h1.2⟩

/-- While things are done to part 1. -/
def Mid (N : Nat) (K : List (Nat × List Value)) (m p : Nat) (sz : List Nat) (dA : DM) (j : Nat) (w : World) : Prop :=
  ∃ F D d x, Sit N K F D w m p d x ∧ Inv d j ∧ x.sz = sz ∧ Else (bnd sz 1) (bnd sz 1 + sz.getD 1 0) dA d ∧ d.wait.length ≤ 3 + j ∧ x.ops.length ≤ j ∧ ∀ o ∈ x.ops, o.2.1 = 1 ∧ 0 ≤ o.2.2.1 ∧ o.2.2.1 < ((sz.getD 1 0 : Nat) : Int)
theorem Mid.below {sz : List Nat} {j : Nat} {dA : DM} (h : Mid N K m p sz dA j w) (hb : Below w.heap.size w w') : Mid N K m p sz dA j w' := by
  obtain ⟨F, D, d, x, h1, h2⟩ := h
  exact ⟨F, D, d, x, h1.below hb, h2⟩
theorem Did.all {k : Nat} {sz : List Nat} (h : Did k sz x x') {P : OpT → Prop} (hx : ∀ o ∈ x.ops, P o) (hP : ∀ o : OpT, o.2.1 = (k : Int) ∧ 0 ≤ o.2.2.1 ∧ o.2.2.1 < ((sz.getD k 0 : Nat) : Int) → P o) : (∀ o ∈ x'.ops, P o) ∧ x'.ops.length ≤ x.ops.length + 1 := by
  obtain ⟨l, e, hl, hA⟩ := h.ops
  rw [e]
  refine ⟨fun o ho => ?_, by rw [List.length_append]; omega⟩
  rcases List.mem_append.1 ho with h | h
  · exact hx o h
  · exact hP o (hA o h)
theorem mid_erase {sz : List Nat} {j : Nat} {dA : DM} (h : Mid N K m p sz dA j w) (hsz : sz.sum ≤ 20) (hj : j ≤ 100) (pl : Int) (hpl : -9223372036854775808 ≤ pl ∧ pl ≤ 9223372036854775807) :
    Calls Try.prog 12 #[.pointer (some ⟨m, 0, none⟩), .int .i64 1, .int .i64 pl] w fun e w' => (∃ z, e = .returned (.int .i64 z)) ∧ Mid N K m p sz dA (j + 1) w' ∧ Below N w w' := by
  obtain ⟨F, D, d, x, hS, hI, hx, hE, hw, ho, hO⟩ := h
  refine (merase_walk hS.pm 1 pl hpl (by omega) (by omega)).mono ?_
  rintro e w' ⟨rfl, F', D', hP, hT⟩
  have h1 := hS.turn hT hP
  have h2 := erase_did hI (by omega) (by rw [hx]; exact hsz) 1 pl
  have h3 : (eraseM d x 1 pl).2.1.wait.length ≤ d.wait.length + 1 := opG_wait 1 erase_wait d x _ _
  have h4 := h2.2.2.all hO (fun o ho => by rw [hx] at ho; exact ho)
  have h5 := h2.2.1
  rw [hx] at h5
  exact ⟨⟨_, rfl⟩, ⟨F', D', _, _, h1.1, h2.1, h2.2.2.keep.trans hx, hE.trans h5, by omega, Nat.le_trans h4.2 (by omega), h4.1⟩, h1.2⟩
theorem mid_program {sz : List Nat} {j : Nat} {dA : DM} (h : Mid N K m p sz dA j w) (hsz : sz.sum ≤ 20) (hj : j ≤ 100) (pl : Int) (hpl : -9223372036854775808 ≤ pl ∧ pl ≤ 9223372036854775807) (s : Sec) (hs : s.length = 64) :
    Calls Try.prog 11 #[.pointer (some ⟨m, 0, none⟩), .int .i64 1, .int .i64 pl, secV s] w fun e w' => (∃ z, e = .returned (.int .i64 z)) ∧ Mid N K m p sz dA (j + 1) w' ∧ Below N w w' := by
  obtain ⟨F, D, d, x, hS, hI, hx, hE, hw, ho, hO⟩ := h
  refine (mprogram_walk hS.pm 1 pl hpl s hs (by omega) (by omega)).mono ?_
  rintro e w' ⟨rfl, F', D', hP, hT⟩
  have h1 := hS.turn hT hP
  have h2 := program_did hI (by rw [hx]; exact hsz) 1 pl hs
  have h3 : (programM s d x 1 pl).2.1.wait.length ≤ d.wait.length + 1 := opG_wait 2 (fun d i => program_wait d i s) d x _ _
  have h4 := h2.2.2.all hO (fun o ho => by rw [hx] at ho; exact ho)
  have h5 := h2.2.1
  rw [hx] at h5
  exact ⟨⟨_, rfl⟩, ⟨F', D', _, _, h1.1, h2.1.up (by omega), h2.2.2.keep.trans hx, hE.trans h5, by omega, Nat.le_trans h4.2 (by omega), h4.1⟩, h1.2⟩

/-- 'Ops'. -/
theorem sit_ops (h : Sit N K F D w m p d x) :
    Calls Try.prog 13 #[.pointer (some ⟨m, 0, none⟩)] w fun e w' => ∃ ov F', e = .returned ov ∧ w'.ownsRow 0 39 4 ov x.ops.length (opsV x.ops) ∧ Sit N K F' D w' m p d x.told ∧ Below N w w' := by
  refine (ops_walk h.pm.map).mono ?_
  rintro e w' ⟨ov, F', rfl, hO, hM, hT, _, _⟩
  have hq := h.pm.turnM hT hM rfl
  have h1 := h.turn hq.2 hq.1
  exact ⟨ov, F', rfl, hO, h1.1, h1.2⟩

/-- Part 1 is wiped. -/
theorem sit_wipe (h : Sit N K F D w m p d x) {j : Nat} (hI : Inv d j) (hj : j ≤ 100) (hsz : x.sz.sum ≤ 20) (h1 : 1 < x.sz.length) (hw : d.wait.length ≤ 1000) (ho : x.ops = []) :
    Calls Try.prog 22 #[.pointer (some ⟨m, 0, none⟩), .int .i64 1] w fun e w' => e = .returned (.int .i64 0) ∧ ∃ F' D' d' x', Sit N K F' D' w' m p d' x' ∧ (∃ c, Inv d' c) ∧ x'.sz = x.sz ∧ Else (bnd x.sz 1) (bnd x.sz 1 + x.sz.getD 1 0) d d' ∧
      (∀ i, i < x.sz.getD 1 0 → d'.now.getD (bnd x.sz 1 + i) [] = blankS) ∧ x'.ops.length = dirtyN d (bnd x.sz 1) 0 (x.sz.getD 1 0) ∧ Below N w w' := by
  have hb := bnd_part h1
  obtain ⟨d', x', e1, h2, h3, h4, h5, _, h7⟩ := wipe_apart (x.sz.getD 1 0) 0 d x j hI (by omega) hsz h1 (by omega)
  have e2 : wipeM d x 1 = (0, d', x') := by
    have hh : hasD x.sz.length 1 = true := by unfold hasD; rw [decide_eq_true (by omega), decide_eq_true (by omega)]; rfl
    show wipeAll readD eraseD d x 1 = _
    unfold wipeAll
    rw [if_neg (by rw [hh]; decide), show sizeX x.sz 1 = x.sz.getD 1 0 from size_some h1]
    exact e1
  have hW := wipe_walk h.pm 1 (by omega) (by rw [ho]; exact Nat.zero_le _)
  rw [e2] at hW
  refine hW.mono ?_
  rintro e w' ⟨rfl, F', D', hP, hT⟩
  have h8 := h.turn hT hP
  exact ⟨rfl, F', D', d', x', h8.1, ⟨_, h2⟩, h3, h4, fun i hi => h5 i (Nat.zero_le _) (by omega), by rw [h7, ho, List.length_nil, Nat.zero_add], h8.2⟩

theorem dirtyN_snoc (d : DM) (b : Nat) : ∀ n a, dirtyN d b a (n + 1) = dirtyN d b a n + (if d.now.getD (b + (a + n)) [] = blankS then 0 else 1)
  | 0, a => by simp [dirtyN]
  | n + 1, a => by
    rw [dirtyN, dirtyN_snoc d b n (a + 1), dirtyN, show a + 1 + n = a + (n + 1) by omega]
    omega
theorem dirtyN_le (d : DM) (b : Nat) : ∀ n a, dirtyN d b a n ≤ n
  | 0, _ => Nat.le_refl _
  | n + 1, a => by
    have := dirtyN_le d b n (a + 1)
    rw [dirtyN]
    split <;> omega
end
end Go.Proofs.Ytlgknllcnkainaa
