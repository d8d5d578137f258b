/-
  What was synced is there: lists, and a device with things of the statement's own beside it.
-/
import Derived.Test.YtebahemgbpjldaaPair
namespace Go.Proofs.Ytebahemgbpjldaa
open Go.RowKit
namespace flashSure

/-- Its guard was not carried out. -/
theorem skipU {σ : Type} {P : Program} {ops : Array Oper} {Q : Exit → Act → World → Prop} {V : Nat → Value → σ → World → Prop} {C : (Nat → Bool) → σ → World → Prop} {a0 : Act} {i g d : Nat} {o og : Oper} (b : Bool) (hg : o.guard = some (g, b)) (hog : ops[g]? = some og) (hd : og.dst = some d) (hdep : Free.dep ops i g d = true) (hV : ∀ v s w, V g v s w → v = undef)
    (hCu : ∀ L s w, C L s w → C (Flow.upd L i) s w) (hV0 : ∀ s w, V i undef s w) : Flow.Owed P ops Q V C a0 i o := by
  intro a L s w hC hL _ hs hdd
  have hv := hV _ _ _ (hdd g d hdep)
  have hy : yielded ops a.tmps g = none := by
    simp only [Array.getD_eq_getD_getElem?] at hv
    unfold yielded
    rw [hog]
    cases ht : a.tmps[d]? with
    | none => simp [hd, ht]
    | some x =>
      rw [ht] at hv
      simp at hv
      simp [hd, ht, hv, undef]
  have hn : ¬ Region.wanted o (yielded ops a.tmps) = true := by
    simp [Region.wanted, hg, hy]
  rw [if_neg hn]
  exact ⟨hCu L s w hC, hV0 s w⟩

/-- One thing was done to sector i. -/
structure Did (d d' : DM) (i : Int) : Prop where
  ok : d'.Ok
  at' : ∃ k s, i = ((k : Nat) : Int) ∧ k < d.kept.length ∧ d'.wait = d.wait ++ [(k, s)] ∧ d'.now = d.now.set k s
  kept : d'.kept = d.kept
  wear : ∀ m, d.wear.getD m 0 ≤ d'.wear.getD m 0
  budget : d'.budget = d.budget
  down : d'.down = d.down
/-- What a call makes of it. -/
def After (d : DM) (x : Int × DM) (i : Int) : Prop := (x.1 ≠ 0 ∧ x.2 = d) ∨ (x.1 = 0 ∧ Did d x.2 i)

theorem step_free {d : DM} (h : d.budget = -1) : stepD d = (0, d) := by
  unfold stepD
  rw [h, if_neg (by decide), if_pos rfl, ← h]
theorem wear_set (l : List Nat) (k m : Nat) : l.getD m 0 ≤ (l.set k (l.getD k 0 + 1)).getD m 0 := by
  simp only [List.getD_eq_getElem?_getD]
  by_cases h : k = m
  · subst h
    by_cases hl : k < l.length
    · rw [List.getElem?_set_self hl]; simp
    · rw [List.getElem?_eq_none (by omega)]; simp
  · rw [List.getElem?_set_ne h]
    exact Nat.le_refl _
theorem erase_after {d : DM} (ok : d.Ok) (h : d.budget = -1) (i : Int) : After d (eraseD d i) i := by
  have hok := ok.erase i
  by_cases ho : openD d i = 0
  · have hh := (openD_zero ho).1
    obtain ⟨k, rfl, hk⟩ := hasD_nat hh
    by_cases hw : d.most ≤ d.wear.getD k 0
    · have e : eraseD d (k : Int) = (64, d) := by unfold eraseD; rw [if_neg (by simp [ho]), if_pos (by simpa using hw)]
      rw [e]
      exact .inl ⟨by simp, rfl⟩
    · have e : eraseD d (k : Int) = (0, doD (wornD d k) k blankS) := by
        unfold eraseD; rw [if_neg (by simp [ho]), if_neg (by simpa using hw), if_neg (by rw [step_free h]; simp), step_free h]; rfl
      rw [e] at hok ⊢
      exact .inr ⟨rfl, hok, ⟨k, blankS, rfl, hk, rfl, rfl⟩, rfl, wear_set d.wear k, rfl, rfl⟩
  · have e : eraseD d i = (openD d i, d) := by unfold eraseD; rw [if_pos ho]
    rw [e]
    exact .inl ⟨ho, rfl⟩
theorem program_after {d : DM} (ok : d.Ok) (h : d.budget = -1) (i : Int) {s : Sec} (hs : s.length = 64) : After d (programD d i s) i := by
  have hok := ok.program i hs
  by_cases ho : openD d i = 0
  · have hh := (openD_zero ho).1
    obtain ⟨k, rfl, hk⟩ := hasD_nat hh
    by_cases hw : d.now.getD k [] = blankS
    · have e : programD d (k : Int) s = (0, doD d k s) := by
        unfold programD; rw [if_neg (by simp [ho]), if_neg (by simpa using hw), if_neg (by rw [step_free h]; simp), step_free h]; rfl
      rw [e] at hok ⊢
      exact .inr ⟨rfl, hok, ⟨k, s, rfl, hk, rfl, rfl⟩, rfl, fun _ => Nat.le_refl _, rfl, rfl⟩
    · have e : programD d (k : Int) s = (63, d) := by unfold programD; rw [if_neg (by simp [ho]), if_pos (by simpa using hw)]
      rw [e]
      exact .inl ⟨by simp, rfl⟩
  · have e : programD d i s = (openD d i, d) := by unfold programD; rw [if_pos ho]
    rw [e]
    exact .inl ⟨ho, rfl⟩

/-- Ahead of the sync. -/
structure One (j : Nat) (d : DM) : Prop where
  ok : d.Ok
  len : d.kept.length = 12
  budget : d.budget = -1
  down : d.down = false
  now : d.now = layAll d.kept d.wait
  wait : d.wait.length ≤ j
theorem One.after {j : Nat} {d : DM} {x : Int × DM} {i : Int} (h : One j d) (ha : After d x i) : One (j + 1) x.2 := by
  rcases ha with ⟨_, e⟩ | ⟨_, hd⟩
  · rw [e]; exact { h with wait := Nat.le_succ_of_le h.wait }
  · obtain ⟨k, s, _, hk, hw, hn⟩ := hd.at'
    refine ⟨hd.ok, by rw [hd.kept]; exact h.len, by rw [hd.budget]; exact h.budget, by rw [hd.down]; exact h.down, ?_, ?_⟩
    · rw [hn, hw, hd.kept, layAll_snoc, ← h.now]
    · rw [hw]; have := h.wait; simp; omega
theorem One.new : One 0 (newD 12 1000) := ⟨newD_ok _ _, by rw [newD_kept]; decide, rfl, rfl, rfl, Nat.le_refl _⟩
theorem One.sync {j : Nat} {d : DM} (h : One j d) : syncD d = (0, keepD d) := by
  unfold syncD
  rw [if_neg (by rw [h.down]; decide), if_neg (by rw [step_free h.budget]; simp), step_free h.budget]

/-- Behind it: d0 is the device right behind the sync. -/
structure Two (d0 : DM) (j : Nat) (ts : List Bool) (d : DM) : Prop where
  ok : d.Ok
  len : d.kept.length = 12
  budget : d.budget = -1
  down : d.down = false
  kept : d.kept = d0.kept
  same : d0.now = d0.kept
  wear : ∀ m, d0.wear.getD m 0 ≤ d.wear.getD m 0
  touched : ∀ x ∈ d.wait, ts.getD x.1 false = true
  tlen : ts.length = 12
  wait : d.wait.length ≤ j
theorem One.two {j : Nat} {d : DM} (h : One j d) : Two (keepD d) 0 (List.replicate 12 false) (keepD d) :=
  ⟨h.ok.keep, (layAll_len _ _).trans h.len, h.budget, h.down, rfl, h.now, fun _ => Nat.le_refl _, (fun x hx => by cases hx), (by simp), Nat.le_refl _⟩
theorem Two.no {d0 : DM} {j : Nat} {ts : List Bool} {d : DM} (h : Two d0 j ts d) : Two d0 (j + 1) ts d := { h with wait := Nat.le_succ_of_le h.wait }
theorem Two.did {d0 : DM} {j : Nat} {ts : List Bool} {d d' : DM} {i : Int} (h : Two d0 j ts d) (hd : Did d d' i) : ∃ k : Nat, i = (k : Int) ∧ k < 12 ∧ Two d0 (j + 1) (ts.set k true) d' := by
  obtain ⟨k, s, hi, hk, hw, _⟩ := hd.at'
  rw [h.len] at hk
  refine ⟨k, hi, hk, hd.ok, by rw [hd.kept]; exact h.len, by rw [hd.budget]; exact h.budget, by rw [hd.down]; exact h.down, by rw [hd.kept]; exact h.kept, h.same, fun m => Nat.le_trans (h.wear m) (hd.wear m), ?_, by rw [List.length_set]; exact h.tlen, ?_⟩
  · intro x hx
    rw [hw] at hx
    by_cases e : k = x.1
    · rw [← e, List.getD_eq_getElem?_getD, List.getElem?_set_self (by rw [h.tlen]; exact hk)]; rfl
    · rw [List.getD_eq_getElem?_getD, List.getElem?_set_ne e, ← List.getD_eq_getElem?_getD]
      rcases List.mem_append.1 hx with h1 | h1
      · exact h.touched x h1
      · simp at h1; rw [h1] at e; exact absurd rfl e
  · rw [hw]; have := h.wait; simp; omega
theorem layKept_other : ∀ (l : List (Nat × Sec)) (bs : List UInt8) (k : List Sec) (i : Nat), (∀ x ∈ l, x.1 ≠ i) → (layKept k l bs).getD i [] = k.getD i []
  | [], _, _, _, _ => by simp [layKept]
  | x :: l, [], _, _, _ => by simp [layKept]
  | x :: l, b :: bs, k, i, h => by
    rw [layKept, layKept_other l bs _ i (fun y hy => h y (by simp [hy]))]
    unfold layOne
    rw [List.getD_eq_getElem?_getD, List.getElem?_set_ne (h x (by simp)), ← List.getD_eq_getElem?_getD]
/-- What is read behind the restart. -/
theorem Two.same_or {d0 : DM} {j : Nat} {ts : List Bool} {d : DM} (h : Two d0 j ts d) (bs : List UInt8) (i : Nat) :
    (layKept d.kept d.wait bs).getD i [] = d0.now.getD i [] ∨ (ts.getD i false = true ∧ bs ≠ []) := by
  by_cases hb : bs = []
  · left
    rw [hb, h.same, ← h.kept]
    cases hw : d.wait with
    | nil => simp [layKept]
    | cons x l => simp [layKept]
  · cases ht : ts.getD i false with
    | true => exact .inr ⟨rfl, hb⟩
    | false =>
      left
      rw [layKept_other, h.kept, h.same]
      intro x hx e
      have := h.touched x hx
      rw [e, ht] at this
      cases this

/-- The device, and things of the statement's own, each in a block of its own. -/
structure Solo (N : Nat) (F : List Nat) (L : List (Nat × List Value)) (w : World) (p : Nat) (d : DM) : Prop where
  dev : Dev F w p d
  hF : ∀ k ∈ F, N ≤ k
  keep : ∀ x ∈ L, Arr w x.1 x.2 ∧ x.1 ∉ F ∧ N ≤ x.1
  nodup : (L.map (·.1)).Nodup
  size : N ≤ w.heap.size
section
variable {N : Nat} {F F' : List Nat} {L : List (Nat × List Value)} {w w' : World} {p : Nat} {d d' : DM}
theorem Solo.below (h : Solo N F L w p d) (hb : Below w.heap.size w w') : Solo N F L w' p d :=
  { h with dev := h.dev.below hb, keep := fun x hx => ⟨(h.keep x hx).1.below hb, (h.keep x hx).2⟩, size := Nat.le_trans h.size hb.size }
theorem Solo.turn (h : Solo N F L w p d) (ht : Turns F F' w w') (hd : Dev F' w' p d') : Solo N F' L w' p d' ∧ Below N w w' := by
  have hu := ht.under h.hF h.size
  exact ⟨{ h with dev := hd, hF := hu.2, keep := fun x hx => ⟨(ht.keepArr (h.keep x hx).1 (h.keep x hx).2.1).1, (ht.keepArr (h.keep x hx).1 (h.keep x hx).2.1).2, (h.keep x hx).2.2⟩, size := Nat.le_trans h.size ht.1.size }, hu.1⟩
theorem Solo.new (h : Solo N F L w p d) {cs : List Value} (hb : Below w.heap.size w w') (hA : Arr w' w.heap.size cs) : Solo N F (L ++ [(w.heap.size, cs)]) w' p d := by
  refine { h.below hb with keep := fun x hx => ?_, nodup := ?_ }
  · rcases List.mem_append.1 hx with h1 | h1
    · exact (h.below hb).keep x h1
    · simp at h1
      subst h1
      exact ⟨hA, fun e => by have := h.dev.lt _ e; omega, h.size⟩
  · rw [List.map_append, List.nodup_append]
    refine ⟨h.nodup, by simp, fun a ha b hb' => ?_⟩
    obtain ⟨x, hx, rfl⟩ := List.mem_map.1 ha
    simp at hb'
    subst hb'
    have := (h.keep x hx).1.lt
    omega
theorem Solo.get (h : Solo N F L w p d) {i b : Nat} {cs : List Value} (hi : L[i]? = some (b, cs)) : Arr w b cs := (h.keep _ (List.mem_of_getElem? hi)).1
theorem Solo.high (h : Solo N F L w p d) {i b : Nat} {cs : List Value} (hi : L[i]? = some (b, cs)) : N ≤ b := (h.keep _ (List.mem_of_getElem? hi)).2.2
theorem Solo.set (h : Solo N F L w p d) {i b : Nat} {cs cs' : List Value} (hi : L[i]? = some (b, cs)) (hg : w.grownBy w' (some b)) (hA : Arr w' b cs') : Solo N F (L.set i (b, cs')) w' p d ∧ Below N w w' := by
  have hk := h.keep _ (List.mem_of_getElem? hi)
  refine ⟨{ h with dev := h.dev.same fun k hk' => hg.block k (h.dev.lt k hk') (by intro e; cases e; exact hk.2.1 hk'), keep := fun x hx => ?_, nodup := ?_, size := Nat.le_trans h.size hg.size }, (Below.refl _ _).grown hg h.size (fun k hk' => by cases hk'; exact hk.2.2)⟩
  · obtain ⟨m, hm⟩ := List.mem_iff_getElem?.1 hx
    by_cases e : i = m
    · subst e
      rw [List.getElem?_set_self (List.getElem?_eq_some_iff.1 hi).1] at hm
      cases hm
      exact ⟨hA, hk.2⟩
    · rw [List.getElem?_set_ne e] at hm
      have hx2 := h.keep x (List.mem_of_getElem? hm)
      refine ⟨hx2.1.grown hg ?_, hx2.2⟩
      intro e2
      have e3 : x.1 = b := by cases e2; rfl
      have h1 : (L.map (·.1))[i]? = some b := by rw [List.getElem?_map, hi]; rfl
      have h2 : (L.map (·.1))[m]? = some b := by rw [List.getElem?_map, hm, ← e3]; rfl
      exact e ((List.getElem?_inj (by have := (List.getElem?_eq_some_iff.1 h1).1; exact this) h.nodup).1 (h1.trans h2.symm))
  · have : (L.set i (b, cs')).map (·.1) = L.map (·.1) := by
      rw [List.map_set]
      apply List.ext_getElem?
      intro m
      by_cases e : i = m
      · subst e
        rw [List.getElem?_set_self (by simpa using (List.getElem?_eq_some_iff.1 hi).1), List.getElem?_map, hi]; rfl
      · rw [List.getElem?_set_ne e]
    rw [this]
    exact h.nodup
end
def boolsV (l : List Bool) : List Value := l.map .bool
theorem boolsV_get (l : List Bool) {i : Nat} (h : i < l.length) : (boolsV l)[i]? = some (.bool (l.getD i false)) := by
  rw [boolsV, List.getElem?_map, List.getD_eq_getElem?_getD, List.getElem?_eq_getElem h]; rfl
theorem boolsV_set (l : List Bool) (i : Nat) (b : Bool) : (boolsV l).set i (.bool b) = boolsV (l.set i b) := by
  rw [boolsV, boolsV, List.map_set]
theorem intsV_one (l : List Nat) : ∀ v ∈ intsV l, v.oneCell' = true := by
  intro v hv
  obtain ⟨c, _, rfl⟩ := List.mem_map.1 hv
  rfl
theorem boolsV_one (l : List Bool) : ∀ v ∈ boolsV l, v.oneCell' = true := by
  intro v hv
  obtain ⟨c, _, rfl⟩ := List.mem_map.1 hv
  rfl
def zs59 : List Value := secsV (List.replicate 12 zeroS)
def zs60 : List Value := intsV (List.replicate 12 0)
def zs61 : List Value := boolsV (List.replicate 12 false)
theorem built59 : Try.prog.built 59 [] = some zs59.toArray := by kernel_rfl
theorem built60 : Try.prog.built 60 [] = some zs60.toArray := by kernel_rfl
theorem built61 : Try.prog.built 61 [] = some zs61.toArray := by kernel_rfl
theorem alloc59 (w : World) : (Instr.alloc 59 true (.tuple #[])).run Try.prog w = .ok (.pointer (some ⟨w.heap.size, 0, none⟩)) (w.alloc (.cells zs59.toArray 59)) := by kernel_rfl
theorem alloc60 (w : World) : (Instr.alloc 60 true (.tuple #[])).run Try.prog w = .ok (.pointer (some ⟨w.heap.size, 0, none⟩)) (w.alloc (.cells zs60.toArray 60)) := by kernel_rfl
theorem alloc61 (w : World) : (Instr.alloc 61 true (.tuple #[])).run Try.prog w = .ok (.pointer (some ⟨w.heap.size, 0, none⟩)) (w.alloc (.cells zs61.toArray 61)) := by kernel_rfl
theorem info59 : (Try.prog.info? 59).map (·.size) = some zs59.length := by kernel_rfl
theorem info60 : (Try.prog.info? 60).map (·.size) = some zs60.length := by kernel_rfl
theorem info61 : (Try.prog.info? 61).map (·.size) = some zs61.length := by kernel_rfl

section
variable {ρ : Operand → Value} {o : Oper}
theorem op_idx59 {x y : Operand} {g k : Nat} (ho : o.op = .indexAddr 59 x y) (h1 : ρ x = .pointer (some ⟨g, 0, none⟩)) (h2 : ρ y = .int .i64 (k : Int)) (hk : k < 12) (w : World) :
    (execOp ρ o).run Try.prog w = .ok (.value (.pointer (some ⟨g, k * 64, none⟩))) w := by
  have hk2 : (k : Int) < 12 := by omega
  have hk3 : ¬ (12 : Int) ≤ (k : Int) := by omega
  unfold execOp
  rw [ho]
  go_simp
theorem op_idx60 {x y : Operand} {g k : Nat} (ho : o.op = .indexAddr 60 x y) (h1 : ρ x = .pointer (some ⟨g, 0, none⟩)) (h2 : ρ y = .int .i64 (k : Int)) (hk : k < 12) (w : World) :
    (execOp ρ o).run Try.prog w = .ok (.value (.pointer (some ⟨g, k, none⟩))) w := by
  have hk2 : (k : Int) < 12 := by omega
  have hk3 : ¬ (12 : Int) ≤ (k : Int) := by omega
  unfold execOp
  rw [ho]
  go_simp
theorem op_idx61 {x y : Operand} {g k : Nat} (ho : o.op = .indexAddr 61 x y) (h1 : ρ x = .pointer (some ⟨g, 0, none⟩)) (h2 : ρ y = .int .i64 (k : Int)) (hk : k < 12) (w : World) :
    (execOp ρ o).run Try.prog w = .ok (.value (.pointer (some ⟨g, k, none⟩))) w := by
  have hk2 : (k : Int) < 12 := by omega
  have hk3 : ¬ (12 : Int) ≤ (k : Int) := by omega
  unfold execOp
  rw [ho]
  go_simp
end
end flashSure
end Go.Proofs.Ytebahemgbpjldaa
