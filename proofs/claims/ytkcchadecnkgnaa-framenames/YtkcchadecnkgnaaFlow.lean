/-
  A region that draws its order, in which operations may turn memory: each operation by itself, in whatever order; what memory is like hangs on which of them are done, and on a thing of the prover's that each may turn. Plain facts over any program.
-/
import Derived.Test.YtkcchadecnkgnaaFree
namespace Go.Proofs.Ytkcchadecnkgnaa.Flow
open Go.RowKit Free

/-- Which are done, and i. -/
def upd (L : Nat → Bool) (i : Nat) : Nat → Bool := fun j => if j = i then true else L j
theorem upd_ne {L : Nat → Bool} {i j : Nat} (h : j ≠ i) : upd L i j = L j := by simp [upd, h]
theorem upd_eq {L : Nat → Bool} {i : Nat} : upd L i i = true := by simp [upd]

/-- Operation j waits for operation i, by however many between. -/
def waits (ops : Array Oper) : Nat → Nat → Nat → Bool
  | 0, _, _ => false
  | f + 1, j, i => match ops[j]? with
    | some o => o.after.any fun e => Region.binds .any e && (e.on == i || waits ops f e.on i)
    | none => false
theorem waits_done {ops : Array Oper} {L : Nat → Bool} (hc : ∀ j o, ops[j]? = some o → L j = true → ∀ e ∈ o.after, Region.binds .any e = true → L e.on = true) : ∀ (f j i : Nat), waits ops f j i = true → L j = true → L i = true
  | 0, _, _, h, _ => by simp [waits] at h
  | f + 1, j, i, h, hj => by
    unfold waits at h
    cases ho : ops[j]? with
    | none => simp [ho] at h
    | some o =>
      simp only [ho] at h
      obtain ⟨k, hk, h2⟩ := Array.any_eq_true.1 h
      simp only [Bool.and_eq_true, Bool.or_eq_true, beq_iff_eq] at h2
      have h3 := hc j o ho hj _ (Array.getElem_mem hk) h2.1
      rcases h2.2 with h4 | h4
      · rw [← h4]; exact h3
      · exact waits_done hc f _ i h4 h3

/-- When i comes up, none that waits for it is done, and all that it waits for are. -/
structure Near (ops : Array Oper) (L : Nat → Bool) (i : Nat) : Prop where
  after : ∀ j, waits ops ops.size j i = true → L j = false
  done : ∀ j, waits ops ops.size i j = true → L j = true

section
variable {σ : Type} {P : Program} {ops : Array Oper} {Q : Exit → Act → World → Prop} {V : Nat → Value → σ → World → Prop} {C : (Nat → Bool) → σ → World → Prop} {a0 : Act}

/-- What is owed for operation i. -/
def Owed (P : Program) (ops : Array Oper) (Q : Exit → Act → World → Prop) (V : Nat → Value → σ → World → Prop) (C : (Nat → Bool) → σ → World → Prop) (a0 : Act) (i : Nat) (o : Oper) : Prop :=
  ∀ (a : Act) (L : Nat → Bool) (s : σ) (w : World), C L s w → L i = false → Near ops L i →
    (∀ t, own ops t = false → a.tmps.getD t undef = a0.tmps.getD t undef) → (∀ j d, dep ops i j d = true → V j (a.tmps.getD d undef) s w) →
    if Region.wanted o (yielded ops a.tmps) = true then o.wp P a w (fun a' w' => ∃ v s', a' = a.put o.dst v ∧ (∀ j u, L j = true → V j u s w → V j u s' w') ∧ C (upd L i) s' w' ∧ V i v s' w') Q
    else C (upd L i) s w ∧ V i undef s w

/-- What is known of the slots in the midst of the region. -/
structure KeptF (ops : Array Oper) (V : Nat → Value → σ → World → Prop) (a0 : Act) (listed : Array Bool) (a : Act) (s : σ) (w : World) : Prop where
  defers : a.defers = a0.defers
  size : a.tmps.size = a0.tmps.size
  others : ∀ t, own ops t = false → a.tmps.getD t undef = a0.tmps.getD t undef
  done : ∀ (j : Nat) (o : Oper) (d : Nat), ops[j]? = some o → o.dst = some d → listed.getD j false = true → V j (a.tmps.getD d undef) s w
  closed : ∀ j o, ops[j]? = some o → listed.getD j false = true → ∀ e ∈ o.after, Region.binds .any e = true → listed.getD e.on false = true

theorem closed_step {listed : Array Bool} {i : Nat} {o : Oper} (hc : ∀ j o, ops[j]? = some o → listed.getD j false = true → ∀ e ∈ o.after, Region.binds .any e = true → listed.getD e.on false = true)
    (hi : i < listed.size) (ho : ops[i]? = some o) (hr : ∀ e ∈ o.after, Region.binds .any e = true → listed.getD e.on false = true) :
    ∀ j o, ops[j]? = some o → (listed.setIfInBounds i true).getD j false = true → ∀ e ∈ o.after, Region.binds .any e = true → (listed.setIfInBounds i true).getD e.on false = true := by
  intro j oj hj hlj e he hb
  have key : listed.getD e.on false = true := by
    by_cases h : i = j
    · subst h
      rw [ho] at hj
      cases hj
      exact hr e he hb
    · rw [getD_set_ne false h] at hlj
      exact hc j oj hj hlj e he hb
  by_cases h2 : i = e.on
  · rw [← h2]; simp [hi]
  · rw [getD_set_ne false h2]; exact key

theorem KeptF.step {a : Act} {listed : Array Bool} {s s' : σ} {w w' : World} {i : Nat} {o : Oper} {v : Value}
    (hf : fine ops a0.tmps.size = true) (h : KeptF ops V a0 listed a s w) (ho : ops[i]? = some o)
    (hi : i < listed.size) (hr : ∀ e ∈ o.after, Region.binds .any e = true → listed.getD e.on false = true) (hst : ∀ j v, listed.getD j false = true → V j v s w → V j v s' w') (hv : V i v s' w') : KeptF ops V a0 (listed.setIfInBounds i true) (a.put o.dst v) s' w' := by
  have hcl := closed_step h.closed hi ho hr
  cases hd : o.dst with
  | none =>
    refine ⟨h.defers, h.size, h.others, fun j oj d hj hdj hlj => ?_, hcl⟩
    have hne : i ≠ j := fun e => by subst e; rw [ho] at hj; cases hj; rw [hd] at hdj; cases hdj
    rw [getD_set_ne false hne] at hlj
    exact hst _ _ hlj (h.done j oj d hj hdj hlj)
  | some di =>
    have hb := fine_dst hf ho hd
    have hsz : di < a.tmps.size := by rw [h.size]; exact hb.1
    refine ⟨h.defers, by simp [Act.put, h.size], fun t ht => ?_, fun j oj d hj hdj hlj => ?_, hcl⟩
    · rw [getD_put t hsz]
      have hne : t ≠ di := fun e => by subst e; rw [own_of ho hd] at ht; cases ht
      rw [if_neg hne]
      exact h.others t ht
    · rw [getD_put d hsz]
      by_cases hji : j = i
      · subst hji
        rw [ho] at hj
        cases hj
        rw [hd] at hdj
        cases hdj
        rw [if_pos rfl]
        exact hv
      · have hne : d ≠ di := fun e => by subst e; exact hji (hb.2 j oj hj hdj)
        rw [if_neg hne]
        rw [getD_set_ne false (fun e => hji e.symm)] at hlj
        exact hst _ _ hlj (h.done j oj d hj hdj hlj)

theorem final {listed : Array Bool} {a : Act} {s : σ} {w : World} (hf : fine ops a0.tmps.size = true) (h : KeptF ops V a0 listed a s w) (hall : ∀ i, i < ops.size → listed.getD i false = true)
    (hfin : ∀ vals : Nat → Value, (∀ i o d, ops[i]? = some o → o.dst = some d → V i (vals i) s w) → Q .normal (putAll vals ops.toList 0 a0) w) : Q .normal a w :=
  Free.final (V := fun i v w => V i v s w) hf ⟨h.defers, h.size, h.others, h.done⟩ hall hfin

theorem upd_listed {listed : Array Bool} {i : Nat} (hi : i < listed.size) : (fun k => (listed.setIfInBounds i true).getD k false) = upd (fun k => listed.getD k false) i := by
  funext k
  by_cases h : k = i
  · subst h
    rw [upd_eq]; simp [hi]
  · rw [upd_ne h, getD_set_ne false (fun e => h e.symm)]

theorem any (hf : fine ops a0.tmps.size = true) (hstep : ∀ i o, ops[i]? = some o → Owed P ops Q V C a0 i o)
    (hfin : ∀ L s w, C L s w → (∀ i, i < ops.size → L i = true) → ∀ vals : Nat → Value, (∀ i o d, ops[i]? = some o → o.dst = some d → V i (vals i) s w) → Q .normal (putAll vals ops.toList 0 a0) w) :
    ∀ (fuel : Nat) (listed : Array Bool) (a : Act) (s : σ) (w : World), listed.size = ops.size → listed.toList.countP (!·) ≤ fuel → KeptF ops V a0 listed a s w → C (fun k => listed.getD k false) s w → wpAny P .any ops Q fuel listed a w
  | 0, listed, a, s, w, hl, hn, hk, hC => by
    have hall : ∀ i, i < ops.size → listed.getD i false = true := fun i hi => by
      have h0 : listed.toList.countP (!·) = 0 := by omega
      rw [List.countP_eq_zero] at h0
      have hi' : i < listed.size := by omega
      have := h0 listed[i] (by simp)
      simpa [hi'] using this
    refine ⟨?_, final hf hk hall (hfin _ s w hC hall)⟩
    apply List.eq_nil_iff_forall_not_mem.2
    intro i hi
    rw [mem_ready] at hi
    obtain ⟨h0, o, ho, _⟩ := hi
    have hlt : i < ops.size := (Array.getElem?_eq_some_iff.1 ho).1
    have h1 := hall i hlt
    have hi' : i < listed.size := by omega
    simp [hi'] at h0 h1
    rw [h0] at h1
    cases h1
  | fuel + 1, listed, a, s, w, hl, hn, hk, hC => by
    refine ⟨fun hr => ?_, fun i hi => ?_⟩
    · have hall := all_listed hf hr hl
      exact final hf hk hall (hfin _ s w hC hall)
    rw [mem_ready] at hi
    obtain ⟨h0, o, ho, hall⟩ := hi
    have hlt : i < ops.size := (Array.getElem?_eq_some_iff.1 ho).1
    have hi' : i < listed.size := by omega
    have hnot : listed.getD i false = false := by
      simp [hi'] at h0 ⊢
      exact h0
    have hcount : (listed.setIfInBounds i true).toList.countP (!·) ≤ fuel := by
      rw [Array.toList_setIfInBounds]
      have := count_set listed.toList i (by simp [hi'] at h0 ⊢; exact h0)
      omega
    have howed := hstep i o ho a (fun k => listed.getD k false) s w hC hnot ⟨fun j hj => Bool.eq_false_iff.2 fun e => by
      have := waits_done (L := fun k => listed.getD k false) hk.closed _ j i hj e
      rw [hnot] at this
      exact absurd this (by decide), fun j hj => by
      cases hsz : ops.size with
      | zero => omega
      | succ f =>
        rw [hsz] at hj
        unfold waits at hj
        simp only [ho] at hj
        obtain ⟨k, hk1, h2⟩ := Array.any_eq_true.1 hj
        simp only [Bool.and_eq_true, Bool.or_eq_true, beq_iff_eq] at h2
        have h3 := hall _ (Array.getElem_mem hk1) h2.1
        rcases h2.2 with h4 | h4
        · rw [← h4]; exact h3
        · exact waits_done (L := fun k => listed.getD k false) hk.closed f _ j h4 h3⟩ hk.others (fun j d hd => by
      unfold dep at hd
      rw [ho] at hd
      cases hj : ops[j]? with
      | none => simp [hj] at hd
      | some oj =>
        simp only [hj, Bool.and_eq_true, beq_iff_eq] at hd
        obtain ⟨hd1, hd2⟩ := hd
        obtain ⟨k, hk1, hk2⟩ := Array.any_eq_true.1 hd2
        simp only [Bool.and_eq_true, beq_iff_eq] at hk2
        have := hall _ (Array.getElem_mem hk1) hk2.2
        rw [hk2.1] at this
        exact hk.done j oj d hj hd1 this)
    rw [← upd_listed hi'] at howed
    unfold wpOp
    simp only [ho]
    split
    · rename_i hw
      rw [if_pos hw] at howed
      refine .inl (Oper.wp_mono (fun a' w' h' => ?_) howed)
      obtain ⟨v, s', rfl, hst, hC', hv⟩ := h'
      exact any hf hstep hfin fuel _ _ s' _ (by simpa using hl) hcount (hk.step hf ho hi' hall hst hv) hC'
    · rename_i hw
      rw [if_neg hw] at howed
      exact any hf hstep hfin fuel _ _ s _ (by simpa using hl) hcount (hk.step hf ho hi' hall (fun j v _ hV => hV) howed.2) howed.1

def Owes (P : Program) (ops : Array Oper) (Q : Exit → Act → World → Prop) (V : Nat → Value → σ → World → Prop) (C : (Nat → Bool) → σ → World → Prop) (a0 : Act) : Nat → List Oper → Prop
  | _, [] => True
  | k, o :: os => Owed P ops Q V C a0 k o ∧ Owes P ops Q V C a0 (k + 1) os

theorem Owes.at : ∀ (l : List Oper) (k : Nat), Owes P ops Q V C a0 k l → ∀ j o, l[j]? = some o → Owed P ops Q V C a0 (k + j) o
  | [], _, _, j, o, h => by simp at h
  | x :: l, k, h, 0, o, ho => by
    simp at ho
    subst ho
    exact h.1
  | x :: l, k, h, j + 1, o, ho => by
    have := Owes.at l (k + 1) h.2 j o (by simpa using ho)
    rw [show k + (j + 1) = k + 1 + j by omega]
    exact this

/-- THE LAW. -/
theorem wp_region {id : Nat} {w : World} {l : List Oper} (V : Nat → Value → σ → World → Prop) (C : (Nat → Bool) → σ → World → Prop) (s0 : σ) (hm : P.follows .mixedOrders = true) (hf : fine l.toArray a0.tmps.size = true)
    (hC : C (fun _ => false) s0 w.drew) (hstep : Owes P l.toArray Q V C a0 0 l)
    (hfin : ∀ L s w, C L s w → (∀ i, i < l.length → L i = true) → ∀ vals : Nat → Value, (∀ i o d, l.toArray[i]? = some o → o.dst = some d → V i (vals i) s w) → Q .normal (putAll vals l 0 a0) w) : (Code.region id l.toArray true).wp P Q a0 w := by
  refine wp_region_any hm (any (V := V) (C := C) hf (fun i o ho => ?_) (fun L s w hC hL => hfin L s w hC (fun i hi => hL i (by simpa using hi))) _ _ _ s0 _ (by simp) ?_ ⟨rfl, rfl, fun _ _ => rfl, fun j o d _ _ h => ?_, fun j o _ h => ?_⟩ ?_)
  · have := Owes.at l 0 hstep i o (by simpa using ho)
    rwa [Nat.zero_add] at this
  · exact Nat.le_trans List.countP_le_length (by simp)
  · exfalso
    simp [Array.getElem?_replicate] at h
    split at h <;> simp_all
  · exfalso
    simp [Array.getElem?_replicate] at h
    split at h <;> simp_all
  · have e : (fun k => (Array.replicate l.toArray.size false).getD k false) = fun _ => false := by
      funext k
      simp [Array.getElem?_replicate]
      split <;> simp
    rw [e]
    exact hC

/-- Operation i is carried out. -/
def Goes (ops : Array Oper) (V : Nat → Value → σ → World → Prop) (i : Nat) (o : Oper) : Prop := ∀ (a : Act) (s : σ) (w : World), (∀ j d, dep ops i j d = true → V j (a.eval (.tmp d)) s w) → Region.wanted o (yielded ops a.tmps) = true
theorem goes_plain {i : Nat} {o : Oper} (hg : o.guard = none) : Goes ops V i o := fun _ _ _ _ => by simp [Region.wanted, hg]
/-- Its guard says yes. -/
theorem goes_guard {i g d : Nat} {o og : Oper} (b : Bool) (hg : o.guard = some (g, b)) (hog : ops[g]? = some og) (hd : og.dst = some d) (hdep : dep ops i g d = true) (hV : ∀ v s w, V g v s w → v = .bool b) : Goes ops V i o := fun a s w h =>
  Free.goes_guard (V := fun i v w => V i v s w) b hg hog hd hdep (fun v w => hV v s w) a w h

/-- It yields a value; memory may turn. -/
theorem value {i : Nat} {o : Oper} (hw : Goes ops V i o)
    (h : ∀ (a : Act) (L : Nat → Bool) (s : σ) (w : World), C L s w → L i = false → Near ops L i → (∀ t, own ops t = false → a.eval (.tmp t) = a0.eval (.tmp t)) → (∀ j d, dep ops i j d = true → V j (a.eval (.tmp d)) s w) →
      ∃ v s' w', (execOp a.eval o).run P w = .ok (.value v) w' ∧ (∀ j u, L j = true → V j u s w → V j u s' w') ∧ C (upd L i) s' w' ∧ V i v s' w') : Owed P ops Q V C a0 i o := by
  intro a L s w hC hL hn hs hd
  rw [if_pos (hw a s w hd)]
  obtain ⟨v, s', w', hr, hst, hC', hv⟩ := h a L s w hC hL hn hs hd
  unfold Oper.wp
  rw [hr]
  exact ⟨v, s', rfl, hst, hC', hv⟩
/-- It writes. -/
theorem store {i : Nat} {o : Oper} (hw : Goes ops V i o)
    (h : ∀ (a : Act) (L : Nat → Bool) (s : σ) (w : World), C L s w → L i = false → Near ops L i → (∀ t, own ops t = false → a.eval (.tmp t) = a0.eval (.tmp t)) → (∀ j d, dep ops i j d = true → V j (a.eval (.tmp d)) s w) →
      ∃ s' w', (execOp a.eval o).run P w = .ok .skip w' ∧ (∀ j u, L j = true → V j u s w → V j u s' w') ∧ C (upd L i) s' w' ∧ V i undef s' w') : Owed P ops Q V C a0 i o := by
  intro a L s w hC hL hn hs hd
  rw [if_pos (hw a s w hd)]
  obtain ⟨s', w', hr, hst, hC', hv⟩ := h a L s w hC hL hn hs hd
  unfold Oper.wp
  rw [hr]
  exact ⟨undef, s', rfl, hst, hC', hv⟩
/-- It yields a value and does nothing else. -/
theorem pure {i : Nat} {o : Oper} (hw : Goes ops V i o) (hCu : ∀ L s w, C L s w → C (upd L i) s w)
    (h : ∀ (a : Act) (L : Nat → Bool) (s : σ) (w : World), C L s w → L i = false → Near ops L i → (∀ t, own ops t = false → a.eval (.tmp t) = a0.eval (.tmp t)) → (∀ j d, dep ops i j d = true → V j (a.eval (.tmp d)) s w) →
      ∃ v, (execOp a.eval o).run P w = .ok (.value v) w ∧ V i v s w) : Owed P ops Q V C a0 i o :=
  value hw fun a L s w hC hL hn hs hd => by
    obtain ⟨v, hr, hv⟩ := h a L s w hC hL hn hs hd
    exact ⟨v, s, w, hr, fun _ _ _ h => h, hCu L s w hC, hv⟩
/-- It hands a slot on. -/
theorem move {i : Nat} {o : Oper} {x : Operand} (hw : Goes ops V i o) (hCu : ∀ L s w, C L s w → C (upd L i) s w) (ho : o.op = .move x ∨ o.op = .assign x)
    (h : ∀ (a : Act) (s : σ) (w : World), (∀ t, own ops t = false → a.eval (.tmp t) = a0.eval (.tmp t)) → (∀ j d, dep ops i j d = true → V j (a.eval (.tmp d)) s w) → V i (a.eval x) s w) : Owed P ops Q V C a0 i o :=
  pure hw hCu fun a _ s w _ _ _ hs hd => ⟨a.eval x, by rcases ho with ho | ho <;> simp [execOp, ho], h a s w hs hd⟩
/-- It calls a function of the program; memory may turn. -/
theorem call {i : Nat} {o : Oper} (hw : Goes ops V i o)
    (h : ∀ (a : Act) (L : Nat → Bool) (s : σ) (w : World), C L s w → L i = false → Near ops L i → (∀ t, own ops t = false → a.eval (.tmp t) = a0.eval (.tmp t)) → (∀ j d, dep ops i j d = true → V j (a.eval (.tmp d)) s w) →
      ∃ f args, (execOp a.eval o).run P w = .ok (.enter f args) w ∧ Calls P f args w fun e w' => ∃ v s', e = .returned v ∧ (∀ j u, L j = true → V j u s w → V j u s' w') ∧ C (upd L i) s' w' ∧ V i v s' w') : Owed P ops Q V C a0 i o := by
  intro a L s w hC hL hn hs hd
  rw [if_pos (hw a s w hd)]
  obtain ⟨f, args, hr, hc⟩ := h a L s w hC hL hn hs hd
  unfold Oper.wp
  rw [hr]
  refine Calls.mono hc fun e w' he => ?_
  obtain ⟨v, s', rfl, hst, hC', hv⟩ := he
  exact ⟨v, s', rfl, hst, hC', hv⟩
/-- Its guard says no. -/
theorem skip {i g d : Nat} {o og : Oper} (b : Bool) (hg : o.guard = some (g, !b)) (hog : ops[g]? = some og) (hd : og.dst = some d) (hdep : dep ops i g d = true) (hV : ∀ v s w, V g v s w → v = .bool b)
    (hCu : ∀ L s w, C L s w → C (upd L i) s w) (hV0 : ∀ s w, V i undef s w) : Owed P ops Q V C a0 i o := by
  intro a L s w hC hL _ hs hdd
  have hv := hV _ _ _ (hdd g d hdep)
  have hv' : a.tmps[d]? = some (.bool b) := by
    simp only [Array.getD_eq_getD_getElem?] at hv
    cases ht : a.tmps[d]? with
    | none => rw [ht] at hv; simp [undef] at hv
    | some x => rw [ht] at hv; simp at hv; rw [hv]
  have hy : yielded ops a.tmps g = some b := by
    unfold yielded
    rw [hog]
    simp [hd, hv']
  have hn : ¬ Region.wanted o (yielded ops a.tmps) = true := by
    simp [Region.wanted, hg, hy]
  rw [if_neg hn]
  exact ⟨hCu L s w hC, hV0 s w⟩
end

/-- What an operation yields: a value, whatever the memory; or something that is said of it. -/
abbrev Yield (σ : Type) := Value ⊕ (Value → σ → World → Prop)
def VF {σ : Type} (f : Nat → Yield σ) : Nat → Value → σ → World → Prop := fun j v s w => match f j with | .inl u => v = u | .inr p => p v s w
/-- Values alone. -/
def VV {σ : Type} (f : Nat → Value) : Nat → Value → σ → World → Prop := fun j v _ _ => v = f j
/-- One operation, p, turns memory: as it is ahead of it, and behind it. -/
def two {σ : Type} (p : Nat) (A B : σ → World → Prop) : (Nat → Bool) → σ → World → Prop := fun L s w => if L p = true then B s w else A s w
theorem two.upd {σ : Type} {p i : Nat} {A B : σ → World → Prop} (h : p ≠ i) : ∀ L s w, two p A B L s w → two p A B (Flow.upd L i) s w := fun L s w hh => by
  unfold two at *
  rw [upd_ne h]
  exact hh
theorem two.pre {σ : Type} {p : Nat} {A B : σ → World → Prop} {L : Nat → Bool} {s : σ} {w : World} (h : two p A B L s w) (hL : L p = false) : A s w := by
  unfold two at h
  rw [hL] at h
  exact h
theorem two.put {σ : Type} {p i : Nat} {A B : σ → World → Prop} {L : Nat → Bool} {s : σ} {w : World} (h : p ≠ i) (hL : L p = false) (hA : A s w) : two p A B (Flow.upd L i) s w := by
  unfold two
  rw [upd_ne h, hL]
  exact hA
theorem two.post {σ : Type} {p : Nat} {A B : σ → World → Prop} {L : Nat → Bool} {s : σ} {w : World} (hB : B s w) : two p A B (Flow.upd L p) s w := by
  unfold two
  rw [upd_eq]
  exact hB
theorem two.end {σ : Type} {p : Nat} {A B : σ → World → Prop} {L : Nat → Bool} {s : σ} {w : World} (h : two p A B L s w) (hL : L p = true) : B s w := by
  unfold two at h
  rw [hL] at h
  exact h
/-- Two of them, p and then q. -/
def three {σ : Type} (p q : Nat) (A B D : σ → World → Prop) : (Nat → Bool) → σ → World → Prop := fun L s w => if L q = true then D s w else if L p = true then B s w else A s w
theorem three.upd {σ : Type} {p q i : Nat} {A B D : σ → World → Prop} (h : p ≠ i) (k : q ≠ i) : ∀ L s w, three p q A B D L s w → three p q A B D (Flow.upd L i) s w := fun L s w hh => by
  unfold three at *
  rw [upd_ne h, upd_ne k]
  exact hh
theorem three.pre {σ : Type} {p q : Nat} {A B D : σ → World → Prop} {L : Nat → Bool} {s : σ} {w : World} (h : three p q A B D L s w) (hL : L p = false) (hq : L q = false) : A s w := by
  unfold three at h
  rw [hL, hq] at h
  exact h
theorem three.mid {σ : Type} {p q : Nat} {A B D : σ → World → Prop} {L : Nat → Bool} {s : σ} {w : World} (h : three p q A B D L s w) (hL : L p = true) (hq : L q = false) : B s w := by
  unfold three at h
  rw [hL, hq] at h
  exact h
theorem three.put {σ : Type} {p q i : Nat} {A B D : σ → World → Prop} {L : Nat → Bool} {s : σ} {w : World} (h : p ≠ i) (k : q ≠ i) (hL : L p = false) (hq : L q = false) (hA : A s w) : three p q A B D (Flow.upd L i) s w := by
  unfold three
  rw [upd_ne h, upd_ne k, hL, hq]
  exact hA
theorem three.first {σ : Type} {p q : Nat} {A B D : σ → World → Prop} {L : Nat → Bool} {s : σ} {w : World} (k : q ≠ p) (hq : L q = false) (hB : B s w) : three p q A B D (Flow.upd L p) s w := by
  unfold three
  rw [upd_ne k, hq, upd_eq]
  exact hB
theorem three.post {σ : Type} {p q : Nat} {A B D : σ → World → Prop} {L : Nat → Bool} {s : σ} {w : World} (hD : D s w) : three p q A B D (Flow.upd L q) s w := by
  unfold three
  rw [upd_eq]
  exact hD
theorem three.end {σ : Type} {p q : Nat} {A B D : σ → World → Prop} {L : Nat → Bool} {s : σ} {w : World} (h : three p q A B D L s w) (hL : L q = true) : D s w := by
  unfold three at h
  rw [hL] at h
  exact h
end Go.Proofs.Ytkcchadecnkgnaa.Flow
