/-
  A region that draws its order, with two calls that each turn memory of their own: each operation by itself, in whatever order. Plain facts over any program.
-/
import Derived.Test.YtpejbpmdfbdphaaFree
namespace Go.Proofs.Ytpejbpmdfbdphaa.Duo
open Go.RowKit Free

section
variable {P : Program} {ops : Array Oper} {Q : Exit → Act → World → Prop} {V : Nat → Value → World → Prop} {R : World → World → Prop} {C : Bool → Bool → World → Prop} {a0 : Act} {p q : Nat}

/-- What is owed for operation i: C says how memory stands, by which of the two operations p and q are done. -/
def Owed (P : Program) (ops : Array Oper) (Q : Exit → Act → World → Prop) (V : Nat → Value → World → Prop) (R : World → World → Prop) (C : Bool → Bool → World → Prop) (p q : Nat) (a0 : Act) (i : Nat) (o : Oper) : Prop :=
  ∀ (a : Act) (listed : Array Bool) (w : World), C (listed.getD p false) (listed.getD q false) w → listed.getD i false = false → i < listed.size →
    (∀ t, own ops t = false → a.tmps.getD t undef = a0.tmps.getD t undef) → (∀ j d, dep ops i j d = true → V j (a.tmps.getD d undef) w) →
    if Region.wanted o (yielded ops a.tmps) = true then o.wp P a w (fun a' w' => ∃ v, a' = a.put o.dst v ∧ R w w' ∧ C ((listed.setIfInBounds i true).getD p false) ((listed.setIfInBounds i true).getD q false) w' ∧ V i v w') Q
    else C ((listed.setIfInBounds i true).getD p false) ((listed.setIfInBounds i true).getD q false) w ∧ V i undef w

theorem any (hf : fine ops a0.tmps.size = true) (hst : ∀ j v w w', V j v w → R w w' → V j v w')
    (hstep : ∀ i o, ops[i]? = some o → Owed P ops Q V R C p q a0 i o) (hp : p < ops.size) (hq : q < ops.size)
    (hfin : ∀ w, C true true w → ∀ vals : Nat → Value, (∀ i o d, ops[i]? = some o → o.dst = some d → V i (vals i) w) → Q .normal (putAll vals ops.toList 0 a0) w) :
    ∀ (fuel : Nat) (listed : Array Bool) (a : Act) (w : World), listed.size = ops.size → listed.toList.countP (!·) ≤ fuel → Kept ops V a0 listed a w → C (listed.getD p false) (listed.getD q false) w → wpAny P .any ops Q fuel listed a w
  | 0, listed, a, w, hl, hn, hk, hC => by
    have hall : ∀ i, i < ops.size → listed.getD i false = true := fun i hi => by
      have h0 : listed.toList.countP (!·) = 0 := by omega
      rw [List.countP_eq_zero] at h0
      have hi' : i < listed.size := by omega
      have := h0 listed[i] (by simp)
      simpa [hi'] using this
    rw [hall p hp, hall q hq] at hC
    refine ⟨?_, final hf hk hall (hfin w hC)⟩
    apply List.eq_nil_iff_forall_not_mem.2
    intro i hi
    rw [mem_ready] at hi
    obtain ⟨h0, o, ho, _⟩ := hi
    have hlt : i < ops.size := (Array.getElem?_eq_some_iff.1 ho).1
    have h1 := hall i hlt
    have hi' : i < listed.size := by omega
    simp [hi'] at h0 h1
    rw [h0] at h1
    cases h1
  | fuel + 1, listed, a, w, hl, hn, hk, hC => by
    refine ⟨fun hr => ?_, fun i hi => ?_⟩
    · have hall := all_listed hf hr hl
      rw [hall p hp, hall q hq] at hC
      exact final hf hk hall (hfin w hC)
    rw [mem_ready] at hi
    obtain ⟨h0, o, ho, hall⟩ := hi
    have hlt : i < ops.size := (Array.getElem?_eq_some_iff.1 ho).1
    have hi' : i < listed.size := by omega
    have hnot : listed.getD i false = false := by
      simp [hi'] at h0 ⊢
      exact h0
    have hcount : (listed.setIfInBounds i true).toList.countP (!·) ≤ fuel := by
      rw [Array.toList_setIfInBounds]
      have := count_set listed.toList i (by simp [hi'] at h0 ⊢; exact h0)
      omega
    have howed := hstep i o ho a listed w hC hnot hi' hk.others (fun j d hd => by
      unfold dep at hd
      rw [ho] at hd
      cases hj : ops[j]? with
      | none => simp [hj] at hd
      | some oj =>
        simp only [hj, Bool.and_eq_true, beq_iff_eq] at hd
        obtain ⟨hd1, hd2⟩ := hd
        obtain ⟨k, hk1, hk2⟩ := Array.any_eq_true.1 hd2
        simp only [Bool.and_eq_true, beq_iff_eq] at hk2
        have := hall _ (Array.getElem_mem hk1) hk2.2
        rw [hk2.1] at this
        exact hk.done j oj d hj hd1 this)
    unfold wpOp
    simp only [ho]
    split
    · rename_i hw
      rw [if_pos hw] at howed
      refine .inl (Oper.wp_mono (fun a' w' h' => ?_) howed)
      obtain ⟨v, rfl, hb, hC', hv⟩ := h'
      exact any hf hst hstep hp hq hfin fuel _ _ _ (by simpa using hl) hcount (hk.step hf ho (fun j v hV => hst j v w w' hV hb) hv) hC'
    · rename_i hw
      rw [if_neg hw] at howed
      exact any hf hst hstep hp hq hfin fuel _ _ _ (by simpa using hl) hcount (hk.step hf ho (fun j v hV => hV) howed.2) howed.1

def Owes (P : Program) (ops : Array Oper) (Q : Exit → Act → World → Prop) (V : Nat → Value → World → Prop) (R : World → World → Prop) (C : Bool → Bool → World → Prop) (p q : Nat) (a0 : Act) : Nat → List Oper → Prop
  | _, [] => True
  | k, o :: os => Owed P ops Q V R C p q a0 k o ∧ Owes P ops Q V R C p q a0 (k + 1) os

theorem Owes.at : ∀ (l : List Oper) (k : Nat), Owes P ops Q V R C p q a0 k l → ∀ j o, l[j]? = some o → Owed P ops Q V R C p q a0 (k + j) o
  | [], _, _, j, o, h => by simp at h
  | x :: l, k, h, 0, o, ho => by
    simp at ho
    subst ho
    exact h.1
  | x :: l, k, h, j + 1, o, ho => by
    have := Owes.at l (k + 1) h.2 j o (by simpa using ho)
    rw [show k + (j + 1) = k + 1 + j by omega]
    exact this

/-- THE LAW. -/
theorem wp_region {id : Nat} {w : World} {l : List Oper} (p q : Nat) (V : Nat → Value → World → Prop) (R : World → World → Prop) (C : Bool → Bool → World → Prop) (hm : P.follows .mixedOrders = true) (hf : fine l.toArray a0.tmps.size = true)
    (hp : p < l.length) (hq : q < l.length) (hst : ∀ j v w w', V j v w → R w w' → V j v w') (hC : C false false w.drew) (hstep : Owes P l.toArray Q V R C p q a0 0 l)
    (hfin : ∀ w, C true true w → ∀ vals : Nat → Value, (∀ i o d, l.toArray[i]? = some o → o.dst = some d → V i (vals i) w) → Q .normal (putAll vals l 0 a0) w) : (Code.region id l.toArray true).wp P Q a0 w := by
  refine wp_region_any hm (any (V := V) (R := R) (C := C) (p := p) (q := q) hf hst (fun i o ho => ?_) (by simpa using hp) (by simpa using hq) hfin _ _ _ _ (by simp) ?_ ⟨rfl, rfl, fun _ _ => rfl, fun j o d _ _ h => ?_⟩ ?_)
  · have := Owes.at l 0 hstep i o (by simpa using ho)
    rwa [Nat.zero_add] at this
  · exact Nat.le_trans List.countP_le_length (by simp)
  · exfalso
    simp [Array.getElem?_replicate] at h
    split at h <;> simp_all
  · have e : ∀ k, (Array.replicate l.toArray.size false).getD k false = false := fun k => by
      simp [Array.getElem?_replicate]
      split <;> simp
    rw [e, e]
    exact hC

/-- It yields a value and does nothing else. -/
theorem pure {i : Nat} {o : Oper} (hip : i ≠ p) (hiq : i ≠ q) (hR : ∀ w, R w w) (hw : Goes ops V i o)
    (h : ∀ (a : Act) (x y : Bool) (w : World), C x y w → (∀ t, own ops t = false → a.eval (.tmp t) = a0.eval (.tmp t)) → (∀ j d, dep ops i j d = true → V j (a.eval (.tmp d)) w) →
      ∃ v, (execOp a.eval o).run P w = .ok (.value v) w ∧ V i v w) : Owed P ops Q V R C p q a0 i o := by
  intro a listed w hC _ _ hs hd
  rw [if_pos (hw a w hd)]
  obtain ⟨v, hr, hv⟩ := h a _ _ w hC hs hd
  unfold Oper.wp
  rw [hr, getD_set_ne false hip, getD_set_ne false hiq]
  exact ⟨v, rfl, hR w, hC, hv⟩

/-- It hands a slot on. -/
theorem move {i : Nat} {o : Oper} {x : Operand} (hip : i ≠ p) (hiq : i ≠ q) (hR : ∀ w, R w w) (hw : Goes ops V i o) (ho : o.op = .move x ∨ o.op = .assign x)
    (h : ∀ (a : Act) (w : World), (∀ t, own ops t = false → a.eval (.tmp t) = a0.eval (.tmp t)) → (∀ j d, dep ops i j d = true → V j (a.eval (.tmp d)) w) → V i (a.eval x) w) : Owed P ops Q V R C p q a0 i o :=
  pure hip hiq hR hw fun a _ _ w _ hs hd => ⟨a.eval x, by rcases ho with ho | ho <;> simp [execOp, ho], h a w hs hd⟩

/-- The first call. -/
theorem first {o : Oper} (hne : p ≠ q) (hw : Goes ops V p o)
    (h : ∀ (a : Act) (y : Bool) (w : World), C false y w → (∀ t, own ops t = false → a.eval (.tmp t) = a0.eval (.tmp t)) → (∀ j d, dep ops p j d = true → V j (a.eval (.tmp d)) w) →
      ∃ f args, (execOp a.eval o).run P w = .ok (.enter f args) w ∧ Calls P f args w fun e w' => ∃ v, e = .returned v ∧ R w w' ∧ C true y w' ∧ V p v w') : Owed P ops Q V R C p q a0 p o := by
  intro a listed w hC hnot hlt hs hd
  rw [if_pos (hw a w hd)]
  rw [hnot] at hC
  obtain ⟨f, args, hr, hc⟩ := h a _ w hC hs hd
  unfold Oper.wp
  rw [hr]
  refine Calls.mono hc fun e w' he => ?_
  obtain ⟨v, rfl, hb, hC', hv⟩ := he
  rw [getD_set_ne false hne]
  refine ⟨v, rfl, hb, ?_, hv⟩
  have : (listed.setIfInBounds p true).getD p false = true := by simp [hlt]
  rw [this]
  exact hC'

/-- The second call. -/
theorem second {o : Oper} (hne : p ≠ q) (hw : Goes ops V q o)
    (h : ∀ (a : Act) (x : Bool) (w : World), C x false w → (∀ t, own ops t = false → a.eval (.tmp t) = a0.eval (.tmp t)) → (∀ j d, dep ops q j d = true → V j (a.eval (.tmp d)) w) →
      ∃ f args, (execOp a.eval o).run P w = .ok (.enter f args) w ∧ Calls P f args w fun e w' => ∃ v, e = .returned v ∧ R w w' ∧ C x true w' ∧ V q v w') : Owed P ops Q V R C p q a0 q o := by
  intro a listed w hC hnot hlt hs hd
  rw [if_pos (hw a w hd)]
  rw [hnot] at hC
  obtain ⟨f, args, hr, hc⟩ := h a _ w hC hs hd
  unfold Oper.wp
  rw [hr]
  refine Calls.mono hc fun e w' he => ?_
  obtain ⟨v, rfl, hb, hC', hv⟩ := he
  rw [getD_set_ne false (Ne.symm hne)]
  refine ⟨v, rfl, hb, ?_, hv⟩
  have : (listed.setIfInBounds q true).getD q false = true := by simp [hlt]
  rw [this]
  exact hC'
end
end Go.Proofs.Ytpejbpmdfbdphaa.Duo
