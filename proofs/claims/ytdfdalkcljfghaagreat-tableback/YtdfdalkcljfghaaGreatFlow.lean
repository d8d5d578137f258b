/-
  A region that draws its order, whose operations only make memory or read it: each operation by itself, in whatever order. Plain facts over any program. A region that draws its order, in which operations may turn memory: each operation by itself, in whatever order; what memory is like hangs on which of them are done, and on a thing of the prover's that each may turn. Plain facts over any program.
-/
import Derived.WalkKit
namespace Go.Proofs.YtdfdalkcljfghaaGreat.Free
open Go.RowKit

/-- The region writes slot t. -/
def own (ops : Array Oper) (t : Nat) : Bool := ops.any fun o => o.dst == some t

/-- Operation i waits for operation j, whose slot is d. -/
def dep (ops : Array Oper) (i j d : Nat) : Bool :=
  match ops[i]?, ops[j]? with
  | some o, some oj => oj.dst == some d && o.after.any (fun e => e.on == j && Region.binds .any e)
  | _, _ => false

/-- No two write one slot; each slot is there; whom one waits for stands ahead of it in the text. -/
def fine (ops : Array Oper) (size : Nat) : Bool :=
  (List.range ops.size).all fun i => match ops[i]? with
    | some o => (match o.dst with
        | some d => decide (d < size) && (List.range ops.size).all fun j => j == i || ((ops[j]?).bind (·.dst)) != some d
        | none => true) && o.after.all fun e => !Region.binds .any e || decide (e.on < i)
    | none => true

theorem fine_dst {ops : Array Oper} {size : Nat} (h : fine ops size = true) {i d : Nat} {o : Oper} (ho : ops[i]? = some o) (hd : o.dst = some d) :
    d < size ∧ ∀ j oj, ops[j]? = some oj → oj.dst = some d → j = i := by
  have hi : i < ops.size := (Array.getElem?_eq_some_iff.1 ho).1
  have h1 := List.all_eq_true.1 h i (List.mem_range.2 hi)
  simp only [ho, hd, Bool.and_eq_true, decide_eq_true_eq] at h1
  refine ⟨h1.1.1, fun j oj hj hdj => ?_⟩
  have hj' : j < ops.size := (Array.getElem?_eq_some_iff.1 hj).1
  have h2 := List.all_eq_true.1 h1.1.2 j (List.mem_range.2 hj')
  simp only [hj, Option.bind_some, hdj, Bool.or_eq_true, beq_iff_eq, bne_self_eq_false, Bool.false_eq_true, or_false] at h2
  exact h2

theorem fine_after {ops : Array Oper} {size : Nat} (h : fine ops size = true) {i : Nat} {o : Oper} (ho : ops[i]? = some o) {e : Edge} (he : e ∈ o.after) (hb : Region.binds .any e = true) : e.on < i := by
  have hi : i < ops.size := (Array.getElem?_eq_some_iff.1 ho).1
  have h1 := List.all_eq_true.1 h i (List.mem_range.2 hi)
  simp only [ho, Bool.and_eq_true] at h1
  have h2 := Array.all_eq_true_iff_forall_mem.1 h1.2 e he
  simpa [hb] using h2

/-- What is known of the slots in the midst of the region. -/
structure Kept (ops : Array Oper) (V : Nat → Value → World → Prop) (a0 : Act) (listed : Array Bool) (a : Act) (w : World) : Prop where
  defers : a.defers = a0.defers
  size : a.tmps.size = a0.tmps.size
  others : ∀ t, own ops t = false → a.tmps.getD t undef = a0.tmps.getD t undef
  done : ∀ (j : Nat) (o : Oper) (d : Nat), ops[j]? = some o → o.dst = some d → listed.getD j false = true → V j (a.tmps.getD d undef) w

theorem own_of {ops : Array Oper} {i d : Nat} {o : Oper} (ho : ops[i]? = some o) (hd : o.dst = some d) : own ops d = true := by
  unfold own
  obtain ⟨hi, rfl⟩ := Array.getElem?_eq_some_iff.1 ho
  exact Array.any_eq_true.2 ⟨i, hi, by simp [hd]⟩

theorem getD_put {a : Act} {d : Nat} {v : Value} (t : Nat) (hd : d < a.tmps.size) : (a.put (some d) v).tmps.getD t undef = if t = d then v else a.tmps.getD t undef := by
  simp only [Act.put, Array.getD_eq_getD_getElem?]
  by_cases h : d = t
  · subst h; simp [hd]
  · rw [Array.getElem?_setIfInBounds_ne h, if_neg (fun e => h e.symm)]

theorem Kept.step {ops : Array Oper} {V : Nat → Value → World → Prop} {a0 a : Act} {listed : Array Bool} {w w' : World} {i : Nat} {o : Oper} {v : Value}
    (hf : fine ops a0.tmps.size = true) (h : Kept ops V a0 listed a w) (ho : ops[i]? = some o)
    (hst : ∀ j v, V j v w → V j v w') (hv : V i v w') : Kept ops V a0 (listed.setIfInBounds i true) (a.put o.dst v) w' := by
  have hi : i < ops.size := (Array.getElem?_eq_some_iff.1 ho).1
  cases hd : o.dst with
  | none =>
    refine ⟨h.defers, h.size, h.others, fun j oj d hj hdj hlj => ?_⟩
    have hne : i ≠ j := fun e => by subst e; rw [ho] at hj; cases hj; rw [hd] at hdj; cases hdj
    rw [getD_set_ne false hne] at hlj
    exact hst _ _ (h.done j oj d hj hdj hlj)
  | some di =>
    have hb := fine_dst hf ho hd
    have hsz : di < a.tmps.size := by rw [h.size]; exact hb.1
    refine ⟨h.defers, by simp [Act.put, h.size], fun t ht => ?_, fun j oj d hj hdj hlj => ?_⟩
    · rw [getD_put t hsz]
      have hne : t ≠ di := fun e => by subst e; rw [own_of ho hd] at ht; cases ht
      rw [if_neg hne]
      exact h.others t ht
    · rw [getD_put d hsz]
      by_cases hji : j = i
      · subst hji
        rw [ho] at hj
        cases hj
        rw [hd] at hdj
        cases hdj
        rw [if_pos rfl]
        exact hv
      · have hne : d ≠ di := fun e => by subst e; exact hji (hb.2 j oj hj hdj)
        rw [if_neg hne]
        rw [getD_set_ne false (fun e => hji e.symm)] at hlj
        exact hst _ _ (h.done j oj d hj hdj hlj)

/-- All values laid into their slots. -/
def putAll (vals : Nat → Value) : List Oper → Nat → Act → Act
  | [], _, a => a
  | o :: os, k, a => putAll vals os (k + 1) (a.put o.dst (vals k))

theorem put_defers (a : Act) (d : Option Tmp) (v : Value) : (a.put d v).defers = a.defers := by cases d <;> rfl
theorem put_size (a : Act) (d : Option Tmp) (v : Value) : (a.put d v).tmps.size = a.tmps.size := by cases d <;> simp [Act.put]

theorem putAll_spec (vals : Nat → Value) (f : Nat → Value) : ∀ (os : List Oper) (k : Nat) (a : Act), (∀ j o d, os[j]? = some o → o.dst = some d → d < a.tmps.size ∧ vals (k + j) = f d) →
    (putAll vals os k a).defers = a.defers ∧ (putAll vals os k a).tmps.size = a.tmps.size ∧
    ∀ t, (putAll vals os k a).tmps.getD t undef = if os.any (fun o => o.dst == some t) then f t else a.tmps.getD t undef
  | [], _, _, _ => ⟨rfl, rfl, fun _ => rfl⟩
  | o :: os, k, a, h => by
    have ih := putAll_spec vals f os (k + 1) (a.put o.dst (vals k)) (fun j oj d hj hd => by
      have := h (j + 1) oj d (by simpa using hj) hd
      rw [put_size]
      exact ⟨this.1, by rw [← this.2]; congr 1; omega⟩)
    obtain ⟨i1, i2, i3⟩ := ih
    refine ⟨by rw [putAll, i1, put_defers], by rw [putAll, i2, put_size], fun t => ?_⟩
    rw [putAll, i3]
    rw [List.any_cons]
    cases hd : o.dst with
    | none => rfl
    | some d =>
      have h0 := h 0 o d (by simp) hd
      rw [getD_put t h0.1]
      by_cases ht : t = d
      · subst ht
        simp
        intro _
        exact h0.2
      · have hne : (some d == some t) = false := by simp; exact fun e => ht e.symm
        rw [hne, Bool.false_or, if_neg ht]

theorem act_ext {a b : Act} (h1 : a.defers = b.defers) (h2 : a.tmps.size = b.tmps.size) (h3 : ∀ t, a.tmps.getD t undef = b.tmps.getD t undef) : a = b := by
  cases a with
  | mk ta da =>
    cases b with
    | mk tb db =>
      simp only at h1 h2 h3
      subst h1
      congr 1
      apply Array.ext h2
      intro t ha hb
      have := h3 t
      simpa [ha, hb] using this

theorem count_set : ∀ (l : List Bool) (i : Nat), l[i]? = some false → (l.set i true).countP (!·) + 1 = l.countP (!·)
  | [], i, h => by simp at h
  | b :: l, 0, h => by
    simp at h
    subst h
    simp
  | b :: l, i + 1, h => by
    have := count_set l i (by simpa using h)
    rw [List.set_cons_succ, List.countP_cons, List.countP_cons]
    omega

section
variable {P : Program} {ops : Array Oper} {Q : Exit → Act → World → Prop} {V : Nat → Value → World → Prop} {C : World → Prop} {a0 : Act}

/-- What is owed for operation i. -/
def Owed (P : Program) (ops pre : Array Oper) (Q : Exit → Act → World → Prop) (V : Nat → Value → World → Prop) (C : World → Prop) (a0 : Act) (i : Nat) (o : Oper) : Prop :=
  ∀ (a : Act) (w : World), C w → (∀ t, own pre t = false → a.tmps.getD t undef = a0.tmps.getD t undef) → (∀ j d, dep ops i j d = true → V j (a.tmps.getD d undef) w) →
    if Region.wanted o (yielded ops a.tmps) = true then o.wp P a w (fun a' w' => ∃ v, a' = a.put o.dst v ∧ Below w.heap.size w w' ∧ C w' ∧ V i v w') Q else V i undef w

theorem all_listed {listed : Array Bool} {size : Nat} (hf : fine ops size = true) (hr : Region.ready .any ops listed = []) (hl : listed.size = ops.size) : ∀ i, i < ops.size → listed.getD i false = true := by
  intro i
  induction i using Nat.strongRecOn with
  | _ i ih =>
    intro hi
    cases hli : listed.getD i false with
    | true => rfl
    | false =>
      exfalso
      have hm : i ∈ Region.ready .any ops listed := by
        rw [mem_ready]
        refine ⟨?_, ops[i], Array.getElem?_eq_getElem hi, fun e he hb => ?_⟩
        · simpa [hl, hi] using hli
        · have hlt := fine_after hf (Array.getElem?_eq_getElem hi) he hb
          exact ih e.on hlt (by omega)
      rw [hr] at hm
      cases hm

theorem final {listed : Array Bool} {a : Act} {w : World} (hf : fine ops a0.tmps.size = true) (h : Kept ops V a0 listed a w) (hall : ∀ i, i < ops.size → listed.getD i false = true)
    (hfin : ∀ vals : Nat → Value, (∀ i o d, ops[i]? = some o → o.dst = some d → V i (vals i) w) → Q .normal (putAll vals ops.toList 0 a0) w) : Q .normal a w := by
  have he : putAll (fun i => match (ops[i]?).bind (·.dst) with | some d => a.tmps.getD d undef | none => undef) ops.toList 0 a0 = a := by
    have hs := putAll_spec (fun i => match (ops[i]?).bind (·.dst) with | some d => a.tmps.getD d undef | none => undef) (fun d => a.tmps.getD d undef) ops.toList 0 a0 (fun j o d hj hd => by
      have hj' : ops[j]? = some o := by rw [← Array.getElem?_toList]; exact hj
      refine ⟨(fine_dst hf hj' hd).1, ?_⟩
      simp [hj', hd])
    refine act_ext (hs.1.trans h.defers.symm) (hs.2.1.trans h.size.symm) fun t => ?_
    rw [hs.2.2 t]
    split
    · rfl
    · rename_i hn
      refine (h.others t ?_).symm
      unfold own
      rw [← Array.any_toList]
      simpa using hn
  rw [← he]
  apply hfin
  intro i o d ho hd
  have hi : i < ops.size := (Array.getElem?_eq_some_iff.1 ho).1
  have := h.done i o d ho hd (hall i hi)
  simpa [ho, hd] using this

theorem free_any (hf : fine ops a0.tmps.size = true) (hst : ∀ j v w w', V j v w → Below w.heap.size w w' → V j v w')
    (hstep : ∀ i o, ops[i]? = some o → Owed P ops ops Q V C a0 i o)
    (hfin : ∀ w, C w → ∀ vals : Nat → Value, (∀ i o d, ops[i]? = some o → o.dst = some d → V i (vals i) w) → Q .normal (putAll vals ops.toList 0 a0) w) :
    ∀ (fuel : Nat) (listed : Array Bool) (a : Act) (w : World), listed.size = ops.size → listed.toList.countP (!·) ≤ fuel → Kept ops V a0 listed a w → C w → wpAny P .any ops Q fuel listed a w
  | 0, listed, a, w, hl, hn, hk, hC => by
    have hall : ∀ i, i < ops.size → listed.getD i false = true := fun i hi => by
      have h0 : listed.toList.countP (!·) = 0 := by omega
      rw [List.countP_eq_zero] at h0
      have hi' : i < listed.size := by omega
      have := h0 listed[i] (by simp)
      simpa [hi'] using this
    refine ⟨?_, final hf hk hall (hfin w hC)⟩
    apply List.eq_nil_iff_forall_not_mem.2
    intro i hi
    rw [mem_ready] at hi
    obtain ⟨h0, o, ho, _⟩ := hi
    have hlt : i < ops.size := (Array.getElem?_eq_some_iff.1 ho).1
    have h1 := hall i hlt
    have hi' : i < listed.size := by omega
    simp [hi'] at h0 h1
    rw [h0] at h1
    cases h1
  | fuel + 1, listed, a, w, hl, hn, hk, hC => by
    refine ⟨fun hr => final hf hk (all_listed hf hr hl) (hfin w hC), fun i hi => ?_⟩
    rw [mem_ready] at hi
    obtain ⟨h0, o, ho, hall⟩ := hi
    have hlt : i < ops.size := (Array.getElem?_eq_some_iff.1 ho).1
    have hi' : i < listed.size := by omega
    have hcount : (listed.setIfInBounds i true).toList.countP (!·) ≤ fuel := by
      rw [Array.toList_setIfInBounds]
      have := count_set listed.toList i (by simp [hi'] at h0 ⊢; exact h0)
      omega
    have howed := hstep i o ho a w hC hk.others (fun j d hd => by
      unfold dep at hd
      rw [ho] at hd
      cases hj : ops[j]? with
      | none => simp [hj] at hd
      | some oj =>
        simp only [hj, Bool.and_eq_true, beq_iff_eq] at hd
        obtain ⟨hd1, hd2⟩ := hd
        obtain ⟨k, hk1, hk2⟩ := Array.any_eq_true.1 hd2
        simp only [Bool.and_eq_true, beq_iff_eq] at hk2
        have := hall _ (Array.getElem_mem hk1) hk2.2
        rw [hk2.1] at this
        exact hk.done j oj d hj hd1 this)
    unfold wpOp
    simp only [ho]
    split
    · rename_i hw
      rw [if_pos hw] at howed
      refine .inl (Oper.wp_mono (fun a' w' h' => ?_) howed)
      obtain ⟨v, rfl, hb, hC', hv⟩ := h'
      exact free_any hf hst hstep hfin fuel _ _ _ (by simpa using hl) hcount (hk.step hf ho (fun j v hV => hst j v w w' hV hb) hv) hC'
    · rename_i hw
      rw [if_neg hw] at howed
      exact free_any hf hst hstep hfin fuel _ _ _ (by simpa using hl) hcount (hk.step hf ho (fun j v hV => hV) howed) hC

/-- The law: a region that draws its order, each operation by itself. -/
theorem wp_region_free {id : Nat} {w : World} (V : Nat → Value → World → Prop) (C : World → Prop) (hm : P.follows .mixedOrders = true) (hf : fine ops a0.tmps.size = true)
    (hst : ∀ j v w w', V j v w → Below w.heap.size w w' → V j v w') (hC : C w.drew) (hstep : ∀ i o, ops[i]? = some o → Owed P ops ops Q V C a0 i o)
    (hfin : ∀ w, C w → ∀ vals : Nat → Value, (∀ i o d, ops[i]? = some o → o.dst = some d → V i (vals i) w) → Q .normal (putAll vals ops.toList 0 a0) w) : (Code.region id ops true).wp P Q a0 w := by
  refine wp_region_any hm (free_any hf hst hstep hfin _ _ _ _ (by simp) ?_ ⟨rfl, rfl, fun _ _ => rfl, fun j o d _ _ h => ?_⟩ hC)
  · exact Nat.le_trans List.countP_le_length (by simp)
  · exfalso
    simp [Array.getElem?_replicate] at h
    split at h <;> simp_all

/-- What is owed for each operation of a row. -/
def Owes (P : Program) (ops pre : Array Oper) (Q : Exit → Act → World → Prop) (V : Nat → Value → World → Prop) (C : World → Prop) (a0 : Act) : Nat → List Oper → Prop
  | _, [] => True
  | k, o :: os => Owed P ops pre Q V C a0 k o ∧ Owes P ops pre Q V C a0 (k + 1) os

theorem Owes.at {pre : Array Oper} : ∀ (l : List Oper) (k : Nat), Owes P ops pre Q V C a0 k l → ∀ j o, l[j]? = some o → Owed P ops pre Q V C a0 (k + j) o
  | [], _, _, j, o, h => by simp at h
  | x :: l, k, h, 0, o, ho => by
    simp at ho
    subst ho
    exact h.1
  | x :: l, k, h, j + 1, o, ho => by
    have := Owes.at l (k + 1) h.2 j o (by simpa using ho)
    rw [show k + (j + 1) = k + 1 + j by omega]
    exact this

theorem wp_region_owes {id : Nat} {w : World} {l : List Oper} (V : Nat → Value → World → Prop) (C : World → Prop) (hm : P.follows .mixedOrders = true) (hf : fine l.toArray a0.tmps.size = true)
    (hst : ∀ j v w w', V j v w → Below w.heap.size w w' → V j v w') (hC : C w.drew) (hstep : Owes P l.toArray l.toArray Q V C a0 0 l)
    (hfin : ∀ w, C w → ∀ vals : Nat → Value, (∀ i o d, l.toArray[i]? = some o → o.dst = some d → V i (vals i) w) → Q .normal (putAll vals l 0 a0) w) : (Code.region id l.toArray true).wp P Q a0 w :=
  wp_region_free V C hm hf hst hC (fun i o ho => by
    have := Owes.at l 0 hstep i o (by simpa using ho)
    rwa [Nat.zero_add] at this) hfin

/-- Operation i is carried out. -/
def Goes (ops : Array Oper) (V : Nat → Value → World → Prop) (i : Nat) (o : Oper) : Prop := ∀ (a : Act) (w : World), (∀ j d, dep ops i j d = true → V j (a.eval (.tmp d)) w) → Region.wanted o (yielded ops a.tmps) = true

theorem goes_plain {i : Nat} {o : Oper} (hg : o.guard = none) : Goes ops V i o := fun _ _ _ => by simp [Region.wanted, hg]

/-- Its guard says yes. -/
theorem goes_guard {i g d : Nat} {o og : Oper} (b : Bool) (hg : o.guard = some (g, b)) (hog : ops[g]? = some og) (hd : og.dst = some d) (hdep : dep ops i g d = true) (hV : ∀ v w, V g v w → v = .bool b) : Goes ops V i o := fun a w h => by
  have hv := hV _ _ (h g d hdep)
  have hv' : a.tmps[d]? = some (.bool b) := by
    simp only [Act.eval, Array.getD_eq_getD_getElem?] at hv
    cases ht : a.tmps[d]? with
    | none => rw [ht] at hv; simp [undef] at hv
    | some x => rw [ht] at hv; simp at hv; rw [hv]
  have hy : yielded ops a.tmps g = some b := by
    unfold yielded
    rw [hog]
    simp [hd, hv']
  simp [Region.wanted, hg, hy]

/-- It yields a value and may have made memory. -/
theorem owed_value {pre : Array Oper} {i : Nat} {o : Oper} (hw : Goes ops V i o)
    (h : ∀ (a : Act) (w : World), C w → (∀ t, own pre t = false → a.eval (.tmp t) = a0.eval (.tmp t)) → (∀ j d, dep ops i j d = true → V j (a.eval (.tmp d)) w) →
      ∃ v w', (execOp a.eval o).run P w = .ok (.value v) w' ∧ Below w.heap.size w w' ∧ C w' ∧ V i v w') : Owed P ops pre Q V C a0 i o := by
  intro a w hC hs hd
  rw [if_pos (hw a w hd)]
  obtain ⟨v, w', hr, hb, hC', hv⟩ := h a w hC hs hd
  unfold Oper.wp
  rw [hr]
  exact ⟨v, rfl, hb, hC', hv⟩

/-- It yields a value and does nothing else. -/
theorem owed_pure {pre : Array Oper} {i : Nat} {o : Oper} (hw : Goes ops V i o)
    (h : ∀ (a : Act) (w : World), C w → (∀ t, own pre t = false → a.eval (.tmp t) = a0.eval (.tmp t)) → (∀ j d, dep ops i j d = true → V j (a.eval (.tmp d)) w) →
      ∃ v, (execOp a.eval o).run P w = .ok (.value v) w ∧ V i v w) : Owed P ops pre Q V C a0 i o :=
  owed_value hw fun a w hC hs hd => by
    obtain ⟨v, hr, hv⟩ := h a w hC hs hd
    exact ⟨v, w, hr, Below.refl _ _, hC, hv⟩

/-- It hands a slot on. -/
theorem owed_move {pre : Array Oper} {i : Nat} {o : Oper} {x : Operand} (hw : Goes ops V i o) (ho : o.op = .move x ∨ o.op = .assign x)
    (h : ∀ (a : Act) (w : World), C w → (∀ t, own pre t = false → a.eval (.tmp t) = a0.eval (.tmp t)) → (∀ j d, dep ops i j d = true → V j (a.eval (.tmp d)) w) → V i (a.eval x) w) : Owed P ops pre Q V C a0 i o :=
  owed_pure hw fun a w hC hs hd => ⟨a.eval x, by rcases ho with ho | ho <;> simp [execOp, ho], h a w hC hs hd⟩

/-- It calls a function of the program. -/
theorem owed_call {pre : Array Oper} {i : Nat} {o : Oper} (hw : Goes ops V i o)
    (h : ∀ (a : Act) (w : World), C w → (∀ t, own pre t = false → a.eval (.tmp t) = a0.eval (.tmp t)) → (∀ j d, dep ops i j d = true → V j (a.eval (.tmp d)) w) →
      ∃ f args, (execOp a.eval o).run P w = .ok (.enter f args) w ∧ Calls P f args w fun e w' => ∃ v, e = .returned v ∧ Below w.heap.size w w' ∧ C w' ∧ V i v w') : Owed P ops pre Q V C a0 i o := by
  intro a w hC hs hd
  rw [if_pos (hw a w hd)]
  obtain ⟨f, args, hr, hc⟩ := h a w hC hs hd
  unfold Oper.wp
  rw [hr]
  refine Calls.mono hc fun e w' he => ?_
  obtain ⟨v, rfl, hb, hC', hv⟩ := he
  exact ⟨v, rfl, hb, hC', hv⟩
end

end Go.Proofs.YtdfdalkcljfghaaGreat.Free

namespace Go.Proofs.YtdfdalkcljfghaaGreat.Flow
open Go.RowKit Free

/-- Which are done, and i. -/
def upd (L : Nat → Bool) (i : Nat) : Nat → Bool := fun j => if j = i then true else L j
theorem upd_ne {L : Nat → Bool} {i j : Nat} (h : j ≠ i) : upd L i j = L j := by simp [upd, h]
theorem upd_eq {L : Nat → Bool} {i : Nat} : upd L i i = true := by simp [upd]

/-- Operation j waits for operation i, by however many between. -/
def waits (ops : Array Oper) : Nat → Nat → Nat → Bool
  | 0, _, _ => false
  | f + 1, j, i => match ops[j]? with
    | some o => o.after.any fun e => Region.binds .any e && (e.on == i || waits ops f e.on i)
    | none => false
theorem waits_done {ops : Array Oper} {L : Nat → Bool} (hc : ∀ j o, ops[j]? = some o → L j = true → ∀ e ∈ o.after, Region.binds .any e = true → L e.on = true) : ∀ (f j i : Nat), waits ops f j i = true → L j = true → L i = true
  | 0, _, _, h, _ => by simp [waits] at h
  | f + 1, j, i, h, hj => by
    unfold waits at h
    cases ho : ops[j]? with
    | none => simp [ho] at h
    | some o =>
      simp only [ho] at h
      obtain ⟨k, hk, h2⟩ := Array.any_eq_true.1 h
      simp only [Bool.and_eq_true, Bool.or_eq_true, beq_iff_eq] at h2
      have h3 := hc j o ho hj _ (Array.getElem_mem hk) h2.1
      rcases h2.2 with h4 | h4
      · rw [← h4]; exact h3
      · exact waits_done hc f _ i h4 h3

/-- When i comes up, none that waits for it is done, and all that it waits for are. -/
structure Near (ops : Array Oper) (L : Nat → Bool) (i : Nat) : Prop where
  after : ∀ j, waits ops ops.size j i = true → L j = false
  done : ∀ j, waits ops ops.size i j = true → L j = true

section
variable {σ : Type} {P : Program} {ops : Array Oper} {Q : Exit → Act → World → Prop} {V : Nat → Value → σ → World → Prop} {C : (Nat → Bool) → σ → World → Prop} {a0 : Act}

/-- What is owed for operation i. -/
def Owed (P : Program) (ops : Array Oper) (Q : Exit → Act → World → Prop) (V : Nat → Value → σ → World → Prop) (C : (Nat → Bool) → σ → World → Prop) (a0 : Act) (i : Nat) (o : Oper) : Prop :=
  ∀ (a : Act) (L : Nat → Bool) (s : σ) (w : World), C L s w → L i = false → Near ops L i →
    (∀ t, own ops t = false → a.tmps.getD t undef = a0.tmps.getD t undef) → (∀ j d, dep ops i j d = true → V j (a.tmps.getD d undef) s w) →
    if Region.wanted o (yielded ops a.tmps) = true then o.wp P a w (fun a' w' => ∃ v s', a' = a.put o.dst v ∧ (∀ j u, L j = true → V j u s w → V j u s' w') ∧ C (upd L i) s' w' ∧ V i v s' w') Q
    else C (upd L i) s w ∧ V i undef s w

/-- What is known of the slots in the midst of the region. -/
structure KeptF (ops : Array Oper) (V : Nat → Value → σ → World → Prop) (a0 : Act) (listed : Array Bool) (a : Act) (s : σ) (w : World) : Prop where
  defers : a.defers = a0.defers
  size : a.tmps.size = a0.tmps.size
  others : ∀ t, own ops t = false → a.tmps.getD t undef = a0.tmps.getD t undef
  done : ∀ (j : Nat) (o : Oper) (d : Nat), ops[j]? = some o → o.dst = some d → listed.getD j false = true → V j (a.tmps.getD d undef) s w
  closed : ∀ j o, ops[j]? = some o → listed.getD j false = true → ∀ e ∈ o.after, Region.binds .any e = true → listed.getD e.on false = true

theorem closed_step {listed : Array Bool} {i : Nat} {o : Oper} (hc : ∀ j o, ops[j]? = some o → listed.getD j false = true → ∀ e ∈ o.after, Region.binds .any e = true → listed.getD e.on false = true)
    (hi : i < listed.size) (ho : ops[i]? = some o) (hr : ∀ e ∈ o.after, Region.binds .any e = true → listed.getD e.on false = true) :
    ∀ j o, ops[j]? = some o → (listed.setIfInBounds i true).getD j false = true → ∀ e ∈ o.after, Region.binds .any e = true → (listed.setIfInBounds i true).getD e.on false = true := by
  intro j oj hj hlj e he hb
  have key : listed.getD e.on false = true := by
    by_cases h : i = j
    · subst h
      rw [ho] at hj
      cases hj
      exact hr e he hb
    · rw [getD_set_ne false h] at hlj
      exact hc j oj hj hlj e he hb
  by_cases h2 : i = e.on
  · rw [← h2]; simp [hi]
  · rw [getD_set_ne false h2]; exact key

theorem KeptF.step {a : Act} {listed : Array Bool} {s s' : σ} {w w' : World} {i : Nat} {o : Oper} {v : Value}
    (hf : fine ops a0.tmps.size = true) (h : KeptF ops V a0 listed a s w) (ho : ops[i]? = some o)
    (hi : i < listed.size) (hr : ∀ e ∈ o.after, Region.binds .any e = true → listed.getD e.on false = true) (hst : ∀ j v, listed.getD j false = true → V j v s w → V j v s' w') (hv : V i v s' w') : KeptF ops V a0 (listed.setIfInBounds i true) (a.put o.dst v) s' w' := by
  have hcl := closed_step h.closed hi ho hr
  cases hd : o.dst with
  | none =>
    refine ⟨h.defers, h.size, h.others, fun j oj d hj hdj hlj => ?_, hcl⟩
    have hne : i ≠ j := fun e => by subst e; rw [ho] at hj; cases hj; rw [hd] at hdj; cases hdj
    rw [getD_set_ne false hne] at hlj
    exact hst _ _ hlj (h.done j oj d hj hdj hlj)
  | some di =>
    have hb := fine_dst hf ho hd
    have hsz : di < a.tmps.size := by rw [h.size]; exact hb.1
    refine ⟨h.defers, by simp [Act.put, h.size], fun t ht => ?_, fun j oj d hj hdj hlj => ?_, hcl⟩
    · rw [getD_put t hsz]
      have hne : t ≠ di := fun e => by subst e; rw [own_of ho hd] at ht; cases ht
      rw [if_neg hne]
      exact h.others t ht
    · rw [getD_put d hsz]
      by_cases hji : j = i
      · subst hji
        rw [ho] at hj
        cases hj
        rw [hd] at hdj
        cases hdj
        rw [if_pos rfl]
        exact hv
      · have hne : d ≠ di := fun e => by subst e; exact hji (hb.2 j oj hj hdj)
        rw [if_neg hne]
        rw [getD_set_ne false (fun e => hji e.symm)] at hlj
        exact hst _ _ hlj (h.done j oj d hj hdj hlj)

theorem final {listed : Array Bool} {a : Act} {s : σ} {w : World} (hf : fine ops a0.tmps.size = true) (h : KeptF ops V a0 listed a s w) (hall : ∀ i, i < ops.size → listed.getD i false = true)
    (hfin : ∀ vals : Nat → Value, (∀ i o d, ops[i]? = some o → o.dst = some d → V i (vals i) s w) → Q .normal (putAll vals ops.toList 0 a0) w) : Q .normal a w :=
  Free.final (V := fun i v w => V i v s w) hf ⟨h.defers, h.size, h.others, h.done⟩ hall hfin

theorem upd_listed {listed : Array Bool} {i : Nat} (hi : i < listed.size) : (fun k => (listed.setIfInBounds i true).getD k false) = upd (fun k => listed.getD k false) i := by
  funext k
  by_cases h : k = i
  · subst h
    rw [upd_eq]; simp [hi]
  · rw [upd_ne h, getD_set_ne false (fun e => h e.symm)]

theorem any (hf : fine ops a0.tmps.size = true) (hstep : ∀ i o, ops[i]? = some o → Owed P ops Q V C a0 i o)
    (hfin : ∀ L s w, C L s w → (∀ i, i < ops.size → L i = true) → ∀ vals : Nat → Value, (∀ i o d, ops[i]? = some o → o.dst = some d → V i (vals i) s w) → Q .normal (putAll vals ops.toList 0 a0) w) :
    ∀ (fuel : Nat) (listed : Array Bool) (a : Act) (s : σ) (w : World), listed.size = ops.size → listed.toList.countP (!·) ≤ fuel → KeptF ops V a0 listed a s w → C (fun k => listed.getD k false) s w → wpAny P .any ops Q fuel listed a w
  | 0, listed, a, s, w, hl, hn, hk, hC => by
    have hall : ∀ i, i < ops.size → listed.getD i false = true := fun i hi => by
      have h0 : listed.toList.countP (!·) = 0 := by omega
      rw [List.countP_eq_zero] at h0
      have hi' : i < listed.size := by omega
      have := h0 listed[i] (by simp)
      simpa [hi'] using this
    refine ⟨?_, final hf hk hall (hfin _ s w hC hall)⟩
    apply List.eq_nil_iff_forall_not_mem.2
    intro i hi
    rw [mem_ready] at hi
    obtain ⟨h0, o, ho, _⟩ := hi
    have hlt : i < ops.size := (Array.getElem?_eq_some_iff.1 ho).1
    have h1 := hall i hlt
    have hi' : i < listed.size := by omega
    simp [hi'] at h0 h1
    rw [h0] at h1
    cases h1
  | fuel + 1, listed, a, s, w, hl, hn, hk, hC => by
    refine ⟨fun hr => ?_, fun i hi => ?_⟩
    · have hall := all_listed hf hr hl
      exact final hf hk hall (hfin _ s w hC hall)
    rw [mem_ready] at hi
    obtain ⟨h0, o, ho, hall⟩ := hi
    have hlt : i < ops.size := (Array.getElem?_eq_some_iff.1 ho).1
    have hi' : i < listed.size := by omega
    have hnot : listed.getD i false = false := by
      simp [hi'] at h0 ⊢
      exact h0
    have hcount : (listed.setIfInBounds i true).toList.countP (!·) ≤ fuel := by
      rw [Array.toList_setIfInBounds]
      have := count_set listed.toList i (by simp [hi'] at h0 ⊢; exact h0)
      omega
    have howed := hstep i o ho a (fun k => listed.getD k false) s w hC hnot ⟨fun j hj => Bool.eq_false_iff.2 fun e => by
      have := waits_done (L := fun k => listed.getD k false) hk.closed _ j i hj e
      rw [hnot] at this
      exact absurd this (by decide), fun j hj => by
      cases hsz : ops.size with
      | zero => omega
      | succ f =>
        rw [hsz] at hj
        unfold waits at hj
        simp only [ho] at hj
        obtain ⟨k, hk1, h2⟩ := Array.any_eq_true.1 hj
        simp only [Bool.and_eq_true, Bool.or_eq_true, beq_iff_eq] at h2
        have h3 := hall _ (Array.getElem_mem hk1) h2.1
        rcases h2.2 with h4 | h4
        · rw [← h4]; exact h3
        · exact waits_done (L := fun k => listed.getD k false) hk.closed f _ j h4 h3⟩ hk.others (fun j d hd => by
      unfold dep at hd
      rw [ho] at hd
      cases hj : ops[j]? with
      | none => simp [hj] at hd
      | some oj =>
        simp only [hj, Bool.and_eq_true, beq_iff_eq] at hd
        obtain ⟨hd1, hd2⟩ := hd
        obtain ⟨k, hk1, hk2⟩ := Array.any_eq_true.1 hd2
        simp only [Bool.and_eq_true, beq_iff_eq] at hk2
        have := hall _ (Array.getElem_mem hk1) hk2.2
        rw [hk2.1] at this
        exact hk.done j oj d hj hd1 this)
    rw [← upd_listed hi'] at howed
    unfold wpOp
    simp only [ho]
    split
    · rename_i hw
      rw [if_pos hw] at howed
      refine .inl (Oper.wp_mono (fun a' w' h' => ?_) howed)
      obtain ⟨v, s', rfl, hst, hC', hv⟩ := h'
      exact any hf hstep hfin fuel _ _ s' _ (by simpa using hl) hcount (hk.step hf ho hi' hall hst hv) hC'
    · rename_i hw
      rw [if_neg hw] at howed
      exact any hf hstep hfin fuel _ _ s _ (by simpa using hl) hcount (hk.step hf ho hi' hall (fun j v _ hV => hV) howed.2) howed.1

def Owes (P : Program) (ops : Array Oper) (Q : Exit → Act → World → Prop) (V : Nat → Value → σ → World → Prop) (C : (Nat → Bool) → σ → World → Prop) (a0 : Act) : Nat → List Oper → Prop
  | _, [] => True
  | k, o :: os => Owed P ops Q V C a0 k o ∧ Owes P ops Q V C a0 (k + 1) os

theorem Owes.at : ∀ (l : List Oper) (k : Nat), Owes P ops Q V C a0 k l → ∀ j o, l[j]? = some o → Owed P ops Q V C a0 (k + j) o
  | [], _, _, j, o, h => by simp at h
  | x :: l, k, h, 0, o, ho => by
    simp at ho
    subst ho
    exact h.1
  | x :: l, k, h, j + 1, o, ho => by
    have := Owes.at l (k + 1) h.2 j o (by simpa using ho)
    rw [show k + (j + 1) = k + 1 + j by omega]
    exact this

/-- THE LAW. -/
theorem wp_region {id : Nat} {w : World} {l : List Oper} (V : Nat → Value → σ → World → Prop) (C : (Nat → Bool) → σ → World → Prop) (s0 : σ) (hm : P.follows .mixedOrders = true) (hf : fine l.toArray a0.tmps.size = true)
    (hC : C (fun _ => false) s0 w.drew) (hstep : Owes P l.toArray Q V C a0 0 l)
    (hfin : ∀ L s w, C L s w → (∀ i, i < l.length → L i = true) → ∀ vals : Nat → Value, (∀ i o d, l.toArray[i]? = some o → o.dst = some d → V i (vals i) s w) → Q .normal (putAll vals l 0 a0) w) : (Code.region id l.toArray true).wp P Q a0 w := by
  refine wp_region_any hm (any (V := V) (C := C) hf (fun i o ho => ?_) (fun L s w hC hL => hfin L s w hC (fun i hi => hL i (by simpa using hi))) _ _ _ s0 _ (by simp) ?_ ⟨rfl, rfl, fun _ _ => rfl, fun j o d _ _ h => ?_, fun j o _ h => ?_⟩ ?_)
  · have := Owes.at l 0 hstep i o (by simpa using ho)
    rwa [Nat.zero_add] at this
  · exact Nat.le_trans List.countP_le_length (by simp)
  · exfalso
    simp [Array.getElem?_replicate] at h
    split at h <;> simp_all
  · exfalso
    simp [Array.getElem?_replicate] at h
    split at h <;> simp_all
  · have e : (fun k => (Array.replicate l.toArray.size false).getD k false) = fun _ => false := by
      funext k
      simp [Array.getElem?_replicate]
      split <;> simp
    rw [e]
    exact hC

/-- Operation i is carried out. -/
def Goes (ops : Array Oper) (V : Nat → Value → σ → World → Prop) (i : Nat) (o : Oper) : Prop := ∀ (a : Act) (s : σ) (w : World), (∀ j d, dep ops i j d = true → V j (a.eval (.tmp d)) s w) → Region.wanted o (yielded ops a.tmps) = true
theorem goes_plain {i : Nat} {o : Oper} (hg : o.guard = none) : Goes ops V i o := fun _ _ _ _ => by simp [Region.wanted, hg]
/-- Its guard says yes. -/
theorem goes_guard {i g d : Nat} {o og : Oper} (b : Bool) (hg : o.guard = some (g, b)) (hog : ops[g]? = some og) (hd : og.dst = some d) (hdep : dep ops i g d = true) (hV : ∀ v s w, V g v s w → v = .bool b) : Goes ops V i o := fun a s w h =>
  Free.goes_guard (V := fun i v w => V i v s w) b hg hog hd hdep (fun v w => hV v s w) a w h

/-- It yields a value; memory may turn. -/
theorem value {i : Nat} {o : Oper} (hw : Goes ops V i o)
    (h : ∀ (a : Act) (L : Nat → Bool) (s : σ) (w : World), C L s w → L i = false → Near ops L i → (∀ t, own ops t = false → a.eval (.tmp t) = a0.eval (.tmp t)) → (∀ j d, dep ops i j d = true → V j (a.eval (.tmp d)) s w) →
      ∃ v s' w', (execOp a.eval o).run P w = .ok (.value v) w' ∧ (∀ j u, L j = true → V j u s w → V j u s' w') ∧ C (upd L i) s' w' ∧ V i v s' w') : Owed P ops Q V C a0 i o := by
  intro a L s w hC hL hn hs hd
  rw [if_pos (hw a s w hd)]
  obtain ⟨v, s', w', hr, hst, hC', hv⟩ := h a L s w hC hL hn hs hd
  unfold Oper.wp
  rw [hr]
  exact ⟨v, s', rfl, hst, hC', hv⟩
/-- It writes. -/
theorem store {i : Nat} {o : Oper} (hw : Goes ops V i o)
    (h : ∀ (a : Act) (L : Nat → Bool) (s : σ) (w : World), C L s w → L i = false → Near ops L i → (∀ t, own ops t = false → a.eval (.tmp t) = a0.eval (.tmp t)) → (∀ j d, dep ops i j d = true → V j (a.eval (.tmp d)) s w) →
      ∃ s' w', (execOp a.eval o).run P w = .ok .skip w' ∧ (∀ j u, L j = true → V j u s w → V j u s' w') ∧ C (upd L i) s' w' ∧ V i undef s' w') : Owed P ops Q V C a0 i o := by
  intro a L s w hC hL hn hs hd
  rw [if_pos (hw a s w hd)]
  obtain ⟨s', w', hr, hst, hC', hv⟩ := h a L s w hC hL hn hs hd
  unfold Oper.wp
  rw [hr]
  exact ⟨undef, s', rfl, hst, hC', hv⟩
/-- It yields a value and does nothing else. -/
theorem pure {i : Nat} {o : Oper} (hw : Goes ops V i o) (hCu : ∀ L s w, C L s w → C (upd L i) s w)
    (h : ∀ (a : Act) (L : Nat → Bool) (s : σ) (w : World), C L s w → L i = false → Near ops L i → (∀ t, own ops t = false → a.eval (.tmp t) = a0.eval (.tmp t)) → (∀ j d, dep ops i j d = true → V j (a.eval (.tmp d)) s w) →
      ∃ v, (execOp a.eval o).run P w = .ok (.value v) w ∧ V i v s w) : Owed P ops Q V C a0 i o :=
  value hw fun a L s w hC hL hn hs hd => by
    obtain ⟨v, hr, hv⟩ := h a L s w hC hL hn hs hd
    exact ⟨v, s, w, hr, fun _ _ _ h => h, hCu L s w hC, hv⟩
/-- It hands a slot on. -/
theorem move {i : Nat} {o : Oper} {x : Operand} (hw : Goes ops V i o) (hCu : ∀ L s w, C L s w → C (upd L i) s w) (ho : o.op = .move x ∨ o.op = .assign x)
    (h : ∀ (a : Act) (s : σ) (w : World), (∀ t, own ops t = false → a.eval (.tmp t) = a0.eval (.tmp t)) → (∀ j d, dep ops i j d = true → V j (a.eval (.tmp d)) s w) → V i (a.eval x) s w) : Owed P ops Q V C a0 i o :=
  pure hw hCu fun a _ s w _ _ _ hs hd => ⟨a.eval x, by rcases ho with ho | ho <;> simp [execOp, ho], h a s w hs hd⟩
/-- It calls a function of the program; memory may turn. -/
theorem call {i : Nat} {o : Oper} (hw : Goes ops V i o)
    (h : ∀ (a : Act) (L : Nat → Bool) (s : σ) (w : World), C L s w → L i = false → Near ops L i → (∀ t, own ops t = false → a.eval (.tmp t) = a0.eval (.tmp t)) → (∀ j d, dep ops i j d = true → V j (a.eval (.tmp d)) s w) →
      ∃ f args, (execOp a.eval o).run P w = .ok (.enter f args) w ∧ Calls P f args w fun e w' => ∃ v s', e = .returned v ∧ (∀ j u, L j = true → V j u s w → V j u s' w') ∧ C (upd L i) s' w' ∧ V i v s' w') : Owed P ops Q V C a0 i o := by
  intro a L s w hC hL hn hs hd
  rw [if_pos (hw a s w hd)]
  obtain ⟨f, args, hr, hc⟩ := h a L s w hC hL hn hs hd
  unfold Oper.wp
  rw [hr]
  refine Calls.mono hc fun e w' he => ?_
  obtain ⟨v, s', rfl, hst, hC', hv⟩ := he
  exact ⟨v, s', rfl, hst, hC', hv⟩
/-- Its guard says no. -/
theorem skip {i g d : Nat} {o og : Oper} (b : Bool) (hg : o.guard = some (g, !b)) (hog : ops[g]? = some og) (hd : og.dst = some d) (hdep : dep ops i g d = true) (hV : ∀ v s w, V g v s w → v = .bool b)
    (hCu : ∀ L s w, C L s w → C (upd L i) s w) (hV0 : ∀ s w, V i undef s w) : Owed P ops Q V C a0 i o := by
  intro a L s w hC hL _ hs hdd
  have hv := hV _ _ _ (hdd g d hdep)
  have hv' : a.tmps[d]? = some (.bool b) := by
    simp only [Array.getD_eq_getD_getElem?] at hv
    cases ht : a.tmps[d]? with
    | none => rw [ht] at hv; simp [undef] at hv
    | some x => rw [ht] at hv; simp at hv; rw [hv]
  have hy : yielded ops a.tmps g = some b := by
    unfold yielded
    rw [hog]
    simp [hd, hv']
  have hn : ¬ Region.wanted o (yielded ops a.tmps) = true := by
    simp [Region.wanted, hg, hy]
  rw [if_neg hn]
  exact ⟨hCu L s w hC, hV0 s w⟩
end

/-- What an operation yields: a value, whatever the memory; or something that is said of it. -/
abbrev Yield (σ : Type) := Value ⊕ (Value → σ → World → Prop)
def VF {σ : Type} (f : Nat → Yield σ) : Nat → Value → σ → World → Prop := fun j v s w => match f j with | .inl u => v = u | .inr p => p v s w
/-- Values alone. -/
def VV {σ : Type} (f : Nat → Value) : Nat → Value → σ → World → Prop := fun j v _ _ => v = f j
/-- One operation, p, turns memory: as it is ahead of it, and behind it. -/
def two {σ : Type} (p : Nat) (A B : σ → World → Prop) : (Nat → Bool) → σ → World → Prop := fun L s w => if L p = true then B s w else A s w
theorem two.upd {σ : Type} {p i : Nat} {A B : σ → World → Prop} (h : p ≠ i) : ∀ L s w, two p A B L s w → two p A B (Flow.upd L i) s w := fun L s w hh => by
  unfold two at *
  rw [upd_ne h]
  exact hh
theorem two.pre {σ : Type} {p : Nat} {A B : σ → World → Prop} {L : Nat → Bool} {s : σ} {w : World} (h : two p A B L s w) (hL : L p = false) : A s w := by
  unfold two at h
  rw [hL] at h
  exact h
theorem two.put {σ : Type} {p i : Nat} {A B : σ → World → Prop} {L : Nat → Bool} {s : σ} {w : World} (h : p ≠ i) (hL : L p = false) (hA : A s w) : two p A B (Flow.upd L i) s w := by
  unfold two
  rw [upd_ne h, hL]
  exact hA
theorem two.post {σ : Type} {p : Nat} {A B : σ → World → Prop} {L : Nat → Bool} {s : σ} {w : World} (hB : B s w) : two p A B (Flow.upd L p) s w := by
  unfold two
  rw [upd_eq]
  exact hB
theorem two.end {σ : Type} {p : Nat} {A B : σ → World → Prop} {L : Nat → Bool} {s : σ} {w : World} (h : two p A B L s w) (hL : L p = true) : B s w := by
  unfold two at h
  rw [hL] at h
  exact h
/-- Two of them, p and then q. -/
def three {σ : Type} (p q : Nat) (A B D : σ → World → Prop) : (Nat → Bool) → σ → World → Prop := fun L s w => if L q = true then D s w else if L p = true then B s w else A s w
theorem three.upd {σ : Type} {p q i : Nat} {A B D : σ → World → Prop} (h : p ≠ i) (k : q ≠ i) : ∀ L s w, three p q A B D L s w → three p q A B D (Flow.upd L i) s w := fun L s w hh => by
  unfold three at *
  rw [upd_ne h, upd_ne k]
  exact hh
theorem three.pre {σ : Type} {p q : Nat} {A B D : σ → World → Prop} {L : Nat → Bool} {s : σ} {w : World} (h : three p q A B D L s w) (hL : L p = false) (hq : L q = false) : A s w := by
  unfold three at h
  rw [hL, hq] at h
  exact h
theorem three.mid {σ : Type} {p q : Nat} {A B D : σ → World → Prop} {L : Nat → Bool} {s : σ} {w : World} (h : three p q A B D L s w) (hL : L p = true) (hq : L q = false) : B s w := by
  unfold three at h
  rw [hL, hq] at h
  exact h
theorem three.put {σ : Type} {p q i : Nat} {A B D : σ → World → Prop} {L : Nat → Bool} {s : σ} {w : World} (h : p ≠ i) (k : q ≠ i) (hL : L p = false) (hq : L q = false) (hA : A s w) : three p q A B D (Flow.upd L i) s w := by
  unfold three
  rw [upd_ne h, upd_ne k, hL, hq]
  exact hA
theorem three.first {σ : Type} {p q : Nat} {A B D : σ → World → Prop} {L : Nat → Bool} {s : σ} {w : World} (k : q ≠ p) (hq : L q = false) (hB : B s w) : three p q A B D (Flow.upd L p) s w := by
  unfold three
  rw [upd_ne k, hq, upd_eq]
  exact hB
theorem three.post {σ : Type} {p q : Nat} {A B D : σ → World → Prop} {L : Nat → Bool} {s : σ} {w : World} (hD : D s w) : three p q A B D (Flow.upd L q) s w := by
  unfold three
  rw [upd_eq]
  exact hD
theorem three.end {σ : Type} {p q : Nat} {A B D : σ → World → Prop} {L : Nat → Bool} {s : σ} {w : World} (h : three p q A B D L s w) (hL : L q = true) : D s w := by
  unfold three at h
  rw [hL] at h
  exact h
end Go.Proofs.YtdfdalkcljfghaaGreat.Flow
