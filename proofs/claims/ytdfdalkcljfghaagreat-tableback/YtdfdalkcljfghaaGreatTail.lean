/-
  A region that draws its order and ends in operations that wait for all that stands ahead of them (a store, a copy): each of the first ones by itself, in whatever order; then the last ones as the text has them. Plain facts over any program.
-/
import Derived.Test.YtdfdalkcljfghaaGreatFlow
namespace Go.Proofs.YtdfdalkcljfghaaGreat.Free
open Go.RowKit

/-- Each one ahead of p is waited for by one behind it, p itself or one ahead of p. -/
def tailed (ops : Array Oper) (p : Nat) : Bool :=
  (List.range p).all fun i => (List.range (p + 1)).any fun j => decide (i < j) && (match ops[j]? with
    | some o => o.after.any (fun e => e.on == i && Region.binds .any e)
    | none => false)

def tails (ops : Array Oper) (n : Nat) : Bool := (List.range ops.size).all fun p => decide (p < n) || tailed ops p

/-- What is listed came up behind what it waits for. -/
def Closed (ops : Array Oper) (listed : Array Bool) : Prop := ∀ j o, ops[j]? = some o → listed.getD j false = true → ∀ e ∈ o.after, Region.binds .any e = true → listed.getD e.on false = true

theorem tailed_all {ops : Array Oper} {listed : Array Bool} {p : Nat} {o : Oper} (ht : tailed ops p = true) (hc : Closed ops listed) (ho : ops[p]? = some o)
    (hr : ∀ e ∈ o.after, Region.binds .any e = true → listed.getD e.on false = true) : ∀ k i, i + k + 1 = p → listed.getD i false = true := by
  intro k
  induction k using Nat.strongRecOn with
  | _ k ih =>
    intro i hi
    have h1 := List.all_eq_true.1 ht i (List.mem_range.2 (by omega))
    obtain ⟨j, hj, h2⟩ := List.any_eq_true.1 h1
    have hjp := List.mem_range.1 hj
    simp only [Bool.and_eq_true, decide_eq_true_eq] at h2
    obtain ⟨hij, h3⟩ := h2
    cases hoj : ops[j]? with
    | none => simp [hoj] at h3
    | some oj =>
      simp only [hoj] at h3
      obtain ⟨q, hq, h4⟩ := Array.any_eq_true.1 h3
      simp only [Bool.and_eq_true, beq_iff_eq] at h4
      have hmem : oj.after[q] ∈ oj.after := Array.getElem_mem hq
      rw [← h4.1]
      by_cases hjp' : j = p
      · subst hjp'
        rw [ho] at hoj
        cases hoj
        exact hr _ hmem h4.2
      · have hl := ih (p - 1 - j) (by omega) j (by omega)
        exact hc j oj hoj hl _ hmem h4.2

section
variable {P : Program} {ops : Array Oper} {Q : Exit → Act → World → Prop} {V : Nat → Value → World → Prop} {C : World → Prop} {a0 : Act}

theorem Closed.step {listed : Array Bool} {i : Nat} {o : Oper} (hc : Closed ops listed) (hl : listed.size = ops.size) (ho : ops[i]? = some o) (hr : ∀ e ∈ o.after, Region.binds .any e = true → listed.getD e.on false = true) : Closed ops (listed.setIfInBounds i true) := by
  have up : ∀ k, listed.getD k false = true → (listed.setIfInBounds i true).getD k false = true := fun k hk => by
    by_cases h : i = k
    · subst h
      have : i < listed.size := by rw [hl]; exact (Array.getElem?_eq_some_iff.1 ho).1
      simp [this]
    · rw [getD_set_ne false h]; exact hk
  intro j oj hj hlj e he hb
  by_cases h : i = j
  · subst h
    rw [ho] at hj
    cases hj
    exact up _ (hr e he hb)
  · rw [getD_set_ne false h] at hlj
    exact up _ (hc j oj hj hlj e he hb)

/-- The last ones, as the text has them. -/
theorem tail_any (hf : fine ops a0.tmps.size = true) : ∀ (l : List Oper) (k fuel : Nat) (listed : Array Bool) (a : Act) (w : World), (∀ p, k ≤ p → p < ops.size → tailed ops p = true) → k + l.length = ops.size → (∀ j, ops[k + j]? = l[j]?) →
    listed.size = ops.size → (∀ j, j < ops.size → (listed.getD j false = true ↔ j < k)) → l.length ≤ fuel → wpList P ops Q l a w → wpAny P .any ops Q fuel listed a w
  | [], k, fuel, listed, a, w, _, hk, _, hl, hm, _, h => by
    have hr : Region.ready .any ops listed = [] := by
      apply List.eq_nil_iff_forall_not_mem.2
      intro i hi
      rw [mem_ready] at hi
      obtain ⟨h0, o, ho, _⟩ := hi
      have hlt : i < ops.size := (Array.getElem?_eq_some_iff.1 ho).1
      have := (hm i hlt).2 (by simp at hk; omega)
      have hi' : i < listed.size := by omega
      simp [hi'] at h0 this
      rw [h0] at this
      cases this
    cases fuel with
    | zero => exact ⟨hr, h⟩
    | succ fuel => exact ⟨fun _ => h, fun i hi => (by rw [hr] at hi; cases hi)⟩
  | o :: l, k, 0, listed, a, w, _, _, _, _, _, hfu, _ => by simp at hfu
  | o :: l, k, fuel + 1, listed, a, w, ht, hk, hop, hl, hm, hfu, h => by
    have hok : ops[k]? = some o := by simpa using hop 0
    have hkl : k < ops.size := (Array.getElem?_eq_some_iff.1 hok).1
    have hc : Closed ops listed := fun j oj hj hlj e he hb => by
      have hjl : j < ops.size := (Array.getElem?_eq_some_iff.1 hj).1
      have := fine_after hf hj he hb
      exact (hm e.on (by omega)).2 (by have := (hm j hjl).1 hlj; omega)
    have hkr : k ∈ Region.ready .any ops listed := by
      rw [mem_ready]
      refine ⟨?_, o, hok, fun e he hb => ?_⟩
      · have hkk : k < listed.size := by omega
        have : ¬ listed.getD k false = true := fun e => by have := (hm k hkl).1 e; omega
        simpa [hkk] using this
      · have := fine_after hf hok he hb
        exact (hm e.on (by omega)).2 this
    refine ⟨fun hr => (by rw [hr] at hkr; cases hkr), fun i hi => ?_⟩
    obtain rfl : i = k := by
      rw [mem_ready] at hi
      obtain ⟨h0, oi, hoi, hri⟩ := hi
      have hil : i < ops.size := (Array.getElem?_eq_some_iff.1 hoi).1
      have hii : i < listed.size := by omega
      have hni : ¬ i < k := fun e => by
        have := (hm i hil).2 e
        simp [hii] at h0 this
        rw [h0] at this
        cases this
      rcases Nat.lt_or_ge k i with hlt | hge
      · exfalso
        have := tailed_all (ht i (by omega) hil) hc hoi hri (i - 1 - k) k (by omega)
        have := (hm k hkl).1 this
        omega
      · omega
    have next : ∀ a' w', wpList P ops Q l a' w' → wpAny P .any ops Q fuel (listed.setIfInBounds i true) a' w' := fun a' w' h' => by
      refine tail_any hf l (i + 1) fuel _ a' w' (fun p hp => ht p (by omega)) (by simp at hk; omega) (fun j => ?_) (by simpa using hl) (fun j hj => ?_) (by simp at hfu; omega) h'
      · have := hop (j + 1)
        rw [show i + 1 + j = i + (j + 1) by omega, this]
        simp
      · by_cases e : i = j
        · subst e
          have : i < listed.size := by omega
          simp [this]
        · rw [getD_set_ne false e, hm j hj]
          omega
    unfold wpOp
    simp only [hok]
    unfold wpList at h
    split
    · rename_i hw
      rw [if_pos hw] at h
      exact h.imp (Oper.wp_mono next) id
    · rename_i hw
      rw [if_neg hw] at h
      exact next _ _ h

/-- What is known of the slots in the midst of the region: of the first ones alone. -/
structure KeptT (pre : Array Oper) (V : Nat → Value → World → Prop) (a0 : Act) (listed : Array Bool) (a : Act) (w : World) : Prop where
  defers : a.defers = a0.defers
  size : a.tmps.size = a0.tmps.size
  others : ∀ t, own pre t = false → a.tmps.getD t undef = a0.tmps.getD t undef
  done : ∀ (j : Nat) (o : Oper) (d : Nat), pre[j]? = some o → o.dst = some d → listed.getD j false = true → V j (a.tmps.getD d undef) w

theorem KeptT.step {pre : Array Oper} {a : Act} {listed : Array Bool} {w w' : World} {i : Nat} {o : Oper} {v : Value}
    (hf : fine pre a0.tmps.size = true) (h : KeptT pre V a0 listed a w) (ho : pre[i]? = some o)
    (hst : ∀ j v, V j v w → V j v w') (hv : V i v w') : KeptT pre V a0 (listed.setIfInBounds i true) (a.put o.dst v) w' := by
  have k : Kept pre V a0 listed a w := ⟨h.defers, h.size, h.others, h.done⟩
  have := k.step hf ho hst hv
  exact ⟨this.defers, this.size, this.others, this.done⟩

theorem head_any {l1 l2 : List Oper} (hl2 : l2 ≠ []) (hf : fine (l1 ++ l2).toArray a0.tmps.size = true) (hf1 : fine l1.toArray a0.tmps.size = true) (ht : tails (l1 ++ l2).toArray l1.length = true)
    (hst : ∀ j v w w', V j v w → Below w.heap.size w w' → V j v w') (hstep : ∀ i o, l1[i]? = some o → Owed P (l1 ++ l2).toArray l1.toArray Q V C a0 i o)
    (hfin : ∀ w, C w → ∀ vals : Nat → Value, (∀ i o d, l1[i]? = some o → o.dst = some d → V i (vals i) w) → wpList P (l1 ++ l2).toArray Q l2 (putAll vals l1 0 a0) w) :
    ∀ (fuel : Nat) (listed : Array Bool) (a : Act) (w : World), listed.size = (l1 ++ l2).length → listed.toList.countP (!·) ≤ fuel → Closed (l1 ++ l2).toArray listed → (∀ p, l1.length ≤ p → listed.getD p false = false) →
      KeptT l1.toArray V a0 listed a w → C w → wpAny P .any (l1 ++ l2).toArray Q fuel listed a w := by
  have htail : ∀ p, l1.length ≤ p → p < (l1 ++ l2).toArray.size → tailed (l1 ++ l2).toArray p = true := fun p hp hlt => by
    have := List.all_eq_true.1 ht p (List.mem_range.2 hlt)
    simp only [Bool.or_eq_true, decide_eq_true_eq] at this
    exact this.resolve_left (by omega)
  have hpos : 0 < l2.length := List.length_pos_iff.2 hl2
  intro fuel
  induction fuel with
  | zero =>
    intro listed a w hl hn _ hsuf _ _
    exfalso
    have h0 : listed.toList.countP (!·) = 0 := by omega
    rw [List.countP_eq_zero] at h0
    have hi' : l1.length < listed.size := by rw [hl]; simp; omega
    have h1 := h0 listed[l1.length] (by simp)
    have h2 := hsuf l1.length (Nat.le_refl _)
    simp [hi'] at h1 h2
    rw [h2] at h1
    cases h1
  | succ fuel ih =>
    intro listed a w hl hn hc hsuf hk hC
    by_cases hall : ∀ j, j < l1.length → listed.getD j false = true
    · have hcount : l2.length ≤ listed.toList.countP (!·) := by
        have e : listed.toList = listed.toList.take l1.length ++ listed.toList.drop l1.length := (List.take_append_drop _ _).symm
        rw [e, List.countP_append]
        have : (listed.toList.drop l1.length).countP (!·) = (listed.toList.drop l1.length).length := by
          rw [List.countP_eq_length]
          intro x hx
          obtain ⟨j, hj, rfl⟩ := List.getElem_of_mem hx
          have h2 := hsuf (l1.length + j) (by omega)
          have hj' : l1.length + j < listed.size := by simp at hj; omega
          simp only [Array.getD_eq_getD_getElem?, Array.getElem?_eq_getElem hj', Option.getD_some] at h2
          rw [List.getElem_drop]
          simpa using h2
        rw [this, List.length_drop]
        simp at hl ⊢
        omega
      refine tail_any (a0 := a0) hf l2 l1.length (fuel + 1) listed a w htail (by simp) (fun j => by rw [List.getElem?_toArray, List.getElem?_append_right (by omega), Nat.add_sub_cancel_left]) (by simpa using hl) (fun j hj => ?_) (by omega) ?_
      · refine ⟨fun h => ?_, hall j⟩
        rcases Nat.lt_or_ge j l1.length with h' | h'
        · exact h'
        · rw [hsuf j h'] at h; cases h
      · have he : putAll (fun i => match (l1[i]?).bind (·.dst) with | some d => a.tmps.getD d undef | none => undef) l1 0 a0 = a := by
          have hs := putAll_spec (fun i => match (l1[i]?).bind (·.dst) with | some d => a.tmps.getD d undef | none => undef) (fun d => a.tmps.getD d undef) l1 0 a0 (fun j o d hj hd => by
            refine ⟨(fine_dst hf1 (i := j) (by simpa using hj) hd).1, ?_⟩
            simp [hj, hd])
          refine act_ext (hs.1.trans hk.defers.symm) (hs.2.1.trans hk.size.symm) fun t => ?_
          rw [hs.2.2 t]
          split
          · rfl
          · rename_i hn
            refine (hk.others t ?_).symm
            unfold own
            rw [List.any_toArray]
            simpa using hn
        rw [← he]
        apply hfin w hC
        intro i o d ho hd
        have hi : i < l1.length := (List.getElem?_eq_some_iff.1 ho).1
        have := hk.done i o d (by simpa using ho) hd (hall i hi)
        simpa [ho, hd] using this
    · refine ⟨fun hr => ?_, fun i hi => ?_⟩
      · exfalso
        have := all_listed hf hr (by simpa using hl) l1.length (by simp; omega)
        rw [hsuf l1.length (Nat.le_refl _)] at this
        cases this
      · rw [mem_ready] at hi
        obtain ⟨h0, o, ho, hri⟩ := hi
        have hil : i < (l1 ++ l2).toArray.size := (Array.getElem?_eq_some_iff.1 ho).1
        have hil' : i < (l1 ++ l2).length := by simpa using hil
        have hi' : i < listed.size := by omega
        have hlt : i < l1.length := by
          rcases Nat.lt_or_ge i l1.length with h' | h'
          · exact h'
          · exfalso
            apply hall
            intro j hj
            exact tailed_all (htail i h' hil) hc ho hri (i - 1 - j) j (by omega)
        have ho1 : l1[i]? = some o := by
          have : (l1 ++ l2)[i]? = some o := by simpa using ho
          rwa [List.getElem?_append_left hlt] at this
        have hcount : (listed.setIfInBounds i true).toList.countP (!·) ≤ fuel := by
          rw [Array.toList_setIfInBounds]
          have := count_set listed.toList i (by simp [hi'] at h0 ⊢; exact h0)
          omega
        have howed := hstep i o ho1 a w hC hk.others (fun j d hd => by
          unfold dep at hd
          rw [ho] at hd
          cases hj : (l1 ++ l2).toArray[j]? with
          | none => simp [hj] at hd
          | some oj =>
            simp only [hj, Bool.and_eq_true, beq_iff_eq] at hd
            obtain ⟨hd1, hd2⟩ := hd
            obtain ⟨k, hk1, hk2⟩ := Array.any_eq_true.1 hd2
            simp only [Bool.and_eq_true, beq_iff_eq] at hk2
            have hlj := hri _ (Array.getElem_mem hk1) hk2.2
            rw [hk2.1] at hlj
            have hj1 : j < l1.length := by
              rcases Nat.lt_or_ge j l1.length with h' | h'
              · exact h'
              · rw [hsuf j h'] at hlj; cases hlj
            have hoj : l1[j]? = some oj := by
              have : (l1 ++ l2)[j]? = some oj := by simpa using hj
              rwa [List.getElem?_append_left hj1] at this
            exact hk.done j oj d (by simpa using hoj) hd1 hlj)
        have hsuf' : ∀ p, l1.length ≤ p → (listed.setIfInBounds i true).getD p false = false := fun p hp => by
          rw [getD_set_ne false (by omega)]
          exact hsuf p hp
        unfold wpOp
        simp only [ho]
        split
        · rename_i hw
          rw [if_pos hw] at howed
          refine .inl (Oper.wp_mono (fun a' w' h' => ?_) howed)
          obtain ⟨v, rfl, hb, hC', hv⟩ := h'
          exact ih _ _ _ (by simpa using hl) hcount (hc.step (by simpa using hl) ho hri) hsuf' (hk.step hf1 (by simpa using ho1) (fun j v hV => hst j v w w' hV hb) hv) hC'
        · rename_i hw
          rw [if_neg hw] at howed
          exact ih _ _ _ (by simpa using hl) hcount (hc.step (by simpa using hl) ho hri) hsuf' (hk.step hf1 (by simpa using ho1) (fun j v hV => hV) howed) hC

/-- THE LAW. -/
theorem wp_region_tail {id : Nat} {w : World} {ops : List Oper} (n : Nat) (V : Nat → Value → World → Prop) (C : World → Prop) (hm : P.follows .mixedOrders = true) (hn : n < ops.length)
    (hf : fine ops.toArray a0.tmps.size = true) (hf1 : fine (ops.take n).toArray a0.tmps.size = true) (ht : tails ops.toArray n = true)
    (hst : ∀ j v w w', V j v w → Below w.heap.size w w' → V j v w') (hC : C w.drew) (hstep : Owes P ops.toArray (ops.take n).toArray Q V C a0 0 (ops.take n))
    (hfin : ∀ w, C w → ∀ vals : Nat → Value, (∀ i o d, (ops.take n)[i]? = some o → o.dst = some d → V i (vals i) w) → wpList P ops.toArray Q (ops.drop n) (putAll vals (ops.take n) 0 a0) w) : (Code.region id ops.toArray true).wp P Q a0 w := by
  have e : ops.take n ++ ops.drop n = ops := List.take_append_drop n ops
  have hln : (ops.take n).length = n := by simp; omega
  have key := head_any (P := P) (Q := Q) (V := V) (C := C) (a0 := a0) (l1 := ops.take n) (l2 := ops.drop n) (by intro h; have := congrArg List.length h; simp at this; omega) (by rw [e]; exact hf) hf1 (by rw [e, hln]; exact ht) hst
    (fun i o ho => by
      rw [e]
      have := Owes.at (ops.take n) 0 hstep i o ho
      rwa [Nat.zero_add] at this) (by rw [e]; exact hfin)
  rw [e] at key
  refine wp_region_any hm (key _ _ _ _ (by simp) ?_ ?_ ?_ ⟨rfl, rfl, fun _ _ => rfl, fun j o d _ _ h => ?_⟩ hC)
  · exact Nat.le_trans List.countP_le_length (by simp)
  · intro j o _ h
    exfalso
    simp [Array.getElem?_replicate] at h
    split at h <;> simp_all
  · intro p _
    simp [Array.getElem?_replicate]
    split <;> simp
  · exfalso
    simp [Array.getElem?_replicate] at h
    split at h <;> simp_all
end

end Go.Proofs.YtdfdalkcljfghaaGreat.Free
