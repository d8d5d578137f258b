/-
  Single operations of the statements' own text, each by itself.
-/
import Derived.Test.YtpejbpmdfbdphaaRefPut
import Derived.Test.YtpejbpmdfbdphaaFree
namespace Go.Proofs.Ytpejbpmdfbdphaa
open Go.RowKit

/-- What an operation yields: a value, whatever the memory; or something that is said of memory. -/
abbrev Yield := Value ⊕ (Value → World → Prop)
def VM (f : Nat → Yield) : Nat → Value → World → Prop := fun j v w => match f j with | .inl u => v = u | .inr p => p v w
theorem VM.stable {f : Nat → Yield} (h : ∀ j p, f j = .inr p → ∀ v w w', p v w → Below w.heap.size w w' → p v w') : ∀ j v w w', VM f j v w → Below w.heap.size w w' → VM f j v w' := fun j v w w' hv hb => by
  unfold VM at *
  cases hf : f j with
  | inl u => rw [hf] at hv; exact hv
  | inr p => rw [hf] at hv; exact h j p hf v w w' hv hb

/-- A slice with these bytes, whatever its memory. -/
def Shows (bs : List UInt8) (v : Value) (w : World) : Prop := RowV w.heap.size w v bs
theorem Shows.stable {bs : List UInt8} : ∀ v w w', Shows bs v w → Below w.heap.size w w' → Shows bs v w' := fun _ _ _ h hb => (RowV.below h hb).up hb.size
def ShowsAll (n : Nat) (ps : List (List UInt8)) (v : Value) (w : World) : Prop := ∃ a, v = .slice a n n ∧ Parts w.heap.size w a n ps
theorem Parts.up {N M : Nat} {w : World} {a : Option Addr} {len : Nat} {ps : List (List UInt8)} (h : Parts N w a len ps) (hb : N ≤ M) : Parts M w a len ps :=
  ⟨h.1, fun i hi => by
    obtain ⟨b, off, v, ha, hl, hc, hv⟩ := h.2 i hi
    exact ⟨b, off, v, ha, by omega, hc, hv.up hb⟩⟩
theorem ShowsAll.stable {n : Nat} {ps : List (List UInt8)} : ∀ v w w', ShowsAll n ps v w → Below w.heap.size w w' → ShowsAll n ps v w' := fun _ _ _ ⟨a, e, h⟩ hb => ⟨a, e, (h.below hb).up hb.size⟩

/-- It makes something of which this is said. -/
theorem Free.owed_made {P : Program} {ops pre : Array Oper} {Q : Exit → Act → World → Prop} {V : Nat → Value → World → Prop} {C : World → Prop} {a0 : Act} {i : Nat} {o : Oper} (p : Value → World → Prop) (hw : Free.Goes ops V i o)
    (hC : ∀ w w', C w → Below w.heap.size w w' → C w') (hp : ∀ v w, p v w → V i v w)
    (h : ∀ (a : Act) (w : World), C w → (∀ t, Free.own pre t = false → a.eval (.tmp t) = a0.eval (.tmp t)) → (∀ j d, Free.dep ops i j d = true → V j (a.eval (.tmp d)) w) →
      ∃ v w', (execOp a.eval o).run P w = .ok (.value v) w' ∧ p v w' ∧ Below w.heap.size w w') : Free.Owed P ops pre Q V C a0 i o :=
  Free.owed_value hw fun a w hc hs hd => by
    obtain ⟨v, w', hr, hv, hb⟩ := h a w hc hs hd
    exact ⟨v, w', hr, hb, hC w w' hc hb, hp v w' hv⟩

theorem tx_append (a b : List UInt8) : tx a ++ tx b = tx (a ++ b) := by
  apply ByteArray.ext
  simp [tx]

section
variable {ρ : Operand → Value} {o : Oper}
theorem op_text {x : Operand} {v : Value} {w : World} {N : Nat} {l : List UInt8} (ho : o.op = .convert 25 9 x) (h1 : ρ x = v) (hr : RowV N w v l) : (execOp ρ o).run Try.prog w = .ok (.value (.string (tx l))) w := by
  unfold execOp
  rw [ho]
  simp only [h1, Sem.run_bind, run_text hr, Result.andThen_ok, Sem.run_pure]
theorem op_neq9 {x y : Operand} {a b : ByteArray} {r : Bool} (ho : o.op = .binOp .neq 9 x y 9) (h1 : ρ x = .string a) (h2 : ρ y = .string b) (hr : (!(a.toList == b.toList)) = r) (w : World) :
    (execOp ρ o).run Try.prog w = .ok (.value (.bool r)) w := by
  subst hr
  unfold execOp
  rw [ho]
  go_simp
theorem op_eql9 {x y : Operand} {a b : ByteArray} {r : Bool} (ho : o.op = .binOp .eql 9 x y 9) (h1 : ρ x = .string a) (h2 : ρ y = .string b) (hr : (a.toList == b.toList) = r) (w : World) :
    (execOp ρ o).run Try.prog w = .ok (.value (.bool r)) w := by
  subst hr
  unfold execOp
  rw [ho]
  go_simp
theorem op_add9 {x y : Operand} {a b c : ByteArray} (ho : o.op = .binOp .add 9 x y 9) (h1 : ρ x = .string a) (h2 : ρ y = .string b) (hr : a ++ b = c) (hz : a.size + b.size ≤ 9223372036854775807) (w : World) :
    (execOp ρ o).run Try.prog w = .ok (.value (.string c)) w := by
  subst hr
  unfold execOp
  rw [ho]
  go_simp
theorem op_pickF {c x y : Operand} {v : Value} (ho : o.op = .pick c x y) (h1 : ρ c = .bool false) (h2 : ρ y = v) (w : World) :
    (execOp ρ o).run Try.prog w = .ok (.value v) w := by
  unfold execOp
  rw [ho]
  go_simp
theorem op_call16 {x y z : Operand} {u v t : Value} (ho : o.op = .call { callee := .value (.func 16), args := #[x, y, z], argTypes := #[25, 26, 3] }) (h1 : ρ x = u) (h2 : ρ y = v) (h3 : ρ z = t) (hf : ρ (.func 16) = .func (.func 16) #[] #[]) (w : World) :
    (execOp ρ o).run Try.prog w = .ok (.enter 16 #[u, v, t]) w := by
  unfold execOp
  rw [ho]
  go_simp
theorem op_call17 {x y : Operand} {u v : Value} (ho : o.op = .call { callee := .value (.func 17), args := #[x, y], argTypes := #[25, 57] }) (h1 : ρ x = u) (h2 : ρ y = v) (hf : ρ (.func 17) = .func (.func 17) #[] #[]) (w : World) :
    (execOp ρ o).run Try.prog w = .ok (.enter 17 #[u, v]) w := by
  unfold execOp
  rw [ho]
  go_simp
theorem op_call18 {x y : Operand} {u v : Value} (ho : o.op = .call { callee := .value (.func 18), args := #[x, y], argTypes := #[26, 3] }) (h1 : ρ x = u) (h2 : ρ y = v) (hf : ρ (.func 18) = .func (.func 18) #[] #[]) (w : World) :
    (execOp ρ o).run Try.prog w = .ok (.enter 18 #[u, v]) w := by
  unfold execOp
  rw [ho]
  go_simp
theorem op_build1 {c : UInt8} {x : Operand} (ho : o.op = .buildSlice 25 1 #[(0, x)]) (h1 : ρ x = .int .u8 ((c.toNat : Nat) : Int)) (w : World) :
    ∃ v w', (execOp ρ o).run Try.prog w = .ok (.value v) w' ∧ Shows [c] v w' ∧ Below w.heap.size w w' := by
  refine ⟨.slice (some ⟨w.heap.size, 0, none⟩) 1 1, w.alloc (.cells #[.int .u8 ((c.toNat : Nat) : Int)] 5), ?_, ?_, (Below.refl _ _).alloc (Nat.le_refl _) _⟩
  · unfold execOp
    rw [ho]
    go_simp
  · refine ⟨_, _, _, rfl, Nat.le_refl _, by decide, by simp, rfl, by decide, fun i hi => ?_⟩
    obtain rfl : i = 0 := by omega
    refine ⟨w.heap.size, 0, rfl, by simp, ?_⟩
    rw [cell_fresh]
    rfl
theorem op_build3 {x y z : Operand} {u v t : Value} {p q r : List UInt8} {w : World} (ho : o.op = .buildSlice 57 3 #[(0, x), (1, y), (2, z)]) (h1 : ρ x = u) (h2 : ρ y = v) (h3 : ρ z = t)
    (r1 : Shows p u w) (r2 : Shows q v w) (r3 : Shows r t w) :
    ∃ s w', (execOp ρ o).run Try.prog w = .ok (.value s) w' ∧ ShowsAll 3 [p, q, r] s w' ∧ Below w.heap.size w w' := by
  have hb : ∀ C, Below w.heap.size w (w.alloc (.cells C 25)) := fun C => (Below.refl _ _).alloc (Nat.le_refl _) _
  have s1 := fun C => Shows.stable _ _ _ r1 (hb C)
  have s2 := fun C => Shows.stable _ _ _ r2 (hb C)
  have s3 := fun C => Shows.stable _ _ _ r3 (hb C)
  obtain ⟨a1, l1, c1, rfl, _⟩ := r1
  obtain ⟨a2, l2, c2, rfl, _⟩ := r2
  obtain ⟨a3, l3, c3, rfl, _⟩ := r3
  refine ⟨.slice (some ⟨w.heap.size, 0, none⟩) 3 3, w.alloc (.cells #[.slice a1 l1 c1, .slice a2 l2 c2, .slice a3 l3 c3] 25), ?_, ⟨_, rfl, rfl, fun i hi => ⟨w.heap.size, 0, ?_⟩⟩, hb _⟩
  · unfold execOp
    rw [ho]
    go_simp
  · match i, hi with
    | 0, _ => exact ⟨_, rfl, by simp, by rw [cell_fresh]; rfl, s1 _⟩
    | 1, _ => exact ⟨_, rfl, by simp, by rw [cell_fresh]; rfl, s2 _⟩
    | 2, _ => exact ⟨_, rfl, by simp, by rw [cell_fresh]; rfl, s3 _⟩
end
end Go.Proofs.Ytpejbpmdfbdphaa
