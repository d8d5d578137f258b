/-
  More single operations, each by itself; what two readers that are held against each other carry.
-/
import Derived.Test.YtpejbpmdfbdphaaRefRead
import Derived.Test.YtpejbpmdfbdphaaDuo
namespace Go.Proofs.Ytpejbpmdfbdphaa
open Go.RowKit

theorem VM.stableR {f : Nat → Yield} {R : World → World → Prop} (h : ∀ j p, f j = .inr p → ∀ v w w', p v w → R w w' → p v w') : ∀ j v w w', VM f j v w → R w w' → VM f j v w' := fun j v w w' hv hb => by
  unfold VM at *
  cases hf : f j with
  | inl u => rw [hf] at hv; exact hv
  | inr p => rw [hf] at hv; exact h j p hf v w w' hv hb

/-- Nothing has turned but what lies in blocks r and s. -/
def But (r s : Nat) (w w' : World) : Prop := w.heap.size ≤ w'.heap.size ∧ ∀ k, k < w.heap.size → k ≠ r → k ≠ s → w'.heap[k]? = w.heap[k]?
theorem But.refl (r s : Nat) (w : World) : But r s w w := ⟨Nat.le_refl _, fun _ _ _ _ => rfl⟩
theorem But.one {r s : Nat} {w w' : World} (h : w.grownBy w' (some r)) : But r s w w' := ⟨h.size, fun k hk hr _ => h.block k hk (by simpa using hr)⟩
theorem But.two {r s : Nat} {w w' : World} (h : w.grownBy w' (some s)) : But r s w w' := ⟨h.size, fun k hk _ hs => h.block k hk (by simpa using hs)⟩
theorem Own.but {B r s : Nat} {w w' : World} {v : Value} {l : List UInt8} (h : Own B w v l) (hb : But r s w w') (hr : r < B) (hs : s < B) : Own B w' v l := by
  refine ⟨h.1, ?_⟩
  rcases h.2 with h1 | ⟨g, cap, cur, e, hg, hh, hrest⟩
  · exact Or.inl h1
  · exact Or.inr ⟨g, cap, cur, e, hg, by rw [hb.2 g (Array.getElem?_eq_some_iff.1 hh).1 (by omega) (by omega)]; exact hh, hrest⟩

/-- Two readers, each with what it had or with what it has behind its call. -/
structure Both (N r s b B : Nat) (kd m : Int) (l : List UInt8) (e : Int) (l2 : List UInt8) (e2 : Int) (W : World) (x y : Bool) (w : World) : Prop where
  one : Rd N w r (if x then l2 else l) (if x then e2 else e)
  two : Rd N w s (if y then l2 else l) (if y then e2 else e)
  ask : Arr w b [.int .i64 kd, .int .i64 m]
  below : Below N W w
  size : B ≤ w.heap.size
section
variable {N r s b B : Nat} {kd m : Int} {l : List UInt8} {e : Int} {l2 : List UInt8} {e2 : Int} {W : World} {x y : Bool} {w w' : World}
theorem Both.first (h : Both N r s b B kd m l e l2 e2 W false y w) (hR : Rd N w' r l2 e2) (hg : w.grownBy w' (some r)) (hrs : r ≠ s) (hrb : r ≠ b) : Both N r s b B kd m l e l2 e2 W true y w' :=
  ⟨hR, h.two.other hg (Ne.symm hrs) hR.1, h.ask.grown hg (by simpa using Ne.symm hrb), h.below.grown hg h.one.size (fun k hk => by cases hk; exact hR.1), Nat.le_trans h.size hg.size⟩
theorem Both.second (h : Both N r s b B kd m l e l2 e2 W x false w) (hR : Rd N w' s l2 e2) (hg : w.grownBy w' (some s)) (hrs : r ≠ s) (hsb : s ≠ b) : Both N r s b B kd m l e l2 e2 W x true w' :=
  ⟨h.one.other hg hrs hR.1, hR, h.ask.grown hg (by simpa using Ne.symm hsb), h.below.grown hg h.two.size (fun k hk => by cases hk; exact hR.1), Nat.le_trans h.size hg.size⟩
end

section
variable {ρ : Operand → Value} {o : Oper}
theorem op_field44 {x : Operand} {g : Nat} (ho : o.op = .fieldAddr 44 x 1) (h1 : ρ x = .pointer (some ⟨g, 0, none⟩)) (w : World) :
    (execOp ρ o).run Try.prog w = .ok (.value (.pointer (some ⟨g, 1, none⟩))) w := by
  unfold execOp
  rw [ho]
  go_simp
theorem op_field0 {x : Operand} {g : Nat} (ho : o.op = .fieldAddr 42 x 0) (h1 : ρ x = .pointer (some ⟨g, 0, none⟩)) (w : World) :
    (execOp ρ o).run Try.prog w = .ok (.value (.pointer (some ⟨g, 0, none⟩))) w := by
  unfold execOp
  rw [ho]
  go_simp
theorem op_field1 {x : Operand} {g : Nat} (ho : o.op = .fieldAddr 42 x 1) (h1 : ρ x = .pointer (some ⟨g, 0, none⟩)) (w : World) :
    (execOp ρ o).run Try.prog w = .ok (.value (.pointer (some ⟨g, 1, none⟩))) w := by
  unfold execOp
  rw [ho]
  go_simp
theorem op_nil {x : Operand} {g : Nat} (ho : o.op = .nilCheck x) (h1 : ρ x = .pointer (some ⟨g, 0, none⟩)) (w : World) :
    (execOp ρ o).run Try.prog w = .ok (.value (.pointer (some ⟨g, 0, none⟩))) w := by
  unfold execOp
  rw [ho]
  go_simp
theorem op_load3 {x : Operand} {g i : Nat} {k : Int} {w : World} (ho : o.op = .load 3 x) (h1 : ρ x = .pointer (some ⟨g, i, none⟩)) (hc : w.cell? ⟨g, i, none⟩ = some (.int .i64 k)) :
    (execOp ρ o).run Try.prog w = .ok (.value (.int .i64 k)) w := by
  unfold execOp
  rw [ho]
  go_simp
theorem op_load25 {x : Operand} {g i n c : Nat} {a : Option Addr} {w : World} (ho : o.op = .load 25 x) (h1 : ρ x = .pointer (some ⟨g, i, none⟩)) (hc : w.cell? ⟨g, i, none⟩ = some (.slice a n c)) :
    (execOp ρ o).run Try.prog w = .ok (.value (.slice a n c)) w := by
  unfold execOp
  rw [ho]
  go_simp
theorem op_len25 {x : Operand} {n c : Nat} {a : Option Addr} (ho : o.op = .call { callee := .builtin .len, args := #[x], argTypes := #[25] }) (h1 : ρ x = .slice a n c) (w : World) :
    (execOp ρ o).run Try.prog w = .ok (.value (.int .i64 (n : Int))) w := by
  unfold execOp
  rw [ho]
  go_simp
theorem op_neq3 {x y : Operand} {a b : Int} {r : Bool} (ho : o.op = .binOp .neq 3 x y 3) (h1 : ρ x = .int .i64 a) (h2 : ρ y = .int .i64 b) (hr : (a != b) = r) (w : World) :
    (execOp ρ o).run Try.prog w = .ok (.value (.bool r)) w := by
  subst hr
  unfold execOp
  rw [ho]
  go_simp
theorem op_eql26 {x y : Operand} {a b : Int} {r : Bool} (ho : o.op = .binOp .eql 26 x y 26) (h1 : ρ x = .int .u64 a) (h2 : ρ y = .int .u64 b) (hr : (a == b) = r) (w : World) :
    (execOp ρ o).run Try.prog w = .ok (.value (.bool r)) w := by
  subst hr
  unfold execOp
  rw [ho]
  go_simp
theorem op_not {x : Operand} {b : Bool} (ho : o.op = .unOp .not 4 x) (h1 : ρ x = .bool b) (w : World) :
    (execOp ρ o).run Try.prog w = .ok (.value (.bool (!b))) w := by
  unfold execOp
  rw [ho]
  go_simp
theorem op_call9 {x y : Operand} {u v : Value} (ho : o.op = .call { callee := .value (.func 9), args := #[x, y], argTypes := #[23, 3] }) (h1 : ρ x = u) (h2 : ρ y = v) (hf : ρ (.func 9) = .func (.func 9) #[] #[]) (w : World) :
    (execOp ρ o).run Try.prog w = .ok (.enter 9 #[u, v]) w := by
  unfold execOp
  rw [ho]
  go_simp
theorem op_call10 {x y : Operand} {u v : Value} (ho : o.op = .call { callee := .value (.func 10), args := #[x, y], argTypes := #[23, 3] }) (h1 : ρ x = u) (h2 : ρ y = v) (hf : ρ (.func 10) = .func (.func 10) #[] #[]) (w : World) :
    (execOp ρ o).run Try.prog w = .ok (.enter 10 #[u, v]) w := by
  unfold execOp
  rw [ho]
  go_simp
theorem op_call21 {x y : Operand} {u v : Value} (ho : o.op = .call { callee := .value (.func 21), args := #[x, y], argTypes := #[23, 3] }) (h1 : ρ x = u) (h2 : ρ y = v) (hf : ρ (.func 21) = .func (.func 21) #[] #[]) (w : World) :
    (execOp ρ o).run Try.prog w = .ok (.enter 21 #[u, v]) w := by
  unfold execOp
  rw [ho]
  go_simp
theorem op_call19 {x y : Operand} {u v : Value} (ho : o.op = .call { callee := .value (.func 19), args := #[x, y], argTypes := #[40, 3] }) (h1 : ρ x = u) (h2 : ρ y = v) (hf : ρ (.func 19) = .func (.func 19) #[] #[]) (w : World) :
    (execOp ρ o).run Try.prog w = .ok (.enter 19 #[u, v]) w := by
  unfold execOp
  rw [ho]
  go_simp
theorem op_call20 {x y : Operand} {u v : Value} (ho : o.op = .call { callee := .value (.func 20), args := #[x, y], argTypes := #[40, 3] }) (h1 : ρ x = u) (h2 : ρ y = v) (hf : ρ (.func 20) = .func (.func 20) #[] #[]) (w : World) :
    (execOp ρ o).run Try.prog w = .ok (.enter 20 #[u, v]) w := by
  unfold execOp
  rw [ho]
  go_simp
theorem op_call22 {x y : Operand} {u v : Value} (ho : o.op = .call { callee := .value (.func 22), args := #[x, y], argTypes := #[40, 3] }) (h1 : ρ x = u) (h2 : ρ y = v) (hf : ρ (.func 22) = .func (.func 22) #[] #[]) (w : World) :
    (execOp ρ o).run Try.prog w = .ok (.enter 22 #[u, v]) w := by
  unfold execOp
  rw [ho]
  go_simp
theorem op_call11 {x : Operand} {u : Value} (ho : o.op = .call { callee := .value (.func 11), args := #[x], argTypes := #[23] }) (h1 : ρ x = u) (hf : ρ (.func 11) = .func (.func 11) #[] #[]) (w : World) :
    (execOp ρ o).run Try.prog w = .ok (.enter 11 #[u]) w := by
  unfold execOp
  rw [ho]
  go_simp
theorem op_call12 {x : Operand} {u : Value} (ho : o.op = .call { callee := .value (.func 12), args := #[x], argTypes := #[23] }) (h1 : ρ x = u) (hf : ρ (.func 12) = .func (.func 12) #[] #[]) (w : World) :
    (execOp ρ o).run Try.prog w = .ok (.enter 12 #[u]) w := by
  unfold execOp
  rw [ho]
  go_simp
theorem op_call13 {x : Operand} {u : Value} (ho : o.op = .call { callee := .value (.func 13), args := #[x], argTypes := #[23] }) (h1 : ρ x = u) (hf : ρ (.func 13) = .func (.func 13) #[] #[]) (w : World) :
    (execOp ρ o).run Try.prog w = .ok (.enter 13 #[u]) w := by
  unfold execOp
  rw [ho]
  go_simp
theorem op_call23 {x : Operand} {u : Value} (ho : o.op = .call { callee := .value (.func 23), args := #[x], argTypes := #[40] }) (h1 : ρ x = u) (hf : ρ (.func 23) = .func (.func 23) #[] #[]) (w : World) :
    (execOp ρ o).run Try.prog w = .ok (.enter 23 #[u]) w := by
  unfold execOp
  rw [ho]
  go_simp
end
end Go.Proofs.Ytpejbpmdfbdphaa
