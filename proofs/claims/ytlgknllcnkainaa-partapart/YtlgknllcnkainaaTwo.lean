/-
  The program's map and the document's, side by side in memory.
-/
import Derived.Test.YtlgknllcnkainaaRTell
import Derived.Test.YtlgknllcnkainaaRestart
import Derived.Test.YtlgknllcnkainaaPAlive
import Derived.Test.YtlgknllcnkainaaKit2
namespace Go.Proofs.Ytlgknllcnkainaa
open Go.RowKit

/-- Where things lie: the program's map and device (m, p), the document's (n, q). -/
structure Two (N : Nat) (sa : Option Addr) (sc : Nat) (F D G E : List Nat) (w : World) (m p n q : Nat) (d : DM) (r : RM) (x y : MX) : Prop where
  prog : PMap F D w m p d x
  doc : RPMap N sa sc G E w n q r y
  above : ∀ k ∈ F ++ D, N ≤ k
  apart : ∀ k ∈ F ++ D, k ∉ G ++ E
section
variable {N sc : Nat} {sa : Option Addr} {F D G E F' D' : List Nat} {w w' : World} {m p n q : Nat} {d d' : DM} {r r' : RM} {x y x' : MX}
theorem Two.size (h : Two N sa sc F D G E w m p n q d r x y) : N ≤ w.heap.size := h.doc.size
theorem Two.below (h : Two N sa sc F D G E w m p n q d r x y) (hb : Below w.heap.size w w') : Two N sa sc F D G E w' m p n q d r x y :=
  { h with prog := h.prog.below hb, doc := h.doc.below hb }
theorem Turns.above {N : Nat} {F F' : List Nat} {w w' : World} (ht : Turns F F' w w') (h : ∀ k ∈ F, N ≤ k) (hN : N ≤ w.heap.size) : ∀ k ∈ F', N ≤ k := fun k hk => by
  rcases ht.2 k hk with e | e
  · exact h k e
  · exact Nat.le_trans hN e
theorem Two.turnP (h : Two N sa sc F D G E w m p n q d r x y) (ht : Turns (F ++ D) (F' ++ D') w w') (hp : PMap F' D' w' m p d' x') : Two N sa sc F' D' G E w' m p n q d' r x' y ∧ Below N w w' :=
  ⟨{ prog := hp, doc := h.doc.but ht.1 (fun k hk e => h.apart k e hk) h.above, above := ht.above h.above h.size,
     apart := fun k hk e => ht.apart (G := G ++ E) (fun k hk e => h.apart k e hk) h.doc.lt k e hk }, ht.1.below h.above h.size⟩
theorem Two.turnR (h : Two N sa sc F D G E w m p n q d r x y) (ht : Turns (G ++ E) (F' ++ D') w w') (hp : RPMap N sa sc F' D' w' n q r' x') : Two N sa sc F D F' D' w' m p n q d r' x x' ∧ Below N w w' :=
  ⟨{ prog := h.prog.but ht.1 h.apart, doc := hp, above := h.above, apart := fun k hk => ht.apart (G := F ++ D) h.apart h.prog.lt k hk }, ht.1.below h.doc.above h.size⟩
/-- A block that is none of theirs. -/
theorem Turns.keep {b : Nat} {cs : List Value} (ht : Turns F F' w w') (hA : Arr w b cs) (hb : b ∉ F) : Arr w' b cs ∧ b ∉ F' :=
  ⟨hA.same (ht.1.block b hA.lt hb), fun e => by
    rcases ht.2 b e with e | e
    · exact hb e
    · have := hA.lt; omega⟩
end

theorem readD_64 {d : DM} (h : d.Ok) (sz : List Nat) (i j : Int) : (readG readD d sz i j).1.length = 64 := by
  unfold readG
  split
  · exact zeroS_len
  · unfold readD
    split
    · rename_i hh
      exact getD_mem64 h.nowS (by rw [h.now]; exact (hasD_true hh).2)
    · exact zeroS_len
theorem someD_len {d : DM} (h : d.Ok) (sz : List Nat) (i : Int) : ∀ n, (someG readD d sz i n).length = n * 64
  | 0 => by rw [someG_zero]; rfl
  | n + 1 => by
    rw [someG_succ, List.length_append, someD_len h sz i n, readD_64 h]
    omega
theorem wipe_wait (i : Int) : ∀ (n a : Nat) (d : DM) (x : MX), (wipeG readD eraseD d x i a n).2.1.wait.length ≤ d.wait.length + n ∧ (wipeG readD eraseD d x i a n).2.2.ops.length ≤ x.ops.length + n ∧ (wipeG readD eraseD d x i a n).2.2.sz = x.sz
  | 0, _, d, x => ⟨Nat.le_refl _, Nat.le_refl _, rfl⟩
  | n + 1, a, d, x => by
    have h1 := opG_wait 1 erase_wait d x i (a : Int)
    have h2 := opG_ops 1 eraseD d x i (a : Int)
    have h3 := opG_sz 1 eraseD d x i (a : Int)
    unfold wipeG
    split
    · have := wipe_wait i n (a + 1) d x
      exact ⟨by omega, by omega, this.2.2⟩
    · split
      · exact ⟨by omega, by omega, h3⟩
      · have := wipe_wait i n (a + 1) (opG 1 eraseD d x i (a : Int)).2.1 (opG 1 eraseD d x i (a : Int)).2.2
        exact ⟨by omega, by omega, this.2.2.trans h3⟩
theorem wipeM_wait (d : DM) (x : MX) (i : Int) (hs : x.sz.sum ≤ 4096) : (wipeM d x i).2.1.wait.length ≤ d.wait.length + 4096 ∧ (wipeM d x i).2.2.ops.length ≤ x.ops.length + 4096 ∧ (wipeM d x i).2.2.sz = x.sz := by
  have hz := sizeX_le x.sz i
  unfold wipeM wipeAll
  split
  · exact ⟨by show d.wait.length ≤ _; omega, by show x.ops.length ≤ _; omega, rfl⟩
  · have := wipe_wait i (sizeX x.sz i) 0 d x
    exact ⟨by omega, by omega, this.2.2⟩
/-- A slice that shows these bytes. -/
def Shows (bs : List UInt8) (v : Value) (w : World) : Prop := RowV w.heap.size w v bs
theorem Shows.grow {bs : List UInt8} {v : Value} {w w' : World} (h : Shows bs v w) (hb : Below w.heap.size w w') : Shows bs v w' := (RowV.below h hb).up hb.size
/-- Values that no memory changes, and slices that show bytes (numbers i1 and i2). -/
def showV (f : Nat → Value) (i1 i2 : Nat) (b1 b2 : List UInt8) : Nat → Value → Unit → World → Prop := fun j v _ w => if j = i1 then Shows b1 v w else if j = i2 then Shows b2 v w else v = f j
theorem showV.grow {f : Nat → Value} {i1 i2 : Nat} {b1 b2 : List UInt8} {L : Nat → Bool} {w w' : World} (hb : Below w.heap.size w w') : ∀ j u, L j = true → showV f i1 i2 b1 b2 j u () w → showV f i1 i2 b1 b2 j u () w' := fun j u _ h => by
  unfold showV at *
  split
  · rename_i e; rw [if_pos e] at h; exact h.grow hb
  · rename_i e
    rw [if_neg e] at h
    split
    · rename_i e2; rw [if_pos e2] at h; exact h.grow hb
    · rename_i e2; rw [if_neg e2] at h; exact h
theorem tx_self (l : List UInt8) : ((tx l).toList == (tx l).toList) = true := by simp
section
variable {ρ : Operand → Value} {o : Oper}
theorem op_call18 {x0 : Operand} {v0 : Value} (ho : o.op = .call { callee := .value (.func 18), args := #[x0], argTypes := #[5] }) (h0 : ρ x0 = v0) (hf : ρ (.func 18) = .func (.func 18) #[] #[]) (w : World) : (execOp ρ o).run Try.prog w = .ok (.enter 18 #[v0]) w := by
  unfold execOp
  rw [ho]
  go_simp
theorem op_call11 {x0 x1 x2 x3 : Operand} {v0 v1 v2 v3 : Value} (ho : o.op = .call { callee := .value (.func 11), args := #[x0, x1, x2, x3], argTypes := #[25, 3, 3, 30] }) (h0 : ρ x0 = v0) (h1 : ρ x1 = v1) (h2 : ρ x2 = v2) (h3 : ρ x3 = v3) (hf : ρ (.func 11) = .func (.func 11) #[] #[]) (w : World) : (execOp ρ o).run Try.prog w = .ok (.enter 11 #[v0, v1, v2, v3]) w := by
  unfold execOp
  rw [ho]
  go_simp
theorem op_call19 {x0 x1 x2 x3 : Operand} {v0 v1 v2 v3 : Value} (ho : o.op = .call { callee := .value (.func 19), args := #[x0, x1, x2, x3], argTypes := #[44, 3, 3, 30] }) (h0 : ρ x0 = v0) (h1 : ρ x1 = v1) (h2 : ρ x2 = v2) (h3 : ρ x3 = v3) (hf : ρ (.func 19) = .func (.func 19) #[] #[]) (w : World) : (execOp ρ o).run Try.prog w = .ok (.enter 19 #[v0, v1, v2, v3]) w := by
  unfold execOp
  rw [ho]
  go_simp
theorem op_call10 {x0 x1 : Operand} {v0 v1 : Value} (ho : o.op = .call { callee := .value (.func 10), args := #[x0, x1], argTypes := #[25, 3] }) (h0 : ρ x0 = v0) (h1 : ρ x1 = v1) (hf : ρ (.func 10) = .func (.func 10) #[] #[]) (w : World) : (execOp ρ o).run Try.prog w = .ok (.enter 10 #[v0, v1]) w := by
  unfold execOp
  rw [ho]
  go_simp
theorem op_call15 {x0 x1 : Operand} {v0 v1 : Value} (ho : o.op = .call { callee := .value (.func 15), args := #[x0, x1], argTypes := #[25, 3] }) (h0 : ρ x0 = v0) (h1 : ρ x1 = v1) (hf : ρ (.func 15) = .func (.func 15) #[] #[]) (w : World) : (execOp ρ o).run Try.prog w = .ok (.enter 15 #[v0, v1]) w := by
  unfold execOp
  rw [ho]
  go_simp
theorem op_call28 {x0 x1 : Operand} {v0 v1 : Value} (ho : o.op = .call { callee := .value (.func 28), args := #[x0, x1], argTypes := #[25, 3] }) (h0 : ρ x0 = v0) (h1 : ρ x1 = v1) (hf : ρ (.func 28) = .func (.func 28) #[] #[]) (w : World) : (execOp ρ o).run Try.prog w = .ok (.enter 28 #[v0, v1]) w := by
  unfold execOp
  rw [ho]
  go_simp
theorem op_call29 {x0 x1 : Operand} {v0 v1 : Value} (ho : o.op = .call { callee := .value (.func 29), args := #[x0, x1], argTypes := #[44, 3] }) (h0 : ρ x0 = v0) (h1 : ρ x1 = v1) (hf : ρ (.func 29) = .func (.func 29) #[] #[]) (w : World) : (execOp ρ o).run Try.prog w = .ok (.enter 29 #[v0, v1]) w := by
  unfold execOp
  rw [ho]
  go_simp
theorem op_call25 {x0 x1 : Operand} {v0 v1 : Value} (ho : o.op = .call { callee := .value (.func 25), args := #[x0, x1], argTypes := #[45, 3] }) (h0 : ρ x0 = v0) (h1 : ρ x1 = v1) (hf : ρ (.func 25) = .func (.func 25) #[] #[]) (w : World) : (execOp ρ o).run Try.prog w = .ok (.enter 25 #[v0, v1]) w := by
  unfold execOp
  rw [ho]
  go_simp
theorem op_call27 {x0 x1 : Operand} {v0 v1 : Value} (ho : o.op = .call { callee := .value (.func 27), args := #[x0, x1], argTypes := #[45, 49] }) (h0 : ρ x0 = v0) (h1 : ρ x1 = v1) (hf : ρ (.func 27) = .func (.func 27) #[] #[]) (w : World) : (execOp ρ o).run Try.prog w = .ok (.enter 27 #[v0, v1]) w := by
  unfold execOp
  rw [ho]
  go_simp
end
theorem built48 (q n c : Nat) (sa : Option Addr) : Try.prog.built 48 [(0, .pointer (some ⟨q, 0, none⟩)), (1, .slice sa n c)] = some #[.pointer (some ⟨q, 0, none⟩), .slice sa n c, .int .i64 0, .slice none 0 0] := by kernel_rfl
end Go.Proofs.Ytlgknllcnkainaa
