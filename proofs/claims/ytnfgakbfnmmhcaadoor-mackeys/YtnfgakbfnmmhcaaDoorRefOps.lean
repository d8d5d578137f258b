/-
  Single operations of the document's Sum, at whatever frame; what stays as it is through its loops.
-/
import Derived.Test.YtnfgakbfnmmhcaaDoorRefMath
import Derived.Test.YtnfgakbfnmmhcaaDoorWrite
namespace Go.Proofs.YtnfgakbfnmmhcaaDoor
open Go.RowKit

theorem run_sub {ρ : Operand → Value} {o : Oper} {t n k : Nat} (ho : o.op = .binOp .sub 3 (.tmp t) (.const (.int .i64 (k : Int))) 3) (h : ρ (.tmp t) = .int .i64 (n : Int)) (h' : ρ (.const (.int .i64 (k : Int))) = .int .i64 (k : Int)) (hk : k ≤ n) (hn : n ≤ 100) (w : World) :
    (execOp ρ o).run Tryd.prog w = .ok (.value (.int .i64 ((n - k : Nat) : Int))) w := by
  have e : ((n - k : Nat) : Int) = (n : Int) - (k : Int) := by omega
  have h1 : (k : Int) ≤ (n : Int) := by omega
  have h2 : (n : Int) ≤ 100 := by omega
  have h3 : IntKind.i64.wrap ((n : Int) - (k : Int)) = (n : Int) - (k : Int) := by rw [IntKind.wrap_i64]; omega
  rw [e]
  unfold execOp
  rw [ho]
  go_simp
theorem run_idx45 {ρ : Operand → Value} {o : Oper} {t u b n : Nat} (ho : o.op = .indexAddr 46 (.tmp t) (.tmp u)) (h : ρ (.tmp t) = .pointer (some ⟨b, 0, none⟩)) (h' : ρ (.tmp u) = .int .i64 (n : Int)) (hn : n < 64) (w : World) :
    (execOp ρ o).run Tryd.prog w = .ok (.value (.pointer (some ⟨b, n, none⟩))) w := by
  have h1 : (0 : Int) ≤ (n : Int) := by omega
  have h2 : (n : Int) < 64 := by omega
  unfold execOp
  rw [ho]
  go_simp
theorem run_call20 {ρ : Operand → Value} {o : Oper} {t : Nat} {v : Value} {k : Int} (ho : o.op = .call { callee := .value (.func 20), args := #[.tmp t, .const (.int .u64 k)], argTypes := #[43, 43] }) (hf : ρ (.func 20) = .func (.func 20) #[] #[]) (h : ρ (.tmp t) = v) (h' : ρ (.const (.int .u64 k)) = .int .u64 k) (w : World) :
    (execOp ρ o).run Tryd.prog w = .ok (.enter 20 #[v, .int .u64 k]) w := by
  unfold execOp
  rw [ho]
  go_simp
theorem run_xor64 {ρ : Operand → Value} {o : Oper} {t u : Nat} {x y : BitVec 32} (ho : o.op = .binOp .xor 43 (.tmp t) (.tmp u) 43) (h : ρ (.tmp t) = .int .u64 (N32 x)) (h' : ρ (.tmp u) = .int .u64 (N32 y)) (w : World) :
    (execOp ρ o).run Tryd.prog w = .ok (.value (.int .u64 (N32 (x ^^^ y)))) w := by
  have hb := xor64 x y
  unfold execOp
  rw [ho]
  go_simp
theorem run_shr3 {ρ : Operand → Value} {o : Oper} {t : Nat} {x : BitVec 32} (ho : o.op = .binOp .shr 43 (.tmp t) (.const (.int .u64 3)) 42) (h : ρ (.tmp t) = .int .u64 (N32 x)) (h' : ρ (.const (.int .u64 3)) = .int .u64 3) (w : World) :
    (execOp ρ o).run Tryd.prog w = .ok (.value (.int .u64 (N32 (x >>> 3)))) w := by
  have hb : N32 (x >>> (3 : Nat)) = N32 x / (8 : Int) := (shr_N32 x 3).symm
  rw [hb]
  unfold execOp
  rw [ho]
  go_simp
theorem run_shr10 {ρ : Operand → Value} {o : Oper} {t : Nat} {x : BitVec 32} (ho : o.op = .binOp .shr 43 (.tmp t) (.const (.int .u64 10)) 42) (h : ρ (.tmp t) = .int .u64 (N32 x)) (h' : ρ (.const (.int .u64 10)) = .int .u64 10) (w : World) :
    (execOp ρ o).run Tryd.prog w = .ok (.value (.int .u64 (N32 (x >>> 10)))) w := by
  have hb : N32 (x >>> (10 : Nat)) = N32 x / (1024 : Int) := (shr_N32 x 10).symm
  rw [hb]
  unfold execOp
  rw [ho]
  go_simp
theorem run_add64 {ρ : Operand → Value} {o : Oper} {t u : Nat} {x y : Int} (ho : o.op = .binOp .add 43 (.tmp t) (.tmp u) 43) (h : ρ (.tmp t) = .int .u64 x) (h' : ρ (.tmp u) = .int .u64 y) (hx : 0 ≤ x) (hx' : x < 1099511627776) (hy : 0 ≤ y) (hy' : y < 1099511627776) (w : World) :
    (execOp ρ o).run Tryd.prog w = .ok (.value (.int .u64 (x + y))) w := by
  have e : IntKind.u64.wrap (x + y) = x + y := by rw [wrap64u]; omega
  unfold execOp
  rw [ho]
  go_simp
theorem run_base {ρ : Operand → Value} {o : Oper} {t : Nat} {x : Int} {y : BitVec 32} (ho : o.op = .binOp .rem 43 (.tmp t) (.const (.int .u64 4294967296)) 43) (h : ρ (.tmp t) = .int .u64 x) (h' : ρ (.const (.int .u64 4294967296)) = .int .u64 4294967296) (hx : 0 ≤ x) (hy : x % 4294967296 = N32 y) (w : World) :
    (execOp ρ o).run Tryd.prog w = .ok (.value (.int .u64 (N32 y))) w := by
  have e : x.tmod 4294967296 = N32 y := by rw [Int.tmod_eq_emod_of_nonneg hx]; exact hy
  rw [← e]
  clear hy e
  unfold execOp
  rw [ho]
  go_simp

theorem run_mul256 {ρ : Operand → Value} {o : Oper} {t : Nat} {x : BitVec 32} (ho : o.op = .binOp .mul 43 (.const (.int .u64 256)) (.tmp t) 43) (h : ρ (.tmp t) = .int .u64 (N32 x)) (h' : ρ (.const (.int .u64 256)) = .int .u64 256) (w : World) :
    (execOp ρ o).run Tryd.prog w = .ok (.value (.int .u64 (256 * N32 x))) w := by
  have e : IntKind.u64.wrap (256 * N32 x) = 256 * N32 x := by rw [wrap64u]; have := N32_lo x; have := N32_hi x; omega
  unfold execOp
  rw [ho]
  go_simp
theorem run_mul4 {ρ : Operand → Value} {o : Oper} {t n : Nat} (ho : o.op = .binOp .mul 3 (.const (.int .i64 4)) (.tmp t) 3) (h : ρ (.tmp t) = .int .i64 (n : Int)) (h' : ρ (.const (.int .i64 4)) = .int .i64 4) (hn : n ≤ 100) (w : World) :
    (execOp ρ o).run Tryd.prog w = .ok (.value (.int .i64 ((4 * n : Nat) : Int))) w := by
  have e : IntKind.i64.wrap (4 * (n : Int)) = 4 * (n : Int) := by rw [IntKind.wrap_i64]; omega
  unfold execOp
  rw [ho]
  go_simp
theorem run_addi {ρ : Operand → Value} {o : Oper} {t u n m : Nat} (ho : o.op = .binOp .add 3 (.tmp t) (.tmp u) 3) (h : ρ (.tmp t) = .int .i64 (n : Int)) (h' : ρ (.tmp u) = .int .i64 (m : Int)) (hn : n ≤ 100000) (hm : m ≤ 100000) (w : World) :
    (execOp ρ o).run Tryd.prog w = .ok (.value (.int .i64 ((n + m : Nat) : Int))) w := by
  have e : IntKind.i64.wrap ((n : Int) + (m : Int)) = (n : Int) + (m : Int) := by rw [IntKind.wrap_i64]; omega
  unfold execOp
  rw [ho]
  go_simp
theorem run_idx22 {ρ : Operand → Value} {o : Oper} {t u g len cap n : Nat} (ho : o.op = .indexAddr 22 (.tmp t) (.tmp u)) (h : ρ (.tmp t) = .slice (some ⟨g, 0, none⟩) len cap) (h' : ρ (.tmp u) = .int .i64 (n : Int)) (hn : n < len) (w : World) :
    (execOp ρ o).run Tryd.prog w = .ok (.value (.pointer (some ⟨g, n, none⟩))) w := by
  have h1 : (0 : Int) ≤ (n : Int) := by omega
  have h2 : (n : Int) < (len : Int) := by omega
  unfold execOp
  rw [ho]
  go_simp
theorem run_load5 {ρ : Operand → Value} {o : Oper} {x : Operand} {p : Addr} {v : Value} {w : World} (ho : o.op = .load 5 x) (h : ρ x = .pointer (some p)) (hc : w.cell? p = some v) :
    (execOp ρ o).run Tryd.prog w = .ok (.value v) w := by
  unfold execOp
  rw [ho]
  go_simp
theorem run_conv5 {ρ : Operand → Value} {o : Oper} {t : Nat} {c : BitVec 8} (ho : o.op = .convert 5 43 (.tmp t)) (h : ρ (.tmp t) = .int .u8 ((c.toNat : Nat) : Int)) (w : World) :
    (execOp ρ o).run Tryd.prog w = .ok (.value (.int .u64 ((c.toNat : Nat) : Int))) w := by
  have h1 := c.isLt
  have e : IntKind.u64.wrap ((c.toNat : Nat) : Int) = ((c.toNat : Nat) : Int) := by rw [wrap64u]; omega
  unfold execOp
  rw [ho]
  go_simp

theorem run_idx43 {ρ : Operand → Value} {o : Oper} {t b : Nat} (ho : o.op = .indexAddr 44 (.tmp t) (.const (.int .i64 0))) (h : ρ (.tmp t) = .pointer (some ⟨b, 0, none⟩)) (h' : ρ (.const (.int .i64 0)) = .int .i64 0) (w : World) :
    (execOp ρ o).run Tryd.prog w = .ok (.value (.pointer (some ⟨b, 0, none⟩))) w := by
  unfold execOp
  rw [ho]
  go_simp

theorem run_idx43v {ρ : Operand → Value} {o : Oper} {t u b n : Nat} (ho : o.op = .indexAddr 44 (.tmp t) (.tmp u)) (h : ρ (.tmp t) = .pointer (some ⟨b, 0, none⟩)) (h' : ρ (.tmp u) = .int .i64 (n : Int)) (hn : n < 8) (w : World) :
    (execOp ρ o).run Tryd.prog w = .ok (.value (.pointer (some ⟨b, n, none⟩))) w := by
  have h1 : (0 : Int) ≤ (n : Int) := by omega
  have h2 : (n : Int) < 8 := by omega
  unfold execOp
  rw [ho]
  go_simp

/-- What the operations of the region that adds yield. -/
def VA (b7 b15 i : Nat) (x y : BitVec 32) : Nat → Value → World → Prop
  | 0, v, _ => v = .int .i64 (i : Int)
  | 1, v, _ => v = .int .i64 (i : Int)
  | 2, v, _ => v = .pointer (some ⟨b7, i, none⟩)
  | 3, v, _ => v = .int .u64 (N32 x)
  | 4, v, _ => v = .int .i64 (i : Int)
  | 5, v, _ => v = .pointer (some ⟨b15, i, none⟩)
  | 6, v, _ => v = .int .u64 (N32 y)
  | 7, v, _ => v = .int .u64 (N32 x + N32 y)
  | 8, v, _ => v = .int .u64 (N32 (x + y))
  | 9, v, _ => v = .pointer (some ⟨b7, i, none⟩)
  | _, _, _ => True

theorem VA.stable {b7 b15 i : Nat} {x y : BitVec 32} (j : Nat) (v : Value) (w w' : World) (h : VA b7 b15 i x y j v w) (_ : Below w.heap.size w w') : VA b7 b15 i x y j v w' := by
  unfold VA at *
  split at h <;> exact h

/-- What the operations of the region on the second sum yield. -/
def VS (b : Nat) (a maj : BitVec 32) : Nat → Value → World → Prop
  | 0, v, _ => v = .pointer (some ⟨b, 0, none⟩)
  | 1, v, _ => v = .int .u64 (N32 a)
  | 2, v, _ => v = .int .u64 (N32 (Sha.rotr a 2))
  | 3, v, _ => v = .pointer (some ⟨b, 0, none⟩)
  | 4, v, _ => v = .int .u64 (N32 a)
  | 5, v, _ => v = .int .u64 (N32 (Sha.rotr a 13))
  | 6, v, _ => v = .int .u64 (N32 (Sha.rotr a 2 ^^^ Sha.rotr a 13))
  | 7, v, _ => v = .pointer (some ⟨b, 0, none⟩)
  | 8, v, _ => v = .int .u64 (N32 a)
  | 9, v, _ => v = .int .u64 (N32 (Sha.rotr a 22))
  | 10, v, _ => v = .int .u64 (N32 (Sha.rotr a 2 ^^^ Sha.rotr a 13 ^^^ Sha.rotr a 22))
  | 11, v, _ => v = .int .u64 (N32 maj)
  | 12, v, _ => v = .int .u64 (N32 (Sha.rotr a 2 ^^^ Sha.rotr a 13 ^^^ Sha.rotr a 22) + N32 maj)
  | 13, v, _ => v = .int .u64 (N32 (Sha.rotr a 2 ^^^ Sha.rotr a 13 ^^^ Sha.rotr a 22) + N32 maj)
  | _, _, _ => True

theorem VS.stable {b : Nat} {a maj : BitVec 32} (j : Nat) (v : Value) (w w' : World) (h : VS b a maj j v w) (_ : Below w.heap.size w w') : VS b a maj j v w' := by
  unfold VS at *
  split at h <;> exact h

/-- What the operations of the region on the next byte yield. -/
def VP (t b q k g L cap : Nat) (x : BitVec 32) (c : BitVec 8) : Nat → Value → World → Prop
  | 0, v, _ => v = .int .i64 (t : Int)
  | 1, v, _ => v = .int .i64 (t : Int)
  | 2, v, _ => v = .pointer (some ⟨b, t, none⟩)
  | 3, v, _ => v = .int .u64 (N32 x)
  | 4, v, _ => v = .int .u64 (256 * N32 x)
  | 5, v, _ => v = .slice (some ⟨g, 0, none⟩) L cap
  | 6, v, _ => v = .int .i64 ((64 * q : Nat) : Int)
  | 7, v, _ => v = .int .i64 (t : Int)
  | 8, v, _ => v = .int .i64 ((4 * t : Nat) : Int)
  | 9, v, _ => v = .int .i64 ((64 * q + 4 * t : Nat) : Int)
  | 10, v, _ => v = .int .i64 (k : Int)
  | 11, v, _ => v = .int .i64 ((64 * q + 4 * t + k : Nat) : Int)
  | 12, v, _ => v = .pointer (some ⟨g, 64 * q + 4 * t + k, none⟩)
  | 13, v, _ => v = .int .u8 ((c.toNat : Nat) : Int)
  | 14, v, _ => v = .int .u64 ((c.toNat : Nat) : Int)
  | 15, v, _ => v = .int .u64 (256 * N32 x + ((c.toNat : Nat) : Int))
  | 16, v, _ => v = .pointer (some ⟨b, t, none⟩)
  | _, _, _ => True

theorem VP.stable {t b q k g L cap : Nat} {x : BitVec 32} {c : BitVec 8} (j : Nat) (v : Value) (w w' : World) (h : VP t b q k g L cap x c j v w) (_ : Below w.heap.size w w') : VP t b q k g L cap x c j v w' := by
  unfold VP at *
  split at h <;> exact h

/-- What stays as it is. -/
structure Env (w wr : World) (g L b8 : Nat) (S : List (BitVec 8)) : Prop where
  row : Row wr (some ⟨g, 0, none⟩) L S
  roots : Arr wr b8 (quadsV Sha.K)
  res : Arr wr w.heap.size (bytesV zerosB)
  below : Below w.heap.size w wr

theorem Env.keep {w wr w' : World} {g L b8 : Nat} {S : List (BitVec 8)} (h : Env w wr g L b8 S) (hb : Below wr.heap.size wr w') : Env w w' g L b8 S :=
  ⟨h.row.below hb, h.roots.below hb, h.res.below hb, h.below.trans (hb.mono h.below.size)⟩
theorem Env.grown {w wr w' : World} {g L b8 c : Nat} {S : List (BitVec 8)} (h : Env w wr g L b8 S) (hg : wr.grownBy w' (some c)) (h1 : c ≠ g) (h2 : c ≠ b8) (h3 : w.heap.size < c) : Env w w' g L b8 S :=
  ⟨h.row.other hg (fun ad e => by cases e; exact fun e' => h1 e'.symm), h.roots.grown hg (by simpa using fun e => h2 e.symm), h.res.grown hg (by simp; omega), h.below.grown hg h.below.size (fun k hk => by simp at hk; omega)⟩
theorem grown_set (w : World) (b i : Nat) (v : Value) : w.grownBy (w.setCell ⟨b, i, none⟩ v) (some b) :=
  ⟨rfl, rfl, rfl, by simp [World.setCell], fun k hk hne => Below.heap_setCell _ _ _ _ (by simpa using hne)⟩
theorem Env.set {w wr : World} {g L b8 c : Nat} {S : List (BitVec 8)} (h : Env w wr g L b8 S) (i : Nat) (v : Value) (h1 : c ≠ g) (h2 : c ≠ b8) (h3 : w.heap.size < c) : Env w (wr.setCell ⟨c, i, none⟩ v) g L b8 S :=
  h.grown (grown_set wr c i v) h1 h2 h3
theorem Env.drewN {w wr : World} {g L b8 : Nat} {S : List (BitVec 8)} (h : Env w wr g L b8 S) (n : Nat) : Env w (wr.drewN n) g L b8 S :=
  h.keep (below_drewN (Below.refl _ _) n)

theorem Env.drew {w wr : World} {g L b8 : Nat} {S : List (BitVec 8)} (h : Env w wr g L b8 S) : Env w wr.drew g L b8 S :=
  h.keep (Below.drew (Below.refl _ _))

/-- What the operations of the region on the next word yield. -/
def VQ (t b : Nat) (x16 x15 x7 x2 : BitVec 32) : Nat → Value → World → Prop
  | 0, v, _ => v = .int .i64 (t : Int)
  | 1, v, _ => v = .int .i64 (t : Int)
  | 2, v, _ => v = .int .i64 ((t - 16 : Nat) : Int)
  | 3, v, _ => v = .pointer (some ⟨b, t - 16, none⟩)
  | 4, v, _ => v = .int .u64 (N32 x16)
  | 5, v, _ => v = .int .u64 (N32 x15)
  | 6, v, _ => v = .int .u64 (N32 (Sha.rotr x15 7))
  | 7, v, _ => v = .int .u64 (N32 x15)
  | 8, v, _ => v = .int .u64 (N32 (Sha.rotr x15 18))
  | 9, v, _ => v = .int .u64 (N32 (Sha.rotr x15 7 ^^^ Sha.rotr x15 18))
  | 10, v, _ => v = .int .u64 (N32 x15)
  | 11, v, _ => v = .int .u64 (N32 (x15 >>> 3))
  | 12, v, _ => v = .int .u64 (N32 (Sha.s0 x15))
  | 13, v, _ => v = .int .u64 (N32 x16 + N32 (Sha.s0 x15))
  | 14, v, _ => v = .int .i64 (t : Int)
  | 15, v, _ => v = .int .i64 ((t - 7 : Nat) : Int)
  | 16, v, _ => v = .pointer (some ⟨b, t - 7, none⟩)
  | 17, v, _ => v = .int .u64 (N32 x7)
  | 18, v, _ => v = .int .u64 (N32 x16 + N32 (Sha.s0 x15) + N32 x7)
  | 19, v, _ => v = .int .u64 (N32 x2)
  | 20, v, _ => v = .int .u64 (N32 (Sha.rotr x2 17))
  | 21, v, _ => v = .int .u64 (N32 x2)
  | 22, v, _ => v = .int .u64 (N32 (Sha.rotr x2 19))
  | 23, v, _ => v = .int .u64 (N32 (Sha.rotr x2 17 ^^^ Sha.rotr x2 19))
  | 24, v, _ => v = .int .u64 (N32 x2)
  | 25, v, _ => v = .int .u64 (N32 (x2 >>> 10))
  | 26, v, _ => v = .int .u64 (N32 (Sha.s1 x2))
  | 27, v, _ => v = .int .u64 (N32 x16 + N32 (Sha.s0 x15) + N32 x7 + N32 (Sha.s1 x2))
  | 28, v, _ => v = .int .u64 (N32 (x16 + Sha.s0 x15 + x7 + Sha.s1 x2))
  | 29, v, _ => v = .pointer (some ⟨b, t, none⟩)
  | _, _, _ => True

theorem VQ.stable {t b : Nat} {x16 x15 x7 x2 : BitVec 32} (j : Nat) (v : Value) (w w' : World) (h : VQ t b x16 x15 x7 x2 j v w) (_ : Below w.heap.size w w') : VQ t b x16 x15 x7 x2 j v w' := by
  unfold VQ at *
  split at h <;> exact h

end Go.Proofs.YtnfgakbfnmmhcaaDoor
