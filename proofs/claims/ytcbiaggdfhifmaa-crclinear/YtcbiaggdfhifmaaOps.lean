/-
  Single operations of a region, at whatever frame: what each yields.
-/
import Derived.Test.YtcbiaggdfhifmaaKit
import Derived.Test.YtcbiaggdfhifmaaFree
import Derived.WalkSpells
import Derived.WalkLawsBesides
namespace Go.Proofs.Ytcbiaggdfhifmaa
open Go.RowKit

theorem run_build {ρ : Operand → Value} {o : Oper} {t : Nat} {aa : Option Addr} {ll cc : Nat} (ho : o.op = .buildSlice 33 1 #[(0, .tmp t)]) (h : ρ (.tmp t) = .slice aa ll cc) (w : World) :
    (execOp ρ o).run Try.prog w = .ok (.value (.slice (some ⟨w.heap.size, 0, none⟩) 1 1)) (w.alloc (.cells #[.slice aa ll cc] 22)) := by
  unfold execOp
  rw [ho]
  go_simp

theorem run_call9 {ρ : Operand → Value} {o : Oper} {t : Nat} {v : Value} (ho : o.op = .call { callee := .value (.func 9), args := #[.tmp t], argTypes := #[33] }) (hf : ρ (.func 9) = .func (.func 9) #[] #[]) (h : ρ (.tmp t) = v) (w : World) :
    (execOp ρ o).run Try.prog w = .ok (.enter 9 #[v]) w := by
  unfold execOp
  rw [ho]
  go_simp

theorem run_first {ρ : Operand → Value} {o : Oper} {t u : Nat} {aa : Option Addr} {ll cc k : Nat} (ho : o.op = .slice 22 (.tmp t) none (some (.tmp u)) none) (h : ρ (.tmp t) = .slice aa ll cc) (h' : ρ (.tmp u) = .int .i64 (k : Int)) (hk : (k : Int) ≤ (cc : Int)) (hk0 : (0 : Int) ≤ (k : Int)) (w : World) :
    (execOp ρ o).run Try.prog w = .ok (.value (.slice aa k cc)) w := by
  unfold execOp
  rw [ho]
  go_simp

theorem run_xor {ρ : Operand → Value} {o : Oper} {t u : Nat} {x y : BitVec 32} (ho : o.op = .binOp .xor 24 (.tmp t) (.tmp u) 24) (h : ρ (.tmp t) = .int .u32 (N32 x)) (h' : ρ (.tmp u) = .int .u32 (N32 y)) (w : World) :
    (execOp ρ o).run Try.prog w = .ok (.value (.int .u32 (N32 (x ^^^ y)))) w := by
  have hb := bits_xor32 x y
  unfold execOp
  rw [ho]
  go_simp

theorem run_eql {ρ : Operand → Value} {o : Oper} {t u : Nat} {x y : Int} (ho : o.op = .binOp .eql 24 (.tmp t) (.tmp u) 24) (h : ρ (.tmp t) = .int .u32 x) (h' : ρ (.tmp u) = .int .u32 y) (w : World) :
    (execOp ρ o).run Try.prog w = .ok (.value (.bool (x == y))) w := by
  unfold execOp
  rw [ho]
  go_simp
theorem run_build3 {ρ : Operand → Value} {o : Oper} {t u : Nat} {aa ab : Option Addr} {ll cc lb cb : Nat} (ho : o.op = .buildSlice 33 3 #[(0, .tmp t), (1, .const (.slice none 0 0)), (2, .tmp u)]) (h : ρ (.tmp t) = .slice aa ll cc) (hc : ρ (.const (.slice none 0 0)) = .slice none 0 0) (h' : ρ (.tmp u) = .slice ab lb cb) (w : World) :
    (execOp ρ o).run Try.prog w = .ok (.value (.slice (some ⟨w.heap.size, 0, none⟩) 3 3)) (w.alloc (.cells #[.slice aa ll cc, .slice none 0 0, .slice ab lb cb] 22)) := by
  unfold execOp
  rw [ho]
  go_simp

theorem run_call9c {ρ : Operand → Value} {o : Oper} (ho : o.op = .call { callee := .value (.func 9), args := #[.const (.slice none 0 0)], argTypes := #[33] }) (hf : ρ (.func 9) = .func (.func 9) #[] #[]) (h : ρ (.const (.slice none 0 0)) = .slice none 0 0) (w : World) :
    (execOp ρ o).run Try.prog w = .ok (.enter 9 #[.slice none 0 0]) w := by
  unfold execOp
  rw [ho]
  go_simp

theorem run_call10 {ρ : Operand → Value} {o : Oper} {t u : Nat} {v v' : Value} (ho : o.op = .call { callee := .value (.func 10), args := #[.tmp t, .tmp u], argTypes := #[24, 22] }) (hf : ρ (.func 10) = .func (.func 10) #[] #[]) (h : ρ (.tmp t) = v) (h' : ρ (.tmp u) = v') (w : World) :
    (execOp ρ o).run Try.prog w = .ok (.enter 10 #[v, v']) w := by
  unfold execOp
  rw [ho]
  go_simp

theorem run_from {ρ : Operand → Value} {o : Oper} {t u : Nat} {aa : Option Addr} {ll cc k : Nat} (ho : o.op = .slice 22 (.tmp t) (some (.tmp u)) none none) (h : ρ (.tmp t) = .slice aa ll cc) (h' : ρ (.tmp u) = .int .i64 (k : Int)) (hk : (k : Int) ≤ (ll : Int)) (hk0 : (0 : Int) ≤ (k : Int)) (w : World) :
    (execOp ρ o).run Try.prog w = .ok (.value (.slice (if cc = k then aa else aa.map fun x => x.add k) (ll - k) (cc - k))) w := by
  unfold execOp
  rw [ho]
  go_simp

theorem run_eqlc {ρ : Operand → Value} {o : Oper} {t : Nat} {x y : Int} (ho : o.op = .binOp .eql 24 (.tmp t) (.const (.int .u32 y)) 24) (h : ρ (.tmp t) = .int .u32 x) (h' : ρ (.const (.int .u32 y)) = .int .u32 y) (w : World) :
    (execOp ρ o).run Try.prog w = .ok (.value (.bool (x == y))) w := by
  unfold execOp
  rw [ho]
  go_simp

theorem run_pick {ρ : Operand → Value} {o : Oper} {t u : Nat} {v : Value} {x : Operand} (ho : o.op = .pick (.tmp t) (.tmp u) x) (h : ρ (.tmp t) = .bool true) (h' : ρ (.tmp u) = v) (w : World) :
    (execOp ρ o).run Try.prog w = .ok (.value v) w := by
  unfold execOp
  rw [ho]
  go_simp
end Go.Proofs.Ytcbiaggdfhifmaa
