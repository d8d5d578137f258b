/-
  Operations of the last questions of MacTells and MacKeys.
-/
import Derived.Test.YtnfgakbfnmmhcaaDoorAlive
namespace Go.Proofs.YtnfgakbfnmmhcaaDoor.MacAsk
open Go.RowKit

theorem run_load25 {ρ : Operand → Value} {o : Oper} {x : Operand} {b : Nat} {cs : List Value} {w : World} (ho : o.op = .load 25 x) (h : ρ x = .pointer (some ⟨b, 0, none⟩)) (hc : w.rangeAt b 0 cs) (hl : cs.length = 32) :
    (execOp ρ o).run Tryd.prog w = .ok (.value (.agg cs.toArray)) w := by
  have hr := run_loadAt_mid (P := Tryd.prog) w b 0 25 cs _ hc Tryd.underlying25 rfl (by rw [hl]; exact info25)
  unfold execOp
  simp only [ho, h, Sem.run_bind, hr, Result.andThen, Sem.run_pure]
theorem run_eql25 {ρ : Operand → Value} {o : Oper} {x y : Operand} {S : List (BitVec 8)} (hS : S.length = 32) (ho : o.op = .binOp .eql 25 x y 25) (h : ρ x = .agg (bytesV S).toArray) (h' : ρ y = .agg (bytesV S).toArray) (w : World) :
    (execOp ρ o).run Tryd.prog w = .ok (.value (.bool true)) w := by
  have hE := run_equal25 S S hS hS w
  unfold execOp
  rw [ho]
  go_simp
theorem run_pick {ρ : Operand → Value} {o : Oper} {t u : Nat} {v : Value} {x : Operand} (ho : o.op = .pick (.tmp t) (.tmp u) x) (h : ρ (.tmp t) = .bool true) (h' : ρ (.tmp u) = v) (w : World) :
    (execOp ρ o).run Tryd.prog w = .ok (.value v) w := by
  unfold execOp
  rw [ho]
  go_simp
theorem run_build1 {ρ : Operand → Value} {o : Oper} {x : Operand} {aa : Option Addr} {ll cc : Nat} (ho : o.op = .buildSlice 34 1 #[(0, x)]) (h : ρ x = .slice aa ll cc) (w : World) :
    (execOp ρ o).run Tryd.prog w = .ok (.value (.slice (some ⟨w.heap.size, 0, none⟩) 1 1)) (w.alloc (.cells #[.slice aa ll cc] 22)) := by
  unfold execOp
  rw [ho]
  go_simp
theorem run_call8 {ρ : Operand → Value} {o : Oper} {t u : Nat} {v v' : Value} (ho : o.op = .call { callee := .value (.func 8), args := #[.tmp t, .tmp u], argTypes := #[22, 34] }) (hf : ρ (.func 8) = .func (.func 8) #[] #[]) (h : ρ (.tmp t) = v) (h' : ρ (.tmp u) = v') (w : World) :
    (execOp ρ o).run Tryd.prog w = .ok (.enter 8 #[v, v']) w := by
  unfold execOp
  rw [ho]
  go_simp

end Go.Proofs.YtnfgakbfnmmhcaaDoor.MacAsk
