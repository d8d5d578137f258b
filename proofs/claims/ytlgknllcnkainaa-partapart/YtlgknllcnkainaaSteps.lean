/-
  Each thing done to both maps: both answer the same, and tell the same behind it.
-/
import Derived.Test.YtlgknllcnkainaaTwo
namespace Go.Proofs.Ytlgknllcnkainaa
open Go.RowKit

theorem Flow.two.either {σ : Type} {p : Nat} {A B : σ → World → Prop} {L : Nat → Bool} {s : σ} {w : World} (h : Flow.two p A B L s w) : A s w ∨ B s w := by
  unfold Flow.two at h
  split at h
  · exact .inr h
  · exact .inl h
theorem sync_wait (d : DM) : (syncD d).2.wait.length ≤ d.wait.length := by
  unfold syncD
  split
  · exact Nat.le_refl _
  · split
    · rw [step_wait]; exact Nat.le_refl _
    · exact Nat.zero_le _
section
variable {d : DM} {r : RM}
theorem both_erase (h : Both d r) (x : MX) (i j : Int) : ∃ E d3 r3 x3, eraseM d x i j = (E, d3, x3) ∧ opG 1 eraseR r x i j = (E, r3, x3) ∧ Both d3 r3 ∧ x3.sz = x.sz ∧ x3.ops.length ≤ x.ops.length + 1 ∧ d3.wait.length ≤ d.wait.length + 1 := by
  have h1 := opG_same (R := Both) Both.erase 1 h x i j
  have h2 := opG_sz 1 eraseD d x i j
  have h3 := opG_ops 1 eraseD d x i j
  have h4 := opG_wait 1 erase_wait d x i j
  refine ⟨(opG 1 eraseD d x i j).1, (opG 1 eraseD d x i j).2.1, (opG 1 eraseR r x i j).2.1, (opG 1 eraseD d x i j).2.2, rfl, ?_, h1.2.2, h2, h3, h4⟩
  rw [← h1.1, ← h1.2.1]
theorem both_program (h : Both d r) (x : MX) (i j : Int) {s : Sec} (hs : s.length = 64) : ∃ E d3 r3 x3, programM s d x i j = (E, d3, x3) ∧ opG 2 (fun r i => programR r i s) r x i j = (E, r3, x3) ∧ Both d3 r3 ∧ x3.sz = x.sz ∧ x3.ops.length ≤ x.ops.length + 1 ∧ d3.wait.length ≤ d.wait.length + 1 := by
  have h1 := opG_same (R := Both) (f := fun d i => programD d i s) (g := fun r i => programR r i s) (fun d r i => Both.program hs d r i) 2 h x i j
  have h2 := opG_sz 2 (fun d i => programD d i s) d x i j
  have h3 := opG_ops 2 (fun d i => programD d i s) d x i j
  have h4 := opG_wait 2 (f := fun d i => programD d i s) (fun d i => program_wait d i s) d x i j
  refine ⟨(opG 2 (fun d i => programD d i s) d x i j).1, (opG 2 (fun d i => programD d i s) d x i j).2.1, (opG 2 (fun r i => programR r i s) r x i j).2.1, (opG 2 (fun d i => programD d i s) d x i j).2.2, rfl, ?_, h1.2.2, h2, h3, h4⟩
  rw [← h1.1, ← h1.2.1]
theorem both_wipe (h : Both d r) (x : MX) (i : Int) (hs : x.sz.sum ≤ 4096) : ∃ E d3 r3 x3, wipeM d x i = (E, d3, x3) ∧ wipeAll readR eraseR r x i = (E, r3, x3) ∧ Both d3 r3 ∧ x3.sz = x.sz ∧ x3.ops.length ≤ x.ops.length + 4096 ∧ d3.wait.length ≤ d.wait.length + 4096 := by
  have h1 := wipeAll_same (R := Both) Both.read Both.erase h x i
  have h2 := wipeM_wait d x i hs
  refine ⟨(wipeAll readD eraseD d x i).1, (wipeAll readD eraseD d x i).2.1, (wipeAll readR eraseR r x i).2.1, (wipeAll readD eraseD d x i).2.2, rfl, ?_, h1.2.2, h2.2.2, h2.2.1, h2.1⟩
  rw [← h1.1, ← h1.2.1]
theorem both_sync (h : Both d r) : ∃ E d3 r3, syncD d = (E, d3) ∧ syncR r = (E, r3) ∧ Both d3 r3 ∧ d3.wait.length ≤ d.wait.length ∧ d3.kept.length = d.kept.length ∧ r3.kept.length = r.kept.length := by
  have h1 := h.1.sync
  have h3 := sync_len d
  refine ⟨(syncD d).1, (syncD d).2, (syncR r).2, rfl, by rw [h1.1], ⟨h1.2, h.2.sync⟩, sync_wait d, h3, ?_⟩
  rw [h1.2.kept, h.1.kept]; exact h3
theorem both_limit (h : Both d r) (s : Int) (hs : s ≤ 9223372036854775807) : Both (budgetD d s) (limitR r s) := ⟨h.1.limit s hs, h.2.budget s hs⟩
theorem both_restart (h : Both d r) (bs : List UInt8) : Both (restartD d bs) (restartR r bs) := ⟨h.1.restart bs, h.2.restart bs⟩
theorem both_read (h : Both d r) (sz : List Nat) (i j : Int) : readG readR r sz i j = readM d sz i j := readG_same (fun k => h.1.read k) sz i j
theorem both_all (h : Both d r) (sz : List Nat) (i : Int) : allG readR r sz i = allM d sz i := someG_same (fun k => h.1.read k) sz i _
theorem both_done (h : Both d r) : r.done.length = d.wait.length := by rw [h.1.wait]
theorem all_short (h : Both d r) {sz : List Nat} (hs : sz.sum ≤ 4096) (i : Int) : (allM d sz i).length ≤ 140737488351232 := by
  have h1 := sizeX_le sz i
  have h2 : (allM d sz i).length = sizeX sz i * 64 := someD_len h.2 sz i _
  omega
end
theorem newD_kept6 {s : Nat} (hs : s ≤ 40) (z : Int) : (newD (s : Int) z).kept.length = s := by
  simp only [newD, clampD, List.length_replicate]
  omega
theorem newR_kept6 {s : Nat} (hs : s ≤ 40) (z : Int) : (newR (s : Int) z).kept.length = s := by
  simp only [newR, clampD, List.length_replicate]
  omega
theorem right_sum {n : Nat} {l : List Int} (h : rightD n l = true) : (l.map Int.toNat).sum ≤ n := by
  have h1 := rightD_iff.1 h
  have h2 := toNat_sum h1.2.2.1
  omega
theorem right_get {n : Nat} {l : List Int} (h : rightD n l = true) {i : Nat} (hi : i < l.length) : (((l.map Int.toNat).getD i 0 : Nat) : Int) = l.getD i 0 := by
  have h1 := (rightD_iff.1 h).2.2.1 _ (getD_memI hi)
  rw [map_getD]
  omega
end Go.Proofs.Ytlgknllcnkainaa
namespace Go.Proofs.Ytlgknllcnkainaa
open Go.RowKit
section
variable {ρ : Operand → Value} {o : Oper}
theorem op_idx41o {x y : Operand} {g off n c k : Nat} (ho : o.op = .indexAddr 41 x y) (h1 : ρ x = .slice (some ⟨g, off, none⟩) n c) (h2 : ρ y = .int .i64 (k : Int)) (hk : k < n) (w : World) :
    (execOp ρ o).run Try.prog w = .ok (.value (.pointer (some ⟨g, off + k, none⟩))) w := by
  unfold execOp
  rw [ho]
  go_simp
end
end Go.Proofs.Ytlgknllcnkainaa
