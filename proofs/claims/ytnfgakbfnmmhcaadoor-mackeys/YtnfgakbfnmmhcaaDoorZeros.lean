/-
  'append(s, make([]byte, m)...)' onto a slice that the call itself made.
-/
import Derived.Test.YtnfgakbfnmmhcaaDoorQuad
import Derived.Test.YtnfgakbfnmmhcaaDoorMac
import Derived.Lib.AppendZeros
namespace Go.Proofs.YtnfgakbfnmmhcaaDoor
open Go.RowKit

theorem zero_cells (m : Nat) : Builtin.zeroCells (Value.int .u8 0).cells m = (bytesV (List.replicate m 0#8)).toArray := by
  apply Array.ext
  · rw [size_zeroCells]; simp [bytesV, Value.cells]
  · intro j h1 h2
    simp [Builtin.zeroCells, Value.cells, bytesV, Nat.mod_one]

theorem run_grow_zeros (w : World) (ty base g n cap : Nat) (xs : List Value) (m : Nat) (hown : w.ownsRow base 5 1 (.slice (some ⟨g, 0, none⟩) n cap) n xs) (hm : n + m ≤ 1000000) (hbase : base ≤ w.heap.size) :
    ∃ g' cap' w', (Builtin.append_ #[22, 3] ty #[.slice (some ⟨g, 0, none⟩) n cap, .int .i64 (m : Int)]).run Tryd.prog w = .ok (.slice (some ⟨g', 0, none⟩) (n + m) cap') w' ∧
      w'.ownsRow base 5 1 (.slice (some ⟨g', 0, none⟩) (n + m) cap') (n + m) (xs ++ bytesV (List.replicate m 0#8)) ∧ w.grownBy w' (some g) ∧ (g' = g ∨ w.heap.size ≤ g') := by
  obtain ⟨i, hi, hz, hsz, hby⟩ := info5
  have ht := Tryd.underlying22
  have htn := Tryd.underlying3
  have hw : IntKind.i64.wrap (m : Int) = m := by rw [IntKind.wrap_i64]; omega
  have h48i : ¬ (281474976710656 < (m : Int)) := by omega
  have hneg : ¬ ((m : Int) < 0) := by omega
  have hl : (bytesV (List.replicate m 0#8)).length = m := by simp [bytesV]
  have hlen : (xs ++ bytesV (List.replicate m 0#8)).length = (n + m) * 1 := by rw [List.length_append, hown.1, hl]; omega
  have hzc := zero_cells m
  have hone := bytesV_one (List.replicate m 0#8)
  have hcells := hown.cells (g := g) rfl
  rcases hown.2 with ⟨h, _⟩ | ⟨g', cap', cur, hv, hbg, hg, hnc, hcm, hcs, htake⟩
  · simp at h
  · simp at hv
    obtain ⟨rfl, rfl⟩ := hv
    by_cases h0 : m = 0
    · subst h0
      have hw0 : IntKind.i64.wrap 0 = 0 := rfl
      refine ⟨g, cap, w, ?_, by simpa [bytesV] using hown, World.grownBy.refl _ _, .inl rfl⟩
      simp [Builtin.append_, run_underlying ht, run_underlying htn, sizeOf, typeInfo, hi, hby, asInt, asIntOf, hw0, hnc, Addr.add_lit, storeCells]
    by_cases hroom : n + m ≤ cap
    · have hst := run_storeCells_at Tryd.prog g n 5 (bytesV (List.replicate m 0#8)) 0 cur w hg (by rw [hl]; omega) hone
      refine ⟨g, cap, w.setRow g (cur.toList.take (n * 1) ++ bytesV (List.replicate m 0#8) ++ cur.toList.drop (n + m)).toArray, ?_, ⟨hlen, .inr ⟨g, cap, _, rfl, hbg, setRow_heap w g cur _ 5 _ hg, hroom, hcm, ?_, ?_⟩⟩, ⟨rfl, rfl, rfl, by simp, fun k _ hk => setRow_other w g k _ (fun e => hk (by simp [e]))⟩, .inl rfl⟩
      · rw [hl] at hst
        simp [Builtin.append_, run_underlying ht, run_underlying htn, sizeOf, typeInfo, zeroValue, hi, hz, hsz, hby, asInt, asIntOf, hw, hneg, h0, h48i, hroom, Addr.add_lit, hst, hzc]
      · simp only [List.size_toArray, List.length_append, List.length_take, List.length_drop, Array.length_toList, hl]
        omega
      · rw [htake, ← hlen]
        exact List.take_left
    · have h63' : ¬ (9223372036854775807 < ((n : Int) + (m : Int))) := by omega
      have hcapn : grownCap w (n + m) cap 5 ≤ maxLen := grownCap_le_maxLen w (n + m) cap 5 (by unfold maxLen; omega)
      have hge := grownCap_ge w (n + m) cap 5
      have hnx : ¬ (281474976710656 < Builtin.nextslicecap (n + m) cap) := by have := nextslicecap_le (need := n + m) (old := cap) (by omega); omega
      have hf' := run_firstCells_some (P := Tryd.prog) w.drew 1 n ⟨g, 0, none⟩ n cap xs hown.1 hcells
      refine ⟨w.heap.size, grownCap w (n + m) cap 5, w.drew.alloc (.cells (xs.toArray ++ (bytesV (List.replicate m 0#8)).toArray ++ Builtin.zeroCells (Value.int .u8 0).cells (grownCap w (n + m) cap 5 - (n + m))) 5), ?_, ⟨hlen, .inr ⟨w.heap.size, _, _, rfl, hbase, heap_alloc_new w.drew _, hge, hcapn, ?_, ?_⟩⟩, ⟨rfl, rfl, rfl, by simp, fun k hk _ => heap_alloc_old w.drew _ hk⟩, .inr (Nat.le_refl _)⟩
      · simp [Builtin.append_, run_underlying ht, run_underlying htn, sizeOf, typeInfo, zeroValue, hi, hz, hsz, hby, asInt, asIntOf, hw, hneg, h0, h48i, h63', hroom, hnx, Question.forced, hf', newRow, grownCap, hzc]
        rw [← Array.append_assoc]
        simp
      · simp only [Array.size_append, List.size_toArray, size_zeroCells, hown.1, hl]
        simp [Value.cells]; omega
      · simp only [Array.toList_append, List.append_assoc]
        rw [← List.append_assoc, ← hlen]
        exact List.take_left

theorem wpList_growZeros {ops : Array Oper} {rest : List Oper} {a : Act} {w : World} {Q : Exit → Act → World → Prop} {o : Oper} (s x : Operand) (ho : o.op = .call { callee := .builtin .append, args := #[s, x], argTypes := #[22, 3] }) (hgd : o.guard = none)
    (base g n cap : Nat) (xs : List Value) (m : Nat) (hs : a.eval s = .slice (some ⟨g, 0, none⟩) n cap) (hx : a.eval x = .int .i64 (m : Int))
    (hown : w.ownsRow base 5 1 (.slice (some ⟨g, 0, none⟩) n cap) n xs) (hm : n + m ≤ 1000000) (hbase : base ≤ w.heap.size)
    (h : ∀ g' cap' w', w'.ownsRow base 5 1 (.slice (some ⟨g', 0, none⟩) (n + m) cap') (n + m) (xs ++ bytesV (List.replicate m 0#8)) → w.grownBy w' (some g) → (g' = g ∨ w.heap.size ≤ g') → wpList Tryd.prog ops Q rest (a.put o.dst (.slice (some ⟨g', 0, none⟩) (n + m) cap')) w') :
    wpList Tryd.prog ops Q (o :: rest) a w := by
  obtain ⟨g', cap', w', hr, h1, h2, h3⟩ := run_grow_zeros w o.type base g n cap xs m hown hm hbase
  exact Lib.wpList_append_run w hgd s x 22 3 ho _ _ hs hx _ _ hr (h g' cap' w' h1 h2 h3)

end Go.Proofs.YtnfgakbfnmmhcaaDoor
