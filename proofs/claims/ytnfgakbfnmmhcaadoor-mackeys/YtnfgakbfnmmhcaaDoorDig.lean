/-
  A Digest in memory: the message that it holds; what New, Len and Copy do.
-/
import Derived.Test.YtnfgakbfnmmhcaaDoorEnd
import Derived.Test.YtnfgakbfnmmhcaaDoorTail
namespace Go.Proofs.YtnfgakbfnmmhcaaDoor
open Go.RowKit

/-- The cells of a Digest. -/
def digV (st : List (BitVec 32)) (tail : List (BitVec 8)) (n : Nat) : List Value := wordsV st ++ (bytesV tail ++ [.int .u64 (n : Int)])

/-- State and tail tell the message m. -/
structure Holds (st : List (BitVec 32)) (tail : List (BitVec 8)) (m : List (BitVec 8)) : Prop where
  st : st = Sha.chain m (m.length / 64)
  len : tail.length = 64
  pre : tail.take (m.length % 64) = m.drop (64 * (m.length / 64))

/-- Block b is a Digest into which m was written. -/
def Dig (w : World) (b : Nat) (m : List (BitVec 8)) : Prop := 2 ≤ b ∧ ∃ st tail, Arr w b (digV st tail m.length) ∧ Holds st tail m

theorem Holds.stlen {st : List (BitVec 32)} {tail m : List (BitVec 8)} (h : Holds st tail m) : st.length = 8 := by rw [h.st, Sha.chain_length]
theorem digV_length {st : List (BitVec 32)} {tail m : List (BitVec 8)} (h : Holds st tail m) (n : Nat) : (digV st tail n).length = 73 := by
  simp [digV, wordsV_length, bytesV_length, h.stlen, h.len]
theorem digV_one (st : List (BitVec 32)) (tail : List (BitVec 8)) (n : Nat) : ∀ v ∈ digV st tail n, v.oneCell' = true := by
  intro v hv
  simp only [digV, List.mem_append, List.mem_singleton] at hv
  rcases hv with h | h | h
  · exact wordsV_one _ v h
  · exact bytesV_one _ v h
  · rw [h]; rfl
theorem digV_len {st : List (BitVec 32)} {tail m : List (BitVec 8)} (h : Holds st tail m) (n : Nat) : (digV st tail n)[72]? = some (.int .u64 (n : Int)) := by
  rw [digV, List.getElem?_append_right (by rw [wordsV_length, h.stlen]; omega), List.getElem?_append_right (by rw [wordsV_length, bytesV_length, h.stlen, h.len]; omega)]
  rw [wordsV_length, bytesV_length, h.stlen, h.len]; rfl

theorem Dig.below {w w' : World} {b B : Nat} {m : List (BitVec 8)} (h : Dig w b m) (hb : Below B w w') (hlt : b < B) : Dig w' b m := by
  obtain ⟨h2, st, tail, hA, hH⟩ := h
  exact ⟨h2, st, tail, hA.keep hb hlt, hH⟩
theorem Dig.lt {w : World} {b : Nat} {m : List (BitVec 8)} (h : Dig w b m) : b < w.heap.size := by
  obtain ⟨_, st, tail, hA, _⟩ := h
  exact hA.lt
theorem Dig.other {w w' : World} {b c : Nat} {m : List (BitVec 8)} (h : Dig w b m) (hg : w.grownBy w' (some c)) (hne : b ≠ c) : Dig w' b m := by
  obtain ⟨h2, st, tail, hA, hH⟩ := h
  exact ⟨h2, st, tail, hA.grown hg (by simpa using hne), hH⟩
theorem Tabs.other {w w' : World} {c : Nat} (h : Tabs w) (hg : w.grownBy w' (some c)) (hc : 2 ≤ c) : Tabs w' :=
  ⟨fun j v hj => (World.cell?_of_block (a := ⟨0, 0 + j, none⟩) (hg.block 0 (by have := h.size; omega) (by simp; omega))).trans (h.start j v hj),
   fun j v hj => (World.cell?_of_block (a := ⟨1, 0 + j, none⟩) (hg.block 1 (by have := h.size; omega) (by simp; omega))).trans (h.roots j v hj)⟩

theorem holds_nil : Holds Sha.start (List.replicate 64 0#8) [] := ⟨rfl, rfl, rfl⟩

section
variable {P : Program} {ops : Array Oper} {rest : List Oper} {a : Act} {w : World} {Q : Exit → Act → World → Prop}
theorem wpList_build {o : Oper} (t : TypeId) (parts : Array (Nat × Operand)) (cs : List Value) (ps : List (Nat × Value)) (ho : o.op = .build t parts) (hg : o.guard = none)
    (hp : (parts.toList.map fun p => (p.1, a.eval p.2)) = ps) (hb : P.built t ps = some cs.toArray) (h : wpList P ops Q rest (a.put o.dst (.agg cs.toArray)) w) : wpList P ops Q (o :: rest) a w := by
  refine wpList_plain hg fun K hK => ?_
  have r1 : (execOp a.eval o).run P w = .ok (.value (.agg cs.toArray)) w := by
    have hb' : P.built t (parts.map fun (i, x) => (i, a.eval x)).toList = some cs.toArray := by
      rw [Array.toList_map, ← hb, ← hp]
    unfold execOp
    simp only [ho, Sem.run_bind, run_build w t _ _ hb', Result.andThen, Sem.run_pure]
  unfold Oper.wp
  rw [r1, Oper.upon_value]
  exact hK _ _ h

end

theorem built52 : Tryd.prog.built 52 [(0, .agg (wordsV Sha.start).toArray)] = some (digV Sha.start (List.replicate 64 0#8) 0).toArray := by kernel_rfl
theorem info52 : (Tryd.prog.info? 52).map (·.size) = some 73 := by kernel_rfl

theorem new_any (w : World) (hT : Tabs w) :
    Calls Tryd.prog 14 #[] w fun e w' => ∃ b, e = .returned (.pointer (some ⟨b, 0, none⟩)) ∧ Dig w' b [] ∧ w.heap.size ≤ b ∧ Below w.heap.size w w' := by
  have HT := hide hT
  clear hT
  go_enter Tryd.func14, Tryd.ntmps14
  go_wp2_with (first
    | refine wpList_load_mid rfl 50 (.global 0) rfl 0 0 rfl (wordsV Sha.start) _ (unhide HT).start Tryd.underlying50 rfl info50 ?_
    | refine wpList_build 52 _ (digV Sha.start (List.replicate 64 0#8) 0) [(0, .agg (wordsV Sha.start).toArray)] rfl rfl rfl built52 ?_
    | refine wpList_box 52 _ (digV Sha.start (List.replicate 64 0#8) 0) rfl rfl rfl ?_)
  intro w1 hA hb hs
  have HA := hide hA
  have Hb := hide hb
  clear hA hb
  go_wp2
  go_ret
  exact ⟨_, rfl, ⟨(unhide HT).size, _, _, unhide HA, holds_nil⟩, Nat.le_refl _, unhide Hb⟩

theorem alloc52 (w : World) : (Instr.alloc 52 true (.tuple #[])).run Tryd.prog w = .ok (.pointer (some ⟨w.heap.size, 0, none⟩)) (w.alloc (.cells (digV zeros8 (List.replicate 64 0#8) 0).toArray 52)) := by kernel_rfl

end Go.Proofs.YtnfgakbfnmmhcaaDoor
