/-
  One thing more is done: append to a list of things done.
-/
import Derived.Test.YtlgknllcnkainaaOps
import Derived.Great.BuildSlice
namespace Go.Proofs.Ytlgknllcnkainaa
open Go.RowKit

/-- What 'append' hands back lies where it lay, or in a new block. -/
theorem append_where {w : World} (t ty e : TypeId) (i : TypeInfo) (z : Value) (ht : Try.prog.underlying t = some (.slice e)) (hi : Try.prog.info? e = some i) (hz : i.zero = some z) (hzs : z.cells.size = i.size) (hsz : 0 < i.size)
    (v : Value) (n : Nat) (xs : List Value) (hown : w.ownsRow 0 e i.size v n xs)
    (a : Addr) (m c : Nat) (news : List Value) (hl : news.length = m * i.size) (hnews : ∀ j u, news[j]? = some u → w.cell? (a.add j) = some u) (h1 : ∀ u ∈ news, u.oneCell' = true)
    (hm : 0 < m) (h63 : n + m ≤ maxLen) (hbytes : (n + m) * i.bytes ≤ 140737488355328) :
    ∃ v' w', (Builtin.append_ #[t, t] ty #[v, .slice (some a) m c]).run Try.prog w = .ok v' w' ∧ w'.ownsRow 0 e i.size v' (n + m) (xs ++ news) ∧ w.grownBy w' v.ownBlock ∧
      ∀ k ∈ v'.ownBlock.toList, k ∈ v.ownBlock.toList ∨ w.heap.size ≤ k := by
  obtain ⟨v', w', hr, h2, h3, _⟩ := run_append_own (P := Try.prog) w 0 t ty e i z i.size i.bytes ht hi hz rfl rfl hzs hsz v n xs hown a m c news hl hnews h1 h63 hbytes (Nat.zero_le _)
  refine ⟨v', w', hr, h2, h3, ?_⟩
  have h63' : n + m ≤ 9223372036854775807 := by simp only [maxLen] at h63; omega
  rcases hown.2 with ⟨rfl, rfl⟩ | ⟨g, cap, cur, rfl, hbg, hg, hnc, hcm, hcs, htake⟩
  · have hr2 := run_append_nil (P := Try.prog) w t ty e i z ht hi hz a m c news hl hnews hm (by omega) (by have hb := hbytes; simp only [Nat.zero_add] at hb; omega)
    rw [hr2] at hr
    cases hr
    intro k hk
    simp [Value.ownBlock] at hk
    exact .inr (by omega)
  · by_cases hroom : n + m ≤ cap
    · have hfit : n * i.size + news.length ≤ cur.size := by rw [hl, hcs, ← Nat.add_mul]; exact Nat.mul_le_mul_right _ hroom
      have hr2 := run_append_room (P := Try.prog) w t ty e i ht hi g n cap cur hg a m c news hl hnews h1 hroom hfit
      rw [hr2] at hr
      cases hr
      intro k hk
      exact .inl hk
    · have holds : ∀ j u, xs[j]? = some u → w.cell? ((⟨g, 0, none⟩ : Addr).add j) = some u := hown.cells (g := g) rfl
      have hr2 := run_append_grow (P := Try.prog) w t ty e i z ht hi hz ⟨g, 0, none⟩ n cap xs hown.1 holds a m c news hl hnews (by omega) (by omega) (growslice_fits (by omega) hbytes)
      rw [hr2] at hr
      cases hr
      intro k hk
      simp [Value.ownBlock] at hk
      exact .inr (by omega)

section
variable {ρ : Operand → Value} {o : Oper}
theorem op_slice80 {x : Operand} {r : Nat × Sec} (ho : o.op = .buildSlice 80 1 #[(0, x)]) (h1 : ρ x = .agg (doneV r).toArray) (hs : r.2.length = 64) (w : World) :
    (execOp ρ o).run Try.prog w = .ok (.value (.slice (some ⟨w.heap.size, 0, none⟩) 1 1)) (w.alloc (.cells (doneV r).toArray 101)) := by
  obtain ⟨i, i1, i2, i3, i4⟩ := full72
  have hl : (doneV r).length = 65 := doneV_length hs
  have hf : Instr.fill (fun j => some (j * i.size, i.size)) ((Array.range (1 * i.size)).map ((Value.agg (doneV (0, zeroS)).toArray).cells[· % (Value.agg (doneV (0, zeroS)).toArray).cells.size]!)) [(0, .agg (doneV r).toArray)] = some (doneV r).toArray := by
    rw [i3]
    have e : ((Array.range (1 * 65)).map ((Value.agg (doneV (0, zeroS)).toArray).cells[· % (Value.agg (doneV (0, zeroS)).toArray).cells.size]!)) = (doneV (0, zeroS)).toArray := by kernel_rfl
    rw [e]
    simp [Instr.fill, Value.cells, hl]
    refine ⟨by decide +kernel, ?_⟩
    have h := fold_set 0 (doneV r) 0 [] (doneV (0, zeroS)) [] rfl (by rw [hl]; decide +kernel)
    simpa using h
  have hr := run_buildSlice (P := Try.prog) w 80 101 1 #[(0, .agg (doneV r).toArray)] (doneV r).toArray i _ Try.underlying80 i1 i2 (by rw [i3]; decide) (by rw [i3]; decide) hf
  unfold execOp
  rw [ho]
  simp only [List.map_toArray, List.map_cons, List.map_nil, h1, Sem.run_bind, hr, Result.andThen_ok, Sem.run_pure]
theorem op_app80 {x y : Operand} {r : Nat × Sec} {l : List (Nat × Sec)} {v : Value} {b : Nat} {w : World} (h1 : ρ x = v) (h2 : ρ y = .slice (some ⟨b, 0, none⟩) 1 1)
    (hown : w.ownsRow 0 101 65 v l.length (donesV l)) (hb : Arr w b (doneV r)) (hs : r.2.length = 64) (hlen : l.length ≤ 1000000) :
    ∃ v' w', (∀ o : Oper, o.op = .call { callee := .builtin .append, args := #[x, y], argTypes := #[80, 80] } → o.type = 80 → (execOp ρ o).run Try.prog w = .ok (.value v') w') ∧ w'.ownsRow 0 101 65 v' (l ++ [r]).length (donesV (l ++ [r])) ∧ w.grownBy w' v.ownBlock ∧ ∀ k ∈ v'.ownBlock.toList, k ∈ v.ownBlock.toList ∨ w.heap.size ≤ k := by
  obtain ⟨i, i1, i2, i3, i4⟩ := full72
  have hown' : w.ownsRow 0 101 i.size v l.length (donesV l) := by rw [i3]; exact hown
  obtain ⟨v', w', hr, q1, q2, q3⟩ := append_where 80 80 101 i _ Try.underlying80 i1 i2 (by rw [i3]; decide +kernel) (by rw [i3]; decide) v l.length (donesV l) hown' ⟨b, 0, none⟩ 1 1 (doneV r) (by rw [doneV_length hs, i3]) (fun j u hj => by
    rw [Addr.add_mid, Nat.zero_add]; exact hb.cell hj) (doneV_one r) (by decide) (by simp only [maxLen]; omega) (by rw [i4]; omega)
  refine ⟨v', w', ?_, ?_, q2, q3⟩
  · intro o ho hty
    unfold execOp
    rw [ho]
    simp only [hty, resolve, invoke, builtin, Sem.run_bind, Sem.run_pure, Result.andThen_ok, List.map_toArray, List.map_cons, List.map_nil, h1, h2, hr]
  · rw [donesV_snoc, List.length_append]
    rw [i3] at q1
    exact q1
theorem op_slice90 {x : Operand} {r : Nat × Sec} (ho : o.op = .buildSlice 90 1 #[(0, x)]) (h1 : ρ x = .agg (doneV r).toArray) (hs : r.2.length = 64) (w : World) :
    (execOp ρ o).run Try.prog w = .ok (.value (.slice (some ⟨w.heap.size, 0, none⟩) 1 1)) (w.alloc (.cells (doneV r).toArray 99)) := by
  obtain ⟨i, i1, i2, i3, i4⟩ := full75
  have hl : (doneV r).length = 65 := doneV_length hs
  have hf : Instr.fill (fun j => some (j * i.size, i.size)) ((Array.range (1 * i.size)).map ((Value.agg (doneV (0, zeroS)).toArray).cells[· % (Value.agg (doneV (0, zeroS)).toArray).cells.size]!)) [(0, .agg (doneV r).toArray)] = some (doneV r).toArray := by
    rw [i3]
    have e : ((Array.range (1 * 65)).map ((Value.agg (doneV (0, zeroS)).toArray).cells[· % (Value.agg (doneV (0, zeroS)).toArray).cells.size]!)) = (doneV (0, zeroS)).toArray := by kernel_rfl
    rw [e]
    simp [Instr.fill, Value.cells, hl]
    refine ⟨by decide +kernel, ?_⟩
    have h := fold_set 0 (doneV r) 0 [] (doneV (0, zeroS)) [] rfl (by rw [hl]; decide +kernel)
    simpa using h
  have hr := run_buildSlice (P := Try.prog) w 90 99 1 #[(0, .agg (doneV r).toArray)] (doneV r).toArray i _ Try.underlying90 i1 i2 (by rw [i3]; decide) (by rw [i3]; decide) hf
  unfold execOp
  rw [ho]
  simp only [List.map_toArray, List.map_cons, List.map_nil, h1, Sem.run_bind, hr, Result.andThen_ok, Sem.run_pure]
theorem op_app90 {x y : Operand} {r : Nat × Sec} {l : List (Nat × Sec)} {v : Value} {b : Nat} {w : World} (h1 : ρ x = v) (h2 : ρ y = .slice (some ⟨b, 0, none⟩) 1 1)
    (hown : w.ownsRow 0 99 65 v l.length (donesV l)) (hb : Arr w b (doneV r)) (hs : r.2.length = 64) (hlen : l.length ≤ 1000000) :
    ∃ v' w', (∀ o : Oper, o.op = .call { callee := .builtin .append, args := #[x, y], argTypes := #[90, 90] } → o.type = 90 → (execOp ρ o).run Try.prog w = .ok (.value v') w') ∧ w'.ownsRow 0 99 65 v' (l ++ [r]).length (donesV (l ++ [r])) ∧ w.grownBy w' v.ownBlock ∧ ∀ k ∈ v'.ownBlock.toList, k ∈ v.ownBlock.toList ∨ w.heap.size ≤ k := by
  obtain ⟨i, i1, i2, i3, i4⟩ := full75
  have hown' : w.ownsRow 0 99 i.size v l.length (donesV l) := by rw [i3]; exact hown
  obtain ⟨v', w', hr, q1, q2, q3⟩ := append_where 90 90 99 i _ Try.underlying90 i1 i2 (by rw [i3]; decide +kernel) (by rw [i3]; decide) v l.length (donesV l) hown' ⟨b, 0, none⟩ 1 1 (doneV r) (by rw [doneV_length hs, i3]) (fun j u hj => by
    rw [Addr.add_mid, Nat.zero_add]; exact hb.cell hj) (doneV_one r) (by decide) (by simp only [maxLen]; omega) (by rw [i4]; omega)
  refine ⟨v', w', ?_, ?_, q2, q3⟩
  · intro o ho hty
    unfold execOp
    rw [ho]
    simp only [hty, resolve, invoke, builtin, Sem.run_bind, Sem.run_pure, Result.andThen_ok, List.map_toArray, List.map_cons, List.map_nil, h1, h2, hr]
  · rw [donesV_snoc, List.length_append]
    rw [i3] at q1
    exact q1
end
end Go.Proofs.Ytlgknllcnkainaa
