/-
  JournalHolds: rows of texts that grow, and the region in which a copy of one grows by one more.
-/
import Derived.Test.YtjebejdcjfnleaaHSame
namespace Go.Proofs.Ytjebejdcjfnleaa
open Go.RowKit

section
variable {ops : Array Oper} {rest : List Oper} {o : Oper} {a : Act} {w : World} {Q : Exit → Act → World → Prop}
/-- 'append(l, x)' of one element: where it lay, or in a new block. -/
theorem wpList_appW {t e : TypeId} {i : TypeInfo} {z : Value} (hgd : o.guard = none) (s x : Operand) (ho : o.op = .call { callee := .builtin .append, args := #[s, x], argTypes := #[t, t] })
    (ht : Try.prog.underlying t = some (.slice e)) (hi : Try.prog.info? e = some i) (hz : i.zero = some z) (hs1 : i.size = 1) (hby : i.bytes ≤ 24) (hzc : z.cells.size = 1)
    (B2 : Nat) (v u : Value) (n : Nat) (xs : List Value) (g c : Nat) (hs : a.eval s = v) (hown : w.ownsRow 0 e 1 v n xs) (hx : a.eval x = .slice (some ⟨g, 0, none⟩) 1 c)
    (hn : w.ownsRow B2 e 1 (.slice (some ⟨g, 0, none⟩) 1 c) 1 [u]) (hu : u.oneCell' = true) (hlen : n ≤ 1000000)
    (h : ∀ v' w', w'.ownsRow 0 e 1 v' (n + 1) (xs ++ [u]) → w.grownBy w' v.ownBlock → (∀ k ∈ v'.ownBlock.toList, k ∈ v.ownBlock.toList ∨ w.heap.size ≤ k) → wpList Try.prog ops Q rest (a.put o.dst v') w') : wpList Try.prog ops Q (o :: rest) a w := by
  refine wpList_plain hgd fun K hK => ?_
  have hb : (n + 1) * i.bytes ≤ 140737488355328 := by
    have h1 : n + 1 ≤ 2000000 := by omega
    exact Nat.le_trans (Nat.mul_le_mul h1 hby) (show 2000000 * 24 ≤ 140737488355328 by decide)
  obtain ⟨v', w', hr, q1, q2, q3⟩ := append_where t o.type e i z ht hi hz (by rw [hzc, hs1]) (by omega) v n xs (by rw [hs1]; exact hown) ⟨g, 0, none⟩ 1 c [u] (by rw [hs1]; rfl) (fun j y hj => by
    obtain ⟨rfl, rfl⟩ : j = 0 ∧ y = u := by
      cases j with
      | zero => simp at hj; exact ⟨rfl, hj.symm⟩
      | succ j => simp at hj
    obtain ⟨g2, cap, e2, _, _, _, hc⟩ := owns_at hn (i := 0) (by omega)
    cases e2
    rw [Addr.add_mid]
    exact hc) (fun y hy => by rw [List.mem_singleton.1 hy]; exact hu) (by omega) (by simp only [maxLen]; omega) hb
  rw [hs1] at q1
  have r : (execOp a.eval o).run Try.prog w = .ok (.value v') w' := by
    unfold execOp
    rw [ho]
    simp only [resolve, invoke, builtin, Sem.run_bind, Sem.run_pure, Result.andThen_ok, List.map_toArray, List.map_cons, List.map_nil, hs, hx, hr]
  unfold Oper.wp
  rw [r, Oper.upon_value]
  exact hK _ _ (h v' w' q1 q2 q3)
end
section
variable {ρ : Operand → Value} {o : Oper}
theorem op_none35 (ho : o.op = .buildSlice 35 0 #[]) (w : World) : (execOp ρ o).run Try.prog w = .ok (.value (.slice (some ⟨w.heap.size, 0, none⟩) 0 0)) (w.alloc (.cells #[] 9)) := by
  unfold execOp
  rw [ho]
  go_simp
theorem op_one35 {x : Operand} {s : ByteArray} (ho : o.op = .buildSlice 35 1 #[(0, x)]) (h1 : ρ x = .string s) (w : World) : (execOp ρ o).run Try.prog w = .ok (.value (.slice (some ⟨w.heap.size, 0, none⟩) 1 1)) (w.alloc (.cells #[.string s] 9)) := by
  unfold execOp
  simp only [ho, List.map_toArray, List.map_cons, List.map_nil, h1, Sem.run_bind, run_one35, Result.andThen_ok, Sem.run_pure]
theorem op_app35 {x y : Operand} {B g m c n : Nat} {v : Value} {xs ys : List Value} {w : World} (h1 : ρ x = v) (h2 : ρ y = .slice (some ⟨g, 0, none⟩) m c)
    (hown : w.ownsRow B 9 1 v n xs) (hm : ys.length = m) (hc : ∀ j u, ys[j]? = some u → w.cell? ⟨g, j, none⟩ = some u) (hone : ∀ u ∈ ys, u.oneCell' = true) (hlen : n + m ≤ 1000000) (hB : B ≤ w.heap.size) :
    ∃ v' w', (∀ o : Oper, o.op = .call { callee := .builtin .append, args := #[x, y], argTypes := #[35, 35] } → o.type = 35 → (execOp ρ o).run Try.prog w = .ok (.value v') w') ∧ w'.ownsRow B 9 1 v' (n + m) (xs ++ ys) ∧ w.grownBy w' v.ownBlock := by
  obtain ⟨i, i1, i2, i3, i4⟩ := full9
  obtain ⟨v', w', hr, q1, q2, _⟩ := run_append_own (P := Try.prog) w B 35 35 9 i _ 1 16 Try.underlying35 i1 i2 i3 i4 rfl (by decide) v n xs hown ⟨g, 0, none⟩ m c ys (by rw [hm, Nat.mul_one]) (fun j u hj => by
    rw [Addr.add_mid, Nat.zero_add]; exact hc j u hj) hone (by simp only [maxLen]; omega) (by omega) hB
  refine ⟨v', w', ?_, q1, q2⟩
  intro o ho hty
  unfold execOp
  rw [ho]
  simp only [hty, resolve, invoke, builtin, Sem.run_bind, Sem.run_pure, Result.andThen_ok, List.map_toArray, List.map_cons, List.map_nil, h1, h2, hr]
end

/-! ### a copy, and one more -/
structure G41 where
  g0 : Nat
  g6 : Nat
  st : Nat
def V41 (B n : Nat) (f : Nat → Value) (xs : List Value) (x : Value) : Nat → Value → G41 → World → Prop := fun j v s w =>
  if j = 0 then v = .slice (some ⟨s.g0, 0, none⟩) 0 0 ∧ (s.st = 0 → w.ownsRow B 9 1 v 0 [])
  else if j = 2 then (s.st ≤ 1 → w.ownsRow B 9 1 v n xs)
  else if j = 6 then v = .slice (some ⟨s.g6, 0, none⟩) 1 1 ∧ (s.st ≤ 1 → w.ownsRow B 9 1 v 1 [x])
  else if j = 7 ∨ j = 8 then w.ownsRow B 9 1 v (n + 1) (xs ++ [x])
  else v = f j
structure C41 (W : World) (L : Nat → Bool) (s : G41) (w : World) : Prop where
  below : Below W.heap.size W w
  s2 : L 2 = false → s.st = 0
  s7 : L 7 = false → s.st ≤ 1
  h0 : L 0 = true → s.g0 < w.heap.size
  h6 : L 6 = true → s.g6 < w.heap.size
  ne : L 0 = true → L 6 = true → s.g0 ≠ s.g6
theorem C41.upd {W : World} {i : Nat} (h0 : 0 ≠ i) (h2 : 2 ≠ i) (h6 : 6 ≠ i) (h7 : 7 ≠ i) : ∀ L s w, C41 W L s w → C41 W (Flow.upd L i) s w := fun L s w h =>
  ⟨h.below, by rw [Flow.upd_ne h2]; exact h.s2, by rw [Flow.upd_ne h7]; exact h.s7, by rw [Flow.upd_ne h0]; exact h.h0, by rw [Flow.upd_ne h6]; exact h.h6, by rw [Flow.upd_ne h0, Flow.upd_ne h6]; exact h.ne⟩
section
variable {B n : Nat} {f : Nat → Value} {xs : List Value} {x v v6 : Value} {W w w' : World} {L : Nat → Bool} {s : G41}
theorem V41.alloc0 (hb : Below w.heap.size w w') (h0 : L 0 = false) (g : Nat) : ∀ j u, L j = true → V41 B n f xs x j u s w → V41 B n f xs x j u { s with g0 := g } w' := fun j u hj h => by
  unfold V41 at h ⊢
  split
  · rename_i e; subst e; rw [h0] at hj; cases hj
  · rename_i e0
    rw [if_neg e0] at h
    split
    · rename_i e; rw [if_pos e] at h; exact fun hs => owns_below (h hs) hb
    · rename_i e2
      rw [if_neg e2] at h
      split
      · rename_i e; rw [if_pos e] at h; exact ⟨h.1, fun hs => owns_below (h.2 hs) hb⟩
      · rename_i e6
        rw [if_neg e6] at h
        split
        · rename_i e; rw [if_pos e] at h; exact owns_below h hb
        · rename_i e; rw [if_neg e] at h; exact h
theorem V41.alloc6 (hb : Below w.heap.size w w') (h6 : L 6 = false) (g : Nat) : ∀ j u, L j = true → V41 B n f xs x j u s w → V41 B n f xs x j u { s with g6 := g } w' := fun j u hj h => by
  unfold V41 at h ⊢
  split
  · rename_i e; rw [if_pos e] at h; exact ⟨h.1, fun hs => owns_below (h.2 hs) hb⟩
  · rename_i e0
    rw [if_neg e0] at h
    split
    · rename_i e; rw [if_pos e] at h; exact fun hs => owns_below (h hs) hb
    · rename_i e2
      rw [if_neg e2] at h
      split
      · rename_i e; subst e; rw [h6] at hj; cases hj
      · rename_i e6
        rw [if_neg e6] at h
        split
        · rename_i e; rw [if_pos e] at h; exact owns_below h hb
        · rename_i e; rw [if_neg e] at h; exact h
theorem V41.two (hs0 : s.st = 0) (hg : w.grownBy w' (some s.g0)) (h2 : L 2 = false) (h7 : L 7 = false) (h8 : L 8 = false) (hne : L 6 = true → s.g0 ≠ s.g6) : ∀ j u, L j = true → V41 B n f xs x j u s w → V41 B n f xs x j u { s with st := 1 } w' := fun j u hj h => by
  unfold V41 at h ⊢
  split
  · rename_i e; rw [if_pos e] at h; exact ⟨h.1, fun hs => by cases hs⟩
  · rename_i e0
    rw [if_neg e0] at h
    split
    · rename_i e; subst e; rw [h2] at hj; cases hj
    · rename_i e2
      rw [if_neg e2] at h
      split
      · rename_i e
        rw [if_pos e] at h
        refine ⟨h.1, fun _ => ?_⟩
        subst e
        have hn := hne hj
        exact World.ownsRow.kept (h.2 (by rw [hs0]; omega)) hg (.inr (by rw [h.1]; simp [Value.ownBlock]; exact fun e => hn e.symm))
      · rename_i e6
        rw [if_neg e6] at h
        split
        · rename_i e
          rcases e with rfl | rfl
          · rw [h7] at hj; cases hj
          · rw [h8] at hj; cases hj
        · rename_i e; rw [if_neg e] at h; exact h
theorem V41.seven (h7 : L 7 = false) (h8 : L 8 = false) : ∀ j u, L j = true → V41 B n f xs x j u s w → V41 B n f xs x j u { s with st := 2 } w' := fun j u hj h => by
  unfold V41 at h ⊢
  split
  · rename_i e; rw [if_pos e] at h; exact ⟨h.1, fun hs => by cases hs⟩
  · rename_i e0
    rw [if_neg e0] at h
    split
    · exact fun hs => absurd hs (by show ¬ (2 ≤ 1); omega)
    · rename_i e2
      rw [if_neg e2] at h
      split
      · rename_i e; rw [if_pos e] at h; exact ⟨h.1, fun hs => absurd hs (by show ¬ (2 ≤ 1); omega)⟩
      · rename_i e6
        rw [if_neg e6] at h
        split
        · rename_i e
          rcases e with rfl | rfl
          · rw [h7] at hj; cases hj
          · rw [h8] at hj; cases hj
        · rename_i e; rw [if_neg e] at h; exact h
end
end Go.Proofs.Ytjebejdcjfnleaa
