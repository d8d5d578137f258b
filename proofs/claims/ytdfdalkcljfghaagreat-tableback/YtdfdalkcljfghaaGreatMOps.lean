/-
  One thing more was done to a part: append to the list of operations. Erase and Program of a part's sector.
-/
import Derived.Test.YtdfdalkcljfghaaGreatMap2
namespace Go.Proofs.YtdfdalkcljfghaaGreat
open Go.RowKit

/-- 'append' of one thing with these cells, number iB makes it a slice, number iA appends it. -/
def gappV (W : World) (cs : List Value) (iB iA : Nat) (f : Nat → Value) : Nat → Value → Option Value → World → Prop := fun j v s w =>
  if j = iA then s = some v else if j = iB then (s = none → ∃ b, v = .slice (some ⟨b, 0, none⟩) 1 1 ∧ W.heap.size ≤ b ∧ Arr w b cs) else v = f j
section
variable {W : World} {cs : List Value} {iB iA : Nat} {f : Nat → Value}
theorem gappV.grow {L : Nat → Bool} {w w' : World} (hb : Below w.heap.size w w') : ∀ j u, L j = true → gappV W cs iB iA f j u none w → gappV W cs iB iA f j u none w' := fun j u _ h => by
  unfold gappV at *
  split
  · rename_i e; rw [if_pos e] at h; exact h
  · rename_i e
    rw [if_neg e] at h
    split
    · rename_i e2
      rw [if_pos e2] at h
      intro _
      obtain ⟨b, h1, h2, h3⟩ := h rfl
      exact ⟨b, h1, h2, h3.below hb⟩
    · rename_i e2; rw [if_neg e2] at h; exact h
theorem gappV.app {L : Nat → Bool} {w w' : World} (v : Value) : ∀ j u, L j = true → gappV W cs iB iA f j u none w → gappV W cs iB iA f j u (some v) w' := fun j u _ h => by
  unfold gappV at *
  split
  · rename_i e; rw [if_pos e] at h; cases h
  · rename_i e
    rw [if_neg e] at h
    split
    · intro e3; cases e3
    · rename_i e2; rw [if_neg e2] at h; exact h
theorem gappV.set {L : Nat → Bool} {w w' : World} (v : Value) : ∀ j u, L j = true → gappV W cs iB iA f j u (some v) w → gappV W cs iB iA f j u (some v) w' := fun j u _ h => by
  unfold gappV at *
  split
  · rename_i e; rw [if_pos e] at h; exact h
  · rename_i e
    rw [if_neg e] at h
    split
    · intro e3; cases e3
    · rename_i e2; rw [if_neg e2] at h; exact h
end

def opsF (m : Nat) (ov : Value) : List Nat := m :: ov.ownBlock.toList
/-- A block of four cells, the last of which is a list of operations. -/
structure OpsB (c0 c1 ov : Value) (w : World) (m : Nat) (who : Int) (l : List OpT) : Prop where
  apart : m ∉ ov.ownBlock.toList
  arr : Arr w m [c0, c1, .int .i64 who, ov]
  ops : w.ownsRow 0 155 4 ov l.length (opsV l)
section
variable {c0 c1 ov : Value} {w w1 w' : World} {m : Nat} {who : Int} {l : List OpT}
theorem OpsB.lt (h : OpsB c0 c1 ov w m who l) : ∀ k ∈ opsF m ov, k < w.heap.size := by
  intro k hk
  simp only [opsF, List.mem_cons] at hk
  rcases hk with rfl | hk
  · exact h.arr.lt
  · exact (h.ops.lt k (by simpa using hk)).2
theorem OpsB.same (h : OpsB c0 c1 ov w m who l) (hb : ∀ k ∈ opsF m ov, w'.heap[k]? = w.heap[k]?) : OpsB c0 c1 ov w' m who l :=
  { h with arr := h.arr.same (hb _ (by simp [opsF])), ops := owns_same h.ops (fun k hk => hb k (by simp only [opsF, List.mem_cons]; exact .inr hk)) }
theorem OpsB.more {v : Value} {r : OpT} (h : OpsB c0 c1 ov w m who l) (hown : w1.ownsRow 0 155 4 v (l ++ [r]).length (opsV (l ++ [r]))) (hb : But ov.ownBlock.toList w w1) (hf : ∀ k ∈ v.ownBlock.toList, k ∈ ov.ownBlock.toList ∨ w.heap.size ≤ k) :
    OpsB c0 c1 v (w1.setCell ⟨m, 3, none⟩ v) m who (l ++ [r]) ∧ Turns (opsF m ov) (opsF m v) w (w1.setCell ⟨m, 3, none⟩ v) := by
  have hm := h.arr.lt
  have hmv : m ∉ v.ownBlock.toList := fun e => by
    rcases hf m e with e1 | e1
    · exact h.apart e1
    · omega
  refine ⟨{ apart := hmv, arr := (h.arr.same (hb.block m hm h.apart)).set 3 v, ops := owns_same hown fun j hj => Below.heap_setCell _ _ _ _ (fun e => hmv ((show j = m from e) ▸ hj)) }, ?_, ?_⟩
  · have b1 : But (opsF m ov) w w1 := ⟨hb.os, hb.tape, hb.output, hb.size, fun k hk hn => hb.block k hk fun e => hn (by simp only [opsF, List.mem_cons]; exact .inr e)⟩
    exact b1.trans (But.of_grown (F := [m]) (set_grown _ _ _ _) (by simp)) fun k hk => .inl (by simp at hk; subst hk; simp [opsF])
  · intro k hk
    simp only [opsF, List.mem_cons] at hk ⊢
    rcases hk with e | e
    · exact .inl (.inl e)
    · rcases hf k e with e1 | e1
      · exact .inl (.inr e1)
      · exact .inr e1
end
section
variable {F D : List Nat} {w w' : World} {m p : Nat} {x : MX} {d : DM}
theorem MapB.opsB {bb cap : Nat} {ov : Value} (h : MapB bb cap ov w m p x) : OpsB (.pointer (some ⟨p, 0, none⟩)) (.slice (some ⟨bb, 0, none⟩) (x.sz.length + 1) cap) ov w m x.who x.ops := by
  have hn := h.nodup
  simp only [mapF, List.nodup_cons, List.mem_cons, not_or] at hn
  exact { apart := hn.1.2, arr := h.arr, ops := h.ops }
theorem MapB.more {bb cap : Nat} {ov v : Value} {r : OpT} (h : MapB bb cap ov w m p x) (ho : OpsB (.pointer (some ⟨p, 0, none⟩)) (.slice (some ⟨bb, 0, none⟩) (x.sz.length + 1) cap) v w' m x.who (x.ops ++ [r])) (ht : Turns (opsF m ov) (opsF m v) w w') :
    MapB bb cap v w' m p { x with ops := x.ops ++ [r] } ∧ Turns (mapF m bb ov) (mapF m bb v) w w' := by
  have hn := h.nodup
  simp only [mapF, List.nodup_cons, List.mem_cons, not_or] at hn
  have hlt := h.lt bb (by simp [mapF])
  have hbo : bb ∉ opsF m ov := by
    simp only [opsF, List.mem_cons, not_or]
    exact ⟨fun e => hn.1.1 e.symm, hn.2.1⟩
  have hbv : bb ∉ opsF m v := fun e => by
    rcases ht.2 bb e with e1 | e1
    · exact hbo e1
    · omega
  have hbv2 : ¬ bb = m ∧ bb ∉ v.ownBlock.toList := by
    simp only [opsF, List.mem_cons, not_or] at hbv
    exact hbv
  refine ⟨{ h with nodup := ?_, arr := ho.arr, bnd := fun k hk => (cell_same (ht.1.block bb hlt hbo)).trans (h.bnd k hk), ops := ho.ops }, ?_, ?_⟩
  · simp only [mapF, List.nodup_cons, List.mem_cons, not_or]
    exact ⟨⟨hn.1.1, ho.apart⟩, hbv2.2, by cases v.ownBlock <;> simp⟩
  · exact ⟨ht.1.os, ht.1.tape, ht.1.output, ht.1.size, fun k hk hn => ht.1.block k hk fun e => hn (by
      simp only [opsF, mapF, List.mem_cons] at e ⊢
      rcases e with e | e
      · exact .inl e
      · exact .inr (.inr e))⟩
  · intro k hk
    simp only [mapF, List.mem_cons] at hk ⊢
    rcases hk with e | e | e
    · exact .inl (.inl e)
    · exact .inl (.inr (.inl e))
    · rcases ht.2 k (by simp only [opsF, List.mem_cons]; exact .inr e) with e1 | e1
      · simp only [opsF, List.mem_cons] at e1
        rcases e1 with e1 | e1
        · exact .inl (.inl e1)
        · exact .inl (.inr (.inr e1))
      · exact .inr e1

set_option maxHeartbeats 1600000 in
set_option maxRecDepth 100000 in
theorem did_walk (h : MapF F w m p x) (a1 a2 a3 : Int) (hlen : x.ops.length ≤ 1000000) :
    Calls Tryz.prog 155 #[.pointer (some ⟨m, 0, none⟩), .int .i64 a1, .int .i64 a2, .int .i64 a3] w fun e w' => e = .returned (.tuple #[]) ∧ ∃ F', MapF F' w' m p (x.did a1 a2 a3) ∧ Turns F F' w w' := by
  obtain ⟨bb, cap, ov, rfl, h⟩ := h
  have HB := hide h
  have HO := hide h.opsB
  have hc2 := h.arr.cell (i := 2) rfl
  have hc3 := h.arr.cell (i := 3) rfl
  have HFIN : Hid (∀ v w', OpsB (.pointer (some ⟨p, 0, none⟩)) (.slice (some ⟨bb, 0, none⟩) (x.sz.length + 1) cap) v w' m x.who (x.ops ++ [(a1, a2, a3, x.who)]) → Turns (opsF m ov) (opsF m v) w w' →
      ∃ F', MapF F' w' m p (x.did a1 a2 a3) ∧ Turns (mapF m bb ov) F' w w') := hide fun v w' h1 h2 => ⟨_, ⟨bb, cap, v, rfl, ((unhide HB).more h1 h2).1⟩, ((unhide HB).more h1 h2).2⟩
  clear h HB
  generalize (Value.slice (some ⟨bb, 0, none⟩) (x.sz.length + 1) cap) = c1 at *
  obtain ⟨l, hl⟩ : ∃ l, l = x.ops := ⟨_, rfl⟩
  obtain ⟨who, hwho⟩ : ∃ who, who = x.who := ⟨_, rfl⟩
  rw [← hl] at HO HFIN hlen
  rw [← hwho] at HO HFIN hc2
  obtain ⟨r, hr⟩ : ∃ r : OpT, r = (a1, a2, a3, who) := ⟨_, rfl⟩
  clear hl hwho
  go_enter Tryz.func155, Tryz.ntmps155
  go_wp2_with fail
  refine Flow.wp_region (gappV w.drew (opV r) 13 14 (fun j => match j with | 0 => .pointer (some ⟨m, 0, none⟩) | 1 => .pointer (some ⟨m, 0, none⟩) | 2 => .pointer (some ⟨m, 0, none⟩) | 3 => .pointer (some ⟨m, 3, none⟩) | 4 => ov | 5 => .int .i64 a1 | 6 => .int .i64 a2 | 7 => .int .i64 a3 | 8 => .pointer (some ⟨m, 0, none⟩) | 9 => .pointer (some ⟨m, 0, none⟩) | 10 => .pointer (some ⟨m, 2, none⟩) | 11 => .int .i64 who | 12 => .agg (opV r).toArray | 13 => undef | 14 => undef | 15 => .pointer (some ⟨m, 0, none⟩) | 16 => .pointer (some ⟨m, 3, none⟩) | 17 => undef | _ => undef)) (appC w.drew 14 17 (fun v w' => w'.ownsRow 0 155 4 v (l ++ [r]).length (opsV (l ++ [r])) ∧ But ov.ownBlock.toList w w' ∧ ∀ j ∈ v.ownBlock.toList, j ∈ ov.ownBlock.toList ∨ w.heap.size ≤ j)
    (fun w' => ∃ v w1, (w1.ownsRow 0 155 4 v (l ++ [r]).length (opsV (l ++ [r])) ∧ But ov.ownBlock.toList w w1 ∧ ∀ j ∈ v.ownBlock.toList, j ∈ ov.ownBlock.toList ∨ w.heap.size ≤ j) ∧ w' = w1.setCell ⟨m, 3, none⟩ v)) none (by kernel_rfl) (by kernel_rfl) ⟨rfl, rfl, Below.refl _ _⟩ ⟨?_, ?_, ?_, ?_, ?_, ?_, ?_, ?_, ?_, ?_, ?_, ?_, ?_, ?_, ?_, ?_, ?_, ?_, trivial⟩ ?_
  · exact Flow.move (Flow.goes_plain rfl) (appC.upd (by decide) (by decide)) (.inl rfl) fun a s w' hs hd => (hs 0 (by kernel_rfl))
  · exact Flow.move (Flow.goes_plain rfl) (appC.upd (by decide) (by decide)) (.inl rfl) fun a s w' hs hd => (hs 0 (by kernel_rfl))
  · refine Flow.pure (Flow.goes_plain rfl) (appC.upd (by decide) (by decide)) fun a L s w' hC hL hn hs hd => ?_
    skip
    exact ⟨_, op_nil rfl (hd 1 9 (by kernel_rfl)) w', rfl⟩
  · refine Flow.pure (Flow.goes_plain rfl) (appC.upd (by decide) (by decide)) fun a L s w' hC hL hn hs hd => ?_
    skip
    exact ⟨_, op_f146_3 rfl (hd 2 10 (by kernel_rfl)) w', rfl⟩
  · refine Flow.pure (Flow.goes_plain rfl) (appC.upd (by decide) (by decide)) fun a L s w' hC hL hn hs hd => ?_
    have hA := hC.pre (hn.after 14 (by kernel_rfl))
    exact ⟨_, op_load64 rfl (hd 3 11 (by kernel_rfl)) ((hA.2.cell (p := ⟨m, 3, none⟩) (unhide HO).arr.lt).trans hc3), rfl⟩
  · exact Flow.move (Flow.goes_plain rfl) (appC.upd (by decide) (by decide)) (.inl rfl) fun a s w' hs hd => (hs 1 (by kernel_rfl))
  · exact Flow.move (Flow.goes_plain rfl) (appC.upd (by decide) (by decide)) (.inl rfl) fun a s w' hs hd => (hs 2 (by kernel_rfl))
  · exact Flow.move (Flow.goes_plain rfl) (appC.upd (by decide) (by decide)) (.inl rfl) fun a s w' hs hd => (hs 3 (by kernel_rfl))
  · exact Flow.move (Flow.goes_plain rfl) (appC.upd (by decide) (by decide)) (.inl rfl) fun a s w' hs hd => (hs 0 (by kernel_rfl))
  · refine Flow.pure (Flow.goes_plain rfl) (appC.upd (by decide) (by decide)) fun a L s w' hC hL hn hs hd => ?_
    skip
    exact ⟨_, op_nil rfl (hd 8 16 (by kernel_rfl)) w', rfl⟩
  · refine Flow.pure (Flow.goes_plain rfl) (appC.upd (by decide) (by decide)) fun a L s w' hC hL hn hs hd => ?_
    skip
    exact ⟨_, op_f146_2 rfl (hd 9 17 (by kernel_rfl)) w', rfl⟩
  · refine Flow.pure (Flow.goes_plain rfl) (appC.upd (by decide) (by decide)) fun a L s w' hC hL hn hs hd => ?_
    have hA := hC.pre (hn.after 14 (by kernel_rfl))
    exact ⟨_, op_load3 rfl (hd 10 18 (by kernel_rfl)) ((hA.2.cell (p := ⟨m, 2, none⟩) (unhide HO).arr.lt).trans hc2), rfl⟩
  · exact Flow.pure (Flow.goes_plain rfl) (appC.upd (by decide) (by decide)) fun a L s w' hC hL hn hs hd => ⟨_, hr ▸ op_build155 rfl (hd 5 13 (by kernel_rfl)) (hd 6 14 (by kernel_rfl)) (hd 7 15 (by kernel_rfl)) (hd 11 19 (by kernel_rfl)) w', rfl⟩
  · refine Flow.value (Flow.goes_plain rfl) fun a L s0 w' hC hL hn hs hd => ?_
    obtain ⟨e0, hb0⟩ := hC.pre (hn.after 14 (by kernel_rfl))
    subst s0
    have hb8 : Below w'.heap.size w' (w'.alloc (.cells (opV r).toArray 155)) := (Below.refl _ _).alloc (Nat.le_refl _) _
    exact ⟨_, none, _, op_slice64 rfl (hd 12 20 (by kernel_rfl)) w', gappV.grow hb8, appC.put (by decide) (by decide) hC hb8, fun _ => ⟨_, rfl, hb0.size, ⟨_, _, heap_alloc_new w' _, rfl⟩⟩⟩
  · refine Flow.value (Flow.goes_plain rfl) fun a L s0 w' hC hL hn hs hd => ?_
    obtain ⟨e0, hb0⟩ := hC.pre hL
    subst s0
    obtain ⟨b, hb1, hb2, hb3⟩ := (hd 13 21 (by kernel_rfl)) rfl
    have hwo : w'.ownsRow 0 155 4 ov l.length (opsV l) := owns_same (unhide HO).ops fun j hj => hb0.block j ((unhide HO).lt j (by simp only [opsF, List.mem_cons]; exact .inr hj))
    obtain ⟨v', w9, hr9, q1, q2, q3⟩ := op_app64 (v := ov) (hd 4 12 (by kernel_rfl)) hb1 hwo hb3 hlen
    refine ⟨v', some v', w9, hr9 _ rfl rfl, gappV.app v', ?_, rfl⟩
    refine ⟨Flow.upd_eq, ?_⟩
    rw [Flow.upd_ne (by decide), hn.after 17 (by kernel_rfl)]
    refine ⟨q1, ⟨q2.os.trans hb0.os, q2.tape.trans hb0.tape, q2.output.trans hb0.output, Nat.le_trans hb0.size q2.size, fun j hj hne => ?_⟩, fun j hj => ?_⟩
    · rw [q2.block j (Nat.lt_of_lt_of_le hj hb0.size) (fun e => hne (by rw [← e]; simp)), hb0.block j hj]
      rfl
    · rcases q3 j hj with e1 | e1
      · exact .inl e1
      · exact .inr (Nat.le_trans hb0.size e1)
  · refine Flow.pure (Flow.goes_plain rfl) (appC.upd (by decide) (by decide)) fun a L s w' hC hL hn hs hd => ?_
    skip
    exact ⟨_, op_nil rfl (hd 0 8 (by kernel_rfl)) w', rfl⟩
  · refine Flow.pure (Flow.goes_plain rfl) (appC.upd (by decide) (by decide)) fun a L s w' hC hL hn hs hd => ?_
    skip
    exact ⟨_, op_f146_3 rfl (hd 15 23 (by kernel_rfl)) w', rfl⟩
  · refine Flow.store (Flow.goes_plain rfl) fun a L s0 w' hC hL hn hs hd => ?_
    obtain ⟨v, e0, hB⟩ := hC.mid (hn.done 14 (by kernel_rfl)) hL
    subst s0
    have e9 := (hd 14 22 (by kernel_rfl))
    have e9 : a.eval (.tmp 22) = v := (Option.some.inj e9).symm
    have hpd := (unhide HO).arr.same (hB.2.1.block m (unhide HO).arr.lt fun e => (unhide HO).apart e)
    obtain ⟨ad9, cap9, hv9, _, _⟩ := owns_slice hB.1
    rw [hv9] at e9
    refine ⟨some v, w'.setCell ⟨m, 3, none⟩ v, ?_, gappV.set v, ⟨?_, ?_⟩, rfl⟩
    · rw [hv9]
      exact op_store64 rfl (hd 16 24 (by kernel_rfl)) e9 (hpd.cell (i := 3) rfl) (hpd.free 3)
    · rw [Flow.upd_ne (by decide)]; exact hn.done 14 (by kernel_rfl)
    · rw [Flow.upd_eq]
      exact ⟨v, w', hB, rfl⟩
  · intro L s0 w5 hC hL vals hv
    obtain ⟨v, w6, ⟨q1, q2, q3⟩, rfl⟩ := hC.end (hL 17 (by decide))
    have HF := hide ((unhide HO).more (r := r) q1 q2 q3)
    clear hC hL hv q1 q2 q3
    simp only [Free.putAll, Act.put, List.setIfInBounds_toArray, List.set_cons_succ, List.set_cons_zero]
    generalize w6.setCell ⟨m, 3, none⟩ v = w7 at *
    generalize vals 0 = y0 at *
    generalize vals 1 = y1 at *
    generalize vals 2 = y2 at *
    generalize vals 3 = y3 at *
    generalize vals 4 = y4 at *
    generalize vals 5 = y5 at *
    generalize vals 6 = y6 at *
    generalize vals 7 = y7 at *
    generalize vals 8 = y8 at *
    generalize vals 9 = y9 at *
    generalize vals 10 = y10 at *
    generalize vals 11 = y11 at *
    generalize vals 12 = y12 at *
    generalize vals 13 = y13 at *
    generalize vals 14 = y14 at *
    generalize vals 15 = y15 at *
    generalize vals 16 = y16 at *
    go_wp2_with fail
    refine ⟨rfl, .tuple #[], by simp [results, Tryz.results155], rfl, ?_⟩
    subst hr
    exact unhide HFIN v w7 (unhide HF).1 (unhide HF).2
end
end Go.Proofs.YtdfdalkcljfghaaGreat

namespace Go.Proofs.YtdfdalkcljfghaaGreat
open Go.RowKit

section
variable {F D : List Nat} {w w' : World} {m p : Nat} {x : MX} {d : DM}

set_option maxHeartbeats 800000 in
set_option maxRecDepth 100000 in
theorem merase_walk (h : PMap F D w m p d x) (i j : Int) (hj : -9223372036854775808 ≤ j ∧ j ≤ 9223372036854775807) (hlen : d.wait.length ≤ 1000000) (hop : x.ops.length ≤ 1000000) :
    Calls Tryz.prog 157 #[.pointer (some ⟨m, 0, none⟩), .int .i64 i, .int .i64 j] w fun e w' => e = .returned (.int .i64 (eraseM d x i j).1) ∧
      ∃ F' D', PMap F' D' w' m p (eraseM d x i j).2.1 (eraseM d x i j).2.2 ∧ Turns (F ++ D) (F' ++ D') w w' := by
  have HM := hide h
  have HPL := hide (place_walk h.map i j hj)
  obtain ⟨q1, q2, hq⟩ : ∃ q1 q2, placeX x.sz i j = (q1, q2) := ⟨_, _, rfl⟩
  rw [hq] at HPL
  clear h
  by_cases h0 : q2 = 0
  · subst h0
    obtain ⟨e1, d1, hed⟩ : ∃ e1 d1, eraseD d q1 = (e1, d1) := ⟨_, _, rfl⟩
    have HE : ∀ w1, Below w.heap.size w w1 → Hid (Calls Tryz.prog 164 #[.pointer (some ⟨p, 0, none⟩), .int .i64 q1] w1 fun e w' => e = .returned (.int .i64 e1) ∧ ∃ F', Dev F' w' p d1 ∧ Turns D F' w1 w') := fun w1 hb1 => by
      have := erase_walk ((unhide HM).dev.below hb1) q1 hlen
      rw [hed] at this
      exact hide this
    have HKL : Hid (d1.kept.length = d.kept.length) := hide (by
      have := erase_kept d q1
      rw [hed] at this
      rw [this])
    by_cases h1 : e1 = 0
    · subst h1
      rw [show eraseM d x i j = (0, d1, x.did 1 i j) by unfold eraseM opG; rw [hq, hed]; simp]
      clear hq hed
      go_enter Tryz.func157, Tryz.ntmps157
      go_wp2_with fail
      refine (unhide HPL).mono ?_
      rintro e w1 ⟨rfl, hb1, hs1⟩
      have HB1 := hide hb1
      have HM1 := hide ((unhide HM).below hb1)
      have hc0 := (unhide HM1).map.dev
      have HE1 := HE w1 hb1
      clear hb1 HPL HM HE
      go_wp2_with fail
      refine (unhide HE1).mono ?_
      rintro e w2 ⟨rfl, D', hD2, hT2⟩
      have HQ2 := hide ((unhide HM1).turnD hT2 hD2 (unhide HKL))
      clear hD2 hT2 HE1 HM1 hc0 HKL
      go_wp2_with fail
      refine (did_walk (unhide HQ2).1.map 1 i j hop).mono ?_
      rintro e w3 ⟨rfl, F', hF3, hT3⟩
      have HQ3 := hide ((unhide HQ2).1.turnM hT3 hF3 rfl)
      clear hF3 hT3
      go_wp2_with fail
      go_ret
      exact ⟨rfl, F', D', (unhide HQ3).1, Turns.after (unhide HB1) ((unhide HQ2).2.trans (unhide HQ3).2)⟩
    · rw [show eraseM d x i j = (e1, d1, x) by unfold eraseM opG; rw [hq, hed]; simp [h1]]
      clear hq hed
      go_enter Tryz.func157, Tryz.ntmps157
      go_wp2_with fail
      refine (unhide HPL).mono ?_
      rintro e w1 ⟨rfl, hb1, hs1⟩
      have HB1 := hide hb1
      have HM1 := hide ((unhide HM).below hb1)
      have hc0 := (unhide HM1).map.dev
      have HE1 := HE w1 hb1
      clear hb1 HPL HM HE
      go_wp2_with fail
      refine (unhide HE1).mono ?_
      rintro e w2 ⟨rfl, D', hD2, hT2⟩
      have HQ2 := hide ((unhide HM1).turnD hT2 hD2 (unhide HKL))
      clear hD2 hT2 HE1 HM1 hc0 HKL
      go_wp2_with fail
      go_ret
      exact ⟨rfl, F, D', (unhide HQ2).1, Turns.after (unhide HB1) (unhide HQ2).2⟩
  · rw [show eraseM d x i j = (q2, d, x) by unfold eraseM opG; rw [hq]; simp [h0]]
    clear hq
    go_enter Tryz.func157, Tryz.ntmps157
    go_wp2_with fail
    refine (unhide HPL).mono ?_
    rintro e w1 ⟨rfl, hb1, hs1⟩
    have HB1 := hide hb1
    clear hb1 HPL
    go_wp2_with fail
    go_ret
    exact ⟨rfl, F, D, (unhide HM).below (unhide HB1), Turns.of_below (unhide HB1)⟩

set_option maxHeartbeats 800000 in
set_option maxRecDepth 100000 in
theorem mprogram_walk (h : PMap F D w m p d x) (i j : Int) (hj : -9223372036854775808 ≤ j ∧ j ≤ 9223372036854775807) (s : Sec) (hs : s.length = 64) (hlen : d.wait.length ≤ 1000000) (hop : x.ops.length ≤ 1000000) :
    Calls Tryz.prog 146 #[.pointer (some ⟨m, 0, none⟩), .int .i64 i, .int .i64 j, secV s] w fun e w' => e = .returned (.int .i64 (programM s d x i j).1) ∧
      ∃ F' D', PMap F' D' w' m p (programM s d x i j).2.1 (programM s d x i j).2.2 ∧ Turns (F ++ D) (F' ++ D') w w' := by
  have HM := hide h
  have HS := hide hs
  have HPL : ∀ w1, Below w.heap.size w w1 → Hid (Calls Tryz.prog 110 #[.pointer (some ⟨m, 0, none⟩), .int .i64 i, .int .i64 j] w1 fun e w' => e = .returned (.tuple #[.int .i64 (placeX x.sz i j).1, .int .i64 (placeX x.sz i j).2]) ∧ Below w1.heap.size w1 w' ∧ w'.heap.size = w1.heap.size) := fun w1 hb1 => hide (place_walk (h.map.below hb1) i j hj)
  obtain ⟨q1, q2, hq⟩ : ∃ q1 q2, placeX x.sz i j = (q1, q2) := ⟨_, _, rfl⟩
  rw [hq] at HPL
  clear h
  by_cases h0 : q2 = 0
  · subst h0
    obtain ⟨e1, d1, hed⟩ : ∃ e1 d1, programD d q1 s = (e1, d1) := ⟨_, _, rfl⟩
    have HE : Hid (∀ w1, Dev D w1 p d → Calls Tryz.prog 154 #[.pointer (some ⟨p, 0, none⟩), .int .i64 q1, secV s] w1 fun e w' => e = .returned (.int .i64 e1) ∧ ∃ F', Dev F' w' p d1 ∧ Turns D F' w1 w') := hide fun w1 hd1 => by
      have := program_walk hd1 q1 s hs hlen
      rw [hed] at this
      exact this
    have HKL : Hid (d1.kept.length = d.kept.length) := hide (by
      have := program_kept d q1 s
      rw [hed] at this
      rw [this])
    by_cases h1 : e1 = 0
    · rw [show programM s d x i j = (0, d1, x.did 2 i j) by unfold programM opG; rw [hq]; simp [hed, h1]]
      clear hq hed
      go_enter Tryz.func146, Tryz.ntmps146
      go_wp2_with (refine wpList_box 136 _ (bytesV s) rfl rfl rfl ?_)
      intro w1 hA1 hb1 hs1
      have HA1 := hide hA1
      have Hb1 := hide hb1
      have HP1 := HPL w1 hb1
      clear hA1 hb1 HPL
      go_wp2_with fail
      refine (unhide HP1).mono ?_
      rintro e w2 ⟨rfl, hb2, hs2⟩
      have Hb2 := hide ((unhide Hb1).trans (hb2.mono (by omega)))
      have HA2 := hide ((unhide HA1).keep hb2 (by omega))
      have HM2 := hide ((unhide HM).below (unhide Hb2))
      have hc0 := (unhide HM2).map.dev
      have HT2 : Hid (∀ H, Turns H H w w2) := hide fun H => Turns.of_below (unhide Hb2)
      clear HP1 hb2 HA1 Hb1 HM Hb2
      generalize w.heap.size = q at *
      go_wp2_with fail
      have hr5 : w2.rangeAt q 0 (bytesV s) := (unhide HA2).range
      refine Flow.wp_region (Flow.VV (fun j => match j with | 0 => .pointer (some ⟨m, 0, none⟩) | 1 => .pointer (some ⟨m, 0, none⟩) | 2 => .pointer (some ⟨m, 0, none⟩) | 3 => .pointer (some ⟨p, 0, none⟩) | 4 => .int .i64 q1 | 5 => secV s | 6 => .int .i64 e1 | 7 => .int .i64 e1 | _ => undef)) (Flow.two 6 (fun _ w' => w' = w2.drew) (fun _ w' => ∃ D', Dev D' w' p d1 ∧ Turns D D' w2 w')) () (by kernel_rfl) (by kernel_rfl) (by unfold Flow.two; simp) ⟨?_, ?_, ?_, ?_, ?_, ?_, ?_, ?_, trivial⟩ ?_
      · exact Flow.move (Flow.goes_plain rfl) (Flow.two.upd (by decide)) (.inl rfl) fun a s w' hs hd => (hs 0 (by kernel_rfl))
      · refine Flow.pure (Flow.goes_plain rfl) (Flow.two.upd (by decide)) fun a L s w' hC hL hn hs hd => ?_
        skip
        exact ⟨_, op_nil rfl (hd 0 22 (by kernel_rfl)) w', rfl⟩
      · refine Flow.pure (Flow.goes_plain rfl) (Flow.two.upd (by decide)) fun a L s w' hC hL hn hs hd => ?_
        skip
        exact ⟨_, op_f146_0 rfl (hd 1 23 (by kernel_rfl)) w', rfl⟩
      · refine Flow.pure (Flow.goes_plain rfl) (Flow.two.upd (by decide)) fun a L s w' hC hL hn hs hd => ?_
        have hA := hC.pre (hn.after 6 (by kernel_rfl))
        exact ⟨_, op_load73 rfl (hd 2 24 (by kernel_rfl)) (by rw [hA]; exact hc0), rfl⟩
      · exact Flow.move (Flow.goes_plain rfl) (Flow.two.upd (by decide)) (.inl rfl) fun a s w' hs hd => (hs 9 (by kernel_rfl))
      · refine Flow.pure (Flow.goes_plain rfl) (Flow.two.upd (by decide)) fun a L s w' hC hL hn hs hd => ?_
        have hA := hC.pre (hn.after 6 (by kernel_rfl))
        exact ⟨_, op_load136 rfl (hs 7 (by kernel_rfl)) (by rw [hA]; exact hr5) (unhide HS), rfl⟩
      · refine Flow.call (Flow.goes_plain rfl) fun a L s0 w' hC hL hn hs hd => ⟨154, _, op_call154 rfl (hd 3 25 (by kernel_rfl)) (hd 4 26 (by kernel_rfl)) (hd 5 27 (by kernel_rfl)) rfl w', (unhide HE w' ?_).mono ?_⟩
        · have hA := hC.pre hL
          rw [hA]
          exact (unhide HM2).dev.drew
        · have hA := hC.pre hL
          rintro e w'' ⟨rfl, D', hD, hT⟩
          refine ⟨_, (), rfl, fun _ _ _ h => h, Flow.two.post ⟨D', hD, ?_⟩, rfl⟩
          rw [hA] at hT
          exact ⟨hT.1.undrew, hT.2⟩
      · exact Flow.move (Flow.goes_plain rfl) (Flow.two.upd (by decide)) (.inr rfl) fun a s w' hs hd => (hd 6 28 (by kernel_rfl))
      · intro L _ w4 hC hL vals hv
        obtain ⟨D', hD4, hT4⟩ := hC.end (hL 6 (by decide))
        have e7 : vals 7 = .int .i64 e1 := hv 7 _ 11 rfl rfl
        have e6 : vals 6 = .int .i64 e1 := hv 6 _ 28 rfl rfl
        have HQ4 := hide ((unhide HM2).turnD hT4 hD4 (unhide HKL))
        simp only [Free.putAll, Act.put, List.setIfInBounds_toArray, List.set_cons_succ, List.set_cons_zero, e6, e7]
        clear hC hL hv e6 e7 hD4 hT4 hc0 hr5 HM2 HKL
        generalize vals 0 = x0 at *
        generalize vals 1 = x1 at *
        generalize vals 2 = x2 at *
        generalize vals 3 = x3 at *
        generalize vals 4 = x4 at *
        generalize vals 5 = x5 at *
        subst h1
        go_wp2_with fail
        refine (did_walk (unhide HQ4).1.map 2 i j hop).mono ?_
        rintro e w5 ⟨rfl, F', hF5, hT5⟩
        have HQ5 := hide ((unhide HQ4).1.turnM hT5 hF5 rfl)
        clear hF5 hT5
        go_wp2_with fail
        go_ret
        exact ⟨rfl, F', D', (unhide HQ5).1, (unhide HT2 _).trans ((unhide HQ4).2.trans (unhide HQ5).2)⟩
    · rw [show programM s d x i j = (e1, d1, x) by unfold programM opG; rw [hq]; simp [hed, h1]]
      clear hq hed
      go_enter Tryz.func146, Tryz.ntmps146
      go_wp2_with (refine wpList_box 136 _ (bytesV s) rfl rfl rfl ?_)
      intro w1 hA1 hb1 hs1
      have HA1 := hide hA1
      have Hb1 := hide hb1
      have HP1 := HPL w1 hb1
      clear hA1 hb1 HPL
      go_wp2_with fail
      refine (unhide HP1).mono ?_
      rintro e w2 ⟨rfl, hb2, hs2⟩
      have Hb2 := hide ((unhide Hb1).trans (hb2.mono (by omega)))
      have HA2 := hide ((unhide HA1).keep hb2 (by omega))
      have HM2 := hide ((unhide HM).below (unhide Hb2))
      have hc0 := (unhide HM2).map.dev
      have HT2 : Hid (∀ H, Turns H H w w2) := hide fun H => Turns.of_below (unhide Hb2)
      clear HP1 hb2 HA1 Hb1 HM Hb2
      generalize w.heap.size = q at *
      go_wp2_with fail
      have hr5 : w2.rangeAt q 0 (bytesV s) := (unhide HA2).range
      refine Flow.wp_region (Flow.VV (fun j => match j with | 0 => .pointer (some ⟨m, 0, none⟩) | 1 => .pointer (some ⟨m, 0, none⟩) | 2 => .pointer (some ⟨m, 0, none⟩) | 3 => .pointer (some ⟨p, 0, none⟩) | 4 => .int .i64 q1 | 5 => secV s | 6 => .int .i64 e1 | 7 => .int .i64 e1 | _ => undef)) (Flow.two 6 (fun _ w' => w' = w2.drew) (fun _ w' => ∃ D', Dev D' w' p d1 ∧ Turns D D' w2 w')) () (by kernel_rfl) (by kernel_rfl) (by unfold Flow.two; simp) ⟨?_, ?_, ?_, ?_, ?_, ?_, ?_, ?_, trivial⟩ ?_
      · exact Flow.move (Flow.goes_plain rfl) (Flow.two.upd (by decide)) (.inl rfl) fun a s w' hs hd => (hs 0 (by kernel_rfl))
      · refine Flow.pure (Flow.goes_plain rfl) (Flow.two.upd (by decide)) fun a L s w' hC hL hn hs hd => ?_
        skip
        exact ⟨_, op_nil rfl (hd 0 22 (by kernel_rfl)) w', rfl⟩
      · refine Flow.pure (Flow.goes_plain rfl) (Flow.two.upd (by decide)) fun a L s w' hC hL hn hs hd => ?_
        skip
        exact ⟨_, op_f146_0 rfl (hd 1 23 (by kernel_rfl)) w', rfl⟩
      · refine Flow.pure (Flow.goes_plain rfl) (Flow.two.upd (by decide)) fun a L s w' hC hL hn hs hd => ?_
        have hA := hC.pre (hn.after 6 (by kernel_rfl))
        exact ⟨_, op_load73 rfl (hd 2 24 (by kernel_rfl)) (by rw [hA]; exact hc0), rfl⟩
      · exact Flow.move (Flow.goes_plain rfl) (Flow.two.upd (by decide)) (.inl rfl) fun a s w' hs hd => (hs 9 (by kernel_rfl))
      · refine Flow.pure (Flow.goes_plain rfl) (Flow.two.upd (by decide)) fun a L s w' hC hL hn hs hd => ?_
        have hA := hC.pre (hn.after 6 (by kernel_rfl))
        exact ⟨_, op_load136 rfl (hs 7 (by kernel_rfl)) (by rw [hA]; exact hr5) (unhide HS), rfl⟩
      · refine Flow.call (Flow.goes_plain rfl) fun a L s0 w' hC hL hn hs hd => ⟨154, _, op_call154 rfl (hd 3 25 (by kernel_rfl)) (hd 4 26 (by kernel_rfl)) (hd 5 27 (by kernel_rfl)) rfl w', (unhide HE w' ?_).mono ?_⟩
        · have hA := hC.pre hL
          rw [hA]
          exact (unhide HM2).dev.drew
        · have hA := hC.pre hL
          rintro e w'' ⟨rfl, D', hD, hT⟩
          refine ⟨_, (), rfl, fun _ _ _ h => h, Flow.two.post ⟨D', hD, ?_⟩, rfl⟩
          rw [hA] at hT
          exact ⟨hT.1.undrew, hT.2⟩
      · exact Flow.move (Flow.goes_plain rfl) (Flow.two.upd (by decide)) (.inr rfl) fun a s w' hs hd => (hd 6 28 (by kernel_rfl))
      · intro L _ w4 hC hL vals hv
        obtain ⟨D', hD4, hT4⟩ := hC.end (hL 6 (by decide))
        have e7 : vals 7 = .int .i64 e1 := hv 7 _ 11 rfl rfl
        have e6 : vals 6 = .int .i64 e1 := hv 6 _ 28 rfl rfl
        have HQ4 := hide ((unhide HM2).turnD hT4 hD4 (unhide HKL))
        simp only [Free.putAll, Act.put, List.setIfInBounds_toArray, List.set_cons_succ, List.set_cons_zero, e6, e7]
        clear hC hL hv e6 e7 hD4 hT4 hc0 hr5 HM2 HKL
        generalize vals 0 = x0 at *
        generalize vals 1 = x1 at *
        generalize vals 2 = x2 at *
        generalize vals 3 = x3 at *
        generalize vals 4 = x4 at *
        generalize vals 5 = x5 at *
        go_wp2_with fail
        go_ret
        exact ⟨rfl, F, D', (unhide HQ4).1, (unhide HT2 _).trans (unhide HQ4).2⟩
  · rw [show programM s d x i j = (q2, d, x) by unfold programM opG; rw [hq]; simp [h0]]
    clear hq
    go_enter Tryz.func146, Tryz.ntmps146
    go_wp2_with (refine wpList_box 136 _ (bytesV s) rfl rfl rfl ?_)
    intro w1 hA1 hb1 hs1
    have Hb1 := hide hb1
    have HP1 := HPL w1 hb1
    clear hA1 hb1 HPL
    go_wp2_with fail
    refine (unhide HP1).mono ?_
    rintro e w2 ⟨rfl, hb2, hs2⟩
    have Hb2 := hide ((unhide Hb1).trans (hb2.mono (by omega)))
    clear HP1 hb2 Hb1
    go_wp2_with fail
    go_ret
    exact ⟨rfl, F, D, (unhide HM).below (unhide Hb2), Turns.of_below (unhide Hb2)⟩
end
end Go.Proofs.YtdfdalkcljfghaaGreat
