/-
  Two rows of changes held against each other; what shorter and longer bytes are.
-/
import Derived.Test.YtdfdalkcljfghaaGreatTGet
import Derived.Test.YtdfdalkcljfghaaGreatFRead
namespace Go.Proofs.YtdfdalkcljfghaaGreat.Slot
open Go.RowKit

section
variable {ρ : Operand → Value} {o : Oper}
theorem op_idx43 {x y : Operand} {g off n c k : Nat} (ho : o.op = .indexAddr 43 x y) (h1 : ρ x = .slice (some ⟨g, off, none⟩) n c) (h2 : ρ y = .int .i64 (k : Int)) (hk : k < n) (w : World) :
    (execOp ρ o).run Tryz.prog w = .ok (.value (.pointer (some ⟨g, off + k * 40, none⟩))) w := by
  unfold execOp
  rw [ho]
  go_simp
theorem op_load41 {x : Operand} {g k : Nat} {cs : List Value} {w : World} (ho : o.op = .load 41 x) (h1 : ρ x = .pointer (some ⟨g, k, none⟩)) (hA : w.rangeAt g k cs) (hi : (Tryz.prog.info? 41).map (·.size) = some cs.length) :
    (execOp ρ o).run Tryz.prog w = .ok (.value (.agg cs.toArray)) w := op_loadV ho h1 hA Tryz.underlying41 rfl hi
theorem op_neq41 {u v : Operand} {x y : C} {r : Bool} (ho : o.op = .binOp .neq 41 u v 41) (h1 : ρ u = .agg x.cs.toArray) (h2 : ρ v = .agg y.cs.toArray) (hr : (!decide (x = y)) = r) (hx : FitC x) (hy : FitC y) (w : World) :
    (execOp ρ o).run Tryz.prog w = .ok (.value (.bool r)) w := by
  have he := run_equal41 x y hx hy
  subst hr
  unfold execOp
  rw [ho]
  go_simp
end
theorem chg_eq_step {xs ys : List C} {k : Nat} (hx : k < xs.length) (hy : k < ys.length) : xs.take (k + 1) = ys.take (k + 1) ↔ xs.take k = ys.take k ∧ xs.getD k zeroC = ys.getD k zeroC := by
  rw [take_snoc zeroC xs k hx, take_snoc zeroC ys k hy]
  constructor
  · intro h
    have hl : (xs.take k).length = (ys.take k).length := by rw [List.length_take, List.length_take]; omega
    have := List.append_inj h hl
    exact ⟨this.1, by simpa using this.2⟩
  · rintro ⟨h1, h2⟩
    rw [h1, h2]
set_option maxRecDepth 100000 in
set_option maxHeartbeats 1000000 in
theorem same_walk (N : Nat) (v v2 : Value) (xs ys : List C) (w : World) (hr : CRowV N w v xs) (hr2 : CRowV N w v2 ys) (hl : xs.length ≤ 100000) :
    Calls Tryz.prog 26 #[v, v2] w fun e w' => e = .returned (.bool (decide (xs = ys))) ∧ Below w.heap.size w w' := by
  obtain ⟨a, len, cap, rfl, q1, q2, q3, hrow⟩ := hr
  obtain ⟨a', len', cap', rfl, q1', q2', q3', hrow'⟩ := hr2
  have hlen := hrow.1
  have hlen' := hrow'.1
  by_cases hne : len = len'
  · subst hne
    have hlb : len ≤ 100000 := by omega
    have HR := hide hrow
    have HR' := hide hrow'
    have HL := hide hlen
    have HL' := hide hlen'
    clear hrow hrow' hlen hlen' hl
    go_enter Tryz.func26, Tryz.ntmps26
    go_wp2
    go_loopw [13] (fun ci wr => ∃ k : Nat, k ≤ len ∧ ci = .int .i64 (k : Int) ∧ xs.take k = ys.take k ∧ Below w.heap.size w wr ∧ wr.heap = w.heap) (fun ci _ => len - (intOf ci).toNat)
    case atStart => exact ⟨0, by omega, rfl, by simp, Below.refl _ _, rfl⟩
    case round =>
      obtain ⟨k, hk, rfl, htk, hb, hh⟩ := hrel
      by_cases hlt : k < len
      · obtain ⟨b, off, rfl, hbN, hrg⟩ := (unhide HR).2.2 k hlt
        obtain ⟨b', off', rfl, hbN', hrg'⟩ := (unhide HR').2.2 k hlt
        have hs1 : FitC (xs.getD k zeroC) := (unhide HR).2.1 _ (by
          rw [List.getD_eq_getElem?_getD, List.getElem?_eq_getElem (by rw [unhide HL]; exact hlt)]
          exact List.getElem_mem _)
        have hs2 : FitC (ys.getD k zeroC) := (unhide HR').2.1 _ (by
          rw [List.getD_eq_getElem?_getD, List.getElem?_eq_getElem (by rw [unhide HL']; exact hlt)]
          exact List.getElem_mem _)
        have HST := hide (chg_eq_step (xs := xs) (ys := ys) (k := k) (by rw [unhide HL]; exact hlt) (by rw [unhide HL']; exact hlt))
        generalize xs.getD k zeroC = x at *
        generalize ys.getD k zeroC = y at *
        have hrg1 : ∀ W : World, W.heap = w.heap → W.rangeAt b (off + k * 40) x.cs := fun W e j u hj => by
          have := hrg j u hj
          unfold World.cell? at this ⊢
          rw [e]; exact this
        have hrg2 : ∀ W : World, W.heap = w.heap → W.rangeAt b' (off' + k * 40) y.cs := fun W e j u hj => by
          have := hrg' j u hj
          unfold World.cell? at this ⊢
          rw [e]; exact this
        have HI1 := hide hs1
        have HI1' := hide (info41c hs1)
        have HI2 := hide hs2
        have HI2' := hide (info41c hs2)
        have HRG1 := hide hrg1
        have HRG2 := hide hrg2
        have HH := hide hh
        have HB := hide hb
        have HTK := hide htk
        clear hrg hrg' hrg1 hrg2 hs1 hs2 hh hb htk
        by_cases hxy : x = y
        · have HE : Hid ((!decide (x = y)) = false) := hide (by rw [hxy]; simp)
          have HQ : Hid (xs.take (k + 1) = ys.take (k + 1)) := hide ((unhide HST).2 ⟨unhide HTK, hxy⟩)
          clear hxy
          go_wp2
          refine Flow.wp_region (Flow.VV (fun j => match j with | 0 => .slice (some ⟨b, off, none⟩) len cap | 1 => .int .i64 (k : Int) | 2 => .pointer (some ⟨b, off + k * 40, none⟩) | 3 => .agg x.cs.toArray | 4 => .slice (some ⟨b', off', none⟩) len cap' | 5 => .int .i64 (k : Int) | 6 => .pointer (some ⟨b', off' + k * 40, none⟩) | 7 => .agg y.cs.toArray | 8 => .bool false | _ => undef)) (fun _ (_ : Unit) w' => w' = wr.drew) () (by kernel_rfl) (by kernel_rfl) rfl ⟨?_, ?_, ?_, ?_, ?_, ?_, ?_, ?_, ?_, trivial⟩ ?_
          · exact Flow.move (Flow.goes_plain rfl) (fun _ _ _ h => h) (.inl rfl) fun a s w' hs hd => (hs 0 (by kernel_rfl))
          · exact Flow.move (Flow.goes_plain rfl) (fun _ _ _ h => h) (.inl rfl) fun a s w' hs hd => (hs 5 (by kernel_rfl))
          · refine Flow.pure (Flow.goes_plain rfl) (fun _ _ _ h => h) fun a L s w' hC hL hn hs hd => ?_
            skip
            exact ⟨_, op_idx43 rfl (hd 0 16 (by kernel_rfl)) (hd 1 17 (by kernel_rfl)) (by omega) w', rfl⟩
          · refine Flow.pure (Flow.goes_plain rfl) (fun _ _ _ h => h) fun a L s w' hC hL hn hs hd => ?_
            skip
            exact ⟨_, op_load41 rfl (hd 2 18 (by kernel_rfl)) (by rw [hC]; exact unhide HRG1 _ (unhide HH)) (unhide HI1'), rfl⟩
          · exact Flow.move (Flow.goes_plain rfl) (fun _ _ _ h => h) (.inl rfl) fun a s w' hs hd => (hs 1 (by kernel_rfl))
          · exact Flow.move (Flow.goes_plain rfl) (fun _ _ _ h => h) (.inl rfl) fun a s w' hs hd => (hs 5 (by kernel_rfl))
          · refine Flow.pure (Flow.goes_plain rfl) (fun _ _ _ h => h) fun a L s w' hC hL hn hs hd => ?_
            skip
            exact ⟨_, op_idx43 rfl (hd 4 20 (by kernel_rfl)) (hd 5 21 (by kernel_rfl)) (by omega) w', rfl⟩
          · refine Flow.pure (Flow.goes_plain rfl) (fun _ _ _ h => h) fun a L s w' hC hL hn hs hd => ?_
            skip
            exact ⟨_, op_load41 rfl (hd 6 22 (by kernel_rfl)) (by rw [hC]; exact unhide HRG2 _ (unhide HH)) (unhide HI2'), rfl⟩
          · refine Flow.pure (Flow.goes_plain rfl) (fun _ _ _ h => h) fun a L s w' hC hL hn hs hd => ?_
            skip
            exact ⟨_, op_neq41 rfl (hd 3 19 (by kernel_rfl)) (hd 7 23 (by kernel_rfl)) (unhide HE) (unhide HI1) (unhide HI2) w', rfl⟩
          · intro L _ w8 hC hL vals hv
            subst hC
            have e8 : vals 8 = .bool false := hv 8 _ 24 rfl rfl
            simp only [Free.putAll, Act.put, List.setIfInBounds_toArray, List.set_cons_succ, List.set_cons_zero, e8]
            have HB8 := hide (unhide HB).drew
            have HH8 : Hid (wr.drew.heap = w.heap) := hide (unhide HH)
            clear hL hv e8
            generalize vals 0 = t0 at *
            generalize vals 1 = t1 at *
            generalize vals 2 = t2 at *
            generalize vals 3 = t3 at *
            generalize vals 4 = t4 at *
            generalize vals 5 = t5 at *
            generalize vals 6 = t6 at *
            generalize vals 7 = t7 at *
            go_wp2
            go_roundw
            case rel => exact ⟨k + 1, by omega, by go_num, unhide HQ, unhide HB8, unhide HH8⟩
            case measure => simp [intOf]; omega
        · have HE : Hid ((!decide (x = y)) = true) := hide (by rw [decide_eq_false hxy]; rfl)
          have HQ : Hid (decide (xs = ys) = false) := hide (by
            rw [decide_eq_false_iff_not]
            intro e
            exact hxy ((unhide HST).1 (by rw [e])).2)
          clear hxy
          go_wp2
          refine Flow.wp_region (Flow.VV (fun j => match j with | 0 => .slice (some ⟨b, off, none⟩) len cap | 1 => .int .i64 (k : Int) | 2 => .pointer (some ⟨b, off + k * 40, none⟩) | 3 => .agg x.cs.toArray | 4 => .slice (some ⟨b', off', none⟩) len cap' | 5 => .int .i64 (k : Int) | 6 => .pointer (some ⟨b', off' + k * 40, none⟩) | 7 => .agg y.cs.toArray | 8 => .bool true | _ => undef)) (fun _ (_ : Unit) w' => w' = wr.drew) () (by kernel_rfl) (by kernel_rfl) rfl ⟨?_, ?_, ?_, ?_, ?_, ?_, ?_, ?_, ?_, trivial⟩ ?_
          · exact Flow.move (Flow.goes_plain rfl) (fun _ _ _ h => h) (.inl rfl) fun a s w' hs hd => (hs 0 (by kernel_rfl))
          · exact Flow.move (Flow.goes_plain rfl) (fun _ _ _ h => h) (.inl rfl) fun a s w' hs hd => (hs 5 (by kernel_rfl))
          · refine Flow.pure (Flow.goes_plain rfl) (fun _ _ _ h => h) fun a L s w' hC hL hn hs hd => ?_
            skip
            exact ⟨_, op_idx43 rfl (hd 0 16 (by kernel_rfl)) (hd 1 17 (by kernel_rfl)) (by omega) w', rfl⟩
          · refine Flow.pure (Flow.goes_plain rfl) (fun _ _ _ h => h) fun a L s w' hC hL hn hs hd => ?_
            skip
            exact ⟨_, op_load41 rfl (hd 2 18 (by kernel_rfl)) (by rw [hC]; exact unhide HRG1 _ (unhide HH)) (unhide HI1'), rfl⟩
          · exact Flow.move (Flow.goes_plain rfl) (fun _ _ _ h => h) (.inl rfl) fun a s w' hs hd => (hs 1 (by kernel_rfl))
          · exact Flow.move (Flow.goes_plain rfl) (fun _ _ _ h => h) (.inl rfl) fun a s w' hs hd => (hs 5 (by kernel_rfl))
          · refine Flow.pure (Flow.goes_plain rfl) (fun _ _ _ h => h) fun a L s w' hC hL hn hs hd => ?_
            skip
            exact ⟨_, op_idx43 rfl (hd 4 20 (by kernel_rfl)) (hd 5 21 (by kernel_rfl)) (by omega) w', rfl⟩
          · refine Flow.pure (Flow.goes_plain rfl) (fun _ _ _ h => h) fun a L s w' hC hL hn hs hd => ?_
            skip
            exact ⟨_, op_load41 rfl (hd 6 22 (by kernel_rfl)) (by rw [hC]; exact unhide HRG2 _ (unhide HH)) (unhide HI2'), rfl⟩
          · refine Flow.pure (Flow.goes_plain rfl) (fun _ _ _ h => h) fun a L s w' hC hL hn hs hd => ?_
            skip
            exact ⟨_, op_neq41 rfl (hd 3 19 (by kernel_rfl)) (hd 7 23 (by kernel_rfl)) (unhide HE) (unhide HI1) (unhide HI2) w', rfl⟩
          · intro L _ w8 hC hL vals hv
            subst hC
            have e8 : vals 8 = .bool true := hv 8 _ 24 rfl rfl
            simp only [Free.putAll, Act.put, List.setIfInBounds_toArray, List.set_cons_succ, List.set_cons_zero, e8]
            have HB8 := hide (unhide HB).drew
            clear hL hv e8
            generalize vals 0 = t0 at *
            generalize vals 1 = t1 at *
            generalize vals 2 = t2 at *
            generalize vals 3 = t3 at *
            generalize vals 4 = t4 at *
            generalize vals 5 = t5 at *
            generalize vals 6 = t6 at *
            generalize vals 7 = t7 at *
            go_wp2
            go_ret
            exact ⟨by rw [unhide HQ]; rfl, unhide HB8⟩
      · obtain rfl : k = len := by omega
        have HQ : Hid (decide (xs = ys) = true) := hide (by
          rw [decide_eq_true_eq]
          rw [List.take_of_length_le (by rw [unhide HL]; exact Nat.le_refl _), List.take_of_length_le (by rw [unhide HL']; exact Nat.le_refl _)] at htk
          exact htk)
        have HB := hide hb
        clear hb hh htk
        go_wp2
        go_ret
        exact ⟨by rw [unhide HQ]; rfl, unhide HB⟩
  · have HD : Hid (decide (xs = ys) = false) := hide (by
      rw [decide_eq_false_iff_not]
      intro e
      rw [e] at hlen
      omega)
    have hl1 : len ≤ 100000 := by omega
    clear hrow hrow' hlen hlen'
    go_enter Tryz.func26, Tryz.ntmps26
    go_wp2
    go_ret
    exact ⟨by rw [unhide HD]; rfl, Below.refl _ _⟩

/-! ### shorter and longer bytes; changes one by one -/
theorem parse_short {t : T} (h : rightT t = true) (hf : FitT t) : parseF ((bytesT t).take 101) = (zeroT, 111) := by
  have hl := bytesT_len h hf
  unfold parseF
  rw [if_neg]
  rintro ⟨h1, _⟩
  rw [List.length_take] at h1
  omega
theorem parse_long {t : T} (h : rightT t = true) (hf : FitT t) : parseF (bytesT t ++ [0]) = (zeroT, 111) := by
  have hl := bytesT_len h hf
  unfold parseF
  rw [if_neg]
  rintro ⟨h1, _⟩
  rw [List.length_append, List.length_singleton] at h1
  omega
theorem putL_ne {l : List C} (h : allC l = true) : putL l ≠ [] := fun e => by
  unfold putL at e
  rw [if_pos h] at e
  have := congrArg List.length e
  rw [List.length_append, fixedL_length] at this
  simp at this
theorem putL_all {l : List C} (h : putL l ≠ []) : allC l = true := by
  unfold putL at h
  split at h
  · assumption
  · exact absurd rfl h
theorem get_long {l : List C} (h : allC l = true) (hf : ∀ c ∈ l, FitC c) : getF (putL l ++ [0]) = ([], 111) := by
  have e := rdAll_put h hf [0]
  unfold getF
  rw [e, if_neg]
  rintro ⟨_, h2⟩
  have := congrArg List.length h2
  simp at this
theorem get_short {l : List C} (h : allC l = true) (hf : ∀ c ∈ l, FitC c) (n : Nat) (hn : n + 1 = (putL l).length) : getF ((putL l).take n) = ([], 111) := by
  unfold getF
  rw [if_neg]
  rintro ⟨h1, h2⟩
  have hl := putL_all (by rw [h2]; exact h1)
  have e1 := rdAll_put hl (rdAll_fit _) ((putL l).drop n)
  rw [h2, List.take_append_drop] at e1
  have e2 := rdAll_put h hf []
  rw [List.append_nil, e1] at e2
  have := congrArg (fun x => x.2.1.length) e2
  simp only [List.length_drop, List.length_nil] at this
  omega
def stepA (p : T × Int) (c : C) : T × Int := if p.2 = 0 then applyT p.1 [c] else p
theorem apply1 {t : T} {c : C} (h1 : rightT t = true) (h2 : oneC c = true) : applyT t [c] = if lowC t c = true then (zeroT, 111) else (setT t c, 0) := by
  unfold applyT
  rw [if_pos ⟨h1, by rw [allC_iff]; exact ⟨by simp, fun x hx => by obtain rfl := List.mem_singleton.1 hx; exact h2⟩⟩, foldT]
  split <;> rfl
theorem fold_no : ∀ (l : List C), l.foldl stepA (zeroT, 111) = (zeroT, 111)
  | [] => rfl
  | c :: l => by
    rw [List.foldl_cons]
    show l.foldl stepA (zeroT, 111) = _
    exact fold_no l
theorem fold_steps : ∀ {l : List C} {t : T}, rightT t = true → (∀ c ∈ l, oneC c = true) → l.foldl stepA (t, 0) = resT (foldT t l)
  | [], t, _, _ => rfl
  | c :: l, t, h1, h2 => by
    rw [List.foldl_cons, foldT]
    have e : stepA (t, 0) c = applyT t [c] := if_pos rfl
    rw [e, apply1 h1 (h2 c (by simp))]
    split
    · exact fold_no l
    · exact fold_steps (setT_right h1 (h2 c (by simp))) (fun x hx => h2 x (by simp [hx]))
theorem steps_all {l : List C} {t : T} (h1 : rightT t = true) (h2 : allC l = true) : l.foldl stepA (t, 0) = applyT t l := by
  rw [fold_steps h1 (allC_iff.1 h2).2]
  unfold applyT
  rw [if_pos ⟨h1, h2⟩]
theorem step_fit {p : T × Int} {c : C} (hp : FitT p.1) (hc : FitC c) : FitT (stepA p c).1 := by
  unfold stepA
  split
  · exact apply_fit hp fun x hx => by obtain rfl := List.mem_singleton.1 hx; exact hc
  · exact hp
theorem steps_fit : ∀ {l : List C} {p : T × Int}, FitT p.1 → (∀ c ∈ l, FitC c) → FitT (l.foldl stepA p).1
  | [], _, hp, _ => hp
  | c :: l, p, hp, hl => steps_fit (l := l) (p := stepA p c) (step_fit hp (hl c (by simp))) (fun x hx => hl x (by simp [hx]))
theorem steps_snoc (l : List C) (k : Nat) (hk : k < l.length) (p : T × Int) : (l.take (k + 1)).foldl stepA p = stepA ((l.take k).foldl stepA p) (l.getD k zeroC) := by
  rw [take_snoc zeroC l k hk, List.foldl_append]
  rfl
end Go.Proofs.YtdfdalkcljfghaaGreat.Slot
