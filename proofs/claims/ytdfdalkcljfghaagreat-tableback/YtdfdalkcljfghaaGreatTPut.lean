/-
  What table.putSmall, told, Bytes, putChange and Put answer. What table.putChange and Put answer.
-/
import Derived.Test.YtdfdalkcljfghaaGreatTApply
import Derived.Test.YtdfdalkcljfghaaGreatLRead
namespace Go.Proofs.YtdfdalkcljfghaaGreat.Slot
open Go.RowKit

theorem tx_beq (a b : List UInt8) : ((tx a).toList == (tx b).toList) = decide (a = b) := by
  rw [ByteArray.toList_eq, ByteArray.toList_eq]
  rw [Bool.eq_iff_iff]
  simp [tx]

set_option maxHeartbeats 800000 in
set_option maxRecDepth 100000 in
theorem putSmall_walk (N : Nat) (v : Value) (bs : List UInt8) (x : Int) (hx0 : 0 ≤ x) (hx1 : x < 9223372036854775808) (w : World) (hN : N ≤ w.heap.size) (hr : RowV N w v bs) (hl : bs.length ≤ 100000) :
    Calls Tryz.prog 57 #[v, .int .i64 x] w fun e w' => ∃ v', e = .returned v' ∧ Own w.heap.size w' v' (bs ++ fixedL x.toNat 1) ∧ Below w.heap.size w w' := by
  have H := hide (fixed_walk N v bs x.toNat (by omega) 1 w hN hr hl)
  rw [show ((x.toNat : Nat) : Int) = x by omega, show sizeN 1 = 1 from rfl] at H
  have kc : IntKind.u64.wrap x = x := by unfold IntKind.wrap; simp [IntKind.bits, IntKind.signed]; omega
  obtain ⟨a, len, cap, rfl, _⟩ := hr
  generalize bs ++ fixedL x.toNat 1 = R at *
  clear hx0 hx1 hN hl
  go_enter Tryz.func57, Tryz.ntmps57
  go_wp2_with fail
  refine (unhide H).mono ?_
  rintro e w1 ⟨v', rfl, hO, hb⟩
  have HO := hide hO
  have HB := hide hb
  clear hO hb
  go_wp2
  go_ret
  exact ⟨v', rfl, unhide HO, unhide HB⟩

set_option maxHeartbeats 800000 in
set_option maxRecDepth 100000 in
theorem equal_walk (N M : Nat) (u v : Value) (a b : List UInt8) (w : World) (hu : RowV N w u a) (hv : RowV M w v b) : Calls Tryz.prog 91 #[u, v] w fun e w' => e = .returned (.bool (decide (a = b))) ∧ w' = w := by
  have h1 := run_text hu
  have h2 := run_text hv
  have he := tx_beq a b
  obtain ⟨au, lu, cu, rfl, _⟩ := hu
  obtain ⟨av, lv, cv, rfl, _⟩ := hv
  generalize decide (a = b) = r at *
  go_enter Tryz.func91, Tryz.ntmps91
  go_wp2
  go_ret
  exact ⟨rfl, rfl⟩
set_option maxHeartbeats 800000 in
set_option maxRecDepth 100000 in
theorem told_walk (N M : Nat) (u v : Value) (a b : List UInt8) (w : World) (hu : RowV N w u a) (hv : RowV M w v b) : Calls Tryz.prog 53 #[u, v] w fun e w' => e = .returned (.bool (decide (b ≠ [] ∧ a = b))) ∧ w' = w := by
  have H := hide (equal_walk N M u v a b w hu hv)
  obtain ⟨au, lu, cu, rfl, _⟩ := hu
  obtain ⟨av, lv, cv, rfl, _, _, _, hr⟩ := hv
  have hlen := hr.1
  have Hr : Hid (decide (b ≠ [] ∧ a = b) = (decide (0 < (lv : Int)) && decide (a = b))) := by
    show _ = _
    rw [Bool.eq_iff_iff]
    simp only [decide_eq_true_eq, Bool.and_eq_true]
    have : b ≠ [] ↔ 0 < (lv : Int) := by
      rw [← hlen]
      constructor
      · intro h
        have := List.length_pos_iff.2 h
        omega
      · intro h e
        rw [e] at h
        simp at h
    rw [this]
  generalize decide (b ≠ [] ∧ a = b) = R at *
  generalize decide (a = b) = r at *
  clear hr hlen
  by_cases h0 : 0 < (lv : Int)
  · have g0 : decide (0 < (lv : Int)) = true := decide_eq_true h0
    rw [g0] at Hr
    go_enter Tryz.func53, Tryz.ntmps53
    go_wp2_with fail
    refine (unhide H).mono ?_
    rintro e w1 ⟨rfl, hw⟩
    subst hw
    go_wp2
    go_ret
    exact ⟨by rw [unhide Hr]; rfl, rfl⟩
  · have g0 : decide (0 < (lv : Int)) = false := decide_eq_false h0
    rw [g0] at Hr
    go_enter Tryz.func53, Tryz.ntmps53
    go_wp2
    go_ret
    exact ⟨by rw [unhide Hr]; rfl, rfl⟩

/-! ### slices of slices -/
def AtParts (ps : List (List UInt8)) (v : Value) (_ : Unit) (w : World) : Prop := ∃ a len cap, v = .slice a len cap ∧ len ≤ 10 ∧ Parts w.heap.size w a len ps
theorem AtParts.grows (ps : List (List UInt8)) : Grows (AtParts ps) := fun _ _ _ hb h => by
  obtain ⟨a, len, cap, e, h10, h⟩ := h
  exact ⟨a, len, cap, e, h10, (h.below hb).up hb.size⟩
theorem two_parts (w : World) {u v : Value} {a b : List UInt8} (hu : RowV w.heap.size w u a) (hv : RowV w.heap.size w v b) : Parts (w.heap.size + 1) (w.alloc (.cells #[u, v] 46)) (some ⟨w.heap.size, 0, none⟩) 2 [a, b] := by
  have hb : Below w.heap.size w (w.alloc (.cells #[u, v] 46)) := (Below.refl _ w).alloc (Nat.le_refl _) _
  refine ⟨rfl, fun i hi => ?_⟩
  match i, hi with
  | 0, _ => exact ⟨w.heap.size, 0, u, rfl, by omega, by rw [cell_fresh]; rfl, (hu.below hb).up (by omega)⟩
  | 1, _ => exact ⟨w.heap.size, 0, v, rfl, by omega, by rw [cell_fresh]; rfl, (hv.below hb).up (by omega)⟩
section
variable {ρ : Operand → Value} {o : Oper}
theorem op_slice94_2 {x y : Operand} {u v : Value} (ho : o.op = .buildSlice 94 2 #[(0, x), (1, y)]) (h1 : ρ x = u) (h2 : ρ y = v) (hu : ∃ a n c, u = .slice a n c) (hv : ∃ a n c, v = .slice a n c) (w : World) :
    (execOp ρ o).run Tryz.prog w = .ok (.value (.slice (some ⟨w.heap.size, 0, none⟩) 2 2)) (w.alloc (.cells #[u, v] 46)) := by
  obtain ⟨a, n, c, rfl⟩ := hu
  obtain ⟨a2, n2, c2, rfl⟩ := hv
  obtain ⟨i, i1, i2, i3, i4⟩ := full34
  have hr := run_buildSlice (P := Tryz.prog) w 94 46 2 #[(0, .slice a n c), (1, .slice a2 n2 c2)] #[.slice a n c, .slice a2 n2 c2] i _ Tryz.underlying94 i1 i2 (by rw [i3]; decide) (by rw [i3]; decide) (by rw [i3]; kernel_rfl)
  unfold execOp
  simp only [ho, List.map_toArray, List.map_cons, List.map_nil, h1, h2, Sem.run_bind, hr, Result.andThen_ok, Sem.run_pure]
theorem op_slice94_1 {x : Operand} {u : Value} (ho : o.op = .buildSlice 94 1 #[(0, x)]) (h1 : ρ x = u) (hu : ∃ a n c, u = .slice a n c) (w : World) :
    (execOp ρ o).run Tryz.prog w = .ok (.value (.slice (some ⟨w.heap.size, 0, none⟩) 1 1)) (w.alloc (.cells #[u] 46)) := by
  obtain ⟨a, n, c, rfl⟩ := hu
  obtain ⟨i, i1, i2, i3, i4⟩ := full34
  have hr := run_buildSlice (P := Tryz.prog) w 94 46 1 #[(0, .slice a n c)] #[.slice a n c] i _ Tryz.underlying94 i1 i2 (by rw [i3]; decide) (by rw [i3]; decide) (by rw [i3]; kernel_rfl)
  unfold execOp
  simp only [ho, List.map_toArray, List.map_cons, List.map_nil, h1, Sem.run_bind, hr, Result.andThen_ok, Sem.run_pure]
end
theorem RowV.sl {N : Nat} {w : World} {v : Value} {l : List UInt8} (h : RowV N w v l) : ∃ a n c, v = .slice a n c := by
  obtain ⟨a, n, c, e, _⟩ := h
  exact ⟨a, n, c, e⟩

/-- Its block, if it has one, is none of those below B. -/
def Fresh (B : Nat) (v : Value) : Prop := ∀ g, v.ownBlock = some g → B ≤ g
theorem Fresh.nil (B : Nat) : Fresh B (.slice none 0 0) := fun _ h => by cases h
theorem Fresh.of {B B' : Nat} {w : World} {v : Value} {l : List UInt8} (h : Own B w v l) (hb : B' ≤ B) : Fresh B' v := fun _ hg => Nat.le_trans hb (h.block hg).1
theorem Fresh.lower {B B' : Nat} {v : Value} (h : Fresh B v) (hb : B' ≤ B) : Fresh B' v := fun g hg => Nat.le_trans hb (h g hg)
/-- A row of one's own stays while other blocks turn. -/
theorem RowV.fresh {N B : Nat} {w : World} {G : List Nat} {v : Value} {l : List UInt8} (h : RowV N w v l) (hf : Fresh B v) (hN : N ≤ w.heap.size) (hG : ∀ k ∈ G, k < B) : ∀ w', But G w w' → RowV w'.heap.size w' v l := fun w' hb => by
  obtain ⟨a, len, cap, rfl, p1, p2, p3, p4, p5, p6⟩ := h
  refine ⟨a, len, cap, rfl, p1, p2, p3, p4, p5, fun i hi => ?_⟩
  obtain ⟨b, off, e1, e2, e3⟩ := p6 i hi
  subst e1
  have hB := hf b rfl
  exact ⟨b, off, rfl, Nat.lt_of_lt_of_le (Nat.lt_of_lt_of_le e2 hN) hb.size, by rw [← e3]; exact cell_same (hb.block b (Nat.lt_of_lt_of_le e2 hN) fun e => by have := hG b e; omega)⟩
def SeesF (B : Nat) (l : List UInt8) (v : Value) (_ : Unit) (w : World) : Prop := RowV w.heap.size w v l ∧ Fresh B v
theorem SeesF.grows (B : Nat) (l : List UInt8) : Grows (SeesF B l) := fun _ _ _ hb h => ⟨(RowV.below h.1 hb).up hb.size, h.2⟩

def bytG (a b c : List UInt8) : List (Nat × (Value → Unit → World → Prop)) := [(3, Sees a), (7, Sees b), (8, AtParts [a, b]), (9, Sees c), (10, Sees c)]
theorem bytG_grows (a b c : List UInt8) : ∀ y ∈ bytG a b c, Grows y.2 := fun y hy => by
  simp only [bytG, List.mem_cons, List.not_mem_nil, or_false] at hy
  rcases hy with rfl | rfl | rfl | rfl | rfl
  · exact Sees.grows _
  · exact Sees.grows _
  · exact AtParts.grows _
  · exact Sees.grows _
  · exact Sees.grows _

set_option maxHeartbeats 3200000 in
set_option maxRecDepth 100000 in
theorem tbytes_fresh (t : T) (ht : FitT t) (w : World) : Calls Tryz.prog 17 #[t.v] w fun e w' => ∃ v, e = .returned v ∧ RowV w'.heap.size w' v (bytesT t) ∧ Fresh w.heap.size v ∧ Below w.heap.size w w' := by
  have HTI := hide (info37t ht)
  have HRT := hide (rightT_walk t ht)
  cases hrt : rightT t with
  | false =>
    have Hx : Hid (bytesT t = []) := by
      show _ = _
      unfold bytesT
      rw [if_neg (by rw [hrt]; simp)]
    rw [hrt] at HRT
    unfold T.v at HRT ⊢
    clear ht hrt
    generalize t.cs = X at *
    generalize bytesT t = R at *
    go_enter Tryz.func17, Tryz.ntmps17
    go_wp2_with (refine wpList_box 37 _ X rfl rfl rfl ?_)
    intro w1 hA1 hb1 hs1
    have HA1 := hide hA1
    have Hb1 := hide hb1
    clear hA1 hb1
    go_wp2_with (refine wpList_loadAll 37 _ w.heap.size X _ rfl rfl rfl (unhide HA1) Tryz.underlying37 rfl (unhide HTI) ?_)
    refine (unhide HRT w1).mono ?_
    rintro e w2 ⟨rfl, hb2⟩
    have Hb2 := hide ((unhide Hb1).trans (hb2.mono (unhide Hb1).size))
    clear hb2
    go_wp2
    go_ret
    refine ⟨_, rfl, ?_, Fresh.nil _, unhide Hb2⟩
    rw [unhide Hx]
    exact RowV.nil _ _
  | true =>
    have hr := rightT_iff.1 hrt
    have l0 := bytes_len hr.1 ht.s0
    have l1 := bytes_len hr.2.1 ht.s1
    have Hx : Hid (bytesT t = bytesS t.s0 ++ bytesS t.s1 ++ fixedL t.act.toNat 1 ++ fixedL (t.boo + 1).toNat 1 ++ fixedL t.flo 8) := by
      show _ = _
      unfold bytesT
      rw [if_pos hrt]
    rw [hrt] at HRT
    have HS0 := hide (bytes_walk t.s0 ht.s0)
    have HS1 := hide (bytes_walk t.s1 ht.s1)
    have HR0 : Hid (∀ w b, Arr w b t.cs → w.rangeAt b 0 t.s0.cs) := hide fun w b h => trange0 (o := 0) h.range
    have HR1 : Hid (∀ w b, Arr w b t.cs → w.rangeAt b 36 t.s1.cs) := hide fun w b h => by have := trange1 (o := 0) ht h.range; simpa using this
    have HI0 := hide (info34s ht.s0.dg)
    have HI1 := hide (info34s ht.s1.dg)
    have HC := hide (tget ht)
    have HA : Hid (0 ≤ t.act ∧ t.act < 9223372036854775808 ∧ 0 ≤ t.boo + 1 ∧ t.boo + 1 < 9223372036854775808 ∧ t.flo < 18446744073709551616) := hide (by have := ht.flo; omega)
    have kc : wrap64 (t.boo - -1) = t.boo + 1 := by unfold wrap64; omega
    have kc2 : t.boo - -1 = t.boo + 1 := by omega
    have kc3 : wrap64 (t.boo + 1) = t.boo + 1 := by unfold wrap64; omega
    unfold T.v at HRT ⊢
    unfold S.v at HS0 HS1
    clear ht hrt hr
    generalize t.cs = X at *
    generalize bytesT t = R at *
    generalize bytesS t.s0 = B0 at *
    generalize bytesS t.s1 = B1 at *
    generalize t.s0.cs = S0 at *
    generalize t.s1.cs = S1 at *
    generalize t.act = xa at *
    generalize t.boo = xb at *
    generalize t.flo = xf at *
    have HL0 := hide l0
    have HL1 := hide l1
    clear l0 l1
    go_enter Tryz.func17, Tryz.ntmps17
    go_wp2_with (refine wpList_box 37 _ X rfl rfl rfl ?_)
    intro w1 hA1 hb1 hs1
    have HA1 := hide hA1
    have Hb1 := hide hb1
    clear hA1 hb1
    go_wp2_with (refine wpList_loadAll 37 _ w.heap.size X _ rfl rfl rfl (unhide HA1) Tryz.underlying37 rfl (unhide HTI) ?_)
    refine (unhide HRT w1).mono ?_
    rintro e w2 ⟨rfl, hb2⟩
    have HA2 := hide ((unhide HA1).below hb2)
    have Hb2 := hide ((unhide Hb1).trans (hb2.mono (unhide Hb1).size))
    clear hb2 HA1 Hb1
    have HGR := hide (bytG_grows B0 B1 (B0 ++ B1))
    go_wp2_with fail
    refine Flow.wp_region (VG (fun ix => match ix with | 0 => .pointer (some ⟨w.heap.size, 0, none⟩) | 1 => .pointer (some ⟨w.heap.size, 0, none⟩) | 2 => .agg S0.toArray | 3 => undef | 4 => .pointer (some ⟨w.heap.size, 0, none⟩) | 5 => .pointer (some ⟨w.heap.size, 36, none⟩) | 6 => .agg S1.toArray | _ => undef) (bytG B0 B1 (B0 ++ B1))) (fun _ (_ : Unit) w' => Below w2.heap.size w2 w') () (by kernel_rfl) (by kernel_rfl) (Below.refl _ w2).drew ⟨?_, ?_, ?_, ?_, ?_, ?_, ?_, ?_, ?_, ?_, ?_, trivial⟩ ?_
    · exact Flow.pure (Flow.goes_plain rfl) (fun _ _ _ h => h) fun a L s w' hC hL hn hs hd => ⟨_, op_f37_0 rfl (hs 1 (by kernel_rfl)) w', rfl⟩
    · exact Flow.pure (Flow.goes_plain rfl) (fun _ _ _ h => h) fun a L s w' hC hL hn hs hd => ⟨_, op_idx35 (k := 0) rfl (hd 0 7 (by kernel_rfl)) rfl (by decide) w', rfl⟩
    · exact Flow.pure (Flow.goes_plain rfl) (fun _ _ _ h => h) fun a L s w' hC hL hn hs hd => ⟨_, op_loadV rfl (hd 1 8 (by kernel_rfl)) (unhide HR0 w' _ ((unhide HA2).below hC)) Tryz.underlying34 rfl (unhide HI0), rfl⟩
    · refine Flow.call (Flow.goes_plain rfl) fun a L s0 w' hC hL hn hs hd => ⟨56, _, op_call56T rfl (hd 2 9 (by kernel_rfl)) rfl w', ?_⟩
      refine (unhide HS0 w').mono ?_
      rintro e w'' ⟨v, rfl, hV, hb⟩
      exact ⟨_, (), rfl, VG.grow (unhide HGR) hb, hC.trans (hb.mono hC.size), hV⟩
    · exact Flow.pure (Flow.goes_plain rfl) (fun _ _ _ h => h) fun a L s w' hC hL hn hs hd => ⟨_, op_f37_0 rfl (hs 1 (by kernel_rfl)) w', rfl⟩
    · exact Flow.pure (Flow.goes_plain rfl) (fun _ _ _ h => h) fun a L s w' hC hL hn hs hd => ⟨_, op_idx35 (k := 1) rfl (hd 4 11 (by kernel_rfl)) rfl (by decide) w', rfl⟩
    · exact Flow.pure (Flow.goes_plain rfl) (fun _ _ _ h => h) fun a L s w' hC hL hn hs hd => ⟨_, op_loadV rfl (hd 5 12 (by kernel_rfl)) (unhide HR1 w' _ ((unhide HA2).below hC)) Tryz.underlying34 rfl (unhide HI1), rfl⟩
    · refine Flow.call (Flow.goes_plain rfl) fun a L s0 w' hC hL hn hs hd => ⟨56, _, op_call56T rfl (hd 6 13 (by kernel_rfl)) rfl w', ?_⟩
      refine (unhide HS1 w').mono ?_
      rintro e w'' ⟨v, rfl, hV, hb⟩
      exact ⟨_, (), rfl, VG.grow (unhide HGR) hb, hC.trans (hb.mono hC.size), hV⟩
    · refine Flow.value (Flow.goes_plain rfl) fun a L s w' hC hL hn hs hd => ?_
      have h3 : Sees B0 _ s w' := (hd 3 10 (by kernel_rfl))
      have h7 : Sees B1 _ s w' := (hd 7 14 (by kernel_rfl))
      have hb : ∀ C, Below w'.heap.size w' (w'.alloc (.cells C 46)) := fun C => (Below.refl _ _).alloc (Nat.le_refl _) _
      exact ⟨_, (), _, op_slice94_2 rfl rfl rfl (RowV.sl h3) (RowV.sl h7) w', VG.grow (unhide HGR) (hb _), hC.trans ((hb _).mono hC.size), _, _, _, rfl, by decide, by
        have := two_parts w' h3 h7
        simpa using this⟩
    · refine Flow.call (Flow.goes_plain rfl) fun a L s w' hC hL hn hs hd => ?_
      obtain ⟨ap, lp, cp, e8, h10, hP⟩ : AtParts [B0, B1] _ s w' := (hd 8 15 (by kernel_rfl))
      refine ⟨55, _, op_call55T rfl rfl e8 rfl w', ?_⟩
      refine (raw_walk w'.heap.size (.slice none 0 0) [] ap lp cp [B0, B1] w' (Nat.le_refl _) (RowV.nil _ _) hP (by simp) (fun p hp => by
        simp only [List.mem_cons, List.not_mem_nil, or_false] at hp
        rcases hp with rfl | rfl
        · rw [unhide HL0]; omega
        · rw [unhide HL1]; omega) h10).mono ?_
      rintro e w'' ⟨v, rfl, hO, hb⟩
      refine ⟨_, (), rfl, VG.grow (unhide HGR) hb, hC.trans (hb.mono hC.size), ?_⟩
      have hrow : RowV w''.heap.size w'' v (B0 ++ B1) := by
        have := hO.row (by simp [unhide HL0, unhide HL1])
        simpa using this
      exact hrow
    · exact Flow.move (Flow.goes_plain rfl) (fun _ _ _ h => h) (.inr rfl) fun a s w' hs hd => (hd 9 16 (by kernel_rfl))
    · intro L s5 w5 hC hL vals hv
      have h10 : Sees (B0 ++ B1) (vals 10) s5 w5 := hv 10 _ 3 rfl rfl
      simp only [Free.putAll, Act.put, List.setIfInBounds_toArray, List.set_cons_succ, List.set_cons_zero]
      have HA5 := hide ((unhide HA2).below hC)
      have Hb5 := hide ((unhide Hb2).trans (hC.mono (unhide Hb2).size))
      have HV5 : Hid (RowV w5.heap.size w5 (vals 10) (B0 ++ B1)) := hide h10
      obtain ⟨ga, gn, gc, e10⟩ := RowV.sl h10
      rw [e10] at HV5 ⊢
      clear hC hL hv h10 e10 HS0 HS1 HR0 HR1 HGR HA2 Hb2 HRT HTI HI0 HI1
      generalize vals 0 = y0
      generalize vals 1 = y1
      generalize vals 2 = y2
      generalize vals 3 = y3
      generalize vals 4 = y4
      generalize vals 5 = y5
      generalize vals 6 = y6
      generalize vals 7 = y7
      generalize vals 8 = y8
      generalize vals 9 = y9
      have c72 := (unhide HA5).cell (unhide HC).1
      have H1 := hide (putSmall_walk _ _ _ xa (unhide HA).1 (unhide HA).2.1 w5 (Nat.le_refl _) (unhide HV5) (by simp [unhide HL0, unhide HL1]))
      go_wp2_with fail
      refine (unhide H1).mono ?_
      rintro e w6 ⟨v6, rfl, hO6, hb6⟩
      have HA6 := hide ((unhide HA5).below hb6)
      have Hb6 := hide ((unhide Hb5).trans (hb6.mono (unhide Hb5).size))
      have hv6 := hO6.row (by simp [unhide HL0, unhide HL1, fixedL_length])
      have HV6 := hide hv6
      obtain ⟨a6, n6, c6, e6⟩ := RowV.sl hv6
      subst e6
      clear hO6 hb6 hv6 HA5 Hb5 H1 HV5 c72
      have c73 := (unhide HA6).cell (unhide HC).2.1
      have H2 := hide (putSmall_walk _ _ _ (xb + 1) (unhide HA).2.2.1 (unhide HA).2.2.2.1 w6 (Nat.le_refl _) (unhide HV6) (by simp [unhide HL0, unhide HL1, fixedL_length]))
      go_wp2_with fail
      refine (unhide H2).mono ?_
      rintro e w7 ⟨v7, rfl, hO7, hb7⟩
      have HA7 := hide ((unhide HA6).below hb7)
      have Hb7 := hide ((unhide Hb6).trans (hb7.mono (unhide Hb6).size))
      have hv7 := hO7.row (by simp [unhide HL0, unhide HL1, fixedL_length])
      have HV7 := hide hv7
      obtain ⟨a7, n7, c7, e7⟩ := RowV.sl hv7
      subst e7
      clear hO7 hb7 hv7 HA6 Hb6 H2 HV6 c73
      have c74 := (unhide HA7).cell (unhide HC).2.2
      have H3 := hide (fixed_walk _ _ _ xf (unhide HA).2.2.2.2 8 w7 (Nat.le_refl _) (unhide HV7) (by simp [unhide HL0, unhide HL1, fixedL_length]))
      go_wp2_with fail
      refine (unhide H3).mono ?_
      rintro e w8 ⟨v8, rfl, hO8, hb8⟩
      have Hb8 := hide ((unhide Hb7).trans (hb8.mono (unhide Hb7).size))
      have HV8 := hide (hO8.row (by simp [unhide HL0, unhide HL1, fixedL_length]; decide))
      have HF8 := hide (Fresh.of hO8 (unhide Hb7).size)
      clear hO8 hb8 HA7 Hb7 H3 HV7 c74
      go_wp2
      go_ret
      refine ⟨v8, rfl, ?_, unhide HF8, unhide Hb8⟩
      rw [unhide Hx]
      exact unhide HV8
theorem tbytes_walk (t : T) (ht : FitT t) (w : World) : Calls Tryz.prog 17 #[t.v] w fun e w' => ∃ v, e = .returned v ∧ RowV w'.heap.size w' v (bytesT t) ∧ Below w.heap.size w w' := (tbytes_fresh t ht w).mono fun _ _ ⟨v, h1, h2, _, h3⟩ => ⟨v, h1, h2, h3⟩
end Go.Proofs.YtdfdalkcljfghaaGreat.Slot

namespace Go.Proofs.YtdfdalkcljfghaaGreat.Slot
open Go.RowKit

def tailC (c : C) : List UInt8 := if c.k = 1 then fixedL c.sl.toNat 1 ++ bytesS c.s else if c.k = 2 then fixedL c.n.toNat 1 else if c.k = 3 then fixedL (c.n + 1).toNat 1 else fixedL c.ver 8
theorem putC_tail (c : C) : putC c = fixedL c.k.toNat 1 ++ tailC c := rfl
def chgG (B : Nat) (a b c : List UInt8) : List (Nat × (Value → Unit → World → Prop)) := [(3, Sees a), (6, Sees b), (7, AtParts [b]), (8, SeesF B c), (9, SeesF B c)]
theorem chgG_grows (B : Nat) (a b c : List UInt8) : ∀ y ∈ chgG B a b c, Grows y.2 := fun y hy => by
  simp only [chgG, List.mem_cons, List.not_mem_nil, or_false] at hy
  rcases hy with rfl | rfl | rfl | rfl | rfl
  · exact Sees.grows _
  · exact Sees.grows _
  · exact AtParts.grows _
  · exact SeesF.grows _ _
  · exact SeesF.grows _ _
def putG (B : Nat) (a c : List UInt8) : List (Nat × (Value → Unit → World → Prop)) := [(3, Sees a), (5, SeesF B c), (6, SeesF B c)]
theorem putG_grows (B : Nat) (a c : List UInt8) : ∀ y ∈ putG B a c, Grows y.2 := fun y hy => by
  simp only [putG, List.mem_cons, List.not_mem_nil, or_false] at hy
  rcases hy with rfl | rfl | rfl
  · exact Sees.grows _
  · exact SeesF.grows _ _
  · exact SeesF.grows _ _

set_option maxHeartbeats 3200000 in
set_option maxRecDepth 100000 in
theorem putChange_walk (v : Value) (bs : List UInt8) (c : C) (hc : FitC c) (h1c : oneC c = true) (w : World) (hr : RowV w.heap.size w v bs) (hl : bs.length ≤ 4900) :
    Calls Tryz.prog 66 #[v, c.v] w fun e w' => ∃ v', e = .returned v' ∧ RowV w'.heap.size w' v' (bs ++ tailC c) ∧ Fresh w.heap.size v' ∧ Below w.heap.size w w' := by
  have H0 : Hid (c.cs[0]? = some (.int .i64 c.k)) := hide rfl
  have H1 : Hid (c.cs[1]? = some (.int .i64 c.sl)) := hide rfl
  have H2 : Hid (c.cs[2]? = some (.int .i64 c.n)) := hide rfl
  have H4 := hide (cget hc)
  have HR0 := hide hr
  have HBL := hide hl
  obtain ⟨va, vn, vc, ev⟩ := RowV.sl hr
  subst ev
  unfold C.v
  clear hr hl
  rcases oneC_cases h1c with ⟨e, h1, h2⟩ | ⟨e, h1⟩ | ⟨e, h1⟩ | ⟨e, h1⟩ <;> have ek := congrArg C.k e <;> simp only at ek
  · have HT : Hid (tailC c = fixedL c.sl.toNat 1 ++ bytesS c.s) := by
      show _ = _
      unfold tailC
      rw [if_pos ek]
    have HL := hide (bytes_len h2 hc.s)
    have HRG : Hid (∀ w b, Arr w b c.cs → w.rangeAt b 3 c.s.cs) := hide fun w b h => by have := crange (o := 0) h.range; simpa using this
    have HSI := hide (info34s hc.s.dg)
    have HBW := hide (bytes_walk c.s hc.s)
    have HSL : Hid (0 ≤ c.sl ∧ c.sl < 9223372036854775808) := hide (by omega)
    unfold S.v at HBW
    rw [ek] at H0
    clear e h1 h2 ek h1c hc H2 H4
    generalize tailC c = R at *
    generalize bytesS c.s = B at *
    generalize c.s.cs = S0 at *
    generalize c.cs = Y at *
    generalize c.sl = x at *
    go_enter Tryz.func66, Tryz.ntmps66
    go_wp2_with (refine wpList_box 41 _ Y rfl rfl rfl ?_)
    intro w1 hA1 hb1 hs1
    have HA1 := hide hA1
    have c0 := hA1.cell (unhide H0)
    have Hb1 := hide hb1
    clear hA1 hb1
    have HGR := hide (chgG_grows w.heap.size (bs ++ fixedL x.toNat 1) B (bs ++ fixedL x.toNat 1 ++ B))
    go_wp2_with fail
    refine Flow.wp_region (VG (fun ix => match ix with | 0 => .slice va vn vc | 1 => .pointer (some ⟨w.heap.size, 1, none⟩) | 2 => .int .i64 x | 4 => .pointer (some ⟨w.heap.size, 3, none⟩) | 5 => .agg S0.toArray | _ => undef) (chgG w.heap.size (bs ++ fixedL x.toNat 1) B (bs ++ fixedL x.toNat 1 ++ B))) (fun _ (_ : Unit) w' => Below w1.heap.size w1 w') () (by kernel_rfl) (by kernel_rfl) (Below.refl _ w1).drew ⟨?_, ?_, ?_, ?_, ?_, ?_, ?_, ?_, ?_, ?_, trivial⟩ ?_
    · exact Flow.move (Flow.goes_plain rfl) (fun _ _ _ h => h) (.inl rfl) fun a s w' hs hd => (hs 0 (by kernel_rfl))
    · exact Flow.pure (Flow.goes_plain rfl) (fun _ _ _ h => h) fun a L s w' hC hL hn hs hd => ⟨_, op_f41_1 rfl (hs 3 (by kernel_rfl)) w', rfl⟩
    · exact Flow.pure (Flow.goes_plain rfl) (fun _ _ _ h => h) fun a L s w' hC hL hn hs hd => ⟨_, op_load3 rfl (hd 1 10 (by kernel_rfl)) (((unhide HA1).below hC).cell (unhide H1)), rfl⟩
    · refine Flow.call (Flow.goes_plain rfl) fun a L s0 w' hC hL hn hs hd => ⟨57, _, op_call57T rfl (hd 0 9 (by kernel_rfl)) (hd 2 11 (by kernel_rfl)) rfl w', ?_⟩
      refine (putSmall_walk _ _ bs x (unhide HSL).1 (unhide HSL).2 w' (Nat.le_refl _) (((unhide HR0).below ((unhide Hb1).trans (hC.mono (unhide Hb1).size))).up ((unhide Hb1).trans (hC.mono (unhide Hb1).size)).size) (by have := unhide HBL; omega)).mono ?_
      rintro e w'' ⟨v, rfl, hO, hb⟩
      exact ⟨_, (), rfl, VG.grow (unhide HGR) hb, hC.trans (hb.mono hC.size), hO.row (by have := unhide HBL; simp [fixedL_length]; omega)⟩
    · exact Flow.pure (Flow.goes_plain rfl) (fun _ _ _ h => h) fun a L s w' hC hL hn hs hd => ⟨_, op_f41_3 rfl (hs 3 (by kernel_rfl)) w', rfl⟩
    · exact Flow.pure (Flow.goes_plain rfl) (fun _ _ _ h => h) fun a L s w' hC hL hn hs hd => ⟨_, op_loadV rfl (hd 4 13 (by kernel_rfl)) (unhide HRG w' _ ((unhide HA1).below hC)) Tryz.underlying34 rfl (unhide HSI), rfl⟩
    · refine Flow.call (Flow.goes_plain rfl) fun a L s0 w' hC hL hn hs hd => ⟨56, _, op_call56T rfl (hd 5 14 (by kernel_rfl)) rfl w', ?_⟩
      refine (unhide HBW w').mono ?_
      rintro e w'' ⟨v, rfl, hV, hb⟩
      exact ⟨_, (), rfl, VG.grow (unhide HGR) hb, hC.trans (hb.mono hC.size), hV⟩
    · refine Flow.value (Flow.goes_plain rfl) fun a L s w' hC hL hn hs hd => ?_
      have h6 : Sees B _ s w' := (hd 6 15 (by kernel_rfl))
      have hb : ∀ C, Below w'.heap.size w' (w'.alloc (.cells C 46)) := fun C => (Below.refl _ _).alloc (Nat.le_refl _) _
      exact ⟨_, (), _, op_slice94_1 rfl rfl (RowV.sl h6) w', VG.grow (unhide HGR) (hb _), hC.trans ((hb _).mono hC.size), _, _, _, rfl, by decide, by
        have := one_part w' (Nat.le_refl _) h6
        simpa using this⟩
    · refine Flow.call (Flow.goes_plain rfl) fun a L s w' hC hL hn hs hd => ?_
      obtain ⟨ap, lp, cp, e8, h10, hP⟩ : AtParts [B] _ s w' := (hd 7 16 (by kernel_rfl))
      have h3 : Sees (bs ++ fixedL x.toNat 1) _ s w' := (hd 3 12 (by kernel_rfl))
      refine ⟨55, _, op_call55T rfl rfl e8 rfl w', ?_⟩
      refine (raw_walk w'.heap.size _ _ ap lp cp [B] w' (Nat.le_refl _) h3 hP (by have := unhide HBL; simp [fixedL_length]; omega) (fun p hp => by
        simp only [List.mem_cons, List.not_mem_nil, or_false] at hp
        subst hp
        rw [unhide HL]; omega) h10).mono ?_
      rintro e w'' ⟨v, rfl, hO, hb⟩
      refine ⟨_, (), rfl, VG.grow (unhide HGR) hb, hC.trans (hb.mono hC.size), ?_⟩
      have hrow : RowV w''.heap.size w'' v (bs ++ fixedL x.toNat 1 ++ B) := by
        have := hO.row (by have := unhide HBL; simp [unhide HL, fixedL_length]; omega)
        simpa using this
      exact ⟨hrow, Fresh.of hO ((unhide Hb1).trans (hC.mono (unhide Hb1).size)).size⟩
    · exact Flow.move (Flow.goes_plain rfl) (fun _ _ _ h => h) (.inr rfl) fun a s w' hs hd => (hd 8 17 (by kernel_rfl))
    · intro L s5 w5 hC hL vals hv
      have h10 : SeesF w.heap.size (bs ++ fixedL x.toNat 1 ++ B) (vals 9) s5 w5 := hv 9 _ 4 rfl rfl
      simp only [Free.putAll, Act.put, List.setIfInBounds_toArray, List.set_cons_succ, List.set_cons_zero]
      have Hb5 := hide ((unhide Hb1).trans (hC.mono (unhide Hb1).size))
      have HV5 : Hid (RowV w5.heap.size w5 (vals 9) (bs ++ R)) := by
        have := h10.1
        rw [List.append_assoc, ← unhide HT] at this
        exact hide this
      have HF5 : Hid (Fresh w.heap.size (vals 9)) := hide h10.2
      clear hC hL hv h10 HGR HA1 Hb1
      generalize vals 0 = y0
      generalize vals 1 = y1
      generalize vals 2 = y2
      generalize vals 3 = y3
      generalize vals 4 = y4
      generalize vals 5 = y5
      generalize vals 6 = y6
      generalize vals 7 = y7
      generalize vals 8 = y8
      generalize vals 9 = y9 at *
      go_wp2
      go_ret
      exact ⟨y9, rfl, unhide HV5, unhide HF5, unhide Hb5⟩
  · have HT : Hid (tailC c = fixedL c.n.toNat 1) := by
      show _ = _
      unfold tailC
      rw [if_neg (by omega), if_pos ek]
    have HP := hide (fun (w1 : World) (h : RowV w1.heap.size w1 (.slice va vn vc) bs) => putSmall_walk _ _ bs c.n (by omega) (by omega) w1 (Nat.le_refl _) h (by have := unhide HBL; omega))
    rw [ek] at H0
    clear e h1 ek h1c hc H1 H4
    rw [← unhide HT] at HP
    generalize tailC c = R at *
    generalize c.cs = Y at *
    generalize c.n = x at *
    have HRL : Hid ((bs ++ R).length ≤ 140737488351232) := hide (by have := unhide HBL; rw [List.length_append, unhide HT, fixedL_length]; omega)
    go_enter Tryz.func66, Tryz.ntmps66
    go_wp2_with (refine wpList_box 41 _ Y rfl rfl rfl ?_)
    intro w1 hA1 hb1 hs1
    have c0 := hA1.cell (unhide H0)
    have c2 := hA1.cell (unhide H2)
    have Hb1 := hide hb1
    have HP1 := hide (unhide HP w1 (((unhide HR0).below hb1).up hb1.size))
    clear hA1 hb1 HP
    go_wp2_with fail
    refine (unhide HP1).mono ?_
    rintro e w2 ⟨v2, rfl, hO, hb2⟩
    have HV2 := hide (hO.row (unhide HRL))
    have HF2 := hide (Fresh.of hO (unhide Hb1).size)
    have Hb2 := hide ((unhide Hb1).trans (hb2.mono (unhide Hb1).size))
    clear hO hb2
    go_wp2
    go_ret
    exact ⟨v2, rfl, unhide HV2, unhide HF2, unhide Hb2⟩
  · have HT : Hid (tailC c = fixedL (c.n + 1).toNat 1) := by
      show _ = _
      unfold tailC
      rw [if_neg (by omega), if_neg (by omega), if_pos ek]
    have HP := hide (fun (w1 : World) (h : RowV w1.heap.size w1 (.slice va vn vc) bs) => putSmall_walk _ _ bs (c.n + 1) (by omega) (by omega) w1 (Nat.le_refl _) h (by have := unhide HBL; omega))
    have kc : wrap64 (c.n - -1) = c.n + 1 := by unfold wrap64; omega
    have kc2 : c.n - -1 = c.n + 1 := by omega
    have kc3 : wrap64 (c.n + 1) = c.n + 1 := by unfold wrap64; omega
    rw [ek] at H0
    clear e h1 ek h1c hc H1 H4
    rw [← unhide HT] at HP
    generalize tailC c = R at *
    generalize c.cs = Y at *
    generalize c.n = x at *
    have HRL : Hid ((bs ++ R).length ≤ 140737488351232) := hide (by have := unhide HBL; rw [List.length_append, unhide HT, fixedL_length]; omega)
    go_enter Tryz.func66, Tryz.ntmps66
    go_wp2_with (refine wpList_box 41 _ Y rfl rfl rfl ?_)
    intro w1 hA1 hb1 hs1
    have c0 := hA1.cell (unhide H0)
    have c2 := hA1.cell (unhide H2)
    have Hb1 := hide hb1
    have HP1 := hide (unhide HP w1 (((unhide HR0).below hb1).up hb1.size))
    clear hA1 hb1 HP
    go_wp2_with fail
    refine (unhide HP1).mono ?_
    rintro e w2 ⟨v2, rfl, hO, hb2⟩
    have HV2 := hide (hO.row (unhide HRL))
    have HF2 := hide (Fresh.of hO (unhide Hb1).size)
    have Hb2 := hide ((unhide Hb1).trans (hb2.mono (unhide Hb1).size))
    clear hO hb2
    go_wp2
    go_ret
    exact ⟨v2, rfl, unhide HV2, unhide HF2, unhide Hb2⟩
  · have HT : Hid (tailC c = fixedL c.ver (sizeN 8)) := by
      show _ = _
      unfold tailC
      rw [if_neg (by omega), if_neg (by omega), if_neg (by omega)]
      rfl
    have HP := hide (fun (w1 : World) (h : RowV w1.heap.size w1 (.slice va vn vc) bs) => fixed_walk _ _ bs c.ver hc.ver 8 w1 (Nat.le_refl _) h (by have := unhide HBL; omega))
    rw [ek] at H0
    clear e h1 ek h1c hc H1 H2
    rw [← unhide HT] at HP
    generalize tailC c = R at *
    generalize c.cs = Y at *
    generalize c.ver = x at *
    have HRL : Hid ((bs ++ R).length ≤ 140737488351232) := hide (by have := unhide HBL; rw [List.length_append, unhide HT, fixedL_length]; show _ + 8 ≤ _; omega)
    go_enter Tryz.func66, Tryz.ntmps66
    go_wp2_with (refine wpList_box 41 _ Y rfl rfl rfl ?_)
    intro w1 hA1 hb1 hs1
    have c0 := hA1.cell (unhide H0)
    have c4 := hA1.cell (unhide H4)
    have Hb1 := hide hb1
    have HP1 := hide (unhide HP w1 (((unhide HR0).below hb1).up hb1.size))
    clear hA1 hb1 HP
    go_wp2_with fail
    refine (unhide HP1).mono ?_
    rintro e w2 ⟨v2, rfl, hO, hb2⟩
    have HV2 := hide (hO.row (unhide HRL))
    have HF2 := hide (Fresh.of hO (unhide Hb1).size)
    have Hb2 := hide ((unhide Hb1).trans (hb2.mono (unhide Hb1).size))
    clear hO hb2
    go_wp2
    go_ret
    exact ⟨v2, rfl, unhide HV2, unhide HF2, unhide Hb2⟩

theorem putsC_snoc {l : List C} {k : Nat} (h : k < l.length) : putsC (l.take (k + 1)) = putsC (l.take k) ++ putC (l.getD k zeroC) := by
  unfold putsC
  rw [take_snoc zeroC l k h, List.map_append, List.flatten_append]
  simp

set_option maxHeartbeats 3200000 in
set_option maxRecDepth 100000 in
theorem put_fresh (N : Nat) (v : Value) (l : List C) (w : World) (hN : N ≤ w.heap.size) (hr : CRowV N w v l) : Calls Tryz.prog 22 #[v] w fun e w' => ∃ v', e = .returned v' ∧ RowV w'.heap.size w' v' (putL l) ∧ Fresh w.heap.size v' ∧ Below w.heap.size w w' := by
  have HIT := hide (isTrans_walk N v l w hN hr)
  cases hal : allC l with
  | false =>
    have Hx : Hid (putL l = []) := by
      show _ = _
      unfold putL
      rw [if_neg (by rw [hal]; simp)]
    rw [hal] at HIT
    obtain ⟨a, len, cap, rfl, _⟩ := hr
    generalize putL l = R at *
    clear hN hal
    go_enter Tryz.func22, Tryz.ntmps22
    go_wp2_with fail
    refine (unhide HIT).mono ?_
    rintro e w1 ⟨rfl, hb⟩
    have HB := hide hb
    clear hb
    go_wp2
    go_ret
    refine ⟨_, rfl, ?_, Fresh.nil _, unhide HB⟩
    rw [unhide Hx]
    exact RowV.nil _ _
  | true =>
    have Hx : Hid (putL l = fixedL l.length 1 ++ putsC l) := by
      show _ = _
      unfold putL
      rw [if_pos hal]
    have h8 := allC_iff.1 hal
    rw [hal] at HIT
    obtain ⟨a, len, cap, rfl, q1, q2, q3, hrow⟩ := hr
    have hlen := hrow.1
    have HROW := hide (hrow.up hN)
    have HLEN := hide hlen
    have HFC := hide hrow.2.1
    have HONE := hide h8.2
    have HALC := hide alloc41
    have hl8 : len ≤ 8 := by omega
    generalize putL l = R at *
    clear hN hal hrow h8
    go_enter Tryz.func22, Tryz.ntmps22
    go_wp2_with fail
    refine (unhide HIT).mono ?_
    rintro e w1 ⟨rfl, hb⟩
    have Hb1 := hide hb
    have HP := hide (putSmall_walk w1.heap.size (.slice none 0 0) [] (len : Int) (by omega) (by omega) w1 (Nat.le_refl _) (RowV.nil _ _) (by simp))
    rw [List.nil_append, show ((len : Nat) : Int).toNat = len by omega] at HP
    clear hb HIT
    go_wp2_with fail
    refine (unhide HP).mono ?_
    rintro e w2 ⟨v2, rfl, hO2, hb2⟩
    have HV2 := hide (hO2.row (by simp [fixedL_length]))
    have HF2 := hide (Fresh.of hO2 (unhide Hb1).size)
    have Hb2 := hide ((unhide Hb1).trans (hb2.mono (unhide Hb1).size))
    clear hO2 hb2 HP Hb1
    go_wp2_with fail
    go_loopw [3, 14] (fun bo ci wr => ∃ k : Nat, k ≤ len ∧ ci = .int .i64 (k : Int) ∧ RowV wr.heap.size wr bo (fixedL len 1 ++ putsC (l.take k)) ∧ Fresh w.heap.size bo ∧ Below w.heap.size w wr) (fun _ ci _ => len - (intOf ci).toNat)
    case atStart =>
      refine ⟨0, by omega, rfl, ?_, unhide HF2, unhide Hb2⟩
      have := unhide HV2
      simpa [putsC] using this
    case round =>
      obtain ⟨k, hk, rfl, hV, hfr, hb⟩ := hrel
      have hszr := hb.size
      by_cases hlt : k < len
      · obtain ⟨b, off, rfl, hbN, hrange⟩ := ((unhide HROW).below hb).2.2 k hlt
        have hkl : k < l.length := by rw [unhide HLEN]; exact hlt
        have hmem := getD_memC hkl
        have HSN := hide (putsC_snoc hkl)
        have hbl : (putsC (l.take k)).length ≤ 48 * 8 := by
          have h1 := putsC_len (l := l.take k) (fun c hc => unhide HONE c (List.mem_of_mem_take hc)) (fun c hc => unhide HFC c (List.mem_of_mem_take hc))
          rw [List.length_take] at h1
          omega
        generalize l.getD k zeroC = c at *
        generalize putsC (l.take k) = P at *
        have hfc := unhide HFC c hmem
        have hone := unhide HONE c hmem
        have HNk := hide (info41c hfc)
        have HLk := hide (ccs_length hfc)
        have H1 := hide (ccs_one c)
        have HRG := hide hrange
        have HBL := hide hbl
        have HV := hide hV
        have Hbr := hide hb
        have H0c : Hid (c.cs[0]? = some (.int .i64 c.k)) := hide rfl
        have HK : Hid (0 ≤ c.k ∧ c.k < 9223372036854775808) := hide (by
          rcases oneC_cases hone with ⟨e, _⟩ | ⟨e, _⟩ | ⟨e, _⟩ | ⟨e, _⟩ <;> have ek := congrArg C.k e <;> simp only at ek <;> omega)
        have HCW : Hid (∀ (w : World) (v : Value), RowV w.heap.size w v (fixedL len 1 ++ P ++ fixedL c.k.toNat 1) → Calls Tryz.prog 66 #[v, .agg c.cs.toArray] w fun e w' => ∃ v', e = .returned v' ∧ RowV w'.heap.size w' v' (fixedL len 1 ++ P ++ putC c) ∧ Fresh w.heap.size v' ∧ Below w.heap.size w w') := hide fun w v h => by
          have := putChange_walk v _ c hfc hone w h (by simp [fixedL_length]; omega)
          rw [putC_tail]
          rw [List.append_assoc _ (fixedL c.k.toNat 1) (tailC c)] at this
          exact this
        clear hV hb hrange hmem hfc hone hbN hbl
        generalize c.cs = Y at *
        generalize c.k = ck at *
        generalize putC c = PC at *
        go_wp2_with (first
          | refine wpList_loadPart 41 _ b (off + k * 40) Y _ rfl rfl rfl (unhide HRG) Tryz.underlying41 rfl (unhide HNk) ?_
          | refine wpList_alloc 41 41 zeroC.cs rfl rfl (unhide HALC) ?_)
        intro w7 hA7 hb7 hs7
        have HA7 := hide hA7
        have HV7 := hide ((unhide HV).below hb7)
        have Hb7 := hide ((unhide Hbr).trans (hb7.mono (unhide Hbr).size))
        have hlt7 : wr.heap.size < w7.heap.size := hA7.lt
        clear hA7 hb7 HV Hbr HRG
        generalize wr.heap.size = mb at *
        go_wp2_with (refine wpList_storeAll 41 _ _ mb Y zeroC.cs rfl rfl rfl rfl (unhide HA7) (by rw [unhide HLk]; rfl) (unhide HNk) (unhide H1) ?_)
        intro w8 hA8 hg8 hs8
        have HA8 := hide hA8
        have hbm : Below mb w7 w8 := (Below.refl mb w7).grown hg8 (by omega) (fun k hk => by simp at hk; omega)
        have HV8 := hide (((unhide HV7).below hbm).up (show mb ≤ w8.heap.size by omega))
        have Hb8 := hide ((unhide Hb7).trans (hbm.mono (by omega)))
        have HGR := hide (putG_grows w.heap.size (fixedL len 1 ++ P ++ fixedL ck.toNat 1) (fixedL len 1 ++ P ++ PC))
        clear hA8 hg8 hbm HV7 Hb7 HA7
        have HBV := hide (RowV.sl (unhide HV8))
        go_wp2_with fail
        refine Free.wp_region_tail 6 (fun j v ww => VG (fun ix => match ix with | 0 => u3 | 1 => .pointer (some ⟨mb, 0, none⟩) | 2 => .int .i64 ck | 4 => .agg Y.toArray | _ => undef) (putG w.heap.size (fixedL len 1 ++ P ++ fixedL ck.toNat 1) (fixedL len 1 ++ P ++ PC)) j v () ww) (fun w' => Below w8.heap.size w8 w') (by kernel_rfl) (by decide) (by kernel_rfl) (by kernel_rfl) (by kernel_rfl) (fun j v w w' h hb => VG.grow (unhide HGR) (L := fun _ => true) hb j v rfl h) (Below.refl _ w8).drew ⟨?_, ?_, ?_, ?_, ?_, ?_, trivial⟩ ?_
        · exact Free.owed_move (Free.goes_plain rfl) (.inl rfl) fun a w' _ hs _ => hs 3 (by kernel_rfl)
        · exact Free.owed_pure (Free.goes_plain rfl) fun a w' hC hs hd => ⟨_, op_f41_0 rfl (hs 5 (by kernel_rfl)) w', rfl⟩
        · exact Free.owed_pure (Free.goes_plain rfl) fun a w' hC hs hd => ⟨_, op_load3 rfl (hd 1 19 (by kernel_rfl)) (((unhide HA8).below hC).cell (unhide H0c)), rfl⟩
        · refine Free.owed_call (Free.goes_plain rfl) fun a w' hC hs hd => ⟨57, _, op_call57T rfl (hd 0 18 (by kernel_rfl)) (hd 2 20 (by kernel_rfl)) rfl w', ?_⟩
          refine (putSmall_walk _ _ (fixedL len 1 ++ P) ck (unhide HK).1 (unhide HK).2 w' (Nat.le_refl _) (((unhide HV8).below hC).up hC.size) (by have := unhide HBL; simp [fixedL_length]; omega)).mono ?_
          rintro e w'' ⟨v, rfl, hO, hb⟩
          exact ⟨_, rfl, hb, hC.trans (hb.mono hC.size), hO.row (by have := unhide HBL; simp [fixedL_length]; omega)⟩
        · exact Free.owed_pure (Free.goes_plain rfl) fun a w' hC hs hd => ⟨_, op_loadV rfl (hs 5 (by kernel_rfl)) (((unhide HA8).below hC).range) Tryz.underlying41 rfl (unhide HNk), rfl⟩
        · refine Free.owed_call (Free.goes_plain rfl) fun a w' hC hs hd => ?_
          have h3 : Sees (fixedL len 1 ++ P ++ fixedL ck.toNat 1) _ () w' := (hd 3 21 (by kernel_rfl))
          refine ⟨66, _, op_call66T rfl rfl (hd 4 22 (by kernel_rfl)) rfl w', ?_⟩
          refine (unhide HCW w' _ h3).mono ?_
          rintro e w'' ⟨v, rfl, hV, hf, hb⟩
          exact ⟨_, rfl, hb, hC.trans (hb.mono hC.size), hV, hf.lower ((unhide Hb8).trans (hC.mono (unhide Hb8).size)).size⟩
        · intro w9 hC vals hv
          have h10 : SeesF w.heap.size (fixedL len 1 ++ P ++ PC) (vals 5) () w9 := hv 5 _ 23 rfl rfl
          simp only [Free.putAll, List.take, List.drop, Act.put, List.setIfInBounds_toArray, List.set_cons_succ, List.set_cons_zero]
          have Hb9 := hide ((unhide Hb8).trans (hC.mono (unhide Hb8).size))
          have HV9 : Hid (RowV w9.heap.size w9 (vals 5) (fixedL len 1 ++ putsC (l.take (k + 1)))) := by
            have := h10.1
            rw [List.append_assoc, ← unhide HSN] at this
            exact hide this
          have HF9 : Hid (Fresh w.heap.size (vals 5)) := hide h10.2
          clear hC hv h10 HGR HA8 Hb8 HCW
          generalize vals 0 = y0
          generalize vals 1 = y1
          generalize vals 2 = y2
          generalize vals 3 = y3
          generalize vals 4 = y4
          generalize vals 5 = y5 at *
          go_wp2
          go_roundw
          case rel => exact ⟨k + 1, by omega, by simp, unhide HV9, unhide HF9, unhide Hb9⟩
          case measure => simp [intOf]; omega
      · obtain rfl : k = len := by omega
        have HV2 : Hid (RowV wr.heap.size wr u3 (fixedL k 1 ++ putsC l)) := by
          rw [List.take_of_length_le (by rw [unhide HLEN]; exact Nat.le_refl _)] at hV
          exact hide hV
        have Hbr := hide hb
        have HFR := hide hfr
        clear hV hb hfr
        go_wp2
        go_ret
        refine ⟨_, rfl, ?_, unhide HFR, unhide Hbr⟩
        rw [unhide Hx, unhide HLEN]
        exact unhide HV2
theorem put_walk (N : Nat) (v : Value) (l : List C) (w : World) (hN : N ≤ w.heap.size) (hr : CRowV N w v l) : Calls Tryz.prog 22 #[v] w fun e w' => ∃ v', e = .returned v' ∧ RowV w'.heap.size w' v' (putL l) ∧ Below w.heap.size w w' := (put_fresh N v l w hN hr).mono fun _ _ ⟨v, h1, h2, _, h3⟩ => ⟨v, h1, h2, h3⟩
end Go.Proofs.YtdfdalkcljfghaaGreat.Slot
