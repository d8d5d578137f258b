/-
  What the document's Read answers.
-/
import Derived.Test.YtglphnmnnfpcoaaDoorSRead
import Derived.Test.YtglphnmnnfpcoaaDoorSRef
import Derived.Test.YtglphnmnnfpcoaaDoorSOps
namespace Go.Proofs.YtglphnmnnfpcoaaDoor
open Go.RowKit

theorem own_row {B : Nat} {w : World} {v : Value} {l : List UInt8} (h : Own B w v l) (h0 : 0 < l.length) : ∃ g cap rs, v = .slice (some ⟨g, 0, none⟩) l.length cap ∧ B ≤ g ∧ Arr w g rs ∧ ∀ k, k < l.length → rs[k]? = some (.int .u8 (((l.getD k 0).toNat : Nat) : Int)) := by
  rcases h.2 with ⟨e, h1⟩ | ⟨g, cap, cur, e, hb, hh, hcap, hmax, hcur, htk⟩
  · omega
  · refine ⟨g, cap, cur.toList, e, hb, ⟨_, _, hh, rfl⟩, fun k hk => ?_⟩
    have h3 : (cur.toList.take (l.length * 1))[k]? = cur.toList[k]? := by rw [List.getElem?_take]; simp [hk]
    rw [← h3, htk]
    exact bytesV_get l hk
theorem num1 {x : List UInt8} (h : 1 ≤ x.length) : numL (x.take 1) = (x.getD 0 0).toNat := by
  match x, h with
  | a :: l, _ => simp [numL]
theorem num4 {x : List UInt8} (h : 4 ≤ x.length) : numL (x.take 4) = (x.getD 0 0).toNat + 256 * (x.getD 1 0).toNat + 65536 * (x.getD 2 0).toNat + 16777216 * (x.getD 3 0).toNat := by
  match x, h with
  | a :: b :: c :: d :: l, _ =>
    simp [numL]
    omega
theorem getD_take {l : List UInt8} {n k : Nat} (h : k < n) : (l.take n).getD k 0 = l.getD k 0 := by
  rw [List.getD_eq_getElem?_getD, List.getElem?_take, if_pos h, ← List.getD_eq_getElem?_getD]
theorem getD_drop (l : List UInt8) (n k : Nat) : (l.drop n).getD k 0 = l.getD (n + k) 0 := by
  rw [List.getD_eq_getElem?_getD, List.getElem?_drop, ← List.getD_eq_getElem?_getD]
theorem set_cut {α : Type} {F Z : List α} {i : Nat} {x : α} (hZ : i < Z.length) (hF : F[i]? = some x) : (F.take i ++ Z.drop i).set i x = F.take (i + 1) ++ Z.drop (i + 1) := by
  have hi := (List.getElem?_eq_some_iff.1 hF).1
  have hl : (F.take i).length = i := by rw [List.length_take]; omega
  rw [List.set_append, if_neg (by omega), hl, Nat.sub_self, List.drop_eq_getElem_cons hZ, List.set_cons_zero, List.take_succ_eq_append_getElem hi]
  rw [(List.getElem?_eq_some_iff.1 hF).2, List.append_assoc]
  rfl
/-- How memory stands while the document reads: the answer's block, the slot's, the bytes', the reader. -/
structure K (w : World) (N r b g : Nat) (rs : List Value) (W : World) (cs : List Value) (l : List UInt8) (e : Int) : Prop where
  one : Arr W w.heap.size zeroS.cs
  two : Arr W b cs
  row : Arr W g rs
  rd : Rd N W r l e
  gr : w.grownBy W (some r)
  lt : r < w.heap.size
  nr : N ≤ r
  bs : w.heap.size < b
  ne : g ≠ b
section
variable {w W W' : World} {N r b g : Nat} {rs cs cs' : List Value} {l l' : List UInt8} {e e' : Int}
theorem K.lay (h : K w N r b g rs W cs l e) (hA : Arr W' b cs') (hg : W.grownBy W' (some b)) : K w N r b g rs W' cs' l e :=
  ⟨h.one.grown hg (by have := h.bs; simp; omega), hA, h.row.grown hg (by have := h.ne; simpa using this), h.rd.other hg (by have := h.lt; have := h.bs; omega) (by have := h.lt; have := h.nr; have := h.bs; omega), ⟨hg.os.trans h.gr.os, hg.tape.trans h.gr.tape, hg.output.trans h.gr.output, Nat.le_trans h.gr.size hg.size, fun k hk hne => by
    rw [hg.block k (Nat.lt_of_lt_of_le hk h.gr.size) (by have := h.bs; simp; omega), h.gr.block k hk hne]⟩, h.lt, h.nr, h.bs, h.ne⟩
theorem K.set (h : K w N r b g rs W cs l e) (i : Nat) (v : Value) : K w N r b g rs (W.setCell ⟨b, i, none⟩ v) (cs.set i v) l e := h.lay (h.two.set i v) (set_grown _ _ _ _)
theorem K.below (h : K w N r b g rs W cs l e) (hb : Below W.heap.size W W') : K w N r b g rs W' cs l e := ⟨h.one.below hb, h.two.below hb, h.row.below hb, h.rd.below hb, grown_below h.gr hb, h.lt, h.nr, h.bs, h.ne⟩
end

section
variable {ρ : Operand → Value} {o : Oper}
theorem op_index34 {x y : Operand} {i : Int} {g k n c : Nat} (ho : o.op = .indexAddr 34 x y) (h1 : ρ x = .slice (some ⟨g, 0, none⟩) n c) (h2 : ρ y = .int .i64 i) (hi : i = (k : Int)) (hk : k < n) (w : World) :
    (execOp ρ o).run Tryd.prog w = .ok (.value (.pointer (some ⟨g, k, none⟩))) w := by
  subst hi
  unfold execOp
  rw [ho]
  go_simp
theorem op_load5 {x : Operand} {g k : Nat} {v : Value} {w : World} (ho : o.op = .load 5 x) (h1 : ρ x = .pointer (some ⟨g, k, none⟩)) (hc : w.cell? ⟨g, k, none⟩ = some v) :
    (execOp ρ o).run Tryd.prog w = .ok (.value v) w := by
  unfold execOp
  rw [ho]
  go_simp
theorem op_conv5_3 {x : Operand} {n : Nat} (ho : o.op = .convert 5 3 x) (h1 : ρ x = .int .u8 (n : Int)) (h0 : n < 256) (w : World) :
    (execOp ρ o).run Tryd.prog w = .ok (.value (.int .i64 (n : Int))) w := by
  have hw : IntKind.i64.wrap (n : Int) = n := by rw [IntKind.wrap_i64]; omega
  unfold execOp
  rw [ho]
  go_simp
theorem op_build26 {x y : Operand} {u v : Value} {cs : List Value} (ho : o.op = .build 26 #[(0, x), (1, y)]) (h1 : ρ x = u) (h2 : ρ y = v) (hb : Tryd.prog.built 26 [(0, u), (1, v)] = some cs.toArray) (w : World) :
    (execOp ρ o).run Tryd.prog w = .ok (.value (.agg cs.toArray)) w := by
  have hb' : Tryd.prog.built 26 (#[((0 : Nat), x), (1, y)].map fun (i, x) => (i, ρ x)).toList = some cs.toArray := by
    have e : (#[((0 : Nat), x), (1, y)].map fun (i, x) => (i, ρ x)).toList = [(0, u), (1, v)] := by
      simp [h1, h2]
    rw [e]
    exact hb
  unfold execOp
  simp only [ho, Sem.run_bind, run_build w 26 _ _ hb', Result.andThen, Sem.run_pure]
theorem op_conv5_22 {x : Operand} {n : Nat} (ho : o.op = .convert 5 22 x) (h1 : ρ x = .int .u8 (n : Int)) (h0 : n < 256) (w : World) :
    (execOp ρ o).run Tryd.prog w = .ok (.value (.int .u64 (n : Int))) w := by
  have hw : IntKind.u64.wrap (n : Int) = n := by rw [IntKind.wrap_u64]; omega
  unfold execOp
  rw [ho]
  go_simp
theorem op_mul22 {x y : Operand} {a b : Int} (ho : o.op = .binOp .mul 22 x y 22) (h1 : ρ x = .int .u64 a) (h2 : ρ y = .int .u64 b) (w : World) :
    (execOp ρ o).run Tryd.prog w = .ok (.value (.int .u64 (IntKind.u64.wrap (a * b)))) w := by
  unfold execOp
  rw [ho]
  go_simp
theorem op_add22 {x y : Operand} {a b : Int} (ho : o.op = .binOp .add 22 x y 22) (h1 : ρ x = .int .u64 a) (h2 : ρ y = .int .u64 b) (w : World) :
    (execOp ρ o).run Tryd.prog w = .ok (.value (.int .u64 (IntKind.u64.wrap (a + b)))) w := by
  unfold execOp
  rw [ho]
  go_simp
theorem op_mul3 {x y : Operand} {a b c : Int} (ho : o.op = .binOp .mul 3 x y 3) (h1 : ρ x = .int .i64 a) (h2 : ρ y = .int .i64 b) (hc : a * b = c) (h0 : 0 ≤ c) (h3 : c < 9223372036854775808) (w : World) :
    (execOp ρ o).run Tryd.prog w = .ok (.value (.int .i64 c)) w := by
  subst hc
  have hw : IntKind.i64.wrap (a * b) = a * b := by rw [IntKind.wrap_i64]; omega
  unfold execOp
  rw [ho]
  go_simp
theorem op_add3 {x y : Operand} {a b c : Int} (ho : o.op = .binOp .add 3 x y 3) (h1 : ρ x = .int .i64 a) (h2 : ρ y = .int .i64 b) (hc : a + b = c) (h0 : 0 ≤ c) (h3 : c < 9223372036854775808) (w : World) :
    (execOp ρ o).run Tryd.prog w = .ok (.value (.int .i64 c)) w := by
  subst hc
  have hw : IntKind.i64.wrap (a + b) = a + b := by rw [IntKind.wrap_i64]; omega
  unfold execOp
  rw [ho]
  go_simp
theorem op_nil41 {x : Operand} {g k : Nat} (ho : o.op = .nilCheck x) (h1 : ρ x = .pointer (some ⟨g, k, none⟩)) (w : World) :
    (execOp ρ o).run Tryd.prog w = .ok (.value (.pointer (some ⟨g, k, none⟩))) w := by
  unfold execOp
  rw [ho]
  go_simp
theorem op_f41_1 {x : Operand} {g : Nat} (ho : o.op = .fieldAddr 41 x 1) (h1 : ρ x = .pointer (some ⟨g, 0, none⟩)) (w : World) :
    (execOp ρ o).run Tryd.prog w = .ok (.value (.pointer (some ⟨g, 1, none⟩))) w := by
  unfold execOp
  rw [ho]
  go_simp
theorem op_index24 {x y : Operand} {g k : Nat} (ho : o.op = .indexAddr 24 x y) (h1 : ρ x = .pointer (some ⟨g, 4, none⟩)) (h2 : ρ y = .int .i64 (k : Int)) (hk : k < 32) (w : World) :
    (execOp ρ o).run Tryd.prog w = .ok (.value (.pointer (some ⟨g, 4 + k, none⟩))) w := by
  unfold execOp
  rw [ho]
  go_simp
  intro h
  omega
theorem op_build0 {cs : List Value} (ho : o.op = .build 26 #[]) (hb : Tryd.prog.built 26 [] = some cs.toArray) (w : World) :
    (execOp ρ o).run Tryd.prog w = .ok (.value (.agg cs.toArray)) w := by
  have hb' : Tryd.prog.built 26 ((#[] : Array (Nat × Operand)).map fun (i, x) => (i, ρ x)).toList = some cs.toArray := by
    have e : ((#[] : Array (Nat × Operand)).map fun (i, x) => (i, ρ x)).toList = [] := by simp
    rw [e]
    exact hb
  unfold execOp
  simp only [ho, Sem.run_bind, run_build w 26 _ _ hb', Result.andThen, Sem.run_pure]
theorem op_store26 {x y : Operand} {g : Nat} {cs : List Value} {w : World} (ho : o.op = .store 26 x y) (h1 : ρ x = .pointer (some ⟨g, 0, none⟩)) (h2 : ρ y = .agg cs.toArray) (hr : w.there g 0 cs.length) (hi : (Tryd.prog.info? 26).map (·.size) = some cs.length) (hs : ∀ v ∈ cs, v.oneCell' = true) :
    (execOp ρ o).run Tryd.prog w = .ok .skip (w.setCells g 0 cs) := by
  have hsz : cs.toArray.size = cs.length := by simp
  unfold execOp
  rw [ho]
  simp only [h1, h2, Sem.run_bind, Sem.run_pure, run_storeAt_mid (P := Tryd.prog) w g 0 26 cs.toArray (by rw [hsz]; exact hr) (by rw [hsz]; exact hi) (all_oneCell_toArray hs), Result.andThen_ok]
theorem op_alloc26 (ho : o.op = .alloc 26) (w : World) :
    (execOp ρ o).run Tryd.prog w = .ok (.value (.pointer (some ⟨w.heap.size, 0, none⟩))) (w.alloc (.cells zeroS.cs.toArray 26)) := by
  unfold execOp
  simp only [ho, Sem.run_bind, alloc26, Result.andThen, Sem.run_pure]
end
def VZ (g cap b0 b1 n : Nat) (X : List Value) : Nat → Value → World → Prop
  | 0, v, _ => v = .slice (some ⟨g, 0, none⟩) 46 cap
  | 1, v, _ => v = .pointer (some ⟨g, 0, none⟩)
  | 2, v, _ => v = .int .u8 (b0 : Int)
  | 3, v, _ => v = .int .i64 (b0 : Int)
  | 4, v, _ => v = .slice (some ⟨g, 0, none⟩) 46 cap
  | 5, v, _ => v = .pointer (some ⟨g, 1, none⟩)
  | 6, v, _ => v = .int .u8 (b1 : Int)
  | 7, v, _ => v = .int .i64 (b1 : Int)
  | 8, v, _ => v = .agg X.toArray
  | 9, v, w => ∃ b, v = .pointer (some ⟨b, 0, none⟩) ∧ n ≤ b ∧ Arr w b zeroS.cs
  | _, _, _ => True
theorem VZ.stable {g cap b0 b1 n : Nat} {X : List Value} : ∀ j v w w', VZ g cap b0 b1 n X j v w → Below w.heap.size w w' → VZ g cap b0 b1 n X j v w' := by
  intro j v w w' h hb
  unfold VZ at *
  split at h
  all_goals first | exact h | skip
  obtain ⟨b, e, hn, hA⟩ := h
  exact ⟨b, e, hn, hA.below hb⟩

set_option maxHeartbeats 6400000 in
set_option maxRecDepth 100000 in
theorem rread_walk (N r : Nat) (l : List UInt8) (er : Int) (w : World) (h : Rd N w r l er) (ho : Over l er) :
    Calls Tryd.prog 24 #[.pointer (some ⟨r, 0, none⟩)] w fun e w' => e = .returned (.tuple #[(readF l er).1.v, .int .i64 (readF l er).2.1]) ∧ Rd N w' r (readF l er).2.2.1 (readF l er).2.2.2 ∧ w.grownBy w' (some r) := by
  have Hal := hide alloc26
  have HO := hide ho
  have hrw := h.lt
  have hnr := h.1
  have H0 := hide h
  have HZL : Hid (zeroS.cs.length = 36) := hide rfl
  clear h ho
  go_enter Tryd.func24, Tryd.ntmps24
  go_wp2_with (refine wpList_alloc 26 26 zeroS.cs rfl rfl (unhide Hal) ?_)
  intro w1 hA1 hb1 hs1
  have hraw := refraw_walk N r 46 (by decide) (by decide) l er w1 ((unhide H0).below hb1)
  rw [rawL_over (unhide HO), show (46 : Int).toNat = 46 by rfl] at hraw
  have HRAW := hide hraw
  have HA1 := hide hA1
  have Hb1 := hide hb1
  clear hA1 hb1 hraw
  go_wp2_with fail
  refine (unhide HRAW).mono ?_
  rintro z w2 ⟨v2, rfl, ⟨hO2, _⟩, hR2, hg2⟩
  have hA2 := (unhide HA1).grown hg2 (by simp; omega)
  have hs2 : w1.heap.size ≤ w2.heap.size := hg2.size
  have hgr : w.grownBy w2 (some r) := grown_two ⟨(unhide Hb1).os, (unhide Hb1).tape, (unhide Hb1).output, (unhide Hb1).size, fun k hk _ => (unhide Hb1).block k hk⟩ hg2
  have HG2 := hide hgr
  have HA2 := hide hA2
  clear hA2 hg2 hgr HA1 Hb1 HRAW
  by_cases hok : er = 0 ∧ 46 ≤ l.length
  · have HF : Hid (readF l er = ((checkedF (rdS l)).1, (checkedF (rdS l)).2, l.drop 46, 0)) := by
      show _ = _
      unfold readF
      rw [if_pos hok]
    obtain ⟨rfl, h46⟩ := hok
    rw [takeL_long (by omega)] at hO2 hR2
    have ht : (l.take 46).length = 46 := by rw [List.length_take]; omega
    obtain ⟨g, cap, rs, rfl, hBg, hArs, hrs⟩ := own_row hO2 (by rw [ht]; decide)
    rw [ht] at hrs ⊢
    have HRS : Hid (∀ k, k < 46 → rs[k]? = some (.int .u8 (((l.getD k 0).toNat : Nat) : Int))) := by
      show ∀ k, _
      intro k hk
      rw [← getD_take hk]
      exact hrs k hk
    obtain ⟨_, vr, hAr, _⟩ := id hR2
    have c1 := hAr.cell (i := 1) rfl
    have g0 := hArs.cell (unhide HRS 0 (by decide))
    have g1 := hArs.cell (unhide HRS 1 (by decide))
    have HAg := hide hArs
    have hgl := hArs.lt
    have HR2 := hide hR2
    clear hArs hAr hR2 hO2 ht hrs
    have n0 := num1 (x := l) (by omega)
    have n1 := num1 (x := l.drop 1) (by rw [List.length_drop]; omega)
    rw [getD_drop] at n1
    have n4 := num4 (x := l.drop 10) (by rw [List.length_drop]; omega)
    simp only [getD_drop] at n4
    have hfS := rdS_fit h46
    have HFS := hide hfS
    have hS : rdS l = ⟨((l.getD 0 0).toNat : Int), ((l.getD 1 0).toNat : Int), numL ((l.drop 2).take 8), (((l.getD 10 0).toNat + 256 * (l.getD 11 0).toNat + 65536 * (l.getD 12 0).toNat + 16777216 * (l.getD 13 0).toNat : Nat) : Int), (l.drop 14).take 32⟩ := by
      unfold rdS
      rw [n0, n1, n4]
    clear n0 n1 n4 hfS
    have HS := hide hS
    clear hS
    have hbnd : ∀ k, (l.getD k 0).toNat < 256 := fun k => (l.getD k 0).toNat_lt
    have HBU := hide (built26_two ((l.getD 0 0).toNat : Int) ((l.getD 1 0).toNat : Int))
    have k0 := hbnd 0
    have k1 := hbnd 1
    generalize hB0 : ((l.getD 0 0).toNat) = b0 at *
    generalize hB1 : ((l.getD 1 0).toNat) = b1 at *
    clear hB0 hB1
    have HI26 := hide (info26s (s := ⟨(b0 : Int), (b1 : Int), 0, 0, zeros32⟩) rfl)
    have HO26 := hide (cs_one ⟨(b0 : Int), (b1 : Int), 0, 0, zeros32⟩)
    have HL26 := hide (cs_length (s := ⟨(b0 : Int), (b1 : Int), 0, 0, zeros32⟩) rfl)
    generalize hX0 : (S.mk (b0 : Int) (b1 : Int) 0 0 zeros32).cs = X0 at *
    have HX0 := hide hX0
    clear hX0
    have G0 := hide g0
    have G1 := hide g1
    have HSL : Hid (w1.heap.size ≤ g ∧ g < w2.heap.size) := hide ⟨hBg, hgl⟩
    clear g0 g1 hbnd
    go_wp2_with fail
    clear c1
    refine Free.wp_region_tail 10 (VZ g cap b0 b1 w2.heap.size X0) (fun w' => Below w2.heap.size w2 w') (by kernel_rfl) (by decide) (by kernel_rfl) (by kernel_rfl) (by kernel_rfl) VZ.stable (Below.drew (Below.refl _ _)) ⟨?_, ?_, ?_, ?_, ?_, ?_, ?_, ?_, ?_, ?_, trivial⟩ ?_
    · exact Free.owed_move (Free.goes_plain rfl) (.inl rfl) fun a w' _ hs _ => hs 4 (by kernel_rfl)
    · exact Free.owed_pure (Free.goes_plain rfl) fun a w' hC hs hd => ⟨_, op_index34 (k := 0) rfl (hd 0 21 (by kernel_rfl)) rfl rfl (by decide) w', rfl⟩
    · exact Free.owed_pure (Free.goes_plain rfl) fun a w' hC hs hd => ⟨_, op_load5 rfl (hd 1 22 (by kernel_rfl)) ((hC.cell (p := ⟨g, 0, none⟩) (unhide HSL).2).trans (unhide G0)), rfl⟩
    · exact Free.owed_pure (Free.goes_plain rfl) fun a w' hC hs hd => ⟨_, op_conv5_3 rfl (hd 2 23 (by kernel_rfl)) k0 w', rfl⟩
    · exact Free.owed_move (Free.goes_plain rfl) (.inl rfl) fun a w' _ hs _ => hs 4 (by kernel_rfl)
    · exact Free.owed_pure (Free.goes_plain rfl) fun a w' hC hs hd => ⟨_, op_index34 (k := 1) rfl (hd 4 25 (by kernel_rfl)) rfl rfl (by decide) w', rfl⟩
    · exact Free.owed_pure (Free.goes_plain rfl) fun a w' hC hs hd => ⟨_, op_load5 rfl (hd 5 26 (by kernel_rfl)) ((hC.cell (p := ⟨g, 1, none⟩) (unhide HSL).2).trans (unhide G1)), rfl⟩
    · exact Free.owed_pure (Free.goes_plain rfl) fun a w' hC hs hd => ⟨_, op_conv5_3 rfl (hd 6 27 (by kernel_rfl)) k1 w', rfl⟩
    · exact Free.owed_pure (Free.goes_plain rfl) fun a w' hC hs hd => ⟨_, op_build26 rfl (hd 3 24 (by kernel_rfl)) (hd 7 28 (by kernel_rfl)) (unhide HBU) w', rfl⟩
    · refine Free.owed_value (Free.goes_plain rfl) fun a w' hC hs hd => ?_
      exact ⟨_, _, op_alloc26 rfl w', (Below.refl _ _).alloc (Nat.le_refl _) _, hC.alloc hC.size _, w'.heap.size, rfl, hC.size, _, _, heap_alloc_new w' _, rfl⟩
    intro w3 hb3 vals hv
    have e8 : vals 8 = .agg X0.toArray := hv 8 _ 29 rfl rfl
    obtain ⟨b, e9, hnb, hA3⟩ : ∃ b, vals 9 = .pointer (some ⟨b, 0, none⟩) ∧ w2.heap.size ≤ b ∧ Arr w3 b zeroS.cs := hv 9 _ 5 rfl rfl
    clear hv
    simp only [Free.putAll, List.take, List.drop, Act.put, List.setIfInBounds_toArray, List.set_cons_succ, List.set_cons_zero, e8, e9]
    clear e8 e9
    generalize vals 0 = y0
    generalize vals 1 = y1
    generalize vals 2 = y2
    generalize vals 3 = y3
    generalize vals 4 = y4
    generalize vals 5 = y5
    generalize vals 6 = y6
    generalize vals 7 = y7
    have HK3 : Hid (K w N r b g rs w3 zeroS.cs (l.drop 46) 0) := hide ⟨(unhide HA2).below hb3, hA3, (unhide HAg).below hb3, (unhide HR2).below hb3, grown_below (unhide HG2) hb3, hrw, hnr, by omega, by omega⟩
    clear hb3 hA3 HA2 HAg HR2 HG2 HO H0 G0 G1 HSL
    go_wp2_with (refine wpList_storeAll 26 _ _ b X0 zeroS.cs rfl rfl rfl rfl (unhide HK3).two (by rw [unhide HL26, unhide HZL]) (unhide HI26) (unhide HO26) ?_)
    intro w4 hA4 hg4 hs4
    have HK4 := hide ((unhide HK3).lay hA4 hg4)
    clear hA4 hg4 HK3
    have hx0 := unhide HX0
    subst hx0
    clear HX0
    clear HI26 HO26 HL26 hs4 HBU
    have HMUL : Hid (∀ n c k : Nat, n < 256 ^ k → k < 8 → c < 256 → IntKind.u64.wrap ((n : Int) + IntKind.u64.wrap (((256 ^ k % 18446744073709551616 : Nat) : Int) * (c : Int))) = ((n + 256 ^ k * c : Nat) : Int)) := hide fun n c k h1 h2 h3 => by
      rw [Int.mul_comm]
      exact weigh n c k h1 h2 h3
    have HLE := hide h46
    go_wp2_with fail
    go_loopw [6, 7] (fun cw ci wr => ∃ k : Nat, k ≤ 8 ∧ ci = .int .i64 (k : Int) ∧ cw = .int .u64 ((256 ^ k % 18446744073709551616 : Nat) : Int) ∧ K w N r b g rs wr (S.mk (b0 : Int) (b1 : Int) (numL ((l.drop 2).take k)) 0 zeros32).cs (l.drop 46) 0) (fun _ ci _ => 8 - (intOf ci).toNat)
    case atStart => exact ⟨0, by omega, rfl, rfl, unhide HK4⟩
    case round =>
      obtain ⟨k, hk, rfl, rfl, hKr⟩ := hrel
      by_cases hlt : k < 8
      · have hKr := hKr.below (Below.drew (Below.refl _ _))
        have hrc := hKr.row.cell (unhide HRS (2 + k) (by omega))
        have hst := numL_snoc ((l.drop 2).take k) ((l.drop 2).getD k 0)
        have hl2 : (l.drop 2).length ≥ 44 := by rw [List.length_drop]; have := unhide HLE; omega
        rw [← take_snoc 0 (l.drop 2) k (by omega), List.length_take, Nat.min_eq_left (by omega), getD_drop] at hst
        have hlt2 := numL_lt ((l.drop 2).take k)
        rw [List.length_take, Nat.min_eq_left (by omega)] at hlt2
        have hc8 := (l.getD (2 + k) 0).toNat_lt
        have hc2 := hKr.two.cell (i := 2) rfl
        have hf2 := hKr.two.free 2
        have HSET := hide (fun v => hKr.set 2 v)
        generalize (l.getD (2 + k) 0) = c at *
        generalize numL ((l.drop 2).take k) = n at *
        have hwe := unhide HMUL n c.toNat k hlt2 hlt hc8
        have hw2 := weight k
        generalize hq : 256 ^ k % 18446744073709551616 = p at *
        have HST := hide hst
        clear hst hlt2 hq hKr hl2
        have HW1 := hide hwe
        have HW2 := hide hw2
        clear hwe hw2
        go_wp2_with fail
        refine Free.wp_region_tail 12 (fun j (v : Value) (_ : World) => v = (fun j => match j with | 0 => .pointer (some ⟨b, 2, none⟩) | 1 => .int .u64 (n : Int) | 2 => .int .u64 (p : Int) | 3 => .slice (some ⟨g, 0, none⟩) 46 cap | 4 => .int .i64 (k : Int) | 5 => .int .i64 ((2 + k : Nat) : Int) | 6 => .pointer (some ⟨g, 2 + k, none⟩) | 7 => .int .u8 (c.toNat : Int) | 8 => .int .u64 (c.toNat : Int) | 9 => .int .u64 (IntKind.u64.wrap ((p : Int) * (c.toNat : Int))) | 10 => .int .u64 (((n + 256 ^ k * c.toNat : Nat)) : Int) | 11 => .pointer (some ⟨b, 2, none⟩) | _ => undef) j) (fun w' => w' = wr.drew) (by kernel_rfl) (by decide) (by kernel_rfl) (by kernel_rfl) (by kernel_rfl) (fun _ _ _ _ h _ => h) rfl ⟨?_, ?_, ?_, ?_, ?_, ?_, ?_, ?_, ?_, ?_, ?_, ?_, trivial⟩ ?_
        · exact Free.owed_pure (Free.goes_plain rfl) fun a w' hC hs hd => ⟨_, op_f26_2 rfl (hs 5 (by kernel_rfl)) w', rfl⟩
        · exact Free.owed_pure (Free.goes_plain rfl) fun a w' hC hs hd => ⟨_, op_load22 rfl (hd 0 34 (by kernel_rfl)) (by rw [hC]; exact hc2), rfl⟩
        · exact Free.owed_move (Free.goes_plain rfl) (.inl rfl) fun a w' _ hs _ => hs 6 (by kernel_rfl)
        · exact Free.owed_move (Free.goes_plain rfl) (.inl rfl) fun a w' _ hs _ => hs 4 (by kernel_rfl)
        · exact Free.owed_move (Free.goes_plain rfl) (.inl rfl) fun a w' _ hs _ => hs 7 (by kernel_rfl)
        · exact Free.owed_pure (Free.goes_plain rfl) fun a w' hC hs hd => ⟨_, op_add3 (c := ((2 + k : Nat) : Int)) rfl rfl (hd 4 38 (by kernel_rfl)) (by omega) (by omega) (by omega) w', rfl⟩
        · exact Free.owed_pure (Free.goes_plain rfl) fun a w' hC hs hd => ⟨_, op_index34 (k := 2 + k) rfl (hd 3 37 (by kernel_rfl)) (hd 5 39 (by kernel_rfl)) rfl (by omega) w', rfl⟩
        · exact Free.owed_pure (Free.goes_plain rfl) fun a w' hC hs hd => ⟨_, op_load5 rfl (hd 6 40 (by kernel_rfl)) (by rw [hC]; exact hrc), rfl⟩
        · exact Free.owed_pure (Free.goes_plain rfl) fun a w' hC hs hd => ⟨_, op_conv5_22 rfl (hd 7 41 (by kernel_rfl)) hc8 w', rfl⟩
        · exact Free.owed_pure (Free.goes_plain rfl) fun a w' hC hs hd => ⟨_, op_mul22 rfl (hd 2 36 (by kernel_rfl)) (hd 8 42 (by kernel_rfl)) w', rfl⟩
        · exact Free.owed_pure (Free.goes_plain rfl) fun a w' hC hs hd => ⟨_, op_add22 rfl (hd 1 35 (by kernel_rfl)) (hd 9 43 (by kernel_rfl)) w', congrArg (Value.int .u64) (unhide HW1)⟩
        · exact Free.owed_pure (Free.goes_plain rfl) fun a w' hC hs hd => ⟨_, op_f26_2 rfl (hs 5 (by kernel_rfl)) w', rfl⟩
        intro wd hwd vals hv
        subst hwd
        have e10 : vals 10 = .int .u64 ((n + 256 ^ k * c.toNat : Nat) : Int) := hv 10 _ 44 rfl rfl
        have e11 : vals 11 = .pointer (some ⟨b, 2, none⟩) := hv 11 _ 45 rfl rfl
        clear hv
        simp only [Free.putAll, List.take, List.drop, Act.put, List.setIfInBounds_toArray, List.set_cons_succ, List.set_cons_zero, e10, e11]
        clear e10 e11
        rw [← unhide HST]
        clear HST HW1 hrc
        generalize vals 0 = x0
        generalize vals 1 = x1
        generalize vals 2 = x2
        generalize vals 3 = x3
        generalize vals 4 = x4
        generalize vals 5 = x5
        generalize vals 6 = x6
        generalize vals 7 = x7
        generalize vals 8 = x8
        generalize vals 9 = x9
        go_wp2
        refine ⟨⟨k + 1, by omega, by go_num, ?_, ?_⟩, by simp [intOf]; omega⟩
        · rw [← unhide HW2]
        · have h := unhide HSET (.int .u64 (numL ((l.drop 2).take (k + 1)) : Int))
          exact h
      · obtain rfl : k = 8 := by omega
        have hKd := hKr.below (Below.drew (Below.refl _ _))
        have q0 := hKd.row.cell (unhide HRS 10 (by decide))
        have q1 := hKd.row.cell (unhide HRS 11 (by decide))
        have q2 := hKd.row.cell (unhide HRS 12 (by decide))
        have q3 := hKd.row.cell (unhide HRS 13 (by decide))
        have z0 : (l.getD 10 0).toNat < 256 := (l.getD 10 0).toNat_lt
        have z1 : (l.getD 11 0).toNat < 256 := (l.getD 11 0).toNat_lt
        have z2 : (l.getD 12 0).toNat < 256 := (l.getD 12 0).toNat_lt
        have z3 : (l.getD 13 0).toNat < 256 := (l.getD 13 0).toNat_lt
        generalize (l.getD 10 0).toNat = s0 at *
        generalize (l.getD 11 0).toNat = s1 at *
        generalize (l.getD 12 0).toNat = s2 at *
        generalize (l.getD 13 0).toNat = s3 at *
        generalize numL ((l.drop 2).take 8) = ver at *
        have hf3 := hKd.two.free 3
        have hc3 := hKd.two.cell (i := 3) rfl
        have HKS : Hid (∀ n : Nat, K w N r b g rs (wr.drew.setCell ⟨b, 3, none⟩ (.int .i64 (n : Int))) (S.mk (b0 : Int) (b1 : Int) ver (n : Int) zeros32).cs (l.drop 46) 0) := hide fun n => hKd.set 3 (.int .i64 (n : Int))
        clear hKr hKd HK4 HMUL
        go_wp2_with fail
        refine Free.wp_region_tail 23 (fun j (v : Value) (_ : World) => v = (fun j => match j with | 0 => .slice (some ⟨g, 0, none⟩) 46 cap | 1 => .pointer (some ⟨g, 10, none⟩) | 2 => .int .u8 (s0 : Int) | 3 => .int .i64 (s0 : Int) | 4 => .slice (some ⟨g, 0, none⟩) 46 cap | 5 => .pointer (some ⟨g, 11, none⟩) | 6 => .int .u8 (s1 : Int) | 7 => .int .i64 (s1 : Int) | 8 => .int .i64 ((256 * s1 : Nat) : Int) | 9 => .int .i64 ((s0 + 256 * s1 : Nat) : Int) | 10 => .slice (some ⟨g, 0, none⟩) 46 cap | 11 => .pointer (some ⟨g, 12, none⟩) | 12 => .int .u8 (s2 : Int) | 13 => .int .i64 (s2 : Int) | 14 => .int .i64 ((65536 * s2 : Nat) : Int) | 15 => .int .i64 ((s0 + 256 * s1 + 65536 * s2 : Nat) : Int) | 16 => .slice (some ⟨g, 0, none⟩) 46 cap | 17 => .pointer (some ⟨g, 13, none⟩) | 18 => .int .u8 (s3 : Int) | 19 => .int .i64 (s3 : Int) | 20 => .int .i64 ((16777216 * s3 : Nat) : Int) | 21 => .int .i64 ((s0 + 256 * s1 + 65536 * s2 + 16777216 * s3 : Nat) : Int) | 22 => .pointer (some ⟨b, 3, none⟩) | _ => undef) j) (fun w' => w' = wr.drew) (by kernel_rfl) (by decide) (by kernel_rfl) (by kernel_rfl) (by kernel_rfl) (fun _ _ _ _ h _ => h) rfl ⟨?_, ?_, ?_, ?_, ?_, ?_, ?_, ?_, ?_, ?_, ?_, ?_, ?_, ?_, ?_, ?_, ?_, ?_, ?_, ?_, ?_, ?_, ?_, trivial⟩ ?_
        · exact Free.owed_move (Free.goes_plain rfl) (.inl rfl) fun a w' _ hs _ => hs 4 (by kernel_rfl)
        · exact Free.owed_pure (Free.goes_plain rfl) fun a w' hC hs hd => ⟨_, op_index34 (k := 10) rfl (hd 0 48 (by kernel_rfl)) rfl rfl (by decide) w', rfl⟩
        · exact Free.owed_pure (Free.goes_plain rfl) fun a w' hC hs hd => ⟨_, op_load5 rfl (hd 1 49 (by kernel_rfl)) (by rw [hC]; exact q0), rfl⟩
        · exact Free.owed_pure (Free.goes_plain rfl) fun a w' hC hs hd => ⟨_, op_conv5_3 rfl (hd 2 50 (by kernel_rfl)) z0 w', rfl⟩
        · exact Free.owed_move (Free.goes_plain rfl) (.inl rfl) fun a w' _ hs _ => hs 4 (by kernel_rfl)
        · exact Free.owed_pure (Free.goes_plain rfl) fun a w' hC hs hd => ⟨_, op_index34 (k := 11) rfl (hd 4 52 (by kernel_rfl)) rfl rfl (by decide) w', rfl⟩
        · exact Free.owed_pure (Free.goes_plain rfl) fun a w' hC hs hd => ⟨_, op_load5 rfl (hd 5 53 (by kernel_rfl)) (by rw [hC]; exact q1), rfl⟩
        · exact Free.owed_pure (Free.goes_plain rfl) fun a w' hC hs hd => ⟨_, op_conv5_3 rfl (hd 6 54 (by kernel_rfl)) z1 w', rfl⟩
        · exact Free.owed_pure (Free.goes_plain rfl) fun a w' hC hs hd => ⟨_, op_mul3 (c := ((256 * s1 : Nat) : Int)) rfl rfl (hd 7 55 (by kernel_rfl)) (by omega) (by omega) (by omega) w', rfl⟩
        · exact Free.owed_pure (Free.goes_plain rfl) fun a w' hC hs hd => ⟨_, op_add3 (c := ((s0 + 256 * s1 : Nat) : Int)) rfl (hd 3 51 (by kernel_rfl)) (hd 8 56 (by kernel_rfl)) (by omega) (by omega) (by omega) w', rfl⟩
        · exact Free.owed_move (Free.goes_plain rfl) (.inl rfl) fun a w' _ hs _ => hs 4 (by kernel_rfl)
        · exact Free.owed_pure (Free.goes_plain rfl) fun a w' hC hs hd => ⟨_, op_index34 (k := 12) rfl (hd 10 58 (by kernel_rfl)) rfl rfl (by decide) w', rfl⟩
        · exact Free.owed_pure (Free.goes_plain rfl) fun a w' hC hs hd => ⟨_, op_load5 rfl (hd 11 59 (by kernel_rfl)) (by rw [hC]; exact q2), rfl⟩
        · exact Free.owed_pure (Free.goes_plain rfl) fun a w' hC hs hd => ⟨_, op_conv5_3 rfl (hd 12 60 (by kernel_rfl)) z2 w', rfl⟩
        · exact Free.owed_pure (Free.goes_plain rfl) fun a w' hC hs hd => ⟨_, op_mul3 (c := ((65536 * s2 : Nat) : Int)) rfl rfl (hd 13 61 (by kernel_rfl)) (by omega) (by omega) (by omega) w', rfl⟩
        · exact Free.owed_pure (Free.goes_plain rfl) fun a w' hC hs hd => ⟨_, op_add3 (c := ((s0 + 256 * s1 + 65536 * s2 : Nat) : Int)) rfl (hd 9 57 (by kernel_rfl)) (hd 14 62 (by kernel_rfl)) (by omega) (by omega) (by omega) w', rfl⟩
        · exact Free.owed_move (Free.goes_plain rfl) (.inl rfl) fun a w' _ hs _ => hs 4 (by kernel_rfl)
        · exact Free.owed_pure (Free.goes_plain rfl) fun a w' hC hs hd => ⟨_, op_index34 (k := 13) rfl (hd 16 64 (by kernel_rfl)) rfl rfl (by decide) w', rfl⟩
        · exact Free.owed_pure (Free.goes_plain rfl) fun a w' hC hs hd => ⟨_, op_load5 rfl (hd 17 65 (by kernel_rfl)) (by rw [hC]; exact q3), rfl⟩
        · exact Free.owed_pure (Free.goes_plain rfl) fun a w' hC hs hd => ⟨_, op_conv5_3 rfl (hd 18 66 (by kernel_rfl)) z3 w', rfl⟩
        · exact Free.owed_pure (Free.goes_plain rfl) fun a w' hC hs hd => ⟨_, op_mul3 (c := ((16777216 * s3 : Nat) : Int)) rfl rfl (hd 19 67 (by kernel_rfl)) (by omega) (by omega) (by omega) w', rfl⟩
        · exact Free.owed_pure (Free.goes_plain rfl) fun a w' hC hs hd => ⟨_, op_add3 (c := ((s0 + 256 * s1 + 65536 * s2 + 16777216 * s3 : Nat) : Int)) rfl (hd 15 63 (by kernel_rfl)) (hd 20 68 (by kernel_rfl)) (by omega) (by omega) (by omega) w', rfl⟩
        · exact Free.owed_pure (Free.goes_plain rfl) fun a w' hC hs hd => ⟨_, op_f26_3 rfl (hs 5 (by kernel_rfl)) w', rfl⟩
        intro wd hwd vals hv
        subst hwd
        have e21 : vals 21 = .int .i64 ((s0 + 256 * s1 + 65536 * s2 + 16777216 * s3 : Nat) : Int) := hv 21 _ 69 rfl rfl
        have e22 : vals 22 = .pointer (some ⟨b, 3, none⟩) := hv 22 _ 70 rfl rfl
        clear hv
        simp only [Free.putAll, List.take, List.drop, Act.put, List.setIfInBounds_toArray, List.set_cons_succ, List.set_cons_zero, e21, e22]
        clear e21 e22 q0 q1 q2 q3
        generalize s0 + 256 * s1 + 65536 * s2 + 16777216 * s3 = sz at *
        have HK5 := hide (unhide HKS sz)
        clear HKS z0 z1 z2 z3
        generalize vals 0 = x0
        generalize vals 1 = x1
        generalize vals 2 = x2
        generalize vals 3 = x3
        generalize vals 4 = x4
        generalize vals 5 = x5
        generalize vals 6 = x6
        generalize vals 7 = x7
        generalize vals 8 = x8
        generalize vals 9 = x9
        generalize vals 10 = x10
        generalize vals 11 = x11
        generalize vals 12 = x12
        generalize vals 13 = x13
        generalize vals 14 = x14
        generalize vals 15 = x15
        generalize vals 16 = x16
        generalize vals 17 = x17
        generalize vals 18 = x18
        generalize vals 19 = x19
        generalize vals 20 = x20
        go_wp2_with fail
        have hdg := (unhide HFS).dg
        obtain ⟨F, hF⟩ : ∃ F, F = (rdS l).cs := ⟨_, rfl⟩
        obtain ⟨Z, hZ⟩ : ∃ Z, Z = (S.mk (b0 : Int) (b1 : Int) ver (sz : Int) zeros32).cs := ⟨_, rfl⟩
        have HF4 : Hid (F.take 4 ++ Z.drop 4 = Z) := by
          rw [hF, hZ, unhide HS]
          exact hide rfl
        have HFk : Hid (∀ k, k < 32 → F[4 + k]? = some (.int .u8 (((l.getD (14 + k) 0).toNat : Nat) : Int))) := by
          show ∀ k, _
          intro k hk
          rw [hF, unhide HS]
          rw [unhide HS] at hdg
          have h := bytesV_get ((l.drop 14).take 32) (i := k) (by simp only at hdg; omega)
          rw [getD_take hk, getD_drop] at h
          rw [← h, S.cs, Nat.add_comm]
          rfl
        have HFL : Hid (F.length = 36) := by rw [hF]; exact hide (cs_length hdg)
        have HZL2 : Hid (Z.length = 36) := by rw [hZ]; exact hide (cs_length rfl)
        have hFI := info26s hdg
        rw [← hF] at hFI
        have HFI := hide hFI
        have hF1 := cs_one (rdS l)
        rw [← hF] at hF1
        have HF1 := hide hF1
        rw [← hZ, ← unhide HF4] at HK5
        have HFF := hide hF
        clear hF hZ hdg hFI hF1 HF4 HS
        go_loopw [71] (fun ci wr => ∃ k : Nat, k ≤ 32 ∧ ci = .int .i64 (k : Int) ∧ K w N r b g rs wr (F.take (4 + k) ++ Z.drop (4 + k)) (l.drop 46) 0) (fun ci _ => 32 - (intOf ci).toNat)
        case atStart => exact ⟨0, by omega, rfl, unhide HK5⟩
        case round =>
          clear HK5
          obtain ⟨k, hk, rfl, hKr⟩ := hrel
          by_cases hlt : k < 32
          · have hrc := hKr.row.cell (unhide HRS (14 + k) (by omega))
            have hcl : ∃ x, (F.take (4 + k) ++ Z.drop (4 + k))[4 + k]? = some x := by
              have h1 := unhide HFL
              have h2 := unhide HZL2
              exact ⟨_, List.getElem?_eq_getElem (by simp only [List.length_append, List.length_take, List.length_drop]; omega)⟩
            obtain ⟨xo, hcl⟩ := hcl
            have hc4 := hKr.two.cell hcl
            have hf4 := hKr.two.free (4 + k)
            have HNX : Hid (K w N r b g rs (wr.setCell ⟨b, 4 + k, none⟩ (.int .u8 (((l.getD (14 + k) 0).toNat : Nat) : Int))) (F.take (4 + (k + 1)) ++ Z.drop (4 + (k + 1))) (l.drop 46) 0) := by
              have h := hKr.set (4 + k) (.int .u8 (((l.getD (14 + k) 0).toNat : Nat) : Int))
              rw [set_cut (by have := unhide HZL2; omega) (unhide HFk k hlt)] at h
              exact hide h
            generalize l.getD (14 + k) 0 = c at *
            clear hKr hcl
            go_wp2
            refine ⟨⟨k + 1, by omega, by go_num, unhide HNX⟩, by simp [intOf]; omega⟩
          · obtain rfl : k = 32 := by omega
            have hFe : F.take (4 + 32) ++ Z.drop (4 + 32) = F := by
              have h1 := unhide HFL
              have h2 := unhide HZL2
              rw [List.take_of_length_le (by omega), List.drop_eq_nil_of_le (by omega), List.append_nil]
            rw [hFe] at hKr
            have HKr := hide hKr
            have HRI : Hid (∀ w : World, Calls Tryd.prog 15 #[.agg F.toArray] w fun e w' => e = .returned (.bool (right (rdS l))) ∧ Below w.heap.size w w') := by
              rw [unhide HFF]
              exact hide (rright_walk (rdS l) (unhide HFS))
            clear hKr hFe HFk HZL2 HRS
            have hfs := unhide HFS
            clear HFS
            cases hr : right (rdS l) with
            | true =>
              rw [hr] at HRI
              have HF2 : Hid (readF l 0 = (rdS l, 0, l.drop 46, 0)) := by
                show _ = _
                rw [unhide HF]
                unfold checkedF
                rw [if_pos hr]
              clear HF hr hfs
              go_wp2_with (refine wpList_loadAll 26 _ b F _ rfl rfl rfl (unhide HKr).two Tryd.underlying26 rfl (unhide HFI) ?_)
              refine (unhide HRI _).mono ?_
              rintro e w6 ⟨rfl, hb6⟩
              have HK6 := hide ((unhide HKr).below hb6)
              clear hb6 HKr HRI
              go_wp2_with (first
                | refine wpList_loadAll 26 _ b F _ rfl rfl rfl (unhide HK6).two Tryd.underlying26 rfl (unhide HFI) ?_
                | refine wpList_storeAll 26 _ _ w.heap.size F zeroS.cs rfl rfl rfl rfl (unhide HK6).one (by rw [unhide HFL, unhide HZL]) (unhide HFI) (unhide HF1) ?_)
              intro w10 hA10 hg10 hs10
              have HA10 := hide hA10
              have Hres : Hid (Rd N w10 r (l.drop 46) 0 ∧ w.grownBy w10 (some r)) := by
                have hj := unhide HK6
                exact hide ⟨hj.rd.other hg10 (by have := hj.lt; omega) (by have := hj.lt; have := hj.nr; omega), ⟨hg10.os.trans hj.gr.os, hg10.tape.trans hj.gr.tape, hg10.output.trans hj.gr.output, Nat.le_trans hj.gr.size hg10.size, fun i hi hne => by
                  rw [hg10.block i (Nat.lt_of_lt_of_le hi hj.gr.size) (by simp; omega), hj.gr.block i hi hne]⟩⟩
              clear hA10 hg10 HK6
              go_wp2
              refine bodyPost_ret (v := .tuple #[.agg F.toArray, .int .i64 0]) ?_ rfl ⟨?_, ?_, (unhide Hres).2⟩
              · exact results_two Tryd.results24 rfl rfl (unhide HA10) Tryd.underlying26 rfl (unhide HFI)
              · rw [unhide HF2, unhide HFF]
                rfl
              · rw [unhide HF2]
                exact (unhide Hres).1
            | false =>
              rw [hr] at HRI
              obtain ⟨zR, hzR⟩ : ∃ zR : S, zR = zeroS := ⟨_, rfl⟩
              have hzd : zR.dg.length = 32 := by rw [hzR]; rfl
              have HzI := hide (info26s hzd)
              have HzL := hide (cs_length hzd)
              have Hz1 := hide (cs_one zR)
              have HzB : Hid (Tryd.prog.built 26 [] = some zR.cs.toArray) := by rw [hzR]; exact hide built26
              have HF2 : Hid (readF l 0 = (zR, 101, l.drop 46, 0)) := by
                show _ = _
                rw [unhide HF, hzR]
                unfold checkedF
                rw [if_neg (by rw [hr]; simp)]
              clear HF hr hfs hzR hzd
              go_wp2_with (refine wpList_loadAll 26 _ b F _ rfl rfl rfl (unhide HKr).two Tryd.underlying26 rfl (unhide HFI) ?_)
              refine (unhide HRI _).mono ?_
              rintro e w6 ⟨rfl, hb6⟩
              have HK6 := hide ((unhide HKr).below hb6)
              clear hb6 HKr HRI
              go_wp2_with (first
                | refine wpList_build 26 _ zR.cs [] rfl rfl rfl (unhide HzB) ?_
                | refine wpList_storeAll 26 _ _ w.heap.size zR.cs zeroS.cs rfl rfl rfl rfl (unhide HK6).one (by rw [unhide HzL, unhide HZL]) (unhide HzI) (unhide Hz1) ?_)
              intro w10 hA10 hg10 hs10
              have HA10 := hide hA10
              have Hres : Hid (Rd N w10 r (l.drop 46) 0 ∧ w.grownBy w10 (some r)) := by
                have hj := unhide HK6
                exact hide ⟨hj.rd.other hg10 (by have := hj.lt; omega) (by have := hj.lt; have := hj.nr; omega), ⟨hg10.os.trans hj.gr.os, hg10.tape.trans hj.gr.tape, hg10.output.trans hj.gr.output, Nat.le_trans hj.gr.size hg10.size, fun i hi hne => by
                  rw [hg10.block i (Nat.lt_of_lt_of_le hi hj.gr.size) (by simp; omega), hj.gr.block i hi hne]⟩⟩
              clear hA10 hg10 HK6
              go_wp2
              refine bodyPost_ret (v := .tuple #[.agg zR.cs.toArray, .int .i64 101]) ?_ rfl ⟨?_, ?_, (unhide Hres).2⟩
              · exact results_two Tryd.results24 rfl rfl (unhide HA10) Tryd.underlying26 rfl (unhide HzI)
              · rw [unhide HF2]
                rfl
              · rw [unhide HF2]
                exact (unhide Hres).1
  · have HF : Hid (readF l er = (zeroS, failL er 51, [], failL er 51)) := by
      show _ = _
      unfold readF
      rw [if_neg hok]
    have ht : takeL l er 46 = ([], [], failL er 51) ∧ failL er 51 ≠ 0 := by
      by_cases he : er = 0
      · have h1 : l.length < 46 := by
          rcases Nat.lt_or_ge l.length 46 with h | h
          · exact h
          · exact absurd ⟨he, h⟩ hok
        refine ⟨takeL_short h1, ?_⟩
        unfold failL
        rw [if_pos he]
        decide
      · rw [unhide HO he, takeL_err he]
        unfold failL
        rw [if_neg he]
        exact ⟨rfl, he⟩
    rw [ht.1] at hR2
    have hnb : (failL er 51 != 0) = true := by simpa using ht.2
    obtain ⟨zR, hzR⟩ : ∃ zR : S, zR = zeroS := ⟨_, rfl⟩
    have hzd : zR.dg.length = 32 := by rw [hzR]; rfl
    have HzI := hide (info26s hzd)
    have HzL := hide (cs_length hzd)
    have Hz1 := hide (cs_one zR)
    have HzB : Hid (Tryd.prog.built 26 [] = some zR.cs.toArray) := by rw [hzR]; exact hide built26
    rw [← hzR] at HF
    clear hok ht hO2 hzR hzd HO H0
    generalize failL er 51 = ef at *
    obtain ⟨_, vr, hAr, _⟩ := id hR2
    have c1 := hAr.cell (i := 1) rfl
    have HR2 := hide hR2
    clear hAr hR2
    go_wp2_with fail
    have hbd := Below.drew (Below.refl w2.heap.size w2)
    have HA3 := hide ((unhide HA2).below hbd)
    have HR3 := hide ((unhide HR2).below hbd)
    have HG3 := hide (grown_below (unhide HG2) hbd)
    have C1 := hide c1
    clear hbd HA2 HR2 HG2 c1
    refine Flow.wp_region (fun j (v : Value) (_ : Unit) (_ : World) => v = (fun j => match j with | 0 => .agg zR.cs.toArray | 1 => .pointer (some ⟨r, 0, none⟩) | 2 => .pointer (some ⟨r, 0, none⟩) | 3 => .pointer (some ⟨r, 1, none⟩) | 4 => .int .i64 ef | 6 => .int .i64 ef | _ => undef) j) (Flow.two 5 (fun _ w' => w' = w2.drew) (fun _ w' => Arr w' w.heap.size zR.cs ∧ w2.drew.grownBy w' (some w.heap.size))) () (by kernel_rfl) (by kernel_rfl) (by unfold Flow.two; simp) ⟨?_, ?_, ?_, ?_, ?_, ?_, ?_, trivial⟩ ?_
    · exact Flow.pure (Flow.goes_plain rfl) (Flow.two.upd (by decide)) fun a L s w' hC hL hn hs hd => ⟨_, op_build0 rfl (unhide HzB) w', rfl⟩
    · exact Flow.move (Flow.goes_plain rfl) (Flow.two.upd (by decide)) (.inl rfl) fun a s w' hs hd => hs 0 (by kernel_rfl)
    · exact Flow.pure (Flow.goes_plain rfl) (Flow.two.upd (by decide)) fun a L s w' hC hL hn hs hd => ⟨_, op_nil41 rfl (hd 1 17 (by kernel_rfl)) w', rfl⟩
    · exact Flow.pure (Flow.goes_plain rfl) (Flow.two.upd (by decide)) fun a L s w' hC hL hn hs hd => ⟨_, op_f41_1 rfl (hd 2 18 (by kernel_rfl)) w', rfl⟩
    · refine Flow.pure (Flow.goes_plain rfl) (Flow.two.upd (by decide)) fun a L s w' hC hL hn hs hd => ?_
      have hcell : w'.cell? ⟨r, 1, none⟩ = some (.int .i64 ef) := by
        cases h5 : L 5 with
        | false =>
          rw [hC.pre h5]
          exact unhide C1
        | true =>
          obtain ⟨_, v, hA, _⟩ := (unhide HR3).other (hC.end h5).2 (by omega) (by omega)
          exact hA.cell (i := 1) rfl
      exact ⟨_, op_load3 rfl (hd 3 19 (by kernel_rfl)) hcell, rfl⟩
    · refine Flow.store (Flow.goes_plain rfl) fun a L s w' hC hL hn hs hd => ?_
      have hw' : w' = w2.drew := hC.pre hL
      subst hw'
      have hth := (unhide HA3).there
      rw [show zeroS.cs.length = zR.cs.length by rw [unhide HzL, unhide HZL]] at hth
      exact ⟨(), _, op_store26 rfl (hs 2 (by kernel_rfl)) (hd 0 16 (by kernel_rfl)) hth (unhide HzI) (unhide Hz1), fun j u _ h => h, Flow.two.post ⟨(unhide HA3).sets zR.cs (by rw [unhide HzL, unhide HZL]), setCells_grown _ _ _ _⟩, rfl⟩
    · exact Flow.move (Flow.goes_plain rfl) (Flow.two.upd (by decide)) (.inr rfl) fun a s w' hs hd => hd 4 20 (by kernel_rfl)
    intro L sv w10 hC hL vals hv
    obtain ⟨hA10, hg10⟩ := hC.end (hL 5 (by decide))
    have e6 : vals 6 = .int .i64 ef := hv 6 _ 3 rfl rfl
    clear hv hC hL
    simp only [Free.putAll, Act.put, List.setIfInBounds_toArray, List.set_cons_succ, List.set_cons_zero, e6]
    clear e6
    generalize vals 0 = t0
    generalize vals 1 = t1
    generalize vals 2 = t2
    generalize vals 3 = t3
    generalize vals 4 = t4
    have HA10 := hide hA10
    have Hres : Hid (Rd N w10 r [] ef ∧ w.grownBy w10 (some r)) := by
      have hG := unhide HG3
      exact hide ⟨(unhide HR3).other hg10 (by omega) (by omega), ⟨hg10.os.trans hG.os, hg10.tape.trans hG.tape, hg10.output.trans hG.output, Nat.le_trans hG.size hg10.size, fun i hi hne => by
        rw [hg10.block i (Nat.lt_of_lt_of_le hi hG.size) (by simp; omega), hG.block i hi hne]⟩⟩
    clear hA10 hg10 HA3 HR3 HG3 C1
    go_wp2
    refine bodyPost_ret (v := .tuple #[.agg zR.cs.toArray, .int .i64 ef]) ?_ rfl ⟨?_, ?_, (unhide Hres).2⟩
    · exact results_two Tryd.results24 rfl rfl (unhide HA10) Tryd.underlying26 rfl (unhide HzI)
    · rw [unhide HF]
      rfl
    · rw [unhide HF]
      exact (unhide Hres).1
end Go.Proofs.YtglphnmnnfpcoaaDoor
