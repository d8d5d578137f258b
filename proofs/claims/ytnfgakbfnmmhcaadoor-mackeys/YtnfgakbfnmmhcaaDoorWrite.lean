/-
  What (*Digest).Write does: the bytes are behind those that were written.
-/
import Derived.Test.YtnfgakbfnmmhcaaDoorWMath
namespace Go.Proofs.YtnfgakbfnmmhcaaDoor
open Go.RowKit

theorem run_nil {ρ : Operand → Value} {o : Oper} {x : Operand} {p : Addr} (ho : o.op = .nilCheck x) (h : ρ x = .pointer (some p)) (w : World) :
    (execOp ρ o).run Tryd.prog w = .ok (.value (.pointer (some p))) w := by
  unfold execOp
  rw [ho]
  go_simp
theorem run_field0 {ρ : Operand → Value} {o : Oper} {x : Operand} {b : Nat} (ho : o.op = .fieldAddr 52 x 0) (h : ρ x = .pointer (some ⟨b, 0, none⟩)) (w : World) :
    (execOp ρ o).run Tryd.prog w = .ok (.value (.pointer (some ⟨b, 0, none⟩))) w := by
  unfold execOp
  rw [ho]
  go_simp
theorem run_field1 {ρ : Operand → Value} {o : Oper} {x : Operand} {b : Nat} (ho : o.op = .fieldAddr 52 x 1) (h : ρ x = .pointer (some ⟨b, 0, none⟩)) (w : World) :
    (execOp ρ o).run Tryd.prog w = .ok (.value (.pointer (some ⟨b, 8, none⟩))) w := by
  unfold execOp
  rw [ho]
  go_simp
theorem run_field2 {ρ : Operand → Value} {o : Oper} {x : Operand} {b : Nat} (ho : o.op = .fieldAddr 52 x 2) (h : ρ x = .pointer (some ⟨b, 0, none⟩)) (w : World) :
    (execOp ρ o).run Tryd.prog w = .ok (.value (.pointer (some ⟨b, 72, none⟩))) w := by
  unfold execOp
  rw [ho]
  go_simp
theorem run_load32 {ρ : Operand → Value} {o : Oper} {x : Operand} {p : Addr} {v : Value} {w : World} (ho : o.op = .load 43 x) (h : ρ x = .pointer (some p)) (hc : w.cell? p = some v) :
    (execOp ρ o).run Tryd.prog w = .ok (.value v) w := by
  unfold execOp
  rw [ho]
  go_simp
theorem run_rem64 {ρ : Operand → Value} {o : Oper} {x : Operand} {n : Nat} (ho : o.op = .binOp .rem 43 x (.const (.int .u64 64)) 43) (h : ρ x = .int .u64 (n : Int)) (h' : ρ (.const (.int .u64 64)) = .int .u64 64) (w : World) :
    (execOp ρ o).run Tryd.prog w = .ok (.value (.int .u64 ((n % 64 : Nat) : Int))) w := by
  unfold execOp
  rw [ho]
  go_simp
  exact Int.tmod_eq_emod_of_nonneg (by omega)
theorem run_slice51 {ρ : Operand → Value} {o : Oper} {x y : Operand} {b r : Nat} (ho : o.op = .slice 35 x (some y) none none) (h : ρ x = .pointer (some ⟨b, 8, none⟩)) (h' : ρ y = .int .u64 (r : Int)) (hr : r < 64) (w : World) :
    (execOp ρ o).run Tryd.prog w = .ok (.value (.slice (some ⟨b, 8 + r, none⟩) (64 - r) (64 - r))) w := by
  have hr' : (r : Int) ≤ 64 := by omega
  have h0 : (0 : Int) ≤ (r : Int) := by omega
  have hne : ¬ 64 = r := by omega
  unfold execOp
  rw [ho]
  go_simp

theorem run_load50 {ρ : Operand → Value} {o : Oper} {x : Operand} {b : Nat} {cs : List Value} {w : World} (ho : o.op = .load 50 x) (h : ρ x = .pointer (some ⟨b, 0, none⟩)) (hc : w.rangeAt b 0 cs) (hl : cs.length = 8) :
    (execOp ρ o).run Tryd.prog w = .ok (.value (.agg cs.toArray)) w := by
  have hr := run_loadAt_mid (P := Tryd.prog) w b 0 50 cs _ hc Tryd.underlying50 rfl (by rw [hl]; exact info50)
  unfold execOp
  simp only [ho, h, Sem.run_bind, hr, Result.andThen, Sem.run_pure]
theorem run_load51 {ρ : Operand → Value} {o : Oper} {x : Operand} {b : Nat} {cs : List Value} {w : World} (ho : o.op = .load 35 x) (h : ρ x = .pointer (some ⟨b, 8, none⟩)) (hc : w.rangeAt b 8 cs) (hl : cs.length = 64) :
    (execOp ρ o).run Tryd.prog w = .ok (.value (.agg cs.toArray)) w := by
  have hr := run_loadAt_mid (P := Tryd.prog) w b 8 35 cs _ hc Tryd.underlying35 rfl (by rw [hl]; exact info35)
  unfold execOp
  simp only [ho, h, Sem.run_bind, hr, Result.andThen, Sem.run_pure]
theorem run_call21 {ρ : Operand → Value} {o : Oper} {t u : Nat} {v v' : Value} (ho : o.op = .call { callee := .value (.func 21), args := #[.tmp t, .tmp u], argTypes := #[50, 35] }) (hf : ρ (.func 21) = .func (.func 21) #[] #[]) (h : ρ (.tmp t) = v) (h' : ρ (.tmp u) = v') (w : World) :
    (execOp ρ o).run Tryd.prog w = .ok (.enter 21 #[v, v']) w := by
  unfold execOp
  rw [ho]
  go_simp

/-- What the operations of the last region yield. -/
def VX (b : Nat) (ss ts rs : List Value) : Nat → Value → World → Prop
  | 0, v, _ => v = .pointer (some ⟨b, 0, none⟩)
  | 1, v, _ => v = .pointer (some ⟨b, 0, none⟩)
  | 2, v, _ => v = .pointer (some ⟨b, 0, none⟩)
  | 3, v, _ => v = .pointer (some ⟨b, 0, none⟩)
  | 4, v, _ => v = .agg ss.toArray
  | 5, v, _ => v = .pointer (some ⟨b, 0, none⟩)
  | 6, v, _ => v = .pointer (some ⟨b, 0, none⟩)
  | 7, v, _ => v = .pointer (some ⟨b, 8, none⟩)
  | 8, v, _ => v = .agg ts.toArray
  | 9, v, _ => v = .agg rs.toArray
  | 10, v, _ => v = .pointer (some ⟨b, 0, none⟩)
  | 11, v, _ => v = .pointer (some ⟨b, 0, none⟩)
  | _, _, _ => True

theorem VX.stable {b : Nat} {ss ts rs : List Value} (j : Nat) (v : Value) (w w' : World) (h : VX b ss ts rs j v w) (_ : Below w.heap.size w w') : VX b ss ts rs j v w' := by
  unfold VX at *
  split at h <;> exact h

/-- What the operations of the first region yield. -/
def VW (b l c n0 : Nat) (a' : Option Addr) : Nat → Value → World → Prop
  | 0, v, _ => v = .pointer (some ⟨b, 0, none⟩)
  | 1, v, _ => v = .pointer (some ⟨b, 0, none⟩)
  | 2, v, _ => v = .pointer (some ⟨b, 8, none⟩)
  | 3, v, _ => v = .pointer (some ⟨b, 0, none⟩)
  | 4, v, _ => v = .pointer (some ⟨b, 0, none⟩)
  | 5, v, _ => v = .pointer (some ⟨b, 72, none⟩)
  | 6, v, _ => v = .int .u64 (n0 : Int)
  | 7, v, _ => v = .int .u64 ((n0 % 64 : Nat) : Int)
  | 8, v, _ => v = .slice (some ⟨b, 8 + n0 % 64, none⟩) (64 - n0 % 64) (64 - n0 % 64)
  | 9, v, _ => v = .slice a' l c
  | _, _, _ => True

theorem VW.stable {b l c n0 : Nat} {a' : Option Addr} (j : Nat) (v : Value) (w w' : World) (h : VW b l c n0 a' j v w) (_ : Below w.heap.size w w') : VW b l c n0 a' j v w' := by
  unfold VW at *
  split at h <;> exact h

def lenOf : Value → Nat | .slice _ l _ => l | _ => 0

/-- Bytes that were there lie apart from a block that was made later. -/
theorem Row.apart {w : World} {a : Option Addr} {len b : Nat} {bs : List (BitVec 8)} (h : Row w a len bs) (hb : w.heap.size ≤ b) : 0 < len → ∀ ad, a = some ad → ad.block ≠ b := by
  intro hl ad had
  obtain ⟨b', off, ha, hc⟩ := h.2.2 0 hl
  rw [had] at ha
  cases ha
  have := lt_of_cell hc
  show b' ≠ b
  omega

set_option maxRecDepth 100000 in
set_option maxHeartbeats 400000 in
theorem write_any (b : Nat) (m bs : List (BitVec 8)) (a : Option Addr) (len cap : Nat) (w : World) (hT : Tabs w) (hd : Dig w b m) (hr : Row w a len bs) (hlc : len ≤ cap) (hne : 0 < len → ∀ ad, a = some ad → ad.block ≠ b) (hm : m.length + len < 1152921504606846976) :
    Calls Tryd.prog 15 #[.pointer (some ⟨b, 0, none⟩), .slice a len cap] w fun e w' => e = .returned (.tuple #[]) ∧ Dig w' b (m ++ bs) ∧ w.grownBy w' (some b) := by
  have Hr := hide hr
  have Hd := hide hd
  have HT := hide hT
  have Hne := hide hne
  clear hr hd hT hne
  go_enter Tryd.func15, Tryd.ntmps15
  go_wp2_with fail
  go_loopw [1] (fun s wr => ∃ (a' : Option Addr) (l c : Nat) (x y : List (BitVec 8)), s = .slice a' l c ∧ l ≤ c ∧ Row wr a' l y ∧ bs = x ++ y ∧ Dig wr b (m ++ x) ∧ w.grownBy wr (some b) ∧ (0 < l → ∀ ad, a' = some ad → ad.block ≠ b)) (fun s _ => lenOf s)
  case atStart => exact ⟨a, len, cap, [], bs, rfl, hlc, unhide Hr, rfl, by rw [List.append_nil]; exact unhide Hd, World.grownBy.refl _ _, unhide Hne⟩
  case round =>
    obtain ⟨a', l, c, x, y, rfl, hlc', hrow, hxy, hdig, hg, hne'⟩ := hrel
    have Hxy := hide hxy
    have Hg := hide hg
    have Hne' := hide hne'
    have HTr := hide ((unhide HT).other hg hdig.1)
    have hbs := (unhide Hr).1
    have hyl := hrow.1
    have hml : (m ++ x).length + l < 1152921504606846976 := by
      have : bs.length = x.length + y.length := by rw [hxy, List.length_append]
      rw [List.length_append]; omega
    clear hxy hg hne' hbs
    by_cases hl : 0 < l
    · have Hne' := hide (unhide Hne' hl)
      obtain ⟨h2, st, tail, hA, hH⟩ := hdig
      obtain ⟨sb, off, rfl, _⟩ := hrow.2.2 0 hl
      obtain ⟨M, hM⟩ : ∃ M, M = m ++ x := ⟨_, rfl⟩
      rw [← hM] at hA hH hml
      have HM := hide hM
      clear hM
      have hn64 : M.length % 64 < 64 := Nat.mod_lt _ (by decide)
      have HA := hide hA
      have HH := hide hH
      have Hrow := hide hrow
      clear hA hH hrow
      go_wp2_with fail
      refine Free.wp_region_tail 10 (VW b l c M.length (some ⟨sb, off, none⟩)) (fun w' => w' = wr.drew) (by kernel_rfl) (by decide) (by kernel_rfl) (by kernel_rfl) (by kernel_rfl) VW.stable rfl ⟨?_, ?_, ?_, ?_, ?_, ?_, ?_, ?_, ?_, ?_, trivial⟩ ?_
      · exact Free.owed_move (Free.goes_plain rfl) (.inl rfl) fun a w' _ hs _ => hs 0 (by kernel_rfl)
      · exact Free.owed_pure (Free.goes_plain rfl) fun a w' hC hs hd => ⟨_, run_nil rfl (hd 0 8 (by kernel_rfl)) w', rfl⟩
      · exact Free.owed_pure (Free.goes_plain rfl) fun a w' hC hs hd => ⟨_, run_field1 rfl (hd 1 9 (by kernel_rfl)) w', rfl⟩
      · exact Free.owed_move (Free.goes_plain rfl) (.inl rfl) fun a w' _ hs _ => hs 0 (by kernel_rfl)
      · exact Free.owed_pure (Free.goes_plain rfl) fun a w' hC hs hd => ⟨_, run_nil rfl (hd 3 11 (by kernel_rfl)) w', rfl⟩
      · exact Free.owed_pure (Free.goes_plain rfl) fun a w' hC hs hd => ⟨_, run_field2 rfl (hd 4 12 (by kernel_rfl)) w', rfl⟩
      · refine Free.owed_pure (Free.goes_plain rfl) fun a w' hC hs hd => ?_
        subst hC
        exact ⟨_, run_load32 rfl (hd 5 13 (by kernel_rfl)) ((unhide HA).cell (digV_len (unhide HH) M.length)), rfl⟩
      · exact Free.owed_pure (Free.goes_plain rfl) fun a w' hC hs hd => ⟨_, run_rem64 rfl (hd 6 14 (by kernel_rfl)) rfl w', rfl⟩
      · exact Free.owed_pure (Free.goes_plain rfl) fun a w' hC hs hd => ⟨_, run_slice51 rfl (hd 2 10 (by kernel_rfl)) (hd 7 15 (by kernel_rfl)) hn64 w', rfl⟩
      · exact Free.owed_move (Free.goes_plain rfl) (.inl rfl) fun a w' _ hs _ => hs 1 (by kernel_rfl)
      · rintro w1 rfl vals hv
        have e8 : vals 8 = .slice (some ⟨b, 8 + M.length % 64, none⟩) (64 - M.length % 64) (64 - M.length % 64) := hv 8 _ 16 rfl rfl
        have e9 : vals 9 = .slice (some ⟨sb, off, none⟩) l c := hv 9 _ 17 rfl rfl
        clear hv
        simp only [Free.putAll, List.take, List.drop, Act.put, List.setIfInBounds_toArray, List.set_cons_succ, List.set_cons_zero, e8, e9]
        clear e8 e9
        obtain ⟨n, hn⟩ : ∃ n, n = Nat.min l (64 - M.length % 64) := ⟨_, rfl⟩
        have hn1 : n ≤ l := by rw [hn]; exact Nat.min_le_left _ _
        have hn2 : M.length % 64 + n ≤ 64 := by have : n ≤ 64 - M.length % 64 := by { rw [hn]; exact Nat.min_le_right _ _ }; omega
        have hn3 : 0 < n := by rw [hn]; exact Nat.lt_min.2 ⟨hl, by omega⟩
        have hxl : (y.take n).length = n := by rw [List.length_take]; omega
        have Hsrc : Hid (∀ j v, (bytesV (y.take n))[j]? = some v → wr.cell? ((⟨sb, off, none⟩ : Addr).add j) = some v) := by
          show ∀ j v, _
          intro j v hj
          have hjn : j < n := by have := (List.getElem?_eq_some_iff.1 hj).1; rw [bytesV_length] at this; omega
          rw [bytesV_get _ (by omega)] at hj
          obtain ⟨b', off', he, hc⟩ := (unhide Hrow).2.2 j (by omega)
          cases he
          rw [Addr.add_mid, hc, ← hj, List.getD_eq_getElem?_getD, List.getD_eq_getElem?_getD, List.getElem?_take_of_lt hjn]
        have HN := hide hn
        clear hn
        have Hfit : Hid (8 + M.length % 64 + (bytesV (y.take n)).length ≤ (digV st tail M.length).length) := by
          show _ ≤ _
          rw [bytesV_length, hxl, digV_length (unhide HH)]; omega
        have Hxl := hide hxl
        clear hxl
        go_wp2_with (refine wpList_copyInto _ _ rfl rfl b (8 + M.length % 64) (64 - M.length % 64) (64 - M.length % 64) ⟨sb, off, none⟩ l c n (digV st tail M.length) (bytesV (y.take n)) rfl rfl (Arr.drew (unhide HA)) (unhide HN) (by rw [bytesV_length]; exact unhide Hxl) (unhide Hsrc) (unhide Hfit) (bytesV_one _) ?_)
        intro w2 hA2 hg2 hs2
        rw [← List.append_assoc, digV_lay (unhide HH) _ _ (by rw [unhide Hxl]; omega)] at hA2
        have hg2' : wr.grownBy w2 (some b) := ⟨hg2.os, hg2.tape, hg2.output, hg2.size, hg2.block⟩
        have HR : Hid (∀ (off2 : Nat) (w' : World), (c = n ∨ off2 = off + n) → wr.grownBy w' (some b) → Row w' (some ⟨sb, off2, none⟩) (l - n) (y.drop n)) := by
          show ∀ (off2 : Nat) (w' : World), _
          intro off2 w' hoff hg'
          have hrow' := (unhide Hrow).other hg' (unhide Hne')
          rcases hoff with h | h
          · have : l - n = 0 := by omega
            rw [this, List.drop_of_length_le (by omega)]
            exact Row.nil _ _
          · subst h
            by_cases hcn : c = n
            · have : l - n = 0 := by omega
              rw [this, List.drop_of_length_le (by omega)]
              exact Row.nil _ _
            · have := Row.drop hrow' hlc' n hn1
              rw [if_neg hcn] at this
              simpa [Addr.add_mid] using this
        have Hg2 := hide ((unhide Hg).trans hg2')
        have Hgr := hide hg2'
        have hst8 : st.length = 8 := (unhide HH).stlen
        have htl : (lay tail (y.take n) (M.length % 64)).length = 64 := lay_length (unhide HH).len (by rw [unhide Hxl]; omega)
        have hc72 := hA2.cell (digV_at72 hst8 htl M.length)
        have hf72 := hA2.free 72
        have hA3 := hA2.set 72 (.int .u64 ((M.length : Int) + (n : Int)))
        rw [show ((M.length : Int) + (n : Int)) = ((M.length + n : Nat) : Int) by omega, digV_setLen' hst8 htl] at hA3
        have HA3 := hide hA3
        have Hst8 := hide hst8
        have Htl := hide htl
        have hcast : ((M.length : Int) + (n : Int)) = ((M.length + n : Nat) : Int) := by omega
        have hgc : ∀ v, w2.grownBy (w2.setCell ⟨b, 72, none⟩ v) (some b) := by
          intro v
          exact ⟨rfl, rfl, rfl, by simp [World.setCell], fun k hk hne => Below.heap_setCell _ _ _ _ (by simpa using hne)⟩
        have Hgc := hide hgc
        have hlen2 : (M ++ y.take n).length = M.length + n := by rw [List.length_append, unhide Hxl]
        have Hlen2 := hide hlen2
        have Hcast := hide hcast
        have Hbs : Hid (bs = (x ++ y.take n) ++ y.drop n) := by show _ = _; rw [unhide Hxy, List.append_assoc, List.take_append_drop]
        have Hmm : Hid (m ++ (x ++ y.take n) = M ++ y.take n) := by show _ = _; rw [← List.append_assoc, ← unhide HM]
        clear hA2 hA3 hg2 hg2' hs2 hst8 htl HA hlen2 hcast hgc
        by_cases hfull : M.length % 64 + n = 64
        · have ht : (((M.length : Int) + (n : Int)) % 64 == 0) = true := by rw [beq_iff_eq]; omega
          have HH2 := hide ((unhide HH).full (x := y.take n) (by rw [unhide Hxl]; omega))
          by_cases hcn : c = n
          all_goals
            go_wp2_with fail
            rw [unhide Hcast]
            have HA3' := HA3
            have Hg3 := hide ((unhide Hg2).trans (unhide Hgc (.int .u64 ((M.length + n : Nat) : Int))))
            have Hgr3 := hide ((unhide Hgr).trans (unhide Hgc (.int .u64 ((M.length + n : Nat) : Int))))
            generalize w2.setCell ⟨b, 72, none⟩ (.int .u64 ((M.length + n : Nat) : Int)) = w3 at *
            have HT3 := hide ((unhide HT).other (unhide Hg3) h2)
            have hb3 := (unhide HA3).lt
            generalize hT' : lay tail (y.take n) (M.length % 64) = tl at *
            have HT' := hide hT'
            clear hT' HA3' hc72 hf72 Hgc Hgr Hg2
            refine Free.wp_region_tail 12 (VX b (wordsV st) (bytesV tl) (wordsV (Sha.mix st tl))) (fun w' => Below w3.heap.size w3 w') (by kernel_rfl) (by decide) (by kernel_rfl) (by kernel_rfl) (by kernel_rfl) VX.stable (Below.drew (Below.refl _ _)) ⟨?_, ?_, ?_, ?_, ?_, ?_, ?_, ?_, ?_, ?_, ?_, ?_, trivial⟩ ?_
            · exact Free.owed_move (Free.goes_plain rfl) (.inl rfl) fun a w' _ hs _ => hs 0 (by kernel_rfl)
            · exact Free.owed_move (Free.goes_plain rfl) (.inl rfl) fun a w' _ hs _ => hs 0 (by kernel_rfl)
            · exact Free.owed_pure (Free.goes_plain rfl) fun a w' hC hs hd => ⟨_, run_nil rfl (hd 1 38 (by kernel_rfl)) w', rfl⟩
            · exact Free.owed_pure (Free.goes_plain rfl) fun a w' hC hs hd => ⟨_, run_field0 rfl (hd 2 39 (by kernel_rfl)) w', rfl⟩
            · refine Free.owed_pure (Free.goes_plain rfl) fun a w' hC hs hd => ?_
              have hA' := (unhide HA3).keep hC hb3
              exact ⟨_, run_load50 rfl (hd 3 40 (by kernel_rfl)) (Arr.mid (p := []) hA') (by rw [wordsV_length]; exact unhide Hst8), rfl⟩
            · exact Free.owed_move (Free.goes_plain rfl) (.inl rfl) fun a w' _ hs _ => hs 0 (by kernel_rfl)
            · exact Free.owed_pure (Free.goes_plain rfl) fun a w' hC hs hd => ⟨_, run_nil rfl (hd 5 42 (by kernel_rfl)) w', rfl⟩
            · exact Free.owed_pure (Free.goes_plain rfl) fun a w' hC hs hd => ⟨_, run_field1 rfl (hd 6 43 (by kernel_rfl)) w', rfl⟩
            · refine Free.owed_pure (Free.goes_plain rfl) fun a w' hC hs hd => ?_
              have hA' := (unhide HA3).keep hC hb3
              have hr := Arr.mid hA'
              rw [wordsV_length, unhide Hst8] at hr
              exact ⟨_, run_load51 rfl (hd 7 44 (by kernel_rfl)) hr (by rw [bytesV_length]; exact unhide Htl), rfl⟩
            · refine Free.owed_call (Free.goes_plain rfl) fun a w' hC hs hd => ?_
              refine ⟨21, _, run_call21 rfl rfl (hd 4 41 (by kernel_rfl)) (hd 8 45 (by kernel_rfl)) w', (mix_any st (unhide Hst8) tl (unhide Htl) w' ((unhide HT3).below hC (unhide HT3).size)).mono ?_⟩
              rintro e w4 ⟨rfl, hb4⟩
              exact ⟨_, rfl, hb4, hC.trans (hb4.mono hC.size), rfl⟩
            · exact Free.owed_pure (Free.goes_plain rfl) fun a w' hC hs hd => ⟨_, run_nil rfl (hd 0 37 (by kernel_rfl)) w', rfl⟩
            · exact Free.owed_pure (Free.goes_plain rfl) fun a w' hC hs hd => ⟨_, run_field0 rfl (hd 10 47 (by kernel_rfl)) w', rfl⟩
            · intro w4 hC vals2 hv
              have e9 : vals2 9 = .agg (wordsV (Sha.mix st tl)).toArray := hv 9 _ 46 rfl rfl
              have e11 : vals2 11 = .pointer (some ⟨b, 0, none⟩) := hv 11 _ 48 rfl rfl
              clear hv
              simp only [Free.putAll, List.take, List.drop, Act.put, List.setIfInBounds_toArray, List.set_cons_succ, List.set_cons_zero, e9, e11]
              clear e9 e11
              have hA4 := (unhide HA3).keep hC hb3
              have HA4 := hide hA4
              clear hA4
              go_wp2_with (refine wpList_storeHead 50 _ _ b (wordsV (Sha.mix st tl)) (wordsV st) (bytesV tl ++ [.int .u64 ((M.length + n : Nat) : Int)]) rfl rfl rfl rfl (unhide HA4) (by rw [wordsV_length, wordsV_length, Sha.mix_length]) (by rw [wordsV_length, Sha.mix_length, unhide Hst8]; exact info50) (wordsV_one _) ?_)
              intro w5 hA5 hg5 hs5
              have Hg5 := hide (((unhide Hg3).trans (below_grownBy hC _)).trans hg5)
              have Hgr5 := hide (((unhide Hgr3).trans (below_grownBy hC _)).trans hg5)
              have HA5 := hide hA5
              clear hA5 hg5 hs5 HA4 HA3 hC Hg3 Hgr3
              go_wp2
              refine ⟨⟨_, _, _, x ++ y.take n, y.drop n, rfl, by omega, unhide HR _ _ (by first | exact .inl hcn | exact .inr rfl) (unhide Hgr5), unhide Hbs, ⟨h2, Sha.mix st tl, tl, ?_, ?_⟩, unhide Hg5, ?_⟩, ?_⟩
              · rw [unhide Hmm, unhide Hlen2]; exact unhide HA5
              · rw [unhide Hmm]; exact unhide HH2
              · intro _ ad h; cases h; exact unhide Hne' ⟨sb, off, none⟩ rfl
              · simp [lenOf]; omega
        · have ht : (((M.length : Int) + (n : Int)) % 64 == 0) = false := by rw [beq_eq_false_iff_ne]; omega
          have HH2 := hide ((unhide HH).part (x := y.take n) (by rw [unhide Hxl]; omega))
          by_cases hcn : c = n
          all_goals
            go_wp2
            rw [unhide Hcast]
            refine ⟨⟨_, _, _, x ++ y.take n, y.drop n, rfl, by omega, unhide HR _ _ (by first | exact .inl hcn | exact .inr rfl) ((unhide Hgr).trans (unhide Hgc _)), unhide Hbs, ⟨h2, st, lay tail (y.take n) (M.length % 64), ?_, ?_⟩, (unhide Hg2).trans (unhide Hgc _), ?_⟩, ?_⟩
            · rw [unhide Hmm, unhide Hlen2]; exact unhide HA3
            · rw [unhide Hmm]; exact unhide HH2
            · intro _ ad h; cases h; exact unhide Hne' ⟨sb, off, none⟩ rfl
            · simp [lenOf]; omega
    · obtain rfl : l = 0 := by omega
      obtain rfl : y = [] := List.eq_nil_of_length_eq_zero hyl
      have Hdig := hide hdig
      clear hdig hrow
      go_wp2
      refine ⟨rfl, .tuple #[], by simp [results, Tryd.results15], rfl, ?_, unhide Hg⟩
      rw [unhide Hxy, List.append_nil]
      exact unhide Hdig

end Go.Proofs.YtnfgakbfnmmhcaaDoor
