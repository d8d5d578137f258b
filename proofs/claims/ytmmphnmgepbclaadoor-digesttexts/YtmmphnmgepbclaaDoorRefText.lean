/-
  What the document's own Text answers: the same two digits of each byte.
-/
import Derived.Test.YtmmphnmgepbclaaDoorParse
namespace Go.Proofs.YtmmphnmgepbclaaDoor
open Go.RowKit

theorem run_digitS {ρ : Operand → Value} {o : Oper} {t u k : Nat} (ho : o.op = .slice 9 (.const (.string digitsS)) (some (.tmp t)) (some (.tmp u)) none) (h : ρ (.tmp t) = .int .u8 (k : Int)) (h' : ρ (.tmp u) = .int .u8 ((k + 1 : Nat) : Int)) (hc : ρ (.const (.string digitsS)) = .string digitsS) (hk : k < 16) (w : World) :
    (execOp ρ o).run Tryd.prog w = .ok (.value (.string (str [Sha.hex k]))) w := by
  have : k = 0 ∨ k = 1 ∨ k = 2 ∨ k = 3 ∨ k = 4 ∨ k = 5 ∨ k = 6 ∨ k = 7 ∨ k = 8 ∨ k = 9 ∨ k = 10 ∨ k = 11 ∨ k = 12 ∨ k = 13 ∨ k = 14 ∨ k = 15 := by omega
  have key : ∀ w : World, (Instr.sliceAt 9 (.string digitsS) (some (.int .u8 (k : Int))) (some (.int .u8 ((k + 1 : Nat) : Int))) none).run Tryd.prog w = .ok (.string (str [Sha.hex k])) w := by
    rcases this with rfl | rfl | rfl | rfl | rfl | rfl | rfl | rfl | rfl | rfl | rfl | rfl | rfl | rfl | rfl | rfl <;> intro w <;> kernel_rfl
  unfold execOp
  simp only [ho, hc, h, h', Option.map_some, Option.map_none, Sem.run_bind, key, Result.andThen, Sem.run_pure]

theorem run_quo16 {ρ : Operand → Value} {o : Oper} {t n : Nat} (ho : o.op = .binOp .quo 5 (.tmp t) (.const (.int .u8 16)) 5) (h : ρ (.tmp t) = .int .u8 (n : Int)) (h' : ρ (.const (.int .u8 16)) = .int .u8 16) (hn : n < 256) (w : World) :
    (execOp ρ o).run Tryd.prog w = .ok (.value (.int .u8 ((n / 16 : Nat) : Int))) w := by
  have hn' : (n : Int) < 256 := by omega
  unfold execOp
  rw [ho]
  go_simp
  rw [IntKind.wrap_u8']
  omega
theorem run_rem16 {ρ : Operand → Value} {o : Oper} {t n : Nat} (ho : o.op = .binOp .rem 5 (.tmp t) (.const (.int .u8 16)) 5) (h : ρ (.tmp t) = .int .u8 (n : Int)) (h' : ρ (.const (.int .u8 16)) = .int .u8 16) (hn : n < 256) (w : World) :
    (execOp ρ o).run Tryd.prog w = .ok (.value (.int .u8 ((n % 16 : Nat) : Int))) w := by
  have hn' : (n : Int) < 256 := by omega
  unfold execOp
  rw [ho]
  go_simp
  exact Int.tmod_eq_emod_of_nonneg (by omega)
theorem run_inc {ρ : Operand → Value} {o : Oper} {t n : Nat} (ho : o.op = .binOp .add 5 (.tmp t) (.const (.int .u8 1)) 5) (h : ρ (.tmp t) = .int .u8 (n : Int)) (h' : ρ (.const (.int .u8 1)) = .int .u8 1) (hn : n < 16) (w : World) :
    (execOp ρ o).run Tryd.prog w = .ok (.value (.int .u8 ((n + 1 : Nat) : Int))) w := by
  have hn' : (n : Int) < 16 := by omega
  unfold execOp
  rw [ho]
  go_simp
  rw [IntKind.wrap_u8']
  omega
theorem str_append (a b : List (BitVec 8)) : str a ++ str b = str (a ++ b) := by
  unfold str
  rw [ByteArray.mk_append_mk, List.map_append]
theorem run_cat {ρ : Operand → Value} {o : Oper} {t u : Nat} {a b : List (BitVec 8)} (ho : o.op = .binOp .add 9 (.tmp t) (.tmp u) 9) (h : ρ (.tmp t) = .string (str a)) (h' : ρ (.tmp u) = .string (str b)) (ha : a.length ≤ 1000) (hb : b.length ≤ 1000) (w : World) :
    (execOp ρ o).run Tryd.prog w = .ok (.value (.string (str (a ++ b)))) w := by
  have hr := run_string_add_sum (P := Tryd.prog) w (str a) (str b) (by rw [str_size, str_size]; omega)
  rw [str_append] at hr
  unfold execOp
  rw [ho]
  go_simp

/-- What the operations of the region yield. -/
def VR (acc : List (BitVec 8)) (c : BitVec 8) : Nat → Value → World → Prop
  | 0, v, _ => v = .string (str acc)
  | 1, v, _ => v = .int .u8 ((c.toNat : Nat) : Int)
  | 2, v, _ => v = .int .u8 ((c.toNat / 16 : Nat) : Int)
  | 3, v, _ => v = .int .u8 ((c.toNat : Nat) : Int)
  | 4, v, _ => v = .int .u8 ((c.toNat / 16 : Nat) : Int)
  | 5, v, _ => v = .int .u8 ((c.toNat / 16 + 1 : Nat) : Int)
  | 6, v, _ => v = .string (str [Sha.hex (c.toNat / 16)])
  | 7, v, _ => v = .int .u8 ((c.toNat : Nat) : Int)
  | 8, v, _ => v = .int .u8 ((c.toNat % 16 : Nat) : Int)
  | 9, v, _ => v = .int .u8 ((c.toNat : Nat) : Int)
  | 10, v, _ => v = .int .u8 ((c.toNat % 16 : Nat) : Int)
  | 11, v, _ => v = .int .u8 ((c.toNat % 16 + 1 : Nat) : Int)
  | 12, v, _ => v = .string (str [Sha.hex (c.toNat % 16)])
  | 13, v, _ => v = .string (str ([Sha.hex (c.toNat / 16)] ++ [Sha.hex (c.toNat % 16)]))
  | 14, v, _ => v = .string (str (acc ++ ([Sha.hex (c.toNat / 16)] ++ [Sha.hex (c.toNat % 16)])))
  | _, _, _ => True

theorem VR.stable {acc : List (BitVec 8)} {c : BitVec 8} (j : Nat) (v : Value) (w w' : World) (h : VR acc c j v w) (_ : Below w.heap.size w w') : VR acc c j v w' := by
  unfold VR at *
  split at h <;> exact h

set_option maxRecDepth 100000 in
set_option maxHeartbeats 400000 in
theorem reftext_any (h : List (BitVec 8)) (hh : h.length = 32) (w : World) :
    Calls Tryd.prog 16 #[.agg (bytesV h).toArray] w fun e w' => e = .returned (.string (str (Sha.text h))) ∧ Below w.heap.size w w' := by
  have Hh := hide hh
  have HL : Hid ((bytesV h).length = 32) := by show _ = _; rw [bytesV_length, hh]
  clear hh
  obtain ⟨cs, hcs⟩ : ∃ cs, cs = bytesV h := ⟨_, rfl⟩
  rw [← hcs]
  rw [← hcs] at HL
  have Hcs := hide hcs
  clear hcs
  go_enter Tryd.func16, Tryd.ntmps16
  go_wp2_with (refine wpList_box 26 _ cs rfl rfl rfl ?_)
  intro w1 hA1 hb1 hs1
  have HA1 := hide hA1
  have Hb1 := hide hb1
  clear hA1 hb1 hs1
  go_wp2_with (refine wpList_loadAll 26 _ w.heap.size cs _ rfl rfl rfl (unhide HA1) Tryd.underlying26 rfl (by rw [unhide HL]; exact info26) ?_)
  go_loopw [3, 7] (fun s i wr => ∃ k : Nat, k ≤ 32 ∧ i = .int .i64 k ∧ s = .string (str (Sha.text (h.take k))) ∧ Below w.heap.size w wr) (fun _ i _ => 32 - (intOf i).toNat)
  case atStart => exact ⟨0, by omega, rfl, rfl, unhide Hb1⟩
  case round =>
    obtain ⟨k, hk, rfl, rfl, hb⟩ := hrel
    have Hb := hide hb
    clear hb HA1 Hb1
    by_cases hlt : k < 32
    · have hi := run_index Tryd.underlying26 ag5 sz5 cs k _ (by rw [unhide HL]) (by rw [unhide Hcs]; exact bytesV_get h (by have := unhide Hh; omega))
      have Hts := hide (take_snoc h k (by have := unhide Hh; omega))
      have Hal : Hid ((Sha.text (h.take k)).length ≤ 1000) := by show _ ≤ _; rw [Sha.text_length, List.length_take]; omega
      have Htx : Hid (Sha.text (h.take (k + 1)) = Sha.text (h.take k) ++ ([Sha.hex ((h.getD k 0).toNat / 16)] ++ [Sha.hex ((h.getD k 0).toNat % 16)])) := by
        show _ = _
        rw [unhide Hts, Sha.text_snoc]; rfl
      clear Hts
      generalize h.getD k 0 = c at *
      generalize Sha.text (h.take k) = acc at *
      have hc := c.isLt
      have hh16 : c.toNat / 16 < 16 := by omega
      have hl16 : c.toNat % 16 < 16 := by omega
      go_wp2_with fail
      refine Free.wp_region_tail 15 (VR acc c) (fun w' => w' = wr.drew) (by kernel_rfl) (by decide) (by kernel_rfl) (by kernel_rfl) (by kernel_rfl) VR.stable rfl ⟨?_, ?_, ?_, ?_, ?_, ?_, ?_, ?_, ?_, ?_, ?_, ?_, ?_, ?_, ?_, trivial⟩ ?_
      · exact Free.owed_move (Free.goes_plain rfl) (.inl rfl) fun a w' _ hs _ => hs 3 (by kernel_rfl)
      · exact Free.owed_move (Free.goes_plain rfl) (.inl rfl) fun a w' _ hs _ => hs 5 (by kernel_rfl)
      · exact Free.owed_pure (Free.goes_plain rfl) fun a w' hC hs hd => ⟨_, run_quo16 rfl (hd 1 11 (by kernel_rfl)) rfl hc w', rfl⟩
      · exact Free.owed_move (Free.goes_plain rfl) (.inl rfl) fun a w' _ hs _ => hs 5 (by kernel_rfl)
      · exact Free.owed_pure (Free.goes_plain rfl) fun a w' hC hs hd => ⟨_, run_quo16 rfl (hd 3 13 (by kernel_rfl)) rfl hc w', rfl⟩
      · exact Free.owed_pure (Free.goes_plain rfl) fun a w' hC hs hd => ⟨_, run_inc rfl (hd 4 14 (by kernel_rfl)) rfl hh16 w', rfl⟩
      · exact Free.owed_pure (Free.goes_plain rfl) fun a w' hC hs hd => ⟨_, run_digitS rfl (hd 2 12 (by kernel_rfl)) (hd 5 15 (by kernel_rfl)) rfl hh16 w', rfl⟩
      · exact Free.owed_move (Free.goes_plain rfl) (.inl rfl) fun a w' _ hs _ => hs 5 (by kernel_rfl)
      · exact Free.owed_pure (Free.goes_plain rfl) fun a w' hC hs hd => ⟨_, run_rem16 rfl (hd 7 17 (by kernel_rfl)) rfl hc w', rfl⟩
      · exact Free.owed_move (Free.goes_plain rfl) (.inl rfl) fun a w' _ hs _ => hs 5 (by kernel_rfl)
      · exact Free.owed_pure (Free.goes_plain rfl) fun a w' hC hs hd => ⟨_, run_rem16 rfl (hd 9 19 (by kernel_rfl)) rfl hc w', rfl⟩
      · exact Free.owed_pure (Free.goes_plain rfl) fun a w' hC hs hd => ⟨_, run_inc rfl (hd 10 20 (by kernel_rfl)) rfl hl16 w', rfl⟩
      · exact Free.owed_pure (Free.goes_plain rfl) fun a w' hC hs hd => ⟨_, run_digitS rfl (hd 8 18 (by kernel_rfl)) (hd 11 21 (by kernel_rfl)) rfl hl16 w', rfl⟩
      · exact Free.owed_pure (Free.goes_plain rfl) fun a w' hC hs hd => ⟨_, run_cat rfl (hd 6 16 (by kernel_rfl)) (hd 12 22 (by kernel_rfl)) (by simp) (by simp) w', rfl⟩
      · exact Free.owed_pure (Free.goes_plain rfl) fun a w' hC hs hd => ⟨_, run_cat rfl (hd 0 10 (by kernel_rfl)) (hd 13 23 (by kernel_rfl)) (unhide Hal) (by simp) w', rfl⟩
      · rintro w3 rfl vals hv
        have e14 : vals 14 = .string (str (acc ++ ([Sha.hex (c.toNat / 16)] ++ [Sha.hex (c.toNat % 16)]))) := hv 14 _ 24 rfl rfl
        clear hv
        rw [← unhide Htx] at e14
        simp only [Free.putAll, List.take, List.drop, Act.put, List.setIfInBounds_toArray, List.set_cons_succ, List.set_cons_zero, e14]
        clear e14
        generalize hx : Sha.text (h.take (k + 1)) = nx
        have Hx := hide hx
        clear hx
        go_wp2
        go_roundw
        case rel => exact ⟨k + 1, by omega, by go_num, by rw [unhide Hx], (unhide Hb).drew⟩
        case measure => simp [intOf]; omega
    · have hts : h.take k = h := List.take_of_length_le (by have := unhide Hh; omega)
      rw [hts]
      clear hts
      generalize htx : Sha.text h = tx
      have Htx := hide htx
      clear htx
      go_wp2
      go_ret
      exact ⟨by rw [unhide Htx]; rfl, unhide Hb⟩

end Go.Proofs.YtmmphnmgepbclaaDoor
