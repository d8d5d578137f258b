/-
  What digest.Text answers: two digits of each byte.
-/
import Derived.Test.YtnfgakbfnmmhcaaDoorSum
namespace Go.Proofs.YtnfgakbfnmmhcaaDoor
open Go.RowKit

/-- Bytes as a string. -/
def str (l : List (BitVec 8)) : ByteArray := ⟨(l.map UInt8.ofBitVec).toArray⟩

theorem str_push (s l : List (BitVec 8)) : (l.map fun c => ((c.toNat : Nat) : Int)).foldl (fun r n => r.push (UInt8.ofNat n.toNat)) (str s) = str (s ++ l) := by
  induction l generalizing s with
  | nil => simp
  | cons c l ih =>
    have e : (str s).push (UInt8.ofNat (((c.toNat : Nat) : Int)).toNat) = str (s ++ [c]) := by
      unfold str
      have : UInt8.ofNat (((c.toNat : Nat) : Int)).toNat = UInt8.ofBitVec c := by
        rw [Int.toNat_natCast]
        apply UInt8.eq_of_toBitVec_eq
        simp [UInt8.ofNat]
      rw [this]
      simp [ByteArray.push]
    simp only [List.map_cons, List.foldl_cons, e]
    rw [ih]
    simp

theorem run_toString {w : World} {b n cap : Nat} {bs : List (BitVec 8)} (h : Row w (some ⟨b, 0, none⟩) n bs) : (convert 22 9 (.slice (some ⟨b, 0, none⟩) n cap)).run Tryd.prog w = .ok (.string (str bs)) w := by
  rw [run_convert_bytes_string w 22 9 5 _ _ _ Tryd.underlying22 Tryd.underlying5 Tryd.underlying9]
  have hl : (loadCells ⟨b, 0, none⟩ n).run Tryd.prog w = .ok ((bs.map fun c => ((c.toNat : Nat) : Int)).map (Value.int .u8)).toArray w := by
    have e : (bs.map fun c => ((c.toNat : Nat) : Int)).map (Value.int .u8) = bytesV bs := by simp [bytesV]
    rw [e]
    have hn : n = (bytesV bs).length := by rw [bytesV_length, h.1]
    rw [hn]
    refine run_loadCells_list (P := Tryd.prog) w ⟨b, 0, none⟩ (bytesV bs) (fun j v hj => ?_)
    have hjl : j < n := by rw [hn]; exact (List.getElem?_eq_some_iff.1 hj).1
    rw [bytesV_get bs (by rw [h.1]; exact hjl)] at hj
    obtain ⟨b', off', he, hc⟩ := h.2.2 j hjl
    cases he
    rw [Addr.add_mid, hc, ← hj]
  rw [run_bytesToString w _ _ _ _ hl]
  have := str_push [] bs
  rw [List.nil_append] at this
  rw [← this]
  rfl

theorem run_shr4 {ρ : Operand → Value} {o : Oper} {t : Nat} {c : BitVec 8} (ho : o.op = .binOp .shr 5 (.tmp t) (.const (.int .u64 4)) 42) (h : ρ (.tmp t) = .int .u8 ((c.toNat : Nat) : Int)) (h' : ρ (.const (.int .u64 4)) = .int .u64 4) (w : World) :
    (execOp ρ o).run Tryd.prog w = .ok (.value (.int .u8 ((c.toNat / 16 : Nat) : Int))) w := by
  unfold execOp
  rw [ho]
  go_simp
theorem and15 (c : BitVec 8) : bits .and .u8 ((c.toNat : Nat) : Int) 15 = ((c.toNat % 16 : Nat) : Int) := by
  have : ∀ i : Fin 256, bits .and .u8 (i.val : Int) 15 = ((i.val % 16 : Nat) : Int) := by decide +kernel
  exact this ⟨c.toNat, c.isLt⟩
theorem run_and15 {ρ : Operand → Value} {o : Oper} {t : Nat} {c : BitVec 8} (ho : o.op = .binOp .and 5 (.tmp t) (.const (.int .u8 15)) 5) (h : ρ (.tmp t) = .int .u8 ((c.toNat : Nat) : Int)) (h' : ρ (.const (.int .u8 15)) = .int .u8 15) (w : World) :
    (execOp ρ o).run Tryd.prog w = .ok (.value (.int .u8 ((c.toNat % 16 : Nat) : Int))) w := by
  have := and15 c
  unfold execOp
  rw [ho]
  go_simp

def digitsS : ByteArray := ⟨#[48, 49, 50, 51, 52, 53, 54, 55, 56, 57, 97, 98, 99, 100, 101, 102]⟩
theorem run_digits {ρ : Operand → Value} {o : Oper} {t k : Nat} (ho : o.op = .index 9 (.const (.string digitsS)) (.tmp t)) (h : ρ (.tmp t) = .int .u8 (k : Int)) (h' : ρ (.const (.string digitsS)) = .string digitsS) (hk : k < 16) (w : World) :
    (execOp ρ o).run Tryd.prog w = .ok (.value (.int .u8 (((Sha.hex k).toNat : Nat) : Int))) w := by
  have hr : (Instr.index 9 (.string digitsS) (.int .u8 (k : Int))).run Tryd.prog w = .ok (.int .u8 (((Sha.hex k).toNat : Nat) : Int)) w := by
    have key : ∀ i : Fin 16, (digitsS[i.val]'(by have := i.isLt; exact this)).toNat = (Sha.hex i.val).toNat := by decide +kernel
    have hs : digitsS.size = 16 := rfl
    rw [run_index_string w 9 digitsS .u8 k Tryd.underlying9, dif_pos ⟨by omega, by rw [hs]; omega⟩]
    have := key ⟨k, hk⟩
    simp only [Int.toNat_natCast]
    exact congrArg (fun n : Nat => Result.ok (Value.int .u8 (n : Int)) w) this
  unfold execOp
  simp only [ho, h, h', Sem.run_bind, hr, Result.andThen, Sem.run_pure]
theorem run_build2 {ρ : Operand → Value} {o : Oper} {t u : Nat} {x y : Int} (ho : o.op = .buildSlice 22 2 #[(0, .tmp t), (1, .tmp u)]) (h : ρ (.tmp t) = .int .u8 x) (h' : ρ (.tmp u) = .int .u8 y) (w : World) :
    (execOp ρ o).run Tryd.prog w = .ok (.value (.slice (some ⟨w.heap.size, 0, none⟩) 2 2)) (w.alloc (.cells #[.int .u8 x, .int .u8 y] 5)) := by
  unfold execOp
  rw [ho]
  go_simp

/-- What the operations of the region yield. -/
def VT (g k : Nat) (c : BitVec 8) : Nat → Value → World → Prop
  | 0, v, _ => v = .slice (some ⟨g, 0, none⟩) (2 * k) 64
  | 1, v, _ => v = .int .u8 ((c.toNat : Nat) : Int)
  | 2, v, _ => v = .int .u8 ((c.toNat / 16 : Nat) : Int)
  | 3, v, _ => v = .int .u8 (((Sha.hex (c.toNat / 16)).toNat : Nat) : Int)
  | 4, v, _ => v = .int .u8 ((c.toNat : Nat) : Int)
  | 5, v, _ => v = .int .u8 ((c.toNat % 16 : Nat) : Int)
  | 6, v, _ => v = .int .u8 (((Sha.hex (c.toNat % 16)).toNat : Nat) : Int)
  | 7, v, w => ∃ b, v = .slice (some ⟨b, 0, none⟩) 2 2 ∧ w.cell? ⟨b, 0, none⟩ = some (.int .u8 (((Sha.hex (c.toNat / 16)).toNat : Nat) : Int)) ∧ w.cell? ⟨b, 1, none⟩ = some (.int .u8 (((Sha.hex (c.toNat % 16)).toNat : Nat) : Int))
  | _, _, _ => True

theorem VT.stable {g k : Nat} {c : BitVec 8} (j : Nat) (v : Value) (w w' : World) (h : VT g k c j v w) (hb : Below w.heap.size w w') : VT g k c j v w' := by
  unfold VT at *
  split at h
  all_goals first | exact h | skip
  all_goals obtain ⟨b, hv, hc0, hc1⟩ := h
  all_goals exact ⟨b, hv, kept_cell hc0 hb, kept_cell hc1 hb⟩

theorem text_length (h : List (BitVec 8)) : (Sha.text h).length = 2 * h.length := by
  induction h with
  | nil => rfl
  | cons c h ih => rw [Sha.text, List.flatMap_cons, List.length_append, List.length_cons]; unfold Sha.text at ih; rw [ih]; simp; omega
theorem text_snoc (h : List (BitVec 8)) (c : BitVec 8) : Sha.text (h ++ [c]) = Sha.text h ++ [Sha.hex (c.toNat / 16), Sha.hex (c.toNat % 16)] := by
  simp [Sha.text]

set_option maxRecDepth 100000 in
set_option maxHeartbeats 400000 in
theorem text_any (h : List (BitVec 8)) (hh : h.length = 32) (w : World) :
    Calls Tryd.prog 11 #[.agg (bytesV h).toArray] w fun e w' => e = .returned (.string (str (Sha.text h))) ∧ Below w.heap.size w w' := by
  have Hh := hide hh
  have HL : Hid ((bytesV h).length = 32) := by show _ = _; rw [bytesV_length, hh]
  clear hh
  obtain ⟨cs, hcs⟩ : ∃ cs, cs = bytesV h := ⟨_, rfl⟩
  rw [← hcs]
  rw [← hcs] at HL
  have Hcs := hide hcs
  clear hcs
  go_enter Tryd.func11, Tryd.ntmps11
  go_wp2_with (refine wpList_box 25 _ cs rfl rfl rfl ?_)
  intro w1 hA1 hb1 hs1
  have HA1 := hide hA1
  have Hb1 := hide hb1
  clear hA1 hb1
  go_wp2_with (refine wpList_make _ _ _ _ 0 64 rfl rfl rfl rfl (by decide) (by decide) ?_)
  intro w2 hA2 hb2 hs2
  have HB2 := hide ((unhide HA1).keep hb2 (by omega))
  have Hb2 := hide ((unhide Hb1).trans (hb2.mono (by omega)))
  have HA2 := hide hA2
  clear hA2 hb2 HA1 Hb1 hs1
  go_wp2_with (refine wpList_loadAll 25 _ w.heap.size cs _ rfl rfl rfl (unhide HB2) Tryd.underlying25 rfl (by rw [unhide HL]; exact info25) ?_)
  go_loopw [3, 8] (fun s i wr => ∃ k : Nat, k ≤ 32 ∧ i = .int .i64 k ∧ s = .slice (some ⟨w.heap.size + 1, 0, none⟩) (2 * k) 64 ∧ ArrT wr (w.heap.size + 1) 5 (bytesV (Sha.text (h.take k) ++ List.replicate (64 - 2 * k) 0#8)) ∧ Below w.heap.size w wr) (fun _ i _ => 32 - (intOf i).toNat)
  case atStart => exact ⟨0, by omega, rfl, rfl, unhide HA2, unhide Hb2⟩
  case round =>
    obtain ⟨k, hk, rfl, rfl, hA, hb⟩ := hrel
    have HA := hide hA
    have Hb := hide hb
    clear hA hb HA2 Hb2 HB2
    by_cases hlt : k < 32
    · have hi := run_index Tryd.underlying25 ag5 sz5 cs k _ (by rw [unhide HL]) (by rw [unhide Hcs]; exact bytesV_get h (by have := unhide Hh; omega))
      have hts := take_snoc h k (by have := unhide Hh; omega)
      have Hts := hide hts
      clear hts
      generalize h.getD k 0 = c at *
      go_wp2_with fail
      have hh16 : c.toNat / 16 < 16 := by have := c.isLt; omega
      have hl16 : c.toNat % 16 < 16 := by omega
      refine Free.wp_region_tail 8 (VT (w.heap.size + 1) k c) (fun w' => Below wr.heap.size wr w') (by kernel_rfl) (by decide) (by kernel_rfl) (by kernel_rfl) (by kernel_rfl) VT.stable (Below.drew (Below.refl _ _)) ⟨?_, ?_, ?_, ?_, ?_, ?_, ?_, ?_, trivial⟩ ?_
      · exact Free.owed_move (Free.goes_plain rfl) (.inl rfl) fun a w' _ hs _ => hs 3 (by kernel_rfl)
      · exact Free.owed_move (Free.goes_plain rfl) (.inl rfl) fun a w' _ hs _ => hs 5 (by kernel_rfl)
      · exact Free.owed_pure (Free.goes_plain rfl) fun a w' hC hs hd => ⟨_, run_shr4 rfl (hd 1 12 (by kernel_rfl)) rfl w', rfl⟩
      · exact Free.owed_pure (Free.goes_plain rfl) fun a w' hC hs hd => ⟨_, run_digits rfl (hd 2 13 (by kernel_rfl)) rfl hh16 w', rfl⟩
      · exact Free.owed_move (Free.goes_plain rfl) (.inl rfl) fun a w' _ hs _ => hs 5 (by kernel_rfl)
      · exact Free.owed_pure (Free.goes_plain rfl) fun a w' hC hs hd => ⟨_, run_and15 rfl (hd 4 15 (by kernel_rfl)) rfl w', rfl⟩
      · exact Free.owed_pure (Free.goes_plain rfl) fun a w' hC hs hd => ⟨_, run_digits rfl (hd 5 16 (by kernel_rfl)) rfl hl16 w', rfl⟩
      · refine Free.owed_value (Free.goes_plain rfl) fun a w' hC hs hd => ?_
        exact ⟨_, _, run_build2 rfl (hd 3 14 (by kernel_rfl)) (hd 6 17 (by kernel_rfl)) w', (Below.refl _ _).alloc (Nat.le_refl _) _, hC.alloc hC.size _, w'.heap.size, rfl, cell_new w' _ _ _ 0, cell_new w' _ _ _ 1⟩
      · intro w3 hC vals hv
        have e0 : vals 0 = .slice (some ⟨w.heap.size + 1, 0, none⟩) (2 * k) 64 := hv 0 _ 11 rfl rfl
        obtain ⟨b, e7, hc0, hc1⟩ : ∃ b, vals 7 = .slice (some ⟨b, 0, none⟩) 2 2 ∧ w3.cell? ⟨b, 0, none⟩ = some (.int .u8 (((Sha.hex (c.toNat / 16)).toNat : Nat) : Int)) ∧ w3.cell? ⟨b, 1, none⟩ = some (.int .u8 (((Sha.hex (c.toNat % 16)).toNat : Nat) : Int)) := hv 7 _ 18 rfl rfl
        clear hv
        simp only [Free.putAll, List.take, List.drop, Act.put, List.setIfInBounds_toArray, List.set_cons_succ, List.set_cons_zero, e0, e7]
        clear e0 e7
        have HA3 := hide ((unhide HA).below hC (unhide HA).arr.lt)
        have Hb3 := hide ((unhide Hb).trans (hC.mono (unhide Hb).size))
        have Hnews : Hid (∀ j u, (bytesV [Sha.hex (c.toNat / 16), Sha.hex (c.toNat % 16)])[j]? = some u → w3.cell? ((⟨b, 0, none⟩ : Addr).add j) = some u) := by
          show ∀ j u, _
          intro j u hj
          rw [Addr.add_mid, Nat.zero_add]
          match j, hj with
          | 0, hj => rw [hc0, ← hj]; rfl
          | 1, hj => rw [hc1, ← hj]; rfl
          | j + 2, hj => simp [bytesV] at hj
        clear hc0 hc1 hC HA Hb
        have Hfit : Hid (2 * k + 2 ≤ (bytesV (Sha.text (h.take k) ++ List.replicate (64 - 2 * k) 0#8)).length) := by
          show _ ≤ _
          rw [bytesV_length, List.length_append, text_length, List.length_replicate, List.length_take]; have := unhide Hh; omega
        go_wp2_with (refine wpList_appendRoom _ _ rfl rfl (w.heap.size + 1) (2 * k) 64 (bytesV (Sha.text (h.take k) ++ List.replicate (64 - 2 * k) 0#8)) ⟨b, 0, none⟩ 2 2 (bytesV [Sha.hex (c.toNat / 16), Sha.hex (c.toNat % 16)]) rfl rfl (unhide HA3) rfl (unhide Hnews) (bytesV_one _) (by omega) (unhide Hfit) ?_)
        intro w4 hA4 hg4 hs4
        have Hb4 := hide ((unhide Hb3).grown hg4 (unhide Hb3).size (fun k hk => by simp at hk; omega))
        have HA4 := hide hA4
        clear hA4 hg4 hs4 HA3 Hb3
        go_wp2
        go_roundw
        case rel =>
          refine ⟨k + 1, by omega, by go_num, by rw [show 2 * (k + 1) = 2 * k + 2 by omega], ?_, unhide Hb4⟩
          have hA4 := unhide HA4
          rw [← List.append_assoc] at hA4
          rw [unhide Hts, text_snoc]
          have hl : (Sha.text (h.take k)).length = 2 * k := by rw [text_length, List.length_take]; have := unhide Hh; omega
          have e : (bytesV (Sha.text (h.take k) ++ List.replicate (64 - 2 * k) 0#8)).take (2 * k) ++ bytesV [Sha.hex (c.toNat / 16), Sha.hex (c.toNat % 16)] ++ (bytesV (Sha.text (h.take k) ++ List.replicate (64 - 2 * k) 0#8)).drop (2 * k + 2) = bytesV (Sha.text (h.take k) ++ [Sha.hex (c.toNat / 16), Sha.hex (c.toNat % 16)] ++ List.replicate (64 - 2 * (k + 1)) 0#8) := by
            unfold bytesV
            rw [← List.map_take, ← List.map_drop, ← List.map_append, ← List.map_append]
            congr 2
            · rw [List.take_append_of_le_length (by omega), List.take_of_length_le (by omega)]
            · rw [List.drop_append, List.drop_of_length_le (by omega), List.nil_append, List.drop_replicate, hl]
              congr 1
              omega
          rw [← e]
          exact hA4
        case measure => simp [intOf]; omega
    · obtain rfl : k = 32 := by omega
      have hA := (unhide HA).arr
      rw [List.take_of_length_le (by have := unhide Hh; omega)] at hA
      have hrow := Arr.row (rest := []) (by simpa using hA) (by rw [text_length, unhide Hh]; decide)
      rw [text_length, unhide Hh] at hrow
      have hcv := run_toString (cap := 64) hrow
      clear hA hrow
      go_wp2
      go_ret
      exact ⟨rfl, unhide Hb⟩

end Go.Proofs.YtnfgakbfnmmhcaaDoor
