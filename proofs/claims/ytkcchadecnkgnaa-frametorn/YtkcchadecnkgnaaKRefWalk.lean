/-
  What the document's own Sum (bits one by one) answers: the plain function of YtkcchadecnkgnaaMath.
-/
import Derived.Test.YtkcchadecnkgnaaKRefMath
import Derived.Test.YtkcchadecnkgnaaArr
namespace Go.Proofs.Ytkcchadecnkgnaa.Ref
open Go.RowKit

theorem built0 : Try.prog.built 67 [] = some (ints fun _ => 0).toArray := by kernel_rfl
theorem alloc67 (w : World) : (Instr.alloc 67 true (.tuple #[])).run Try.prog w = .ok (.pointer (some ⟨w.heap.size, 0, none⟩)) (w.alloc (.cells (ints fun _ => 0).toArray 67)) := by kernel_rfl
theorem info67 : (Try.prog.info? 67).map (·.size) = some 32 := by kernel_rfl

def polyParts : List (Nat × Value) := (List.range 32).map fun j => (j, Value.int .i64 (bitf Crc.poly j))
theorem builtP : Try.prog.built 67 polyParts = some (ints (bitf Crc.poly)).toArray := by kernel_rfl

theorem index32 (f : Nat → Int) (k : Nat) (h : k < 32) (w : World) : (Instr.index 67 (.agg (ints f).toArray) (.int .i64 (k : Int))).run Try.prog w = .ok (.int .i64 (f k)) w := by
  have h0 : (0 : Int) ≤ (k : Int) := Int.natCast_nonneg _
  have hag : ∀ w : World, (isAgg 3).run Try.prog w = .ok false w := fun w => by kernel_rfl
  have hsz : ∀ w : World, (Go.sizeOf 3).run Try.prog w = .ok 1 w := fun w => by kernel_rfl
  have hg' : (ints f)[k]? = some (.int .i64 (f k)) := ints_get f h
  simp [Instr.index, run_underlying Try.underlying67, part, hag, hsz, h0, hg', asIntOf, h]

set_option maxHeartbeats 3200000 in
theorem ref_any (a : Option Addr) (len cap : Nat) (bs : List (BitVec 8)) (w : World) (hr : CRow w a len bs) :
    Calls Try.prog 29 #[.slice a len cap] w fun e w' => e = .returned (.int .u32 (N32 (Crc.more 0#32 bs))) ∧ Below w.heap.size w w' := by
  have Hr := hide hr
  clear hr
  go_enter Try.func29, Try.ntmps29
  go_wp2_with (refine wpList_newArray 67 #[] (ints fun _ => 0) (ints fun _ => 0) 67 17 3 rfl rfl rfl rfl rfl rfl rfl rfl (by decide) (by simp) (by simp) [] rfl built0 alloc67 (by rw [ints_length]; exact info67) (ints_one _) rfl ?_)
  intro w1 hA1 hb1 hs1
  have HA1 := hide hA1
  have Hb1 := hide hb1
  clear hA1 hb1 
  go_wp2_with fail
  go_loopw [18] (fun i wr => ∃ k : Nat, k ≤ 32 ∧ i = .int .i64 k ∧ Arr wr w.heap.size (ints fun j => if j < k then 1 else 0) ∧ Below w.heap.size w wr ∧ wr.heap.size = w.heap.size + 1) (fun i _ => 32 - (intOf i).toNat)
  case atStart => exact ⟨0, by omega, rfl, by simpa using unhide HA1, unhide Hb1, hs1⟩
  case round =>
    obtain ⟨k, hk, rfl, hA, hb, hs⟩ := hrel
    have HA := hide hA
    have Hb := hide hb
    by_cases hlt : k < 32
    · have hc := hA.cell (ints_get _ hlt)
      have hf := hA.free k
      clear hA hb hs1
      go_wp2
      go_roundw
      case rel =>
        refine ⟨k + 1, by omega, by go_num, ?_, (unhide Hb).setCell (Nat.le_refl _) _, by simpa using hs⟩
        have h := (unhide HA).set k (.int .i64 1)
        rw [ints_set] at h
        rw [ints_congr (g := fun j => if j = k then 1 else if j < k then 1 else 0)] 
        · exact h
        · intro i _
          by_cases h1 : i = k
          · simp [h1]
          · simp [h1]; omega
      case measure => simp [intOf]; omega
    · obtain rfl : k = 32 := by omega
      clear hA hb
      go_wp2_with (refine wpList_newArray 67 _ (ints (bitf Crc.poly)) (ints fun _ => 0) 67 24 5 rfl rfl rfl rfl rfl rfl rfl rfl (by decide) (by simp) (by simp) polyParts rfl builtP alloc67 (by rw [ints_length]; exact info67) (ints_one _) rfl ?_)
      intro w2 hA2 hb2 hs2
      have hA2' : Arr w2 (w.heap.size + 1) (ints (bitf Crc.poly)) := hA2
      rw [← hs] at hb2
      have hA3 : Arr w2 w.heap.size (ints (bitf (~~~ 0#32))) := by
        have h := (unhide HA).below hb2
        rw [ints_congr (g := bitf (~~~ 0#32))] at h
        · exact h
        · intro i hi
          have : ∀ i : Fin 32, (1 : Int) = bitf (~~~ 0#32) i.val := by decide
          simpa [hi] using this ⟨i, hi⟩
      have hb3 : Below w.heap.size w w2 := (unhide Hb).trans (hb2.mono (by omega))
      have HA2 := hide hA2'
      have HA3 := hide hA3
      have Hb3 := hide hb3
      clear hA2 hA2' hA3 hb3 hb2 hs2
      go_wp2
      go_loopw [27] (fun i wr => ∃ k : Nat, k ≤ len ∧ i = .int .i64 k ∧ Arr wr w.heap.size (ints (bitf (Crc.run (~~~ 0#32) (bs.take k)))) ∧ Arr wr (w.heap.size + 1) (ints (bitf Crc.poly)) ∧ Below w.heap.size w wr) (fun i _ => len - (intOf i).toNat)
      case atStart => exact ⟨0, by omega, rfl, unhide HA3, unhide HA2, unhide Hb3⟩
      case round =>
        obtain ⟨k, hk, rfl, hA, hP, hb⟩ := hrel
        clear HA2 HA3 Hb3 HA Hb
        have Hb := hide hb
        by_cases hlt : k < len
        · obtain ⟨b, off, rfl, hc⟩ := (unhide Hr).2.2 k hlt
          have hc' := (hb.cell (p := ⟨b, off + k, none⟩) (lt_of_cell hc)).trans hc
          have Hs : Hid (Crc.run (~~~ 0#32) (bs.take (k + 1)) = Crc.step (Crc.run (~~~ 0#32) (bs.take k)) (bs.getD k 0)) := by
            show Crc.run (~~~ 0#32) (bs.take (k + 1)) = _
            rw [ctake_snoc bs k (by have := (unhide Hr).1; omega), Crc.run_append]; rfl
          generalize Crc.run (~~~ 0#32) (bs.take k) = r at *
          generalize bs.getD k 0 = c at *
          have HA := hide hA
          have HP := hide hP
          clear hc hA hP hb
          have hll := (unhide Hr).2.1
          go_wp2
          clear hc'
          go_loopw [8] (fun i wr => ∃ j : Nat, j ≤ 8 ∧ i = .int .i64 j ∧ Arr wr w.heap.size (ints (bitf (r ^^^ Crc.low c.getLsbD j))) ∧ Arr wr (w.heap.size + 1) (ints (bitf Crc.poly)) ∧ Below w.heap.size w wr) (fun i _ => 8 - (intOf i).toNat)
          case atStart => exact ⟨0, by omega, rfl, by rw [show Crc.low c.getLsbD 0 = 0#32 from rfl, BitVec.xor_zero]; exact unhide HA, unhide HP, unhide Hb⟩
          case round =>
            obtain ⟨j, hj, rfl, hA, hP, hb⟩ := hrel
            clear HA HP Hb
            by_cases hlt8 : j < 8
            · have h31 : 31 - j < 32 := by omega
              have hcell := hA.cell (ints_get _ h31)
              have hfree := hA.free (31 - j)
              have HA := hide hA
              have HP := hide hP
              have Hb := hide hb
              clear hA hP hb
              go_wp2
              go_region
              all_goals go_wp2
              go_roundw
              case rel =>
                refine ⟨j + 1, by omega, by go_num, ?_, ((unhide HP).other _ _ (by simp)).drew, ((unhide Hb).setCell (Nat.le_refl _) _).drew⟩
                have h := (unhide HA).set (31 - j) (.int .i64 (bits .xor .i64 (bitf (r ^^^ Crc.low c.getLsbD j) (31 - j)) ((wrap64 (((c.toNat : Nat) : Int) / 2 ^ j)).tmod 2)))
                rw [ints_set, in_step r c j hlt8] at h
                exact h.drew
              case measure => simp [intOf]; omega
            · obtain rfl : j = 8 := by omega
              have Hs' : Hid (Crc.step r c = Crc.iter 8 (r ^^^ Crc.low c.getLsbD 8)) := by
                show Crc.step r c = _
                rw [Crc.low_byte]; rfl
              generalize r ^^^ Crc.low c.getLsbD 8 = r8 at *
              have HA := hide hA
              have HP := hide hP
              have Hb := hide hb
              clear hA hP hb
              go_wp2
              go_loopw [9] (fun i wr => ∃ j : Nat, j ≤ 8 ∧ i = .int .i64 j ∧ Arr wr w.heap.size (ints (bitf (Crc.iter j r8))) ∧ Arr wr (w.heap.size + 1) (ints (bitf Crc.poly)) ∧ Below w.heap.size w wr) (fun i _ => 8 - (intOf i).toNat)
              case atStart => exact ⟨0, by omega, rfl, unhide HA, unhide HP, unhide Hb⟩
              case round =>
                obtain ⟨j, hj, rfl, hA, hP, hb⟩ := hrel
                clear HA HP Hb
                by_cases hlt8 : j < 8
                · have Hi : Hid (Crc.iter (j + 1) r8 = Crc.bit (Crc.iter j r8)) := rfl
                  generalize Crc.iter j r8 = y at *
                  have hcell := hA.cell (ints_get _ (show 31 < 32 by omega))
                  have HA := hide hA
                  have HP := hide hP
                  have Hb := hide hb
                  clear hA hP hb
                  go_wp2_with (refine wpList_newArray 67 #[] (ints fun _ => 0) (ints fun _ => 0) 67 52 11 rfl rfl rfl rfl rfl rfl rfl rfl (by decide) (by simp) (by simp) [] rfl built0 alloc67 (by rw [ints_length]; exact info67) (ints_one _) rfl ?_)
                  intro w3 hA3 hb3 hs3
                  have hB0 := (unhide HA).below hb3
                  have hP0 := (unhide HP).below hb3
                  have hgP := (unhide HP).lt
                  have hbb := (unhide Hb).trans (hb3.mono (unhide Hb).size)
                  obtain ⟨g, hg⟩ : ∃ g, g = wr.heap.size := ⟨_, rfl⟩
                  rw [← hg] at hA3 hgP ⊢
                  have hA4 : Arr w3 g (ints fun j => if 1 ≤ j ∧ j < 1 then bitf y (j - 1) else 0) := by
                    rw [ints_congr (g := fun _ => 0)]
                    · exact hA3
                    · intro i _
                      rw [if_neg (by omega)]
                  have HG := hide hA4
                  have HB0 := hide hB0
                  have HP0 := hide hP0
                  have Hbb := hide hbb
                  clear hA3 hA4 hB0 hP0 hbb hb3 hs3 hcell HA HP Hb hg
                  go_wp2
                  go_loopw [12] (fun i wr => ∃ j : Nat, 1 ≤ j ∧ j ≤ 32 ∧ i = .int .i64 j ∧ Arr wr g (ints fun q => if 1 ≤ q ∧ q < j then bitf y (q - 1) else 0) ∧ Arr wr w.heap.size (ints (bitf y)) ∧ Arr wr (w.heap.size + 1) (ints (bitf Crc.poly)) ∧ Below w.heap.size w wr) (fun i _ => 32 - (intOf i).toNat)
                  case atStart => exact ⟨1, by omega, by omega, rfl, unhide HG, unhide HB0, unhide HP0, unhide Hbb⟩
                  case round =>
                    obtain ⟨i, hi1, hi2, rfl, hG, hA, hP, hb⟩ := hrel
                    clear HG HB0 HP0 Hbb
                    by_cases hlt32 : i < 32
                    · have c1 := hA.cell (ints_get _ (show i - 1 < 32 by omega))
                      have c2 := hG.cell (ints_get _ hlt32)
                      have f2 := hG.free i
                      have HG := hide hG
                      have HA := hide hA
                      have HP := hide hP
                      have Hb := hide hb
                      clear hG hA hP hb
                      go_wp2
                      go_roundw
                      case rel =>
                        refine ⟨i + 1, by omega, by omega, by go_num, ?_, (unhide HA).other _ _ (by simp; omega), (unhide HP).other _ _ (by simp; omega), (unhide Hb).setCell (by simp; omega) _⟩
                        have h := (unhide HG).set i (.int .i64 (bitf y (i - 1)))
                        rw [ints_set, shift_step y i hi1 hlt32] at h
                        exact h
                      case measure => simp [intOf]; omega
                    · obtain rfl : i = 32 := by omega
                      rw [shift_done] at hG
                      have hG' : Arr wr g (ints fun q => if q < 0 then bitf (Crc.bit y) q else bitf (y >>> 1) q) := by
                        rw [ints_congr (g := bitf (y >>> 1))]
                        · exact hG
                        · intro q _
                          rw [if_neg (by omega)]
                      have HG := hide hG'
                      have HA := hide hA
                      have HP := hide hP
                      have Hb := hide hb
                      clear hG hG' hA hP hb
                      go_wp2
                      go_loopw [63] (fun i wr => ∃ j : Nat, j ≤ 32 ∧ i = .int .i64 j ∧ Arr wr g (ints fun q => if q < j then bitf (Crc.bit y) q else bitf (y >>> 1) q) ∧ Arr wr w.heap.size (ints (bitf y)) ∧ Arr wr (w.heap.size + 1) (ints (bitf Crc.poly)) ∧ Below w.heap.size w wr) (fun i _ => 32 - (intOf i).toNat)
                      case atStart => exact ⟨0, by omega, rfl, unhide HG, unhide HA, unhide HP, unhide Hb⟩
                      case round =>
                        obtain ⟨i, hi, rfl, hG, hA, hP, hb⟩ := hrel
                        clear HG HA HP Hb
                        by_cases hlt : i < 32
                        · cases hbit : y.getLsbD 0
                          · have ht : (bitf y 31 == 1) = false := by rw [bitf_31, hbit]; rfl
                            have e := bit_no y hbit
                            have HG := hide hG
                            have HA := hide hA
                            have HP := hide hP
                            have Hb := hide hb
                            have He := hide e
                            clear hG hA hP hb e hbit
                            go_wp2
                            go_roundw
                            case rel =>
                              refine ⟨i + 1, by omega, by go_num, ?_, unhide HA, unhide HP, unhide Hb⟩
                              have h := unhide HG
                              rw [unhide He] at h ⊢
                              simpa using h
                            case measure => simp [intOf]; omega
                          · have ht : (bitf y 31 == 1) = true := by rw [bitf_31, hbit]; rfl
                            have e := bit_yes y hbit
                            rw [e] at hG
                            have c1 := hG.cell (ints_get _ hlt)
                            have c2 := hP.cell (ints_get _ hlt)
                            have f1 := hG.free i
                            rw [if_neg (Nat.lt_irrefl i)] at c1
                            have HG := hide hG
                            have HA := hide hA
                            have HP := hide hP
                            have Hb := hide hb
                            have He := hide e
                            clear hG hA hP hb e hbit
                            go_wp2
                            go_region
                            all_goals go_wp2
                            go_roundw
                            case rel =>
                              refine ⟨i + 1, by omega, by go_num, ?_, ((unhide HA).other _ _ (by simp; omega)).drew, ((unhide HP).other _ _ (by simp; omega)).drew, ((unhide Hb).setCell (by simp; omega) _).drew⟩
                              have h := (unhide HG).set i (.int .i64 (bits .xor .i64 (bitf (y >>> 1) i) (bitf Crc.poly i)))
                              rw [ints_set, poly_step (y >>> 1) i hlt] at h
                              rw [unhide He]
                              exact h.drew
                            case measure => simp [intOf]; omega
                        · obtain rfl : i = 32 := by omega
                          have hG' : Arr wr g (ints (bitf (Crc.bit y))) := by
                            rw [ints_congr (g := bitf (Crc.bit y))] at hG
                            · exact hG
                            · intro q hq
                              rw [if_pos hq]
                          have HG := hide hG'
                          have HA := hide hA
                          have HP := hide hP
                          have Hb := hide hb
                          clear hG hG' hA hP hb
                          go_wp2_with (refine wpList_copyArray 67 _ _ (ints (bitf (Crc.bit y))) (ints (bitf y)) g w.heap.size 77 _ rfl rfl rfl rfl rfl (by simp) (by simp) rfl rfl (unhide HG) (unhide HA) (by rw [ints_length, ints_length]) Try.underlying67 rfl (by rw [ints_length]; exact info67) (ints_one _) ?_)
                          intro w4 hA4 hg4 hs4
                          have hP4 := (unhide HP).grown hg4 (by simp)
                          have hb4 := (unhide Hb).grown hg4 (unhide Hb).size (fun k hk => by simp at hk; omega)
                          have HA4 := hide hA4
                          have HP4 := hide hP4
                          have Hb4 := hide hb4
                          clear hA4 hP4 hb4 hg4 hs4
                          go_wp2
                          go_roundw
                          case rel =>
                            repeat apply Exists.intro
                            exact ⟨⟨j + 1, by omega, by go_num, by rw [unhide Hi]; exact unhide HA4, unhide HP4, unhide Hb4⟩, rfl⟩
                          case measure => simp [intOf]; omega
                · obtain rfl : j = 8 := by omega
                  have HA := hide hA
                  have HP := hide hP
                  have Hb := hide hb
                  clear hA hP hb
                  go_wp2
                  go_roundw
                  case rel => exact ⟨k + 1, by omega, by go_num, by rw [unhide Hs, unhide Hs']; exact unhide HA, unhide HP, unhide Hb⟩
                  case measure => simp [intOf]; omega
        · obtain rfl : k = len := by omega
          have ht : bs.take k = bs := List.take_of_length_le (by have := (unhide Hr).1; omega)
          rw [ht] at hA
          have Hm : Hid (Crc.more 0#32 bs = ~~~ Crc.run (~~~ 0#32) bs) := rfl
          generalize Crc.run (~~~ 0#32) bs = r at *
          have hx := index32 (bitf r)
          go_wp2_with (refine wpList_load_mid rfl 67 _ rfl w.heap.size 0 rfl (ints (bitf r)) _ hA.range Try.underlying67 rfl (by rw [ints_length]; exact info67) ?_)
          have Hb2 := hide hb
          clear hA hP hb Hb
          clear ht
          go_loopw [14, 80] (fun n i wr => ∃ j : Nat, j ≤ 32 ∧ i = .int .i64 j ∧ n = .int .u32 (((~~~ r).toNat / 2 ^ (32 - j) : Nat) : Int) ∧ Below w.heap.size w wr) (fun _ i _ => 32 - (intOf i).toNat)
          case atStart => exact ⟨0, by omega, rfl, by rw [Nat.div_eq_of_lt (~~~ r).isLt]; rfl, unhide Hb2⟩
          case round =>
            obtain ⟨j, hj, rfl, rfl, hb⟩ := hrel
            have Hb := hide hb
            clear hb Hb2
            by_cases hlt : j < 32
            · have hxj := hx j hlt
              have hst := out_step (~~~ r) j hlt
              have hlt2 := out_small (~~~ r) j hlt
              have Hst := hide hst
              clear hx hst
              generalize (~~~ r).toNat / 2 ^ (32 - j) = q at *
              have Hv := hide (out_val r j q hlt hlt2)
              go_wp2
              go_roundw
              case rel => exact ⟨j + 1, by omega, by go_num, by rw [unhide Hv, unhide Hst], unhide Hb⟩
              case measure => simp [intOf]; omega
            · obtain rfl : j = 32 := by omega
              clear hx
              go_wp2
              go_ret
              refine ⟨?_, unhide Hb⟩
              rw [unhide Hm]
              simp [N32]

end Go.Proofs.Ytkcchadecnkgnaa.Ref
