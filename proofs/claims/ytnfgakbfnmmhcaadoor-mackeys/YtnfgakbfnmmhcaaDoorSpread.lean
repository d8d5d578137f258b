/-
  What digest.spread answers: the 64 words of a block.
-/
import Derived.Test.YtnfgakbfnmmhcaaDoorTurn
import Derived.BigQuiet
namespace Go.Proofs.YtnfgakbfnmmhcaaDoor
open Go.RowKit

def zeros32 : List (BitVec 32) := List.replicate 64 0#32
theorem alloc56 (w : World) : (Instr.alloc 56 true (.tuple #[])).run Tryd.prog w = .ok (.pointer (some ⟨w.heap.size, 0, none⟩)) (w.alloc (.cells (wordsV zeros32).toArray 56)) := by kernel_rfl
theorem info56 : (Tryd.prog.info? 56).map (·.size) = some 64 := by kernel_rfl
theorem info35 : (Tryd.prog.info? 35).map (·.size) = some 64 := by kernel_rfl
theorem info50 : (Tryd.prog.info? 50).map (·.size) = some 8 := by kernel_rfl
theorem info25 : (Tryd.prog.info? 25).map (·.size) = some 32 := by kernel_rfl

/-- An element of an array that is a value. -/
theorem run_index {t e : TypeId} {n : Nat} (hu : Tryd.prog.underlying t = some (.array n e)) (hag : ∀ w : World, (isAgg e).run Tryd.prog w = .ok false w) (hsz : ∀ w : World, (Go.sizeOf e).run Tryd.prog w = .ok 1 w)
    (cs : List Value) (k : Nat) (v : Value) (hl : cs.length = n) (hv : cs[k]? = some v) (w : World) : (Instr.index t (.agg cs.toArray) (.int .i64 (k : Int))).run Tryd.prog w = .ok v w := by
  have h0 : (0 : Int) ≤ (k : Int) := Int.natCast_nonneg _
  have hk : k < n := by rw [← hl]; exact (List.getElem?_eq_some_iff.1 hv).1
  simp [Instr.index, run_underlying hu, part, hag, hsz, h0, hv, asIntOf, hk]

theorem ag5 (w : World) : (isAgg 5).run Tryd.prog w = .ok false w := by kernel_rfl
theorem sz5 (w : World) : (Go.sizeOf 5).run Tryd.prog w = .ok 1 w := by kernel_rfl
theorem ag49 (w : World) : (isAgg 49).run Tryd.prog w = .ok false w := by kernel_rfl
theorem sz49 (w : World) : (Go.sizeOf 49).run Tryd.prog w = .ok 1 w := by kernel_rfl

theorem or_byte (x : BitVec 32) (c : BitVec 8) : bits .or .u32 (N32 x) ((c.toNat : Nat) : Int) = N32 (x ||| c.setWidth 32) := by rw [N32_byte, bits_or32]

theorem shl8_N32 (x : BitVec 32) : N32 x * (256 : Int) % (4294967296 : Int) = N32 (x <<< (8 : Nat)) := shl_N32 x 8
theorem s0_N32 (x : BitVec 32) : bits .xor .u32 (bits .xor .u32 (N32 (Sha.rotr x 7)) (N32 (Sha.rotr x 18))) (N32 x / 8) = N32 (Sha.s0 x) := by
  rw [show N32 x / (8 : Int) = N32 (x >>> (3 : Nat)) from shr_N32 x 3, bits_xor32, bits_xor32]; rfl
theorem s1_N32 (x : BitVec 32) : bits .xor .u32 (bits .xor .u32 (N32 (Sha.rotr x 17)) (N32 (Sha.rotr x 19))) (N32 x / 1024) = N32 (Sha.s1 x) := by
  rw [show N32 x / (1024 : Int) = N32 (x >>> (10 : Nat)) from shr_N32 x 10, bits_xor32, bits_xor32]; rfl

theorem add4_N32 (a b c d : BitVec 32) : (N32 a + N32 b + N32 c + N32 d) % 4294967296 = N32 (a + b + c + d) := by
  rw [← add_N32, ← add_N32, ← add_N32]; omega

set_option maxHeartbeats 400000 in
theorem spread_any (blk : List (BitVec 8)) (hl : blk.length = 64) (w : World) :
    Calls Tryd.prog 24 #[.agg (bytesV blk).toArray] w fun e w' => e = .returned (.agg (wordsV (Sha.spread blk)).toArray) ∧ Below w.heap.size w w' := by
  have hL : (bytesV blk).length = 64 := by rw [bytesV_length, hl]
  have HL := hide hL
  have Hl := hide hl
  clear hL hl
  obtain ⟨cs, hcs⟩ : ∃ cs, cs = bytesV blk := ⟨_, rfl⟩
  rw [← hcs]
  have Hcs := hide hcs
  clear hcs
  go_enter Tryd.func24, Tryd.ntmps24
  go_wp2_with (refine wpList_box 35 _ cs rfl rfl rfl ?_)
  intro w1 hA1 hb1 hs1
  have HA1 := hide hA1
  have Hb1 := hide hb1
  clear hA1 hb1
  go_wp2_with (refine wpList_alloc 56 56 (wordsV zeros32) rfl rfl alloc56 ?_)
  intro w2 hA2 hb2 hs2
  have HB2 := hide ((unhide HA1).keep hb2 (by omega))
  have Hb2 := hide ((unhide Hb1).trans (hb2.mono (by omega)))
  have HA2 := hide hA2
  clear hA2 hb2 HA1 Hb1
  go_wp2_with (refine wpList_alloc 56 56 (wordsV zeros32) rfl rfl alloc56 ?_)
  intro w3 hA3 hb3 hs3
  have HB3 := hide ((unhide HB2).keep hb3 (by omega))
  have HC3 := hide ((unhide HA2).keep hb3 (by omega))
  have Hb3 := hide ((unhide Hb2).trans (hb3.mono (by omega)))
  have HA3 := hide hA3
  clear hA3 hb3 HB2 HA2 Hb2
  go_wp2_with (refine wpList_loadAll 35 _ w.heap.size cs _ rfl rfl rfl (unhide HB3) Tryd.underlying35 rfl (by rw [unhide Hcs, unhide HL]; exact info35) ?_)
  clear HB3 hs1 hs2 hs3
  go_loopw [12] (fun i wr => ∃ k : Nat, k ≤ 64 ∧ i = .int .i64 k ∧ Arr wr (w.heap.size + 1 + 1) (wordsV (Sha.words blk k)) ∧ Arr wr (w.heap.size + 1) (wordsV zeros32) ∧ Below w.heap.size w wr) (fun i _ => 64 - (intOf i).toNat)
  case atStart => exact ⟨0, by omega, rfl, by rw [Sha.words_zero]; exact unhide HA3, unhide HC3, unhide Hb3⟩
  case round =>
    obtain ⟨k, hk, rfl, hA, hZ, hb⟩ := hrel
    clear HA3 HC3 Hb3
    have HZ := hide hZ
    have Hb := hide hb
    clear hZ hb
    by_cases hlt : k < 64
    · have hi := run_index Tryd.underlying35 ag5 sz5 cs k _ (by rw [unhide Hcs]; exact unhide HL) (by rw [unhide Hcs]; exact bytesV_get blk (by have := unhide Hl; omega))
      have hq : (k : Int) / 4 = ((k / 4 : Nat) : Int) := by omega
      have Hs := hide (Sha.words_step blk k hlt (unhide Hl))
      have hw := Sha.words_length blk k
      have hq64 : k / 4 < 64 := by omega
      have hc := hA.cell (wordsV_get (Sha.words blk k) (i := k / 4) (by omega))
      have hf := hA.free (k / 4)
      have HA := hide hA
      clear hA hw
      generalize k / 4 = q at *
      generalize (Sha.words blk k).getD q 0 = x at *
      generalize blk.getD k 0 = c at *
      go_wp2
      go_roundw
      case rel =>
        refine ⟨k + 1, by omega, by go_num, ?_, (unhide HZ).other _ _ (by simp), (unhide Hb).setCell (by simp; omega) _⟩
        have h := (unhide HA).set q (.int .u32 (N32 (x <<< 8 ||| c.setWidth 32)))
        rw [wordsV_set, unhide Hs] at h
        rw [shl8_N32, or_byte]
        exact h
      case measure => simp [intOf]; omega
    · obtain rfl : k = 64 := by omega
      have HA := hide hA
      clear hA
      go_wp2
      go_loopw [6] (fun i wr => ∃ t : Nat, 16 ≤ t ∧ t ≤ 64 ∧ i = .int .i64 t ∧ Arr wr (w.heap.size + 1 + 1) (wordsV (Sha.sched (Sha.words blk 64) (t - 16))) ∧ Arr wr (w.heap.size + 1) (wordsV zeros32) ∧ Below w.heap.size w wr) (fun i _ => 64 - (intOf i).toNat)
      case atStart => exact ⟨16, by omega, by omega, rfl, unhide HA, unhide HZ, unhide Hb⟩
      case round =>
        obtain ⟨t, ht1, ht2, rfl, hA, hZ, hb⟩ := hrel
        clear HA HZ Hb
        have HZ := hide hZ
        have Hb := hide hb
        clear hZ hb
        by_cases hlt : t < 64
        · have hw := Sha.sched_length (Sha.words blk 64) (t - 16)
          rw [Sha.words_length] at hw
          have Hs : Hid (Sha.sched (Sha.words blk 64) (t + 1 - 16) = (Sha.sched (Sha.words blk 64) (t - 16)).set t ((Sha.sched (Sha.words blk 64) (t - 16)).getD (t - 16) 0 + Sha.s0 ((Sha.sched (Sha.words blk 64) (t - 16)).getD (t - 15) 0) + (Sha.sched (Sha.words blk 64) (t - 16)).getD (t - 7) 0 + Sha.s1 ((Sha.sched (Sha.words blk 64) (t - 16)).getD (t - 2) 0))) := by
            show _ = _
            rw [show t + 1 - 16 = (t - 16) + 1 by omega, Sha.sched, show 16 + (t - 16) = t by omega, show t - 16 + 1 = t - 15 by omega, show t - 16 + 9 = t - 7 by omega, show t - 16 + 14 = t - 2 by omega]
          generalize Sha.sched (Sha.words blk 64) (t - 16) = v at *
          have c15 := hA.cell (wordsV_get v (i := t - 15) (by omega))
          have c2 := hA.cell (wordsV_get v (i := t - 2) (by omega))
          have c16 := hA.cell (wordsV_get v (i := t - 16) (by omega))
          have c7 := hA.cell (wordsV_get v (i := t - 7) (by omega))
          have c0 := hA.cell (wordsV_get v (i := t) (by omega))
          have f0 := hA.free t
          have HA := hide hA
          clear hA hw
          generalize v.getD (t - 15) 0 = x15 at *
          generalize v.getD (t - 2) 0 = x2 at *
          generalize v.getD (t - 16) 0 = x16 at *
          generalize v.getD (t - 7) 0 = x7 at *
          generalize v.getD t 0 = x0 at *
          go_wp2_with fail
          go_quiet (fail)
          go_wp2_with (go_at_call 25; refine (turn_k _ _ (by decide) (by decide) _).mono ?_; rintro e w' ⟨rfl, rfl⟩)
          go_region
          all_goals go_wp2
          go_roundw
          case rel =>
            repeat apply Exists.intro
            refine ⟨⟨t + 1, ?_, ?_, ?_, ?_, ?_, ?_⟩, rfl⟩
            · omega
            · omega
            · go_num
            · rw [s0_N32, s1_N32, add4_N32, unhide Hs, ← wordsV_set]
              exact Arr.set (w := wr.drewN _) (unhide HA) _ _
            · exact Arr.other (w := wr.drewN _) (unhide HZ) _ _ (by simp)
            · exact (below_drewN (unhide Hb) _).setCell (by simp; omega) _
          case measure => simp [intOf]; omega
        · obtain rfl : t = 64 := by omega
          rw [show Sha.sched (Sha.words blk 64) (64 - 16) = Sha.spread blk from rfl] at hA
          have HA := hide hA
          clear hA
          have hlen : (wordsV (Sha.spread blk)).length = 64 := by rw [wordsV_length, Sha.spread_length]
          have Hlen := hide hlen
          clear hlen
          have Hone := hide (wordsV_one (Sha.spread blk))
          generalize hrs : wordsV (Sha.spread blk) = rs at HA Hlen Hone
          have Hrs := hide hrs
          clear hrs
          go_wp2_with (first
            | refine wpList_loadAll 56 _ (w.heap.size + 1 + 1) rs _ rfl rfl rfl (unhide HA) Tryd.underlying56 rfl (by rw [unhide Hlen]; exact info56) ?_
            | refine wpList_storeAll 56 _ _ (w.heap.size + 1) rs (wordsV zeros32) rfl rfl rfl rfl (unhide HZ) (by rw [unhide Hlen]; rfl) (by rw [unhide Hlen]; exact info56) (unhide Hone) ?_)
          intro w4 hA4 hg4 _
          have Hb4 := hide ((unhide Hb).grown hg4 (unhide Hb).size (fun k hk => by simp at hk; omega))
          have HA4 := hide hA4
          clear hA4 hg4 HA HZ Hb
          go_wp2
          have hi : (Tryd.prog.info? 56).map (·.size) = some rs.length := by rw [unhide Hlen]; exact info56
          refine bodyPost_ret (v := .agg rs.toArray) ?_ rfl ⟨by rw [unhide Hrs], unhide Hb4⟩
          exact results_arr Tryd.results24 rfl (unhide HA4) Tryd.underlying56 rfl hi

end Go.Proofs.YtnfgakbfnmmhcaaDoor
