/-
  What digest.mix answers: the state behind a block.
-/
import Derived.Test.YtnfgakbfnmmhcaaDoorSpread
namespace Go.Proofs.YtnfgakbfnmmhcaaDoor
open Go.RowKit

/-- The two tables of package digest lie where they were laid. -/
structure Tabs (w : World) : Prop where
  start : w.rangeAt 0 0 (wordsV Sha.start)
  roots : w.rangeAt 1 0 (wordsV Sha.K)

theorem Tabs.size {w : World} (h : Tabs w) : 2 ≤ w.heap.size := lt_of_cell (h.roots 0 _ (wordsV_get Sha.K (by decide)))
theorem Tabs.root {w : World} (h : Tabs w) {i : Nat} (hi : i < 64) : w.cell? ⟨1, i, none⟩ = some (.int .u32 (N32 (Sha.K.getD i 0))) := by
  have := h.roots i _ (wordsV_get Sha.K hi)
  rwa [Nat.zero_add] at this
theorem Tabs.below {w w' : World} {B : Nat} (h : Tabs w) (hb : Below B w w') (hB : 2 ≤ B) : Tabs w' :=
  ⟨fun j v hj => (hb.cell (p := ⟨0, 0 + j, none⟩) (by show 0 < B; omega)).trans (h.start j v hj), fun j v hj => (hb.cell (p := ⟨1, 0 + j, none⟩) (by show 1 < B; omega)).trans (h.roots j v hj)⟩

def zeros8 : List (BitVec 32) := List.replicate 8 0#32
theorem alloc50 (w : World) : (Instr.alloc 50 true (.tuple #[])).run Tryd.prog w = .ok (.pointer (some ⟨w.heap.size, 0, none⟩)) (w.alloc (.cells (wordsV zeros8).toArray 50)) := by kernel_rfl

theorem spread_at (blk : List (BitVec 8)) (cs : List Value) (hcs : cs = bytesV blk) (hl : blk.length = 64) (w : World) :
    Calls Tryd.prog 24 #[.agg cs.toArray] w fun e w' => e = .returned (.agg (wordsV (Sha.spread blk)).toArray) ∧ Below w.heap.size w w' := by
  subst hcs
  exact spread_any blk hl w

theorem ch_N32 (e f g : BitVec 32) : bits .xor .u32 (bits .and .u32 (N32 e) (N32 f)) (bits .and .u32 (bits .xor .u32 IntKind.u32.max (N32 e)) (N32 g)) = N32 (e &&& f ^^^ ~~~ e &&& g) := by
  rw [not_N32, bits_and32, bits_and32, bits_xor32]
theorem maj_N32 (a b c : BitVec 32) : bits .xor .u32 (bits .xor .u32 (bits .and .u32 (N32 a) (N32 b)) (bits .and .u32 (N32 a) (N32 c))) (bits .and .u32 (N32 b) (N32 c)) = N32 (a &&& b ^^^ a &&& c ^^^ b &&& c) := by
  rw [bits_and32, bits_and32, bits_and32, bits_xor32, bits_xor32]

theorem t1_N32 (e h ch k x : BitVec 32) : (N32 h + bits .xor .u32 (bits .xor .u32 (N32 (Sha.rotr e 6)) (N32 (Sha.rotr e 11))) (N32 (Sha.rotr e 25)) + N32 ch + N32 k + N32 x) % 4294967296 = N32 (h + (Sha.rotr e 6 ^^^ Sha.rotr e 11 ^^^ Sha.rotr e 25) + ch + k + x) := by
  rw [bits_xor32, bits_xor32, ← add_N32, ← add_N32, ← add_N32, ← add_N32]; omega
theorem t2_N32 (a maj : BitVec 32) : (bits .xor .u32 (bits .xor .u32 (N32 (Sha.rotr a 2)) (N32 (Sha.rotr a 13))) (N32 (Sha.rotr a 22)) + N32 maj) % 4294967296 = N32 ((Sha.rotr a 2 ^^^ Sha.rotr a 13 ^^^ Sha.rotr a 22) + maj) := by
  rw [bits_xor32, bits_xor32, add_N32]

set_option maxRecDepth 100000 in
set_option maxHeartbeats 800000 in
theorem mix_any (st : List (BitVec 32)) (hst : st.length = 8) (blk : List (BitVec 8)) (hl : blk.length = 64) (w : World) (hT : Tabs w) :
    Calls Tryd.prog 21 #[.agg (wordsV st).toArray, .agg (bytesV blk).toArray] w fun e w' => e = .returned (.agg (wordsV (Sha.mix st blk)).toArray) ∧ Below w.heap.size w w' := by
  have HT := hide hT
  have HL : Hid ((bytesV blk).length = 64) := by show _ = _; rw [bytesV_length, hl]
  have HS : Hid ((wordsV st).length = 8) := by show _ = _; rw [wordsV_length, hst]
  have Hl := hide hl
  have Hst := hide hst
  clear hl hT hst
  obtain ⟨cs, hcs⟩ : ∃ cs, cs = bytesV blk := ⟨_, rfl⟩
  obtain ⟨ss, hss⟩ : ∃ ss, ss = wordsV st := ⟨_, rfl⟩
  rw [← hcs, ← hss]
  rw [← hcs] at HL
  rw [← hss] at HS
  have Hcs := hide hcs
  have Hss := hide hss
  clear hcs hss
  go_enter Tryd.func21, Tryd.ntmps21
  go_wp2_with (refine wpList_box 50 _ ss rfl rfl rfl ?_)
  intro w1 hA1 hb1 hs1
  have HA1 := hide hA1
  have Hb1 := hide hb1
  clear hA1 hb1
  go_wp2_with (refine wpList_box 35 _ cs rfl rfl rfl ?_)
  intro w2 hA2 hb2 hs2
  have HB2 := hide ((unhide HA1).keep hb2 (by omega))
  have Hb2 := hide ((unhide Hb1).trans (hb2.mono (by omega)))
  have HA2 := hide hA2
  clear hA2 hb2 HA1 Hb1
  go_wp2_with (refine wpList_alloc 50 50 (wordsV zeros8) rfl rfl alloc50 ?_)
  intro w3 hA3 hb3 hs3
  have HB3 := hide ((unhide HB2).keep hb3 (by omega))
  have HC3 := hide ((unhide HA2).keep hb3 (by omega))
  have Hb3 := hide ((unhide Hb2).trans (hb3.mono (by omega)))
  have HA3 := hide hA3
  clear hA3 hb3 HB2 HA2 Hb2 hs1 hs2
  have hA := unhide HB3
  rw [unhide Hss] at hA
  have c0 := hA.cell (wordsV_get st (i := 0) (by have := unhide Hst; omega))
  have c1 := hA.cell (wordsV_get st (i := 1) (by have := unhide Hst; omega))
  have c2 := hA.cell (wordsV_get st (i := 2) (by have := unhide Hst; omega))
  have c3 := hA.cell (wordsV_get st (i := 3) (by have := unhide Hst; omega))
  have c4 := hA.cell (wordsV_get st (i := 4) (by have := unhide Hst; omega))
  have c5 := hA.cell (wordsV_get st (i := 5) (by have := unhide Hst; omega))
  have c6 := hA.cell (wordsV_get st (i := 6) (by have := unhide Hst; omega))
  have c7 := hA.cell (wordsV_get st (i := 7) (by have := unhide Hst; omega))
  clear hA
  have hof : Sha.ofL st = ⟨st.getD 0 0, st.getD 1 0, st.getD 2 0, st.getD 3 0, st.getD 4 0, st.getD 5 0, st.getD 6 0, st.getD 7 0⟩ := rfl
  have Hof := hide hof
  clear hof
  generalize st.getD 0 0 = x0 at *
  generalize st.getD 1 0 = x1 at *
  generalize st.getD 2 0 = x2 at *
  generalize st.getD 3 0 = x3 at *
  generalize st.getD 4 0 = x4 at *
  generalize st.getD 5 0 = x5 at *
  generalize st.getD 6 0 = x6 at *
  generalize st.getD 7 0 = x7 at *
  go_wp2_with fail
  go_quiet (fail)
  go_wp2_with fail
  go_quiet (fail)
  clear c0 c1 c2 c3 c4 c5 c6 c7
  go_wp2_with (refine wpList_loadAll 35 _ (w.heap.size + 1) cs _ rfl rfl rfl (Arr.drew (unhide HC3)) Tryd.underlying35 rfl (by rw [unhide HL]; exact info35) ?_)
  refine (spread_at blk cs (unhide Hcs) (unhide Hl) _).mono ?_
  rintro e w4 ⟨rfl, hb4⟩
  have hb4' : Below w3.heap.size w3 w4 := below_drewN (Below.refl _ _) _ |>.trans hb4
  have HB4 := hide ((unhide HB3).below hb4')
  have HA4 := hide ((unhide HA3).below hb4')
  have Hb4 := hide ((unhide Hb3).trans (hb4'.mono (by omega)))
  have HT4 := hide ((unhide HT).below (unhide Hb4) (unhide HT).size)
  clear hb4 hb4' HA3 HB3 HC3 Hb3 hs3
  obtain ⟨ws, hws⟩ : ∃ ws, ws = Sha.spread blk := ⟨_, rfl⟩
  have hwl : ws.length = 64 := by rw [hws, Sha.spread_length]
  rw [← hws]
  have Hws := hide hws
  clear hws
  go_wp2_with fail
  go_loopw [5, 6, 7, 8, 9, 10, 11, 12, 39] (fun va vb vc vd ve vf vg vh i wr => ∃ t : Nat, t ≤ 64 ∧ i = .int .i64 t ∧ (∃ a b c d e f g h : BitVec 32, (⟨a, b, c, d, e, f, g, h⟩ : Sha.St) = Sha.run ws ⟨x0, x1, x2, x3, x4, x5, x6, x7⟩ t ∧ va = .int .u32 (N32 a) ∧ vb = .int .u32 (N32 b) ∧ vc = .int .u32 (N32 c) ∧ vd = .int .u32 (N32 d) ∧ ve = .int .u32 (N32 e) ∧ vf = .int .u32 (N32 f) ∧ vg = .int .u32 (N32 g) ∧ vh = .int .u32 (N32 h)) ∧ Arr wr w.heap.size ss ∧ Arr wr (w.heap.size + 1 + 1) (wordsV zeros8) ∧ Below w.heap.size w wr) (fun _ _ _ _ _ _ _ _ i _ => 64 - (intOf i).toNat)
  case atStart => exact ⟨0, by omega, rfl, ⟨_, _, _, _, _, _, _, _, rfl, rfl, rfl, rfl, rfl, rfl, rfl, rfl, rfl⟩, unhide HB4, unhide HA4, unhide Hb4⟩
  case round =>
    obtain ⟨t, ht, rfl, ⟨a, b, c, d, e, f, g, h, hs, rfl, rfl, rfl, rfl, rfl, rfl, rfl, rfl⟩, hS, hZ, hb⟩ := hrel
    have HSs := hide hS
    have HZ := hide hZ
    have Hb := hide hb
    have Hs := hide hs
    clear hs hS hZ hb HA4 HB4 Hb4
    by_cases hlt : t < 64
    · have hr := ((unhide HT).below (unhide Hb) (unhide HT).size).root hlt
      have hi := run_index Tryd.underlying56 ag49 sz49 (wordsV ws) t _ (by rw [wordsV_length, hwl]) (wordsV_get ws (i := t) (by omega))
      have Hn : Hid (Sha.run ws ⟨x0, x1, x2, x3, x4, x5, x6, x7⟩ (t + 1) = Sha.round ⟨a, b, c, d, e, f, g, h⟩ (Sha.K.getD t 0) (ws.getD t 0)) := by
        show _ = _
        rw [unhide Hs]; rfl
      have Hwl := hide hwl
      clear hwl
      generalize Sha.K.getD t 0 = k at *
      generalize ws.getD t 0 = x at *
      generalize wordsV ws = wv at *
      go_wp2_with fail
      rw [ch_N32, maj_N32]
      generalize hch : e &&& f ^^^ ~~~ e &&& g = ch
      generalize hmaj : a &&& b ^^^ a &&& c ^^^ b &&& c = maj
      have Hch := hide hch
      have Hmaj := hide hmaj
      clear hch hmaj
      go_quiet ((go_at_call 25; exact Calls.quiet_of_same (turn_k _ _ (by decide) (by decide) _)))
      go_wp2_with (go_at_call 25; refine (turn_k _ _ (by decide) (by decide) _).mono ?_; rintro e w' ⟨rfl, rfl⟩)
      rw [t1_N32, t2_N32, add_N32, add_N32]
      refine ⟨⟨t + 1, by omega, by go_num, ⟨_, _, _, _, _, _, _, _, ?_, rfl, rfl, rfl, rfl, rfl, rfl, rfl, rfl⟩, unhide HSs, unhide HZ, below_drewN (unhide Hb) _⟩, by simp [intOf]; omega⟩
      rw [unhide Hn, ← unhide Hch, ← unhide Hmaj]
      rfl
    · obtain rfl : t = 64 := by omega
      have Hfin : Hid (∀ j, Sha.addTo st (Sha.toL ⟨a, b, c, d, e, f, g, h⟩) j = Sha.addTo st (Sha.toL (Sha.run (Sha.spread blk) (Sha.ofL st) 64)) j) := by
        show ∀ j, _
        intro j
        rw [unhide Hs, unhide Hws, unhide Hof]
      have hS0 := unhide HSs
      rw [unhide Hss] at hS0
      have HS0 := hide hS0
      clear hS0 HSs
      clear hwl
      go_wp2_with fail
      go_loopw [112] (fun i wr => ∃ j : Nat, j ≤ 8 ∧ i = .int .i64 j ∧ Arr wr w.heap.size (wordsV (Sha.addTo st (Sha.toL ⟨a, b, c, d, e, f, g, h⟩) j)) ∧ Arr wr (w.heap.size + 1 + 1) (wordsV zeros8) ∧ Below w.heap.size w wr) (fun i _ => 8 - (intOf i).toNat)
      case atStart => exact ⟨0, by omega, rfl, unhide HS0, unhide HZ, unhide Hb⟩
      case round =>
        obtain ⟨j, hj, rfl, hA, hZ, hb⟩ := hrel
        clear HS0 HZ Hb
        have HZ := hide hZ
        have Hb := hide hb
        clear hZ hb
        by_cases hlt : j < 8
        · have hi := run_index Tryd.underlying50 ag49 sz49 [.int .u32 (N32 a), .int .u32 (N32 b), .int .u32 (N32 c), .int .u32 (N32 d), .int .u32 (N32 e), .int .u32 (N32 f), .int .u32 (N32 g), .int .u32 (N32 h)] j _ rfl (wordsV_get (Sha.toL ⟨a, b, c, d, e, f, g, h⟩) (i := j) hlt)
          have hal : (Sha.addTo st (Sha.toL ⟨a, b, c, d, e, f, g, h⟩) j).length = 8 := by rw [Sha.addTo_length]; exact unhide Hst
          have Hs1 : Hid (Sha.addTo st (Sha.toL ⟨a, b, c, d, e, f, g, h⟩) (j + 1) = (Sha.addTo st (Sha.toL ⟨a, b, c, d, e, f, g, h⟩) j).set j ((Sha.addTo st (Sha.toL ⟨a, b, c, d, e, f, g, h⟩) j).getD j 0 + (Sha.toL ⟨a, b, c, d, e, f, g, h⟩).getD j 0)) := rfl
          have hc := hA.cell (wordsV_get _ (i := j) (by omega))
          have hf := hA.free j
          have HA := hide hA
          clear hA hal
          generalize Sha.addTo st (Sha.toL ⟨a, b, c, d, e, f, g, h⟩) j = v at *
          generalize v.getD j 0 = x at *
          generalize (Sha.toL ⟨a, b, c, d, e, f, g, h⟩).getD j 0 = y at *
          go_wp2
          go_roundw
          case rel =>
            refine ⟨j + 1, by omega, by go_num, ?_, (unhide HZ).other _ _ (by simp; omega), (unhide Hb).setCell (Nat.le_refl _) _⟩
            rw [add_N32, unhide Hs1, ← wordsV_set]
            exact (unhide HA).set _ _
          case measure => simp [intOf]; omega
        · obtain rfl : j = 8 := by omega
          rw [unhide Hfin, show Sha.addTo st (Sha.toL (Sha.run (Sha.spread blk) (Sha.ofL st) 64)) 8 = Sha.mix st blk from rfl] at hA
          have HA := hide hA
          clear hA
          have Hlen : Hid ((wordsV (Sha.mix st blk)).length = 8) := by show _ = _; rw [wordsV_length, Sha.mix_length]; exact unhide Hst
          have Hone := hide (wordsV_one (Sha.mix st blk))
          generalize hrs : wordsV (Sha.mix st blk) = rs at HA Hlen Hone
          have Hrs := hide hrs
          clear hrs
          go_wp2_with (first
            | refine wpList_loadAll 50 _ w.heap.size rs _ rfl rfl rfl (unhide HA) Tryd.underlying50 rfl (by rw [unhide Hlen]; exact info50) ?_
            | refine wpList_storeAll 50 _ _ (w.heap.size + 1 + 1) rs (wordsV zeros8) rfl rfl rfl rfl (unhide HZ) (by rw [unhide Hlen]; rfl) (by rw [unhide Hlen]; exact info50) (unhide Hone) ?_)
          intro w5 hA5 hg5 _
          have Hb5 := hide ((unhide Hb).grown hg5 (unhide Hb).size (fun k hk => by simp at hk; omega))
          have HA5 := hide hA5
          clear hA5 hg5 HA HZ Hb
          go_wp2
          have hi : (Tryd.prog.info? 50).map (·.size) = some rs.length := by rw [unhide Hlen]; exact info50
          refine bodyPost_ret (v := .agg rs.toArray) ?_ rfl ⟨by rw [unhide Hrs], unhide Hb5⟩
          exact results_arr Tryd.results21 rfl (unhide HA5) Tryd.underlying50 rfl hi

end Go.Proofs.YtnfgakbfnmmhcaaDoor
