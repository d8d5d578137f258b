/-
  The document's Get, walked.
-/
import Derived.Test.YtkcchadecnkgnaaRGetA
namespace Go.Proofs.Ytkcchadecnkgnaa
open Go.RowKit

set_option maxRecDepth 100000 in
set_option maxHeartbeats 3200000 in
theorem refget_walk (N : Nat) (v : Value) (b : List UInt8) (w : World) (hN : N ≤ w.heap.size) (hr : RowV N w v b) (hl : b.length ≤ 100000) :
    Calls Try.prog 14 #[v] w fun e w' => GotAt (getD' b) e w' ∧ Below w.heap.size w w' := by
  have HRV := hide hr
  obtain ⟨a, len, cap, rfl, q1, q2, q3, hrow⟩ := hr
  have hlen : b.length = len := hrow.1
  have HLEN := hide hlen
  by_cases h64 : len < 64
  · rw [getD'_no (.inl (by omega))]
    clear hrow hlen hl
    go_enter Try.func14, Try.ntmps14
    go_wp2_with fail
    refine ⟨rfl, .tuple #[.int .u8 0, .int .u64 0, .slice none 0 0, .int .i64 0], by simp [results, Try.results14], ?_⟩
    exact wp_noF w w (Below.refl _ _)
  · obtain ⟨bb, off, rfl, hbN, hc0⟩ := hrow.2.2 0 (by omega)
    have hcell : ∀ j, j < len → w.cell? ⟨bb, off + j, none⟩ = some (.int .u8 (((b.getD j 0).toNat : Nat) : Int)) := fun j hj => by
      obtain ⟨b2, off2, e, _, hc⟩ := hrow.2.2 j hj
      cases e
      exact hc
    have hc1 := hcell 1 (by omega)
    rw [Nat.add_zero] at hc0
    obtain ⟨n0, hn0⟩ : ∃ n0, n0 = (b.getD 0 0).toNat := ⟨_, rfl⟩
    obtain ⟨n1, hn1⟩ : ∃ n1, n1 = (b.getD 1 0).toNat := ⟨_, rfl⟩
    rw [← hn0] at hc0
    rw [← hn1] at hc1
    have HN0 := hide hn0
    have HN1 := hide hn1
    have HCELL := hide hcell
    have HROW := hide hrow
    have hbig : len ≤ 100000 := by omega
    clear hn0 hn1 hcell hrow hlen hl
    by_cases h0 : n0 = 66
    · subst h0
      replace hc0 : w.cell? ⟨bb, off, none⟩ = some (.int .u8 66) := hc0
      by_cases h1 : n1 = 74
      · subst h1
        replace hc1 : w.cell? ⟨bb, off + 1, none⟩ = some (.int .u8 74) := hc1
        have hno : ¬ (b.length < 64 ∨ b.getD 0 0 ≠ 66 ∨ b.getD 1 0 ≠ 74) := by
          rintro (h | h | h)
          · have := unhide HLEN; omega
          · apply h; apply UInt8.toNat_inj.1; rw [← unhide HN0]; rfl
          · apply h; apply UInt8.toNat_inj.1; rw [← unhide HN1]; rfl
        have HS := hide (getD'_size hno)
        have HA := hide (getD'_at hno)
        have e8 : fixL ((b.take 13).drop 3) 0 8 = (seqF b, ((b.take 13).drop 3).drop 8, 0) := by
          have hl : ((b.take 13).drop 3).length = 10 := by rw [List.length_drop, List.length_take, unhide HLEN]; omega
          rw [fixL_long (by show 8 ≤ _; omega)]
          unfold seqF
          rw [field b (show 3 + 8 ≤ 13 by omega)]
          rfl
        have e2 : fixL (((b.take 13).drop 3).drop 8) 0 2 = (lenF b, (((b.take 13).drop 3).drop 8).drop 2, 0) := by
          have hl : (((b.take 13).drop 3).drop 8).length = 2 := by rw [List.length_drop, List.length_drop, List.length_take, unhide HLEN]; omega
          rw [fixL_long (by show 2 ≤ _; omega)]
          unfold lenF
          rw [field b (show 11 + 2 ≤ 13 by omega), List.drop_drop]
          rfl
        have hR13 : RowV N w (.slice (some ⟨bb, off + 3, none⟩) 10 (cap - 3)) ((b.take 13).drop 3) := by
          have h1 := (unhide HROW).take 13 (by omega)
          have h2 := h1.drop (cap := cap) (by omega) 3 (by omega) (some ⟨bb, off + 3, none⟩) (.inr (by simp [Addr.add_mid]))
          exact ⟨_, 10, _, rfl, by omega, by omega, (by intro h; cases h), h2⟩
        have HE8 := hide e8
        have HE2 := hide e2
        have HR13 := hide hR13
        have hnl := lenF_lt b
        have hsl := seqF_lt b
        clear e8 e2 hR13 hno
        have hcap3 : ¬ cap = 3 := by omega
        have hcap : 64 ≤ cap := by omega
        have hRd : Rd N (w.alloc (.cells #[.slice (some ⟨bb, off + 3, none⟩) 10 (cap - 3), .int .i64 0] 46)) w.heap.size ((b.take 13).drop 3) 0 :=
          ⟨hN, _, ⟨_, _, heap_alloc_new w _, rfl⟩, (unhide HR13).below (((Below.refl _ w).alloc (Nat.le_refl _) _).mono hN)⟩
        have H1 := hide (fixedOf_walk N _ 8 _ 0 _ hRd (fun h => absurd rfl h))
        rw [unhide HE8] at H1
        have Hb0 : Hid (Below w.heap.size w (w.alloc (.cells #[.slice (some ⟨bb, off + 3, none⟩) 10 (cap - 3), .int .i64 0] 46))) := hide ((Below.refl _ w).alloc (Nat.le_refl _) _)
        clear hRd
        go_enter Try.func14, Try.ntmps14
        go_wp2_with fail
        refine (unhide H1).mono ?_
        rintro e w1 ⟨rfl, hR1, hg1⟩
        have Hb1 : Hid (Below w.heap.size w w1) := hide ((unhide Hb0).grown hg1 (unhide Hb0).size (fun k hk => by cases hk; exact Nat.le_refl _))
        have H2 := hide (fixedOf_walk N _ 2 _ 0 _ hR1 (fun h => absurd rfl h))
        rw [unhide HE2] at H2
        clear hR1 hg1 H1 Hb0
        go_wp2_with fail
        refine (unhide H2).mono ?_
        rintro e w2 ⟨rfl, hR2, hg2⟩
        have Hb2 : Hid (Below w.heap.size w w2) := hide ((unhide Hb1).grown hg2 (unhide Hb1).size (fun k hk => by cases hk; exact Nat.le_refl _))
        have H3 := hide (rsize_walk (lenF b : Int) w2)
        have hz64 := sizeF_le (lenF b : Int)
        have HZ1 := hide (fun h => @sizeF_one (lenF b) h)
        have HZ2 := hide (fun h => @sizeF_ne (lenF b) h)
        have HSQ : Hid (seqF b = seqF b) := hide rfl
        generalize hsqq : seqF b = sq at *
        generalize hnn : lenF b = n at *
        generalize hsz : sizeF (n : Int) = sz at *
        clear hR2 hg2 H2 Hb1 hsqq hnn hsz HSQ
        go_wp2_with fail
        refine (unhide H3).mono ?_
        rintro e w3 ⟨rfl, hw3⟩
        subst w3
        clear H3
        by_cases hq0 : sz = 0
        · subst hq0
          have HO : Hid (getD' b = noF) := hide (unhide HS (.inl rfl))
          clear HS HA
          go_wp2_with fail
          refine ⟨rfl, .tuple #[.int .u8 0, .int .u64 0, .slice none 0 0, .int .i64 0], by simp [results, Try.results14], ?_⟩
          rw [unhide HO]
          exact wp_noF w w2 (unhide Hb2)
        · by_cases hq1 : len < 64 * sz
          · have HO : Hid (getD' b = noF) := hide (unhide HS (.inr (by rw [unhide HLEN]; exact hq1)))
            have hq2 : ¬ ((64 * (sz : Int)) = 0) := by omega
            clear HS HA
            go_wp2_with fail
            refine ⟨rfl, .tuple #[.int .u8 0, .int .u64 0, .slice none 0 0, .int .i64 0], by simp [results, Try.results14], ?_⟩
            rw [unhide HO]
            exact wp_noF w w2 (unhide Hb2)
          · have HG := hide (unhide HA (by rw [unhide HLEN]; omega))
            have hn4 : n ≤ 4000 := unhide HZ2 hq0
            have hn5 : n + 17 ≤ 63 * sz := (unhide HZ1 hn4).2
            have hq2 : ¬ ((64 * (sz : Int)) = 0) := by omega
            have hq3 : 64 * sz ≤ len := by omega
            clear HS HA HZ1 HZ2
            obtain ⟨q, hq⟩ : ∃ q, q = 64 * sz := ⟨_, rfl⟩
            have hqI : (64 * (sz : Int)) = (q : Int) := by omega
            have hq0 : ¬ q = 0 := by omega
            have hqlen : q ≤ len := by omega
            have HZO := hide (zout_length sz (b.take q) 0 rfl (by rw [List.length_take, unhide HLEN]; omega))
            rw [← hq] at HG
            have hbq : q ≤ 4096 := by omega
            have hpz : n + 17 ≤ 63 * sz := hn5
            obtain ⟨body, hbody⟩ : ∃ body, body = ((zout 0 (b.take q)).drop 13).take n := ⟨_, rfl⟩
            obtain ⟨out, hout⟩ : ∃ out, out = zout 0 (b.take q) := ⟨_, rfl⟩
            have HBODY : Hid (body = (out.drop 13).take n) := hide (by rw [hbody, hout])
            have HOUT := hide hout
            rw [← hout] at HZO
            rw [← hbody] at HG
            have hqb : ((q : Int) == 0) = false := by simp; omega
            have hqd : decide (len < q) = false := by simp; omega
            have HE0 := hide (Own.empty w2)
            have hbN2 : bb < w.heap.size := by omega
            have hq64 : q = 64 * sz := hq
            have HQ64 := hide hq64
            have hL : out.length = 63 * sz := unhide HZO
            have HLL := hide hL
            clear hbody hout hq hq64 hL HZO hq3 HE8 HE2 HR13 hcap3
            go_wp2_with fail
            go_loopw [10, 11] (fun co ci wr => ∃ j : Nat, j ≤ q ∧ ci = .int .i64 (j : Int) ∧ Own w2.heap.size wr co (zout 0 (b.take j)) ∧ Below w2.heap.size w2 wr) (fun _ ci _ => q - (intOf ci).toNat)
            case atStart => exact ⟨0, by omega, rfl, by simpa [zout] using unhide HE0, (Below.refl _ _).alloc (Nat.le_refl _) _⟩
            case round =>
              obtain ⟨j, hj, rfl, hO, hb⟩ := hrel
              have hbw : Below w.heap.size w wr := (unhide Hb2).trans (hb.mono (unhide Hb2).size)
              have HBW := hide hbw
              by_cases hlt : j < q
              · have hcj : wr.cell? ⟨bb, off + j, none⟩ = some (.int .u8 (((b.getD j 0).toNat : Nat) : Int)) := (hbw.cell (p := ⟨bb, off + j, none⟩) hbN2).trans (unhide HCELL j (by omega))
                have hts := take_snoc 0 b j (by rw [unhide HLEN]; omega)
                have hzs := zout_snoc (b.take j) (b.getD j 0)
                rw [← hts, List.length_take, Nat.min_eq_left (by rw [unhide HLEN]; omega)] at hzs
                have hzl := zout_le (b.take j) 0
                rw [List.length_take, Nat.min_eq_left (by rw [unhide HLEN]; omega)] at hzl
                have hx8 := (b.getD j 0).toNat_lt
                generalize b.getD j 0 = x at *
                generalize zout 0 (b.take j) = acc at *
                have HZ := hide hzs
                have HO := hide hO
                have Hb := hide hb
                have htm : ((j : Nat) : Int).tmod 64 = ((j % 64 : Nat) : Int) := Int.tmod_eq_emod_of_nonneg (by omega)
                have hzl2 : acc.length ≤ 10000 := by omega
                have hjl : j < len := by omega
                clear hts hzs hzl hO hb hbw hc0 hc1
                by_cases hm : j % 64 = 63
                · rw [hm] at htm
                  have HZ2 : Hid (zout 0 (b.take (j + 1)) = acc) := hide (by rw [unhide HZ, if_pos hm, List.append_nil])
                  clear hm
                  go_wp2
                  go_roundw
                  case rel =>
                    refine ⟨j + 1, by omega, by go_num, ?_, unhide Hb⟩
                    rw [unhide HZ2]
                    exact unhide HO
                  case measure => simp [intOf]; omega
                · obtain ⟨m, hmm⟩ : ∃ m : Nat, m = j % 64 := ⟨_, rfl⟩
                  rw [← hmm] at htm
                  have hm0 : ¬ ((m : Int) = 63) := by omega
                  have HZ2 : Hid (zout 0 (b.take (j + 1)) = acc ++ [x]) := hide (by rw [unhide HZ, if_neg hm])
                  clear hm hmm
                  go_wp2_with (refine wpList_app rfl _ _ rfl w2.heap.size _ acc rfl ((unhide HO).keep fun k hk => Below.heap_alloc _ _ _ hk) ⟨_, 0, none⟩ 1 1 rfl [x] rfl ?_ ?_ ?_ ?_)
                  · intro j hj
                    obtain rfl : j = 0 := by omega
                    rw [Addr.add_lit, cell_fresh]
                    rfl
                  · show acc.length + 1 ≤ _; omega
                  · have := (unhide Hb).size; simp; omega
                  intro v2 w5 hO5 hG5
                  have HO5 := hide hO5
                  have Hb5 : Hid (Below w2.heap.size w2 w5) := hide ((unhide Hb).trans (((Below.refl _ wr).alloc (unhide Hb).size (.cells #[.int .u8 ((x.toNat : Nat) : Int)] 5)).trans (((unhide HO).keep fun k hk => Below.heap_alloc _ _ _ hk).below hG5 (by have := (unhide Hb).size; simp; omega))))
                  clear hO5 hG5
                  go_wp2
                  go_roundw
                  case rel =>
                    refine ⟨j + 1, by omega, by go_num, ?_, unhide Hb5⟩
                    rw [unhide HZ2]
                    exact unhide HO5
                  case measure => simp [intOf]; omega
              · obtain rfl : q = j := by omega
                rw [← unhide HOUT] at hO
                have hRo := hO.row (by rw [unhide HLL]; omega)
                obtain ⟨ag, Lg, cg, rfl, g1, g2, g3, hrg⟩ := hRo
                have hLg : Lg = 63 * sz := by rw [← hrg.1, unhide HLL]
                obtain ⟨gb, go, rfl, hgb, _⟩ := hrg.2.2 0 (by omega)
                have hcg : ¬ cg = 13 := by omega
                have hcg2 : 13 + n ≤ cg := by omega
                have hRB : RowV wr.heap.size wr (.slice (some ⟨gb, go + 13, none⟩) n (cg - 13)) body := by
                  have h1 := hrg.take (13 + n) (by omega)
                  have h2 := h1.drop (cap := cg) (by omega) 13 (by omega) (some ⟨gb, go + 13, none⟩) (.inr (by simp [Addr.add_mid]))
                  rw [List.drop_take, show 13 + n - 13 = n by omega, ← unhide HBODY] at h2
                  exact ⟨_, n, _, rfl, by omega, by omega, (by intro h; cases h), h2⟩
                have HRB := hide hRB
                have hbl : body.length = n := by
                  rw [unhide HBODY, List.length_take, List.length_drop, unhide HLL]; omega
                have HBL := hide hbl
                clear hO hb hbw hRB hbl hrg hLg
                have hk2 : w.cell? ⟨bb, off + 2, none⟩ = some (.int .u8 (((kF b).toNat : Nat) : Int)) := unhide HCELL 2 (by omega)
                have HK2 := hide (fun (w' : World) (h : Below w.heap.size w w') => (h.cell (p := ⟨bb, off + 2, none⟩) hbN2).trans hk2)
                have HTQ := hide (fun (w' : World) (h : Below w.heap.size w w') => (⟨_, q, _, rfl, by omega, q2, (by intro h; cases h), ((unhide HROW).take q hqlen).below (h.mono hN)⟩ : RowV N w' (.slice (some ⟨bb, off, none⟩) q cap) (b.take q)))
                have HBY := hide (fun (w' : World) (h : Below wr.heap.size wr w') => bytes_walk wr.heap.size (kF b) sq hsl (.slice (some ⟨gb, go + 13, none⟩) n (cg - 13)) body w' h.size ((unhide HRB).below h) (by rw [unhide HBL]; exact hn4))
                have hqc : q ≤ cap := by omega
                have hqI2 : ((64 * sz : Nat) : Int) = (q : Int) := by rw [unhide HQ64]
                clear hk2 hc0 hc1 HCELL
                generalize kF b = kk at *
                generalize b.take q = tq at *
                by_cases heq : bytesD kk sq body = tq
                · have HE : Hid ((!((tx (bytesD kk sq body)).toList == (tx tq).toList)) = false) := hide (by rw [heq]; simp)
                  have HO : Hid (getD' b = (kk, sq, body, q)) := hide (by rw [unhide HG, if_pos heq])
                  clear heq HG
                  have HBZ : Hid ((bytesD kk sq body).length ≤ 140737488351232) := hide (by
                    have h1 : (bytesD kk sq body).length ≤ 2 * (fillF (rowF kk sq body)).length := zin_le _ _
                    rw [fillF_length, cutN, rowF_length, unhide HBL] at h1
                    omega)
                  generalize hbz : bytesD kk sq body = bz at *
                  clear hbz
                  go_wp2_with fail
                  rw [show 13 + n - 13 = n by omega]
                  refine Flow.wp_region (VG (fun j => match j with | 0 => .slice (some ⟨bb, off, none⟩) len cap | 1 => .pointer (some ⟨bb, off + 2, none⟩) | 2 => .int .u8 ((kk.toNat : Nat) : Int) | 3 => .int .u64 (sq : Int) | 4 => .slice (some ⟨gb, go + 13, none⟩) n (cg - 13) | 6 => .string (tx bz) | 7 => .slice (some ⟨bb, off, none⟩) len cap | 8 => .int .i64 (q : Int) | 9 => .slice (some ⟨bb, off, none⟩) q cap | 10 => .string (tx tq) | 11 => .bool false | _ => undef) [(5, Sees bz)]) (fun _ (_ : Unit) w' => Below wr.heap.size wr w') () (by kernel_rfl) (by kernel_rfl) (Below.refl _ _).drew ⟨?_, ?_, ?_, ?_, ?_, ?_, ?_, ?_, ?_, ?_, ?_, ?_, trivial⟩ ?_
                  · exact Flow.move (Flow.goes_plain rfl) (fun _ _ _ h => h) (.inl rfl) fun a s w' hs hd => (hs 0 (by kernel_rfl))
                  · exact Flow.pure (Flow.goes_plain rfl) (fun _ _ _ h => h) fun a L s w' hC hL hn hs hd => ⟨_, op_idx27 (k := 2) rfl (hd 0 68 (by kernel_rfl)) rfl (by omega) w', rfl⟩
                  · exact Flow.pure (Flow.goes_plain rfl) (fun _ _ _ h => h) fun a L s w' hC hL hn hs hd => ⟨_, op_load5 rfl (hd 1 69 (by kernel_rfl)) (unhide HK2 w' ((unhide HBW).trans (hC.mono (unhide HBW).size))), rfl⟩
                  · exact Flow.move (Flow.goes_plain rfl) (fun _ _ _ h => h) (.inl rfl) fun a s w' hs hd => (hs 7 (by kernel_rfl))
                  · exact Flow.move (Flow.goes_plain rfl) (fun _ _ _ h => h) (.inl rfl) fun a s w' hs hd => (hs 12 (by kernel_rfl))
                  · refine Flow.call (Flow.goes_plain rfl) fun a L s0 w' hC hL hn hs hd => ⟨11, _, op_call11 rfl (hd 2 70 (by kernel_rfl)) (hd 3 71 (by kernel_rfl)) (hd 4 72 (by kernel_rfl)) rfl w', (unhide HBY w' hC).mono ?_⟩
                    rintro e w'' ⟨v4, rfl, hO4, hb4⟩
                    exact ⟨_, (), rfl, VG.grow (fun y hy => by obtain rfl := List.mem_singleton.1 hy; exact Sees.grows _) hb4, hC.trans (hb4.mono hC.size), hO4.row (unhide HBZ)⟩
                  · refine Flow.pure (Flow.goes_plain rfl) (fun _ _ _ h => h) fun a L s w' hC hL hn hs hd => ?_
                    have h5 : RowV w'.heap.size w' _ bz := hd 5 73 (by kernel_rfl)
                    exact ⟨_, op_text rfl rfl h5, rfl⟩
                  · exact Flow.move (Flow.goes_plain rfl) (fun _ _ _ h => h) (.inl rfl) fun a s w' hs hd => (hs 0 (by kernel_rfl))
                  · exact Flow.move (Flow.goes_plain rfl) (fun _ _ _ h => h) (.inl rfl) fun a s w' hs hd => (hs 9 (by kernel_rfl))
                  · exact Flow.pure (Flow.goes_plain rfl) (fun _ _ _ h => h) fun a L s w' hC hL hn hs hd => ⟨_, op_to27 rfl (hd 7 75 (by kernel_rfl)) (hd 8 76 (by kernel_rfl)) hqc w', rfl⟩
                  · exact Flow.pure (Flow.goes_plain rfl) (fun _ _ _ h => h) fun a L s w' hC hL hn hs hd => ⟨_, op_text rfl (hd 9 77 (by kernel_rfl)) (unhide HTQ w' ((unhide HBW).trans (hC.mono (unhide HBW).size))), rfl⟩
                  · exact Flow.pure (Flow.goes_plain rfl) (fun _ _ _ h => h) fun a L s w' hC hL hn hs hd => ⟨_, op_neq9 rfl (hd 6 74 (by kernel_rfl)) (hd 10 78 (by kernel_rfl)) (unhide HE) w', rfl⟩
                  · intro L _ w8 hC hL vals hv
                    have e11 : vals 11 = .bool false := hv 11 _ 79 rfl rfl
                    simp only [Free.putAll, Act.put, List.setIfInBounds_toArray, List.set_cons_succ, List.set_cons_zero, e11]
                    have HB8 := hide ((unhide HBW).trans (hC.mono (unhide HBW).size))
                    have HB8r := hide hC
                    clear hC hL hv e11
                    generalize vals 0 = t0 at *
                    generalize vals 1 = t1 at *
                    generalize vals 2 = t2 at *
                    generalize vals 3 = t3 at *
                    generalize vals 4 = t4 at *
                    generalize vals 5 = t5 at *
                    generalize vals 6 = t6 at *
                    generalize vals 7 = t7 at *
                    generalize vals 8 = t8 at *
                    generalize vals 9 = t9 at *
                    generalize vals 10 = t10 at *
                    go_wp2_with fail
                    refine Flow.wp_region (VG (fun j => match j with | 0 => .slice (some ⟨bb, off, none⟩) len cap | 1 => .pointer (some ⟨bb, off + 2, none⟩) | 2 => .int .u8 ((kk.toNat : Nat) : Int) | 3 => .int .u64 (sq : Int) | 5 => .slice (some ⟨gb, go + 13, none⟩) n (cg - 13) | 7 => .int .i64 (q : Int) | 8 => .int .u8 ((kk.toNat : Nat) : Int) | 9 => .int .u64 (sq : Int) | 11 => .int .i64 (q : Int) | _ => undef) [(4, EmptyAt), (6, Sees body), (10, Sees body)]) (fun _ (_ : Unit) w' => Below w8.heap.size w8 w') () (by kernel_rfl) (by kernel_rfl) (Below.refl _ _).drew ⟨?_, ?_, ?_, ?_, ?_, ?_, ?_, ?_, ?_, ?_, ?_, ?_, trivial⟩ ?_
                    · exact Flow.move (Flow.goes_plain rfl) (fun _ _ _ h => h) (.inl rfl) fun a s w' hs hd => (hs 0 (by kernel_rfl))
                    · exact Flow.pure (Flow.goes_plain rfl) (fun _ _ _ h => h) fun a L s w' hC hL hn hs hd => ⟨_, op_idx27 (k := 2) rfl (hd 0 80 (by kernel_rfl)) rfl (by omega) w', rfl⟩
                    · exact Flow.pure (Flow.goes_plain rfl) (fun _ _ _ h => h) fun a L s w' hC hL hn hs hd => ⟨_, op_load5 rfl (hd 1 81 (by kernel_rfl)) (unhide HK2 w' ((unhide HB8).trans (hC.mono (unhide HB8).size))), rfl⟩
                    · exact Flow.move (Flow.goes_plain rfl) (fun _ _ _ h => h) (.inl rfl) fun a s w' hs hd => (hs 7 (by kernel_rfl))
                    · refine Flow.value (Flow.goes_plain rfl) fun a L s w' hC hL hn hs hd => ⟨_, (), _, op_none27 rfl w', ?_, hC.alloc hC.size _, ⟨_, rfl⟩⟩
                      exact VG.grow (fun y hy => by
                        simp only [List.mem_cons, List.not_mem_nil, or_false] at hy
                        rcases hy with rfl | rfl | rfl
                        · exact EmptyAt.grows
                        · exact Sees.grows _
                        · exact Sees.grows _) ((Below.refl _ w').alloc (Nat.le_refl _) _)
                    · exact Flow.move (Flow.goes_plain rfl) (fun _ _ _ h => h) (.inl rfl) fun a s w' hs hd => (hs 12 (by kernel_rfl))
                    · refine Flow.value (Flow.goes_plain rfl) fun a L s w' hC hL hn hs hd => ?_
                      have h4 : ∃ b, a.eval (.tmp 84) = .slice (some b) 0 0 := hd 4 84 (by kernel_rfl)
                      obtain ⟨v6, w6, hr6, hR6, hb6⟩ := op_appE (x := .tmp 84) (y := .tmp 85) (ρ := a.eval) rfl (hd 5 85 (by kernel_rfl)) h4 ((unhide HRB).below ((unhide HB8r).trans (hC.mono (unhide HB8r).size))) (by rw [unhide HBL]; omega)
                      exact ⟨v6, (), w6, hr6 _ rfl rfl, VG.grow (fun y hy => by
                        simp only [List.mem_cons, List.not_mem_nil, or_false] at hy
                        rcases hy with rfl | rfl | rfl
                        · exact EmptyAt.grows
                        · exact Sees.grows _
                        · exact Sees.grows _) hb6, hC.trans (hb6.mono hC.size), hR6⟩
                    · exact Flow.move (Flow.goes_plain rfl) (fun _ _ _ h => h) (.inl rfl) fun a s w' hs hd => (hs 9 (by kernel_rfl))
                    · exact Flow.move (Flow.goes_plain rfl) (fun _ _ _ h => h) (.inr rfl) fun a s w' hs hd => (hd 2 82 (by kernel_rfl))
                    · exact Flow.move (Flow.goes_plain rfl) (fun _ _ _ h => h) (.inr rfl) fun a s w' hs hd => (hd 3 83 (by kernel_rfl))
                    · exact Flow.move (Flow.goes_plain rfl) (fun _ _ _ h => h) (.inr rfl) fun a s w' hs hd => (hd 6 86 (by kernel_rfl))
                    · exact Flow.move (Flow.goes_plain rfl) (fun _ _ _ h => h) (.inr rfl) fun a s w' hs hd => (hd 7 87 (by kernel_rfl))
                    · intro L _ w9 hC hL vals2 hv
                      have e8 : vals2 8 = .int .u8 ((kk.toNat : Nat) : Int) := hv 8 _ 2 rfl rfl
                      have e9 : vals2 9 = .int .u64 (sq : Int) := hv 9 _ 3 rfl rfl
                      have e10 : Sees body (vals2 10) () w9 := hv 10 _ 4 rfl rfl
                      have e11 : vals2 11 = .int .i64 (q : Int) := hv 11 _ 5 rfl rfl
                      simp only [Free.putAll, Act.put, List.setIfInBounds_toArray, List.set_cons_succ, List.set_cons_zero, e8, e9, e11]
                      have HB9 := hide ((unhide HB8).trans (hC.mono (unhide HB8).size))
                      have HR9 := hide e10
                      clear hC hL hv e8 e9 e10 e11
                      generalize vals2 10 = v9 at *
                      generalize vals2 0 = s0 at *
                      generalize vals2 1 = s1 at *
                      generalize vals2 2 = s2 at *
                      generalize vals2 3 = s3 at *
                      generalize vals2 4 = s4 at *
                      generalize vals2 5 = s5 at *
                      generalize vals2 6 = s6 at *
                      generalize vals2 7 = s7 at *
                      go_wp2_with fail
                      refine ⟨rfl, .tuple #[.int .u8 ((kk.toNat : Nat) : Int), .int .u64 (sq : Int), v9, .int .i64 (q : Int)], by simp [results, Try.results14], ?_⟩
                      rw [unhide HO]
                      exact ⟨⟨_, rfl, unhide HR9⟩, unhide HB9⟩
                · have HE : Hid ((!((tx (bytesD kk sq body)).toList == (tx tq).toList)) = true) := hide (by
                    simp only [Bool.not_eq_true', beq_eq_false_iff_ne, ne_eq]
                    intro e
                    rw [ByteArray.toList_eq, ByteArray.toList_eq, tx_list, tx_list] at e
                    exact heq e)
                  have HO : Hid (getD' b = noF) := hide (by rw [unhide HG, if_neg heq])
                  clear heq HG
                  have HBZ : Hid ((bytesD kk sq body).length ≤ 140737488351232) := hide (by
                    have h1 : (bytesD kk sq body).length ≤ 2 * (fillF (rowF kk sq body)).length := zin_le _ _
                    rw [fillF_length, cutN, rowF_length, unhide HBL] at h1
                    omega)
                  generalize hbz : bytesD kk sq body = bz at *
                  clear hbz
                  go_wp2_with fail
                  rw [show 13 + n - 13 = n by omega]
                  refine Flow.wp_region (VG (fun j => match j with | 0 => .slice (some ⟨bb, off, none⟩) len cap | 1 => .pointer (some ⟨bb, off + 2, none⟩) | 2 => .int .u8 ((kk.toNat : Nat) : Int) | 3 => .int .u64 (sq : Int) | 4 => .slice (some ⟨gb, go + 13, none⟩) n (cg - 13) | 6 => .string (tx bz) | 7 => .slice (some ⟨bb, off, none⟩) len cap | 8 => .int .i64 (q : Int) | 9 => .slice (some ⟨bb, off, none⟩) q cap | 10 => .string (tx tq) | 11 => .bool true | _ => undef) [(5, Sees bz)]) (fun _ (_ : Unit) w' => Below wr.heap.size wr w') () (by kernel_rfl) (by kernel_rfl) (Below.refl _ _).drew ⟨?_, ?_, ?_, ?_, ?_, ?_, ?_, ?_, ?_, ?_, ?_, ?_, trivial⟩ ?_
                  · exact Flow.move (Flow.goes_plain rfl) (fun _ _ _ h => h) (.inl rfl) fun a s w' hs hd => (hs 0 (by kernel_rfl))
                  · exact Flow.pure (Flow.goes_plain rfl) (fun _ _ _ h => h) fun a L s w' hC hL hn hs hd => ⟨_, op_idx27 (k := 2) rfl (hd 0 68 (by kernel_rfl)) rfl (by omega) w', rfl⟩
                  · exact Flow.pure (Flow.goes_plain rfl) (fun _ _ _ h => h) fun a L s w' hC hL hn hs hd => ⟨_, op_load5 rfl (hd 1 69 (by kernel_rfl)) (unhide HK2 w' ((unhide HBW).trans (hC.mono (unhide HBW).size))), rfl⟩
                  · exact Flow.move (Flow.goes_plain rfl) (fun _ _ _ h => h) (.inl rfl) fun a s w' hs hd => (hs 7 (by kernel_rfl))
                  · exact Flow.move (Flow.goes_plain rfl) (fun _ _ _ h => h) (.inl rfl) fun a s w' hs hd => (hs 12 (by kernel_rfl))
                  · refine Flow.call (Flow.goes_plain rfl) fun a L s0 w' hC hL hn hs hd => ⟨11, _, op_call11 rfl (hd 2 70 (by kernel_rfl)) (hd 3 71 (by kernel_rfl)) (hd 4 72 (by kernel_rfl)) rfl w', (unhide HBY w' hC).mono ?_⟩
                    rintro e w'' ⟨v4, rfl, hO4, hb4⟩
                    exact ⟨_, (), rfl, VG.grow (fun y hy => by obtain rfl := List.mem_singleton.1 hy; exact Sees.grows _) hb4, hC.trans (hb4.mono hC.size), hO4.row (unhide HBZ)⟩
                  · refine Flow.pure (Flow.goes_plain rfl) (fun _ _ _ h => h) fun a L s w' hC hL hn hs hd => ?_
                    have h5 : RowV w'.heap.size w' _ bz := hd 5 73 (by kernel_rfl)
                    exact ⟨_, op_text rfl rfl h5, rfl⟩
                  · exact Flow.move (Flow.goes_plain rfl) (fun _ _ _ h => h) (.inl rfl) fun a s w' hs hd => (hs 0 (by kernel_rfl))
                  · exact Flow.move (Flow.goes_plain rfl) (fun _ _ _ h => h) (.inl rfl) fun a s w' hs hd => (hs 9 (by kernel_rfl))
                  · exact Flow.pure (Flow.goes_plain rfl) (fun _ _ _ h => h) fun a L s w' hC hL hn hs hd => ⟨_, op_to27 rfl (hd 7 75 (by kernel_rfl)) (hd 8 76 (by kernel_rfl)) hqc w', rfl⟩
                  · exact Flow.pure (Flow.goes_plain rfl) (fun _ _ _ h => h) fun a L s w' hC hL hn hs hd => ⟨_, op_text rfl (hd 9 77 (by kernel_rfl)) (unhide HTQ w' ((unhide HBW).trans (hC.mono (unhide HBW).size))), rfl⟩
                  · exact Flow.pure (Flow.goes_plain rfl) (fun _ _ _ h => h) fun a L s w' hC hL hn hs hd => ⟨_, op_neq9 rfl (hd 6 74 (by kernel_rfl)) (hd 10 78 (by kernel_rfl)) (unhide HE) w', rfl⟩
                  · intro L _ w8 hC hL vals hv
                    have e11 : vals 11 = .bool true := hv 11 _ 79 rfl rfl
                    simp only [Free.putAll, Act.put, List.setIfInBounds_toArray, List.set_cons_succ, List.set_cons_zero, e11]
                    have HB8 := hide ((unhide HBW).trans (hC.mono (unhide HBW).size))
                    clear hC hL hv e11
                    generalize vals 0 = t0 at *
                    generalize vals 1 = t1 at *
                    generalize vals 2 = t2 at *
                    generalize vals 3 = t3 at *
                    generalize vals 4 = t4 at *
                    generalize vals 5 = t5 at *
                    generalize vals 6 = t6 at *
                    generalize vals 7 = t7 at *
                    generalize vals 8 = t8 at *
                    generalize vals 9 = t9 at *
                    generalize vals 10 = t10 at *
                    go_wp2_with fail
                    refine ⟨rfl, .tuple #[.int .u8 0, .int .u64 0, .slice none 0 0, .int .i64 0], by simp [results, Try.results14], ?_⟩
                    rw [unhide HO]
                    exact wp_noF w w8 (unhide HB8)
      · have HO : Hid (getD' b = noF) := hide (getD'_no (.inr (.inr (by
          intro e
          apply h1
          rw [unhide HN1, e]
          rfl))))
        have hne1 : ((n1 : Int) != 74) = true := by simp; omega
        go_enter Try.func14, Try.ntmps14
        go_wp2_with fail
        refine ⟨rfl, .tuple #[.int .u8 0, .int .u64 0, .slice none 0 0, .int .i64 0], by simp [results, Try.results14], ?_⟩
        rw [unhide HO]
        exact wp_noF w w (Below.refl _ _)
    · have HO : Hid (getD' b = noF) := hide (getD'_no (.inr (.inl (by
        intro e
        apply h0
        rw [unhide HN0, e]
        rfl))))
      have hne0 : ((n0 : Int) != 66) = true := by simp; omega
      go_enter Try.func14, Try.ntmps14
      go_wp2_with fail
      refine ⟨rfl, .tuple #[.int .u8 0, .int .u64 0, .slice none 0 0, .int .i64 0], by simp [results, Try.results14], ?_⟩
      rw [unhide HO]
      exact wp_noF w w (Below.refl _ _)
end Go.Proofs.Ytkcchadecnkgnaa
