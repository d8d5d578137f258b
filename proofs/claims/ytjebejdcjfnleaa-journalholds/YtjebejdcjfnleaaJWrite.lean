/-
  A journal's write: sectors programmed one behind the other, and kept.
-/
import Derived.Test.YtjebejdcjfnleaaJCalls
namespace Go.Proofs.Ytjebejdcjfnleaa
open Go.RowKit

/-- Sectors in a block of their own. -/
structure SecAt (w : World) (g : Nat) (ss : List Sec) : Prop where
  lt : g < w.heap.size
  row : ∀ i, i < ss.length → w.rangeAt g (i * 64) (bytesV (ss.getD i []))
  sec : ∀ s ∈ ss, s.length = 64
theorem range_same {w w' : World} {b o : Nat} {vs : List Value} (h : w.rangeAt b o vs) (hb : w'.heap[b]? = w.heap[b]?) : w'.rangeAt b o vs := fun i v hi => (cell_same hb).trans (h i v hi)
theorem SecAt.same {w w' : World} {g : Nat} {ss : List Sec} (h : SecAt w g ss) (hb : w'.heap[g]? = w.heap[g]?) (hs : w.heap.size ≤ w'.heap.size) : SecAt w' g ss :=
  ⟨Nat.lt_of_lt_of_le h.lt hs, fun i hi => range_same (h.row i hi) hb, h.sec⟩
theorem SecAt.below {w w' : World} {g : Nat} {ss : List Sec} (h : SecAt w g ss) (hb : Below w.heap.size w w') : SecAt w' g ss := h.same (hb.block g h.lt) hb.size
theorem SecAt.but {w w' : World} {G : List Nat} {g : Nat} {ss : List Sec} (h : SecAt w g ss) (hb : But G w w') (hn : g ∉ G) : SecAt w' g ss := h.same (hb.block g h.lt hn) hb.size
theorem SOwn.at {B : Nat} {w : World} {v : Value} {ss : List Sec} (h : SOwn B w v ss) (hne : 0 < ss.length) : ∃ g cap, v = .slice (some ⟨g, 0, none⟩) ss.length cap ∧ B ≤ g ∧ ss.length ≤ cap ∧ cap ≤ maxLen ∧ SecAt w g ss := by
  have hr := h.row
  rcases h.1.2 with ⟨e, h0⟩ | ⟨g, cap, cur, e, hb, hh, hcap, hmax, hcur, htk⟩
  · omega
  · obtain ⟨a, len, cap2, e2, _, _, _, hrow⟩ := hr
    rw [e] at e2
    cases e2
    refine ⟨g, cap, e, hb, hcap, hmax, (Array.getElem?_eq_some_iff.1 hh).1, fun i hi => ?_, h.2⟩
    obtain ⟨b, off, ha, _, hc⟩ := hrow.2.2 i hi
    cases ha
    rwa [Nat.zero_add] at hc
theorem prog_stop {d d1 : DM} {x x1 : MX} {part at_ : Nat} {s : Sec} {ss : List Sec} {e1 : Int} (h : programM s d x (part : Int) (at_ : Int) = (e1, d1, x1)) (h0 : e1 ≠ 0) : progJ d x part at_ (s :: ss) = (e1, d1, x1) := by
  rw [progJ, h, if_pos h0]
theorem prog_on {d d1 : DM} {x x1 : MX} {part at_ : Nat} {s : Sec} {ss : List Sec} (h : programM s d x (part : Int) (at_ : Int) = (0, d1, x1)) : progJ d x part at_ (s :: ss) = progJ d1 x1 part (at_ + 1) ss := by
  rw [progJ, h, if_neg (by simp)]
theorem programM_few (s : Sec) (d : DM) (x : MX) (i k : Int) : (programM s d x i k).2.1.wait.length ≤ d.wait.length + 1 ∧ (programM s d x i k).2.2.ops.length ≤ x.ops.length + 1 :=
  ⟨opG_wait 2 (fun d i => program_wait d i s) d x i k, opG_ops _ _ _ _ _ _⟩

section
variable {F D G : List Nat} {w w' : World} {q m p : Nat} {d : DM} {x : MX} {j : JX}
set_option maxHeartbeats 3200000 in
set_option maxRecDepth 100000 in
theorem write_walk (h : Jour F D w q m p d x j) (i : Nat) (hi : i ≤ 1) (at_ : Nat) (hat : at_ ≤ 4096) (ss : List Sec) (g cap : Nat) (hss : SecAt w g ss) (hg : g ∉ q :: (F ++ D)) (hsl : ss.length ≤ 64) (hcap : ss.length ≤ cap) (hlen : d.wait.length ≤ 900000) (hop : x.ops.length ≤ 900000) :
    Calls Try.prog 26 #[.pointer (some ⟨q, 0, none⟩), .int .i64 (i : Int), .int .i64 (at_ : Int), .slice (some ⟨g, 0, none⟩) ss.length cap] w fun e w' =>
    e = .returned (.int .i64 (writeJ d x (j.bk i) at_ ss).1) ∧ ∃ F' D', Jour F' D' w' q m p (writeJ d x (j.bk i) at_ ss).2.1 (writeJ d x (j.bk i) at_ ss).2.2 j ∧ Turns (q :: (F ++ D)) (q :: (F' ++ D')) w w' := by
  have HH := hide h
  have HSS := hide hss
  have HG := hide hg
  have hnl := hss.lt
  clear h hss hg
  obtain ⟨n, hn⟩ : ∃ n, ss.length = n := ⟨_, rfl⟩
  have HN := hide hn
  rw [hn]
  rw [hn] at hsl hcap
  obtain ⟨b, hbk⟩ : ∃ b, j.bk i = b := ⟨_, rfl⟩
  have HBK := hide hbk
  rw [hbk]
  clear hbk hn
  go_enter Try.func26, Try.ntmps26
  go_wp2_with fail
  go_loopw [14] (fun ci wr => ∃ (k : Nat) (F' D' : List Nat) (d' : DM) (x' : MX), k ≤ n ∧ ci = .int .i64 (k : Int) ∧ progJ d x b at_ ss = progJ d' x' b (at_ + k) (ss.drop k) ∧ Jour F' D' wr q m p d' x' j ∧ Turns (q :: (F ++ D)) (q :: (F' ++ D')) w wr ∧ SecAt wr g ss ∧ g ∉ q :: (F' ++ D') ∧ d'.wait.length ≤ 900000 + k ∧ x'.ops.length ≤ 900000 + k ∧ x'.sz = x.sz) (fun ci _ => n - (intOf ci).toNat)
  case atStart => exact ⟨0, F, D, d, x, by omega, rfl, by simp, unhide HH, Turns.refl _ _, unhide HSS, unhide HG, by omega, by omega, rfl⟩
  case round =>
    obtain ⟨k, F', D', d', x', hk, rfl, hpj, hJ, hT, hS, hgn, hwl, hol, hsz⟩ := hrel
    by_cases hlt : k < n
    · have hlt' : k < ss.length := by rw [unhide HN]; exact hlt
      have hrow := hS.row k hlt'
      have hsec : (ss.getD k []).length = 64 := by
        rw [List.getD_eq_getElem?_getD, List.getElem?_eq_getElem hlt']
        exact hS.sec _ (List.getElem_mem _)
      have hdrop : ss.drop k = ss.getD k [] :: ss.drop (k + 1) := by
        rw [List.drop_eq_getElem_cons hlt', List.getD_eq_getElem?_getD, List.getElem?_eq_getElem hlt']; rfl
      rw [hdrop] at hpj
      generalize ss.getD k [] = s at *
      have HJ := hide hJ
      have HT := hide hT
      have HS := hide hS
      have HGN := hide hgn
      have HSEC := hide hsec
      have HPJ := hide hpj
      have HSZ := hide hsz
      obtain ⟨cs, hcs⟩ : ∃ cs, cs = bytesV s := ⟨_, rfl⟩
      rw [← hcs] at hrow
      have HCS := hide hcs
      have HCL : Hid (cs.length = 64) := hide (by rw [hcs, bytesV_length, hsec])
      have HONE : Hid (∀ v ∈ cs, v.oneCell' = true) := hide (by rw [hcs]; exact bytesV_one s)
      have HRG := hide hrow
      have hgl := hS.lt
      clear hJ hT hS hgn hsec hpj hcs hrow hdrop hlt' hsz
      go_wp2_with (first
        | refine wpList_load_mid rfl 75 _ rfl g (k * 64) rfl cs _ (unhide HRG) Try.underlying75 rfl (by rw [unhide HCL]; exact info75) ?_
        | refine wpList_alloc 75 75 (bytesV zeroS) rfl rfl alloc75 ?_)
      intro w2 hA2 hb2 hs2
      have HA2 := hide hA2
      have HB2 := hide hb2
      have hfr2 : w2.heap.size = wr.heap.size + 1 := hs2
      clear hA2 hb2 hs2 HRG
      go_wp2_with (refine wpList_storeAll 75 _ _ wr.heap.size cs (bytesV zeroS) rfl rfl rfl rfl (unhide HA2) (by rw [unhide HCL, bytesV_length, zeroS_len]) (by rw [unhide HCL]; exact info75) (unhide HONE) ?_)
      intro w3 hA3 hg3 hs3
      have hb3 : Below wr.heap.size wr w3 := (unhide HB2).grown hg3 (by omega) (fun k hk => by simp at hk; omega)
      have HA3 := hide hA3
      have HJ3 := hide ((unhide HJ).below hb3)
      have HT3 := hide ((unhide HT).then hb3)
      have HS3 := hide ((unhide HS).below hb3)
      have HB3 := hide hb3
      have hz3 : w3.heap.size = wr.heap.size + 1 := by omega
      have hal : wr.heap.size < w3.heap.size := by omega
      obtain ⟨e1, d1, x1, hpg⟩ : ∃ e1 d1 x1, programM s d' x' (b : Int) ((at_ + k : Nat) : Int) = (e1, d1, x1) := ⟨_, _, _, rfl⟩
      have HPG := hide hpg
      have HP : ∀ w', Below w3.heap.size w3 w' → Hid (Calls Try.prog 39 #[.pointer (some ⟨m, 0, none⟩), .int .i64 (b : Int), .int .i64 ((at_ + k : Nat) : Int), secV s] w' fun e w2 => e = .returned (.int .i64 e1) ∧ ∃ F3 D3, PMap F3 D3 w2 m p d1 x1 ∧ Turns (F' ++ D') (F3 ++ D3) w' w2) := fun w' hb => by
        have := mprogram_walk ((unhide HJ3).below hb).map (b : Int) ((at_ + k : Nat) : Int) (by omega) s (unhide HSEC) (by omega) (by omega)
        rw [hpg] at this
        exact hide this
      have HX1 : Hid (x1.sz = x'.sz) := hide (by
        have := programM_sz s d' x' (b : Int) ((at_ + k : Nat) : Int)
        rw [hpg] at this
        exact this)
      have hfw : d1.wait.length ≤ d'.wait.length + 1 ∧ x1.ops.length ≤ x'.ops.length + 1 := by
        have := programM_few s d' x' (b : Int) ((at_ + k : Nat) : Int)
        rw [hpg] at this
        exact this
      clear hA3 hg3 hs3 hb3 hpg HA2 HB2 HJ HT HS hfr2
      generalize hBS : wr.heap.size = bs at *
      have HBS := hide hBS
      clear hBS
      by_cases h0 : e1 = 0
      · subst h0
        have HON := hide (prog_on (ss := ss.drop (k + 1)) (unhide HPG))
        go_wp2_with fail
        refine Flow.wp_region (Flow.VV (fun ix => match ix with | 0 => .pointer (some ⟨q, 0, none⟩) | 1 => .pointer (some ⟨q, 0, none⟩) | 2 => .pointer (some ⟨q, 0, none⟩) | 3 => .pointer (some ⟨m, 0, none⟩) | 4 => .pointer (some ⟨q, 0, none⟩) | 5 => .int .i64 (i : Int) | 6 => .pointer (some ⟨q, 0, none⟩) | 7 => .pointer (some ⟨q, 1, none⟩) | 8 => .pointer (some ⟨q, 1 + i, none⟩) | 9 => .int .i64 (b : Int) | 10 => .int .i64 (at_ : Int) | 11 => .int .i64 (k : Int) | 12 => .int .i64 ((at_ + k : Nat) : Int) | 13 => secV s | 14 => .int .i64 0 | 15 => .int .i64 0 | _ => undef)) (Flow.two 14 (fun (_ : Unit) w' => Below w3.heap.size w3 w') (fun _ w' => ∃ F3 D3, PMap F3 D3 w' m p d1 x1 ∧ Turns (F' ++ D') (F3 ++ D3) w3 w')) () (by kernel_rfl) (by kernel_rfl) (Below.refl _ w3).drew ⟨?_, ?_, ?_, ?_, ?_, ?_, ?_, ?_, ?_, ?_, ?_, ?_, ?_, ?_, ?_, ?_, trivial⟩ ?_
        · exact Flow.move (Flow.goes_plain rfl) (Flow.two.upd (by decide)) (.inl rfl) fun a s w' hs hd => (hs 0 (by kernel_rfl))
        · exact Flow.pure (Flow.goes_plain rfl) (Flow.two.upd (by decide)) fun a L s w' hC hL hn hs hd => ⟨_, op_nil rfl (hd 0 19 (by kernel_rfl)) w', rfl⟩
        · exact Flow.pure (Flow.goes_plain rfl) (Flow.two.upd (by decide)) fun a L s w' hC hL hn hs hd => ⟨_, op_f57_0 rfl (hd 1 20 (by kernel_rfl)) w', rfl⟩
        · refine Flow.pure (Flow.goes_plain rfl) (Flow.two.upd (by decide)) fun a L s w' hC hL hn hs hd => ?_
          skip
          exact ⟨_, op_load27 rfl (hd 2 21 (by kernel_rfl)) (((unhide HJ3).below (hC.pre (hn.after 14 (by kernel_rfl)))).arr.cell (i := 0) rfl), rfl⟩
        · exact Flow.move (Flow.goes_plain rfl) (Flow.two.upd (by decide)) (.inl rfl) fun a s w' hs hd => (hs 0 (by kernel_rfl))
        · exact Flow.move (Flow.goes_plain rfl) (Flow.two.upd (by decide)) (.inl rfl) fun a s w' hs hd => (hs 1 (by kernel_rfl))
        · exact Flow.pure (Flow.goes_plain rfl) (Flow.two.upd (by decide)) fun a L s w' hC hL hn hs hd => ⟨_, op_nil rfl (hd 4 23 (by kernel_rfl)) w', rfl⟩
        · exact Flow.pure (Flow.goes_plain rfl) (Flow.two.upd (by decide)) fun a L s w' hC hL hn hs hd => ⟨_, op_f57_1 rfl (hd 6 25 (by kernel_rfl)) w', rfl⟩
        · refine Flow.pure (Flow.goes_plain rfl) (Flow.two.upd (by decide)) fun a L s w' hC hL hn hs hd => ?_
          skip
          exact ⟨_, op_idx29 rfl (hd 7 26 (by kernel_rfl)) (hd 5 24 (by kernel_rfl)) (by omega) w', rfl⟩
        · refine Flow.pure (Flow.goes_plain rfl) (Flow.two.upd (by decide)) fun a L s w' hC hL hn hs hd => ?_
          skip
          exact ⟨_, op_load3 rfl (hd 8 27 (by kernel_rfl)) ((((unhide HJ3).below (hC.pre (hn.after 14 (by kernel_rfl)))).bank hi).trans (by rw [unhide HBK]; rfl)), rfl⟩
        · exact Flow.move (Flow.goes_plain rfl) (Flow.two.upd (by decide)) (.inl rfl) fun a s w' hs hd => (hs 2 (by kernel_rfl))
        · exact Flow.move (Flow.goes_plain rfl) (Flow.two.upd (by decide)) (.inl rfl) fun a s w' hs hd => (hs 9 (by kernel_rfl))
        · refine Flow.pure (Flow.goes_plain rfl) (Flow.two.upd (by decide)) fun a L s w' hC hL hn hs hd => ?_
          skip
          exact ⟨_, op_add3 rfl (hd 10 29 (by kernel_rfl)) (hd 11 30 (by kernel_rfl)) (by omega) (by omega) (by omega) w', rfl⟩
        · refine Flow.pure (Flow.goes_plain rfl) (Flow.two.upd (by decide)) fun a L s w' hC hL hn hs hd => ?_
          skip
          exact ⟨_, op_load75 rfl (hs 10 (by kernel_rfl)) (by rw [← unhide HCS]; exact ((unhide HA3).below (hC.pre (hn.after 14 (by kernel_rfl)))).range) (unhide HSEC), rfl⟩
        · refine Flow.call (Flow.goes_plain rfl) fun a L s0 w' hC hL hn hs hd => ⟨39, _, op_call39 rfl (hd 3 22 (by kernel_rfl)) (hd 9 28 (by kernel_rfl)) (hd 12 31 (by kernel_rfl)) (hd 13 32 (by kernel_rfl)) rfl w', (unhide (HP w' (hC.pre hL))).mono ?_⟩
          rintro e w'' ⟨rfl, F3, D3, hM, hT⟩
          exact ⟨_, (), rfl, fun _ _ _ h => h, Flow.two.post ⟨F3, D3, hM, Turns.after (hC.pre hL) hT⟩, rfl⟩
        · exact Flow.move (Flow.goes_plain rfl) (Flow.two.upd (by decide)) (.inr rfl) fun a s w' hs hd => (hd 14 33 (by kernel_rfl))
        · intro L _ w4 hC hL vals hv
          obtain ⟨F3, D3, hM4, hT4⟩ := hC.end (hL 14 (by decide))
          have e15 : vals 15 = .int .i64 0 := hv 15 _ 11 rfl rfl
          simp only [Free.putAll, Act.put, List.setIfInBounds_toArray, List.set_cons_succ, List.set_cons_zero, e15]
          have HJ4 := hide ((unhide HJ3).turn hT4 hM4 (unhide HX1))
          have HG4 : Hid (g ∉ q :: (F3 ++ D3)) := hide ((unhide HJ4).2.apart (G := [g]) (fun k hk => by rw [List.mem_singleton.1 hk]; exact unhide HGN) (fun k hk => by rw [List.mem_singleton.1 hk]; exact (unhide HS3).lt) g (by simp))
          have HS4 := hide ((unhide HS3).but hT4.1 (fun e => unhide HGN (List.mem_cons_of_mem _ e)))
          clear hC hL hv e15 hM4 hT4 HJ3 HS3 HA3
          generalize vals 0 = t0 at *
          generalize vals 1 = t1 at *
          generalize vals 2 = t2 at *
          generalize vals 3 = t3 at *
          generalize vals 4 = t4 at *
          generalize vals 5 = t5 at *
          generalize vals 6 = t6 at *
          generalize vals 7 = t7 at *
          generalize vals 8 = t8 at *
          generalize vals 9 = t9 at *
          generalize vals 10 = t10 at *
          generalize vals 11 = t11 at *
          generalize vals 12 = t12 at *
          generalize vals 13 = t13 at *
          generalize vals 14 = t14 at *
          go_wp2
          go_roundw
          case rel => exact ⟨k + 1, F3, D3, d1, x1, by omega, rfl, (unhide HPJ).trans (unhide HON), (unhide HJ4).1, (unhide HT3).trans (unhide HJ4).2, unhide HS4, unhide HG4, by omega, by omega, (unhide HX1).trans (unhide HSZ)⟩
          case measure => simp [intOf]; omega
      · have hne : (e1 != 0) = true := by simpa using h0
        have HE : Hid (writeJ d x b at_ ss = (e1, d1, x1)) := hide (by unfold writeJ; rw [unhide HPJ, prog_stop (unhide HPG) h0]; simp [thenSync, h0])
        go_wp2_with fail
        refine Flow.wp_region (Flow.VV (fun ix => match ix with | 0 => .pointer (some ⟨q, 0, none⟩) | 1 => .pointer (some ⟨q, 0, none⟩) | 2 => .pointer (some ⟨q, 0, none⟩) | 3 => .pointer (some ⟨m, 0, none⟩) | 4 => .pointer (some ⟨q, 0, none⟩) | 5 => .int .i64 (i : Int) | 6 => .pointer (some ⟨q, 0, none⟩) | 7 => .pointer (some ⟨q, 1, none⟩) | 8 => .pointer (some ⟨q, 1 + i, none⟩) | 9 => .int .i64 (b : Int) | 10 => .int .i64 (at_ : Int) | 11 => .int .i64 (k : Int) | 12 => .int .i64 ((at_ + k : Nat) : Int) | 13 => secV s | 14 => .int .i64 e1 | 15 => .int .i64 e1 | _ => undef)) (Flow.two 14 (fun (_ : Unit) w' => Below w3.heap.size w3 w') (fun _ w' => ∃ F3 D3, PMap F3 D3 w' m p d1 x1 ∧ Turns (F' ++ D') (F3 ++ D3) w3 w')) () (by kernel_rfl) (by kernel_rfl) (Below.refl _ w3).drew ⟨?_, ?_, ?_, ?_, ?_, ?_, ?_, ?_, ?_, ?_, ?_, ?_, ?_, ?_, ?_, ?_, trivial⟩ ?_
        · exact Flow.move (Flow.goes_plain rfl) (Flow.two.upd (by decide)) (.inl rfl) fun a s w' hs hd => (hs 0 (by kernel_rfl))
        · exact Flow.pure (Flow.goes_plain rfl) (Flow.two.upd (by decide)) fun a L s w' hC hL hn hs hd => ⟨_, op_nil rfl (hd 0 19 (by kernel_rfl)) w', rfl⟩
        · exact Flow.pure (Flow.goes_plain rfl) (Flow.two.upd (by decide)) fun a L s w' hC hL hn hs hd => ⟨_, op_f57_0 rfl (hd 1 20 (by kernel_rfl)) w', rfl⟩
        · refine Flow.pure (Flow.goes_plain rfl) (Flow.two.upd (by decide)) fun a L s w' hC hL hn hs hd => ?_
          skip
          exact ⟨_, op_load27 rfl (hd 2 21 (by kernel_rfl)) (((unhide HJ3).below (hC.pre (hn.after 14 (by kernel_rfl)))).arr.cell (i := 0) rfl), rfl⟩
        · exact Flow.move (Flow.goes_plain rfl) (Flow.two.upd (by decide)) (.inl rfl) fun a s w' hs hd => (hs 0 (by kernel_rfl))
        · exact Flow.move (Flow.goes_plain rfl) (Flow.two.upd (by decide)) (.inl rfl) fun a s w' hs hd => (hs 1 (by kernel_rfl))
        · exact Flow.pure (Flow.goes_plain rfl) (Flow.two.upd (by decide)) fun a L s w' hC hL hn hs hd => ⟨_, op_nil rfl (hd 4 23 (by kernel_rfl)) w', rfl⟩
        · exact Flow.pure (Flow.goes_plain rfl) (Flow.two.upd (by decide)) fun a L s w' hC hL hn hs hd => ⟨_, op_f57_1 rfl (hd 6 25 (by kernel_rfl)) w', rfl⟩
        · refine Flow.pure (Flow.goes_plain rfl) (Flow.two.upd (by decide)) fun a L s w' hC hL hn hs hd => ?_
          skip
          exact ⟨_, op_idx29 rfl (hd 7 26 (by kernel_rfl)) (hd 5 24 (by kernel_rfl)) (by omega) w', rfl⟩
        · refine Flow.pure (Flow.goes_plain rfl) (Flow.two.upd (by decide)) fun a L s w' hC hL hn hs hd => ?_
          skip
          exact ⟨_, op_load3 rfl (hd 8 27 (by kernel_rfl)) ((((unhide HJ3).below (hC.pre (hn.after 14 (by kernel_rfl)))).bank hi).trans (by rw [unhide HBK]; rfl)), rfl⟩
        · exact Flow.move (Flow.goes_plain rfl) (Flow.two.upd (by decide)) (.inl rfl) fun a s w' hs hd => (hs 2 (by kernel_rfl))
        · exact Flow.move (Flow.goes_plain rfl) (Flow.two.upd (by decide)) (.inl rfl) fun a s w' hs hd => (hs 9 (by kernel_rfl))
        · refine Flow.pure (Flow.goes_plain rfl) (Flow.two.upd (by decide)) fun a L s w' hC hL hn hs hd => ?_
          skip
          exact ⟨_, op_add3 rfl (hd 10 29 (by kernel_rfl)) (hd 11 30 (by kernel_rfl)) (by omega) (by omega) (by omega) w', rfl⟩
        · refine Flow.pure (Flow.goes_plain rfl) (Flow.two.upd (by decide)) fun a L s w' hC hL hn hs hd => ?_
          skip
          exact ⟨_, op_load75 rfl (hs 10 (by kernel_rfl)) (by rw [← unhide HCS]; exact ((unhide HA3).below (hC.pre (hn.after 14 (by kernel_rfl)))).range) (unhide HSEC), rfl⟩
        · refine Flow.call (Flow.goes_plain rfl) fun a L s0 w' hC hL hn hs hd => ⟨39, _, op_call39 rfl (hd 3 22 (by kernel_rfl)) (hd 9 28 (by kernel_rfl)) (hd 12 31 (by kernel_rfl)) (hd 13 32 (by kernel_rfl)) rfl w', (unhide (HP w' (hC.pre hL))).mono ?_⟩
          rintro e w'' ⟨rfl, F3, D3, hM, hT⟩
          exact ⟨_, (), rfl, fun _ _ _ h => h, Flow.two.post ⟨F3, D3, hM, Turns.after (hC.pre hL) hT⟩, rfl⟩
        · exact Flow.move (Flow.goes_plain rfl) (Flow.two.upd (by decide)) (.inr rfl) fun a s w' hs hd => (hd 14 33 (by kernel_rfl))
        · intro L _ w4 hC hL vals hv
          obtain ⟨F3, D3, hM4, hT4⟩ := hC.end (hL 14 (by decide))
          have e15 : vals 15 = .int .i64 e1 := hv 15 _ 11 rfl rfl
          simp only [Free.putAll, Act.put, List.setIfInBounds_toArray, List.set_cons_succ, List.set_cons_zero, e15]
          have HJ4 := hide ((unhide HJ3).turn hT4 hM4 (unhide HX1))
          have HG4 : Hid (g ∉ q :: (F3 ++ D3)) := hide ((unhide HJ4).2.apart (G := [g]) (fun k hk => by rw [List.mem_singleton.1 hk]; exact unhide HGN) (fun k hk => by rw [List.mem_singleton.1 hk]; exact (unhide HS3).lt) g (by simp))
          have HS4 := hide ((unhide HS3).but hT4.1 (fun e => unhide HGN (List.mem_cons_of_mem _ e)))
          clear hC hL hv e15 hM4 hT4 HJ3 HS3 HA3
          generalize vals 0 = t0 at *
          generalize vals 1 = t1 at *
          generalize vals 2 = t2 at *
          generalize vals 3 = t3 at *
          generalize vals 4 = t4 at *
          generalize vals 5 = t5 at *
          generalize vals 6 = t6 at *
          generalize vals 7 = t7 at *
          generalize vals 8 = t8 at *
          generalize vals 9 = t9 at *
          generalize vals 10 = t10 at *
          generalize vals 11 = t11 at *
          generalize vals 12 = t12 at *
          generalize vals 13 = t13 at *
          generalize vals 14 = t14 at *
          go_wp2
          go_ret
          refine ⟨by rw [unhide HE]; rfl, ?_⟩
          rw [unhide HE]
          exact ⟨F3, D3, (unhide HJ4).1, (unhide HT3).trans (unhide HJ4).2⟩
    · have hkn : k = n := by omega
      subst hkn
      rw [show ss.drop k = [] by rw [← unhide HN, List.drop_length]] at hpj
      have HE : Hid (writeJ d x b at_ ss = ((syncD d').1, (syncD d').2, x')) := hide (by unfold writeJ; rw [hpj]; simp [progJ, thenSync])
      have HJ := hide hJ
      have HT := hide hT
      have hc0 := hJ.arr.cell (i := 0) rfl
      have HSY := hide (msync_walk hJ.map (by omega))
      clear hpj hJ hT hS hgn
      go_wp2_with fail
      refine (unhide HSY).mono ?_
      rintro e w3 ⟨rfl, D3, hM3, hT3⟩
      have HJ3 := hide ((unhide HJ).sync hT3 hM3)
      clear hM3 hT3 HSY hc0
      go_wp2
      go_ret
      refine ⟨by rw [unhide HE]; rfl, ?_⟩
      rw [unhide HE]
      exact ⟨F', D3, (unhide HJ3).1, (unhide HT).trans (unhide HJ3).2⟩
end
end Go.Proofs.Ytjebejdcjfnleaa
