/-
  Sync of the program's device.
-/
import Derived.Test.YtlgknllcnkainaaProgram
namespace Go.Proofs.Ytlgknllcnkainaa
open Go.RowKit

theorem DevB.keptSet {bk bn bw : Nat} {wv : Value} {w : World} {p : Nat} {d : DM} (h : DevB bk bn bw wv w p d) {k : Nat} (hk : k < d.kept.length) {s : Sec} (hs : s.length = 64) : DevB bk bn bw wv (w.setCells bk (k * 64) (bytesV s)) p { d with kept := d.kept.set k s } := by
  obtain ⟨n1, n2, n3, n4, n5, n6, n7, n8, n9, n10, _⟩ := nodupF h.nodup
  have hb := setCells_but bk (k * 64) (bytesV s) w
  have e : devV bk bn bw wv { d with kept := d.kept.set k s } = devV bk bn bw wv d := by simp [devV]
  have el : (d.kept.set k s).length = d.kept.length := List.length_set
  refine { ok := { h.ok with now := h.ok.now.trans el.symm, wear := h.ok.wear.trans el.symm, keptS := set_mem h.ok.keptS _ _ hs, waitS := ?_, few := by show (d.kept.set k s).length ≤ _; rw [el]; exact h.ok.few }, nodup := h.nodup, dev := by rw [e]; exact h.dev.same (hb _ n1), kept := h.kept.secSet h.ok.keptS hk hs, now := h.now.same (hb _ n4.symm), wear := h.wear.same (hb _ n5.symm), wait := owns_same h.wait fun j hj => hb j (n8 j hj).symm }
  intro x hx
  have := h.ok.waitS x hx
  show x.1 < (d.kept.set k s).length ∧ _
  rw [el]; exact this
theorem DevB.noWait {bk bn bw : Nat} {wv : Value} {w : World} {p : Nat} {d : DM} (h : DevB bk bn bw wv w p d) :
    DevB bk bn bw (.slice none 0 0) (w.setCell ⟨p, 2, none⟩ (.slice none 0 0)) p { d with wait := [] } ∧ Turns (devF p bk bn bw wv) (devF p bk bn bw (.slice none 0 0)) w (w.setCell ⟨p, 2, none⟩ (.slice none 0 0)) := by
  obtain ⟨n1, n2, n3, n4, n5, n6, n7, n8, n9, n10, _⟩ := nodupF h.nodup
  refine ⟨{ ok := { h.ok with waitS := fun x hx => by cases hx }, nodup := ?_, dev := h.dev.set 2 _, kept := h.kept.other _ _ n1.symm, now := h.now.other _ _ n2.symm, wear := h.wear.other _ _ n3.symm, wait := World.ownsRow_nil _ _ _ _ }, But.of_grown (set_grown _ _ _ _) (by simp [devF]), ?_⟩
  · simp [devF, Value.ownBlock, n1, n2, n3, n4, n5, n6]
  · intro k hk
    simp only [devF, List.mem_cons, Value.ownBlock, Option.toList_none, List.not_mem_nil, or_false] at hk ⊢
    rcases hk with e | e | e | e
    · exact .inl (.inl e)
    · exact .inl (.inr (.inl e))
    · exact .inl (.inr (.inr (.inl e)))
    · exact .inl (.inr (.inr (.inr (.inl e))))
theorem owns_range {w : World} {e : TypeId} {v : Value} {l : List (Nat × Sec)} (h : w.ownsRow 0 e 65 v l.length (donesV l)) (hl : ∀ x ∈ l, x.2.length = 64) {i : Nat} (hi : i < l.length) :
    ∃ g cap, v = .slice (some ⟨g, 0, none⟩) l.length cap ∧ w.rangeAt g (i * 65) (doneV (l.getD i (0, []))) := by
  rcases h.2 with ⟨_, h0⟩ | ⟨g, cap, cur, rfl, _, hg, hc, _⟩
  · omega
  · refine ⟨g, cap, rfl, fun j u hj => ?_⟩
    have := h.cells (g := g) rfl (i * 65 + j) u (donesV_range hl hi j u hj)
    rw [Addr.add_mid, Nat.zero_add] at this
    exact this
theorem alloc101 (w : World) : (Instr.alloc 101 true (.tuple #[])).run Try.prog w = .ok (.pointer (some ⟨w.heap.size, 0, none⟩)) (w.alloc (.cells (doneV (0, zeroS)).toArray 101)) := by kernel_rfl
theorem info101 {x : Nat × Sec} (h : x.2.length = 64) : (Try.prog.info? 101).map (·.size) = some (doneV x).length := by rw [doneV_length h]; kernel_rfl
theorem alloc99 (w : World) : (Instr.alloc 99 true (.tuple #[])).run Try.prog w = .ok (.pointer (some ⟨w.heap.size, 0, none⟩)) (w.alloc (.cells (doneV (0, zeroS)).toArray 99)) := by kernel_rfl
theorem info99 {x : Nat × Sec} (h : x.2.length = 64) : (Try.prog.info? 99).map (·.size) = some (doneV x).length := by rw [doneV_length h]; kernel_rfl
theorem getD_mem_done {l : List (Nat × Sec)} {i : Nat} (hi : i < l.length) : l.getD i (0, []) ∈ l := by
  rw [List.getD_eq_getElem?_getD, List.getElem?_eq_getElem hi]
  exact List.getElem_mem hi
theorem layAll_take (k : List Sec) (l : List (Nat × Sec)) {i : Nat} (hi : i < l.length) : layAll k (l.take (i + 1)) = (layAll k (l.take i)).set (l.getD i (0, [])).1 (l.getD i (0, [])).2 := by
  rw [List.take_succ_eq_append_getElem hi, layAll_snoc, List.getD_eq_getElem?_getD, List.getElem?_eq_getElem hi]
  rfl
/-- A thing done in a block of its own: its sector. -/
theorem Arr.doneSec {w : World} {b : Nat} {n : Nat} {s : Sec} (h : Arr w b (doneV (n, s))) : w.rangeAt b 1 (bytesV s) := h.rangeMid 1 _ fun j v hj => by
  rw [Nat.add_comm]
  exact hj

section
variable {F : List Nat} {w : World} {p : Nat} {d : DM}

set_option maxHeartbeats 1600000 in
set_option maxRecDepth 100000 in
theorem sync_walk (h : Dev F w p d) (hlen : d.wait.length ≤ 1000000) :
    Calls Try.prog 44 #[.pointer (some ⟨p, 0, none⟩)] w fun e w' => e = .returned (.int .i64 (syncD d).1) ∧ ∃ F', Dev F' w' p (syncD d).2 ∧ Turns F F' w w' := by
  have HD := hide h
  have HST := hide (step_walk h)
  have hc6 : w.cell? ⟨p, 6, none⟩ = some (.bool d.down) := by
    obtain ⟨bk, bn, bw, wv, rfl, hB⟩ := h
    exact hB.dev.cell (i := 6) rfl
  clear h
  cases hdn : d.down with
  | true =>
    have E : Hid (syncD d = (62, d)) := hide (by unfold syncD; rw [if_pos hdn])
    rw [unhide E]
    rw [hdn] at hc6
    go_enter Try.func44, Try.ntmps44
    go_wp2_with fail
    go_ret
    exact ⟨rfl, F, unhide HD, Turns.refl _ _⟩
  | false =>
    rw [hdn] at hc6
    obtain ⟨e1, d1, hst⟩ : ∃ e1 d1, stepD d = (e1, d1) := ⟨_, _, rfl⟩
    rw [hst] at HST
    have hwa : d1.wait = d.wait := by rw [← step_wait d, hst]
    by_cases h0 : e1 = 0
    · have E : Hid (syncD d = (0, keepD d1)) := hide (by unfold syncD; rw [if_neg (by rw [hdn]; decide), if_neg (by rw [hst]; simp [h0]), hst])
      rw [unhide E]
      rw [← hwa] at hlen
      subst h0
      clear hst hwa E HD
      go_enter Try.func44, Try.ntmps44
      go_wp2_with fail
      refine (unhide HST).mono ?_
      rintro e w2 ⟨rfl, hD2, hB2, hs2⟩
      obtain ⟨bk, bn, bw, wv, hF, hB⟩ := hD2
      subst hF
      obtain ⟨ad, cap, rfl, hcap, _⟩ := owns_slice hB.wait
      have hc2 := hB.dev.cell (i := 2) rfl
      have HDB := hide hB
      have HB2 := hide hB2
      clear hB hB2 HST hs2 hc6
      go_wp2
      go_loopw [20] (fun ci wr => ∃ j : Nat, j ≤ d1.wait.length ∧ ci = .int .i64 (j : Int) ∧ DevB bk bn bw (.slice ad d1.wait.length cap) wr p { d1 with kept := layAll d1.kept (d1.wait.take j) } ∧ But (devF p bk bn bw (.slice ad d1.wait.length cap)) w wr) (fun ci _ => d1.wait.length - (intOf ci).toNat)
      case atStart => exact ⟨0, by omega, rfl, unhide HDB, unhide HB2⟩
      case round =>
        obtain ⟨j, hj, rfl, hB, hbu⟩ := hrel
        clear HDB HB2 hc2
        have HBU := hide hbu
        clear hbu
        by_cases hlt : j < d1.wait.length
        · have hmem := getD_mem_done hlt
          have hx := hB.ok.waitS _ hmem
          obtain ⟨g, cap', hv, hrg⟩ := owns_range hB.wait (fun x hx => (hB.ok.waitS x hx).2) hlt
          have HLT := hide (layAll_take d1.kept d1.wait hlt)
          obtain ⟨x, hxe⟩ : ∃ x, x = d1.wait.getD j (0, []) := ⟨_, rfl⟩
          rw [← hxe] at hx hrg HLT
          clear hxe hmem
          obtain ⟨xn, xs⟩ := x
          obtain ⟨hxn, hxs⟩ := hx
          have ev : ad = some ⟨g, 0, none⟩ := by
            simp only [Value.slice.injEq] at hv
            exact hv.1
          subst ev
          have HRG : Hid (wr.rangeAt g (j * 65) (doneV (xn, xs))) := hide hrg
          have HXS : Hid (xs.length = 64) := hide hxs
          have HXN : Hid (xn < (layAll d1.kept (d1.wait.take j)).length) := hide hxn
          have hke : (layAll d1.kept (d1.wait.take j)).length = d1.kept.length := layAll_len _ _
          have HKE := hide hke
          have HDB := hide hB
          have HWS := (unhide HBU).size
          clear hv hrg hxn hxs hB hke
          generalize hnn : d1.wait.length = n at *
          have HNN := hide hnn
          clear hnn
          go_wp2_with (first
            | refine wpList_load_mid rfl 101 _ rfl g (j * 65) rfl (doneV (xn, xs)) _ (unhide HRG) Try.underlying101 rfl (info101 (x := (xn, xs)) (unhide HXS)) ?_
            | refine wpList_alloc 101 101 (doneV (0, zeroS)) rfl rfl alloc101 ?_)
          intro w3 hA3 hb3 hs3
          have HA3 := hide hA3
          have hbl := (unhide HDB).lt
          have HDB3 := hide ((unhide HDB).same (w' := w3) fun k hk => hb3.block k (hbl k hk))
          have HBU3 := hide ((unhide HBU).trans (But.of_below (F := []) hb3) (fun k hk => by cases hk))
          have HQ : Hid (∀ k ∈ devF p bk bn bw (.slice (some ⟨g, 0, none⟩) n cap), k ≠ wr.heap.size) := hide (fun k hk e => by have := hbl k hk; omega)
          clear hA3 hb3 hbl HDB HBU HRG
          have HWQ : Hid (w.heap.size ≤ wr.heap.size) := hide HWS
          generalize wr.heap.size = q at *
          go_wp2_with (refine wpList_storeAll 101 _ _ q (doneV (xn, xs)) (doneV (0, zeroS)) rfl rfl rfl rfl (unhide HA3) (by rw [doneV_length (x := (xn, xs)) (unhide HXS)]; rfl) (info101 (x := (xn, xs)) (unhide HXS)) (doneV_one _) ?_)
          intro w4 hA4 hg4 hs4
          have HA4 := hide hA4
          have HDB4 := hide ((unhide HDB3).same (w' := w4) fun k hk => hg4.block k ((unhide HDB3).lt k hk) (by simpa using unhide HQ k hk))
          have HBU4 : Hid (But (devF p bk bn bw (.slice (some ⟨g, 0, none⟩) n cap)) w w4) := hide ⟨hg4.os.trans (unhide HBU3).os, hg4.tape.trans (unhide HBU3).tape, hg4.output.trans (unhide HBU3).output, Nat.le_trans (unhide HBU3).size hg4.size, fun k hk hn => by
            rw [hg4.block k (Nat.lt_of_lt_of_le hk (unhide HBU3).size) (by simp; intro e; have := (unhide HWQ); omega), (unhide HBU3).block k hk hn]⟩
          clear hA4 hg4 HA3 HDB3 HBU3
          go_wp2_with fail
          have hc0 := (unhide HDB4).dev.cell (i := 0) rfl
          have hcx := (unhide HA4).cell (i := 0) rfl
          have hrx : w4.rangeAt q 1 (bytesV xs) := (unhide HA4).doneSec
          have hth : w4.there bk (xn * 64) 64 := (unhide HDB4).kept.secThere (unhide HDB4).ok.keptS (unhide HXN)
          have hxk : xn < d1.kept.length := by have := unhide HXN; rw [unhide HKE] at this; exact this
          refine Flow.wp_region (Flow.VV (fun j => match j with | 0 => .pointer (some ⟨p, 0, none⟩) | 1 => .pointer (some ⟨p, 0, none⟩) | 2 => .pointer (some ⟨p, 0, none⟩) | 3 => .slice (some ⟨bk, 0, none⟩) d1.kept.length d1.kept.length | 4 => .pointer (some ⟨q, 0, none⟩) | 5 => .int .i64 (xn : Int) | 6 => .pointer (some ⟨q, 1, none⟩) | 7 => secV xs | 8 => .pointer (some ⟨bk, xn * 64, none⟩) | 9 => undef | _ => undef)) (Flow.two 9 (fun _ w' => w' = w4.drew) (fun _ w' => w' = w4.drew.setCells bk (xn * 64) (bytesV xs))) () (by kernel_rfl) (by kernel_rfl) (by unfold Flow.two; simp) ⟨?_, ?_, ?_, ?_, ?_, ?_, ?_, ?_, ?_, ?_, trivial⟩ ?_
          · exact Flow.move (Flow.goes_plain rfl) (Flow.two.upd (by decide)) (.inl rfl) fun a s w' hs hd => (hs 0 (by kernel_rfl))
          · refine Flow.pure (Flow.goes_plain rfl) (Flow.two.upd (by decide)) fun a L s w' hC hL hn hs hd => ?_
            skip
            exact ⟨_, op_nil rfl (hd 0 24 (by kernel_rfl)) w', rfl⟩
          · refine Flow.pure (Flow.goes_plain rfl) (Flow.two.upd (by decide)) fun a L s w' hC hL hn hs hd => ?_
            skip
            exact ⟨_, op_f82_0 rfl (hd 1 25 (by kernel_rfl)) w', rfl⟩
          · refine Flow.pure (Flow.goes_plain rfl) (Flow.two.upd (by decide)) fun a L s w' hC hL hn hs hd => ?_
            have hA := hC.pre (hn.after 9 (by kernel_rfl))
            exact ⟨_, op_load78 rfl (hd 2 26 (by kernel_rfl)) (by rw [hA]; exact (by rw [← unhide HKE]; exact hc0)), rfl⟩
          · refine Flow.pure (Flow.goes_plain rfl) (Flow.two.upd (by decide)) fun a L s w' hC hL hn hs hd => ?_
            skip
            exact ⟨_, op_f101_0 rfl (hs 5 (by kernel_rfl)) w', rfl⟩
          · refine Flow.pure (Flow.goes_plain rfl) (Flow.two.upd (by decide)) fun a L s w' hC hL hn hs hd => ?_
            have hA := hC.pre (hn.after 9 (by kernel_rfl))
            exact ⟨_, op_load3 rfl (hd 4 28 (by kernel_rfl)) (by rw [hA]; exact hcx), rfl⟩
          · refine Flow.pure (Flow.goes_plain rfl) (Flow.two.upd (by decide)) fun a L s w' hC hL hn hs hd => ?_
            skip
            exact ⟨_, op_f101_1 rfl (hs 5 (by kernel_rfl)) w', rfl⟩
          · refine Flow.pure (Flow.goes_plain rfl) (Flow.two.upd (by decide)) fun a L s w' hC hL hn hs hd => ?_
            have hA := hC.pre (hn.after 9 (by kernel_rfl))
            exact ⟨_, op_load30 rfl (hd 6 30 (by kernel_rfl)) (by rw [hA]; exact hrx) (unhide HXS), rfl⟩
          · refine Flow.pure (Flow.goes_plain rfl) (Flow.two.upd (by decide)) fun a L s w' hC hL hn hs hd => ?_
            have hA := hC.pre (hn.after 9 (by kernel_rfl))
            exact ⟨_, op_idx78 rfl (hd 3 27 (by kernel_rfl)) (hd 5 29 (by kernel_rfl)) hxk w', rfl⟩
          · refine Flow.store (Flow.goes_plain rfl) fun a L s0 w' hC hL hn hs hd => ?_
            have hA := hC.pre hL
            exact ⟨(), _, op_store30 rfl (hd 8 32 (by kernel_rfl)) (hd 7 31 (by kernel_rfl)) (by rw [hA]; exact hth) (unhide HXS), fun _ _ _ h => h, Flow.two.post (by rw [hA]), rfl⟩
          · intro L _ w5 hC hL vals hv
            have hA := hC.end (hL 9 (by decide))
            have HDB5 := hide (((unhide HDB4).same (w' := w4.drew) (fun _ _ => rfl)).keptSet (unhide HXN) (unhide HXS))
            have HBU5 : Hid (But (devF p bk bn bw (.slice (some ⟨g, 0, none⟩) n cap)) w w5) := hide (by
              rw [hA]
              exact (unhide HBU4).trans (But.of_grown (b := bk) (setCells_grown _ _ _ w4.drew) (by simp [devF])).undrew (fun _ h => .inl h))
            rw [← hA] at HDB5
            simp only [Free.putAll, Act.put, List.setIfInBounds_toArray, List.set_cons_succ, List.set_cons_zero]
            clear hA hC hL hv hc0 hcx hrx hth HDB4 HBU4 HA4
            generalize vals 0 = y0 at *
            generalize vals 1 = y1 at *
            generalize vals 2 = y2 at *
            generalize vals 3 = y3 at *
            generalize vals 4 = y4 at *
            generalize vals 5 = y5 at *
            generalize vals 6 = y6 at *
            generalize vals 7 = y7 at *
            generalize vals 8 = y8 at *
            go_wp2_with fail
            go_roundw
            case rel =>
              refine ⟨j + 1, by omega, by go_num, ?_, unhide HBU5⟩
              rw [unhide HLT]
              exact unhide HDB5
            case measure => simp [intOf]; omega
        · obtain rfl : j = d1.wait.length := by omega
          rw [List.take_length] at hB
          have hc2 := hB.dev.cell (i := 2) rfl
          have hf2 := hB.dev.free 2
          have HN := hide hB.noWait
          clear hB
          go_wp2_with fail
          go_ret
          refine ⟨rfl, _, ⟨bk, bn, bw, _, rfl, (unhide HN).1⟩, ?_⟩
          exact Turns.trans ⟨unhide HBU, fun _ h => .inl h⟩ (unhide HN).2
    · have E : Hid (syncD d = (e1, d1)) := hide (by unfold syncD; rw [if_neg (by rw [hdn]; decide), if_pos (by rw [hst]; exact h0), hst])
      rw [unhide E]
      clear hst hwa E HD
      go_enter Try.func44, Try.ntmps44
      go_wp2_with fail
      refine (unhide HST).mono ?_
      rintro e w2 ⟨rfl, hD2, hB2, hs2⟩
      have HD2 := hide hD2
      have HB2 := hide hB2
      clear hD2 hB2 HST
      go_wp2_with fail
      go_ret
      exact ⟨rfl, F, unhide HD2, ⟨unhide HB2, fun _ h => .inl h⟩⟩
end
end Go.Proofs.Ytlgknllcnkainaa
