/-
  Restart of the program's device.
-/
import Derived.Test.YtjebejdcjfnleaaCopy
namespace Go.Proofs.Ytjebejdcjfnleaa
open Go.RowKit

theorem DevB.keptArr {bk bn bw : Nat} {wv : Value} {w w' : World} {p : Nat} {d : DM} (h : DevB bk bn bw wv w p d) {ks : List Sec} (hl : ks.length = d.kept.length) (hs : ∀ s ∈ ks, s.length = 64) (hA : Arr w' bk (secsV ks)) (hg : w.grownBy w' (some bk)) : DevB bk bn bw wv w' p { d with kept := ks } := by
  obtain ⟨n1, n2, n3, n4, n5, n6, n7, n8, n9, n10, _⟩ := nodupF h.nodup
  have hlt := h.lt
  have hb : ∀ k ∈ devF p bk bn bw wv, k ≠ bk → w'.heap[k]? = w.heap[k]? := fun k hk hne => hg.block k (hlt k hk) (by simpa using hne)
  have e : devV bk bn bw wv { d with kept := ks } = devV bk bn bw wv d := by simp [devV, hl]
  refine { ok := { h.ok with now := h.ok.now.trans hl.symm, wear := h.ok.wear.trans hl.symm, keptS := hs, waitS := ?_, few := by show ks.length ≤ _; rw [hl]; exact h.ok.few }, nodup := h.nodup, dev := by rw [e]; exact h.dev.same (hb p (by simp [devF]) n1), kept := hA, now := h.now.same (hb bn (by simp [devF]) n4.symm), wear := h.wear.same (hb bw (by simp [devF]) n5.symm), wait := owns_same h.wait fun j hj => hb j (by simp only [devF, List.mem_cons]; exact .inr (.inr (.inr (.inr hj)))) (n8 j hj).symm }
  intro x hx
  have := h.ok.waitS x hx
  show x.1 < ks.length ∧ _
  rw [hl]; exact this
theorem DevB.nowArr {bk bn bw : Nat} {wv : Value} {w w' : World} {p : Nat} {d : DM} (h : DevB bk bn bw wv w p d) {ks : List Sec} (hl : ks.length = d.kept.length) (hs : ∀ s ∈ ks, s.length = 64) (hA : Arr w' bn (secsV ks)) (hg : w.grownBy w' (some bn)) : DevB bk bn bw wv w' p { d with now := ks } := by
  obtain ⟨n1, n2, n3, n4, n5, n6, n7, n8, n9, n10, _⟩ := nodupF h.nodup
  have hlt := h.lt
  have hb : ∀ k ∈ devF p bk bn bw wv, k ≠ bn → w'.heap[k]? = w.heap[k]? := fun k hk hne => hg.block k (hlt k hk) (by simpa using hne)
  exact { ok := { h.ok with now := hl, nowS := hs }, nodup := h.nodup, dev := h.dev.same (hb p (by simp [devF]) n2), kept := h.kept.same (hb bk (by simp [devF]) n4), now := hA, wear := h.wear.same (hb bw (by simp [devF]) n6.symm), wait := owns_same h.wait fun j hj => hb j (by simp only [devF, List.mem_cons]; exact .inr (.inr (.inr (.inr hj)))) (n9 j hj).symm }

section
variable {F : List Nat} {w : World} {p : Nat} {d : DM}

set_option maxHeartbeats 3200000 in
set_option maxRecDepth 100000 in
theorem restart_walk {N : Nat} (h : Dev F w p d) (hF : ∀ k ∈ F, N ≤ k) (hN : N ≤ w.heap.size) (a : Option Addr) (len cap : Nat) (bs : List UInt8) (hR : RowV N w (.slice a len cap) bs) (hlen : d.wait.length ≤ 1000000) :
    Calls Try.prog 14 #[.pointer (some ⟨p, 0, none⟩), .slice a len cap] w fun e w' => e = .returned (.tuple #[]) ∧ ∃ F', Dev F' w' p (restartD d bs) ∧ Turns F F' w w' := by
  obtain ⟨bk, bn, bw, wv, hF0, hB⟩ := h
  subst hF0
  obtain ⟨ad, cap2, rfl, hcap, _⟩ := owns_slice hB.wait
  obtain ⟨_, _, _, e0, hlc, hcm, hcn, hrow⟩ := hR
  cases e0
  have hc2 := hB.dev.cell (i := 2) rfl
  have HDB := hide hB
  have HROW := hide hrow
  have HF := hide hF
  have hbl := hrow.1
  have HBL := hide hbl
  have hlm : len ≤ 140737488351232 := hrow.2.1
  clear hB hrow hF hbl
  by_cases hmn : d.wait.length < len
  · go_enter Try.func14, Try.ntmps14
    go_wp2
    go_loopw [18] (fun ci wr => ∃ j : Nat, j ≤ d.wait.length ∧ ci = .int .i64 (j : Int) ∧ DevB bk bn bw (.slice ad d.wait.length cap2) wr p { d with kept := layKept d.kept (d.wait.take j) (bs.take j) } ∧ But (devF p bk bn bw (.slice ad d.wait.length cap2)) w wr) (fun ci _ => d.wait.length - (intOf ci).toNat)
    case atStart => exact ⟨0, by omega, rfl, by simpa [layKept] using unhide HDB, But.refl _ _⟩
    case round =>
      obtain ⟨j, hj, rfl, hB, hbu⟩ := hrel
      clear HDB hc2
      have hrowr := (unhide HROW).below (hbu.below (unhide HF) hN)
      have HBU := hide hbu
      clear hbu
      by_cases hlt : j < d.wait.length
      · have hlt1 : j < d.wait.length := by omega
        have hlt2 : j < len := by omega
        have hmem := getD_mem_done hlt1
        have hx := hB.ok.waitS _ hmem
        obtain ⟨g, cap', hv, hrg⟩ := owns_range hB.wait (fun x hx => (hB.ok.waitS x hx).2) hlt1
        obtain ⟨ba, boff, rfl, hbN, hcb⟩ := hrowr.2.2 j hlt2
        have HLT := hide (layKept_step d.kept d.wait bs hlt1 (by rw [unhide HBL]; exact hlt2))
        obtain ⟨b, hbe⟩ : ∃ b, b = bs.getD j 0 := ⟨_, rfl⟩
        rw [← hbe] at hcb HLT
        clear hbe
        obtain ⟨x, hxe⟩ : ∃ x, x = d.wait.getD j (0, []) := ⟨_, rfl⟩
        rw [← hxe] at hx hrg HLT
        clear hxe hmem
        obtain ⟨xn, xs⟩ := x
        obtain ⟨hxn, hxs⟩ := hx
        have ev : ad = some ⟨g, 0, none⟩ := by
          simp only [Value.slice.injEq] at hv
          exact hv.1
        subst ev
        have hc2 := hB.dev.cell (i := 2) rfl
        have HRG : Hid (wr.rangeAt g (j * 65) (doneV (xn, xs))) := hide hrg
        have HXS : Hid (xs.length = 64) := hide hxs
        have HXN : Hid (xn < (layKept d.kept (d.wait.take j) (bs.take j)).length) := hide hxn
        have HDB := hide hB
        have HWS := (unhide HBU).size
        obtain ⟨K, hK⟩ : ∃ K, K = layKept d.kept (d.wait.take j) (bs.take j) := ⟨_, rfl⟩
        rw [← hK] at HDB HXN HLT
        clear hv hrg hxn hxs hB hrowr HROW
        have HKK := hide hK
        clear hK
        generalize hnn : d.wait.length = n at *
        have HNN := hide hnn
        clear hnn
        go_wp2_with (first
          | refine wpList_load_mid rfl 77 _ rfl g (j * 65) rfl (doneV (xn, xs)) _ (unhide HRG) Try.underlying77 rfl (info77 (x := (xn, xs)) (unhide HXS)) ?_
          | refine wpList_alloc 77 77 (doneV (0, zeroS)) rfl rfl alloc77 ?_)
        intro w3 hA3 hb3 hs3
        have HA3 := hide hA3
        have hbl := (unhide HDB).lt
        have HDB3 := hide ((unhide HDB).same (w' := w3) fun k hk => hb3.block k (hbl k hk))
        have HBU3 := hide ((unhide HBU).trans (But.of_below (F := []) hb3) (fun k hk => by cases hk))
        have HQ : Hid (∀ k ∈ devF p bk bn bw (.slice (some ⟨g, 0, none⟩) n cap2), k ≠ wr.heap.size) := hide (fun k hk e => by have := hbl k hk; omega)
        have HWQ : Hid (w.heap.size ≤ wr.heap.size) := hide HWS
        clear hA3 hb3 hbl HDB HBU HRG HWS hcb hc2
        generalize wr.heap.size = q at *
        go_wp2_with (refine wpList_storeAll 77 _ _ q (doneV (xn, xs)) (doneV (0, zeroS)) rfl rfl rfl rfl (unhide HA3) (by rw [doneV_length (x := (xn, xs)) (unhide HXS)]; rfl) (info77 (x := (xn, xs)) (unhide HXS)) (doneV_one _) ?_)
        intro w4 hA4 hg4 hs4
        have HA4 := hide hA4
        have HDB4 := hide ((unhide HDB3).same (w' := w4) fun k hk => hg4.block k ((unhide HDB3).lt k hk) (by simpa using unhide HQ k hk))
        have HBU4 : Hid (But (devF p bk bn bw (.slice (some ⟨g, 0, none⟩) n cap2)) w w4) := hide ⟨hg4.os.trans (unhide HBU3).os, hg4.tape.trans (unhide HBU3).tape, hg4.output.trans (unhide HBU3).output, Nat.le_trans (unhide HBU3).size hg4.size, fun k hk hn => by
          rw [hg4.block k (Nat.lt_of_lt_of_le hk (unhide HBU3).size) (by simp; intro e; have := (unhide HWQ); omega), (unhide HBU3).block k hk hn]⟩
        clear hA4 hg4 HA3 HDB3 HBU3
        go_wp2_with fail
        have hc0 := (unhide HDB4).dev.cell (i := 0) rfl
        have hcx := (unhide HA4).cell (i := 0) rfl
        have hrx : w4.rangeAt q 1 (bytesV xs) := (unhide HA4).doneSec
        have hxk : xn < K.length := unhide HXN
        generalize hkn : K.length = kn at hc0 hxk
        have HKN := hide hkn
        clear hkn
        refine Flow.wp_region (Flow.VV (fun j => match j with | 0 => .pointer (some ⟨p, 0, none⟩) | 1 => .pointer (some ⟨p, 0, none⟩) | 2 => .pointer (some ⟨p, 0, none⟩) | 3 => .slice (some ⟨bk, 0, none⟩) kn kn | 4 => .pointer (some ⟨q, 0, none⟩) | 5 => .int .i64 (xn : Int) | 6 => .pointer (some ⟨bk, xn * 64, none⟩) | 7 => .slice (some ⟨bk, xn * 64, none⟩) 64 64 | 8 => .pointer (some ⟨q, 1, none⟩) | 9 => .int .u8 ((b.toNat : Nat) : Int) | 10 => .int .i64 ((b.toNat : Nat) : Int) | 11 => .int .i64 ((min b.toNat 64 : Nat) : Int) | 12 => .slice (some ⟨q, 1, none⟩) (min b.toNat 64) 64 | 13 => .int .i64 (((xs.take (min b.toNat 64)).length : Nat) : Int) | _ => undef)) (Flow.two 13 (fun _ w' => w' = w4.drew) (fun _ w' => Arr w' bk (secsV (layOne K (xn, xs) b)) ∧ w4.drew.grownBy w' (some bk) ∧ w'.heap.size = w4.heap.size)) () (by kernel_rfl) (by kernel_rfl) (by unfold Flow.two; simp) ⟨?_, ?_, ?_, ?_, ?_, ?_, ?_, ?_, ?_, ?_, ?_, ?_, ?_, ?_, trivial⟩ ?_
        · exact Flow.move (Flow.goes_plain rfl) (Flow.two.upd (by decide)) (.inl rfl) fun a s w' hs hd => (hs 0 (by kernel_rfl))
        · refine Flow.pure (Flow.goes_plain rfl) (Flow.two.upd (by decide)) fun a L s w' hC hL hn hs hd => ?_
          skip
          exact ⟨_, op_nil rfl (hd 0 30 (by kernel_rfl)) w', rfl⟩
        · refine Flow.pure (Flow.goes_plain rfl) (Flow.two.upd (by decide)) fun a L s w' hC hL hn hs hd => ?_
          skip
          exact ⟨_, op_f73_0 rfl (hd 1 31 (by kernel_rfl)) w', rfl⟩
        · refine Flow.pure (Flow.goes_plain rfl) (Flow.two.upd (by decide)) fun a L s w' hC hL hn hs hd => ?_
          have hA := hC.pre (hn.after 13 (by kernel_rfl))
          exact ⟨_, op_load63 rfl (hd 2 32 (by kernel_rfl)) (by rw [hA]; exact hc0), rfl⟩
        · refine Flow.pure (Flow.goes_plain rfl) (Flow.two.upd (by decide)) fun a L s w' hC hL hn hs hd => ?_
          skip
          exact ⟨_, op_f77_0 rfl (hs 6 (by kernel_rfl)) w', rfl⟩
        · refine Flow.pure (Flow.goes_plain rfl) (Flow.two.upd (by decide)) fun a L s w' hC hL hn hs hd => ?_
          have hA := hC.pre (hn.after 13 (by kernel_rfl))
          exact ⟨_, op_load3 rfl (hd 4 34 (by kernel_rfl)) (by rw [hA]; exact hcx), rfl⟩
        · refine Flow.pure (Flow.goes_plain rfl) (Flow.two.upd (by decide)) fun a L s w' hC hL hn hs hd => ?_
          have hA := hC.pre (hn.after 13 (by kernel_rfl))
          exact ⟨_, op_idx63 rfl (hd 3 33 (by kernel_rfl)) (hd 5 35 (by kernel_rfl)) hxk w', rfl⟩
        · exact Flow.pure (Flow.goes_plain rfl) (Flow.two.upd (by decide)) fun a L s w' hC hL hn hs hd => ⟨_, op_all75 rfl (hd 6 36 (by kernel_rfl)) w', rfl⟩
        · refine Flow.pure (Flow.goes_plain rfl) (Flow.two.upd (by decide)) fun a L s w' hC hL hn hs hd => ?_
          skip
          exact ⟨_, op_f77_1 rfl (hs 6 (by kernel_rfl)) w', rfl⟩
        · exact Flow.move (Flow.goes_plain rfl) (Flow.two.upd (by decide)) (.inl rfl) fun a s w' hs hd => (hs 5 (by kernel_rfl))
        · refine Flow.pure (Flow.goes_plain rfl) (Flow.two.upd (by decide)) fun a L s w' hC hL hn hs hd => ?_
          have hA := hC.pre (hn.after 13 (by kernel_rfl))
          exact ⟨_, op_conv5_3 rfl (hd 9 39 (by kernel_rfl)) (b.toNat_lt) w', rfl⟩
        · refine Flow.pure (Flow.goes_plain rfl) (Flow.two.upd (by decide)) fun a L s w' hC hL hn hs hd => ?_
          have hA := hC.pre (hn.after 13 (by kernel_rfl))
          exact ⟨_, op_min3 rfl (hd 10 40 (by kernel_rfl)) rfl (by omega) w', rfl⟩
        · exact Flow.pure (Flow.goes_plain rfl) (Flow.two.upd (by decide)) fun a L s w' hC hL hn hs hd => ⟨_, op_to75 rfl (hd 8 38 (by kernel_rfl)) (hd 11 41 (by kernel_rfl)) (by omega) w', rfl⟩
        · refine Flow.value (Flow.goes_plain rfl) fun a L s0 w' hC hL hn hs hd => ?_
          have hA := hC.pre hL
          subst hA
          have hxl : (xs.take (min b.toNat 64)).length = min b.toNat 64 := by rw [List.length_take, unhide HXS]; omega
          have hmin : min b.toNat 64 ≤ 64 := Nat.min_le_right _ _
          obtain ⟨w9, hr9, q1, q2, q3⟩ := op_copy32 (ρ := a.eval) (g := bk) (off := xn * 64) (g2 := q) (o2 := 1) (n := 64) (n2 := 64) (c2 := 64) (bs := xs.take (min b.toNat 64)) (hd 7 37 (by kernel_rfl)) (by rw [hxl]; exact (hd 12 42 (by kernel_rfl))) ((unhide HDB4).same (w' := w4.drew) (fun _ _ => rfl)).kept (fun j v hj => hrx j v (by
            have hjl : j < (xs.take (min b.toNat 64)).length := by have := (List.getElem?_eq_some_iff.1 hj).1; rw [bytesV_length] at this; exact this
            rw [bytesV, List.getElem?_map] at hj ⊢
            rw [List.getElem?_take_of_lt (by omega)] at hj
            exact hj)) (by omega) (by
            rw [secsV_length (unhide HDB4).ok.keptS, hxl]
            have := unhide HXN
            show xn * 64 + _ ≤ K.length * 64
            omega)
          refine ⟨_, (), w9, hr9 _ rfl, fun _ _ _ h => h, Flow.two.post ⟨?_, q2, q3⟩, rfl⟩
          rw [hxl, secsV_over (unhide HDB4).ok.keptS (unhide HXN) (unhide HXS) hmin] at q1
          exact q1
        · intro L _ w5 hC hL vals hv
          obtain ⟨hA5, hg5, hs5⟩ := hC.end (hL 13 (by decide))
          have HDB5 := hide ((((unhide HDB4).same (w' := w4.drew) (fun _ _ => rfl))).keptArr (ks := layOne K (xn, xs) b) (by simp [layOne]) (layOne_64 (unhide HDB4).ok.keptS ⟨unhide HXN, unhide HXS⟩ b) hA5 hg5)
          have HBU5 : Hid (But (devF p bk bn bw (.slice (some ⟨g, 0, none⟩) n cap2)) w w5) := hide ((unhide HBU4).trans (But.of_grown (b := bk) hg5 (by simp [devF])).undrew (fun _ h => .inl h))
          simp only [Free.putAll, Act.put, List.setIfInBounds_toArray, List.set_cons_succ, List.set_cons_zero]
          clear hA5 hg5 hs5 hC hL hv hc0 hcx hrx HDB4 HBU4 HA4
          generalize vals 0 = y0 at *
          generalize vals 1 = y1 at *
          generalize vals 2 = y2 at *
          generalize vals 3 = y3 at *
          generalize vals 4 = y4 at *
          generalize vals 5 = y5 at *
          generalize vals 6 = y6 at *
          generalize vals 7 = y7 at *
          generalize vals 8 = y8 at *
          generalize vals 9 = y9 at *
          generalize vals 10 = y10 at *
          generalize vals 11 = y11 at *
          generalize vals 12 = y12 at *
          generalize vals 13 = y13 at *
          go_wp2_with fail
          go_roundw
          case rel =>
            refine ⟨j + 1, by omega, by go_num, ?_, unhide HBU5⟩
            rw [unhide HLT]
            exact unhide HDB5
          case measure => simp [intOf]; omega
      · have hje : j = d.wait.length := by omega
        subst j
        have hmin : layKept d.kept (d.wait.take d.wait.length) (bs.take d.wait.length) = layKept d.kept d.wait bs := layKept_min d.wait bs d.kept _ (by rw [unhide HBL]; omega)
        rw [hmin] at hB
        have E : Hid (restartD d bs = { d with kept := layKept d.kept d.wait bs, now := layKept d.kept d.wait bs, wait := [], budget := -1, down := false }) := hide rfl
        obtain ⟨K, hK⟩ : ∃ K, K = layKept d.kept d.wait bs := ⟨_, rfl⟩
        rw [← hK] at hB E
        clear hK hmin hrowr
        have hc0 := hB.dev.cell (i := 0) rfl
        have hc1 := hB.dev.cell (i := 1) rfl
        have HDBr := hide hB
        clear hB
        generalize hkn : K.length = kn at hc0 hc1
        have HKN := hide hkn
        clear hkn
        go_wp2_with fail
        refine Flow.wp_region (Flow.VV (fun j => match j with | 0 => .pointer (some ⟨p, 0, none⟩) | 1 => .pointer (some ⟨p, 0, none⟩) | 2 => .pointer (some ⟨p, 1, none⟩) | 3 => .slice (some ⟨bn, 0, none⟩) kn kn | 4 => .pointer (some ⟨p, 0, none⟩) | 5 => .pointer (some ⟨p, 0, none⟩) | 6 => .pointer (some ⟨p, 0, none⟩) | 7 => .slice (some ⟨bk, 0, none⟩) kn kn | 8 => .int .i64 (kn : Int) | _ => undef)) (Flow.two 8 (fun _ w' => w' = wr.drew) (fun _ w' => Arr w' bn (secsV K) ∧ wr.drew.grownBy w' (some bn) ∧ w'.heap.size = wr.heap.size)) () (by kernel_rfl) (by kernel_rfl) (by unfold Flow.two; simp) ⟨?_, ?_, ?_, ?_, ?_, ?_, ?_, ?_, ?_, trivial⟩ ?_
        · exact Flow.move (Flow.goes_plain rfl) (Flow.two.upd (by decide)) (.inl rfl) fun a s w' hs hd => (hs 0 (by kernel_rfl))
        · refine Flow.pure (Flow.goes_plain rfl) (Flow.two.upd (by decide)) fun a L s w' hC hL hn hs hd => ?_
          skip
          exact ⟨_, op_nil rfl (hd 0 45 (by kernel_rfl)) w', rfl⟩
        · refine Flow.pure (Flow.goes_plain rfl) (Flow.two.upd (by decide)) fun a L s w' hC hL hn hs hd => ?_
          skip
          exact ⟨_, op_f73_1 rfl (hd 1 46 (by kernel_rfl)) w', rfl⟩
        · refine Flow.pure (Flow.goes_plain rfl) (Flow.two.upd (by decide)) fun a L s w' hC hL hn hs hd => ?_
          have hA := hC.pre (hn.after 8 (by kernel_rfl))
          exact ⟨_, op_load63 rfl (hd 2 47 (by kernel_rfl)) (by rw [hA]; exact hc1), rfl⟩
        · exact Flow.move (Flow.goes_plain rfl) (Flow.two.upd (by decide)) (.inl rfl) fun a s w' hs hd => (hs 0 (by kernel_rfl))
        · refine Flow.pure (Flow.goes_plain rfl) (Flow.two.upd (by decide)) fun a L s w' hC hL hn hs hd => ?_
          skip
          exact ⟨_, op_nil rfl (hd 4 49 (by kernel_rfl)) w', rfl⟩
        · refine Flow.pure (Flow.goes_plain rfl) (Flow.two.upd (by decide)) fun a L s w' hC hL hn hs hd => ?_
          skip
          exact ⟨_, op_f73_0 rfl (hd 5 50 (by kernel_rfl)) w', rfl⟩
        · refine Flow.pure (Flow.goes_plain rfl) (Flow.two.upd (by decide)) fun a L s w' hC hL hn hs hd => ?_
          have hA := hC.pre (hn.after 8 (by kernel_rfl))
          exact ⟨_, op_load63 rfl (hd 6 51 (by kernel_rfl)) (by rw [hA]; exact hc0), rfl⟩
        · refine Flow.value (Flow.goes_plain rfl) fun a L s0 w' hC hL hn hs hd => ?_
          have hA := hC.pre hL
          subst hA
          obtain ⟨w9, hr9, q1, q2, q3⟩ := op_copy63 (ρ := a.eval) (g := bn) (g2 := bk) (n := kn) (ss := K) (unhide HKN) (hd 3 48 (by kernel_rfl)) (hd 7 52 (by kernel_rfl)) ((unhide HDBr).same (w' := wr.drew) (fun _ _ => rfl)).now ((unhide HDBr).same (w' := wr.drew) (fun _ _ => rfl)).kept (unhide HDBr).ok.keptS (by rw [secsV_length (unhide HDBr).ok.nowS, ← unhide HKN]; exact congrArg (· * 64) (unhide HDBr).ok.now)
          exact ⟨_, (), w9, hr9 _ rfl, fun _ _ _ h => h, Flow.two.post ⟨q1, q2, q3⟩, rfl⟩
        · intro L _ w5 hC hL vals hv
          obtain ⟨hA5, hg5, hs5⟩ := hC.end (hL 8 (by decide))
          have hB5 := (((unhide HDBr).same (w' := wr.drew) (fun _ _ => rfl))).nowArr (ks := K) rfl (unhide HDBr).ok.keptS hA5 hg5
          have HBU5 : Hid (But (devF p bk bn bw (.slice ad d.wait.length cap2)) w w5) := hide ((unhide HBU).trans (But.of_grown (b := bn) hg5 (by simp [devF])).undrew (fun _ h => .inl h))
          have hA0 := hB5.dev
          have hc2 := hA0.cell (i := 2) rfl
          have hf2 := hA0.free 2
          have hA1 := hA0.set 2 (.slice none 0 0)
          have hc5 := hA1.cell (i := 5) rfl
          have hf5 := hA1.free 5
          have hA2 := hA1.set 5 (.int .i64 (-1))
          have hc6 := hA2.cell (i := 6) rfl
          have hf6 := hA2.free 6
          have hN1 := hB5.noWait
          have HN2 := hide ((hN1.1.field 5 (.int .i64 (-1)) (d' := { d with kept := K, now := K, wait := [], budget := -1 }) rfl rfl rfl rfl rfl (by
            have := hN1.1.ok
            exact { this with low := Int.le_refl _, high := by show (-1 : Int) ≤ _; decide })).field 6 (.bool false) (d' := { d with kept := K, now := K, wait := [], budget := -1, down := false }) rfl rfl rfl rfl rfl (by
            have := hN1.1.ok
            exact { this with low := Int.le_refl _, high := by show (-1 : Int) ≤ _; decide }))
          have HT2 := hide hN1.2
          simp only [Free.putAll, Act.put, List.setIfInBounds_toArray, List.set_cons_succ, List.set_cons_zero]
          clear hA5 hg5 hs5 hC hL hv hc0 hc1 HDBr HBU hA0 hA1 hA2 hN1 hB5
          generalize vals 0 = y0 at *
          generalize vals 1 = y1 at *
          generalize vals 2 = y2 at *
          generalize vals 3 = y3 at *
          generalize vals 4 = y4 at *
          generalize vals 5 = y5 at *
          generalize vals 6 = y6 at *
          generalize vals 7 = y7 at *
          generalize vals 8 = y8 at *
          go_wp2_with fail
          refine ⟨rfl, .tuple #[], by simp [results, Try.results14], ?_⟩
          refine ⟨rfl, _, ⟨bk, bn, bw, _, rfl, by rw [unhide E]; exact unhide HN2⟩, ?_⟩
          have t1 : Turns (devF p bk bn bw (.slice ad d.wait.length cap2)) (devF p bk bn bw (.slice none 0 0)) w (w5.setCell ⟨p, 2, none⟩ (.slice none 0 0)) := Turns.trans ⟨unhide HBU5, fun _ h => .inl h⟩ (unhide HT2)
          have hp : p ∈ devF p bk bn bw (.slice none 0 0) := by simp [devF]
          exact (t1.trans ⟨But.of_grown (set_grown _ _ _ _) hp, fun _ h => .inl h⟩).trans ⟨But.of_grown (set_grown _ _ _ _) hp, fun _ h => .inl h⟩
  · go_enter Try.func14, Try.ntmps14
    go_wp2
    go_loopw [18] (fun ci wr => ∃ j : Nat, j ≤ len ∧ ci = .int .i64 (j : Int) ∧ DevB bk bn bw (.slice ad d.wait.length cap2) wr p { d with kept := layKept d.kept (d.wait.take j) (bs.take j) } ∧ But (devF p bk bn bw (.slice ad d.wait.length cap2)) w wr) (fun ci _ => len - (intOf ci).toNat)
    case atStart => exact ⟨0, by omega, rfl, by simpa [layKept] using unhide HDB, But.refl _ _⟩
    case round =>
      obtain ⟨j, hj, rfl, hB, hbu⟩ := hrel
      clear HDB hc2
      have hrowr := (unhide HROW).below (hbu.below (unhide HF) hN)
      have HBU := hide hbu
      clear hbu
      by_cases hlt : j < len
      · have hlt1 : j < d.wait.length := by omega
        have hlt2 : j < len := by omega
        have hmem := getD_mem_done hlt1
        have hx := hB.ok.waitS _ hmem
        obtain ⟨g, cap', hv, hrg⟩ := owns_range hB.wait (fun x hx => (hB.ok.waitS x hx).2) hlt1
        obtain ⟨ba, boff, rfl, hbN, hcb⟩ := hrowr.2.2 j hlt2
        have HLT := hide (layKept_step d.kept d.wait bs hlt1 (by rw [unhide HBL]; exact hlt2))
        obtain ⟨b, hbe⟩ : ∃ b, b = bs.getD j 0 := ⟨_, rfl⟩
        rw [← hbe] at hcb HLT
        clear hbe
        obtain ⟨x, hxe⟩ : ∃ x, x = d.wait.getD j (0, []) := ⟨_, rfl⟩
        rw [← hxe] at hx hrg HLT
        clear hxe hmem
        obtain ⟨xn, xs⟩ := x
        obtain ⟨hxn, hxs⟩ := hx
        have ev : ad = some ⟨g, 0, none⟩ := by
          simp only [Value.slice.injEq] at hv
          exact hv.1
        subst ev
        have hc2 := hB.dev.cell (i := 2) rfl
        have HRG : Hid (wr.rangeAt g (j * 65) (doneV (xn, xs))) := hide hrg
        have HXS : Hid (xs.length = 64) := hide hxs
        have HXN : Hid (xn < (layKept d.kept (d.wait.take j) (bs.take j)).length) := hide hxn
        have HDB := hide hB
        have HWS := (unhide HBU).size
        obtain ⟨K, hK⟩ : ∃ K, K = layKept d.kept (d.wait.take j) (bs.take j) := ⟨_, rfl⟩
        rw [← hK] at HDB HXN HLT
        clear hv hrg hxn hxs hB hrowr HROW
        have HKK := hide hK
        clear hK
        generalize hnn : d.wait.length = n at *
        have HNN := hide hnn
        clear hnn
        go_wp2_with (first
          | refine wpList_load_mid rfl 77 _ rfl g (j * 65) rfl (doneV (xn, xs)) _ (unhide HRG) Try.underlying77 rfl (info77 (x := (xn, xs)) (unhide HXS)) ?_
          | refine wpList_alloc 77 77 (doneV (0, zeroS)) rfl rfl alloc77 ?_)
        intro w3 hA3 hb3 hs3
        have HA3 := hide hA3
        have hbl := (unhide HDB).lt
        have HDB3 := hide ((unhide HDB).same (w' := w3) fun k hk => hb3.block k (hbl k hk))
        have HBU3 := hide ((unhide HBU).trans (But.of_below (F := []) hb3) (fun k hk => by cases hk))
        have HQ : Hid (∀ k ∈ devF p bk bn bw (.slice (some ⟨g, 0, none⟩) n cap2), k ≠ wr.heap.size) := hide (fun k hk e => by have := hbl k hk; omega)
        have HWQ : Hid (w.heap.size ≤ wr.heap.size) := hide HWS
        clear hA3 hb3 hbl HDB HBU HRG HWS hcb hc2
        generalize wr.heap.size = q at *
        go_wp2_with (refine wpList_storeAll 77 _ _ q (doneV (xn, xs)) (doneV (0, zeroS)) rfl rfl rfl rfl (unhide HA3) (by rw [doneV_length (x := (xn, xs)) (unhide HXS)]; rfl) (info77 (x := (xn, xs)) (unhide HXS)) (doneV_one _) ?_)
        intro w4 hA4 hg4 hs4
        have HA4 := hide hA4
        have HDB4 := hide ((unhide HDB3).same (w' := w4) fun k hk => hg4.block k ((unhide HDB3).lt k hk) (by simpa using unhide HQ k hk))
        have HBU4 : Hid (But (devF p bk bn bw (.slice (some ⟨g, 0, none⟩) n cap2)) w w4) := hide ⟨hg4.os.trans (unhide HBU3).os, hg4.tape.trans (unhide HBU3).tape, hg4.output.trans (unhide HBU3).output, Nat.le_trans (unhide HBU3).size hg4.size, fun k hk hn => by
          rw [hg4.block k (Nat.lt_of_lt_of_le hk (unhide HBU3).size) (by simp; intro e; have := (unhide HWQ); omega), (unhide HBU3).block k hk hn]⟩
        clear hA4 hg4 HA3 HDB3 HBU3
        go_wp2_with fail
        have hc0 := (unhide HDB4).dev.cell (i := 0) rfl
        have hcx := (unhide HA4).cell (i := 0) rfl
        have hrx : w4.rangeAt q 1 (bytesV xs) := (unhide HA4).doneSec
        have hxk : xn < K.length := unhide HXN
        generalize hkn : K.length = kn at hc0 hxk
        have HKN := hide hkn
        clear hkn
        refine Flow.wp_region (Flow.VV (fun j => match j with | 0 => .pointer (some ⟨p, 0, none⟩) | 1 => .pointer (some ⟨p, 0, none⟩) | 2 => .pointer (some ⟨p, 0, none⟩) | 3 => .slice (some ⟨bk, 0, none⟩) kn kn | 4 => .pointer (some ⟨q, 0, none⟩) | 5 => .int .i64 (xn : Int) | 6 => .pointer (some ⟨bk, xn * 64, none⟩) | 7 => .slice (some ⟨bk, xn * 64, none⟩) 64 64 | 8 => .pointer (some ⟨q, 1, none⟩) | 9 => .int .u8 ((b.toNat : Nat) : Int) | 10 => .int .i64 ((b.toNat : Nat) : Int) | 11 => .int .i64 ((min b.toNat 64 : Nat) : Int) | 12 => .slice (some ⟨q, 1, none⟩) (min b.toNat 64) 64 | 13 => .int .i64 (((xs.take (min b.toNat 64)).length : Nat) : Int) | _ => undef)) (Flow.two 13 (fun _ w' => w' = w4.drew) (fun _ w' => Arr w' bk (secsV (layOne K (xn, xs) b)) ∧ w4.drew.grownBy w' (some bk) ∧ w'.heap.size = w4.heap.size)) () (by kernel_rfl) (by kernel_rfl) (by unfold Flow.two; simp) ⟨?_, ?_, ?_, ?_, ?_, ?_, ?_, ?_, ?_, ?_, ?_, ?_, ?_, ?_, trivial⟩ ?_
        · exact Flow.move (Flow.goes_plain rfl) (Flow.two.upd (by decide)) (.inl rfl) fun a s w' hs hd => (hs 0 (by kernel_rfl))
        · refine Flow.pure (Flow.goes_plain rfl) (Flow.two.upd (by decide)) fun a L s w' hC hL hn hs hd => ?_
          skip
          exact ⟨_, op_nil rfl (hd 0 30 (by kernel_rfl)) w', rfl⟩
        · refine Flow.pure (Flow.goes_plain rfl) (Flow.two.upd (by decide)) fun a L s w' hC hL hn hs hd => ?_
          skip
          exact ⟨_, op_f73_0 rfl (hd 1 31 (by kernel_rfl)) w', rfl⟩
        · refine Flow.pure (Flow.goes_plain rfl) (Flow.two.upd (by decide)) fun a L s w' hC hL hn hs hd => ?_
          have hA := hC.pre (hn.after 13 (by kernel_rfl))
          exact ⟨_, op_load63 rfl (hd 2 32 (by kernel_rfl)) (by rw [hA]; exact hc0), rfl⟩
        · refine Flow.pure (Flow.goes_plain rfl) (Flow.two.upd (by decide)) fun a L s w' hC hL hn hs hd => ?_
          skip
          exact ⟨_, op_f77_0 rfl (hs 6 (by kernel_rfl)) w', rfl⟩
        · refine Flow.pure (Flow.goes_plain rfl) (Flow.two.upd (by decide)) fun a L s w' hC hL hn hs hd => ?_
          have hA := hC.pre (hn.after 13 (by kernel_rfl))
          exact ⟨_, op_load3 rfl (hd 4 34 (by kernel_rfl)) (by rw [hA]; exact hcx), rfl⟩
        · refine Flow.pure (Flow.goes_plain rfl) (Flow.two.upd (by decide)) fun a L s w' hC hL hn hs hd => ?_
          have hA := hC.pre (hn.after 13 (by kernel_rfl))
          exact ⟨_, op_idx63 rfl (hd 3 33 (by kernel_rfl)) (hd 5 35 (by kernel_rfl)) hxk w', rfl⟩
        · exact Flow.pure (Flow.goes_plain rfl) (Flow.two.upd (by decide)) fun a L s w' hC hL hn hs hd => ⟨_, op_all75 rfl (hd 6 36 (by kernel_rfl)) w', rfl⟩
        · refine Flow.pure (Flow.goes_plain rfl) (Flow.two.upd (by decide)) fun a L s w' hC hL hn hs hd => ?_
          skip
          exact ⟨_, op_f77_1 rfl (hs 6 (by kernel_rfl)) w', rfl⟩
        · exact Flow.move (Flow.goes_plain rfl) (Flow.two.upd (by decide)) (.inl rfl) fun a s w' hs hd => (hs 5 (by kernel_rfl))
        · refine Flow.pure (Flow.goes_plain rfl) (Flow.two.upd (by decide)) fun a L s w' hC hL hn hs hd => ?_
          have hA := hC.pre (hn.after 13 (by kernel_rfl))
          exact ⟨_, op_conv5_3 rfl (hd 9 39 (by kernel_rfl)) (b.toNat_lt) w', rfl⟩
        · refine Flow.pure (Flow.goes_plain rfl) (Flow.two.upd (by decide)) fun a L s w' hC hL hn hs hd => ?_
          have hA := hC.pre (hn.after 13 (by kernel_rfl))
          exact ⟨_, op_min3 rfl (hd 10 40 (by kernel_rfl)) rfl (by omega) w', rfl⟩
        · exact Flow.pure (Flow.goes_plain rfl) (Flow.two.upd (by decide)) fun a L s w' hC hL hn hs hd => ⟨_, op_to75 rfl (hd 8 38 (by kernel_rfl)) (hd 11 41 (by kernel_rfl)) (by omega) w', rfl⟩
        · refine Flow.value (Flow.goes_plain rfl) fun a L s0 w' hC hL hn hs hd => ?_
          have hA := hC.pre hL
          subst hA
          have hxl : (xs.take (min b.toNat 64)).length = min b.toNat 64 := by rw [List.length_take, unhide HXS]; omega
          have hmin : min b.toNat 64 ≤ 64 := Nat.min_le_right _ _
          obtain ⟨w9, hr9, q1, q2, q3⟩ := op_copy32 (ρ := a.eval) (g := bk) (off := xn * 64) (g2 := q) (o2 := 1) (n := 64) (n2 := 64) (c2 := 64) (bs := xs.take (min b.toNat 64)) (hd 7 37 (by kernel_rfl)) (by rw [hxl]; exact (hd 12 42 (by kernel_rfl))) ((unhide HDB4).same (w' := w4.drew) (fun _ _ => rfl)).kept (fun j v hj => hrx j v (by
            have hjl : j < (xs.take (min b.toNat 64)).length := by have := (List.getElem?_eq_some_iff.1 hj).1; rw [bytesV_length] at this; exact this
            rw [bytesV, List.getElem?_map] at hj ⊢
            rw [List.getElem?_take_of_lt (by omega)] at hj
            exact hj)) (by omega) (by
            rw [secsV_length (unhide HDB4).ok.keptS, hxl]
            have := unhide HXN
            show xn * 64 + _ ≤ K.length * 64
            omega)
          refine ⟨_, (), w9, hr9 _ rfl, fun _ _ _ h => h, Flow.two.post ⟨?_, q2, q3⟩, rfl⟩
          rw [hxl, secsV_over (unhide HDB4).ok.keptS (unhide HXN) (unhide HXS) hmin] at q1
          exact q1
        · intro L _ w5 hC hL vals hv
          obtain ⟨hA5, hg5, hs5⟩ := hC.end (hL 13 (by decide))
          have HDB5 := hide ((((unhide HDB4).same (w' := w4.drew) (fun _ _ => rfl))).keptArr (ks := layOne K (xn, xs) b) (by simp [layOne]) (layOne_64 (unhide HDB4).ok.keptS ⟨unhide HXN, unhide HXS⟩ b) hA5 hg5)
          have HBU5 : Hid (But (devF p bk bn bw (.slice (some ⟨g, 0, none⟩) n cap2)) w w5) := hide ((unhide HBU4).trans (But.of_grown (b := bk) hg5 (by simp [devF])).undrew (fun _ h => .inl h))
          simp only [Free.putAll, Act.put, List.setIfInBounds_toArray, List.set_cons_succ, List.set_cons_zero]
          clear hA5 hg5 hs5 hC hL hv hc0 hcx hrx HDB4 HBU4 HA4
          generalize vals 0 = y0 at *
          generalize vals 1 = y1 at *
          generalize vals 2 = y2 at *
          generalize vals 3 = y3 at *
          generalize vals 4 = y4 at *
          generalize vals 5 = y5 at *
          generalize vals 6 = y6 at *
          generalize vals 7 = y7 at *
          generalize vals 8 = y8 at *
          generalize vals 9 = y9 at *
          generalize vals 10 = y10 at *
          generalize vals 11 = y11 at *
          generalize vals 12 = y12 at *
          generalize vals 13 = y13 at *
          go_wp2_with fail
          go_roundw
          case rel =>
            refine ⟨j + 1, by omega, by go_num, ?_, unhide HBU5⟩
            rw [unhide HLT]
            exact unhide HDB5
          case measure => simp [intOf]; omega
      · have hje : j = len := by omega
        subst j
        have hmin : layKept d.kept (d.wait.take len) (bs.take len) = layKept d.kept d.wait bs := layKept_min d.wait bs d.kept _ (by rw [unhide HBL]; omega)
        rw [hmin] at hB
        have E : Hid (restartD d bs = { d with kept := layKept d.kept d.wait bs, now := layKept d.kept d.wait bs, wait := [], budget := -1, down := false }) := hide rfl
        obtain ⟨K, hK⟩ : ∃ K, K = layKept d.kept d.wait bs := ⟨_, rfl⟩
        rw [← hK] at hB E
        clear hK hmin hrowr
        have hc0 := hB.dev.cell (i := 0) rfl
        have hc1 := hB.dev.cell (i := 1) rfl
        have HDBr := hide hB
        clear hB
        generalize hkn : K.length = kn at hc0 hc1
        have HKN := hide hkn
        clear hkn
        go_wp2_with fail
        refine Flow.wp_region (Flow.VV (fun j => match j with | 0 => .pointer (some ⟨p, 0, none⟩) | 1 => .pointer (some ⟨p, 0, none⟩) | 2 => .pointer (some ⟨p, 1, none⟩) | 3 => .slice (some ⟨bn, 0, none⟩) kn kn | 4 => .pointer (some ⟨p, 0, none⟩) | 5 => .pointer (some ⟨p, 0, none⟩) | 6 => .pointer (some ⟨p, 0, none⟩) | 7 => .slice (some ⟨bk, 0, none⟩) kn kn | 8 => .int .i64 (kn : Int) | _ => undef)) (Flow.two 8 (fun _ w' => w' = wr.drew) (fun _ w' => Arr w' bn (secsV K) ∧ wr.drew.grownBy w' (some bn) ∧ w'.heap.size = wr.heap.size)) () (by kernel_rfl) (by kernel_rfl) (by unfold Flow.two; simp) ⟨?_, ?_, ?_, ?_, ?_, ?_, ?_, ?_, ?_, trivial⟩ ?_
        · exact Flow.move (Flow.goes_plain rfl) (Flow.two.upd (by decide)) (.inl rfl) fun a s w' hs hd => (hs 0 (by kernel_rfl))
        · refine Flow.pure (Flow.goes_plain rfl) (Flow.two.upd (by decide)) fun a L s w' hC hL hn hs hd => ?_
          skip
          exact ⟨_, op_nil rfl (hd 0 45 (by kernel_rfl)) w', rfl⟩
        · refine Flow.pure (Flow.goes_plain rfl) (Flow.two.upd (by decide)) fun a L s w' hC hL hn hs hd => ?_
          skip
          exact ⟨_, op_f73_1 rfl (hd 1 46 (by kernel_rfl)) w', rfl⟩
        · refine Flow.pure (Flow.goes_plain rfl) (Flow.two.upd (by decide)) fun a L s w' hC hL hn hs hd => ?_
          have hA := hC.pre (hn.after 8 (by kernel_rfl))
          exact ⟨_, op_load63 rfl (hd 2 47 (by kernel_rfl)) (by rw [hA]; exact hc1), rfl⟩
        · exact Flow.move (Flow.goes_plain rfl) (Flow.two.upd (by decide)) (.inl rfl) fun a s w' hs hd => (hs 0 (by kernel_rfl))
        · refine Flow.pure (Flow.goes_plain rfl) (Flow.two.upd (by decide)) fun a L s w' hC hL hn hs hd => ?_
          skip
          exact ⟨_, op_nil rfl (hd 4 49 (by kernel_rfl)) w', rfl⟩
        · refine Flow.pure (Flow.goes_plain rfl) (Flow.two.upd (by decide)) fun a L s w' hC hL hn hs hd => ?_
          skip
          exact ⟨_, op_f73_0 rfl (hd 5 50 (by kernel_rfl)) w', rfl⟩
        · refine Flow.pure (Flow.goes_plain rfl) (Flow.two.upd (by decide)) fun a L s w' hC hL hn hs hd => ?_
          have hA := hC.pre (hn.after 8 (by kernel_rfl))
          exact ⟨_, op_load63 rfl (hd 6 51 (by kernel_rfl)) (by rw [hA]; exact hc0), rfl⟩
        · refine Flow.value (Flow.goes_plain rfl) fun a L s0 w' hC hL hn hs hd => ?_
          have hA := hC.pre hL
          subst hA
          obtain ⟨w9, hr9, q1, q2, q3⟩ := op_copy63 (ρ := a.eval) (g := bn) (g2 := bk) (n := kn) (ss := K) (unhide HKN) (hd 3 48 (by kernel_rfl)) (hd 7 52 (by kernel_rfl)) ((unhide HDBr).same (w' := wr.drew) (fun _ _ => rfl)).now ((unhide HDBr).same (w' := wr.drew) (fun _ _ => rfl)).kept (unhide HDBr).ok.keptS (by rw [secsV_length (unhide HDBr).ok.nowS, ← unhide HKN]; exact congrArg (· * 64) (unhide HDBr).ok.now)
          exact ⟨_, (), w9, hr9 _ rfl, fun _ _ _ h => h, Flow.two.post ⟨q1, q2, q3⟩, rfl⟩
        · intro L _ w5 hC hL vals hv
          obtain ⟨hA5, hg5, hs5⟩ := hC.end (hL 8 (by decide))
          have hB5 := (((unhide HDBr).same (w' := wr.drew) (fun _ _ => rfl))).nowArr (ks := K) rfl (unhide HDBr).ok.keptS hA5 hg5
          have HBU5 : Hid (But (devF p bk bn bw (.slice ad d.wait.length cap2)) w w5) := hide ((unhide HBU).trans (But.of_grown (b := bn) hg5 (by simp [devF])).undrew (fun _ h => .inl h))
          have hA0 := hB5.dev
          have hc2 := hA0.cell (i := 2) rfl
          have hf2 := hA0.free 2
          have hA1 := hA0.set 2 (.slice none 0 0)
          have hc5 := hA1.cell (i := 5) rfl
          have hf5 := hA1.free 5
          have hA2 := hA1.set 5 (.int .i64 (-1))
          have hc6 := hA2.cell (i := 6) rfl
          have hf6 := hA2.free 6
          have hN1 := hB5.noWait
          have HN2 := hide ((hN1.1.field 5 (.int .i64 (-1)) (d' := { d with kept := K, now := K, wait := [], budget := -1 }) rfl rfl rfl rfl rfl (by
            have := hN1.1.ok
            exact { this with low := Int.le_refl _, high := by show (-1 : Int) ≤ _; decide })).field 6 (.bool false) (d' := { d with kept := K, now := K, wait := [], budget := -1, down := false }) rfl rfl rfl rfl rfl (by
            have := hN1.1.ok
            exact { this with low := Int.le_refl _, high := by show (-1 : Int) ≤ _; decide }))
          have HT2 := hide hN1.2
          simp only [Free.putAll, Act.put, List.setIfInBounds_toArray, List.set_cons_succ, List.set_cons_zero]
          clear hA5 hg5 hs5 hC hL hv hc0 hc1 HDBr HBU hA0 hA1 hA2 hN1 hB5
          generalize vals 0 = y0 at *
          generalize vals 1 = y1 at *
          generalize vals 2 = y2 at *
          generalize vals 3 = y3 at *
          generalize vals 4 = y4 at *
          generalize vals 5 = y5 at *
          generalize vals 6 = y6 at *
          generalize vals 7 = y7 at *
          generalize vals 8 = y8 at *
          go_wp2_with fail
          refine ⟨rfl, .tuple #[], by simp [results, Try.results14], ?_⟩
          refine ⟨rfl, _, ⟨bk, bn, bw, _, rfl, by rw [unhide E]; exact unhide HN2⟩, ?_⟩
          have t1 : Turns (devF p bk bn bw (.slice ad d.wait.length cap2)) (devF p bk bn bw (.slice none 0 0)) w (w5.setCell ⟨p, 2, none⟩ (.slice none 0 0)) := Turns.trans ⟨unhide HBU5, fun _ h => .inl h⟩ (unhide HT2)
          have hp : p ∈ devF p bk bn bw (.slice none 0 0) := by simp [devF]
          exact (t1.trans ⟨But.of_grown (set_grown _ _ _ _) hp, fun _ h => .inl h⟩).trans ⟨But.of_grown (set_grown _ _ _ _) hp, fun _ h => .inl h⟩
end
end Go.Proofs.Ytjebejdcjfnleaa
