/-
  PartRuns: the walk.
-/
import Derived.Test.YtlgknllcnkainaaSteps
namespace Go.Proofs.Ytlgknllcnkainaa
open Go.RowKit
namespace partRuns

set_option maxHeartbeats 12800000 in
set_option maxRecDepth 100000 in
theorem main (s : Nat) (hs : s ≤ 40) (sa : Option Addr) (slen scap : Nat) (l : List Int) (hsl : slen ≤ 20) (a : Option Addr) (len cap : Nat) (hlen : len ≤ 80) (w : World) (hI : IRow w.heap.size w sa slen l) (hA : Acts w.heap.size w a len) :
    Calls Try.prog 4 #[.int .i64 (s : Int), .slice sa slen scap, .slice a len cap] w fun e w' => e = .returned (.bool true) ∧ Below w.heap.size w w' := by
  have HACT := hide hA
  have HI := hide hI
  have HLL := hide hI.1
  clear hA hI
  go_enter Try.func4, Try.ntmps4
  go_wp2_with fail
  refine (palive_walk w).mono ?_
  rintro e w1 ⟨rfl, hb1⟩
  have Hb1 := hide hb1
  clear hb1
  go_wp2_with fail
  refine (new_walk (s : Int) 6 w1).mono ?_
  rintro e w2 ⟨D, p, rfl, hD, hF, hb⟩
  have hs1 := (unhide Hb1).size
  have HD2 := hide hD
  have HF2 : Hid (∀ k ∈ D, w.heap.size ≤ k) := hide (fun k hk => Nat.le_trans hs1 (hF k hk))
  have Hb2 := hide ((unhide Hb1).trans (hb.mono hs1))
  have HI2 := hide (((unhide HI).below (unhide Hb2)).up (unhide Hb2).size)
  have HK2 := hide (newD_kept6 hs 6)
  clear hD hF hb Hb1 hs1
  go_wp2_with fail
  refine (mnew_walk (unhide HD2) sa slen scap l (unhide HI2) (by omega)).mono ?_
  intro e w3 hP
  unfold NewP at hP
  rw [unhide HK2] at hP
  by_cases hr : rightD s l = true
  · rw [if_pos hr] at hP
    obtain ⟨m, F, rfl, hM3, hF3, hb3⟩ := hP
    have hs2 := (unhide Hb2).size
    have HM3 := hide hM3
    have HF3 : Hid (∀ k ∈ F ++ D, w.heap.size ≤ k) := hide fun k hk => by
      rcases List.mem_append.1 hk with e | e
      · exact Nat.le_trans hs2 (hF3 k e)
      · exact unhide HF2 k e
    have Hb3 := hide ((unhide Hb2).trans (hb3.mono hs2))
    have HRW := hide (right_walk w3 s hs sa slen scap l (((unhide HI2).below hb3).up hb3.size) hsl)
    rw [hr] at HRW
    have HRT := hide hr
    clear hM3 hF3 hb3 HD2 HF2 Hb2 HI2 hs2 hr
    go_wp2_with fail
    refine (unhide HRW).mono ?_
    rintro e w4 ⟨rfl, hw4⟩
    subst w4
    clear HRW
    go_wp2_with fail
    refine (rnew_walk (s : Int) 6 w3).mono ?_
    rintro e w4 ⟨E, q, rfl, hR4, hE4, hb4⟩
    have hs3 := (unhide Hb3).size
    have HM4 := hide ((unhide HM3).below hb4)
    have HR4 := hide hR4
    have Hb4 := hide ((unhide Hb3).trans (hb4.mono hs3))
    have HE4 : Hid (∀ k ∈ E, w.heap.size ≤ k) := hide fun k hk => Nat.le_trans hs3 (hE4 k hk)
    have HAP4 : Hid (∀ k ∈ F ++ D, k ∉ E) := hide fun k hk e => by
      have h1 := (unhide HM3).lt k hk
      have h2 := hE4 k e
      omega
    clear hR4 hE4 hb4 HM3 Hb3 hs3
    go_wp2_with (first
      | refine wpList_build 48 _ [.pointer (some ⟨q, 0, none⟩), .slice sa slen scap, .int .i64 0, .slice none 0 0] _ rfl rfl rfl (built48 q slen scap sa) ?_
      | refine wpList_box 48 _ [.pointer (some ⟨q, 0, none⟩), .slice sa slen scap, .int .i64 0, .slice none 0 0] rfl rfl rfl ?_)
    intro w5 hA5 hb5 hs5
    have hs4 := (unhide Hb4).size
    have Hb5 := hide ((unhide Hb4).trans (hb5.mono hs4))
    have HFIT := hide (right_sum (unhide HRT))
    have HT5 : Hid (Two w.heap.size sa scap F D (opsF w4.heap.size (.slice none 0 0)) E w5 m p w4.heap.size q (newD (s : Int) 6) (newR (s : Int) 6) ⟨l.map Int.toNat, 0, []⟩ ⟨l.map Int.toNat, 0, []⟩) := hide {
      prog := (unhide HM4).below hb5
      doc := {
        map := ⟨_, rfl, {
          ob := { apart := by simp [Value.ownBlock], arr := by
                    show Arr w5 w4.heap.size [.pointer (some ⟨q, 0, none⟩), .slice sa (l.map Int.toNat).length scap, .int .i64 0, .slice none 0 0]
                    rw [List.length_map, unhide HLL]; exact hA5
                  ops := World.ownsRow_nil _ 0 39 4 }
          few := by
            show (l.map Int.toNat).length ≤ 16
            rw [List.length_map]; exact (rightD_iff.1 (unhide HRT)).2.1
          sum := Nat.le_trans (unhide HFIT) (by omega)
          row := fun i hi => by
            have hi2 : i < l.length := by
              have : i < (l.map Int.toNat).length := hi
              rw [List.length_map] at this
              exact this
            obtain ⟨b, off, ha, hbN, hc⟩ := ((unhide HI).below (unhide Hb5)).2 i (by rw [← unhide HLL]; exact hi2)
            exact ⟨b, off, ha, hbN, by rw [hc]; exact congrArg (fun z => some (Value.int .i64 z)) (right_get (unhide HRT) hi2).symm⟩
          above := fun k hk => by
            simp only [opsF, Value.ownBlock, Option.toList, List.mem_cons, List.not_mem_nil, or_false] at hk
            omega }⟩
        dev := (unhide HR4).below hb5
        apart := fun k hk e => by
          simp only [opsF, Value.ownBlock, Option.toList, List.mem_cons, List.not_mem_nil, or_false] at hk
          have := (unhide HR4).lt k e
          omega
        fits := by rw [newR_kept6 hs]; exact unhide HFIT
        aboveD := unhide HE4
        size := Nat.le_trans hs4 hb5.size }
      above := unhide HF3
      apart := fun k hk e => by
        rcases List.mem_append.1 e with e | e
        · simp only [opsF, Value.ownBlock, Option.toList, List.mem_cons, List.not_mem_nil, or_false] at e
          have := (unhide HM4).lt k hk
          omega
        · exact unhide HAP4 k hk e }
    have HB5 : Hid (Both (newD (s : Int) 6) (newR (s : Int) 6)) := hide ⟨Sim.new _ _, newD_ok _ _⟩
    have HW5 : Hid ((newD (s : Int) 6).wait.length ≤ 4096 * 0) := hide (Nat.le_refl _)
    have HLM : Hid ((l.map Int.toNat).length = slen) := hide (by rw [List.length_map]; exact unhide HLL)
    have HSUM : Hid ((l.map Int.toNat).sum ≤ 4096) := hide (Nat.le_trans (unhide HFIT) (by omega))
    have HIX : Hid (∀ i, i < slen → ∃ b off, sa = some ⟨b, off, none⟩ ∧ b < w.heap.size ∧ w.cell? ⟨b, off + i, none⟩ = some (.int .i64 (((l.map Int.toNat).getD i 0 : Nat) : Int))) := hide fun i hi => by
      obtain ⟨b, off, ha, hbN, hc⟩ := (unhide HI).2 i hi
      exact ⟨b, off, ha, hbN, by rw [hc]; exact congrArg (fun z => some (Value.int .i64 z)) (right_get (unhide HRT) (by rw [unhide HLL]; exact hi)).symm⟩
    clear hA5 hb5 hs4 HM4 HR4 Hb4 HE4 HAP4 HF3 HFIT HRT HI HLL HK2
    generalize newD (s : Int) 6 = d at *
    generalize newR (s : Int) 6 = r at *
    generalize l.map Int.toNat = sz at *
    generalize w4.heap.size = n at *
    generalize opsF n (.slice none 0 0) = G at *
    go_wp2
    go_loopw [70] (fun ci wr => ∃ (j : Nat) (F D G E : List Nat) (d : DM) (r : RM) (x : MX), j ≤ len ∧ ci = .int .i64 (j : Int) ∧ Two w.heap.size sa scap F D G E wr m p n q d r x x ∧ Both d r ∧ x.sz = sz ∧ x.ops = [] ∧ d.wait.length ≤ 4096 * j ∧ Below w.heap.size w wr) (fun ci _ => len - (intOf ci).toNat)
    case atStart => exact ⟨0, F, D, G, E, d, r, _, by omega, rfl, unhide HT5, unhide HB5, rfl, rfl, unhide HW5, unhide Hb5⟩
    case round =>
      clear HT5 HB5 HW5 Hb5
      obtain ⟨j, F, D, G, E, d, r, x, hj, rfl, hT, hB, hsz, hops, hwt, hb⟩ := hrel
      have hN := hT.size
      have HT := hide hT
      have HB := hide hB
      have Hb := hide hb
      have HX := hide (And.intro hsz hops)
      clear hT hB hsz hops
      by_cases hlt : j < len
      · obtain ⟨ba, off, kd, pt, pl, v, ka, kl, kc, rfl, hbN, c0, c1, c2, c3, c4, hpl, hkk⟩ := ((unhide HACT).below hb) j hlt
        clear hb
        have hbl : ∀ C, Below wr.heap.size wr (wr.alloc (.cells C 51)) := fun C => (Below.refl _ _).alloc (Nat.le_refl _) _
        have HT0 : Hid (∀ C, Two w.heap.size sa scap F D G E (wr.alloc (.cells C 51)) m p n q d r x x) := hide (fun C => (unhide HT).below (hbl C))
        have Hb0 : Hid (∀ C, Below w.heap.size w (wr.alloc (.cells C 51))) := hide (fun C => (unhide Hb).trans ((hbl C).mono hN))
        have HA0 : Hid (Arr (wr.alloc (.cells #[.int .i64 kd, .int .i64 pt, .int .i64 pl, .int .u8 ((v.toNat : Nat) : Int), .slice ka kl kc] 51)) wr.heap.size [.int .i64 kd, .int .i64 pt, .int .i64 pl, .int .u8 ((v.toNat : Nat) : Int), .slice ka kl kc]) := hide ⟨_, _, heap_alloc_new wr _, rfl⟩
        have HQ0 : Hid (wr.heap.size ∉ F ++ D ∧ wr.heap.size ∉ G ++ E ∧ w.heap.size ≤ wr.heap.size) := hide ⟨fun e => by have := (unhide HT).prog.lt _ e; omega, fun e => by have := (unhide HT).doc.lt _ e; omega, hN⟩
        have HKK : Hid (∀ C, KeptOk w.heap.size (wr.alloc (.cells C 51)) ka kl kc) := hide (fun C => ⟨hkk.1, hkk.2.1, fun hx => by
          obtain ⟨bs, hr⟩ := hkk.2.2 hx
          exact ⟨bs, hr.below ((hbl C).mono hN)⟩⟩)
        have HWT := hide hwt
        have HWL : Hid (d.wait.length ≤ 900000 ∧ r.done.length ≤ 900000) := hide ⟨by omega, by rw [both_done (unhide HB)]; omega⟩
        have HOP : Hid (x.ops.length ≤ 0) := hide (by rw [(unhide HX).2]; exact Nat.le_refl _)
        have HPL := hide hpl
        clear hbl hkk hN HT Hb hwt
        obtain ⟨sb, hsb⟩ : ∃ sb, sb = wr.heap.size := ⟨_, rfl⟩
        have hkinds : kd = 0 ∨ kd = 1 ∨ kd = 2 ∨ kd = 4 ∨ kd = 5 ∨ kd = 6 ∨ kd = 7 ∨ kd = 8 ∨ (kd ≠ 0 ∧ kd ≠ 1 ∧ kd ≠ 2 ∧ kd ≠ 4 ∧ kd ≠ 5 ∧ kd ≠ 6 ∧ kd ≠ 7 ∧ kd ≠ 8) := by omega
        rcases hkinds with rfl | rfl | rfl | rfl | rfl | rfl | rfl | rfl | ⟨k0, k1, k2, k4, k5, k6, k7, k8⟩
        · as_aux_lemma =>
            go_wp2_with fail
            have HT1 := hide (unhide HT0 #[.int .i64 0, .int .i64 pt, .int .i64 pl, .int .u8 ((v.toNat : Nat) : Int), .slice ka kl kc])
            have Hb1 := hide (unhide Hb0 #[.int .i64 0, .int .i64 pt, .int .i64 pl, .int .u8 ((v.toNat : Nat) : Int), .slice ka kl kc])
            have HK1 := hide (unhide HKK #[.int .i64 0, .int .i64 pt, .int .i64 pl, .int .u8 ((v.toNat : Nat) : Int), .slice ka kl kc])
            clear HT0 Hb0 HKK c0 c1 c2 c3 c4 HACT
            rw [← hsb] at HA0 HQ0 ⊢
            generalize wr.alloc (.cells #[.int .i64 0, .int .i64 pt, .int .i64 pl, .int .u8 ((v.toNat : Nat) : Int), .slice ka kl kc] 51) = w1 at *
            clear hsb
            obtain ⟨E1, d3, r3, x3, hrD, hrR, hB3, hx3, ho3, hw3⟩ := both_program (unhide HB) x pt pl (fullS_len v)
            have HB3 := hide hB3
            have HX3 : Hid (x3.sz = sz ∧ x3.ops.length ≤ 4096) := hide ⟨hx3.trans (unhide HX).1, by have := unhide HOP; omega⟩
            have HW3 : Hid (d3.wait.length ≤ 4096 * (j + 1)) := hide (by have := unhide HWT; omega)
            clear hB3 hx3 ho3 hw3 HWT
            have HWD : Hid (∀ w1, Two w.heap.size sa scap F D G E w1 m p n q d r x x → Calls Try.prog 11 #[.pointer (some ⟨m, 0, none⟩), .int .i64 pt, .int .i64 pl, secV (fullS v)] w1 fun e w' => e = .returned (.int .i64 E1) ∧ ∃ F' D', PMap F' D' w' m p d3 x3 ∧ Turns (F ++ D) (F' ++ D') w1 w') := hide fun w1 hT1 => by
              have := mprogram_walk hT1.prog pt pl (unhide HPL) (fullS v) (fullS_len v) (Nat.le_trans (unhide HWL).1 (by omega)) (Nat.le_trans (unhide HOP) (by omega))
              rw [hrD] at this
              exact this
            have HWR : Hid (∀ F3 D3 w2, Two w.heap.size sa scap F3 D3 G E w2 m p n q d3 r x3 x → Calls Try.prog 19 #[.pointer (some ⟨n, 0, none⟩), .int .i64 pt, .int .i64 pl, secV (fullS v)] w2 fun e w' => e = .returned (.int .i64 E1) ∧ ∃ F' D', RPMap w.heap.size sa scap F' D' w' n q r3 x3 ∧ Turns (G ++ E) (F' ++ D') w2 w') := hide fun F3 D3 w2 hT2 => by
              have := rmprogram_walk hT2.doc pt pl (unhide HPL) (fullS v) (fullS_len v) (Nat.le_trans (unhide HWL).2 (by omega)) (Nat.le_trans (unhide HOP) (by omega))
              rw [hrR] at this
              exact this
            clear hrD hrR HK1
            have HAA := HA0
            refine Flow.wp_region (Flow.VV (fun j => match j with | 0 => .pointer (some ⟨m, 0, none⟩) | 1 => .pointer (some ⟨sb, 1, none⟩) | 2 => .int .i64 pt | 3 => .pointer (some ⟨sb, 2, none⟩) | 4 => .int .i64 pl | 5 => .pointer (some ⟨sb, 3, none⟩) | 6 => .int .u8 ((v.toNat : Nat) : Int) | 7 => secV (fullS v) | 8 => .int .i64 E1 | 9 => .int .i64 E1 | _ => undef)) (Flow.two 8 (fun _ w' => Below w1.heap.size w1 w') (fun _ w' => ∃ F3 D3, Two w.heap.size sa scap F3 D3 G E w' m p n q d3 r x3 x ∧ Below w.heap.size w1 w' ∧ Arr w' sb [.int .i64 0, .int .i64 pt, .int .i64 pl, .int .u8 ((v.toNat : Nat) : Int), .slice ka kl kc])) () (by kernel_rfl) (by kernel_rfl) (by unfold Flow.two; simp; exact (Below.refl _ w1).drew) ⟨?_, ?_, ?_, ?_, ?_, ?_, ?_, ?_, ?_, ?_, trivial⟩ ?_
            · exact Flow.move (Flow.goes_plain rfl) (Flow.two.upd (by decide)) (.inl rfl) fun a s w' hs hd => (hs 8 (by kernel_rfl))
            · refine Flow.pure (Flow.goes_plain rfl) (Flow.two.upd (by decide)) fun a L s w' hC hL hn hs hd => ?_
              skip
              exact ⟨_, op_f51_1 rfl (hs 12 (by kernel_rfl)) w', rfl⟩
            · refine Flow.pure (Flow.goes_plain rfl) (Flow.two.upd (by decide)) fun a L s w' hC hL hn hs hd => ?_
              have hA := hC.pre (hn.after 8 (by kernel_rfl))
              exact ⟨_, op_load3 rfl (hd 1 105 (by kernel_rfl)) ((hA.cell (p := ⟨sb, 1, none⟩) (unhide HAA).lt).trans ((unhide HAA).cell (i := 1) rfl)), rfl⟩
            · refine Flow.pure (Flow.goes_plain rfl) (Flow.two.upd (by decide)) fun a L s w' hC hL hn hs hd => ?_
              skip
              exact ⟨_, op_f51_2 rfl (hs 12 (by kernel_rfl)) w', rfl⟩
            · refine Flow.pure (Flow.goes_plain rfl) (Flow.two.upd (by decide)) fun a L s w' hC hL hn hs hd => ?_
              have hA := hC.pre (hn.after 8 (by kernel_rfl))
              exact ⟨_, op_load3 rfl (hd 3 107 (by kernel_rfl)) ((hA.cell (p := ⟨sb, 2, none⟩) (unhide HAA).lt).trans ((unhide HAA).cell (i := 2) rfl)), rfl⟩
            · refine Flow.pure (Flow.goes_plain rfl) (Flow.two.upd (by decide)) fun a L s w' hC hL hn hs hd => ?_
              skip
              exact ⟨_, op_f51_3 rfl (hs 12 (by kernel_rfl)) w', rfl⟩
            · refine Flow.pure (Flow.goes_plain rfl) (Flow.two.upd (by decide)) fun a L s w' hC hL hn hs hd => ?_
              have hA := hC.pre (hn.after 8 (by kernel_rfl))
              exact ⟨_, op_load5 rfl (hd 5 109 (by kernel_rfl)) ((hA.cell (p := ⟨sb, 3, none⟩) (unhide HAA).lt).trans ((unhide HAA).cell (i := 3) rfl)), rfl⟩
            · refine Flow.call (Flow.goes_plain rfl) fun a L s0 w' hC hL hn hs hd => ⟨18, #[.int .u8 ((v.toNat : Nat) : Int)], op_call18 (v0 := .int .u8 ((v.toNat : Nat) : Int)) rfl (hd 6 110 (by kernel_rfl)) rfl w', (full_walk v w').mono ?_⟩
              rintro e w'' ⟨rfl, hb⟩
              have hA := hC.pre (hn.after 8 (by kernel_rfl))
              exact ⟨_, (), rfl, fun _ _ _ h => h, Flow.two.put (by decide) (hn.after 8 (by kernel_rfl)) (hA.trans (hb.mono hA.size)), rfl⟩
            · refine Flow.call (Flow.goes_plain rfl) fun a L s0 w' hC hL hn hs hd => ⟨11, _, op_call11 rfl (hd 0 104 (by kernel_rfl)) (hd 2 106 (by kernel_rfl)) (hd 4 108 (by kernel_rfl)) (hd 7 111 (by kernel_rfl)) rfl w', ?_⟩
              have hA := hC.pre hL
              refine (unhide HWD _ ((unhide HT1).below hA)).mono ?_
              rintro e w'' ⟨rfl, F3, D3, hP2, hTu2⟩
              have ht2 := ((unhide HT1).below hA).turnP hTu2 hP2
              have ha2 := hTu2.keep ((unhide HAA).below hA) (unhide HQ0).1
              exact ⟨_, (), rfl, fun _ _ _ h => h, Flow.two.post ⟨F3, D3, ht2.1, (hA.mono (unhide HT1).size).trans ht2.2, ha2.1⟩, rfl⟩
            · exact Flow.move (Flow.goes_plain rfl) (Flow.two.upd (by decide)) (.inr rfl) fun a s w' hs hd => (hd 8 112 (by kernel_rfl))
            · intro L _ w2 hC hL vals hv
              obtain ⟨F3, D3, hT2, hb2, hA2⟩ := hC.end (hL 8 (by decide))
              have e9 : vals 9 = .int .i64 E1 := hv 9 _ 13 rfl rfl
              have e8 : vals 8 = .int .i64 E1 := hv 8 _ 112 rfl rfl
              simp only [Free.putAll, Act.put, List.setIfInBounds_toArray, List.set_cons_succ, List.set_cons_zero, e8, e9]
              have HT2 := hide hT2
              have Hb2 := hide ((unhide Hb1).trans hb2)
              clear hC hL hv e8 e9 HT1 Hb1 HAA
              have HAA := hide hA2
              clear hT2 hb2 hA2
              generalize vals 0 = a0 at *
              generalize vals 1 = a1 at *
              generalize vals 2 = a2 at *
              generalize vals 3 = a3 at *
              generalize vals 4 = a4 at *
              generalize vals 5 = a5 at *
              generalize vals 6 = a6 at *
              generalize vals 7 = a7 at *
              go_wp2_with fail
              refine Flow.wp_region (Flow.VV (fun j => match j with | 0 => .pointer (some ⟨n, 0, none⟩) | 1 => .pointer (some ⟨sb, 1, none⟩) | 2 => .int .i64 pt | 3 => .pointer (some ⟨sb, 2, none⟩) | 4 => .int .i64 pl | 5 => .pointer (some ⟨sb, 3, none⟩) | 6 => .int .u8 ((v.toNat : Nat) : Int) | 7 => secV (fullS v) | 8 => .int .i64 E1 | 9 => .int .i64 E1 | _ => undef)) (Flow.two 8 (fun _ w' => Below w2.heap.size w2 w') (fun _ w' => ∃ G3 E3, Two w.heap.size sa scap F3 D3 G3 E3 w' m p n q d3 r3 x3 x3 ∧ Below w.heap.size w2 w')) () (by kernel_rfl) (by kernel_rfl) (by unfold Flow.two; simp; exact (Below.refl _ w2).drew) ⟨?_, ?_, ?_, ?_, ?_, ?_, ?_, ?_, ?_, ?_, trivial⟩ ?_
              · exact Flow.move (Flow.goes_plain rfl) (Flow.two.upd (by decide)) (.inl rfl) fun a s w' hs hd => (hs 10 (by kernel_rfl))
              · refine Flow.pure (Flow.goes_plain rfl) (Flow.two.upd (by decide)) fun a L s w' hC hL hn hs hd => ?_
                skip
                exact ⟨_, op_f51_1 rfl (hs 12 (by kernel_rfl)) w', rfl⟩
              · refine Flow.pure (Flow.goes_plain rfl) (Flow.two.upd (by decide)) fun a L s w' hC hL hn hs hd => ?_
                have hA := hC.pre (hn.after 8 (by kernel_rfl))
                exact ⟨_, op_load3 rfl (hd 1 114 (by kernel_rfl)) ((hA.cell (p := ⟨sb, 1, none⟩) (unhide HAA).lt).trans ((unhide HAA).cell (i := 1) rfl)), rfl⟩
              · refine Flow.pure (Flow.goes_plain rfl) (Flow.two.upd (by decide)) fun a L s w' hC hL hn hs hd => ?_
                skip
                exact ⟨_, op_f51_2 rfl (hs 12 (by kernel_rfl)) w', rfl⟩
              · refine Flow.pure (Flow.goes_plain rfl) (Flow.two.upd (by decide)) fun a L s w' hC hL hn hs hd => ?_
                have hA := hC.pre (hn.after 8 (by kernel_rfl))
                exact ⟨_, op_load3 rfl (hd 3 116 (by kernel_rfl)) ((hA.cell (p := ⟨sb, 2, none⟩) (unhide HAA).lt).trans ((unhide HAA).cell (i := 2) rfl)), rfl⟩
              · refine Flow.pure (Flow.goes_plain rfl) (Flow.two.upd (by decide)) fun a L s w' hC hL hn hs hd => ?_
                skip
                exact ⟨_, op_f51_3 rfl (hs 12 (by kernel_rfl)) w', rfl⟩
              · refine Flow.pure (Flow.goes_plain rfl) (Flow.two.upd (by decide)) fun a L s w' hC hL hn hs hd => ?_
                have hA := hC.pre (hn.after 8 (by kernel_rfl))
                exact ⟨_, op_load5 rfl (hd 5 118 (by kernel_rfl)) ((hA.cell (p := ⟨sb, 3, none⟩) (unhide HAA).lt).trans ((unhide HAA).cell (i := 3) rfl)), rfl⟩
              · refine Flow.call (Flow.goes_plain rfl) fun a L s0 w' hC hL hn hs hd => ⟨18, #[.int .u8 ((v.toNat : Nat) : Int)], op_call18 (v0 := .int .u8 ((v.toNat : Nat) : Int)) rfl (hd 6 119 (by kernel_rfl)) rfl w', (full_walk v w').mono ?_⟩
                rintro e w'' ⟨rfl, hb⟩
                have hA := hC.pre (hn.after 8 (by kernel_rfl))
                exact ⟨_, (), rfl, fun _ _ _ h => h, Flow.two.put (by decide) (hn.after 8 (by kernel_rfl)) (hA.trans (hb.mono hA.size)), rfl⟩
              · refine Flow.call (Flow.goes_plain rfl) fun a L s0 w' hC hL hn hs hd => ⟨19, _, op_call19 rfl (hd 0 113 (by kernel_rfl)) (hd 2 115 (by kernel_rfl)) (hd 4 117 (by kernel_rfl)) (hd 7 120 (by kernel_rfl)) rfl w', ?_⟩
                have hA := hC.pre hL
                refine (unhide HWR _ _ _ ((unhide HT2).below hA)).mono ?_
                rintro e w'' ⟨rfl, G3, E3, hP2, hTu2⟩
                have ht2 := ((unhide HT2).below hA).turnR hTu2 hP2
                exact ⟨_, (), rfl, fun _ _ _ h => h, Flow.two.post ⟨G3, E3, ht2.1, (hA.mono (unhide HT2).size).trans ht2.2⟩, rfl⟩
              · exact Flow.move (Flow.goes_plain rfl) (Flow.two.upd (by decide)) (.inr rfl) fun a s w' hs hd => (hd 8 121 (by kernel_rfl))
              · intro L _ w3 hC hL vals hv
                obtain ⟨G3, E3, hT3, hb3⟩ := hC.end (hL 8 (by decide))
                have e9 : vals 9 = .int .i64 E1 := hv 9 _ 14 rfl rfl
                have e8 : vals 8 = .int .i64 E1 := hv 8 _ 121 rfl rfl
                simp only [Free.putAll, Act.put, List.setIfInBounds_toArray, List.set_cons_succ, List.set_cons_zero, e8, e9]
                have HT3 := hide hT3
                have Hb3 := hide ((unhide Hb2).trans hb3)
                clear hC hL hv e8 e9 hT3 hb3 HT2 Hb2 HWD HWR HAA HA0 HQ0 HB HX HWL HOP
                generalize vals 0 = b0 at *
                generalize vals 1 = b1 at *
                generalize vals 2 = b2 at *
                generalize vals 3 = b3 at *
                generalize vals 4 = b4 at *
                generalize vals 5 = b5 at *
                generalize vals 6 = b6 at *
                generalize vals 7 = b7 at *
                go_wp2_with fail
                refine (ops_walk (unhide HT3).prog.map).mono ?_
                rintro e w4 ⟨ov1, F4, rfl, hO4, hM4, hTu4, hs4, hk4⟩
                have hq4 := (unhide HT3).prog.turnM hTu4 hM4 rfl
                have ht4 := (unhide HT3).turnP hq4.2 hq4.1
                have HT4 := hide ht4.1
                have Hb4 := hide ((unhide Hb3).trans ht4.2)
                have HO4 := hide hO4
                have HK4 : Hid (∀ k ∈ ov1.ownBlock.toList, k < w4.heap.size ∧ k ∉ G3 ++ E3) := hide fun k hk => ⟨(hO4.lt k (by simpa using hk)).2, fun e => (unhide HT3).apart k (by simp [(hk4 k hk).1]) e⟩
                clear hO4 hM4 hTu4 hs4 hk4 hq4 ht4 HT3 Hb3
                go_wp2_with fail
                refine (tell_walk (unhide HT4).doc.map).mono ?_
                rintro e w5 ⟨ov2, G5, rfl, hO5, hM5, hTu5, hs5, hk5⟩
                have hq5 := (unhide HT4).doc.turnM hTu5 hM5 rfl
                have ht5 := (unhide HT4).turnR hq5.2 hq5.1
                have HT5 := hide ht5.1
                have Hb5 := hide ((unhide Hb4).trans ht5.2)
                have HO45 : Hid (w5.ownsRow 0 39 4 ov1 x3.ops.length (opsV x3.ops)) := hide (owns_same (unhide HO4) fun k hk => hq5.2.1.block k (unhide HK4 k hk).1 (unhide HK4 k hk).2)
                have HO5 := hide hO5
                clear hO5 hM5 hTu5 hs5 hk5 hq5 ht5 HT4 Hb4 HO4 HK4
                go_wp2_with fail
                refine (same_walk w5 ov1 ov2 x3.ops (unhide HO45) (unhide HO5) (Nat.le_trans (unhide HX3).2 (by omega))).mono ?_
                rintro e w6 ⟨rfl, hb6⟩
                have HT6 := hide ((unhide HT5).below hb6)
                have Hb6 := hide ((unhide Hb5).trans (hb6.mono (unhide HT5).size))
                clear hb6 HT5 Hb5 HO45 HO5
                go_wp2_with fail
                go_roundw
                case rel => exact ⟨j + 1, F4, D3, G5, E3, d3, r3, x3.told, by omega, by go_num, unhide HT6, unhide HB3, (unhide HX3).1, rfl, unhide HW3, unhide Hb6⟩
                case measure => simp [intOf]; omega
        · as_aux_lemma =>
            go_wp2_with fail
            have HT1 := hide (unhide HT0 #[.int .i64 1, .int .i64 pt, .int .i64 pl, .int .u8 ((v.toNat : Nat) : Int), .slice ka kl kc])
            have Hb1 := hide (unhide Hb0 #[.int .i64 1, .int .i64 pt, .int .i64 pl, .int .u8 ((v.toNat : Nat) : Int), .slice ka kl kc])
            have HK1 := hide (unhide HKK #[.int .i64 1, .int .i64 pt, .int .i64 pl, .int .u8 ((v.toNat : Nat) : Int), .slice ka kl kc])
            clear HT0 Hb0 HKK c0 c1 c2 c3 c4 HACT
            rw [← hsb] at HA0 HQ0 ⊢
            generalize wr.alloc (.cells #[.int .i64 1, .int .i64 pt, .int .i64 pl, .int .u8 ((v.toNat : Nat) : Int), .slice ka kl kc] 51) = w1 at *
            clear hsb
            obtain ⟨E1, d3, r3, x3, hrD, hrR, hB3, hx3, ho3, hw3⟩ := both_erase (unhide HB) x pt pl
            have HB3 := hide hB3
            have HX3 : Hid (x3.sz = sz ∧ x3.ops.length ≤ 4096) := hide ⟨hx3.trans (unhide HX).1, by have := unhide HOP; omega⟩
            have HW3 : Hid (d3.wait.length ≤ 4096 * (j + 1)) := hide (by have := unhide HWT; omega)
            clear hB3 hx3 ho3 hw3 HWT
            have HWD := hide (merase_walk (unhide HT1).prog pt pl (unhide HPL) (Nat.le_trans (unhide HWL).1 (by omega)) (Nat.le_trans (unhide HOP) (by omega)))
            rw [hrD] at HWD
            have HWR : Hid (∀ F3 D3 w2, Two w.heap.size sa scap F3 D3 G E w2 m p n q d3 r x3 x → Calls Try.prog 20 #[.pointer (some ⟨n, 0, none⟩), .int .i64 pt, .int .i64 pl] w2 fun e w' => e = .returned (.int .i64 E1) ∧ ∃ F' D', RPMap w.heap.size sa scap F' D' w' n q r3 x3 ∧ Turns (G ++ E) (F' ++ D') w2 w') := hide fun F3 D3 w2 hT2 => by
              have := rmerase_walk hT2.doc pt pl (unhide HPL) (Nat.le_trans (unhide HWL).2 (by omega)) (Nat.le_trans (unhide HOP) (by omega))
              rw [hrR] at this
              exact this
            clear hrD hrR
            refine (unhide HWD).mono ?_
            rintro e w2 ⟨rfl, F3, D3, hP2, hTu2⟩
            have ht2 := (unhide HT1).turnP hTu2 hP2
            have ha2 := hTu2.keep (unhide HA0) (unhide HQ0).1
            have HT2 := hide ht2.1
            have Hb2 := hide ((unhide Hb1).trans ht2.2)
            have hca1 := ha2.1.cell (i := 1) rfl
            have hca2 := ha2.1.cell (i := 2) rfl
            clear hP2 hTu2 ht2 ha2 HT1 Hb1 HWD
            go_wp2_with fail
            refine (unhide HWR _ _ _ (unhide HT2)).mono ?_
            rintro e w3 ⟨rfl, G3, E3, hP3, hTu3⟩
            have ht3 := (unhide HT2).turnR hTu3 hP3
            have HT3 := hide ht3.1
            have Hb3 := hide ((unhide Hb2).trans ht3.2)
            clear hP3 hTu3 ht3 HT2 Hb2 HWR hca1 hca2 HA0 HQ0 HK1 HB HX HWL HOP
            go_wp2_with fail
            refine (ops_walk (unhide HT3).prog.map).mono ?_
            rintro e w4 ⟨ov1, F4, rfl, hO4, hM4, hTu4, hs4, hk4⟩
            have hq4 := (unhide HT3).prog.turnM hTu4 hM4 rfl
            have ht4 := (unhide HT3).turnP hq4.2 hq4.1
            have HT4 := hide ht4.1
            have Hb4 := hide ((unhide Hb3).trans ht4.2)
            have HO4 := hide hO4
            have HK4 : Hid (∀ k ∈ ov1.ownBlock.toList, k < w4.heap.size ∧ k ∉ G3 ++ E3) := hide fun k hk => ⟨(hO4.lt k (by simpa using hk)).2, fun e => (unhide HT3).apart k (by simp [(hk4 k hk).1]) e⟩
            clear hO4 hM4 hTu4 hs4 hk4 hq4 ht4 HT3 Hb3
            go_wp2_with fail
            refine (tell_walk (unhide HT4).doc.map).mono ?_
            rintro e w5 ⟨ov2, G5, rfl, hO5, hM5, hTu5, hs5, hk5⟩
            have hq5 := (unhide HT4).doc.turnM hTu5 hM5 rfl
            have ht5 := (unhide HT4).turnR hq5.2 hq5.1
            have HT5 := hide ht5.1
            have Hb5 := hide ((unhide Hb4).trans ht5.2)
            have HO45 : Hid (w5.ownsRow 0 39 4 ov1 x3.ops.length (opsV x3.ops)) := hide (owns_same (unhide HO4) fun k hk => hq5.2.1.block k (unhide HK4 k hk).1 (unhide HK4 k hk).2)
            have HO5 := hide hO5
            clear hO5 hM5 hTu5 hs5 hk5 hq5 ht5 HT4 Hb4 HO4 HK4
            go_wp2_with fail
            refine (same_walk w5 ov1 ov2 x3.ops (unhide HO45) (unhide HO5) (Nat.le_trans (unhide HX3).2 (by omega))).mono ?_
            rintro e w6 ⟨rfl, hb6⟩
            have HT6 := hide ((unhide HT5).below hb6)
            have Hb6 := hide ((unhide Hb5).trans (hb6.mono (unhide HT5).size))
            clear hb6 HT5 Hb5 HO45 HO5
            go_wp2_with fail
            go_roundw
            case rel => exact ⟨j + 1, F4, D3, G5, E3, d3, r3, x3.told, by omega, by go_num, unhide HT6, unhide HB3, (unhide HX3).1, rfl, unhide HW3, unhide Hb6⟩
            case measure => simp [intOf]; omega
        · as_aux_lemma =>
            go_wp2_with fail
            have HT1 := hide (unhide HT0 #[.int .i64 2, .int .i64 pt, .int .i64 pl, .int .u8 ((v.toNat : Nat) : Int), .slice ka kl kc])
            have Hb1 := hide (unhide Hb0 #[.int .i64 2, .int .i64 pt, .int .i64 pl, .int .u8 ((v.toNat : Nat) : Int), .slice ka kl kc])
            have HK1 := hide (unhide HKK #[.int .i64 2, .int .i64 pt, .int .i64 pl, .int .u8 ((v.toNat : Nat) : Int), .slice ka kl kc])
            clear HT0 Hb0 HKK c0 c1 c2 c3 c4 HACT
            rw [← hsb] at HA0 HQ0 ⊢
            generalize wr.alloc (.cells #[.int .i64 2, .int .i64 pt, .int .i64 pl, .int .u8 ((v.toNat : Nat) : Int), .slice ka kl kc] 51) = w1 at *
            clear hsb
            obtain ⟨E1, d3, r3, hrD, hrR, hB3, hw3, hkD, hkR⟩ := both_sync (unhide HB)
            have HB3 := hide hB3
            have HKR := hide hkR
            obtain ⟨x3, hx3⟩ : ∃ x3, x3 = x := ⟨_, rfl⟩
            have HX3 : Hid (x3.sz = sz ∧ x3.ops.length ≤ 4096) := hide ⟨by rw [hx3]; exact (unhide HX).1, by rw [hx3]; have := unhide HOP; omega⟩
            have HW3 : Hid (d3.wait.length ≤ 4096 * (j + 1)) := hide (by have := unhide HWT; omega)
            have HWD := hide (msync_walk (unhide HT1).prog (Nat.le_trans (unhide HWL).1 (by omega)))
            rw [hrD] at HWD
            have HWR : Hid (∀ w2, Ref E w2 q r → Calls Try.prog 21 #[.pointer (some ⟨q, 0, none⟩)] w2 fun e w' => e = .returned (.int .i64 E1) ∧ ∃ F', Ref F' w' q r3 ∧ Turns E F' w2 w') := hide fun w2 hR2 => by
              have := rsync_walk hR2 (Nat.le_trans (unhide HWL).2 (by omega))
              rw [hrR] at this
              exact this
            clear hrD hrR hB3 hw3 hkD hkR HWT
            refine (unhide HWD).mono ?_
            rintro e w2 ⟨rfl, D3, hP2, hTu2⟩
            have ht2 := (unhide HT1).turnP hTu2 hP2
            have HT2 := hide ht2.1
            have Hb2 := hide ((unhide Hb1).trans ht2.2)
            have hcn0 := (unhide HT2).doc.map.dev
            clear hP2 hTu2 ht2 HT1 Hb1 HWD
            go_wp2_with fail
            refine (unhide HWR _ (unhide HT2).doc.dev).mono ?_
            rintro e w3 ⟨rfl, E3, hR3, hTu3⟩
            have hq3 := (unhide HT2).doc.turnD hTu3 hR3 (unhide HKR)
            have ht3 := (unhide HT2).turnR hq3.2 hq3.1
            have HT3 := hide ht3.1
            have Hb3 := hide ((unhide Hb2).trans ht3.2)
            clear hR3 hTu3 hq3 ht3 HT2 Hb2 HWR hcn0 HA0 HQ0 HK1 HB HX HWL HOP HKR
            rw [← hx3] at HT3
            clear hx3
            obtain ⟨G3, hG3⟩ : ∃ G3, G3 = G := ⟨_, rfl⟩
            rw [← hG3] at HT3
            clear hG3
            go_wp2_with fail
            refine (ops_walk (unhide HT3).prog.map).mono ?_
            rintro e w4 ⟨ov1, F4, rfl, hO4, hM4, hTu4, hs4, hk4⟩
            have hq4 := (unhide HT3).prog.turnM hTu4 hM4 rfl
            have ht4 := (unhide HT3).turnP hq4.2 hq4.1
            have HT4 := hide ht4.1
            have Hb4 := hide ((unhide Hb3).trans ht4.2)
            have HO4 := hide hO4
            have HK4 : Hid (∀ k ∈ ov1.ownBlock.toList, k < w4.heap.size ∧ k ∉ G3 ++ E3) := hide fun k hk => ⟨(hO4.lt k (by simpa using hk)).2, fun e => (unhide HT3).apart k (by simp [(hk4 k hk).1]) e⟩
            clear hO4 hM4 hTu4 hs4 hk4 hq4 ht4 HT3 Hb3
            go_wp2_with fail
            refine (tell_walk (unhide HT4).doc.map).mono ?_
            rintro e w5 ⟨ov2, G5, rfl, hO5, hM5, hTu5, hs5, hk5⟩
            have hq5 := (unhide HT4).doc.turnM hTu5 hM5 rfl
            have ht5 := (unhide HT4).turnR hq5.2 hq5.1
            have HT5 := hide ht5.1
            have Hb5 := hide ((unhide Hb4).trans ht5.2)
            have HO45 : Hid (w5.ownsRow 0 39 4 ov1 x3.ops.length (opsV x3.ops)) := hide (owns_same (unhide HO4) fun k hk => hq5.2.1.block k (unhide HK4 k hk).1 (unhide HK4 k hk).2)
            have HO5 := hide hO5
            clear hO5 hM5 hTu5 hs5 hk5 hq5 ht5 HT4 Hb4 HO4 HK4
            go_wp2_with fail
            refine (same_walk w5 ov1 ov2 x3.ops (unhide HO45) (unhide HO5) (Nat.le_trans (unhide HX3).2 (by omega))).mono ?_
            rintro e w6 ⟨rfl, hb6⟩
            have HT6 := hide ((unhide HT5).below hb6)
            have Hb6 := hide ((unhide Hb5).trans (hb6.mono (unhide HT5).size))
            clear hb6 HT5 Hb5 HO45 HO5
            go_wp2_with fail
            go_roundw
            case rel => exact ⟨j + 1, F4, D3, G5, E3, d3, r3, x3.told, by omega, by go_num, unhide HT6, unhide HB3, (unhide HX3).1, rfl, unhide HW3, unhide Hb6⟩
            case measure => simp [intOf]; omega
        · as_aux_lemma =>
            go_wp2_with fail
            have HT1 := hide (unhide HT0 #[.int .i64 4, .int .i64 pt, .int .i64 pl, .int .u8 ((v.toNat : Nat) : Int), .slice ka kl kc])
            have Hb1 := hide (unhide Hb0 #[.int .i64 4, .int .i64 pt, .int .i64 pl, .int .u8 ((v.toNat : Nat) : Int), .slice ka kl kc])
            have HK1 := hide (unhide HKK #[.int .i64 4, .int .i64 pt, .int .i64 pl, .int .u8 ((v.toNat : Nat) : Int), .slice ka kl kc])
            clear HT0 Hb0 HKK c0 c1 c2 c3 c4 HACT
            rw [← hsb] at HA0 HQ0 ⊢
            generalize wr.alloc (.cells #[.int .i64 4, .int .i64 pt, .int .i64 pl, .int .u8 ((v.toNat : Nat) : Int), .slice ka kl kc] 51) = w1 at *
            clear hsb
            obtain ⟨E1, d3, r3, x3, hrD, hrR, hB3, hx3, ho3, hw3⟩ := both_wipe (unhide HB) x pt (by rw [(unhide HX).1]; exact unhide HSUM)
            have HB3 := hide hB3
            have HX3 : Hid (x3.sz = sz ∧ x3.ops.length ≤ 4096) := hide ⟨hx3.trans (unhide HX).1, by have := unhide HOP; omega⟩
            have HW3 : Hid (d3.wait.length ≤ 4096 * (j + 1)) := hide (by have := unhide HWT; omega)
            clear hB3 hx3 ho3 hw3 HWT
            have HWD := hide (wipe_walk (unhide HT1).prog pt (unhide HWL).1 (Nat.le_trans (unhide HOP) (by omega)))
            rw [hrD] at HWD
            have HWR : Hid (∀ F3 D3 w2, Two w.heap.size sa scap F3 D3 G E w2 m p n q d3 r x3 x → Calls Try.prog 23 #[.pointer (some ⟨n, 0, none⟩), .int .i64 pt] w2 fun e w' => e = .returned (.int .i64 E1) ∧ ∃ F' D', RPMap w.heap.size sa scap F' D' w' n q r3 x3 ∧ Turns (G ++ E) (F' ++ D') w2 w') := hide fun F3 D3 w2 hT2 => by
              have := rwipe_walk hT2.doc pt (unhide HWL).2 (Nat.le_trans (unhide HOP) (by omega))
              rw [hrR] at this
              exact this
            clear hrD hrR
            refine (unhide HWD).mono ?_
            rintro e w2 ⟨rfl, F3, D3, hP2, hTu2⟩
            have ht2 := (unhide HT1).turnP hTu2 hP2
            have ha2 := hTu2.keep (unhide HA0) (unhide HQ0).1
            have HT2 := hide ht2.1
            have Hb2 := hide ((unhide Hb1).trans ht2.2)
            have hca1 := ha2.1.cell (i := 1) rfl
            have hca2 := ha2.1.cell (i := 2) rfl
            clear hP2 hTu2 ht2 ha2 HT1 Hb1 HWD
            go_wp2_with fail
            refine (unhide HWR _ _ _ (unhide HT2)).mono ?_
            rintro e w3 ⟨rfl, G3, E3, hP3, hTu3⟩
            have ht3 := (unhide HT2).turnR hTu3 hP3
            have HT3 := hide ht3.1
            have Hb3 := hide ((unhide Hb2).trans ht3.2)
            clear hP3 hTu3 ht3 HT2 Hb2 HWR hca1 hca2 HA0 HQ0 HK1 HB HX HWL HOP
            go_wp2_with fail
            refine (ops_walk (unhide HT3).prog.map).mono ?_
            rintro e w4 ⟨ov1, F4, rfl, hO4, hM4, hTu4, hs4, hk4⟩
            have hq4 := (unhide HT3).prog.turnM hTu4 hM4 rfl
            have ht4 := (unhide HT3).turnP hq4.2 hq4.1
            have HT4 := hide ht4.1
            have Hb4 := hide ((unhide Hb3).trans ht4.2)
            have HO4 := hide hO4
            have HK4 : Hid (∀ k ∈ ov1.ownBlock.toList, k < w4.heap.size ∧ k ∉ G3 ++ E3) := hide fun k hk => ⟨(hO4.lt k (by simpa using hk)).2, fun e => (unhide HT3).apart k (by simp [(hk4 k hk).1]) e⟩
            clear hO4 hM4 hTu4 hs4 hk4 hq4 ht4 HT3 Hb3
            go_wp2_with fail
            refine (tell_walk (unhide HT4).doc.map).mono ?_
            rintro e w5 ⟨ov2, G5, rfl, hO5, hM5, hTu5, hs5, hk5⟩
            have hq5 := (unhide HT4).doc.turnM hTu5 hM5 rfl
            have ht5 := (unhide HT4).turnR hq5.2 hq5.1
            have HT5 := hide ht5.1
            have Hb5 := hide ((unhide Hb4).trans ht5.2)
            have HO45 : Hid (w5.ownsRow 0 39 4 ov1 x3.ops.length (opsV x3.ops)) := hide (owns_same (unhide HO4) fun k hk => hq5.2.1.block k (unhide HK4 k hk).1 (unhide HK4 k hk).2)
            have HO5 := hide hO5
            clear hO5 hM5 hTu5 hs5 hk5 hq5 ht5 HT4 Hb4 HO4 HK4
            go_wp2_with fail
            refine (same_walk w5 ov1 ov2 x3.ops (unhide HO45) (unhide HO5) (Nat.le_trans (unhide HX3).2 (by omega))).mono ?_
            rintro e w6 ⟨rfl, hb6⟩
            have HT6 := hide ((unhide HT5).below hb6)
            have Hb6 := hide ((unhide Hb5).trans (hb6.mono (unhide HT5).size))
            clear hb6 HT5 Hb5 HO45 HO5
            go_wp2_with fail
            go_roundw
            case rel => exact ⟨j + 1, F4, D3, G5, E3, d3, r3, x3.told, by omega, by go_num, unhide HT6, unhide HB3, (unhide HX3).1, rfl, unhide HW3, unhide Hb6⟩
            case measure => simp [intOf]; omega
        · as_aux_lemma =>
            go_wp2_with fail
            have HT1 := hide (unhide HT0 #[.int .i64 5, .int .i64 pt, .int .i64 pl, .int .u8 ((v.toNat : Nat) : Int), .slice ka kl kc])
            have Hb1 := hide (unhide Hb0 #[.int .i64 5, .int .i64 pt, .int .i64 pl, .int .u8 ((v.toNat : Nat) : Int), .slice ka kl kc])
            have HK1 := hide (unhide HKK #[.int .i64 5, .int .i64 pt, .int .i64 pl, .int .u8 ((v.toNat : Nat) : Int), .slice ka kl kc])
            clear HT0 Hb0 HKK c0 c1 c2 c3 c4 HACT
            rw [← hsb] at HA0 HQ0 ⊢
            generalize wr.alloc (.cells #[.int .i64 5, .int .i64 pt, .int .i64 pl, .int .u8 ((v.toNat : Nat) : Int), .slice ka kl kc] 51) = w1 at *
            clear hsb
            have hcn2 : w1.cell? ⟨n, 2, none⟩ = some (.int .i64 x.who) := by
              obtain ⟨ov, _, hB⟩ := (unhide HT1).doc.map
              exact hB.ob.arr.cell (i := 2) rfl
            have hca2 := (unhide HA0).cell (i := 2) rfl
            refine Flow.wp_region (Flow.VV (fun j => match j with | 0 => .pointer (some ⟨m, 0, none⟩) | 1 => .pointer (some ⟨sb, 2, none⟩) | 2 => .int .i64 pl | 3 => .int .i64 x.who | 4 => .pointer (some ⟨n, 0, none⟩) | 5 => .pointer (some ⟨n, 0, none⟩) | 6 => .pointer (some ⟨n, 2, none⟩) | 7 => .int .i64 x.who | 8 => .bool true | 9 => .bool true | _ => undef)) (Flow.two 3 (fun _ w' => w' = w1.drew) (fun _ w' => Two w.heap.size sa scap F D G E w' m p n q d r (x.as pl) x ∧ Below w.heap.size w1 w' ∧ Arr w' sb [.int .i64 5, .int .i64 pt, .int .i64 pl, .int .u8 ((v.toNat : Nat) : Int), .slice ka kl kc])) () (by kernel_rfl) (by kernel_rfl) (by unfold Flow.two; simp) ⟨?_, ?_, ?_, ?_, ?_, ?_, ?_, ?_, ?_, ?_, trivial⟩ ?_
            · exact Flow.move (Flow.goes_plain rfl) (Flow.two.upd (by decide)) (.inl rfl) fun a s w' hs hd => (hs 8 (by kernel_rfl))
            · refine Flow.pure (Flow.goes_plain rfl) (Flow.two.upd (by decide)) fun a L s w' hC hL hn hs hd => ?_
              skip
              exact ⟨_, op_f51_2 rfl (hs 12 (by kernel_rfl)) w', rfl⟩
            · refine Flow.pure (Flow.goes_plain rfl) (Flow.two.upd (by decide)) fun a L s w' hC hL hn hs hd => ?_
              skip
              exact ⟨_, op_load3 rfl (hd 1 158 (by kernel_rfl)) (by have hA := hC.pre (hn.after 3 (by kernel_rfl)); rw [hA]; exact hca2), rfl⟩
            · refine Flow.call (Flow.goes_plain rfl) fun a L s0 w' hC hL hn hs hd => ⟨10, _, op_call10 rfl (hd 0 157 (by kernel_rfl)) (hd 2 159 (by kernel_rfl)) rfl w', ?_⟩
              obtain rfl : w' = w1.drew := hC.pre hL
              refine (as_walk ((unhide HT1).below ((Below.refl _ w1).drew)).prog.map pl).mono ?_
              rintro e w'' ⟨rfl, hM, hTu⟩
              have hT1d := (unhide HT1).below ((Below.refl _ w1).drew)
              have hq := hT1d.prog.turnM hTu hM rfl
              have ht := hT1d.turnP hq.2 hq.1
              have ha := hq.2.keep ((unhide HA0).below (Below.refl _ w1).drew) (unhide HQ0).1
              exact ⟨_, (), rfl, fun _ _ _ h => h, Flow.two.post ⟨ht.1, ((Below.refl w.heap.size w1).drew).trans ht.2, ha.1⟩, rfl⟩
            · exact Flow.move (Flow.goes_plain rfl) (Flow.two.upd (by decide)) (.inl rfl) fun a s w' hs hd => (hs 10 (by kernel_rfl))
            · refine Flow.pure (Flow.goes_plain rfl) (Flow.two.upd (by decide)) fun a L s w' hC hL hn hs hd => ?_
              skip
              exact ⟨_, op_nil rfl (hd 4 161 (by kernel_rfl)) w', rfl⟩
            · refine Flow.pure (Flow.goes_plain rfl) (Flow.two.upd (by decide)) fun a L s w' hC hL hn hs hd => ?_
              skip
              exact ⟨_, op_f48_2 rfl (hd 5 162 (by kernel_rfl)) w', rfl⟩
            · refine Flow.pure (Flow.goes_plain rfl) (Flow.two.upd (by decide)) fun a L s w' hC hL hn hs hd => ?_
              skip
              exact ⟨_, op_load3 rfl (hd 6 163 (by kernel_rfl)) (by
                rcases hC.either with hA | hA
                · rw [hA]; exact hcn2
                · obtain ⟨ov, _, hB⟩ := hA.1.doc.map
                  exact hB.ob.arr.cell (i := 2) rfl), rfl⟩
            · refine Flow.pure (Flow.goes_plain rfl) (Flow.two.upd (by decide)) fun a L s w' hC hL hn hs hd => ?_
              skip
              exact ⟨_, op_eql3 rfl (hd 3 160 (by kernel_rfl)) (hd 7 164 (by kernel_rfl)) (by simp) w', rfl⟩
            · exact Flow.move (Flow.goes_plain rfl) (Flow.two.upd (by decide)) (.inr rfl) fun a s w' hs hd => (hd 8 165 (by kernel_rfl))
            · intro L _ w2 hC hL vals hv
              obtain ⟨hT2, hb2, hA2⟩ := hC.end (hL 3 (by decide))
              have e9 : vals 9 = .bool true := hv 9 _ 15 rfl rfl
              simp only [Free.putAll, Act.put, List.setIfInBounds_toArray, List.set_cons_succ, List.set_cons_zero, e9]
              have HT2 := hide hT2
              have Hb2 := hide ((unhide Hb1).trans hb2)
              have hca2 := hA2.cell (i := 2) rfl
              obtain ⟨ov, _, hB2⟩ := hT2.doc.map
              have hcn2 := hB2.ob.arr.cell (i := 2) rfl
              have hfn2 := hB2.ob.arr.free 2
              clear hC hL hv e9 hT2 hb2 hA2 hB2 HT1 Hb1
              generalize vals 0 = y0 at *
              generalize vals 1 = y1 at *
              generalize vals 2 = y2 at *
              generalize vals 3 = y3 at *
              generalize vals 4 = y4 at *
              generalize vals 5 = y5 at *
              generalize vals 6 = y6 at *
              generalize vals 7 = y7 at *
              generalize vals 8 = y8 at *
              go_wp2_with fail
              have hq3 := (unhide HT2).doc.as pl
              have ht3 := (unhide HT2).turnR hq3.2 hq3.1
              have HT3 := hide ht3.1
              have Hb3 := hide ((unhide Hb2).trans ht3.2)
              have HB3 := HB
              have HW3 : Hid (d.wait.length ≤ 4096 * (j + 1)) := hide (by have := unhide HWT; omega)
              have HX3 : Hid ((x.as pl).sz = sz ∧ (x.as pl).ops.length ≤ 4096) := hide ⟨(unhide HX).1, by have := unhide HOP; show x.ops.length ≤ _; omega⟩
              clear hq3 ht3 HT2 Hb2 hca2 hcn2 hfn2 HA0 HQ0 HK1 HB HX HWL HOP HWT
              generalize w2.setCell ⟨n, 2, none⟩ (.int .i64 pl) = w3 at *
              generalize x.as pl = x3 at *
              obtain ⟨F3, hF3⟩ : ∃ F3, F3 = F := ⟨_, rfl⟩
              obtain ⟨D3, hD3⟩ : ∃ D3, D3 = D := ⟨_, rfl⟩
              obtain ⟨G3, hG3⟩ : ∃ G3, G3 = G := ⟨_, rfl⟩
              obtain ⟨E3, hE3⟩ : ∃ E3, E3 = E := ⟨_, rfl⟩
              obtain ⟨d3, hd3⟩ : ∃ d3, d3 = d := ⟨_, rfl⟩
              obtain ⟨r3, hr3⟩ : ∃ r3, r3 = r := ⟨_, rfl⟩
              rw [← hF3, ← hD3, ← hG3, ← hE3, ← hd3, ← hr3] at HT3
              rw [← hd3, ← hr3] at HB3
              rw [← hd3] at HW3
              clear hF3 hD3 hG3 hE3 hd3 hr3
              go_wp2_with fail
              refine (ops_walk (unhide HT3).prog.map).mono ?_
              rintro e w4 ⟨ov1, F4, rfl, hO4, hM4, hTu4, hs4, hk4⟩
              have hq4 := (unhide HT3).prog.turnM hTu4 hM4 rfl
              have ht4 := (unhide HT3).turnP hq4.2 hq4.1
              have HT4 := hide ht4.1
              have Hb4 := hide ((unhide Hb3).trans ht4.2)
              have HO4 := hide hO4
              have HK4 : Hid (∀ k ∈ ov1.ownBlock.toList, k < w4.heap.size ∧ k ∉ G3 ++ E3) := hide fun k hk => ⟨(hO4.lt k (by simpa using hk)).2, fun e => (unhide HT3).apart k (by simp [(hk4 k hk).1]) e⟩
              clear hO4 hM4 hTu4 hs4 hk4 hq4 ht4 HT3 Hb3
              go_wp2_with fail
              refine (tell_walk (unhide HT4).doc.map).mono ?_
              rintro e w5 ⟨ov2, G5, rfl, hO5, hM5, hTu5, hs5, hk5⟩
              have hq5 := (unhide HT4).doc.turnM hTu5 hM5 rfl
              have ht5 := (unhide HT4).turnR hq5.2 hq5.1
              have HT5 := hide ht5.1
              have Hb5 := hide ((unhide Hb4).trans ht5.2)
              have HO45 : Hid (w5.ownsRow 0 39 4 ov1 x3.ops.length (opsV x3.ops)) := hide (owns_same (unhide HO4) fun k hk => hq5.2.1.block k (unhide HK4 k hk).1 (unhide HK4 k hk).2)
              have HO5 := hide hO5
              clear hO5 hM5 hTu5 hs5 hk5 hq5 ht5 HT4 Hb4 HO4 HK4
              go_wp2_with fail
              refine (same_walk w5 ov1 ov2 x3.ops (unhide HO45) (unhide HO5) (Nat.le_trans (unhide HX3).2 (by omega))).mono ?_
              rintro e w6 ⟨rfl, hb6⟩
              have HT6 := hide ((unhide HT5).below hb6)
              have Hb6 := hide ((unhide Hb5).trans (hb6.mono (unhide HT5).size))
              clear hb6 HT5 Hb5 HO45 HO5
              go_wp2_with fail
              go_roundw
              case rel => exact ⟨j + 1, F4, D3, G5, E3, d3, r3, x3.told, by omega, by go_num, unhide HT6, unhide HB3, (unhide HX3).1, rfl, unhide HW3, unhide Hb6⟩
              case measure => simp [intOf]; omega
        · as_aux_lemma =>
            go_wp2_with fail
            have HT1 := hide (unhide HT0 #[.int .i64 6, .int .i64 pt, .int .i64 pl, .int .u8 ((v.toNat : Nat) : Int), .slice ka kl kc])
            have Hb1 := hide (unhide Hb0 #[.int .i64 6, .int .i64 pt, .int .i64 pl, .int .u8 ((v.toNat : Nat) : Int), .slice ka kl kc])
            have HK1 := hide (unhide HKK #[.int .i64 6, .int .i64 pt, .int .i64 pl, .int .u8 ((v.toNat : Nat) : Int), .slice ka kl kc])
            clear HT0 Hb0 HKK c0 c1 c2 c3 c4 HACT
            rw [← hsb] at HA0 HQ0 ⊢
            generalize wr.alloc (.cells #[.int .i64 6, .int .i64 pt, .int .i64 pl, .int .u8 ((v.toNat : Nat) : Int), .slice ka kl kc] 51) = w1 at *
            clear hsb
            refine (budget_walk (unhide HT1).prog.dev pl (unhide HPL).2).mono ?_
            rintro e w2 ⟨rfl, hD2, hB2, _⟩
            have hq2 := (unhide HT1).prog.turnD ⟨hB2, fun _ h => .inl h⟩ hD2 rfl
            have HB3 := hide (both_limit (unhide HB) pl (unhide HPL).2)
            have HW3 : Hid ((budgetD d pl).wait.length ≤ 4096 * (j + 1)) := hide (by have := unhide HWT; show d.wait.length ≤ _; omega)
            have HWR : Hid (∀ w2, Ref E w2 q r → Calls Try.prog 25 #[.pointer (some ⟨q, 0, none⟩), .int .i64 pl] w2 fun e w' => e = .returned (.tuple #[]) ∧ ∃ E3, Ref E3 w' q (limitR r pl) ∧ Turns E E3 w2 w') := hide fun w2 hR2 => by
              refine (limit_walk hR2 pl (unhide HPL)).mono ?_
              rintro e w' ⟨rfl, h1, h2, _⟩
              exact ⟨rfl, E, h1, h2, fun _ h => .inl h⟩
            have HKR : Hid ((limitR r pl).kept.length = r.kept.length) := hide rfl
            have ht2 := (unhide HT1).turnP hq2.2 hq2.1
            have ha2 := hq2.2.keep (unhide HA0) (unhide HQ0).1
            have HT2 := hide ht2.1
            have Hb2 := hide ((unhide Hb1).trans ht2.2)
            have Hb12 := hide ht2.2
            have HA2 := hide ha2.1
            have hcn0 := (unhide HT2).doc.map.dev
            have hca := ha2.1.cell (i := 2) rfl
            clear hD2 hB2 hq2 ht2 ha2 Hb1
            go_wp2_with fail
            refine Flow.wp_region (Flow.VV (fun j => match j with | 0 => .pointer (some ⟨n, 0, none⟩) | 1 => .pointer (some ⟨n, 0, none⟩) | 2 => .pointer (some ⟨n, 0, none⟩) | 3 => .pointer (some ⟨q, 0, none⟩) | 4 => .pointer (some ⟨sb, 2, none⟩) | 5 => .int .i64 pl | 6 => .tuple #[] | _ => undef)) (Flow.two 6 (fun _ w' => w' = w2.drew) (fun _ w' => ∃ E3, Two w.heap.size sa scap F D G E3 w' m p n q (budgetD d pl) (limitR r pl) x x ∧ Below w.heap.size w2 w')) () (by kernel_rfl) (by kernel_rfl) (by unfold Flow.two; simp) ⟨?_, ?_, ?_, ?_, ?_, ?_, ?_, trivial⟩ ?_
            · exact Flow.move (Flow.goes_plain rfl) (Flow.two.upd (by decide)) (.inl rfl) fun a s w' hs hd => (hs 10 (by kernel_rfl))
            · refine Flow.pure (Flow.goes_plain rfl) (Flow.two.upd (by decide)) fun a L s w' hC hL hn hs hd => ?_
              skip
              exact ⟨_, op_nil rfl (hd 0 177 (by kernel_rfl)) w', rfl⟩
            · refine Flow.pure (Flow.goes_plain rfl) (Flow.two.upd (by decide)) fun a L s w' hC hL hn hs hd => ?_
              skip
              exact ⟨_, op_f48_0 rfl (hd 1 178 (by kernel_rfl)) w', rfl⟩
            · refine Flow.pure (Flow.goes_plain rfl) (Flow.two.upd (by decide)) fun a L s w' hC hL hn hs hd => ?_
              have hA := hC.pre (hn.after 6 (by kernel_rfl))
              exact ⟨_, op_load45 rfl (hd 2 179 (by kernel_rfl)) (by rw [hA]; exact hcn0), rfl⟩
            · refine Flow.pure (Flow.goes_plain rfl) (Flow.two.upd (by decide)) fun a L s w' hC hL hn hs hd => ?_
              skip
              exact ⟨_, op_f51_2 rfl (hs 12 (by kernel_rfl)) w', rfl⟩
            · refine Flow.pure (Flow.goes_plain rfl) (Flow.two.upd (by decide)) fun a L s w' hC hL hn hs hd => ?_
              have hA := hC.pre (hn.after 6 (by kernel_rfl))
              exact ⟨_, op_load3 rfl (hd 4 181 (by kernel_rfl)) (by rw [hA]; exact hca), rfl⟩
            · refine Flow.call (Flow.goes_plain rfl) fun a L s0 w' hC hL hn hs hd => ⟨25, _, op_call25 rfl (hd 3 180 (by kernel_rfl)) (hd 5 182 (by kernel_rfl)) rfl w', ?_⟩
              obtain rfl : w' = w2.drew := hC.pre hL
              have hT2d := (unhide HT2).below ((Below.refl _ w2).drew)
              refine (unhide HWR w2.drew hT2d.doc.dev).mono ?_
              rintro e w'' ⟨rfl, E3, hR3, hTu3⟩
              have hq3 := hT2d.doc.turnD hTu3 hR3 (unhide HKR)
              have ht3 := hT2d.turnR hq3.2 hq3.1
              exact ⟨_, (), rfl, fun _ _ _ h => h, Flow.two.post ⟨E3, ht3.1, ((Below.refl w.heap.size w2).drew).trans ht3.2⟩, rfl⟩
            · intro L _ w3 hC hL vals hv
              obtain ⟨E3, hT3, hb3⟩ := hC.end (hL 6 (by decide))
              simp only [Free.putAll, Act.put, List.setIfInBounds_toArray, List.set_cons_succ, List.set_cons_zero]
              have HT3 := hide hT3
              have Hb3 := hide ((unhide Hb2).trans hb3)
              have HX3 : Hid (x.sz = sz ∧ x.ops.length ≤ 4096) := hide ⟨(unhide HX).1, by have := unhide HOP; omega⟩
              clear hC hL hv hT3 hb3 HT1 HT2 Hb2 Hb12 HA2 hcn0 hca HWR HKR HA0 HQ0 HK1 HB HX HWL HOP HWT
              generalize budgetD d pl = d3 at *
              generalize limitR r pl = r3 at *
              obtain ⟨x3, hx3⟩ : ∃ x3, x3 = x := ⟨_, rfl⟩
              rw [← hx3] at HT3 HX3
              clear hx3
              generalize vals 0 = y0 at *
              generalize vals 1 = y1 at *
              generalize vals 2 = y2 at *
              generalize vals 3 = y3 at *
              generalize vals 4 = y4 at *
              generalize vals 5 = y5 at *
              generalize vals 6 = y6 at *
              obtain ⟨F3, hF3⟩ : ∃ F3, F3 = F := ⟨_, rfl⟩
              obtain ⟨D3, hD3⟩ : ∃ D3, D3 = D := ⟨_, rfl⟩
              obtain ⟨G3, hG3⟩ : ∃ G3, G3 = G := ⟨_, rfl⟩
              rw [← hF3, ← hD3, ← hG3] at HT3
              clear hF3 hD3 hG3
              go_wp2_with fail
              refine (ops_walk (unhide HT3).prog.map).mono ?_
              rintro e w4 ⟨ov1, F4, rfl, hO4, hM4, hTu4, hs4, hk4⟩
              have hq4 := (unhide HT3).prog.turnM hTu4 hM4 rfl
              have ht4 := (unhide HT3).turnP hq4.2 hq4.1
              have HT4 := hide ht4.1
              have Hb4 := hide ((unhide Hb3).trans ht4.2)
              have HO4 := hide hO4
              have HK4 : Hid (∀ k ∈ ov1.ownBlock.toList, k < w4.heap.size ∧ k ∉ G3 ++ E3) := hide fun k hk => ⟨(hO4.lt k (by simpa using hk)).2, fun e => (unhide HT3).apart k (by simp [(hk4 k hk).1]) e⟩
              clear hO4 hM4 hTu4 hs4 hk4 hq4 ht4 HT3 Hb3
              go_wp2_with fail
              refine (tell_walk (unhide HT4).doc.map).mono ?_
              rintro e w5 ⟨ov2, G5, rfl, hO5, hM5, hTu5, hs5, hk5⟩
              have hq5 := (unhide HT4).doc.turnM hTu5 hM5 rfl
              have ht5 := (unhide HT4).turnR hq5.2 hq5.1
              have HT5 := hide ht5.1
              have Hb5 := hide ((unhide Hb4).trans ht5.2)
              have HO45 : Hid (w5.ownsRow 0 39 4 ov1 x3.ops.length (opsV x3.ops)) := hide (owns_same (unhide HO4) fun k hk => hq5.2.1.block k (unhide HK4 k hk).1 (unhide HK4 k hk).2)
              have HO5 := hide hO5
              clear hO5 hM5 hTu5 hs5 hk5 hq5 ht5 HT4 Hb4 HO4 HK4
              go_wp2_with fail
              refine (same_walk w5 ov1 ov2 x3.ops (unhide HO45) (unhide HO5) (Nat.le_trans (unhide HX3).2 (by omega))).mono ?_
              rintro e w6 ⟨rfl, hb6⟩
              have HT6 := hide ((unhide HT5).below hb6)
              have Hb6 := hide ((unhide Hb5).trans (hb6.mono (unhide HT5).size))
              clear hb6 HT5 Hb5 HO45 HO5
              go_wp2_with fail
              go_roundw
              case rel => exact ⟨j + 1, F4, D3, G5, E3, d3, r3, x3.told, by omega, by go_num, unhide HT6, unhide HB3, (unhide HX3).1, rfl, unhide HW3, unhide Hb6⟩
              case measure => simp [intOf]; omega
        · as_aux_lemma =>
            by_cases hk : kl ≤ 200
            · skip
              go_wp2_with fail
              have HT1 := hide (unhide HT0 #[.int .i64 7, .int .i64 pt, .int .i64 pl, .int .u8 ((v.toNat : Nat) : Int), .slice ka kl kc])
              have Hb1 := hide (unhide Hb0 #[.int .i64 7, .int .i64 pt, .int .i64 pl, .int .u8 ((v.toNat : Nat) : Int), .slice ka kl kc])
              have HK1 := hide (unhide HKK #[.int .i64 7, .int .i64 pt, .int .i64 pl, .int .u8 ((v.toNat : Nat) : Int), .slice ka kl kc])
              clear HT0 Hb0 HKK c0 c1 c2 c3 c4 HACT
              rw [← hsb] at HA0 HQ0 ⊢
              generalize wr.alloc (.cells #[.int .i64 7, .int .i64 pt, .int .i64 pl, .int .u8 ((v.toNat : Nat) : Int), .slice ka kl kc] 51) = w1 at *
              clear hsb
              obtain ⟨bs, hrow⟩ := (unhide HK1).2.2 (by omega)
              have HROW := hide hrow
              clear hrow
              refine (restart_walk (unhide HT1).prog.dev (fun k hk => (unhide HT1).above k (by simp [hk])) (unhide HT1).size ka kl kc bs (unhide HROW) (Nat.le_trans (unhide HWL).1 (by omega))).mono ?_
              rintro e w2 ⟨rfl, D2, hD2, hTu2⟩
              have hq2 := (unhide HT1).prog.turnD hTu2 hD2 (layKept_len _ _ _)
              have HB3 := hide (both_restart (unhide HB) bs)
              have HW3 : Hid ((restartD d bs).wait.length ≤ 4096 * (j + 1)) := hide (Nat.zero_le _)
              have HWR : Hid (∀ w2, Ref E w2 q r → Below w.heap.size w1 w2 → w.heap.size ≤ w2.heap.size → Calls Try.prog 27 #[.pointer (some ⟨q, 0, none⟩), .slice ka kl kc] w2 fun e w' => e = .returned (.tuple #[]) ∧ ∃ E3, Ref E3 w' q (restartR r bs) ∧ Turns E E3 w2 w') := hide fun w2 hR2 hb2 hs2 =>
                rrestart_walk hR2 (unhide HT1).doc.aboveD hs2 ka kl kc bs ((unhide HROW).below hb2) (Nat.le_trans (unhide HWL).2 (by omega))
              have HKR : Hid ((restartR r bs).kept.length = r.kept.length) := hide (layKept_len _ _ _)
              have ht2 := (unhide HT1).turnP hq2.2 hq2.1
              have ha2 := hq2.2.keep (unhide HA0) (unhide HQ0).1
              have HT2 := hide ht2.1
              have Hb2 := hide ((unhide Hb1).trans ht2.2)
              have Hb12 := hide ht2.2
              have HA2 := hide ha2.1
              have hcn0 := (unhide HT2).doc.map.dev
              have hca := ha2.1.cell (i := 4) rfl
              clear hD2 hTu2 hq2 ht2 ha2 Hb1
              go_wp2_with fail
              refine Flow.wp_region (Flow.VV (fun j => match j with | 0 => .pointer (some ⟨n, 0, none⟩) | 1 => .pointer (some ⟨n, 0, none⟩) | 2 => .pointer (some ⟨n, 0, none⟩) | 3 => .pointer (some ⟨q, 0, none⟩) | 4 => .pointer (some ⟨sb, 4, none⟩) | 5 => .slice ka kl kc | 6 => .tuple #[] | _ => undef)) (Flow.two 6 (fun _ w' => w' = w2.drew) (fun _ w' => ∃ E3, Two w.heap.size sa scap F D2 G E3 w' m p n q (restartD d bs) (restartR r bs) x x ∧ Below w.heap.size w2 w')) () (by kernel_rfl) (by kernel_rfl) (by unfold Flow.two; simp) ⟨?_, ?_, ?_, ?_, ?_, ?_, ?_, trivial⟩ ?_
              · exact Flow.move (Flow.goes_plain rfl) (Flow.two.upd (by decide)) (.inl rfl) fun a s w' hs hd => (hs 10 (by kernel_rfl))
              · refine Flow.pure (Flow.goes_plain rfl) (Flow.two.upd (by decide)) fun a L s w' hC hL hn hs hd => ?_
                skip
                exact ⟨_, op_nil rfl (hd 0 194 (by kernel_rfl)) w', rfl⟩
              · refine Flow.pure (Flow.goes_plain rfl) (Flow.two.upd (by decide)) fun a L s w' hC hL hn hs hd => ?_
                skip
                exact ⟨_, op_f48_0 rfl (hd 1 195 (by kernel_rfl)) w', rfl⟩
              · refine Flow.pure (Flow.goes_plain rfl) (Flow.two.upd (by decide)) fun a L s w' hC hL hn hs hd => ?_
                have hA := hC.pre (hn.after 6 (by kernel_rfl))
                exact ⟨_, op_load45 rfl (hd 2 196 (by kernel_rfl)) (by rw [hA]; exact hcn0), rfl⟩
              · refine Flow.pure (Flow.goes_plain rfl) (Flow.two.upd (by decide)) fun a L s w' hC hL hn hs hd => ?_
                skip
                exact ⟨_, op_f51_4 rfl (hs 12 (by kernel_rfl)) w', rfl⟩
              · refine Flow.pure (Flow.goes_plain rfl) (Flow.two.upd (by decide)) fun a L s w' hC hL hn hs hd => ?_
                have hA := hC.pre (hn.after 6 (by kernel_rfl))
                exact ⟨_, op_load49 rfl (hd 4 198 (by kernel_rfl)) (by rw [hA]; exact hca), rfl⟩
              · refine Flow.call (Flow.goes_plain rfl) fun a L s0 w' hC hL hn hs hd => ⟨27, _, op_call27 rfl (hd 3 197 (by kernel_rfl)) (hd 5 199 (by kernel_rfl)) rfl w', ?_⟩
                obtain rfl : w' = w2.drew := hC.pre hL
                have hT2d := (unhide HT2).below ((Below.refl _ w2).drew)
                refine (unhide HWR w2.drew hT2d.doc.dev ((unhide Hb12).drew) hT2d.size).mono ?_
                rintro e w'' ⟨rfl, E3, hR3, hTu3⟩
                have hq3 := hT2d.doc.turnD hTu3 hR3 (unhide HKR)
                have ht3 := hT2d.turnR hq3.2 hq3.1
                exact ⟨_, (), rfl, fun _ _ _ h => h, Flow.two.post ⟨E3, ht3.1, ((Below.refl w.heap.size w2).drew).trans ht3.2⟩, rfl⟩
              · intro L _ w3 hC hL vals hv
                obtain ⟨E3, hT3, hb3⟩ := hC.end (hL 6 (by decide))
                simp only [Free.putAll, Act.put, List.setIfInBounds_toArray, List.set_cons_succ, List.set_cons_zero]
                have HT3 := hide hT3
                have Hb3 := hide ((unhide Hb2).trans hb3)
                have HX3 : Hid (x.sz = sz ∧ x.ops.length ≤ 4096) := hide ⟨(unhide HX).1, by have := unhide HOP; omega⟩
                clear hC hL hv hT3 hb3 HT1 HT2 Hb2 Hb12 HA2 hcn0 hca HWR HKR HA0 HQ0 HK1 HB HX HWL HOP HWT
                generalize restartD d bs = d3 at *
                generalize restartR r bs = r3 at *
                obtain ⟨x3, hx3⟩ : ∃ x3, x3 = x := ⟨_, rfl⟩
                rw [← hx3] at HT3 HX3
                clear hx3
                generalize vals 0 = y0 at *
                generalize vals 1 = y1 at *
                generalize vals 2 = y2 at *
                generalize vals 3 = y3 at *
                generalize vals 4 = y4 at *
                generalize vals 5 = y5 at *
                generalize vals 6 = y6 at *
                obtain ⟨F3, hF3⟩ : ∃ F3, F3 = F := ⟨_, rfl⟩
                obtain ⟨D3, hD3⟩ : ∃ D3, D3 = D2 := ⟨_, rfl⟩
                obtain ⟨G3, hG3⟩ : ∃ G3, G3 = G := ⟨_, rfl⟩
                rw [← hF3, ← hD3, ← hG3] at HT3
                clear hF3 hD3 hG3
                go_wp2_with fail
                refine (ops_walk (unhide HT3).prog.map).mono ?_
                rintro e w4 ⟨ov1, F4, rfl, hO4, hM4, hTu4, hs4, hk4⟩
                have hq4 := (unhide HT3).prog.turnM hTu4 hM4 rfl
                have ht4 := (unhide HT3).turnP hq4.2 hq4.1
                have HT4 := hide ht4.1
                have Hb4 := hide ((unhide Hb3).trans ht4.2)
                have HO4 := hide hO4
                have HK4 : Hid (∀ k ∈ ov1.ownBlock.toList, k < w4.heap.size ∧ k ∉ G3 ++ E3) := hide fun k hk => ⟨(hO4.lt k (by simpa using hk)).2, fun e => (unhide HT3).apart k (by simp [(hk4 k hk).1]) e⟩
                clear hO4 hM4 hTu4 hs4 hk4 hq4 ht4 HT3 Hb3
                go_wp2_with fail
                refine (tell_walk (unhide HT4).doc.map).mono ?_
                rintro e w5 ⟨ov2, G5, rfl, hO5, hM5, hTu5, hs5, hk5⟩
                have hq5 := (unhide HT4).doc.turnM hTu5 hM5 rfl
                have ht5 := (unhide HT4).turnR hq5.2 hq5.1
                have HT5 := hide ht5.1
                have Hb5 := hide ((unhide Hb4).trans ht5.2)
                have HO45 : Hid (w5.ownsRow 0 39 4 ov1 x3.ops.length (opsV x3.ops)) := hide (owns_same (unhide HO4) fun k hk => hq5.2.1.block k (unhide HK4 k hk).1 (unhide HK4 k hk).2)
                have HO5 := hide hO5
                clear hO5 hM5 hTu5 hs5 hk5 hq5 ht5 HT4 Hb4 HO4 HK4
                go_wp2_with fail
                refine (same_walk w5 ov1 ov2 x3.ops (unhide HO45) (unhide HO5) (Nat.le_trans (unhide HX3).2 (by omega))).mono ?_
                rintro e w6 ⟨rfl, hb6⟩
                have HT6 := hide ((unhide HT5).below hb6)
                have Hb6 := hide ((unhide Hb5).trans (hb6.mono (unhide HT5).size))
                clear hb6 HT5 Hb5 HO45 HO5
                go_wp2_with fail
                go_roundw
                case rel => exact ⟨j + 1, F4, D3, G5, E3, d3, r3, x3.told, by omega, by go_num, unhide HT6, unhide HB3, (unhide HX3).1, rfl, unhide HW3, unhide Hb6⟩
                case measure => simp [intOf]; omega
            · have hk2 : (200 : Int) < (kl : Int) := by omega
              have Hb1 := hide (unhide Hb0 #[.int .i64 7, .int .i64 pt, .int .i64 pl, .int .u8 ((v.toNat : Nat) : Int), .slice ka kl kc])
              go_wp2_with fail
              go_ret
              exact ⟨rfl, unhide Hb1⟩
        · as_aux_lemma =>
            go_wp2_with fail
            have HT1 := hide (unhide HT0 #[.int .i64 8, .int .i64 pt, .int .i64 pl, .int .u8 ((v.toNat : Nat) : Int), .slice ka kl kc])
            have Hb1 := hide (unhide Hb0 #[.int .i64 8, .int .i64 pt, .int .i64 pl, .int .u8 ((v.toNat : Nat) : Int), .slice ka kl kc])
            have HK1 := hide (unhide HKK #[.int .i64 8, .int .i64 pt, .int .i64 pl, .int .u8 ((v.toNat : Nat) : Int), .slice ka kl kc])
            clear HT0 Hb0 HKK c0 c1 c2 c3 c4 HACT
            rw [← hsb] at HA0 HQ0 ⊢
            generalize wr.alloc (.cells #[.int .i64 8, .int .i64 pt, .int .i64 pl, .int .u8 ((v.toNat : Nat) : Int), .slice ka kl kc] 51) = w1 at *
            clear hsb
            have hca1 := (unhide HA0).cell (i := 1) rfl
            have HAB := hide (both_all (unhide HB) x.sz pt)
            have HSH := hide (all_short (unhide HB) (by rw [(unhide HX).1]; exact unhide HSUM) (sz := x.sz) pt)
            obtain ⟨bs, hbs⟩ : ∃ bs, bs = allM d x.sz pt := ⟨_, rfl⟩
            rw [← hbs] at HAB HSH
            have HBS := hide hbs
            clear hbs
            refine Flow.wp_region (showV (fun j => match j with | 0 => .pointer (some ⟨m, 0, none⟩) | 1 => .pointer (some ⟨sb, 1, none⟩) | 2 => .int .i64 pt | 3 => undef | 4 => .string (tx bs) | 5 => .pointer (some ⟨n, 0, none⟩) | 6 => .pointer (some ⟨sb, 1, none⟩) | 7 => .int .i64 pt | 8 => undef | 9 => .string (tx bs) | 10 => .bool true | 11 => .bool true | _ => undef) 3 8 bs bs) (fun _ (_ : Unit) w' => Below w1.heap.size w1 w') () (by kernel_rfl) (by kernel_rfl) (Below.refl _ _).drew ⟨?_, ?_, ?_, ?_, ?_, ?_, ?_, ?_, ?_, ?_, ?_, ?_, trivial⟩ ?_
            · exact Flow.move (Flow.goes_plain rfl) (fun _ _ _ h => h) (.inl rfl) fun a s w' hs hd => (hs 8 (by kernel_rfl))
            · refine Flow.pure (Flow.goes_plain rfl) (fun _ _ _ h => h) fun a L s w' hC hL hn hs hd => ?_
              skip
              exact ⟨_, op_f51_1 rfl (hs 12 (by kernel_rfl)) w', rfl⟩
            · refine Flow.pure (Flow.goes_plain rfl) (fun _ _ _ h => h) fun a L s w' hC hL hn hs hd => ?_
              skip
              exact ⟨_, op_load3 rfl (hd 1 204 (by kernel_rfl)) ((hC.cell (p := ⟨sb, 1, none⟩) (unhide HA0).lt).trans hca1), rfl⟩
            · refine Flow.call (Flow.goes_plain rfl) fun a L s0 w' hC hL hn hs hd => ⟨28, _, op_call28 rfl (hd 0 203 (by kernel_rfl)) (hd 2 205 (by kernel_rfl)) rfl w', ?_⟩
              refine (all_walk ((unhide HT1).below hC).prog pt).mono ?_
              rintro e w'' ⟨v9, rfl, hO, hb⟩
              rw [← unhide HBS] at hO
              refine ⟨v9, (), rfl, fun j u hj h => showV.grow hb j u hj h, hC.trans (hb.mono hC.size), ?_⟩
              exact hO.row (unhide HSH)
            · refine Flow.pure (Flow.goes_plain rfl) (fun _ _ _ h => h) fun a L s w' hC hL hn hs hd => ?_
              have h3 : Shows bs _ w' := (hd 3 206 (by kernel_rfl))
              exact ⟨_, op_text rfl rfl h3, rfl⟩
            · exact Flow.move (Flow.goes_plain rfl) (fun _ _ _ h => h) (.inl rfl) fun a s w' hs hd => (hs 10 (by kernel_rfl))
            · refine Flow.pure (Flow.goes_plain rfl) (fun _ _ _ h => h) fun a L s w' hC hL hn hs hd => ?_
              skip
              exact ⟨_, op_f51_1 rfl (hs 12 (by kernel_rfl)) w', rfl⟩
            · refine Flow.pure (Flow.goes_plain rfl) (fun _ _ _ h => h) fun a L s w' hC hL hn hs hd => ?_
              skip
              exact ⟨_, op_load3 rfl (hd 6 209 (by kernel_rfl)) ((hC.cell (p := ⟨sb, 1, none⟩) (unhide HA0).lt).trans hca1), rfl⟩
            · refine Flow.call (Flow.goes_plain rfl) fun a L s0 w' hC hL hn hs hd => ⟨29, _, op_call29 rfl (hd 5 208 (by kernel_rfl)) (hd 7 210 (by kernel_rfl)) rfl w', ?_⟩
              refine (rall_walk ((unhide HT1).below hC).doc pt (Nat.le_trans (unhide HWL).2 (by omega))).mono ?_
              rintro e w'' ⟨v9, rfl, hO, hb⟩
              rw [unhide HAB] at hO
              refine ⟨v9, (), rfl, fun j u hj h => showV.grow hb j u hj h, hC.trans (hb.mono hC.size), ?_⟩
              exact hO.row (unhide HSH)
            · refine Flow.pure (Flow.goes_plain rfl) (fun _ _ _ h => h) fun a L s w' hC hL hn hs hd => ?_
              have h3 : Shows bs _ w' := (hd 8 211 (by kernel_rfl))
              exact ⟨_, op_text rfl rfl h3, rfl⟩
            · refine Flow.pure (Flow.goes_plain rfl) (fun _ _ _ h => h) fun a L s w' hC hL hn hs hd => ?_
              skip
              exact ⟨_, op_eql9 rfl (hd 4 207 (by kernel_rfl)) (hd 9 212 (by kernel_rfl)) (tx_self bs) w', rfl⟩
            · exact Flow.move (Flow.goes_plain rfl) (fun _ _ _ h => h) (.inr rfl) fun a s w' hs hd => (hd 10 213 (by kernel_rfl))
            · intro L _ w3 hC hL vals hv
              have e11 : vals 11 = .bool true := hv 11 _ 15 rfl rfl
              simp only [Free.putAll, Act.put, List.setIfInBounds_toArray, List.set_cons_succ, List.set_cons_zero, e11]
              have HT3 := hide ((unhide HT1).below hC)
              have Hb3 := hide ((unhide Hb1).trans (hC.mono (unhide HT1).size))
              have HB3 := HB
              have HW3 : Hid (d.wait.length ≤ 4096 * (j + 1)) := hide (by have := unhide HWT; omega)
              have HX3 : Hid (x.sz = sz ∧ x.ops.length ≤ 4096) := hide ⟨(unhide HX).1, by have := unhide HOP; omega⟩
              clear hC hL hv e11 HT1 Hb1 hca1 HAB HSH HBS HA0 HQ0 HK1 HB HX HWL HOP HWT
              obtain ⟨x3, hx3⟩ : ∃ x3, x3 = x := ⟨_, rfl⟩
              rw [← hx3] at HT3 HX3
              clear hx3
              generalize vals 0 = y0 at *
              generalize vals 1 = y1 at *
              generalize vals 2 = y2 at *
              generalize vals 3 = y3 at *
              generalize vals 4 = y4 at *
              generalize vals 5 = y5 at *
              generalize vals 6 = y6 at *
              generalize vals 7 = y7 at *
              generalize vals 8 = y8 at *
              generalize vals 9 = y9 at *
              generalize vals 10 = y10 at *
              obtain ⟨F3, hF3⟩ : ∃ F3, F3 = F := ⟨_, rfl⟩
              obtain ⟨D3, hD3⟩ : ∃ D3, D3 = D := ⟨_, rfl⟩
              obtain ⟨G3, hG3⟩ : ∃ G3, G3 = G := ⟨_, rfl⟩
              obtain ⟨E3, hE3⟩ : ∃ E3, E3 = E := ⟨_, rfl⟩
              obtain ⟨d3, hd3⟩ : ∃ d3, d3 = d := ⟨_, rfl⟩
              obtain ⟨r3, hr3⟩ : ∃ r3, r3 = r := ⟨_, rfl⟩
              rw [← hF3, ← hD3, ← hG3, ← hE3, ← hd3, ← hr3] at HT3
              rw [← hd3, ← hr3] at HB3
              rw [← hd3] at HW3
              clear hF3 hD3 hG3 hE3 hd3 hr3
              go_wp2_with fail
              refine (ops_walk (unhide HT3).prog.map).mono ?_
              rintro e w4 ⟨ov1, F4, rfl, hO4, hM4, hTu4, hs4, hk4⟩
              have hq4 := (unhide HT3).prog.turnM hTu4 hM4 rfl
              have ht4 := (unhide HT3).turnP hq4.2 hq4.1
              have HT4 := hide ht4.1
              have Hb4 := hide ((unhide Hb3).trans ht4.2)
              have HO4 := hide hO4
              have HK4 : Hid (∀ k ∈ ov1.ownBlock.toList, k < w4.heap.size ∧ k ∉ G3 ++ E3) := hide fun k hk => ⟨(hO4.lt k (by simpa using hk)).2, fun e => (unhide HT3).apart k (by simp [(hk4 k hk).1]) e⟩
              clear hO4 hM4 hTu4 hs4 hk4 hq4 ht4 HT3 Hb3
              go_wp2_with fail
              refine (tell_walk (unhide HT4).doc.map).mono ?_
              rintro e w5 ⟨ov2, G5, rfl, hO5, hM5, hTu5, hs5, hk5⟩
              have hq5 := (unhide HT4).doc.turnM hTu5 hM5 rfl
              have ht5 := (unhide HT4).turnR hq5.2 hq5.1
              have HT5 := hide ht5.1
              have Hb5 := hide ((unhide Hb4).trans ht5.2)
              have HO45 : Hid (w5.ownsRow 0 39 4 ov1 x3.ops.length (opsV x3.ops)) := hide (owns_same (unhide HO4) fun k hk => hq5.2.1.block k (unhide HK4 k hk).1 (unhide HK4 k hk).2)
              have HO5 := hide hO5
              clear hO5 hM5 hTu5 hs5 hk5 hq5 ht5 HT4 Hb4 HO4 HK4
              go_wp2_with fail
              refine (same_walk w5 ov1 ov2 x3.ops (unhide HO45) (unhide HO5) (Nat.le_trans (unhide HX3).2 (by omega))).mono ?_
              rintro e w6 ⟨rfl, hb6⟩
              have HT6 := hide ((unhide HT5).below hb6)
              have Hb6 := hide ((unhide Hb5).trans (hb6.mono (unhide HT5).size))
              clear hb6 HT5 Hb5 HO45 HO5
              go_wp2_with fail
              go_roundw
              case rel => exact ⟨j + 1, F4, D3, G5, E3, d3, r3, x3.told, by omega, by go_num, unhide HT6, unhide HB3, (unhide HX3).1, rfl, unhide HW3, unhide Hb6⟩
              case measure => simp [intOf]; omega
        · as_aux_lemma =>
            go_wp2_with fail
            have HT1 := hide (unhide HT0 #[.int .i64 kd, .int .i64 pt, .int .i64 pl, .int .u8 ((v.toNat : Nat) : Int), .slice ka kl kc])
            have Hb1 := hide (unhide Hb0 #[.int .i64 kd, .int .i64 pt, .int .i64 pl, .int .u8 ((v.toNat : Nat) : Int), .slice ka kl kc])
            have HK1 := hide (unhide HKK #[.int .i64 kd, .int .i64 pt, .int .i64 pl, .int .u8 ((v.toNat : Nat) : Int), .slice ka kl kc])
            clear HT0 Hb0 HKK c0 c1 c2 c3 c4 HACT
            rw [← hsb] at HA0 HQ0 ⊢
            generalize wr.alloc (.cells #[.int .i64 kd, .int .i64 pt, .int .i64 pl, .int .u8 ((v.toNat : Nat) : Int), .slice ka kl kc] 51) = w1 at *
            clear hsb
            have HSR := hide (both_read (unhide HB) x.sz pt pl)
            have HRL : Hid ((readM d x.sz pt pl).1.length = 64) := hide (readD_64 (unhide HB).2 x.sz pt pl)
            have HRD : Hid (∀ w2, Below w1.heap.size w1 w2 → Calls Try.prog 30 #[.pointer (some ⟨n, 0, none⟩), .int .i64 pt, .int .i64 pl] w2 fun e w' => e = .returned (.tuple #[secV (readM d x.sz pt pl).1, .int .i64 (readM d x.sz pt pl).2]) ∧ Below w2.heap.size w2 w') := hide (fun w2 hb2 => by
              have := rmread_walk ((unhide HT1).below hb2).doc pt pl (unhide HPL) (Nat.le_trans (unhide HWL).2 (by omega))
              rw [unhide HSR] at this
              exact this)
            refine (mread_walk (unhide HT1).prog pt pl (unhide HPL)).mono ?_
            generalize (readM d x.sz pt pl).1 = xs at *
            generalize (readM d x.sz pt pl).2 = xe at *
            clear HSR
            rintro e w2 ⟨rfl, hb2⟩
            have Hb2 := hide hb2
            clear hb2
            go_wp2_with (refine wpList_alloc 30 30 (bytesV zeroS) rfl rfl alloc30 ?_)
            intro w3 hA3 hb3 hs3
            have HX3 := hide hA3
            have Hb3 := hide ((unhide Hb2).trans (hb3.mono (unhide Hb2).size))
            have hq1 := (unhide Hb2).size
            clear hA3 hb3 Hb2
            generalize w2.heap.size = q1 at *
            go_wp2_with (refine wpList_storeAll 30 _ _ q1 (bytesV xs) (bytesV zeroS) rfl rfl rfl rfl (unhide HX3) (by rw [bytesV_length, bytesV_length, unhide HRL]; rfl) (info30s (unhide HRL)) (bytesV_one _) ?_)
            intro w4 hA4 hg4 hs4
            have HX4 := hide hA4
            have Hb4 := hide ((unhide Hb3).grown hg4 (unhide Hb3).size (fun k hk => by simp at hk; omega))
            have hca1 := ((unhide HA0).below (unhide Hb4)).cell (i := 1) rfl
            have hca2 := ((unhide HA0).below (unhide Hb4)).cell (i := 2) rfl
            clear hA4 hg4 HX3 Hb3
            go_wp2_with fail
            refine (unhide HRD w4 (unhide Hb4)).mono ?_
            rintro e w5 ⟨rfl, hb5⟩
            have HX5 := hide ((unhide HX4).below hb5)
            have Hb5 := hide ((unhide Hb4).trans (hb5.mono (unhide Hb4).size))
            have hq12 : q1 < w5.heap.size := (unhide HX5).lt
            clear hb5 HX4 Hb4 HRD hca1 hca2
            go_wp2_with (refine wpList_alloc 30 30 (bytesV zeroS) rfl rfl alloc30 ?_)
            intro w6 hA6 hb6 hs6
            have HY6 := hide hA6
            have HX6 := hide ((unhide HX5).below hb6)
            have Hb6 := hide ((unhide Hb5).trans (hb6.mono (unhide Hb5).size))
            have hq2 := (unhide Hb5).size
            clear hA6 hb6 Hb5 HX5
            generalize w5.heap.size = q2 at *
            go_wp2_with (refine wpList_storeAll 30 _ _ q2 (bytesV xs) (bytesV zeroS) rfl rfl rfl rfl (unhide HY6) (by rw [bytesV_length, bytesV_length, unhide HRL]; rfl) (info30s (unhide HRL)) (bytesV_one _) ?_)
            intro w7 hA7 hg7 hs7
            have HY7 := hide hA7
            have HX7 := hide ((unhide HX6).grown hg7 (by simp; omega))
            have Hb7 := hide ((unhide Hb6).grown hg7 (unhide Hb6).size (fun k hk => by simp at hk; omega))
            clear hA7 hg7 HX6 HY6 Hb6
            have heq : (Op.equalIn 10000 30 (.agg (bytesV xs).toArray) (.agg (bytesV xs).toArray)).run Try.prog w7 = .ok true w7 := by
              have := run_equal30 xs xs (unhide HRL) (unhide HRL) w7
              rw [beq_self_eq_true] at this
              exact this
            have HT3 : Hid (Two w.heap.size sa scap F D G E w7 m p n q d r x x) := hide ((unhide HT1).below (unhide Hb7))
            have Hb3 : Hid (Below w.heap.size w w7) := hide ((unhide Hb1).trans ((unhide Hb7).mono (unhide HT1).size))
            have HB3 := HB
            have HW3 : Hid (d.wait.length ≤ 4096 * (j + 1)) := hide (by have := unhide HWT; omega)
            have HX3 : Hid (x.sz = sz ∧ x.ops.length ≤ 4096) := hide ⟨(unhide HX).1, by have := unhide HOP; omega⟩
            clear HT1 Hb1 Hb7 HB HWT HWL HA0 HQ0 HK1 HX HOP
            obtain ⟨w3, hw3⟩ : ∃ w3, w3 = w7 := ⟨_, rfl⟩
            obtain ⟨x3, hx3⟩ : ∃ x3, x3 = x := ⟨_, rfl⟩
            rw [← hx3] at HT3 HX3
            clear hx3
            obtain ⟨F3, hF3⟩ : ∃ F3, F3 = F := ⟨_, rfl⟩
            obtain ⟨D3, hD3⟩ : ∃ D3, D3 = D := ⟨_, rfl⟩
            obtain ⟨G3, hG3⟩ : ∃ G3, G3 = G := ⟨_, rfl⟩
            obtain ⟨E3, hE3⟩ : ∃ E3, E3 = E := ⟨_, rfl⟩
            obtain ⟨d3, hd3⟩ : ∃ d3, d3 = d := ⟨_, rfl⟩
            obtain ⟨r3, hr3⟩ : ∃ r3, r3 = r := ⟨_, rfl⟩
            rw [← hF3, ← hD3, ← hG3, ← hE3, ← hd3, ← hr3] at HT3
            rw [← hd3, ← hr3] at HB3
            rw [← hd3] at HW3
            clear hF3 hD3 hG3 hE3 hd3 hr3
            go_wp2_with (first
              | refine wpList_loadAll 30 _ q1 (bytesV xs) _ rfl rfl rfl (unhide HX7) Try.underlying30 rfl (info30s (unhide HRL)) ?_
              | refine wpList_loadAll 30 _ q2 (bytesV xs) _ rfl rfl rfl (unhide HY7) Try.underlying30 rfl (info30s (unhide HRL)) ?_)
            rw [← hw3] at HT3 Hb3 ⊢
            clear hw3 heq HX7 HY7
            refine (ops_walk (unhide HT3).prog.map).mono ?_
            rintro e w4 ⟨ov1, F4, rfl, hO4, hM4, hTu4, hs4, hk4⟩
            have hq4 := (unhide HT3).prog.turnM hTu4 hM4 rfl
            have ht4 := (unhide HT3).turnP hq4.2 hq4.1
            have HT4 := hide ht4.1
            have Hb4 := hide ((unhide Hb3).trans ht4.2)
            have HO4 := hide hO4
            have HK4 : Hid (∀ k ∈ ov1.ownBlock.toList, k < w4.heap.size ∧ k ∉ G3 ++ E3) := hide fun k hk => ⟨(hO4.lt k (by simpa using hk)).2, fun e => (unhide HT3).apart k (by simp [(hk4 k hk).1]) e⟩
            clear hO4 hM4 hTu4 hs4 hk4 hq4 ht4 HT3 Hb3
            go_wp2_with fail
            refine (tell_walk (unhide HT4).doc.map).mono ?_
            rintro e w5 ⟨ov2, G5, rfl, hO5, hM5, hTu5, hs5, hk5⟩
            have hq5 := (unhide HT4).doc.turnM hTu5 hM5 rfl
            have ht5 := (unhide HT4).turnR hq5.2 hq5.1
            have HT5 := hide ht5.1
            have Hb5 := hide ((unhide Hb4).trans ht5.2)
            have HO45 : Hid (w5.ownsRow 0 39 4 ov1 x3.ops.length (opsV x3.ops)) := hide (owns_same (unhide HO4) fun k hk => hq5.2.1.block k (unhide HK4 k hk).1 (unhide HK4 k hk).2)
            have HO5 := hide hO5
            clear hO5 hM5 hTu5 hs5 hk5 hq5 ht5 HT4 Hb4 HO4 HK4
            go_wp2_with fail
            refine (same_walk w5 ov1 ov2 x3.ops (unhide HO45) (unhide HO5) (Nat.le_trans (unhide HX3).2 (by omega))).mono ?_
            rintro e w6 ⟨rfl, hb6⟩
            have HT6 := hide ((unhide HT5).below hb6)
            have Hb6 := hide ((unhide Hb5).trans (hb6.mono (unhide HT5).size))
            clear hb6 HT5 Hb5 HO45 HO5
            go_wp2_with fail
            go_roundw
            case rel => exact ⟨j + 1, F4, D3, G5, E3, d3, r3, x3.told, by omega, by go_num, unhide HT6, unhide HB3, (unhide HX3).1, rfl, unhide HW3, unhide Hb6⟩
            case measure => simp [intOf]; omega
      · as_aux_lemma =>
          clear HACT
          clear hb hlen
          have HLX : Hid (x.sz.length = slen) := hide (by rw [(unhide HX).1]; exact unhide HLM)
          have HDL : Hid (r.done.length ≤ 1000000) := hide (by rw [both_done (unhide HB)]; omega)
          go_wp2
          go_loopw [232] (fun ci wr => ∃ i : Nat, i ≤ slen ∧ ci = .int .i64 (i : Int) ∧ Two w.heap.size sa scap F D G E wr m p n q d r x x ∧ Below w.heap.size w wr) (fun ci _ => slen - (intOf ci).toNat)
          case atStart => exact ⟨0, by omega, rfl, unhide HT, unhide Hb⟩
          case round =>
            obtain ⟨i, hi, rfl, hT, hb⟩ := hrel
            clear HT Hb
            have HT := hide hT
            have Hb := hide hb
            clear hT hb
            by_cases hilt : i < slen
            · obtain ⟨b0, off0, rfl, hb0, hc0⟩ := unhide HIX i hilt
              have HAB := hide (both_all (unhide HB) x.sz (i : Int))
              have HSH := hide (all_short (unhide HB) (by rw [(unhide HX).1]; exact unhide HSUM) (sz := x.sz) (i : Int))
              have HSZ : Hid (sizeX x.sz (i : Int) = sz.getD i 0) := hide (by rw [size_some (by rw [unhide HLX]; exact hilt), (unhide HX).1])
              obtain ⟨bs, hbs⟩ : ∃ bs, bs = allM d x.sz (i : Int) := ⟨_, rfl⟩
              rw [← hbs] at HAB HSH
              have HBS := hide hbs
              have hc0r : wr.cell? ⟨b0, off0 + i, none⟩ = some (.int .i64 ((sz.getD i 0 : Nat) : Int)) := ((unhide Hb).cell (p := ⟨b0, off0 + i, none⟩) hb0).trans hc0
              have hb0r : b0 < wr.heap.size := Nat.lt_of_lt_of_le hb0 (unhide HT).size
              generalize sz.getD i 0 = zi at *
              clear hbs hc0
              go_wp2_with fail
              refine Flow.wp_region (showV (fun j => match j with | 0 => .pointer (some ⟨m, 0, none⟩) | 1 => .int .i64 (i : Int) | 2 => undef | 3 => .string (tx bs) | 4 => .pointer (some ⟨n, 0, none⟩) | 5 => .int .i64 (i : Int) | 6 => undef | 7 => .string (tx bs) | 8 => .bool false | 9 => .bool false | 10 => .pointer (some ⟨m, 0, none⟩) | 11 => .int .i64 (i : Int) | 12 => .int .i64 (zi : Int) | 13 => .slice (some ⟨b0, off0, none⟩) slen scap | 14 => .int .i64 (i : Int) | 15 => .pointer (some ⟨b0, off0 + i, none⟩) | 16 => .int .i64 (zi : Int) | 17 => .bool false | 18 => .bool false | _ => undef) 2 6 bs bs) (fun _ (_ : Unit) w' => Below wr.heap.size wr w') () (by kernel_rfl) (by kernel_rfl) (Below.refl _ _).drew ⟨?_, ?_, ?_, ?_, ?_, ?_, ?_, ?_, ?_, ?_, ?_, ?_, ?_, ?_, ?_, ?_, ?_, ?_, ?_, trivial⟩ ?_
              · exact Flow.move (Flow.goes_plain rfl) (fun _ _ _ h => h) (.inl rfl) fun a s w' hs hd => (hs 8 (by kernel_rfl))
              · exact Flow.move (Flow.goes_plain rfl) (fun _ _ _ h => h) (.inl rfl) fun a s w' hs hd => (hs 20 (by kernel_rfl))
              · refine Flow.call (Flow.goes_plain rfl) fun a L s0 w' hC hL hn hs hd => ⟨28, _, op_call28 rfl (hd 0 235 (by kernel_rfl)) (hd 1 236 (by kernel_rfl)) rfl w', ?_⟩
                refine (all_walk ((unhide HT).below hC).prog (i : Int)).mono ?_
                rintro e w'' ⟨v9, rfl, hO, hb⟩
                rw [← unhide HBS] at hO
                refine ⟨v9, (), rfl, fun j u hj h => showV.grow hb j u hj h, hC.trans (hb.mono hC.size), ?_⟩
                exact hO.row (unhide HSH)
              · refine Flow.pure (Flow.goes_plain rfl) (fun _ _ _ h => h) fun a L s w' hC hL hn hs hd => ?_
                have h3 : Shows bs _ w' := (hd 2 237 (by kernel_rfl))
                exact ⟨_, op_text rfl rfl h3, rfl⟩
              · exact Flow.move (Flow.goes_plain rfl) (fun _ _ _ h => h) (.inl rfl) fun a s w' hs hd => (hs 10 (by kernel_rfl))
              · exact Flow.move (Flow.goes_plain rfl) (fun _ _ _ h => h) (.inl rfl) fun a s w' hs hd => (hs 20 (by kernel_rfl))
              · refine Flow.call (Flow.goes_plain rfl) fun a L s0 w' hC hL hn hs hd => ⟨29, _, op_call29 rfl (hd 4 239 (by kernel_rfl)) (hd 5 240 (by kernel_rfl)) rfl w', ?_⟩
                refine (rall_walk ((unhide HT).below hC).doc (i : Int) (unhide HDL)).mono ?_
                rintro e w'' ⟨v9, rfl, hO, hb⟩
                rw [unhide HAB] at hO
                refine ⟨v9, (), rfl, fun j u hj h => showV.grow hb j u hj h, hC.trans (hb.mono hC.size), ?_⟩
                exact hO.row (unhide HSH)
              · refine Flow.pure (Flow.goes_plain rfl) (fun _ _ _ h => h) fun a L s w' hC hL hn hs hd => ?_
                have h3 : Shows bs _ w' := (hd 6 241 (by kernel_rfl))
                exact ⟨_, op_text rfl rfl h3, rfl⟩
              · refine Flow.pure (Flow.goes_plain rfl) (fun _ _ _ h => h) fun a L s w' hC hL hn hs hd => ?_
                skip
                exact ⟨_, op_neq9 rfl (hd 3 238 (by kernel_rfl)) (hd 7 242 (by kernel_rfl)) (by simp) w', rfl⟩
              · exact Flow.move (Flow.goes_plain rfl) (fun _ _ _ h => h) (.inl rfl) fun a s w' hs hd => (hd 8 243 (by kernel_rfl))
              · exact Flow.move (Flow.goes_guard false rfl rfl rfl (by kernel_rfl) (fun _ _ _ h => h)) (fun _ _ _ h => h) (.inl rfl) fun a s w' hs hd => (hs 8 (by kernel_rfl))
              · exact Flow.move (Flow.goes_guard false rfl rfl rfl (by kernel_rfl) (fun _ _ _ h => h)) (fun _ _ _ h => h) (.inl rfl) fun a s w' hs hd => (hs 20 (by kernel_rfl))
              · refine Flow.call (Flow.goes_guard false rfl rfl rfl (by kernel_rfl) (fun _ _ _ h => h)) fun a L s0 w' hC hL hn hs hd => ⟨15, _, op_call15 rfl (hd 10 245 (by kernel_rfl)) (hd 11 246 (by kernel_rfl)) rfl w', ?_⟩
                refine (msize_walk ((unhide HT).below hC).prog.map (i : Int)).mono ?_
                rintro e w'' ⟨rfl, hb, _⟩
                rw [unhide HSZ]
                exact ⟨_, (), rfl, fun j u hj h => showV.grow hb j u hj h, hC.trans (hb.mono hC.size), rfl⟩
              · exact Flow.move (Flow.goes_guard false rfl rfl rfl (by kernel_rfl) (fun _ _ _ h => h)) (fun _ _ _ h => h) (.inl rfl) fun a s w' hs hd => (hs 1 (by kernel_rfl))
              · exact Flow.move (Flow.goes_guard false rfl rfl rfl (by kernel_rfl) (fun _ _ _ h => h)) (fun _ _ _ h => h) (.inl rfl) fun a s w' hs hd => (hs 20 (by kernel_rfl))
              · exact Flow.pure (Flow.goes_guard false rfl rfl rfl (by kernel_rfl) (fun _ _ _ h => h)) (fun _ _ _ h => h) fun a L s w' hC hL hn hs hd => ⟨_, op_idx41o rfl (hd 13 248 (by kernel_rfl)) (hd 14 249 (by kernel_rfl)) hilt w', rfl⟩
              · refine Flow.pure (Flow.goes_guard false rfl rfl rfl (by kernel_rfl) (fun _ _ _ h => h)) (fun _ _ _ h => h) fun a L s w' hC hL hn hs hd => ?_
                skip
                exact ⟨_, op_load3 rfl (hd 15 250 (by kernel_rfl)) ((hC.cell (p := ⟨b0, off0 + i, none⟩) hb0r).trans hc0r), rfl⟩
              · refine Flow.pure (Flow.goes_guard false rfl rfl rfl (by kernel_rfl) (fun _ _ _ h => h)) (fun _ _ _ h => h) fun a L s w' hC hL hn hs hd => ?_
                skip
                exact ⟨_, op_neq3 rfl (hd 12 247 (by kernel_rfl)) (hd 16 251 (by kernel_rfl)) (by simp) w', rfl⟩
              · refine Flow.pure (Flow.goes_plain rfl) (fun _ _ _ h => h) fun a L s w' hC hL hn hs hd => ?_
                skip
                exact ⟨_, op_pickF rfl (hd 9 244 (by kernel_rfl)) (hd 17 252 (by kernel_rfl)) w', rfl⟩
              · intro L _ w3 hC hL vals hv
                have e18 : vals 18 = .bool false := hv 18 _ 253 rfl rfl
                simp only [Free.putAll, Act.put, List.setIfInBounds_toArray, List.set_cons_succ, List.set_cons_zero, e18]
                have HT3 := hide ((unhide HT).below hC)
                have Hb3 := hide ((unhide Hb).trans (hC.mono (unhide HT).size))
                clear hC hL hv e18 HT Hb HAB HSH HBS HSZ hc0r
                generalize vals 0 = y0 at *
                generalize vals 1 = y1 at *
                generalize vals 2 = y2 at *
                generalize vals 3 = y3 at *
                generalize vals 4 = y4 at *
                generalize vals 5 = y5 at *
                generalize vals 6 = y6 at *
                generalize vals 7 = y7 at *
                generalize vals 8 = y8 at *
                generalize vals 9 = y9 at *
                generalize vals 10 = y10 at *
                generalize vals 11 = y11 at *
                generalize vals 12 = y12 at *
                generalize vals 13 = y13 at *
                generalize vals 14 = y14 at *
                generalize vals 15 = y15 at *
                generalize vals 16 = y16 at *
                generalize vals 17 = y17 at *
                go_wp2_with fail
                go_roundw
                case rel => exact ⟨i + 1, by omega, by go_num, unhide HT3, unhide Hb3⟩
                case measure => simp [intOf]; omega
            · obtain rfl : i = slen := by omega
              go_wp2_with fail
              have HPT := hide (parts_walk (unhide HT).prog.map)
              rw [unhide HLX] at HPT
              refine (unhide HPT).mono ?_
              rintro e w3 ⟨rfl, hw3⟩
              subst w3
              clear HPT
              go_wp2
              go_ret
              exact ⟨rfl, unhide Hb⟩
  · rw [if_neg hr] at hP
    obtain ⟨rfl, hb3⟩ := hP
    have hs2 := (unhide Hb2).size
    have Hb3 := hide ((unhide Hb2).trans (hb3.mono hs2))
    have HRW := hide (right_walk w3 s hs sa slen scap l (((unhide HI2).below hb3).up hb3.size) hsl)
    rw [show rightD s l = false by simpa using hr] at HRW
    clear hb3 HD2 HF2 Hb2 HI2 hs2 hr HACT HI HLL HK2
    go_wp2_with fail
    refine (unhide HRW).mono ?_
    rintro e w4 ⟨rfl, hw4⟩
    subst w4
    clear HRW
    go_wp2_with fail
    go_ret
    exact ⟨rfl, unhide Hb3⟩

set_option maxHeartbeats 1600000 in
set_option maxRecDepth 100000 in
theorem walk (sx : Int) (sa : Option Addr) (slen scap : Nat) (l : List Int) (a : Option Addr) (len cap : Nat) (w : World) (_h0 : (Lit.int .i64 sx).wf = true) (hI : IRow w.heap.size w sa slen l) (_hm : len ≤ maxLen) (hA : Acts w.heap.size w a len) :
    Calls Try.prog 4 #[.int .i64 sx, .slice sa slen scap, .slice a len cap] w fun e w' => e = .returned (.bool true) ∧ Below w.heap.size w w' := by
  by_cases h : 0 ≤ sx ∧ sx ≤ 40 ∧ slen ≤ 20 ∧ len ≤ 80
  · obtain ⟨s, rfl⟩ : ∃ s : Nat, sx = (s : Int) := ⟨sx.toNat, by omega⟩
    exact main s (by omega) sa slen scap l h.2.2.1 a len cap h.2.2.2 w hI hA
  · clear hA hI
    have hn : sx < 0 ∨ (0 ≤ sx ∧ 40 < sx) ∨ (0 ≤ sx ∧ sx ≤ 40 ∧ 20 < slen) ∨ (0 ≤ sx ∧ sx ≤ 40 ∧ slen ≤ 20 ∧ 80 < len) := by omega
    clear h
    rcases hn with h | h | h | h
    all_goals (
      go_enter Try.func4, Try.ntmps4
      go_wp2_with fail
      refine (palive_walk w).mono ?_
      rintro e w1 ⟨rfl, hb1⟩
      have Hb1 := hide hb1
      clear hb1
      go_wp2_with fail
      go_ret
      exact ⟨rfl, unhide Hb1⟩)
end partRuns
end Go.Proofs.Ytlgknllcnkainaa
