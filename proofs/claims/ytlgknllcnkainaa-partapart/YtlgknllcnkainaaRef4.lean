/-
  New and Restart of the document's device.
-/
import Derived.Test.YtlgknllcnkainaaRef3
import Derived.Test.YtlgknllcnkainaaNew
import Derived.Test.YtlgknllcnkainaaCopy
namespace Go.Proofs.Ytlgknllcnkainaa
open Go.RowKit

/-- The document's new device, of which so many sectors are blank. -/
def newK (n m k : Nat) : RM := { kept := someBlank n k, wear := List.replicate n 0, most := m, done := [], limited := false, budget := 0, down := false }
theorem newK_ok {n m k : Nat} (hn : n ≤ 4096) (hm : m ≤ 100000) (hk : k ≤ n) : (newK n m k).Ok :=
  { wear := by show (List.replicate n 0).length = _; rw [List.length_replicate]; exact (someBlank_len hk).symm, keptS := someBlank_64 n k, doneS := (fun x hx => by cases hx), low := (fun e => by cases e), high := by show (0 : Int) ≤ _; decide, most := hm,
    wearM := fun x hx => by rw [(List.mem_replicate.1 hx).2]; exact Nat.zero_le _, few := by show (someBlank n k).length ≤ _; rw [someBlank_len hk]; exact hn }

structure Three where
  k : Nat
  w : Nat
  p : Nat
def rnewF (r : RM) (g : Nat → Value) (j : Nat) (s : Three) : Value :=
  if j = 1 then .slice (some ⟨s.k, 0, none⟩) r.kept.length r.kept.length else if j = 3 then .slice (some ⟨s.w, 0, none⟩) r.kept.length r.kept.length
  else if j = 6 then .agg (refV s.k s.w (.slice none 0 0) r).toArray else if j = 7 ∨ j = 8 then .pointer (some ⟨s.p, 0, none⟩) else g j
structure RNewC (W : World) (r : RM) (L : Nat → Bool) (s : Three) (u : World) : Prop where
  below : Below W.heap.size W u
  k : L 1 = true → W.heap.size ≤ s.k ∧ Arr u s.k (secsV r.kept)
  w : L 3 = true → W.heap.size ≤ s.w ∧ Arr u s.w (intsV r.wear) ∧ (L 1 = true → s.k ≠ s.w)
  p : L 7 = true → W.heap.size ≤ s.p ∧ Arr u s.p (refV s.k s.w (.slice none 0 0) r) ∧ s.p ≠ s.k ∧ s.p ≠ s.w
section
variable {W : World} {r : RM} {L : Nat → Bool} {s : Three} {w w' : World}
theorem RNewC.upd {i : Nat} (h1 : 1 ≠ i) (h3 : 3 ≠ i) (h9 : 7 ≠ i) : ∀ L s w, RNewC W r L s w → RNewC W r (Flow.upd L i) s w := fun L s w h =>
  ⟨h.below, by rw [Flow.upd_ne h1]; exact h.k, by rw [Flow.upd_ne h3, Flow.upd_ne h1]; exact h.w, by rw [Flow.upd_ne h9]; exact h.p⟩
theorem RNewC.one (h : RNewC W r L s w) (hb : Below w.heap.size w w') (h9 : L 7 = false) {b : Nat} (hlt : w.heap.size ≤ b) (hA : Arr w' b (secsV r.kept)) : RNewC W r (Flow.upd L 1) { s with k := b } w' :=
  ⟨h.below.trans (hb.mono h.below.size), fun _ => ⟨Nat.le_trans h.below.size hlt, hA⟩,
   fun e => by
    rw [Flow.upd_ne (by decide)] at e
    have := h.w e
    exact ⟨this.1, this.2.1.below hb, fun _ => by have := this.2.1.lt; show b ≠ s.w; omega⟩,
   fun e => by
    rw [Flow.upd_ne (by decide), h9] at e
    cases e⟩
theorem RNewC.three (h : RNewC W r L s w) (hb : Below w.heap.size w w') (h9 : L 7 = false) {b : Nat} (hlt : w.heap.size ≤ b) (hA : Arr w' b (intsV r.wear)) : RNewC W r (Flow.upd L 3) { s with w := b } w' :=
  ⟨h.below.trans (hb.mono h.below.size), fun e => by
    rw [Flow.upd_ne (by decide)] at e
    have := h.k e
    exact ⟨this.1, this.2.below hb⟩,
   fun _ => ⟨Nat.le_trans h.below.size hlt, hA, fun e => by
    rw [Flow.upd_ne (by decide)] at e
    have := (h.k e).2.lt
    show s.k ≠ b; omega⟩,
   fun e => by
    rw [Flow.upd_ne (by decide), h9] at e
    cases e⟩
theorem RNewC.four (h : RNewC W r L s w) (hb : Below w.heap.size w w') (h1 : L 1 = true) (h5 : L 3 = true) {b : Nat} (hlt : w.heap.size ≤ b) (hA : Arr w' b (refV s.k s.w (.slice none 0 0) r)) : RNewC W r (Flow.upd L 7) { s with p := b } w' :=
  ⟨h.below.trans (hb.mono h.below.size), fun _ => ⟨(h.k h1).1, (h.k h1).2.below hb⟩,
   fun _ => ⟨(h.w h5).1, (h.w h5).2.1.below hb, fun _ => (h.w h5).2.2 h1⟩,
   fun _ => ⟨Nat.le_trans h.below.size hlt, hA, by
    have := (h.k h1).2.lt
    show b ≠ s.k; omega, by
    have := (h.w h5).2.1.lt
    show b ≠ s.w; omega⟩⟩
theorem rnewF_one {g : Nat → Value} (b : Nat) (h1 : L 1 = false) (h8 : L 6 = false) : ∀ j u, L j = true → u = rnewF r g j s → u = rnewF r g j { s with k := b } := fun j u hj e => by
  have n1 : j ≠ 1 := fun e => by rw [e, h1] at hj; cases hj
  have n8 : j ≠ 6 := fun e => by rw [e, h8] at hj; cases hj
  rw [e]; simp [rnewF, n1, n8]
theorem rnewF_three {g : Nat → Value} (b : Nat) (h1 : L 3 = false) (h8 : L 6 = false) : ∀ j u, L j = true → u = rnewF r g j s → u = rnewF r g j { s with w := b } := fun j u hj e => by
  have n1 : j ≠ 3 := fun e => by rw [e, h1] at hj; cases hj
  have n8 : j ≠ 6 := fun e => by rw [e, h8] at hj; cases hj
  rw [e]; simp [rnewF, n1, n8]
theorem rnewF_four {g : Nat → Value} (b : Nat) (h1 : L 7 = false) (h8 : L 8 = false) : ∀ j u, L j = true → u = rnewF r g j s → u = rnewF r g j { s with p := b } := fun j u hj e => by
  have n1 : j ≠ 7 := fun e => by rw [e, h1] at hj; cases hj
  have n8 : j ≠ 8 := fun e => by rw [e, h8] at hj; cases hj
  rw [e]; simp [rnewF, n1, n8]
end
theorem built92 (k w c m : Nat) : Try.prog.built 92 [(0, .slice (some ⟨k, 0, none⟩) c c), (1, .slice (some ⟨w, 0, none⟩) c c), (2, .int .i64 (m : Int))] =
    some [.slice (some ⟨k, 0, none⟩) c c, .slice (some ⟨w, 0, none⟩) c c, .int .i64 (m : Int), .slice none 0 0, .bool false, .int .i64 0, .bool false].toArray := by kernel_rfl
theorem op_build92 {ρ : Operand → Value} {o : Oper} {x1 x2 x3 : Operand} {k w c m : Nat} (ho : o.op = .build 92 #[(0, x1), (1, x2), (2, x3)]) (h1 : ρ x1 = .slice (some ⟨k, 0, none⟩) c c) (h2 : ρ x2 = .slice (some ⟨w, 0, none⟩) c c)
    (h4 : ρ x3 = .int .i64 (m : Int)) (W : World) :
    (execOp ρ o).run Try.prog W = .ok (.value (.agg [.slice (some ⟨k, 0, none⟩) c c, .slice (some ⟨w, 0, none⟩) c c, .int .i64 (m : Int), .slice none 0 0, .bool false, .int .i64 0, .bool false].toArray)) W := by
  have hb := built92 k w c m
  unfold execOp
  rw [ho]
  simp only [List.map_toArray, List.map_cons, List.map_nil, h1, h2, h4, Sem.run_bind, run_build W 92 _ _ hb, Result.andThen, Sem.run_pure]
theorem Below.below_size {B : Nat} {w w' : World} (h : Below B w w') : w.heap.size ≤ w'.heap.size := h.size

set_option maxHeartbeats 1600000 in
set_option maxRecDepth 100000 in
theorem rnew_walk (sx wx : Int) (w : World) : Calls Try.prog 17 #[.int .i64 sx, .int .i64 wx] w fun e w' => ∃ F p, e = .returned (.pointer (some ⟨p, 0, none⟩)) ∧ Ref F w' p (newR sx wx) ∧ (∀ k ∈ F, w.heap.size ≤ k) ∧ Below w.heap.size w w' := by
  have hw1 : Calls Try.prog 46 #[.int .i64 sx, .int .i64 4096] w fun e w'' => e = .returned (.int .i64 ((clampD sx 4096 : Nat) : Int)) ∧ w'' = w := by
    have := rwithin_walk sx 4096 w
    rw [show ((4096 : Nat) : Int) = 4096 by simp] at this
    exact this
  have HW2 : Hid (∀ w', Calls Try.prog 46 #[.int .i64 wx, .int .i64 100000] w' fun e w'' => e = .returned (.int .i64 ((clampD wx 100000 : Nat) : Int)) ∧ w'' = w') := hide (fun w' => by
    have := rwithin_walk wx 100000 w'
    rw [show ((100000 : Nat) : Int) = 100000 by simp] at this
    exact this)
  have HW1 := hide hw1
  clear hw1
  have hcn := clampD_le sx 4096
  have HCM := hide (clampD_le wx 100000)
  have HE : Hid (newR sx wx = newK (clampD sx 4096) (clampD wx 100000) (clampD sx 4096)) := hide (by simp [newR, newK, someBlank])
  rw [unhide HE]
  clear HE
  generalize clampD sx 4096 = n at *
  generalize clampD wx 100000 = m at *
  have HOK := hide (newK_ok (m := m) (k := 0) hcn (unhide HCM) (Nat.zero_le _))
  obtain ⟨r0, hr0⟩ : ∃ r0, r0 = newK n m 0 := ⟨_, rfl⟩
  have HLN : Hid (r0.kept.length = n) := hide (by rw [hr0]; exact someBlank_len (Nat.zero_le _))
  have HKE : Hid (r0.kept = List.replicate n zeroS ∧ r0.wear = List.replicate n 0 ∧ r0.most = m ∧ r0.limited = false ∧ r0.budget = 0 ∧ r0.down = false) := hide (by rw [hr0]; exact ⟨by simp [newK, someBlank], rfl, rfl, rfl, rfl, rfl⟩)
  have HR0 := hide hr0
  clear hr0
  go_enter Try.func17, Try.ntmps17
  go_wp2_with fail
  refine (unhide HW1).mono ?_
  rintro e w1 ⟨rfl, hw1⟩
  subst w1
  clear HW1
  go_wp2_with fail
  refine Flow.wp_region (fun j v s _ => v = rnewF r0 (fun j => match j with | 0 => .int .i64 (n : Int) | 1 => undef | 2 => .int .i64 (n : Int) | 3 => undef | 4 => .int .i64 wx | 5 => .int .i64 (m : Int) | 6 => undef | 7 => undef | 8 => undef | _ => undef) j s) (RNewC w r0) ⟨0, 0, 0⟩ (by kernel_rfl) (by kernel_rfl) ⟨(Below.refl _ w).drew, (fun e => by cases e), (fun e => by cases e), (fun e => by cases e)⟩ ⟨?_, ?_, ?_, ?_, ?_, ?_, ?_, ?_, ?_, trivial⟩ ?_
  · exact Flow.move (Flow.goes_plain rfl) (RNewC.upd (by decide) (by decide) (by decide)) (.inl rfl) fun a s w' hs hd => (hs 5 (by kernel_rfl))
  · refine Flow.value (Flow.goes_plain rfl) fun a L s w' hC hL hn hs hd => ?_
    obtain ⟨C, hr, hCC⟩ := op_make78 (ρ := a.eval) (hd 0 10 (by kernel_rfl)) (hd 0 10 (by kernel_rfl)) hcn w'
    refine ⟨_, { s with k := w'.heap.size }, _, hr _ rfl, rnewF_one _ hL (hn.after 6 (by kernel_rfl)), hC.one ((Below.refl _ _).alloc (Nat.le_refl _) _) (hn.after 7 (by kernel_rfl)) (Nat.le_refl _) ⟨C, 30, heap_alloc_new w' _, by rw [(unhide HKE).1]; exact hCC⟩, ?_⟩
    show _ = Value.slice _ r0.kept.length r0.kept.length
    rw [unhide HLN]
  · exact Flow.move (Flow.goes_plain rfl) (RNewC.upd (by decide) (by decide) (by decide)) (.inl rfl) fun a s w' hs hd => (hs 5 (by kernel_rfl))
  · refine Flow.value (Flow.goes_plain rfl) fun a L s w' hC hL hn hs hd => ?_
    obtain ⟨C, hr, hCC⟩ := op_make41 (ρ := a.eval) (hd 2 12 (by kernel_rfl)) (hd 2 12 (by kernel_rfl)) hcn w'
    refine ⟨_, { s with w := w'.heap.size }, _, hr _ rfl, rnewF_three _ hL (hn.after 6 (by kernel_rfl)), hC.three ((Below.refl _ _).alloc (Nat.le_refl _) _) (hn.after 7 (by kernel_rfl)) (Nat.le_refl _) ⟨C, 3, heap_alloc_new w' _, by rw [(unhide HKE).2.1]; exact hCC⟩, ?_⟩
    show _ = Value.slice _ r0.kept.length r0.kept.length
    rw [unhide HLN]
  · exact Flow.move (Flow.goes_plain rfl) (RNewC.upd (by decide) (by decide) (by decide)) (.inl rfl) fun a s w' hs hd => (hs 1 (by kernel_rfl))
  · refine Flow.call (Flow.goes_plain rfl) fun a L s w' hC hL hn hs hd => ⟨46, #[.int .i64 wx, .int .i64 100000], op_call46 (v0 := .int .i64 wx) (v1 := .int .i64 100000) rfl (hd 4 14 (by kernel_rfl)) rfl rfl w', (unhide HW2 w').mono ?_⟩
    rintro e w'' ⟨rfl, hw''⟩
    subst w''
    exact ⟨_, s, rfl, fun _ _ _ h => h, RNewC.upd (by decide) (by decide) (by decide) _ _ _ hC, rfl⟩
  · refine Flow.pure (Flow.goes_plain rfl) (RNewC.upd (by decide) (by decide) (by decide)) fun a L s w' hC hL hn hs hd => ?_
    refine ⟨_, op_build92 rfl (hd 1 11 (by kernel_rfl)) (hd 3 13 (by kernel_rfl)) (hd 5 15 (by kernel_rfl)) w', ?_⟩
    show _ = Value.agg (refV s.k s.w (.slice none 0 0) r0).toArray
    unfold refV
    rw [(unhide HKE).2.2.1, (unhide HKE).2.2.2.1, (unhide HKE).2.2.2.2.1, (unhide HKE).2.2.2.2.2]
  · refine Flow.value (Flow.goes_plain rfl) fun a L s w' hC hL hn hs hd => ?_
    exact ⟨_, { s with p := w'.heap.size }, _, op_box rfl (hd 6 16 (by kernel_rfl)) w', rnewF_four _ hL (hn.after 8 (by kernel_rfl)), hC.four ((Below.refl _ _).alloc (Nat.le_refl _) _) (hn.done 1 (by kernel_rfl)) (hn.done 3 (by kernel_rfl)) (Nat.le_refl _) ⟨_, 92, heap_alloc_new w' _, rfl⟩, rfl⟩
  · exact Flow.move (Flow.goes_plain rfl) (RNewC.upd (by decide) (by decide) (by decide)) (.inr rfl) fun a s w' hs hd => (hd 7 17 (by kernel_rfl))
  · intro L g w4 hC hL vals hv
    have e8 : vals 8 = .pointer (some ⟨g.p, 0, none⟩) := hv 8 _ 6 rfl rfl
    simp only [Free.putAll, Act.put, List.setIfInBounds_toArray, List.set_cons_succ, List.set_cons_zero, e8]
    clear hv e8
    generalize vals 0 = y0 at *
    generalize vals 1 = y1 at *
    generalize vals 2 = y2 at *
    generalize vals 3 = y3 at *
    generalize vals 4 = y4 at *
    generalize vals 5 = y5 at *
    generalize vals 6 = y6 at *
    generalize vals 7 = y7 at *
    rw [unhide HR0] at hC HLN
    have hk := hC.k (hL 1 (by decide))
    have hw := hC.w (hL 3 (by decide))
    have hp := hC.p (hL 7 (by decide))
    have n2 := hw.2.2 (hL 1 (by decide))
    have HRB : Hid (RefB g.k g.w (.slice none 0 0) w4 g.p (newK n m 0)) := hide ⟨unhide HOK, by show _ ≤ (0 : Int); decide, by simp [refF, Value.ownBlock, hp.2.2.1, hp.2.2.2, n2], hp.2.1, hk.2, hw.2.1, World.ownsRow_nil _ _ _ _⟩
    have HFL : Hid (∀ k ∈ refF g.p g.k g.w (.slice none 0 0), w.heap.size ≤ k) := hide (by
      intro k hk'
      simp only [refF, List.mem_cons, Value.ownBlock, Option.toList_none, List.not_mem_nil, or_false] at hk'
      rcases hk' with rfl | rfl | rfl
      · exact hp.1
      · exact hk.1
      · exact hw.1)
    have Hb4 := hide hC.below
    clear hk hw hp n2 hC hL
    obtain ⟨bk, bw, p⟩ := g
    have hc0 : w4.cell? ⟨p, 0, none⟩ = some (.slice (some ⟨bk, 0, none⟩) n n) := by
      have := (unhide HRB).dev.cell (i := 0) rfl
      rw [unhide HLN] at this
      exact this
    go_wp2
    go_loopw [23] (fun ci wr => ∃ k : Nat, k ≤ n ∧ ci = .int .i64 (k : Int) ∧ RefB bk bw (.slice none 0 0) wr p (newK n m k) ∧ Below w.heap.size w wr) (fun ci _ => n - (intOf ci).toNat)
    case atStart => exact ⟨0, by omega, rfl, unhide HRB, unhide Hb4⟩
    case round =>
      obtain ⟨k, hk, rfl, hB, hb⟩ := hrel
      clear HRB Hb4 hc0
      have HRB := hide hB
      have Hb := hide hb
      have HKL : Hid ((newK n m k).kept.length = n) := hide (someBlank_len hk)
      have hc0 : wr.cell? ⟨p, 0, none⟩ = some (.slice (some ⟨bk, 0, none⟩) n n) := by
        have := hB.dev.cell (i := 0) rfl
        rw [unhide HKL] at this
        exact this
      have hpl := hB.dev.lt
      clear hB hb
      by_cases hlt : k < n
      · obtain ⟨bs, hbs⟩ : ∃ bs : Sec, bs = blankS := ⟨_, rfl⟩
        have HBK : Hid (∀ w', Calls Try.prog 47 #[] w' fun e w'' => e = .returned (secV bs) ∧ Below w'.heap.size w' w'') := hide (fun w' => by rw [hbs]; exact rblank_walk w')
        have HBL : Hid (bs.length = 64) := hide (by rw [hbs]; exact blankS_len)
        have HBS := hide hbs
        clear hbs
        go_wp2_with fail
        refine Flow.wp_region (Flow.VV (fun j => match j with | 0 => .pointer (some ⟨p, 0, none⟩) | 1 => .pointer (some ⟨p, 0, none⟩) | 2 => .pointer (some ⟨p, 0, none⟩) | 3 => .slice (some ⟨bk, 0, none⟩) n n | 4 => .int .i64 (k : Int) | 5 => secV bs | 6 => .pointer (some ⟨bk, k * 64, none⟩) | 7 => undef | _ => undef)) (Flow.two 7 (fun _ w' => Below wr.heap.size wr w') (fun _ w' => ∃ w1, Below wr.heap.size wr w1 ∧ w' = w1.setCells bk (k * 64) (bytesV bs))) () (by kernel_rfl) (by kernel_rfl) (by unfold Flow.two; simp; exact (Below.refl _ wr).drew) ⟨?_, ?_, ?_, ?_, ?_, ?_, ?_, ?_, trivial⟩ ?_
        · exact Flow.move (Flow.goes_plain rfl) (Flow.two.upd (by decide)) (.inl rfl) fun a s w' hs hd => (hs 6 (by kernel_rfl))
        · refine Flow.pure (Flow.goes_plain rfl) (Flow.two.upd (by decide)) fun a L s w' hC hL hn hs hd => ?_
          skip
          exact ⟨_, op_nil rfl (hd 0 26 (by kernel_rfl)) w', rfl⟩
        · refine Flow.pure (Flow.goes_plain rfl) (Flow.two.upd (by decide)) fun a L s w' hC hL hn hs hd => ?_
          skip
          exact ⟨_, op_f92_0 rfl (hd 1 27 (by kernel_rfl)) w', rfl⟩
        · refine Flow.pure (Flow.goes_plain rfl) (Flow.two.upd (by decide)) fun a L s w' hC hL hn hs hd => ?_
          have hA := hC.pre (hn.after 7 (by kernel_rfl))
          exact ⟨_, op_load78 rfl (hd 2 28 (by kernel_rfl)) ((hA.cell (p := ⟨p, 0, none⟩) hpl).trans hc0), rfl⟩
        · exact Flow.move (Flow.goes_plain rfl) (Flow.two.upd (by decide)) (.inl rfl) fun a s w' hs hd => (hs 7 (by kernel_rfl))
        · refine Flow.call (Flow.goes_plain rfl) fun a L s0 w' hC hL hn hs hd => ⟨47, #[], op_call47 rfl rfl w', (unhide HBK w').mono ?_⟩
          rintro e w'' ⟨rfl, hb⟩
          have hA := hC.pre (hn.after 7 (by kernel_rfl))
          exact ⟨_, (), rfl, fun _ _ _ h => h, Flow.two.put (by decide) (hn.after 7 (by kernel_rfl)) (hA.trans (hb.mono hA.size)), rfl⟩
        · refine Flow.pure (Flow.goes_plain rfl) (Flow.two.upd (by decide)) fun a L s w' hC hL hn hs hd => ?_
          have hA := hC.pre (hn.after 7 (by kernel_rfl))
          exact ⟨_, op_idx78 rfl (hd 3 29 (by kernel_rfl)) (hd 4 30 (by kernel_rfl)) hlt w', rfl⟩
        · refine Flow.store (Flow.goes_plain rfl) fun a L s0 w' hC hL hn hs hd => ?_
          have hA := hC.pre hL
          have hth : w'.there bk (k * 64) 64 := ((unhide HRB).kept.below hA).secThere (unhide HRB).ok.keptS (by rw [unhide HKL]; exact hlt)
          exact ⟨(), _, op_store30 rfl (hd 6 32 (by kernel_rfl)) (hd 5 31 (by kernel_rfl)) hth (unhide HBL), fun _ _ _ h => h, Flow.two.post ⟨w', hA, rfl⟩, rfl⟩
        · intro L _ w5 hC hL vals hv
          obtain ⟨w6, hb6, hA⟩ := hC.end (hL 7 (by decide))
          have hset := ((unhide HRB).same (w' := w6) fun k hk => hb6.block k ((unhide HRB).lt k hk)).keptSet (k := k) (s := bs) (by rw [unhide HKL]; exact hlt) (unhide HBL)
          have HRB5 : Hid (RefB bk bw (.slice none 0 0) w5 p (newK n m (k + 1))) := hide (by
            rw [hA]
            have e : newK n m (k + 1) = { newK n m k with kept := (newK n m k).kept.set k bs } := by
              rw [unhide HBS]
              show newK n m (k + 1) = { newK n m k with kept := (someBlank n k).set k blankS }
              rw [someBlank_step hlt]
              rfl
            rw [e]
            exact hset)
          have Hb5 : Hid (Below w.heap.size w w5) := hide (by
            rw [hA]
            exact ((unhide Hb).trans (hb6.mono (unhide Hb).size)).grown (setCells_grown _ _ _ _) (Nat.le_trans (unhide Hb).size hb6.size) (fun j hj => by cases hj; exact unhide HFL _ (by simp [refF])))
          simp only [Free.putAll, Act.put, List.setIfInBounds_toArray, List.set_cons_succ, List.set_cons_zero]
          clear hA hC hL hv hset hb6 hc0 HRB Hb hpl
          generalize vals 0 = z0 at *
          generalize vals 1 = z1 at *
          generalize vals 2 = z2 at *
          generalize vals 3 = z3 at *
          generalize vals 4 = z4 at *
          generalize vals 5 = z5 at *
          generalize vals 6 = z6 at *
          go_wp2_with fail
          go_roundw
          case rel => exact ⟨k + 1, by omega, by go_num, unhide HRB5, unhide Hb5⟩
          case measure => simp [intOf]; omega
      · have hkn : k = n := by omega
        subst k
        go_wp2_with fail
        go_ret
        exact ⟨_, p, rfl, ⟨bk, bw, .slice none 0 0, rfl, unhide HRB⟩, unhide HFL, unhide Hb⟩

theorem secsV_byte : ∀ {ss : List Sec}, (∀ s ∈ ss, s.length = 64) → ∀ (i j : Nat) (c : UInt8), i < ss.length → j < 64 →
    (secsV ss).set (i * 64 + j) (.int .u8 ((c.toNat : Nat) : Int)) = secsV (ss.set i ((ss.getD i []).set j c))
  | [], _, i, _, _, hi, _ => by simp at hi
  | x :: ss, h, 0, j, c, _, hj => by
    have h64 : (bytesV x).length = 64 := by rw [bytesV_length]; exact h x (by simp)
    rw [List.set_cons_zero, secsV, secsV, Nat.zero_mul, Nat.zero_add, List.set_append_left _ _ (by omega), bytesV_set]
    simp
  | x :: ss, h, i + 1, j, c, hi, hj => by
    have h64 : (bytesV x).length = 64 := by rw [bytesV_length]; exact h x (by simp)
    have ih := secsV_byte (ss := ss) (fun y hy => h y (by simp [hy])) i j c (by simpa using hi) hj
    rw [List.set_cons_succ, secsV, secsV, List.set_append_right _ _ (by omega), h64, show (i + 1) * 64 + j - 64 = i * 64 + j by omega, ih]
    simp
theorem RefB.byteSet {bk bw : Nat} {wv : Value} {w : World} {p : Nat} {r : RM} (h : RefB bk bw wv w p r) {k j : Nat} (hk : k < r.kept.length) (hj : j < 64) (c : UInt8) : RefB bk bw wv (w.setCell ⟨bk, k * 64 + j, none⟩ (.int .u8 ((c.toNat : Nat) : Int))) p { r with kept := r.kept.set k ((r.kept.getD k []).set j c) } := by
  obtain ⟨n1, n2, n3, n7, n8, n9, _⟩ := nodupR h.nodup
  have e : refV bk bw wv { r with kept := r.kept.set k ((r.kept.getD k []).set j c) } = refV bk bw wv r := by simp [refV]
  have el : (r.kept.set k ((r.kept.getD k []).set j c)).length = r.kept.length := List.length_set
  refine { ok := { h.ok with wear := h.ok.wear.trans el.symm, keptS := set_mem h.ok.keptS _ _ (by rw [List.length_set]; exact getD_mem64 h.ok.keptS hk), doneS := ?_, few := by show (r.kept.set k ((r.kept.getD k []).set j c)).length ≤ _; rw [el]; exact h.ok.few }, low := h.low, nodup := h.nodup, dev := by rw [e]; exact h.dev.other _ _ n1, kept := ?_, wear := h.wear.other _ _ n3.symm, done := owns_same h.done fun j hj => Below.heap_setCell _ _ _ _ (n8 j hj).symm }
  · intro x hx
    have := h.ok.doneS x hx
    show x.1 < (r.kept.set k ((r.kept.getD k []).set j c)).length ∧ _
    rw [el]; exact this
  · have := h.kept.set (k * 64 + j) (.int .u8 ((c.toNat : Nat) : Int))
    rw [secsV_byte h.ok.keptS k j c hk hj] at this
    exact this
theorem over_zero (a b : Sec) : over 0 a b = b := by simp [over]
theorem over_step {a b : Sec} (ha : a.length = 64) (hb : b.length = 64) {i : Nat} (hi : i < 64) : (over i a b).set i (a.getD i 0) = over (i + 1) a b := by
  unfold over
  rw [List.set_append_right _ _ (by simp; omega), List.take_succ_eq_append_getElem (by omega), List.getD_eq_getElem?_getD, List.getElem?_eq_getElem (by omega), List.length_take]
  rw [show i - min i a.length = 0 by omega, List.drop_eq_getElem_cons (show i < b.length by omega), List.set_cons_zero, List.append_assoc]
  rfl
theorem set_getD_self (K : List Sec) {i : Nat} (hi : i < K.length) : K.set i (K.getD i []) = K := by
  rw [List.getD_eq_getElem?_getD, List.getElem?_eq_getElem hi]
  simp
theorem set_set (K : List Sec) (i : Nat) (a b : Sec) : (K.set i a).set i b = K.set i b := by simp
theorem getD_set (K : List Sec) {i : Nat} (hi : i < K.length) (a : Sec) : (K.set i a).getD i [] = a := by
  rw [List.getD_eq_getElem?_getD, List.getElem?_set_self hi]; rfl
theorem layKept_take : ∀ (l : List (Nat × Sec)) (bs : List UInt8) (k : List Sec) (j : Nat), j < l.length →
    layKept k (l.take (j + 1)) bs = if j < bs.length then layOne (layKept k (l.take j) bs) (l.getD j (0, [])) (bs.getD j 0) else layKept k (l.take j) bs
  | [], _, _, j, h => by simp at h
  | x :: l, [], k, j, h => by cases j <;> simp [layKept]
  | x :: l, b :: bs, k, 0, h => by simp [layKept]
  | x :: l, b :: bs, k, j + 1, h => by
    rw [List.take_succ_cons, layKept, layKept_take l bs _ j (by simpa using h), List.take_succ_cons, layKept]
    simp
/-- How many bytes of it are laid. -/
def cnt (bs : List UInt8) (j : Nat) : Nat := if j < bs.length then (bs.getD j 0).toNat else 0

set_option maxHeartbeats 3200000 in
set_option maxRecDepth 100000 in
theorem rrestart_walk {F : List Nat} {w : World} {p : Nat} {r : RM} {N : Nat} (h : Ref F w p r) (hF : ∀ k ∈ F, N ≤ k) (hN : N ≤ w.heap.size) (a : Option Addr) (len cap : Nat) (bs : List UInt8) (hR : RowV N w (.slice a len cap) bs) (hlen : r.done.length ≤ 1000000) :
    Calls Try.prog 27 #[.pointer (some ⟨p, 0, none⟩), .slice a len cap] w fun e w' => e = .returned (.tuple #[]) ∧ ∃ F', Ref F' w' p (restartR r bs) ∧ Turns F F' w w' := by
  obtain ⟨bk, bw, wv, hF0, hB⟩ := h
  subst hF0
  obtain ⟨ad, cap2, rfl, hcap, _⟩ := owns_slice hB.done
  obtain ⟨_, _, _, e0, hlc, hcm, hcn, hrow⟩ := hR
  cases e0
  have hc3 := hB.dev.cell (i := 3) rfl
  have HDB := hide hB
  have HROW := hide hrow
  have HF := hide hF
  have hbl := hrow.1
  have HBL := hide hbl
  have hlm : len ≤ 140737488351232 := hrow.2.1
  clear hB hrow hF hbl
  go_enter Try.func27, Try.ntmps27
  go_wp2
  go_loopw [12] (fun ci wr => ∃ j : Nat, j ≤ r.done.length ∧ ci = .int .i64 (j : Int) ∧ RefB bk bw (.slice ad r.done.length cap2) wr p { r with kept := layKept r.kept (r.done.take j) bs } ∧ But (refF p bk bw (.slice ad r.done.length cap2)) w wr) (fun ci _ => r.done.length - (intOf ci).toNat)
  case atStart => exact ⟨0, by omega, rfl, by simpa [layKept] using unhide HDB, But.refl _ _⟩
  case round =>
    obtain ⟨j, hj, rfl, hB, hbu⟩ := hrel
    clear HDB hc3
    have HBU := hide hbu
    clear hbu
    by_cases hlt : j < r.done.length
    · have hmem := getD_mem_done hlt
      have hx := hB.ok.doneS _ hmem
      obtain ⟨g, cap', hv, hrg⟩ := owns_range hB.done (fun x hx => (hB.ok.doneS x hx).2) hlt
      have HLT := hide (layKept_take r.done bs r.kept j hlt)
      have HXI : Hid (∀ wx, But (refF p bk bw (.slice ad r.done.length cap2)) w wx → j < len → ∃ b off, a = some ⟨b, off, none⟩ ∧ wx.cell? ⟨b, off + j, none⟩ = some (.int .u8 (((bs.getD j 0).toNat : Nat) : Int))) := hide (fun wx hbx hjl => by
        obtain ⟨b, off, e1, _, e2⟩ := ((unhide HROW).below (hbx.below (unhide HF) hN)).2.2 j hjl
        exact ⟨b, off, e1, e2⟩)
      obtain ⟨x, hxe⟩ : ∃ x, x = r.done.getD j (0, []) := ⟨_, rfl⟩
      rw [← hxe] at hx hrg HLT
      clear hxe hmem
      obtain ⟨xn, xs⟩ := x
      obtain ⟨hxn, hxs⟩ := hx
      have ev : ad = some ⟨g, 0, none⟩ := by
        simp only [Value.slice.injEq] at hv
        exact hv.1
      subst ev
      have HRG : Hid (wr.rangeAt g (j * 65) (doneV (xn, xs))) := hide hrg
      have HXS : Hid (xs.length = 64) := hide hxs
      have HDB := hide hB
      have HWS := (unhide HBU).size
      obtain ⟨K, hK⟩ : ∃ K, K = layKept r.kept (r.done.take j) bs := ⟨_, rfl⟩
      have HXN : Hid (xn < K.length) := hide (by rw [hK]; exact hxn)
      rw [← hK] at HDB HLT
      have HO64 : Hid ((K.getD xn []).length = 64) := hide (getD_mem64 (unhide HDB).ok.keptS (unhide HXN))
      have HNEXT : Hid (layKept r.kept (r.done.take (j + 1)) bs = K.set xn (over (min 64 (cnt bs j)) xs (K.getD xn []))) := hide (by
        rw [unhide HLT]
        unfold cnt
        split
        · unfold layOne
          rw [Nat.min_comm]
        · rw [Nat.min_zero, over_zero, set_getD_self K (unhide HXN)])
      clear hv hrg hxn hxs hB HLT hK
      generalize hnn : r.done.length = n at *
      have HNN := hide hnn
      clear hnn
      go_wp2_with (first
        | refine wpList_load_mid rfl 99 _ rfl g (j * 65) rfl (doneV (xn, xs)) _ (unhide HRG) Try.underlying99 rfl (info99 (x := (xn, xs)) (unhide HXS)) ?_
        | refine wpList_alloc 99 99 (doneV (0, zeroS)) rfl rfl alloc99 ?_)
      intro w3 hA3 hb3 hs3
      have HA3 := hide hA3
      have hbl := (unhide HDB).lt
      have HDB3 := hide ((unhide HDB).same (w' := w3) fun k hk => hb3.block k (hbl k hk))
      have HBU3 := hide ((unhide HBU).trans (But.of_below (F := []) hb3) (fun k hk => by cases hk))
      have HQ : Hid (∀ k ∈ refF p bk bw (.slice (some ⟨g, 0, none⟩) n cap2), k ≠ wr.heap.size) := hide (fun k hk e => by have := hbl k hk; omega)
      have HWQ : Hid (w.heap.size ≤ wr.heap.size) := hide HWS
      clear hA3 hb3 hbl HDB HBU HRG HWS
      generalize wr.heap.size = q at *
      go_wp2_with (refine wpList_storeAll 99 _ _ q (doneV (xn, xs)) (doneV (0, zeroS)) rfl rfl rfl rfl (unhide HA3) (by rw [doneV_length (x := (xn, xs)) (unhide HXS)]; rfl) (info99 (x := (xn, xs)) (unhide HXS)) (doneV_one _) ?_)
      intro w4 hA4 hg4 hs4
      have HA4 := hide hA4
      have HDB4 := hide ((unhide HDB3).same (w' := w4) fun k hk => hg4.block k ((unhide HDB3).lt k hk) (by simpa using unhide HQ k hk))
      have HBU4 : Hid (But (refF p bk bw (.slice (some ⟨g, 0, none⟩) n cap2)) w w4) := hide ⟨hg4.os.trans (unhide HBU3).os, hg4.tape.trans (unhide HBU3).tape, hg4.output.trans (unhide HBU3).output, Nat.le_trans (unhide HBU3).size hg4.size, fun k hk hn => by
        rw [hg4.block k (Nat.lt_of_lt_of_le hk (unhide HBU3).size) (by simp; intro e; have := (unhide HWQ); omega), (unhide HBU3).block k hk hn]⟩
      have HQB : Hid (q ≠ bk) := hide (fun e => unhide HQ bk (by simp [refF]) e.symm)
      clear hA4 hg4 HA3 HDB3 HBU3
      have hcl : Hid (len = bs.length) := hide (unhide HBL).symm
      go_wp2
      go_loopw [17] (fun ci wr => ∃ i : Nat, i ≤ 64 ∧ ci = .int .i64 (i : Int) ∧ RefB bk bw (.slice (some ⟨g, 0, none⟩) n cap2) wr p { r with kept := K.set xn (over (min i (cnt bs j)) xs (K.getD xn [])) } ∧ But (refF p bk bw (.slice (some ⟨g, 0, none⟩) n cap2)) w wr ∧ Arr wr q (doneV (xn, xs))) (fun ci _ => 64 - (intOf ci).toNat)
      case atStart =>
        refine ⟨0, by omega, rfl, ?_, unhide HBU4, unhide HA4⟩
        rw [Nat.zero_min, over_zero, set_getD_self K (unhide HXN)]
        exact unhide HDB4
      case round =>
        obtain ⟨i, hi, rfl, hB, hbu, hAi⟩ := hrel
        clear HDB4 HBU4 HA4
        have HDB := hide hB
        have HBU := hide hbu
        have HAI := hide hAi
        clear hB hbu hAi
        by_cases hilt : i < 64
        · by_cases hjl : j < len
          · obtain ⟨ba, boff, rfl, hcb⟩ := unhide HXI wr (unhide HBU) hjl
            have hcnt : cnt bs j = (bs.getD j 0).toNat := by unfold cnt; rw [if_pos (by rw [← unhide hcl]; exact hjl)]
            have hb256 : (bs.getD j 0).toNat < 256 := (bs.getD j 0).toNat_lt
            rw [hcnt] at HDB
            have HCNT := hide hcnt
            clear hcnt
            generalize hcc : (bs.getD j 0).toNat = c at *
            clear hcc
            by_cases hic : i < c
            · go_wp2_with fail
              have hc0 : wr.cell? ⟨p, 0, none⟩ = some (.slice (some ⟨bk, 0, none⟩) K.length K.length) := by
                have := (unhide HDB).dev.cell (i := 0) rfl
                simpa using this
              have hcx := (unhide HAI).cell (i := 0) rfl
              have hcy : wr.cell? ⟨q, 1 + i, none⟩ = some (.int .u8 (((xs.getD i 0).toNat : Nat) : Int)) := (unhide HAI).doneSec i _ (bytesV_get xs (by rw [unhide HXS]; exact hilt))
              have hmn : min i c = i := by omega
              rw [hmn] at HDB
              have hkl : (K.set xn (over i xs (K.getD xn []))).length = K.length := List.length_set
              have hcs := (unhide HDB).kept.cell (i := xn * 64 + i) (List.getElem?_eq_getElem (by
                have h1 := unhide HXN
                rw [secsV_length (unhide HDB).ok.keptS, hkl]
                omega))
              have hfs := (unhide HDB).kept.free (xn * 64 + i)
              have HBY := hide ((unhide HDB).byteSet (k := xn) (j := i) (by show xn < (K.set xn _).length; rw [hkl]; exact unhide HXN) hilt (xs.getD i 0))
              refine Flow.wp_region (Flow.VV (fun j => match j with | 0 => .pointer (some ⟨p, 0, none⟩) | 1 => .pointer (some ⟨p, 0, none⟩) | 2 => .pointer (some ⟨p, 0, none⟩) | 3 => .slice (some ⟨bk, 0, none⟩) K.length K.length | 4 => .pointer (some ⟨q, 0, none⟩) | 5 => .int .i64 (xn : Int) | 6 => .int .i64 (i : Int) | 7 => .int .i64 (i : Int) | 8 => .pointer (some ⟨q, 1, none⟩) | 9 => .pointer (some ⟨q, 1 + i, none⟩) | 10 => .int .u8 (((xs.getD i 0).toNat : Nat) : Int) | 11 => .pointer (some ⟨bk, xn * 64, none⟩) | 12 => .pointer (some ⟨bk, xn * 64 + i, none⟩) | 13 => undef | _ => undef)) (Flow.two 13 (fun _ w' => w' = wr.drew) (fun _ w' => w' = wr.drew.setCell ⟨bk, xn * 64 + i, none⟩ (.int .u8 (((xs.getD i 0).toNat : Nat) : Int)))) () (by kernel_rfl) (by kernel_rfl) (by unfold Flow.two; simp) ⟨?_, ?_, ?_, ?_, ?_, ?_, ?_, ?_, ?_, ?_, ?_, ?_, ?_, ?_, trivial⟩ ?_
              · exact Flow.move (Flow.goes_plain rfl) (Flow.two.upd (by decide)) (.inl rfl) fun a s w' hs hd => (hs 0 (by kernel_rfl))
              · refine Flow.pure (Flow.goes_plain rfl) (Flow.two.upd (by decide)) fun a L s w' hC hL hn hs hd => ?_
                skip
                exact ⟨_, op_nil rfl (hd 0 33 (by kernel_rfl)) w', rfl⟩
              · refine Flow.pure (Flow.goes_plain rfl) (Flow.two.upd (by decide)) fun a L s w' hC hL hn hs hd => ?_
                skip
                exact ⟨_, op_f92_0 rfl (hd 1 34 (by kernel_rfl)) w', rfl⟩
              · refine Flow.pure (Flow.goes_plain rfl) (Flow.two.upd (by decide)) fun a L s w' hC hL hn hs hd => ?_
                have hA := hC.pre (hn.after 13 (by kernel_rfl))
                exact ⟨_, op_load78 rfl (hd 2 35 (by kernel_rfl)) (by rw [hA]; exact hc0), rfl⟩
              · refine Flow.pure (Flow.goes_plain rfl) (Flow.two.upd (by decide)) fun a L s w' hC hL hn hs hd => ?_
                skip
                exact ⟨_, op_f99_0 rfl (hs 5 (by kernel_rfl)) w', rfl⟩
              · refine Flow.pure (Flow.goes_plain rfl) (Flow.two.upd (by decide)) fun a L s w' hC hL hn hs hd => ?_
                have hA := hC.pre (hn.after 13 (by kernel_rfl))
                exact ⟨_, op_load3 rfl (hd 4 37 (by kernel_rfl)) (by rw [hA]; exact hcx), rfl⟩
              · exact Flow.move (Flow.goes_plain rfl) (Flow.two.upd (by decide)) (.inl rfl) fun a s w' hs hd => (hs 6 (by kernel_rfl))
              · exact Flow.move (Flow.goes_plain rfl) (Flow.two.upd (by decide)) (.inl rfl) fun a s w' hs hd => (hs 6 (by kernel_rfl))
              · refine Flow.pure (Flow.goes_plain rfl) (Flow.two.upd (by decide)) fun a L s w' hC hL hn hs hd => ?_
                skip
                exact ⟨_, op_f99_1 rfl (hs 5 (by kernel_rfl)) w', rfl⟩
              · refine Flow.pure (Flow.goes_plain rfl) (Flow.two.upd (by decide)) fun a L s w' hC hL hn hs hd => ?_
                have hA := hC.pre (hn.after 13 (by kernel_rfl))
                exact ⟨_, op_idx30 rfl (hd 8 41 (by kernel_rfl)) (hd 7 40 (by kernel_rfl)) hilt w', rfl⟩
              · refine Flow.pure (Flow.goes_plain rfl) (Flow.two.upd (by decide)) fun a L s w' hC hL hn hs hd => ?_
                have hA := hC.pre (hn.after 13 (by kernel_rfl))
                exact ⟨_, op_load5 rfl (hd 9 42 (by kernel_rfl)) (by rw [hA]; exact hcy), rfl⟩
              · refine Flow.pure (Flow.goes_plain rfl) (Flow.two.upd (by decide)) fun a L s w' hC hL hn hs hd => ?_
                have hA := hC.pre (hn.after 13 (by kernel_rfl))
                exact ⟨_, op_idx78 rfl (hd 3 36 (by kernel_rfl)) (hd 5 38 (by kernel_rfl)) (unhide HXN) w', rfl⟩
              · refine Flow.pure (Flow.goes_plain rfl) (Flow.two.upd (by decide)) fun a L s w' hC hL hn hs hd => ?_
                have hA := hC.pre (hn.after 13 (by kernel_rfl))
                exact ⟨_, op_idx30 rfl (hd 11 44 (by kernel_rfl)) (hd 6 39 (by kernel_rfl)) hilt w', rfl⟩
              · refine Flow.store (Flow.goes_plain rfl) fun a L s0 w' hC hL hn hs hd => ?_
                have hA := hC.pre hL
                exact ⟨(), _, op_store5 rfl (hd 12 45 (by kernel_rfl)) (hd 10 43 (by kernel_rfl)) (by rw [hA]; exact hcs) (by rw [hA]; exact hfs), fun _ _ _ h => h, Flow.two.post (by rw [hA]), rfl⟩
              · intro L _ w5 hC hL vals hv
                have hA := hC.end (hL 13 (by decide))
                have HDB5 : Hid (RefB bk bw (.slice (some ⟨g, 0, none⟩) n cap2) w5 p { r with kept := K.set xn (over (i + 1) xs (K.getD xn [])) }) := hide (by
                  rw [hA]
                  have h1 := ((unhide HDB).same (w' := wr.drew) (fun _ _ => rfl)).byteSet (k := xn) (j := i) (by show xn < (K.set xn _).length; rw [hkl]; exact unhide HXN) hilt (xs.getD i 0)
                  have e2 : (K.set xn (over i xs (K.getD xn []))).set xn (((K.set xn (over i xs (K.getD xn []))).getD xn []).set i (xs.getD i 0)) = K.set xn (over (i + 1) xs (K.getD xn [])) := by
                    rw [set_set, getD_set K (unhide HXN), over_step (unhide HXS) (unhide HO64) hilt]
                  have h2 : RefB bk bw (.slice (some ⟨g, 0, none⟩) n cap2) (wr.drew.setCell ⟨bk, xn * 64 + i, none⟩ (.int .u8 (((xs.getD i 0).toNat : Nat) : Int))) p { r with kept := (K.set xn (over i xs (K.getD xn []))).set xn (((K.set xn (over i xs (K.getD xn []))).getD xn []).set i (xs.getD i 0)) } := h1
                  rw [e2] at h2
                  exact h2)
                have HBU5 : Hid (But (refF p bk bw (.slice (some ⟨g, 0, none⟩) n cap2)) w w5) := hide (by
                  rw [hA]
                  exact (unhide HBU).trans (But.of_grown (b := bk) (set_grown wr.drew _ _ _) (by simp [refF])).undrew (fun _ h => .inl h))
                have HA5 : Hid (Arr w5 q (doneV (xn, xs))) := hide (by rw [hA]; exact (unhide HAI).other (w := wr.drew) _ _ (unhide HQB))
                simp only [Free.putAll, Act.put, List.setIfInBounds_toArray, List.set_cons_succ, List.set_cons_zero]
                clear hA hC hL hv hc0 hcx hcy hcs hfs HBY HDB HBU HAI hmn hkl hcb
                generalize vals 0 = z0 at *
                generalize vals 1 = z1 at *
                generalize vals 2 = z2 at *
                generalize vals 3 = z3 at *
                generalize vals 4 = z4 at *
                generalize vals 5 = z5 at *
                generalize vals 6 = z6 at *
                generalize vals 7 = z7 at *
                generalize vals 8 = z8 at *
                generalize vals 9 = z9 at *
                generalize vals 10 = z10 at *
                generalize vals 11 = z11 at *
                generalize vals 12 = z12 at *
                go_wp2_with fail
                go_roundw
                case rel =>
                  refine ⟨i + 1, by omega, by go_num, ?_, unhide HBU5, unhide HA5⟩
                  rw [unhide HCNT, show min (i + 1) c = i + 1 by omega]
                  exact unhide HDB5
                case measure => simp [intOf]; omega
            · go_wp2_with fail
              go_roundw
              case rel =>
                refine ⟨i + 1, by omega, by go_num, ?_, unhide HBU, unhide HAI⟩
                rw [unhide HCNT, show min (i + 1) c = c by omega]
                have := unhide HDB
                rw [show min i c = c by omega] at this
                exact this
              case measure => simp [intOf]; omega
          · have hcnt : cnt bs j = 0 := by unfold cnt; rw [if_neg (by rw [← unhide hcl]; exact hjl)]
            rw [hcnt, Nat.min_zero] at HDB
            have HCNT := hide hcnt
            clear hcnt
            go_wp2_with fail
            go_roundw
            case rel =>
              refine ⟨i + 1, by omega, by go_num, ?_, unhide HBU, unhide HAI⟩
              rw [unhide HCNT, Nat.min_zero]
              exact unhide HDB
            case measure => simp [intOf]; omega
        · have hie : i = 64 := by omega
          subst i
          go_wp2_with fail
          go_roundw
          case rel =>
            refine ⟨j + 1, by omega, by go_num, ?_, unhide HBU⟩
            rw [unhide HNEXT]
            exact unhide HDB
          case measure => simp [intOf]; omega
    · have hje : j = r.done.length := by omega
      subst j
      rw [List.take_length] at hB
      have E : Hid (restartR r bs = { r with kept := layKept r.kept r.done bs, done := [], limited := false, down := false }) := hide rfl
      obtain ⟨K, hK⟩ : ∃ K, K = layKept r.kept r.done bs := ⟨_, rfl⟩
      rw [← hK] at hB E
      clear hK
      have hA0 := hB.dev
      have hc3 := hA0.cell (i := 3) rfl
      have hf3 := hA0.free 3
      have hA1 := hA0.set 3 (.slice none 0 0)
      have hc4 := hA1.cell (i := 4) rfl
      have hf4 := hA1.free 4
      have hA2 := hA1.set 4 (.bool false)
      have hc6 := hA2.cell (i := 6) rfl
      have hf6 := hA2.free 6
      have hN1 := hB.noDone
      have HN2 := hide ((hN1.1.field 4 (.bool false) (r' := { r with kept := K, done := [], limited := false }) rfl rfl rfl rfl (by
        have := hN1.1.ok
        exact { this with low := (fun e => by cases e) }) hN1.1.low).field 6 (.bool false) (r' := { r with kept := K, done := [], limited := false, down := false }) rfl rfl rfl rfl (by
        have := hN1.1.ok
        exact { this with low := (fun e => by cases e) }) hN1.1.low)
      have HT2 := hide hN1.2
      clear hA0 hA1 hA2 hN1 hB
      go_wp2_with fail
      refine ⟨rfl, .tuple #[], by simp [results, Try.results27], ?_⟩
      refine ⟨rfl, _, ⟨bk, bw, _, rfl, by rw [unhide E]; exact unhide HN2⟩, ?_⟩
      have t1 : Turns (refF p bk bw (.slice ad r.done.length cap2)) (refF p bk bw (.slice none 0 0)) w (wr.setCell ⟨p, 3, none⟩ (.slice none 0 0)) := Turns.trans ⟨unhide HBU, fun _ h => .inl h⟩ (unhide HT2)
      have hp : p ∈ refF p bk bw (.slice none 0 0) := by simp [refF]
      exact (t1.trans ⟨But.of_grown (set_grown _ _ _ _) hp, fun _ h => .inl h⟩).trans ⟨But.of_grown (set_grown _ _ _ _) hp, fun _ h => .inl h⟩
end Go.Proofs.Ytlgknllcnkainaa
