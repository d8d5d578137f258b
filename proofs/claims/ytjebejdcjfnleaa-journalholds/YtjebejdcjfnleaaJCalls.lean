/-
  The calls of a journal that turn its device: wipe, write, wrote.
-/
import Derived.Test.YtjebejdcjfnleaaJour
namespace Go.Proofs.Ytjebejdcjfnleaa
open Go.RowKit

theorem wipeG_sz {δ : Type} (rd : δ → Int → Sec × Int) (er : δ → Int → Int × δ) (part : Int) : ∀ (n a : Nat) (d : δ) (x : MX), (wipeG rd er d x part a n).2.2.sz = x.sz
  | 0, _, _, _ => rfl
  | n + 1, a, d, x => by
    rw [wipeG]
    split
    · exact wipeG_sz rd er part n _ d x
    · split
      · exact opG_sz _ _ _ _ _ _
      · rw [wipeG_sz rd er part n]; exact opG_sz _ _ _ _ _ _
theorem wipeG_wait (part : Int) : ∀ (n a : Nat) (d : DM) (x : MX), (wipeG readD eraseD d x part a n).2.1.wait.length ≤ d.wait.length + n ∧ (wipeG readD eraseD d x part a n).2.2.ops.length ≤ x.ops.length + n
  | 0, _, _, _ => ⟨Nat.le_refl _, Nat.le_refl _⟩
  | n + 1, a, d, x => by
    rw [wipeG]
    split
    · have := wipeG_wait part n (a + 1) d x
      omega
    · have h1 := opG_wait 1 erase_wait d x part (a : Int)
      have h2 := opG_ops 1 eraseD d x part (a : Int)
      split
      · omega
      · have := wipeG_wait part n (a + 1) (opG 1 eraseD d x part (a : Int)).2.1 (opG 1 eraseD d x part (a : Int)).2.2
        omega
theorem wipeM_sz (d : DM) (x : MX) (part : Int) : (wipeM d x part).2.2.sz = x.sz := by
  unfold wipeM wipeAll
  split
  · rfl
  · exact wipeG_sz _ _ _ _ _ _ _
theorem wipeM_few {d : DM} {x : MX} (h : x.sz.sum ≤ 4096) (part : Int) : (wipeM d x part).2.1.wait.length ≤ d.wait.length + 4096 ∧ (wipeM d x part).2.2.ops.length ≤ x.ops.length + 4096 := by
  have h1 := sizeX_le x.sz part
  unfold wipeM wipeAll
  split
  · exact ⟨Nat.le_add_right _ _, Nat.le_add_right _ _⟩
  · have := wipeG_wait part (sizeX x.sz part) 0 d x
    omega
theorem programM_sz (s : Sec) (d : DM) (x : MX) (i k : Int) : (programM s d x i k).2.2.sz = x.sz := opG_sz _ _ _ _ _ _

section
variable {F D G : List Nat} {w w' : World} {q m p : Nat} {d : DM} {x : MX} {j : JX}
theorem Jour.sync {D' : List Nat} {d' : DM} (h : Jour F D w q m p d x j) (ht : Turns (F ++ D) (F ++ D') w w') (hm : PMap F D' w' m p d' x) : Jour F D' w' q m p d' x j ∧ Turns (q :: (F ++ D)) (q :: (F ++ D')) w w' := h.turn ht hm rfl
set_option maxHeartbeats 1600000 in
set_option maxRecDepth 100000 in
theorem wipeJ_walk (h : Jour F D w q m p d x j) (i : Nat) (hi : i ≤ 1) (hlen : d.wait.length ≤ 800000) (hop : x.ops.length ≤ 800000) : Calls Try.prog 28 #[.pointer (some ⟨q, 0, none⟩), .int .i64 (i : Int)] w fun e w' =>
    e = .returned (.int .i64 (wipeJ d x (j.bk i)).1) ∧ ∃ F' D', Jour F' D' w' q m p (wipeJ d x (j.bk i)).2.1 (wipeJ d x (j.bk i)).2.2 j ∧ Turns (q :: (F ++ D)) (q :: (F' ++ D')) w w' := by
  have HH := hide h
  have HW : ∀ w', Below w.heap.size w w' → Hid (Calls Try.prog 41 #[.pointer (some ⟨m, 0, none⟩), .int .i64 (j.bk i : Int)] w' fun e w2 => e = .returned (.int .i64 (wipeM d x (j.bk i : Int)).1) ∧ ∃ F' D', PMap F' D' w2 m p (wipeM d x (j.bk i : Int)).2.1 (wipeM d x (j.bk i : Int)).2.2 ∧ Turns (F ++ D) (F' ++ D') w' w2) := fun w' hb =>
    hide (wipe_walk (h.below hb).map (j.bk i) (by omega) (by omega))
  have HSZ := hide (wipeM_sz d x (j.bk i : Int))
  have hfew := (wipeM_few (d := d) h.map.map.sum (j.bk i : Int)).1
  unfold wipeJ
  clear h hop
  generalize wipeM d x (j.bk i : Int) = r at *
  obtain ⟨e1, d1, x1⟩ := r
  have hd1 : d1.wait.length ≤ 1000000 := by
    have : d1.wait.length ≤ d.wait.length + 4096 := hfew
    omega
  clear hfew hlen
  by_cases h0 : e1 = 0
  · subst h0
    rw [show thenSync (0, d1, x1) = ((syncD d1).1, (syncD d1).2, x1) by simp [thenSync]]
    go_enter Try.func28, Try.ntmps28
    go_wp2_with fail
    refine Flow.wp_region (Flow.VV (fun ix => match ix with | 0 => .pointer (some ⟨q, 0, none⟩) | 1 => .pointer (some ⟨q, 0, none⟩) | 2 => .pointer (some ⟨q, 0, none⟩) | 3 => .pointer (some ⟨m, 0, none⟩) | 4 => .pointer (some ⟨q, 0, none⟩) | 5 => .int .i64 (i : Int) | 6 => .pointer (some ⟨q, 0, none⟩) | 7 => .pointer (some ⟨q, 1, none⟩) | 8 => .pointer (some ⟨q, 1 + i, none⟩) | 9 => .int .i64 (j.bk i : Int) | 10 => .int .i64 0 | 11 => .int .i64 0 | _ => undef)) (Flow.two 10 (fun (_ : Unit) w' => Below w.heap.size w w') (fun _ w' => ∃ F' D', PMap F' D' w' m p d1 x1 ∧ Turns (F ++ D) (F' ++ D') w w')) () (by kernel_rfl) (by kernel_rfl) (Below.refl _ w).drew ⟨?_, ?_, ?_, ?_, ?_, ?_, ?_, ?_, ?_, ?_, ?_, ?_, trivial⟩ ?_
    · exact Flow.move (Flow.goes_plain rfl) (Flow.two.upd (by decide)) (.inl rfl) fun a s w' hs hd => (hs 0 (by kernel_rfl))
    · exact Flow.pure (Flow.goes_plain rfl) (Flow.two.upd (by decide)) fun a L s w' hC hL hn hs hd => ⟨_, op_nil rfl (hd 0 6 (by kernel_rfl)) w', rfl⟩
    · exact Flow.pure (Flow.goes_plain rfl) (Flow.two.upd (by decide)) fun a L s w' hC hL hn hs hd => ⟨_, op_f57_0 rfl (hd 1 7 (by kernel_rfl)) w', rfl⟩
    · refine Flow.pure (Flow.goes_plain rfl) (Flow.two.upd (by decide)) fun a L s w' hC hL hn hs hd => ?_
      skip
      exact ⟨_, op_load27 rfl (hd 2 8 (by kernel_rfl)) (((unhide HH).below (hC.pre (hn.after 10 (by kernel_rfl)))).arr.cell (i := 0) rfl), rfl⟩
    · exact Flow.move (Flow.goes_plain rfl) (Flow.two.upd (by decide)) (.inl rfl) fun a s w' hs hd => (hs 0 (by kernel_rfl))
    · exact Flow.move (Flow.goes_plain rfl) (Flow.two.upd (by decide)) (.inl rfl) fun a s w' hs hd => (hs 1 (by kernel_rfl))
    · exact Flow.pure (Flow.goes_plain rfl) (Flow.two.upd (by decide)) fun a L s w' hC hL hn hs hd => ⟨_, op_nil rfl (hd 4 10 (by kernel_rfl)) w', rfl⟩
    · exact Flow.pure (Flow.goes_plain rfl) (Flow.two.upd (by decide)) fun a L s w' hC hL hn hs hd => ⟨_, op_f57_1 rfl (hd 6 12 (by kernel_rfl)) w', rfl⟩
    · refine Flow.pure (Flow.goes_plain rfl) (Flow.two.upd (by decide)) fun a L s w' hC hL hn hs hd => ?_
      skip
      exact ⟨_, op_idx29 rfl (hd 7 13 (by kernel_rfl)) (hd 5 11 (by kernel_rfl)) (by omega) w', rfl⟩
    · refine Flow.pure (Flow.goes_plain rfl) (Flow.two.upd (by decide)) fun a L s w' hC hL hn hs hd => ?_
      skip
      exact ⟨_, op_load3 rfl (hd 8 14 (by kernel_rfl)) (((unhide HH).below (hC.pre (hn.after 10 (by kernel_rfl)))).bank hi), rfl⟩
    · refine Flow.call (Flow.goes_plain rfl) fun a L s0 w' hC hL hn hs hd => ⟨41, _, op_call41 rfl (hd 3 9 (by kernel_rfl)) (hd 9 15 (by kernel_rfl)) rfl w', (unhide (HW w' (hC.pre hL))).mono ?_⟩
      rintro e w'' ⟨rfl, F', D', hM, hT⟩
      exact ⟨_, (), rfl, fun _ _ _ h => h, Flow.two.post ⟨F', D', hM, Turns.after (hC.pre hL) hT⟩, rfl⟩
    · exact Flow.move (Flow.goes_plain rfl) (Flow.two.upd (by decide)) (.inr rfl) fun a s w' hs hd => (hd 10 16 (by kernel_rfl))
    · intro L _ w2 hC hL vals hv
      obtain ⟨F', D', hM2, hT2⟩ := hC.end (hL 10 (by decide))
      have e11 : vals 11 = .int .i64 0 := hv 11 _ 5 rfl rfl
      simp only [Free.putAll, Act.put, List.setIfInBounds_toArray, List.set_cons_succ, List.set_cons_zero, e11]
      have HJ2 := hide ((unhide HH).turn hT2 hM2 (unhide HSZ))
      have hc0 := (unhide HJ2).1.arr.cell (i := 0) rfl
      clear hC hL hv e11 hM2 hT2 HH
      generalize vals 0 = t0 at *
      generalize vals 1 = t1 at *
      generalize vals 2 = t2 at *
      generalize vals 3 = t3 at *
      generalize vals 4 = t4 at *
      generalize vals 5 = t5 at *
      generalize vals 6 = t6 at *
      generalize vals 7 = t7 at *
      generalize vals 8 = t8 at *
      generalize vals 9 = t9 at *
      generalize vals 10 = t10 at *
      have HS := hide (msync_walk (unhide HJ2).1.map hd1)
      go_wp2_with fail
      refine (unhide HS).mono ?_
      rintro e w3 ⟨rfl, D3, hM3, hT3⟩
      have HJ3 := hide ((unhide HJ2).1.sync hT3 hM3)
      clear hM3 hT3 HS hc0
      go_wp2
      go_ret
      exact ⟨rfl, F', D3, (unhide HJ3).1, (unhide HJ2).2.trans (unhide HJ3).2⟩
  · rw [show thenSync (e1, d1, x1) = (e1, d1, x1) by simp [thenSync, h0]]
    have hne : (e1 != 0) = true := by simpa using h0
    go_enter Try.func28, Try.ntmps28
    go_wp2_with fail
    refine Flow.wp_region (Flow.VV (fun ix => match ix with | 0 => .pointer (some ⟨q, 0, none⟩) | 1 => .pointer (some ⟨q, 0, none⟩) | 2 => .pointer (some ⟨q, 0, none⟩) | 3 => .pointer (some ⟨m, 0, none⟩) | 4 => .pointer (some ⟨q, 0, none⟩) | 5 => .int .i64 (i : Int) | 6 => .pointer (some ⟨q, 0, none⟩) | 7 => .pointer (some ⟨q, 1, none⟩) | 8 => .pointer (some ⟨q, 1 + i, none⟩) | 9 => .int .i64 (j.bk i : Int) | 10 => .int .i64 e1 | 11 => .int .i64 e1 | _ => undef)) (Flow.two 10 (fun (_ : Unit) w' => Below w.heap.size w w') (fun _ w' => ∃ F' D', PMap F' D' w' m p d1 x1 ∧ Turns (F ++ D) (F' ++ D') w w')) () (by kernel_rfl) (by kernel_rfl) (Below.refl _ w).drew ⟨?_, ?_, ?_, ?_, ?_, ?_, ?_, ?_, ?_, ?_, ?_, ?_, trivial⟩ ?_
    · exact Flow.move (Flow.goes_plain rfl) (Flow.two.upd (by decide)) (.inl rfl) fun a s w' hs hd => (hs 0 (by kernel_rfl))
    · exact Flow.pure (Flow.goes_plain rfl) (Flow.two.upd (by decide)) fun a L s w' hC hL hn hs hd => ⟨_, op_nil rfl (hd 0 6 (by kernel_rfl)) w', rfl⟩
    · exact Flow.pure (Flow.goes_plain rfl) (Flow.two.upd (by decide)) fun a L s w' hC hL hn hs hd => ⟨_, op_f57_0 rfl (hd 1 7 (by kernel_rfl)) w', rfl⟩
    · refine Flow.pure (Flow.goes_plain rfl) (Flow.two.upd (by decide)) fun a L s w' hC hL hn hs hd => ?_
      skip
      exact ⟨_, op_load27 rfl (hd 2 8 (by kernel_rfl)) (((unhide HH).below (hC.pre (hn.after 10 (by kernel_rfl)))).arr.cell (i := 0) rfl), rfl⟩
    · exact Flow.move (Flow.goes_plain rfl) (Flow.two.upd (by decide)) (.inl rfl) fun a s w' hs hd => (hs 0 (by kernel_rfl))
    · exact Flow.move (Flow.goes_plain rfl) (Flow.two.upd (by decide)) (.inl rfl) fun a s w' hs hd => (hs 1 (by kernel_rfl))
    · exact Flow.pure (Flow.goes_plain rfl) (Flow.two.upd (by decide)) fun a L s w' hC hL hn hs hd => ⟨_, op_nil rfl (hd 4 10 (by kernel_rfl)) w', rfl⟩
    · exact Flow.pure (Flow.goes_plain rfl) (Flow.two.upd (by decide)) fun a L s w' hC hL hn hs hd => ⟨_, op_f57_1 rfl (hd 6 12 (by kernel_rfl)) w', rfl⟩
    · refine Flow.pure (Flow.goes_plain rfl) (Flow.two.upd (by decide)) fun a L s w' hC hL hn hs hd => ?_
      skip
      exact ⟨_, op_idx29 rfl (hd 7 13 (by kernel_rfl)) (hd 5 11 (by kernel_rfl)) (by omega) w', rfl⟩
    · refine Flow.pure (Flow.goes_plain rfl) (Flow.two.upd (by decide)) fun a L s w' hC hL hn hs hd => ?_
      skip
      exact ⟨_, op_load3 rfl (hd 8 14 (by kernel_rfl)) (((unhide HH).below (hC.pre (hn.after 10 (by kernel_rfl)))).bank hi), rfl⟩
    · refine Flow.call (Flow.goes_plain rfl) fun a L s0 w' hC hL hn hs hd => ⟨41, _, op_call41 rfl (hd 3 9 (by kernel_rfl)) (hd 9 15 (by kernel_rfl)) rfl w', (unhide (HW w' (hC.pre hL))).mono ?_⟩
      rintro e w'' ⟨rfl, F', D', hM, hT⟩
      exact ⟨_, (), rfl, fun _ _ _ h => h, Flow.two.post ⟨F', D', hM, Turns.after (hC.pre hL) hT⟩, rfl⟩
    · exact Flow.move (Flow.goes_plain rfl) (Flow.two.upd (by decide)) (.inr rfl) fun a s w' hs hd => (hd 10 16 (by kernel_rfl))
    · intro L _ w2 hC hL vals hv
      obtain ⟨F', D', hM2, hT2⟩ := hC.end (hL 10 (by decide))
      have e11 : vals 11 = .int .i64 e1 := hv 11 _ 5 rfl rfl
      simp only [Free.putAll, Act.put, List.setIfInBounds_toArray, List.set_cons_succ, List.set_cons_zero, e11]
      have HJ2 := hide ((unhide HH).turn hT2 hM2 (unhide HSZ))
      have hc0 := (unhide HJ2).1.arr.cell (i := 0) rfl
      clear hC hL hv e11 hM2 hT2 HH
      generalize vals 0 = t0 at *
      generalize vals 1 = t1 at *
      generalize vals 2 = t2 at *
      generalize vals 3 = t3 at *
      generalize vals 4 = t4 at *
      generalize vals 5 = t5 at *
      generalize vals 6 = t6 at *
      generalize vals 7 = t7 at *
      generalize vals 8 = t8 at *
      generalize vals 9 = t9 at *
      generalize vals 10 = t10 at *
      go_wp2
      go_ret
      exact ⟨rfl, F', D', (unhide HJ2).1, (unhide HJ2).2⟩

set_option maxHeartbeats 1600000 in
set_option maxRecDepth 100000 in
theorem wrote_walk (h : Jour F D w q m p d x j) (at_ n cap : Nat) (a : Option Addr) (hl : j.last < 4611686018427387904) (hn : at_ + n ≤ 4096) : Calls Try.prog 27 #[.pointer (some ⟨q, 0, none⟩), .int .i64 (at_ : Int), .slice a n cap] w fun e w' =>
    e = .returned (.tuple #[]) ∧ Jour F D w' q m p d x (j.wrote at_ n) ∧ Turns (q :: (F ++ D)) (q :: (F ++ D)) w w' := by
  have h1 := h.field (j' := { j with last := j.last + 1 }) 4 (.int .u64 ((j.last + 1 : Nat) : Int)) rfl ⟨h.ok.a, h.ok.b, h.ok.ne, h.ok.inn⟩ (by show j.last + 1 < _; omega) h.next
  have h2 := h1.1.field (j' := { j with last := j.last + 1, next := at_ + n }) 5 (.int .i64 ((at_ + n : Nat) : Int)) rfl ⟨h.ok.a, h.ok.b, h.ok.ne, h.ok.inn⟩ h1.1.last hn
  have h3 := h2.1.field (j' := j.wrote at_ n) 6 (.bool true) rfl ⟨h.ok.a, h.ok.b, h.ok.ne, h.ok.inn⟩ h2.1.last hn
  have HJ := hide h3.1
  have HT := hide ((h1.2.trans h2.2).trans h3.2)
  have hc4 := h.arr.cell (i := 4) rfl
  have hc5 := h1.1.arr.cell (i := 5) rfl
  have hc6 := h2.1.arr.cell (i := 6) rfl
  have hf4 := h.arr.free 4
  have hf5 := h1.1.arr.free 5
  have hf6 := h2.1.arr.free 6
  clear h h1 h2 h3
  generalize j.wrote at_ n = j3 at *
  generalize j.next = nx at *
  generalize j.ready = rd at *
  generalize j.last = l at *
  rw [show ((l + 1 : Nat) : Int) = (l : Int) + 1 by omega, show ((at_ + n : Nat) : Int) = (at_ : Int) + (n : Int) by omega] at *
  go_enter Try.func27, Try.ntmps27
  go_wp2
  refine ⟨rfl, .tuple #[], by simp [results, Try.results27], ?_⟩
  exact ⟨rfl, unhide HJ, unhide HT⟩
end
end Go.Proofs.Ytjebejdcjfnleaa
