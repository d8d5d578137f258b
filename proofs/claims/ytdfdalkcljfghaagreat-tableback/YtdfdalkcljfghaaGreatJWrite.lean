/-
  The calls of a journal that turn its device: wipe, write, wrote. A journal's write: sectors programmed one behind the other, and kept.
-/
import Derived.Test.YtdfdalkcljfghaaGreatJour
namespace Go.Proofs.YtdfdalkcljfghaaGreat
open Go.RowKit

theorem wipeG_sz {δ : Type} (rd : δ → Int → Sec × Int) (er : δ → Int → Int × δ) (part : Int) : ∀ (n a : Nat) (d : δ) (x : MX), (wipeG rd er d x part a n).2.2.sz = x.sz
  | 0, _, _, _ => rfl
  | n + 1, a, d, x => by
    rw [wipeG]
    split
    · exact wipeG_sz rd er part n _ d x
    · split
      · exact opG_sz _ _ _ _ _ _
      · rw [wipeG_sz rd er part n]; exact opG_sz _ _ _ _ _ _
theorem wipeG_wait (part : Int) : ∀ (n a : Nat) (d : DM) (x : MX), (wipeG readD eraseD d x part a n).2.1.wait.length ≤ d.wait.length + n ∧ (wipeG readD eraseD d x part a n).2.2.ops.length ≤ x.ops.length + n
  | 0, _, _, _ => ⟨Nat.le_refl _, Nat.le_refl _⟩
  | n + 1, a, d, x => by
    rw [wipeG]
    split
    · have := wipeG_wait part n (a + 1) d x
      omega
    · have h1 := opG_wait 1 erase_wait d x part (a : Int)
      have h2 := opG_ops 1 eraseD d x part (a : Int)
      split
      · omega
      · have := wipeG_wait part n (a + 1) (opG 1 eraseD d x part (a : Int)).2.1 (opG 1 eraseD d x part (a : Int)).2.2
        omega
theorem wipeM_sz (d : DM) (x : MX) (part : Int) : (wipeM d x part).2.2.sz = x.sz := by
  unfold wipeM wipeAll
  split
  · rfl
  · exact wipeG_sz _ _ _ _ _ _ _
theorem wipeM_few {d : DM} {x : MX} (h : x.sz.sum ≤ 4096) (part : Int) : (wipeM d x part).2.1.wait.length ≤ d.wait.length + 4096 ∧ (wipeM d x part).2.2.ops.length ≤ x.ops.length + 4096 := by
  have h1 := sizeX_le x.sz part
  unfold wipeM wipeAll
  split
  · exact ⟨Nat.le_add_right _ _, Nat.le_add_right _ _⟩
  · have := wipeG_wait part (sizeX x.sz part) 0 d x
    omega
theorem programM_sz (s : Sec) (d : DM) (x : MX) (i k : Int) : (programM s d x i k).2.2.sz = x.sz := opG_sz _ _ _ _ _ _

section
variable {F D G : List Nat} {w w' : World} {q m p : Nat} {d : DM} {x : MX} {j : JX}
theorem Jour.sync {D' : List Nat} {d' : DM} (h : Jour F D w q m p d x j) (ht : Turns (F ++ D) (F ++ D') w w') (hm : PMap F D' w' m p d' x) : Jour F D' w' q m p d' x j ∧ Turns (q :: (F ++ D)) (q :: (F ++ D')) w w' := h.turn ht hm rfl
set_option maxHeartbeats 1600000 in
set_option maxRecDepth 100000 in
theorem wipeJ_walk (h : Jour F D w q m p d x j) (i : Nat) (hi : i ≤ 1) (hlen : d.wait.length ≤ 800000) (hop : x.ops.length ≤ 800000) : Calls Tryz.prog 130 #[.pointer (some ⟨q, 0, none⟩), .int .i64 (i : Int)] w fun e w' =>
    e = .returned (.int .i64 (wipeJ d x (j.bk i)).1) ∧ ∃ F' D', Jour F' D' w' q m p (wipeJ d x (j.bk i)).2.1 (wipeJ d x (j.bk i)).2.2 j ∧ Turns (q :: (F ++ D)) (q :: (F' ++ D')) w w' := by
  have HH := hide h
  have HW : ∀ w', Below w.heap.size w w' → Hid (Calls Tryz.prog 148 #[.pointer (some ⟨m, 0, none⟩), .int .i64 (j.bk i : Int)] w' fun e w2 => e = .returned (.int .i64 (wipeM d x (j.bk i : Int)).1) ∧ ∃ F' D', PMap F' D' w2 m p (wipeM d x (j.bk i : Int)).2.1 (wipeM d x (j.bk i : Int)).2.2 ∧ Turns (F ++ D) (F' ++ D') w' w2) := fun w' hb =>
    hide (wipe_walk (h.below hb).map (j.bk i) (by omega) (by omega))
  have HSZ := hide (wipeM_sz d x (j.bk i : Int))
  have hfew := (wipeM_few (d := d) h.map.map.sum (j.bk i : Int)).1
  unfold wipeJ
  clear h hop
  generalize wipeM d x (j.bk i : Int) = r at *
  obtain ⟨e1, d1, x1⟩ := r
  have hd1 : d1.wait.length ≤ 1000000 := by
    have : d1.wait.length ≤ d.wait.length + 4096 := hfew
    omega
  clear hfew hlen
  by_cases h0 : e1 = 0
  · subst h0
    rw [show thenSync (0, d1, x1) = ((syncD d1).1, (syncD d1).2, x1) by simp [thenSync]]
    go_enter Tryz.func130, Tryz.ntmps130
    go_wp2_with fail
    refine Flow.wp_region (Flow.VV (fun ix => match ix with | 0 => .pointer (some ⟨q, 0, none⟩) | 1 => .pointer (some ⟨q, 0, none⟩) | 2 => .pointer (some ⟨q, 0, none⟩) | 3 => .pointer (some ⟨m, 0, none⟩) | 4 => .pointer (some ⟨q, 0, none⟩) | 5 => .int .i64 (i : Int) | 6 => .pointer (some ⟨q, 0, none⟩) | 7 => .pointer (some ⟨q, 1, none⟩) | 8 => .pointer (some ⟨q, 1 + i, none⟩) | 9 => .int .i64 (j.bk i : Int) | 10 => .int .i64 0 | 11 => .int .i64 0 | _ => undef)) (Flow.two 10 (fun (_ : Unit) w' => Below w.heap.size w w') (fun _ w' => ∃ F' D', PMap F' D' w' m p d1 x1 ∧ Turns (F ++ D) (F' ++ D') w w')) () (by kernel_rfl) (by kernel_rfl) (Below.refl _ w).drew ⟨?_, ?_, ?_, ?_, ?_, ?_, ?_, ?_, ?_, ?_, ?_, ?_, trivial⟩ ?_
    · exact Flow.move (Flow.goes_plain rfl) (Flow.two.upd (by decide)) (.inl rfl) fun a s w' hs hd => (hs 0 (by kernel_rfl))
    · exact Flow.pure (Flow.goes_plain rfl) (Flow.two.upd (by decide)) fun a L s w' hC hL hn hs hd => ⟨_, op_nil rfl (hd 0 6 (by kernel_rfl)) w', rfl⟩
    · exact Flow.pure (Flow.goes_plain rfl) (Flow.two.upd (by decide)) fun a L s w' hC hL hn hs hd => ⟨_, op_f165_0 rfl (hd 1 7 (by kernel_rfl)) w', rfl⟩
    · refine Flow.pure (Flow.goes_plain rfl) (Flow.two.upd (by decide)) fun a L s w' hC hL hn hs hd => ?_
      skip
      exact ⟨_, op_load27 rfl (hd 2 8 (by kernel_rfl)) (((unhide HH).below (hC.pre (hn.after 10 (by kernel_rfl)))).arr.cell (i := 0) rfl), rfl⟩
    · exact Flow.move (Flow.goes_plain rfl) (Flow.two.upd (by decide)) (.inl rfl) fun a s w' hs hd => (hs 0 (by kernel_rfl))
    · exact Flow.move (Flow.goes_plain rfl) (Flow.two.upd (by decide)) (.inl rfl) fun a s w' hs hd => (hs 1 (by kernel_rfl))
    · exact Flow.pure (Flow.goes_plain rfl) (Flow.two.upd (by decide)) fun a L s w' hC hL hn hs hd => ⟨_, op_nil rfl (hd 4 10 (by kernel_rfl)) w', rfl⟩
    · exact Flow.pure (Flow.goes_plain rfl) (Flow.two.upd (by decide)) fun a L s w' hC hL hn hs hd => ⟨_, op_f165_1 rfl (hd 6 12 (by kernel_rfl)) w', rfl⟩
    · refine Flow.pure (Flow.goes_plain rfl) (Flow.two.upd (by decide)) fun a L s w' hC hL hn hs hd => ?_
      skip
      exact ⟨_, op_idx29 rfl (hd 7 13 (by kernel_rfl)) (hd 5 11 (by kernel_rfl)) (by omega) w', rfl⟩
    · refine Flow.pure (Flow.goes_plain rfl) (Flow.two.upd (by decide)) fun a L s w' hC hL hn hs hd => ?_
      skip
      exact ⟨_, op_load3 rfl (hd 8 14 (by kernel_rfl)) (((unhide HH).below (hC.pre (hn.after 10 (by kernel_rfl)))).bank hi), rfl⟩
    · refine Flow.call (Flow.goes_plain rfl) fun a L s0 w' hC hL hn hs hd => ⟨148, _, op_call148 rfl (hd 3 9 (by kernel_rfl)) (hd 9 15 (by kernel_rfl)) rfl w', (unhide (HW w' (hC.pre hL))).mono ?_⟩
      rintro e w'' ⟨rfl, F', D', hM, hT⟩
      exact ⟨_, (), rfl, fun _ _ _ h => h, Flow.two.post ⟨F', D', hM, Turns.after (hC.pre hL) hT⟩, rfl⟩
    · exact Flow.move (Flow.goes_plain rfl) (Flow.two.upd (by decide)) (.inr rfl) fun a s w' hs hd => (hd 10 16 (by kernel_rfl))
    · intro L _ w2 hC hL vals hv
      obtain ⟨F', D', hM2, hT2⟩ := hC.end (hL 10 (by decide))
      have e11 : vals 11 = .int .i64 0 := hv 11 _ 5 rfl rfl
      simp only [Free.putAll, Act.put, List.setIfInBounds_toArray, List.set_cons_succ, List.set_cons_zero, e11]
      have HJ2 := hide ((unhide HH).turn hT2 hM2 (unhide HSZ))
      have hc0 := (unhide HJ2).1.arr.cell (i := 0) rfl
      clear hC hL hv e11 hM2 hT2 HH
      generalize vals 0 = t0 at *
      generalize vals 1 = t1 at *
      generalize vals 2 = t2 at *
      generalize vals 3 = t3 at *
      generalize vals 4 = t4 at *
      generalize vals 5 = t5 at *
      generalize vals 6 = t6 at *
      generalize vals 7 = t7 at *
      generalize vals 8 = t8 at *
      generalize vals 9 = t9 at *
      generalize vals 10 = t10 at *
      have HS := hide (msync_walk (unhide HJ2).1.map hd1)
      go_wp2_with fail
      refine (unhide HS).mono ?_
      rintro e w3 ⟨rfl, D3, hM3, hT3⟩
      have HJ3 := hide ((unhide HJ2).1.sync hT3 hM3)
      clear hM3 hT3 HS hc0
      go_wp2
      go_ret
      exact ⟨rfl, F', D3, (unhide HJ3).1, (unhide HJ2).2.trans (unhide HJ3).2⟩
  · rw [show thenSync (e1, d1, x1) = (e1, d1, x1) by simp [thenSync, h0]]
    have hne : (e1 != 0) = true := by simpa using h0
    go_enter Tryz.func130, Tryz.ntmps130
    go_wp2_with fail
    refine Flow.wp_region (Flow.VV (fun ix => match ix with | 0 => .pointer (some ⟨q, 0, none⟩) | 1 => .pointer (some ⟨q, 0, none⟩) | 2 => .pointer (some ⟨q, 0, none⟩) | 3 => .pointer (some ⟨m, 0, none⟩) | 4 => .pointer (some ⟨q, 0, none⟩) | 5 => .int .i64 (i : Int) | 6 => .pointer (some ⟨q, 0, none⟩) | 7 => .pointer (some ⟨q, 1, none⟩) | 8 => .pointer (some ⟨q, 1 + i, none⟩) | 9 => .int .i64 (j.bk i : Int) | 10 => .int .i64 e1 | 11 => .int .i64 e1 | _ => undef)) (Flow.two 10 (fun (_ : Unit) w' => Below w.heap.size w w') (fun _ w' => ∃ F' D', PMap F' D' w' m p d1 x1 ∧ Turns (F ++ D) (F' ++ D') w w')) () (by kernel_rfl) (by kernel_rfl) (Below.refl _ w).drew ⟨?_, ?_, ?_, ?_, ?_, ?_, ?_, ?_, ?_, ?_, ?_, ?_, trivial⟩ ?_
    · exact Flow.move (Flow.goes_plain rfl) (Flow.two.upd (by decide)) (.inl rfl) fun a s w' hs hd => (hs 0 (by kernel_rfl))
    · exact Flow.pure (Flow.goes_plain rfl) (Flow.two.upd (by decide)) fun a L s w' hC hL hn hs hd => ⟨_, op_nil rfl (hd 0 6 (by kernel_rfl)) w', rfl⟩
    · exact Flow.pure (Flow.goes_plain rfl) (Flow.two.upd (by decide)) fun a L s w' hC hL hn hs hd => ⟨_, op_f165_0 rfl (hd 1 7 (by kernel_rfl)) w', rfl⟩
    · refine Flow.pure (Flow.goes_plain rfl) (Flow.two.upd (by decide)) fun a L s w' hC hL hn hs hd => ?_
      skip
      exact ⟨_, op_load27 rfl (hd 2 8 (by kernel_rfl)) (((unhide HH).below (hC.pre (hn.after 10 (by kernel_rfl)))).arr.cell (i := 0) rfl), rfl⟩
    · exact Flow.move (Flow.goes_plain rfl) (Flow.two.upd (by decide)) (.inl rfl) fun a s w' hs hd => (hs 0 (by kernel_rfl))
    · exact Flow.move (Flow.goes_plain rfl) (Flow.two.upd (by decide)) (.inl rfl) fun a s w' hs hd => (hs 1 (by kernel_rfl))
    · exact Flow.pure (Flow.goes_plain rfl) (Flow.two.upd (by decide)) fun a L s w' hC hL hn hs hd => ⟨_, op_nil rfl (hd 4 10 (by kernel_rfl)) w', rfl⟩
    · exact Flow.pure (Flow.goes_plain rfl) (Flow.two.upd (by decide)) fun a L s w' hC hL hn hs hd => ⟨_, op_f165_1 rfl (hd 6 12 (by kernel_rfl)) w', rfl⟩
    · refine Flow.pure (Flow.goes_plain rfl) (Flow.two.upd (by decide)) fun a L s w' hC hL hn hs hd => ?_
      skip
      exact ⟨_, op_idx29 rfl (hd 7 13 (by kernel_rfl)) (hd 5 11 (by kernel_rfl)) (by omega) w', rfl⟩
    · refine Flow.pure (Flow.goes_plain rfl) (Flow.two.upd (by decide)) fun a L s w' hC hL hn hs hd => ?_
      skip
      exact ⟨_, op_load3 rfl (hd 8 14 (by kernel_rfl)) (((unhide HH).below (hC.pre (hn.after 10 (by kernel_rfl)))).bank hi), rfl⟩
    · refine Flow.call (Flow.goes_plain rfl) fun a L s0 w' hC hL hn hs hd => ⟨148, _, op_call148 rfl (hd 3 9 (by kernel_rfl)) (hd 9 15 (by kernel_rfl)) rfl w', (unhide (HW w' (hC.pre hL))).mono ?_⟩
      rintro e w'' ⟨rfl, F', D', hM, hT⟩
      exact ⟨_, (), rfl, fun _ _ _ h => h, Flow.two.post ⟨F', D', hM, Turns.after (hC.pre hL) hT⟩, rfl⟩
    · exact Flow.move (Flow.goes_plain rfl) (Flow.two.upd (by decide)) (.inr rfl) fun a s w' hs hd => (hd 10 16 (by kernel_rfl))
    · intro L _ w2 hC hL vals hv
      obtain ⟨F', D', hM2, hT2⟩ := hC.end (hL 10 (by decide))
      have e11 : vals 11 = .int .i64 e1 := hv 11 _ 5 rfl rfl
      simp only [Free.putAll, Act.put, List.setIfInBounds_toArray, List.set_cons_succ, List.set_cons_zero, e11]
      have HJ2 := hide ((unhide HH).turn hT2 hM2 (unhide HSZ))
      have hc0 := (unhide HJ2).1.arr.cell (i := 0) rfl
      clear hC hL hv e11 hM2 hT2 HH
      generalize vals 0 = t0 at *
      generalize vals 1 = t1 at *
      generalize vals 2 = t2 at *
      generalize vals 3 = t3 at *
      generalize vals 4 = t4 at *
      generalize vals 5 = t5 at *
      generalize vals 6 = t6 at *
      generalize vals 7 = t7 at *
      generalize vals 8 = t8 at *
      generalize vals 9 = t9 at *
      generalize vals 10 = t10 at *
      go_wp2
      go_ret
      exact ⟨rfl, F', D', (unhide HJ2).1, (unhide HJ2).2⟩

set_option maxHeartbeats 1600000 in
set_option maxRecDepth 100000 in
theorem wrote_walk (h : Jour F D w q m p d x j) (at_ n cap : Nat) (a : Option Addr) (hl : j.last < 4611686018427387904) (hn : at_ + n ≤ 4096) : Calls Tryz.prog 128 #[.pointer (some ⟨q, 0, none⟩), .int .i64 (at_ : Int), .slice a n cap] w fun e w' =>
    e = .returned (.tuple #[]) ∧ Jour F D w' q m p d x (j.wrote at_ n) ∧ Turns (q :: (F ++ D)) (q :: (F ++ D)) w w' := by
  have h1 := h.field (j' := { j with last := j.last + 1 }) 4 (.int .u64 ((j.last + 1 : Nat) : Int)) rfl ⟨h.ok.a, h.ok.b, h.ok.ne, h.ok.inn⟩ (by show j.last + 1 < _; omega) h.next
  have h2 := h1.1.field (j' := { j with last := j.last + 1, next := at_ + n }) 5 (.int .i64 ((at_ + n : Nat) : Int)) rfl ⟨h.ok.a, h.ok.b, h.ok.ne, h.ok.inn⟩ h1.1.last hn
  have h3 := h2.1.field (j' := j.wrote at_ n) 6 (.bool true) rfl ⟨h.ok.a, h.ok.b, h.ok.ne, h.ok.inn⟩ h2.1.last hn
  have HJ := hide h3.1
  have HT := hide ((h1.2.trans h2.2).trans h3.2)
  have hc4 := h.arr.cell (i := 4) rfl
  have hc5 := h1.1.arr.cell (i := 5) rfl
  have hc6 := h2.1.arr.cell (i := 6) rfl
  have hf4 := h.arr.free 4
  have hf5 := h1.1.arr.free 5
  have hf6 := h2.1.arr.free 6
  clear h h1 h2 h3
  generalize j.wrote at_ n = j3 at *
  generalize j.next = nx at *
  generalize j.ready = rd at *
  generalize j.last = l at *
  rw [show ((l + 1 : Nat) : Int) = (l : Int) + 1 by omega, show ((at_ + n : Nat) : Int) = (at_ : Int) + (n : Int) by omega] at *
  go_enter Tryz.func128, Tryz.ntmps128
  go_wp2
  refine ⟨rfl, .tuple #[], by simp [results, Tryz.results128], ?_⟩
  exact ⟨rfl, unhide HJ, unhide HT⟩
end
end Go.Proofs.YtdfdalkcljfghaaGreat

namespace Go.Proofs.YtdfdalkcljfghaaGreat
open Go.RowKit

/-- Sectors in a block of their own. -/
structure SecAt (w : World) (g : Nat) (ss : List Sec) : Prop where
  lt : g < w.heap.size
  row : ∀ i, i < ss.length → w.rangeAt g (i * 64) (bytesV (ss.getD i []))
  sec : ∀ s ∈ ss, s.length = 64
theorem range_same {w w' : World} {b o : Nat} {vs : List Value} (h : w.rangeAt b o vs) (hb : w'.heap[b]? = w.heap[b]?) : w'.rangeAt b o vs := fun i v hi => (cell_same hb).trans (h i v hi)
theorem SecAt.same {w w' : World} {g : Nat} {ss : List Sec} (h : SecAt w g ss) (hb : w'.heap[g]? = w.heap[g]?) (hs : w.heap.size ≤ w'.heap.size) : SecAt w' g ss :=
  ⟨Nat.lt_of_lt_of_le h.lt hs, fun i hi => range_same (h.row i hi) hb, h.sec⟩
theorem SecAt.below {w w' : World} {g : Nat} {ss : List Sec} (h : SecAt w g ss) (hb : Below w.heap.size w w') : SecAt w' g ss := h.same (hb.block g h.lt) hb.size
theorem SecAt.but {w w' : World} {G : List Nat} {g : Nat} {ss : List Sec} (h : SecAt w g ss) (hb : But G w w') (hn : g ∉ G) : SecAt w' g ss := h.same (hb.block g h.lt hn) hb.size
theorem SOwn.at {B : Nat} {w : World} {v : Value} {ss : List Sec} (h : SOwn B w v ss) (hne : 0 < ss.length) : ∃ g cap, v = .slice (some ⟨g, 0, none⟩) ss.length cap ∧ B ≤ g ∧ ss.length ≤ cap ∧ cap ≤ maxLen ∧ SecAt w g ss := by
  have hr := h.row
  rcases h.1.2 with ⟨e, h0⟩ | ⟨g, cap, cur, e, hb, hh, hcap, hmax, hcur, htk⟩
  · omega
  · obtain ⟨a, len, cap2, e2, _, _, _, hrow⟩ := hr
    rw [e] at e2
    cases e2
    refine ⟨g, cap, e, hb, hcap, hmax, (Array.getElem?_eq_some_iff.1 hh).1, fun i hi => ?_, h.2⟩
    obtain ⟨b, off, ha, _, hc⟩ := hrow.2.2 i hi
    cases ha
    rwa [Nat.zero_add] at hc
theorem prog_stop {d d1 : DM} {x x1 : MX} {part at_ : Nat} {s : Sec} {ss : List Sec} {e1 : Int} (h : programM s d x (part : Int) (at_ : Int) = (e1, d1, x1)) (h0 : e1 ≠ 0) : progJ d x part at_ (s :: ss) = (e1, d1, x1) := by
  rw [progJ, h, if_pos h0]
theorem prog_on {d d1 : DM} {x x1 : MX} {part at_ : Nat} {s : Sec} {ss : List Sec} (h : programM s d x (part : Int) (at_ : Int) = (0, d1, x1)) : progJ d x part at_ (s :: ss) = progJ d1 x1 part (at_ + 1) ss := by
  rw [progJ, h, if_neg (by simp)]
theorem programM_few (s : Sec) (d : DM) (x : MX) (i k : Int) : (programM s d x i k).2.1.wait.length ≤ d.wait.length + 1 ∧ (programM s d x i k).2.2.ops.length ≤ x.ops.length + 1 :=
  ⟨opG_wait 2 (fun d i => program_wait d i s) d x i k, opG_ops _ _ _ _ _ _⟩

section
variable {F D G : List Nat} {w w' : World} {q m p : Nat} {d : DM} {x : MX} {j : JX}
set_option maxHeartbeats 3200000 in
set_option maxRecDepth 100000 in
theorem write_walk (h : Jour F D w q m p d x j) (i : Nat) (hi : i ≤ 1) (at_ : Nat) (hat : at_ ≤ 4096) (ss : List Sec) (g cap : Nat) (hss : SecAt w g ss) (hg : g ∉ q :: (F ++ D)) (hsl : ss.length ≤ 64) (hcap : ss.length ≤ cap) (hlen : d.wait.length ≤ 900000) (hop : x.ops.length ≤ 900000) :
    Calls Tryz.prog 127 #[.pointer (some ⟨q, 0, none⟩), .int .i64 (i : Int), .int .i64 (at_ : Int), .slice (some ⟨g, 0, none⟩) ss.length cap] w fun e w' =>
    e = .returned (.int .i64 (writeJ d x (j.bk i) at_ ss).1) ∧ ∃ F' D', Jour F' D' w' q m p (writeJ d x (j.bk i) at_ ss).2.1 (writeJ d x (j.bk i) at_ ss).2.2 j ∧ Turns (q :: (F ++ D)) (q :: (F' ++ D')) w w' := by
  have HH := hide h
  have HSS := hide hss
  have HG := hide hg
  have hnl := hss.lt
  clear h hss hg
  obtain ⟨n, hn⟩ : ∃ n, ss.length = n := ⟨_, rfl⟩
  have HN := hide hn
  rw [hn]
  rw [hn] at hsl hcap
  obtain ⟨b, hbk⟩ : ∃ b, j.bk i = b := ⟨_, rfl⟩
  have HBK := hide hbk
  rw [hbk]
  clear hbk hn
  go_enter Tryz.func127, Tryz.ntmps127
  go_wp2_with fail
  go_loopw [14] (fun ci wr => ∃ (k : Nat) (F' D' : List Nat) (d' : DM) (x' : MX), k ≤ n ∧ ci = .int .i64 (k : Int) ∧ progJ d x b at_ ss = progJ d' x' b (at_ + k) (ss.drop k) ∧ Jour F' D' wr q m p d' x' j ∧ Turns (q :: (F ++ D)) (q :: (F' ++ D')) w wr ∧ SecAt wr g ss ∧ g ∉ q :: (F' ++ D') ∧ d'.wait.length ≤ 900000 + k ∧ x'.ops.length ≤ 900000 + k ∧ x'.sz = x.sz) (fun ci _ => n - (intOf ci).toNat)
  case atStart => exact ⟨0, F, D, d, x, by omega, rfl, by simp, unhide HH, Turns.refl _ _, unhide HSS, unhide HG, by omega, by omega, rfl⟩
  case round =>
    obtain ⟨k, F', D', d', x', hk, rfl, hpj, hJ, hT, hS, hgn, hwl, hol, hsz⟩ := hrel
    by_cases hlt : k < n
    · have hlt' : k < ss.length := by rw [unhide HN]; exact hlt
      have hrow := hS.row k hlt'
      have hsec : (ss.getD k []).length = 64 := by
        rw [List.getD_eq_getElem?_getD, List.getElem?_eq_getElem hlt']
        exact hS.sec _ (List.getElem_mem _)
      have hdrop : ss.drop k = ss.getD k [] :: ss.drop (k + 1) := by
        rw [List.drop_eq_getElem_cons hlt', List.getD_eq_getElem?_getD, List.getElem?_eq_getElem hlt']; rfl
      rw [hdrop] at hpj
      generalize ss.getD k [] = s at *
      have HJ := hide hJ
      have HT := hide hT
      have HS := hide hS
      have HGN := hide hgn
      have HSEC := hide hsec
      have HPJ := hide hpj
      have HSZ := hide hsz
      obtain ⟨cs, hcs⟩ : ∃ cs, cs = bytesV s := ⟨_, rfl⟩
      rw [← hcs] at hrow
      have HCS := hide hcs
      have HCL : Hid (cs.length = 64) := hide (by rw [hcs, bytesV_length, hsec])
      have HONE : Hid (∀ v ∈ cs, v.oneCell' = true) := hide (by rw [hcs]; exact bytesV_one s)
      have HRG := hide hrow
      have hgl := hS.lt
      clear hJ hT hS hgn hsec hpj hcs hrow hdrop hlt' hsz
      go_wp2_with (first
        | refine wpList_load_mid rfl 136 _ rfl g (k * 64) rfl cs _ (unhide HRG) Tryz.underlying136 rfl (by rw [unhide HCL]; exact info136) ?_
        | refine wpList_alloc 136 136 (bytesV zeroS) rfl rfl alloc136 ?_)
      intro w2 hA2 hb2 hs2
      have HA2 := hide hA2
      have HB2 := hide hb2
      have hfr2 : w2.heap.size = wr.heap.size + 1 := hs2
      clear hA2 hb2 hs2 HRG
      go_wp2_with (refine wpList_storeAll 136 _ _ wr.heap.size cs (bytesV zeroS) rfl rfl rfl rfl (unhide HA2) (by rw [unhide HCL, bytesV_length, zeroS_len]) (by rw [unhide HCL]; exact info136) (unhide HONE) ?_)
      intro w3 hA3 hg3 hs3
      have hb3 : Below wr.heap.size wr w3 := (unhide HB2).grown hg3 (by omega) (fun k hk => by simp at hk; omega)
      have HA3 := hide hA3
      have HJ3 := hide ((unhide HJ).below hb3)
      have HT3 := hide ((unhide HT).then hb3)
      have HS3 := hide ((unhide HS).below hb3)
      have HB3 := hide hb3
      have hz3 : w3.heap.size = wr.heap.size + 1 := by omega
      have hal : wr.heap.size < w3.heap.size := by omega
      obtain ⟨e1, d1, x1, hpg⟩ : ∃ e1 d1 x1, programM s d' x' (b : Int) ((at_ + k : Nat) : Int) = (e1, d1, x1) := ⟨_, _, _, rfl⟩
      have HPG := hide hpg
      have HP : ∀ w', Below w3.heap.size w3 w' → Hid (Calls Tryz.prog 146 #[.pointer (some ⟨m, 0, none⟩), .int .i64 (b : Int), .int .i64 ((at_ + k : Nat) : Int), secV s] w' fun e w2 => e = .returned (.int .i64 e1) ∧ ∃ F3 D3, PMap F3 D3 w2 m p d1 x1 ∧ Turns (F' ++ D') (F3 ++ D3) w' w2) := fun w' hb => by
        have := mprogram_walk ((unhide HJ3).below hb).map (b : Int) ((at_ + k : Nat) : Int) (by omega) s (unhide HSEC) (by omega) (by omega)
        rw [hpg] at this
        exact hide this
      have HX1 : Hid (x1.sz = x'.sz) := hide (by
        have := programM_sz s d' x' (b : Int) ((at_ + k : Nat) : Int)
        rw [hpg] at this
        exact this)
      have hfw : d1.wait.length ≤ d'.wait.length + 1 ∧ x1.ops.length ≤ x'.ops.length + 1 := by
        have := programM_few s d' x' (b : Int) ((at_ + k : Nat) : Int)
        rw [hpg] at this
        exact this
      clear hA3 hg3 hs3 hb3 hpg HA2 HB2 HJ HT HS hfr2
      generalize hBS : wr.heap.size = bs at *
      have HBS := hide hBS
      clear hBS
      by_cases h0 : e1 = 0
      · subst h0
        have HON := hide (prog_on (ss := ss.drop (k + 1)) (unhide HPG))
        go_wp2_with fail
        refine Flow.wp_region (Flow.VV (fun ix => match ix with | 0 => .pointer (some ⟨q, 0, none⟩) | 1 => .pointer (some ⟨q, 0, none⟩) | 2 => .pointer (some ⟨q, 0, none⟩) | 3 => .pointer (some ⟨m, 0, none⟩) | 4 => .pointer (some ⟨q, 0, none⟩) | 5 => .int .i64 (i : Int) | 6 => .pointer (some ⟨q, 0, none⟩) | 7 => .pointer (some ⟨q, 1, none⟩) | 8 => .pointer (some ⟨q, 1 + i, none⟩) | 9 => .int .i64 (b : Int) | 10 => .int .i64 (at_ : Int) | 11 => .int .i64 (k : Int) | 12 => .int .i64 ((at_ + k : Nat) : Int) | 13 => secV s | 14 => .int .i64 0 | 15 => .int .i64 0 | _ => undef)) (Flow.two 14 (fun (_ : Unit) w' => Below w3.heap.size w3 w') (fun _ w' => ∃ F3 D3, PMap F3 D3 w' m p d1 x1 ∧ Turns (F' ++ D') (F3 ++ D3) w3 w')) () (by kernel_rfl) (by kernel_rfl) (Below.refl _ w3).drew ⟨?_, ?_, ?_, ?_, ?_, ?_, ?_, ?_, ?_, ?_, ?_, ?_, ?_, ?_, ?_, ?_, trivial⟩ ?_
        · exact Flow.move (Flow.goes_plain rfl) (Flow.two.upd (by decide)) (.inl rfl) fun a s w' hs hd => (hs 0 (by kernel_rfl))
        · exact Flow.pure (Flow.goes_plain rfl) (Flow.two.upd (by decide)) fun a L s w' hC hL hn hs hd => ⟨_, op_nil rfl (hd 0 19 (by kernel_rfl)) w', rfl⟩
        · exact Flow.pure (Flow.goes_plain rfl) (Flow.two.upd (by decide)) fun a L s w' hC hL hn hs hd => ⟨_, op_f165_0 rfl (hd 1 20 (by kernel_rfl)) w', rfl⟩
        · refine Flow.pure (Flow.goes_plain rfl) (Flow.two.upd (by decide)) fun a L s w' hC hL hn hs hd => ?_
          skip
          exact ⟨_, op_load27 rfl (hd 2 21 (by kernel_rfl)) (((unhide HJ3).below (hC.pre (hn.after 14 (by kernel_rfl)))).arr.cell (i := 0) rfl), rfl⟩
        · exact Flow.move (Flow.goes_plain rfl) (Flow.two.upd (by decide)) (.inl rfl) fun a s w' hs hd => (hs 0 (by kernel_rfl))
        · exact Flow.move (Flow.goes_plain rfl) (Flow.two.upd (by decide)) (.inl rfl) fun a s w' hs hd => (hs 1 (by kernel_rfl))
        · exact Flow.pure (Flow.goes_plain rfl) (Flow.two.upd (by decide)) fun a L s w' hC hL hn hs hd => ⟨_, op_nil rfl (hd 4 23 (by kernel_rfl)) w', rfl⟩
        · exact Flow.pure (Flow.goes_plain rfl) (Flow.two.upd (by decide)) fun a L s w' hC hL hn hs hd => ⟨_, op_f165_1 rfl (hd 6 25 (by kernel_rfl)) w', rfl⟩
        · refine Flow.pure (Flow.goes_plain rfl) (Flow.two.upd (by decide)) fun a L s w' hC hL hn hs hd => ?_
          skip
          exact ⟨_, op_idx29 rfl (hd 7 26 (by kernel_rfl)) (hd 5 24 (by kernel_rfl)) (by omega) w', rfl⟩
        · refine Flow.pure (Flow.goes_plain rfl) (Flow.two.upd (by decide)) fun a L s w' hC hL hn hs hd => ?_
          skip
          exact ⟨_, op_load3 rfl (hd 8 27 (by kernel_rfl)) ((((unhide HJ3).below (hC.pre (hn.after 14 (by kernel_rfl)))).bank hi).trans (by rw [unhide HBK]; rfl)), rfl⟩
        · exact Flow.move (Flow.goes_plain rfl) (Flow.two.upd (by decide)) (.inl rfl) fun a s w' hs hd => (hs 2 (by kernel_rfl))
        · exact Flow.move (Flow.goes_plain rfl) (Flow.two.upd (by decide)) (.inl rfl) fun a s w' hs hd => (hs 9 (by kernel_rfl))
        · refine Flow.pure (Flow.goes_plain rfl) (Flow.two.upd (by decide)) fun a L s w' hC hL hn hs hd => ?_
          skip
          exact ⟨_, op_add3 rfl (hd 10 29 (by kernel_rfl)) (hd 11 30 (by kernel_rfl)) (by omega) (by omega) (by omega) w', rfl⟩
        · refine Flow.pure (Flow.goes_plain rfl) (Flow.two.upd (by decide)) fun a L s w' hC hL hn hs hd => ?_
          skip
          exact ⟨_, op_load136 rfl (hs 10 (by kernel_rfl)) (by rw [← unhide HCS]; exact ((unhide HA3).below (hC.pre (hn.after 14 (by kernel_rfl)))).range) (unhide HSEC), rfl⟩
        · refine Flow.call (Flow.goes_plain rfl) fun a L s0 w' hC hL hn hs hd => ⟨146, _, op_call146 rfl (hd 3 22 (by kernel_rfl)) (hd 9 28 (by kernel_rfl)) (hd 12 31 (by kernel_rfl)) (hd 13 32 (by kernel_rfl)) rfl w', (unhide (HP w' (hC.pre hL))).mono ?_⟩
          rintro e w'' ⟨rfl, F3, D3, hM, hT⟩
          exact ⟨_, (), rfl, fun _ _ _ h => h, Flow.two.post ⟨F3, D3, hM, Turns.after (hC.pre hL) hT⟩, rfl⟩
        · exact Flow.move (Flow.goes_plain rfl) (Flow.two.upd (by decide)) (.inr rfl) fun a s w' hs hd => (hd 14 33 (by kernel_rfl))
        · intro L _ w4 hC hL vals hv
          obtain ⟨F3, D3, hM4, hT4⟩ := hC.end (hL 14 (by decide))
          have e15 : vals 15 = .int .i64 0 := hv 15 _ 11 rfl rfl
          simp only [Free.putAll, Act.put, List.setIfInBounds_toArray, List.set_cons_succ, List.set_cons_zero, e15]
          have HJ4 := hide ((unhide HJ3).turn hT4 hM4 (unhide HX1))
          have HG4 : Hid (g ∉ q :: (F3 ++ D3)) := hide ((unhide HJ4).2.apart (G := [g]) (fun k hk => by rw [List.mem_singleton.1 hk]; exact unhide HGN) (fun k hk => by rw [List.mem_singleton.1 hk]; exact (unhide HS3).lt) g (by simp))
          have HS4 := hide ((unhide HS3).but hT4.1 (fun e => unhide HGN (List.mem_cons_of_mem _ e)))
          clear hC hL hv e15 hM4 hT4 HJ3 HS3 HA3
          generalize vals 0 = t0 at *
          generalize vals 1 = t1 at *
          generalize vals 2 = t2 at *
          generalize vals 3 = t3 at *
          generalize vals 4 = t4 at *
          generalize vals 5 = t5 at *
          generalize vals 6 = t6 at *
          generalize vals 7 = t7 at *
          generalize vals 8 = t8 at *
          generalize vals 9 = t9 at *
          generalize vals 10 = t10 at *
          generalize vals 11 = t11 at *
          generalize vals 12 = t12 at *
          generalize vals 13 = t13 at *
          generalize vals 14 = t14 at *
          go_wp2
          go_roundw
          case rel => exact ⟨k + 1, F3, D3, d1, x1, by omega, rfl, (unhide HPJ).trans (unhide HON), (unhide HJ4).1, (unhide HT3).trans (unhide HJ4).2, unhide HS4, unhide HG4, by omega, by omega, (unhide HX1).trans (unhide HSZ)⟩
          case measure => simp [intOf]; omega
      · have hne : (e1 != 0) = true := by simpa using h0
        have HE : Hid (writeJ d x b at_ ss = (e1, d1, x1)) := hide (by unfold writeJ; rw [unhide HPJ, prog_stop (unhide HPG) h0]; simp [thenSync, h0])
        go_wp2_with fail
        refine Flow.wp_region (Flow.VV (fun ix => match ix with | 0 => .pointer (some ⟨q, 0, none⟩) | 1 => .pointer (some ⟨q, 0, none⟩) | 2 => .pointer (some ⟨q, 0, none⟩) | 3 => .pointer (some ⟨m, 0, none⟩) | 4 => .pointer (some ⟨q, 0, none⟩) | 5 => .int .i64 (i : Int) | 6 => .pointer (some ⟨q, 0, none⟩) | 7 => .pointer (some ⟨q, 1, none⟩) | 8 => .pointer (some ⟨q, 1 + i, none⟩) | 9 => .int .i64 (b : Int) | 10 => .int .i64 (at_ : Int) | 11 => .int .i64 (k : Int) | 12 => .int .i64 ((at_ + k : Nat) : Int) | 13 => secV s | 14 => .int .i64 e1 | 15 => .int .i64 e1 | _ => undef)) (Flow.two 14 (fun (_ : Unit) w' => Below w3.heap.size w3 w') (fun _ w' => ∃ F3 D3, PMap F3 D3 w' m p d1 x1 ∧ Turns (F' ++ D') (F3 ++ D3) w3 w')) () (by kernel_rfl) (by kernel_rfl) (Below.refl _ w3).drew ⟨?_, ?_, ?_, ?_, ?_, ?_, ?_, ?_, ?_, ?_, ?_, ?_, ?_, ?_, ?_, ?_, trivial⟩ ?_
        · exact Flow.move (Flow.goes_plain rfl) (Flow.two.upd (by decide)) (.inl rfl) fun a s w' hs hd => (hs 0 (by kernel_rfl))
        · exact Flow.pure (Flow.goes_plain rfl) (Flow.two.upd (by decide)) fun a L s w' hC hL hn hs hd => ⟨_, op_nil rfl (hd 0 19 (by kernel_rfl)) w', rfl⟩
        · exact Flow.pure (Flow.goes_plain rfl) (Flow.two.upd (by decide)) fun a L s w' hC hL hn hs hd => ⟨_, op_f165_0 rfl (hd 1 20 (by kernel_rfl)) w', rfl⟩
        · refine Flow.pure (Flow.goes_plain rfl) (Flow.two.upd (by decide)) fun a L s w' hC hL hn hs hd => ?_
          skip
          exact ⟨_, op_load27 rfl (hd 2 21 (by kernel_rfl)) (((unhide HJ3).below (hC.pre (hn.after 14 (by kernel_rfl)))).arr.cell (i := 0) rfl), rfl⟩
        · exact Flow.move (Flow.goes_plain rfl) (Flow.two.upd (by decide)) (.inl rfl) fun a s w' hs hd => (hs 0 (by kernel_rfl))
        · exact Flow.move (Flow.goes_plain rfl) (Flow.two.upd (by decide)) (.inl rfl) fun a s w' hs hd => (hs 1 (by kernel_rfl))
        · exact Flow.pure (Flow.goes_plain rfl) (Flow.two.upd (by decide)) fun a L s w' hC hL hn hs hd => ⟨_, op_nil rfl (hd 4 23 (by kernel_rfl)) w', rfl⟩
        · exact Flow.pure (Flow.goes_plain rfl) (Flow.two.upd (by decide)) fun a L s w' hC hL hn hs hd => ⟨_, op_f165_1 rfl (hd 6 25 (by kernel_rfl)) w', rfl⟩
        · refine Flow.pure (Flow.goes_plain rfl) (Flow.two.upd (by decide)) fun a L s w' hC hL hn hs hd => ?_
          skip
          exact ⟨_, op_idx29 rfl (hd 7 26 (by kernel_rfl)) (hd 5 24 (by kernel_rfl)) (by omega) w', rfl⟩
        · refine Flow.pure (Flow.goes_plain rfl) (Flow.two.upd (by decide)) fun a L s w' hC hL hn hs hd => ?_
          skip
          exact ⟨_, op_load3 rfl (hd 8 27 (by kernel_rfl)) ((((unhide HJ3).below (hC.pre (hn.after 14 (by kernel_rfl)))).bank hi).trans (by rw [unhide HBK]; rfl)), rfl⟩
        · exact Flow.move (Flow.goes_plain rfl) (Flow.two.upd (by decide)) (.inl rfl) fun a s w' hs hd => (hs 2 (by kernel_rfl))
        · exact Flow.move (Flow.goes_plain rfl) (Flow.two.upd (by decide)) (.inl rfl) fun a s w' hs hd => (hs 9 (by kernel_rfl))
        · refine Flow.pure (Flow.goes_plain rfl) (Flow.two.upd (by decide)) fun a L s w' hC hL hn hs hd => ?_
          skip
          exact ⟨_, op_add3 rfl (hd 10 29 (by kernel_rfl)) (hd 11 30 (by kernel_rfl)) (by omega) (by omega) (by omega) w', rfl⟩
        · refine Flow.pure (Flow.goes_plain rfl) (Flow.two.upd (by decide)) fun a L s w' hC hL hn hs hd => ?_
          skip
          exact ⟨_, op_load136 rfl (hs 10 (by kernel_rfl)) (by rw [← unhide HCS]; exact ((unhide HA3).below (hC.pre (hn.after 14 (by kernel_rfl)))).range) (unhide HSEC), rfl⟩
        · refine Flow.call (Flow.goes_plain rfl) fun a L s0 w' hC hL hn hs hd => ⟨146, _, op_call146 rfl (hd 3 22 (by kernel_rfl)) (hd 9 28 (by kernel_rfl)) (hd 12 31 (by kernel_rfl)) (hd 13 32 (by kernel_rfl)) rfl w', (unhide (HP w' (hC.pre hL))).mono ?_⟩
          rintro e w'' ⟨rfl, F3, D3, hM, hT⟩
          exact ⟨_, (), rfl, fun _ _ _ h => h, Flow.two.post ⟨F3, D3, hM, Turns.after (hC.pre hL) hT⟩, rfl⟩
        · exact Flow.move (Flow.goes_plain rfl) (Flow.two.upd (by decide)) (.inr rfl) fun a s w' hs hd => (hd 14 33 (by kernel_rfl))
        · intro L _ w4 hC hL vals hv
          obtain ⟨F3, D3, hM4, hT4⟩ := hC.end (hL 14 (by decide))
          have e15 : vals 15 = .int .i64 e1 := hv 15 _ 11 rfl rfl
          simp only [Free.putAll, Act.put, List.setIfInBounds_toArray, List.set_cons_succ, List.set_cons_zero, e15]
          have HJ4 := hide ((unhide HJ3).turn hT4 hM4 (unhide HX1))
          have HG4 : Hid (g ∉ q :: (F3 ++ D3)) := hide ((unhide HJ4).2.apart (G := [g]) (fun k hk => by rw [List.mem_singleton.1 hk]; exact unhide HGN) (fun k hk => by rw [List.mem_singleton.1 hk]; exact (unhide HS3).lt) g (by simp))
          have HS4 := hide ((unhide HS3).but hT4.1 (fun e => unhide HGN (List.mem_cons_of_mem _ e)))
          clear hC hL hv e15 hM4 hT4 HJ3 HS3 HA3
          generalize vals 0 = t0 at *
          generalize vals 1 = t1 at *
          generalize vals 2 = t2 at *
          generalize vals 3 = t3 at *
          generalize vals 4 = t4 at *
          generalize vals 5 = t5 at *
          generalize vals 6 = t6 at *
          generalize vals 7 = t7 at *
          generalize vals 8 = t8 at *
          generalize vals 9 = t9 at *
          generalize vals 10 = t10 at *
          generalize vals 11 = t11 at *
          generalize vals 12 = t12 at *
          generalize vals 13 = t13 at *
          generalize vals 14 = t14 at *
          go_wp2
          go_ret
          refine ⟨by rw [unhide HE]; rfl, ?_⟩
          rw [unhide HE]
          exact ⟨F3, D3, (unhide HJ4).1, (unhide HT3).trans (unhide HJ4).2⟩
    · have hkn : k = n := by omega
      subst hkn
      rw [show ss.drop k = [] by rw [← unhide HN, List.drop_length]] at hpj
      have HE : Hid (writeJ d x b at_ ss = ((syncD d').1, (syncD d').2, x')) := hide (by unfold writeJ; rw [hpj]; simp [progJ, thenSync])
      have HJ := hide hJ
      have HT := hide hT
      have hc0 := hJ.arr.cell (i := 0) rfl
      have HSY := hide (msync_walk hJ.map (by omega))
      clear hpj hJ hT hS hgn
      go_wp2_with fail
      refine (unhide HSY).mono ?_
      rintro e w3 ⟨rfl, D3, hM3, hT3⟩
      have HJ3 := hide ((unhide HJ).sync hT3 hM3)
      clear hM3 hT3 HSY hc0
      go_wp2
      go_ret
      refine ⟨by rw [unhide HE]; rfl, ?_⟩
      rw [unhide HE]
      exact ⟨F', D3, (unhide HJ3).1, (unhide HT).trans (unhide HJ3).2⟩
end
end Go.Proofs.YtdfdalkcljfghaaGreat
