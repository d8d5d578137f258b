/-
  A journal's Begin and Append, in memory.
-/
import Derived.Test.YtjebejdcjfnleaaJWrite
namespace Go.Proofs.Ytjebejdcjfnleaa
open Go.RowKit

section
variable {F D G : List Nat} {w w' : World} {q m p : Nat} {d : DM} {x : MX} {j : JX}
theorem Jour.next_to {j' : JX} (h : Jour F D w q m p d x j) (e : j' = j) : Jour F D w q m p d x j' := e ▸ h
theorem progJ_few : ∀ (ss : List Sec) (d : DM) (x : MX) (k at_ : Nat), (progJ d x k at_ ss).2.2.sz = x.sz
  | [], _, _, _, _ => rfl
  | s :: ss, d, x, k, at_ => by
    rw [progJ]
    split
    · exact programM_sz _ _ _ _ _
    · rw [progJ_few ss]; exact programM_sz _ _ _ _ _
theorem thenSync_sz (r : Int × DM × MX) : (thenSync r).2.2.sz = r.2.2.sz := by unfold thenSync; split <;> rfl
theorem sync_wait (d : DM) : (syncD d).2.wait.length ≤ d.wait.length := by
  unfold syncD
  split
  · exact Nat.le_refl _
  · split
    · rw [step_wait]; exact Nat.le_refl _
    · exact Nat.zero_le _
theorem thenSync_few (r : Int × DM × MX) : (thenSync r).2.1.wait.length ≤ r.2.1.wait.length ∧ (thenSync r).2.2.ops.length ≤ r.2.2.ops.length := by
  unfold thenSync
  split
  · exact ⟨Nat.le_refl _, Nat.le_refl _⟩
  · exact ⟨sync_wait _, Nat.le_refl _⟩

set_option maxHeartbeats 3200000 in
set_option maxRecDepth 100000 in
theorem begin_walk (h : Jour F D w q m p d x j) (v : Value) (b : Body) (hv : ∀ w', But (q :: (F ++ D)) w w' → RowV w'.heap.size w' v b) (hlen : d.wait.length ≤ 700000) (hop : x.ops.length ≤ 700000) :
    Calls Try.prog 10 #[.pointer (some ⟨q, 0, none⟩), v] w fun e w' => e = .returned (.int .i64 (beginJ d x j b).1) ∧
      ∃ F' D', Jour F' D' w' q m p (beginJ d x j b).2.1 (beginJ d x j b).2.2.1 (beginJ d x j b).2.2.2 ∧ Turns (q :: (F ++ D)) (q :: (F' ++ D')) w w' := by
  have HH := hide h
  have HV := hide hv
  obtain ⟨a, n, cap, rfl, hnc, hcm, _, hrow⟩ := hv w (But.refl _ _)
  have hbl : b.length = n := hrow.1
  have HF := hide (fits_walk h (n : Int))
  have HFE : Hid (fitsJ x.sz j (b.length : Int) = fitsJ x.sz j (n : Int)) := hide (by rw [hbl])
  have HFS : fitsJ x.sz j (n : Int) = true → n ≤ 4000 ∧ sizeF (n : Int) ≤ 64 := fun e => by
    have := fits_size (sz := x.sz) (j := j) (b := b) (by rw [hbl, e]; decide)
    rw [hbl] at this
    exact ⟨this.1, sizeF_le _⟩
  have hc4 := h.arr.cell (i := 4) rfl
  have hll := h.last
  have hin := h.ok.inn
  clear h hv hrow
  generalize hfit : fitsJ x.sz j (n : Int) = fit at *
  have HFIT := hide hfit
  clear hfit
  cases fit with
  | false =>
    have HB : Hid (beginJ d x j b = (92, d, x, j)) := hide (by unfold beginJ; rw [if_pos (.inl ((unhide HFE).trans rfl))])
    clear hbl HFS
    go_enter Try.func10, Try.ntmps10
    go_wp2_with fail
    refine (unhide HF).mono ?_
    rintro e w1 ⟨rfl, hb1, hs1⟩
    have HB1 := hide hb1
    clear hb1 HF
    go_wp2
    go_ret
    refine ⟨by rw [unhide HB]; rfl, ?_⟩
    rw [unhide HB]
    exact ⟨F, D, (unhide HH).below (unhide HB1), Turns.of_below (unhide HB1)⟩
  | true =>
    obtain ⟨hn4, hz64⟩ := HFS rfl
    clear HFS
    by_cases hbig : big ≤ j.last
    · have HB : Hid (beginJ d x j b = (92, d, x, j)) := hide (by unfold beginJ; rw [if_pos (.inr hbig)])
      unfold big at hbig
      have hbig2 : (4611686018427387904 : Int) ≤ (j.last : Int) := by omega
      clear hbl hbig hll
      go_enter Try.func10, Try.ntmps10
      go_wp2_with fail
      refine (unhide HF).mono ?_
      rintro e w1 ⟨rfl, hb1, hs1⟩
      have HB1 := hide hb1
      have hc4' := ((unhide HH).below hb1).arr.cell (i := 4) rfl
      clear hb1 HF hc4
      go_wp2
      go_ret
      refine ⟨by rw [unhide HB]; rfl, ?_⟩
      rw [unhide HB]
      exact ⟨F, D, (unhide HH).below (unhide HB1), Turns.of_below (unhide HB1)⟩
    · have HBE : Hid (beginJ d x j b = if (wipeJ d x (j.bk (1 - j.inn))).1 ≠ 0 then ((wipeJ d x (j.bk (1 - j.inn))).1, (wipeJ d x (j.bk (1 - j.inn))).2.1, (wipeJ d x (j.bk (1 - j.inn))).2.2, j.off)
          else if (writeJ (wipeJ d x (j.bk (1 - j.inn))).2.1 (wipeJ d x (j.bk (1 - j.inn))).2.2 (j.bk (1 - j.inn)) 0 (putF 1 (j.last + 1) b)).1 ≠ 0 then
            ((writeJ (wipeJ d x (j.bk (1 - j.inn))).2.1 (wipeJ d x (j.bk (1 - j.inn))).2.2 (j.bk (1 - j.inn)) 0 (putF 1 (j.last + 1) b)).1, (writeJ (wipeJ d x (j.bk (1 - j.inn))).2.1 (wipeJ d x (j.bk (1 - j.inn))).2.2 (j.bk (1 - j.inn)) 0 (putF 1 (j.last + 1) b)).2.1, (writeJ (wipeJ d x (j.bk (1 - j.inn))).2.1 (wipeJ d x (j.bk (1 - j.inn))).2.2 (j.bk (1 - j.inn)) 0 (putF 1 (j.last + 1) b)).2.2, j.off)
          else (0, (writeJ (wipeJ d x (j.bk (1 - j.inn))).2.1 (wipeJ d x (j.bk (1 - j.inn))).2.2 (j.bk (1 - j.inn)) 0 (putF 1 (j.last + 1) b)).2.1, (writeJ (wipeJ d x (j.bk (1 - j.inn))).2.1 (wipeJ d x (j.bk (1 - j.inn))).2.2 (j.bk (1 - j.inn)) 0 (putF 1 (j.last + 1) b)).2.2, { j with inn := 1 - j.inn, last := j.last + 1, next := (putF 1 (j.last + 1) b).length, ready := true })) := hide (by
        unfold beginJ
        rw [if_neg (by rw [not_or]; exact ⟨by rw [unhide HFE]; decide, hbig⟩)])
      have hwsz : (wipeJ d x (j.bk (1 - j.inn))).2.2.sz = x.sz := by
        unfold wipeJ; rw [thenSync_sz, wipeM_sz]
      have hwfew : (wipeJ d x (j.bk (1 - j.inn))).2.1.wait.length ≤ d.wait.length + 4096 ∧ (wipeJ d x (j.bk (1 - j.inn))).2.2.ops.length ≤ x.ops.length + 4096 := by
        unfold wipeJ
        have h1 := thenSync_few (wipeM d x (j.bk (1 - j.inn)))
        have h2 := wipeM_few (d := d) (unhide HH).map.map.sum (j.bk (1 - j.inn) : Int)
        omega
      have hput := putF_length (b := b) (by omega) 1 (j.last + 1)
      have hone := sizeF_one (n := b.length) (by omega)
      rw [hbl] at hput hone
      have HPL : Hid ((putF 1 (j.last + 1) b).length ≤ 64 ∧ 0 < (putF 1 (j.last + 1) b).length) := hide (by omega)
      unfold big at hbig
      have HLB : Hid (j.last < 4611686018427387904) := hide (by omega)
      have hcmp : decide ((4611686018427387904 : Int) ≤ (j.last : Int)) = false := by simp; omega
      have HOTH : Hid ((1 : Int) - (j.inn : Int) = ((1 - j.inn : Nat) : Int)) := hide (by omega)
      have ho1 : 1 - j.inn ≤ 1 := by omega
      -- ready is off
      have HO : ∀ w', Below w.heap.size w w' → Hid (Jour F D (w'.setCell ⟨q, 6, none⟩ (.bool false)) q m p d x j.off ∧ Turns (q :: (F ++ D)) (q :: (F ++ D)) w' (w'.setCell ⟨q, 6, none⟩ (.bool false))) := fun w' hb =>
        hide (((unhide HH).below hb).field (j' := j.off) 6 (.bool false) rfl ⟨(unhide HH).ok.a, (unhide HH).ok.b, (unhide HH).ok.ne, (unhide HH).ok.inn⟩ (unhide HH).last (unhide HH).next)
      have HW : ∀ w' : World, Jour F D w' q m p d x j.off → Hid (Calls Try.prog 28 #[.pointer (some ⟨q, 0, none⟩), .int .i64 (1 - (j.inn : Int))] w' fun e w2 => e = .returned (.int .i64 (wipeJ d x (j.bk (1 - j.inn))).1) ∧ ∃ F' D', Jour F' D' w2 q m p (wipeJ d x (j.bk (1 - j.inn))).2.1 (wipeJ d x (j.bk (1 - j.inn))).2.2 j.off ∧ Turns (q :: (F ++ D)) (q :: (F' ++ D')) w' w2) := fun w' hj => by
        rw [unhide HOTH]
        exact hide (wipeJ_walk hj (1 - j.inn) ho1 (by omega) (by omega))
      generalize hu : wipeJ d x (j.bk (1 - j.inn)) = u at *
      obtain ⟨e1, d1, x1⟩ := u
      have hx1 : x1.sz = x.sz := hwsz
      have hfw : d1.wait.length ≤ d.wait.length + 4096 ∧ x1.ops.length ≤ x.ops.length + 4096 := hwfew
      have HX1 := hide hx1
      clear hu hwsz hwfew hbl hbig hput hone hx1 hll
      by_cases h1 : e1 = 0
      · subst h1
        have HBE2 := hide ((unhide HBE).trans (if_neg (by simp)))
        clear HBE
        have HWR : ∀ (w' : World) (F1 D1 : List Nat) (g c : Nat), Jour F1 D1 w' q m p d1 x1 j.off → SecAt w' g (putF 1 (j.last + 1) b) → g ∉ q :: (F1 ++ D1) → (putF 1 (j.last + 1) b).length ≤ c → Hid (Calls Try.prog 26 #[.pointer (some ⟨q, 0, none⟩), .int .i64 (1 - (j.inn : Int)), .int .i64 0, .slice (some ⟨g, 0, none⟩) (putF 1 (j.last + 1) b).length c] w' fun e w2 =>
            e = .returned (.int .i64 (writeJ d1 x1 (j.bk (1 - j.inn)) 0 (putF 1 (j.last + 1) b)).1) ∧ ∃ F' D', Jour F' D' w2 q m p (writeJ d1 x1 (j.bk (1 - j.inn)) 0 (putF 1 (j.last + 1) b)).2.1 (writeJ d1 x1 (j.bk (1 - j.inn)) 0 (putF 1 (j.last + 1) b)).2.2 j.off ∧ Turns (q :: (F1 ++ D1)) (q :: (F' ++ D')) w' w2) := fun w' F1 D1 g c hj hs hg hc => by
          rw [unhide HOTH]
          exact hide (write_walk hj (1 - j.inn) ho1 0 (by omega) _ g c hs hg (unhide HPL).1 hc (by omega) (by omega))
        have hrsz : (writeJ d1 x1 (j.bk (1 - j.inn)) 0 (putF 1 (j.last + 1) b)).2.2.sz = x.sz := by
          unfold writeJ; rw [thenSync_sz, progJ_few]; exact unhide HX1
        have HPUT : ∀ (w' : World) (N : Nat), N ≤ w'.heap.size → RowV N w' (.slice a n cap) b → Hid (Calls Try.prog 25 #[.int .u8 1, .int .u64 ((j.last : Int) + 1), .slice a n cap] w' fun e w2 => ∃ v', e = .returned v' ∧ SOwn w'.heap.size w2 v' (putF 1 (j.last + 1) b) ∧ Below w'.heap.size w' w2) := fun w' N hN hr =>
          hide (put_sectors N 1 (j.last + 1) (by have := unhide HLB; omega) (.slice a n cap) b w' hN hr)
        generalize hr : writeJ d1 x1 (j.bk (1 - j.inn)) 0 (putF 1 (j.last + 1) b) = r at *
        obtain ⟨e2, d2, x2⟩ := r
        have HX2 : Hid (x2.sz = x.sz) := hide hrsz
        clear hr hrsz
        generalize hps : putF 1 (j.last + 1) b = ps at *
        have hpl := (unhide HPL).2
        have hpl6 := (unhide HPL).1
        obtain ⟨pn, hpn⟩ : ∃ pn, ps.length = pn := ⟨_, rfl⟩
        have HPN := hide hpn
        rw [hpn] at hpl hpl6
        clear hps hpn
        by_cases h2 : e2 = 0
        · subst h2
          have HBE3 := hide ((unhide HBE2).trans (if_neg (by simp)))
          clear HBE2
          go_enter Try.func10, Try.ntmps10
          go_wp2_with fail
          refine (unhide HF).mono ?_
          rintro e w1 ⟨rfl, hb1, hs1⟩
          have HB1 := hide hb1
          have hJ1 := (unhide HH).below hb1
          have HO1 := hide (unhide (HO w1 hb1))
          have hc4' := hJ1.arr.cell (i := 4) rfl
          have hc6 := hJ1.arr.cell (i := 6) rfl
          have hf6 := hJ1.arr.free 6
          have hc3 : (w1.setCell ⟨q, 6, none⟩ (.bool false)).cell? ⟨q, 3, none⟩ = some (.int .i64 (j.inn : Int)) := (unhide HO1).1.arr.cell (i := 3) rfl
          have HW1 := HW _ (unhide HO1).1
          clear hb1 HF hJ1 HO HW hc4
          go_wp2_with fail
          refine (unhide HW1).mono ?_
          rintro e w2 ⟨rfl, F2, D2, hJ2, hT2⟩
          have HJ2 := hide hJ2
          have HT2 := hide ((Turns.of_below (unhide HB1)).trans ((unhide HO1).2.trans hT2))
          clear hJ2 hT2 HW1 HO1 hc4' hc6 hf6 hc3 hs1
          have hc42 : w2.cell? ⟨q, 4, none⟩ = some (.int .u64 (j.last : Int)) := (unhide HJ2).arr.cell (i := 4) rfl
          have HP2 := HPUT w2 w2.heap.size (Nat.le_refl _) ((unhide HV) w2 (unhide HT2).1)
          clear HPUT
          have hlb := unhide HLB
          clear hcmp
          go_wp2_with fail
          clear hlb
          refine (unhide HP2).mono ?_
          rintro e w3 ⟨v3, rfl, hO3, hb3⟩
          obtain ⟨g, c, rfl, hg3, hpc, _, hS3⟩ := hO3.at (by rw [unhide HPN]; exact hpl)
          have HJ3 := hide ((unhide HJ2).below hb3)
          have HT3 := hide ((unhide HT2).then hb3)
          have hgn : g ∉ q :: (F2 ++ D2) := fun e => by
            have := (unhide HJ2).lt g e
            omega
          have HWR3 := HWR w3 F2 D2 g c (unhide HJ3) hS3 hgn hpc
          rw [unhide HPN] at HWR3
          simp only [unhide HPN]
          clear HP2 hO3 hb3 hS3 hgn HWR hc42 HJ2 HT2
          go_wp2_with fail
          refine (unhide HWR3).mono ?_
          rintro e w4 ⟨rfl, F4, D4, hJ4, hT4⟩
          have HJ4 := hide hJ4
          have HT4 := hide ((unhide HT3).trans hT4)
          clear hJ4 hT4 HWR3 HT3 HJ3
          have h5 := (unhide HJ4).field (j' := { j.off with inn := 1 - j.inn }) 3 (.int .i64 ((1 - j.inn : Nat) : Int)) rfl ⟨(unhide HJ4).ok.a, (unhide HJ4).ok.b, (unhide HJ4).ok.ne, ho1⟩ (unhide HJ4).last (unhide HJ4).next
          rw [← unhide HOTH] at h5
          have HJ5 := hide h5
          have hc34 : w4.cell? ⟨q, 3, none⟩ = some (.int .i64 (j.inn : Int)) := (unhide HJ4).arr.cell (i := 3) rfl
          have hf34 := (unhide HJ4).arr.free 3
          have HWT := hide (wrote_walk (unhide HJ5).1 0 pn c (some ⟨g, 0, none⟩) (unhide HLB) (by omega))
          clear h5
          go_wp2_with fail
          refine (unhide HWT).mono ?_
          rintro e w6 ⟨rfl, hJ6, hT6⟩
          have HJ6 := hide hJ6
          have HT6 := hide ((unhide HT4).trans ((unhide HJ5).2.trans hT6))
          clear hJ6 hT6 HWT HJ5 HT4 HJ4 hc34 hf34
          go_wp2
          go_ret
          refine ⟨by rw [unhide HBE3]; rfl, ?_⟩
          rw [unhide HBE3]
          refine ⟨F4, D4, (unhide HJ6).next_to ?_, unhide HT6⟩
          rw [unhide HPN]
          simp [JX.wrote, JX.off]

        · have HBE3 := hide ((unhide HBE2).trans (if_pos (by simpa using h2)))
          have hne : (e2 != 0) = true := by simpa using h2
          clear HBE2
          go_enter Try.func10, Try.ntmps10
          go_wp2_with fail
          refine (unhide HF).mono ?_
          rintro e w1 ⟨rfl, hb1, hs1⟩
          have HB1 := hide hb1
          have hJ1 := (unhide HH).below hb1
          have HO1 := hide (unhide (HO w1 hb1))
          have hc4' := hJ1.arr.cell (i := 4) rfl
          have hc6 := hJ1.arr.cell (i := 6) rfl
          have hf6 := hJ1.arr.free 6
          have hc3 : (w1.setCell ⟨q, 6, none⟩ (.bool false)).cell? ⟨q, 3, none⟩ = some (.int .i64 (j.inn : Int)) := (unhide HO1).1.arr.cell (i := 3) rfl
          have HW1 := HW _ (unhide HO1).1
          clear hb1 HF hJ1 HO HW hc4
          go_wp2_with fail
          refine (unhide HW1).mono ?_
          rintro e w2 ⟨rfl, F2, D2, hJ2, hT2⟩
          have HJ2 := hide hJ2
          have HT2 := hide ((Turns.of_below (unhide HB1)).trans ((unhide HO1).2.trans hT2))
          clear hJ2 hT2 HW1 HO1 hc4' hc6 hf6 hc3 hs1
          have hc42 : w2.cell? ⟨q, 4, none⟩ = some (.int .u64 (j.last : Int)) := (unhide HJ2).arr.cell (i := 4) rfl
          have HP2 := HPUT w2 w2.heap.size (Nat.le_refl _) ((unhide HV) w2 (unhide HT2).1)
          clear HPUT
          have hlb := unhide HLB
          clear hcmp
          go_wp2_with fail
          clear hlb
          refine (unhide HP2).mono ?_
          rintro e w3 ⟨v3, rfl, hO3, hb3⟩
          obtain ⟨g, c, rfl, hg3, hpc, _, hS3⟩ := hO3.at (by rw [unhide HPN]; exact hpl)
          have HJ3 := hide ((unhide HJ2).below hb3)
          have HT3 := hide ((unhide HT2).then hb3)
          have hgn : g ∉ q :: (F2 ++ D2) := fun e => by
            have := (unhide HJ2).lt g e
            omega
          have HWR3 := HWR w3 F2 D2 g c (unhide HJ3) hS3 hgn hpc
          rw [unhide HPN] at HWR3
          simp only [unhide HPN]
          clear HP2 hO3 hb3 hS3 hgn HWR hc42 HJ2 HT2
          go_wp2_with fail
          refine (unhide HWR3).mono ?_
          rintro e w4 ⟨rfl, F4, D4, hJ4, hT4⟩
          have HJ4 := hide hJ4
          have HT4 := hide ((unhide HT3).trans hT4)
          clear hJ4 hT4 HWR3 HT3 HJ3
          go_wp2
          go_ret
          refine ⟨by rw [unhide HBE3]; rfl, ?_⟩
          rw [unhide HBE3]
          exact ⟨F4, D4, unhide HJ4, unhide HT4⟩

      · have HBE2 := hide ((unhide HBE).trans (if_pos (by simpa using h1)))
        have hne : (e1 != 0) = true := by simpa using h1
        clear HBE HPL
        go_enter Try.func10, Try.ntmps10
        go_wp2_with fail
        refine (unhide HF).mono ?_
        rintro e w1 ⟨rfl, hb1, hs1⟩
        have HB1 := hide hb1
        have hJ1 := (unhide HH).below hb1
        have HO1 := hide (unhide (HO w1 hb1))
        have hc4' := hJ1.arr.cell (i := 4) rfl
        have hc6 := hJ1.arr.cell (i := 6) rfl
        have hf6 := hJ1.arr.free 6
        have hc3 : (w1.setCell ⟨q, 6, none⟩ (.bool false)).cell? ⟨q, 3, none⟩ = some (.int .i64 (j.inn : Int)) := (unhide HO1).1.arr.cell (i := 3) rfl
        have HW1 := HW _ (unhide HO1).1
        clear hb1 HF hJ1 HO HW hc4
        go_wp2_with fail
        refine (unhide HW1).mono ?_
        rintro e w2 ⟨rfl, F2, D2, hJ2, hT2⟩
        have HJ2 := hide hJ2
        have HT2 := hide ((Turns.of_below (unhide HB1)).trans ((unhide HO1).2.trans hT2))
        clear hJ2 hT2 HW1 HO1 hc4' hc6 hf6 hc3 hs1
        go_wp2
        go_ret
        refine ⟨by rw [unhide HBE2]; rfl, ?_⟩
        rw [unhide HBE2]
        exact ⟨F2, D2, unhide HJ2, unhide HT2⟩

end
end Go.Proofs.Ytjebejdcjfnleaa
