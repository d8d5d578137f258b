/-
  A journal's Begin and Append, in memory. A journal's Append, in memory.
-/
import Derived.Test.YtdfdalkcljfghaaGreatJWrite
namespace Go.Proofs.YtdfdalkcljfghaaGreat
open Go.RowKit

section
variable {F D G : List Nat} {w w' : World} {q m p : Nat} {d : DM} {x : MX} {j : JX}
theorem Jour.next_to {j' : JX} (h : Jour F D w q m p d x j) (e : j' = j) : Jour F D w q m p d x j' := e ▸ h
theorem progJ_few : ∀ (ss : List Sec) (d : DM) (x : MX) (k at_ : Nat), (progJ d x k at_ ss).2.2.sz = x.sz
  | [], _, _, _, _ => rfl
  | s :: ss, d, x, k, at_ => by
    rw [progJ]
    split
    · exact programM_sz _ _ _ _ _
    · rw [progJ_few ss]; exact programM_sz _ _ _ _ _
theorem thenSync_sz (r : Int × DM × MX) : (thenSync r).2.2.sz = r.2.2.sz := by unfold thenSync; split <;> rfl
theorem sync_wait (d : DM) : (syncD d).2.wait.length ≤ d.wait.length := by
  unfold syncD
  split
  · exact Nat.le_refl _
  · split
    · rw [step_wait]; exact Nat.le_refl _
    · exact Nat.zero_le _
theorem thenSync_few (r : Int × DM × MX) : (thenSync r).2.1.wait.length ≤ r.2.1.wait.length ∧ (thenSync r).2.2.ops.length ≤ r.2.2.ops.length := by
  unfold thenSync
  split
  · exact ⟨Nat.le_refl _, Nat.le_refl _⟩
  · exact ⟨sync_wait _, Nat.le_refl _⟩

set_option maxHeartbeats 3200000 in
set_option maxRecDepth 100000 in
theorem begin_walk (h : Jour F D w q m p d x j) (v : Value) (b : Body) (hv : ∀ w', But (q :: (F ++ D)) w w' → RowV w'.heap.size w' v b) (hlen : d.wait.length ≤ 700000) (hop : x.ops.length ≤ 700000) :
    Calls Tryz.prog 102 #[.pointer (some ⟨q, 0, none⟩), v] w fun e w' => e = .returned (.int .i64 (beginJ d x j b).1) ∧
      ∃ F' D', Jour F' D' w' q m p (beginJ d x j b).2.1 (beginJ d x j b).2.2.1 (beginJ d x j b).2.2.2 ∧ Turns (q :: (F ++ D)) (q :: (F' ++ D')) w w' := by
  have HH := hide h
  have HV := hide hv
  obtain ⟨a, n, cap, rfl, hnc, hcm, _, hrow⟩ := hv w (But.refl _ _)
  have hbl : b.length = n := hrow.1
  have HF := hide (fits_walk h (n : Int))
  have HFE : Hid (fitsJ x.sz j (b.length : Int) = fitsJ x.sz j (n : Int)) := hide (by rw [hbl])
  have HFS : fitsJ x.sz j (n : Int) = true → n ≤ 4000 ∧ sizeF (n : Int) ≤ 64 := fun e => by
    have := fits_size (sz := x.sz) (j := j) (b := b) (by rw [hbl, e]; decide)
    rw [hbl] at this
    exact ⟨this.1, sizeF_le _⟩
  have hc4 := h.arr.cell (i := 4) rfl
  have hll := h.last
  have hin := h.ok.inn
  clear h hv hrow
  generalize hfit : fitsJ x.sz j (n : Int) = fit at *
  have HFIT := hide hfit
  clear hfit
  cases fit with
  | false =>
    have HB : Hid (beginJ d x j b = (92, d, x, j)) := hide (by unfold beginJ; rw [if_pos (.inl ((unhide HFE).trans rfl))])
    clear hbl HFS
    go_enter Tryz.func102, Tryz.ntmps102
    go_wp2_with fail
    refine (unhide HF).mono ?_
    rintro e w1 ⟨rfl, hb1, hs1⟩
    have HB1 := hide hb1
    clear hb1 HF
    go_wp2
    go_ret
    refine ⟨by rw [unhide HB]; rfl, ?_⟩
    rw [unhide HB]
    exact ⟨F, D, (unhide HH).below (unhide HB1), Turns.of_below (unhide HB1)⟩
  | true =>
    obtain ⟨hn4, hz64⟩ := HFS rfl
    clear HFS
    by_cases hbig : big ≤ j.last
    · have HB : Hid (beginJ d x j b = (92, d, x, j)) := hide (by unfold beginJ; rw [if_pos (.inr hbig)])
      unfold big at hbig
      have hbig2 : (4611686018427387904 : Int) ≤ (j.last : Int) := by omega
      clear hbl hbig hll
      go_enter Tryz.func102, Tryz.ntmps102
      go_wp2_with fail
      refine (unhide HF).mono ?_
      rintro e w1 ⟨rfl, hb1, hs1⟩
      have HB1 := hide hb1
      have hc4' := ((unhide HH).below hb1).arr.cell (i := 4) rfl
      clear hb1 HF hc4
      go_wp2
      go_ret
      refine ⟨by rw [unhide HB]; rfl, ?_⟩
      rw [unhide HB]
      exact ⟨F, D, (unhide HH).below (unhide HB1), Turns.of_below (unhide HB1)⟩
    · have HBE : Hid (beginJ d x j b = if (wipeJ d x (j.bk (1 - j.inn))).1 ≠ 0 then ((wipeJ d x (j.bk (1 - j.inn))).1, (wipeJ d x (j.bk (1 - j.inn))).2.1, (wipeJ d x (j.bk (1 - j.inn))).2.2, j.off)
          else if (writeJ (wipeJ d x (j.bk (1 - j.inn))).2.1 (wipeJ d x (j.bk (1 - j.inn))).2.2 (j.bk (1 - j.inn)) 0 (putF 1 (j.last + 1) b)).1 ≠ 0 then
            ((writeJ (wipeJ d x (j.bk (1 - j.inn))).2.1 (wipeJ d x (j.bk (1 - j.inn))).2.2 (j.bk (1 - j.inn)) 0 (putF 1 (j.last + 1) b)).1, (writeJ (wipeJ d x (j.bk (1 - j.inn))).2.1 (wipeJ d x (j.bk (1 - j.inn))).2.2 (j.bk (1 - j.inn)) 0 (putF 1 (j.last + 1) b)).2.1, (writeJ (wipeJ d x (j.bk (1 - j.inn))).2.1 (wipeJ d x (j.bk (1 - j.inn))).2.2 (j.bk (1 - j.inn)) 0 (putF 1 (j.last + 1) b)).2.2, j.off)
          else (0, (writeJ (wipeJ d x (j.bk (1 - j.inn))).2.1 (wipeJ d x (j.bk (1 - j.inn))).2.2 (j.bk (1 - j.inn)) 0 (putF 1 (j.last + 1) b)).2.1, (writeJ (wipeJ d x (j.bk (1 - j.inn))).2.1 (wipeJ d x (j.bk (1 - j.inn))).2.2 (j.bk (1 - j.inn)) 0 (putF 1 (j.last + 1) b)).2.2, { j with inn := 1 - j.inn, last := j.last + 1, next := (putF 1 (j.last + 1) b).length, ready := true })) := hide (by
        unfold beginJ
        rw [if_neg (by rw [not_or]; exact ⟨by rw [unhide HFE]; decide, hbig⟩)])
      have hwsz : (wipeJ d x (j.bk (1 - j.inn))).2.2.sz = x.sz := by
        unfold wipeJ; rw [thenSync_sz, wipeM_sz]
      have hwfew : (wipeJ d x (j.bk (1 - j.inn))).2.1.wait.length ≤ d.wait.length + 4096 ∧ (wipeJ d x (j.bk (1 - j.inn))).2.2.ops.length ≤ x.ops.length + 4096 := by
        unfold wipeJ
        have h1 := thenSync_few (wipeM d x (j.bk (1 - j.inn)))
        have h2 := wipeM_few (d := d) (unhide HH).map.map.sum (j.bk (1 - j.inn) : Int)
        omega
      have hput := putF_length (b := b) (by omega) 1 (j.last + 1)
      have hone := sizeF_one (n := b.length) (by omega)
      rw [hbl] at hput hone
      have HPL : Hid ((putF 1 (j.last + 1) b).length ≤ 64 ∧ 0 < (putF 1 (j.last + 1) b).length) := hide (by omega)
      unfold big at hbig
      have HLB : Hid (j.last < 4611686018427387904) := hide (by omega)
      have hcmp : decide ((4611686018427387904 : Int) ≤ (j.last : Int)) = false := by simp; omega
      have HOTH : Hid ((1 : Int) - (j.inn : Int) = ((1 - j.inn : Nat) : Int)) := hide (by omega)
      have ho1 : 1 - j.inn ≤ 1 := by omega
      -- ready is off
      have HO : ∀ w', Below w.heap.size w w' → Hid (Jour F D (w'.setCell ⟨q, 6, none⟩ (.bool false)) q m p d x j.off ∧ Turns (q :: (F ++ D)) (q :: (F ++ D)) w' (w'.setCell ⟨q, 6, none⟩ (.bool false))) := fun w' hb =>
        hide (((unhide HH).below hb).field (j' := j.off) 6 (.bool false) rfl ⟨(unhide HH).ok.a, (unhide HH).ok.b, (unhide HH).ok.ne, (unhide HH).ok.inn⟩ (unhide HH).last (unhide HH).next)
      have HW : ∀ w' : World, Jour F D w' q m p d x j.off → Hid (Calls Tryz.prog 130 #[.pointer (some ⟨q, 0, none⟩), .int .i64 (1 - (j.inn : Int))] w' fun e w2 => e = .returned (.int .i64 (wipeJ d x (j.bk (1 - j.inn))).1) ∧ ∃ F' D', Jour F' D' w2 q m p (wipeJ d x (j.bk (1 - j.inn))).2.1 (wipeJ d x (j.bk (1 - j.inn))).2.2 j.off ∧ Turns (q :: (F ++ D)) (q :: (F' ++ D')) w' w2) := fun w' hj => by
        rw [unhide HOTH]
        exact hide (wipeJ_walk hj (1 - j.inn) ho1 (by omega) (by omega))
      generalize hu : wipeJ d x (j.bk (1 - j.inn)) = u at *
      obtain ⟨e1, d1, x1⟩ := u
      have hx1 : x1.sz = x.sz := hwsz
      have hfw : d1.wait.length ≤ d.wait.length + 4096 ∧ x1.ops.length ≤ x.ops.length + 4096 := hwfew
      have HX1 := hide hx1
      clear hu hwsz hwfew hbl hbig hput hone hx1 hll
      by_cases h1 : e1 = 0
      · subst h1
        have HBE2 := hide ((unhide HBE).trans (if_neg (by simp)))
        clear HBE
        have HWR : ∀ (w' : World) (F1 D1 : List Nat) (g c : Nat), Jour F1 D1 w' q m p d1 x1 j.off → SecAt w' g (putF 1 (j.last + 1) b) → g ∉ q :: (F1 ++ D1) → (putF 1 (j.last + 1) b).length ≤ c → Hid (Calls Tryz.prog 127 #[.pointer (some ⟨q, 0, none⟩), .int .i64 (1 - (j.inn : Int)), .int .i64 0, .slice (some ⟨g, 0, none⟩) (putF 1 (j.last + 1) b).length c] w' fun e w2 =>
            e = .returned (.int .i64 (writeJ d1 x1 (j.bk (1 - j.inn)) 0 (putF 1 (j.last + 1) b)).1) ∧ ∃ F' D', Jour F' D' w2 q m p (writeJ d1 x1 (j.bk (1 - j.inn)) 0 (putF 1 (j.last + 1) b)).2.1 (writeJ d1 x1 (j.bk (1 - j.inn)) 0 (putF 1 (j.last + 1) b)).2.2 j.off ∧ Turns (q :: (F1 ++ D1)) (q :: (F' ++ D')) w' w2) := fun w' F1 D1 g c hj hs hg hc => by
          rw [unhide HOTH]
          exact hide (write_walk hj (1 - j.inn) ho1 0 (by omega) _ g c hs hg (unhide HPL).1 hc (by omega) (by omega))
        have hrsz : (writeJ d1 x1 (j.bk (1 - j.inn)) 0 (putF 1 (j.last + 1) b)).2.2.sz = x.sz := by
          unfold writeJ; rw [thenSync_sz, progJ_few]; exact unhide HX1
        have HPUT : ∀ (w' : World) (N : Nat), N ≤ w'.heap.size → RowV N w' (.slice a n cap) b → Hid (Calls Tryz.prog 126 #[.int .u8 1, .int .u64 ((j.last : Int) + 1), .slice a n cap] w' fun e w2 => ∃ v', e = .returned v' ∧ SOwn w'.heap.size w2 v' (putF 1 (j.last + 1) b) ∧ Below w'.heap.size w' w2) := fun w' N hN hr =>
          hide (put_sectors N 1 (j.last + 1) (by have := unhide HLB; omega) (.slice a n cap) b w' hN hr)
        generalize hr : writeJ d1 x1 (j.bk (1 - j.inn)) 0 (putF 1 (j.last + 1) b) = r at *
        obtain ⟨e2, d2, x2⟩ := r
        have HX2 : Hid (x2.sz = x.sz) := hide hrsz
        clear hr hrsz
        generalize hps : putF 1 (j.last + 1) b = ps at *
        have hpl := (unhide HPL).2
        have hpl6 := (unhide HPL).1
        obtain ⟨pn, hpn⟩ : ∃ pn, ps.length = pn := ⟨_, rfl⟩
        have HPN := hide hpn
        rw [hpn] at hpl hpl6
        clear hps hpn
        by_cases h2 : e2 = 0
        · subst h2
          have HBE3 := hide ((unhide HBE2).trans (if_neg (by simp)))
          clear HBE2
          go_enter Tryz.func102, Tryz.ntmps102
          go_wp2_with fail
          refine (unhide HF).mono ?_
          rintro e w1 ⟨rfl, hb1, hs1⟩
          have HB1 := hide hb1
          have hJ1 := (unhide HH).below hb1
          have HO1 := hide (unhide (HO w1 hb1))
          have hc4' := hJ1.arr.cell (i := 4) rfl
          have hc6 := hJ1.arr.cell (i := 6) rfl
          have hf6 := hJ1.arr.free 6
          have hc3 : (w1.setCell ⟨q, 6, none⟩ (.bool false)).cell? ⟨q, 3, none⟩ = some (.int .i64 (j.inn : Int)) := (unhide HO1).1.arr.cell (i := 3) rfl
          have HW1 := HW _ (unhide HO1).1
          clear hb1 HF hJ1 HO HW hc4
          go_wp2_with fail
          refine (unhide HW1).mono ?_
          rintro e w2 ⟨rfl, F2, D2, hJ2, hT2⟩
          have HJ2 := hide hJ2
          have HT2 := hide ((Turns.of_below (unhide HB1)).trans ((unhide HO1).2.trans hT2))
          clear hJ2 hT2 HW1 HO1 hc4' hc6 hf6 hc3 hs1
          have hc42 : w2.cell? ⟨q, 4, none⟩ = some (.int .u64 (j.last : Int)) := (unhide HJ2).arr.cell (i := 4) rfl
          have HP2 := HPUT w2 w2.heap.size (Nat.le_refl _) ((unhide HV) w2 (unhide HT2).1)
          clear HPUT
          have hlb := unhide HLB
          clear hcmp
          go_wp2_with fail
          clear hlb
          refine (unhide HP2).mono ?_
          rintro e w3 ⟨v3, rfl, hO3, hb3⟩
          obtain ⟨g, c, rfl, hg3, hpc, _, hS3⟩ := hO3.at (by rw [unhide HPN]; exact hpl)
          have HJ3 := hide ((unhide HJ2).below hb3)
          have HT3 := hide ((unhide HT2).then hb3)
          have hgn : g ∉ q :: (F2 ++ D2) := fun e => by
            have := (unhide HJ2).lt g e
            omega
          have HWR3 := HWR w3 F2 D2 g c (unhide HJ3) hS3 hgn hpc
          rw [unhide HPN] at HWR3
          simp only [unhide HPN]
          clear HP2 hO3 hb3 hS3 hgn HWR hc42 HJ2 HT2
          go_wp2_with fail
          refine (unhide HWR3).mono ?_
          rintro e w4 ⟨rfl, F4, D4, hJ4, hT4⟩
          have HJ4 := hide hJ4
          have HT4 := hide ((unhide HT3).trans hT4)
          clear hJ4 hT4 HWR3 HT3 HJ3
          have h5 := (unhide HJ4).field (j' := { j.off with inn := 1 - j.inn }) 3 (.int .i64 ((1 - j.inn : Nat) : Int)) rfl ⟨(unhide HJ4).ok.a, (unhide HJ4).ok.b, (unhide HJ4).ok.ne, ho1⟩ (unhide HJ4).last (unhide HJ4).next
          rw [← unhide HOTH] at h5
          have HJ5 := hide h5
          have hc34 : w4.cell? ⟨q, 3, none⟩ = some (.int .i64 (j.inn : Int)) := (unhide HJ4).arr.cell (i := 3) rfl
          have hf34 := (unhide HJ4).arr.free 3
          have HWT := hide (wrote_walk (unhide HJ5).1 0 pn c (some ⟨g, 0, none⟩) (unhide HLB) (by omega))
          clear h5
          go_wp2_with fail
          refine (unhide HWT).mono ?_
          rintro e w6 ⟨rfl, hJ6, hT6⟩
          have HJ6 := hide hJ6
          have HT6 := hide ((unhide HT4).trans ((unhide HJ5).2.trans hT6))
          clear hJ6 hT6 HWT HJ5 HT4 HJ4 hc34 hf34
          go_wp2
          go_ret
          refine ⟨by rw [unhide HBE3]; rfl, ?_⟩
          rw [unhide HBE3]
          refine ⟨F4, D4, (unhide HJ6).next_to ?_, unhide HT6⟩
          rw [unhide HPN]
          simp [JX.wrote, JX.off]

        · have HBE3 := hide ((unhide HBE2).trans (if_pos (by simpa using h2)))
          have hne : (e2 != 0) = true := by simpa using h2
          clear HBE2
          go_enter Tryz.func102, Tryz.ntmps102
          go_wp2_with fail
          refine (unhide HF).mono ?_
          rintro e w1 ⟨rfl, hb1, hs1⟩
          have HB1 := hide hb1
          have hJ1 := (unhide HH).below hb1
          have HO1 := hide (unhide (HO w1 hb1))
          have hc4' := hJ1.arr.cell (i := 4) rfl
          have hc6 := hJ1.arr.cell (i := 6) rfl
          have hf6 := hJ1.arr.free 6
          have hc3 : (w1.setCell ⟨q, 6, none⟩ (.bool false)).cell? ⟨q, 3, none⟩ = some (.int .i64 (j.inn : Int)) := (unhide HO1).1.arr.cell (i := 3) rfl
          have HW1 := HW _ (unhide HO1).1
          clear hb1 HF hJ1 HO HW hc4
          go_wp2_with fail
          refine (unhide HW1).mono ?_
          rintro e w2 ⟨rfl, F2, D2, hJ2, hT2⟩
          have HJ2 := hide hJ2
          have HT2 := hide ((Turns.of_below (unhide HB1)).trans ((unhide HO1).2.trans hT2))
          clear hJ2 hT2 HW1 HO1 hc4' hc6 hf6 hc3 hs1
          have hc42 : w2.cell? ⟨q, 4, none⟩ = some (.int .u64 (j.last : Int)) := (unhide HJ2).arr.cell (i := 4) rfl
          have HP2 := HPUT w2 w2.heap.size (Nat.le_refl _) ((unhide HV) w2 (unhide HT2).1)
          clear HPUT
          have hlb := unhide HLB
          clear hcmp
          go_wp2_with fail
          clear hlb
          refine (unhide HP2).mono ?_
          rintro e w3 ⟨v3, rfl, hO3, hb3⟩
          obtain ⟨g, c, rfl, hg3, hpc, _, hS3⟩ := hO3.at (by rw [unhide HPN]; exact hpl)
          have HJ3 := hide ((unhide HJ2).below hb3)
          have HT3 := hide ((unhide HT2).then hb3)
          have hgn : g ∉ q :: (F2 ++ D2) := fun e => by
            have := (unhide HJ2).lt g e
            omega
          have HWR3 := HWR w3 F2 D2 g c (unhide HJ3) hS3 hgn hpc
          rw [unhide HPN] at HWR3
          simp only [unhide HPN]
          clear HP2 hO3 hb3 hS3 hgn HWR hc42 HJ2 HT2
          go_wp2_with fail
          refine (unhide HWR3).mono ?_
          rintro e w4 ⟨rfl, F4, D4, hJ4, hT4⟩
          have HJ4 := hide hJ4
          have HT4 := hide ((unhide HT3).trans hT4)
          clear hJ4 hT4 HWR3 HT3 HJ3
          go_wp2
          go_ret
          refine ⟨by rw [unhide HBE3]; rfl, ?_⟩
          rw [unhide HBE3]
          exact ⟨F4, D4, unhide HJ4, unhide HT4⟩

      · have HBE2 := hide ((unhide HBE).trans (if_pos (by simpa using h1)))
        have hne : (e1 != 0) = true := by simpa using h1
        clear HBE HPL
        go_enter Tryz.func102, Tryz.ntmps102
        go_wp2_with fail
        refine (unhide HF).mono ?_
        rintro e w1 ⟨rfl, hb1, hs1⟩
        have HB1 := hide hb1
        have hJ1 := (unhide HH).below hb1
        have HO1 := hide (unhide (HO w1 hb1))
        have hc4' := hJ1.arr.cell (i := 4) rfl
        have hc6 := hJ1.arr.cell (i := 6) rfl
        have hf6 := hJ1.arr.free 6
        have hc3 : (w1.setCell ⟨q, 6, none⟩ (.bool false)).cell? ⟨q, 3, none⟩ = some (.int .i64 (j.inn : Int)) := (unhide HO1).1.arr.cell (i := 3) rfl
        have HW1 := HW _ (unhide HO1).1
        clear hb1 HF hJ1 HO HW hc4
        go_wp2_with fail
        refine (unhide HW1).mono ?_
        rintro e w2 ⟨rfl, F2, D2, hJ2, hT2⟩
        have HJ2 := hide hJ2
        have HT2 := hide ((Turns.of_below (unhide HB1)).trans ((unhide HO1).2.trans hT2))
        clear hJ2 hT2 HW1 HO1 hc4' hc6 hf6 hc3 hs1
        go_wp2
        go_ret
        refine ⟨by rw [unhide HBE2]; rfl, ?_⟩
        rw [unhide HBE2]
        exact ⟨F2, D2, unhide HJ2, unhide HT2⟩

end
end Go.Proofs.YtdfdalkcljfghaaGreat

namespace Go.Proofs.YtdfdalkcljfghaaGreat
open Go.RowKit

section
variable {F D G : List Nat} {w w' : World} {q m p : Nat} {d : DM} {x : MX} {j : JX}
set_option maxHeartbeats 3200000 in
set_option maxRecDepth 100000 in
theorem append_walk (h : Jour F D w q m p d x j) (v : Value) (b : Body) (hv : ∀ w', But (q :: (F ++ D)) w w' → RowV w'.heap.size w' v b) (hlen : d.wait.length ≤ 700000) (hop : x.ops.length ≤ 700000) :
    Calls Tryz.prog 101 #[.pointer (some ⟨q, 0, none⟩), v] w fun e w' => e = .returned (.int .i64 (appendJ d x j b).1) ∧
      ∃ F' D', Jour F' D' w' q m p (appendJ d x j b).2.1 (appendJ d x j b).2.2.1 (appendJ d x j b).2.2.2 ∧ Turns (q :: (F ++ D)) (q :: (F' ++ D')) w w' := by
  have HH := hide h
  have HV := hide hv
  obtain ⟨a, n, cap, rfl, hnc, hcm, _, hrow⟩ := hv w (But.refl _ _)
  have hbl : b.length = n := hrow.1
  have hc6 := h.arr.cell (i := 6) rfl
  cases hr : j.ready with
  | false =>
    rw [hr] at hc6
    have HB : Hid (appendJ d x j b = (91, d, x, j)) := hide (append_off b hr)
    clear h hv hrow hbl
    go_enter Tryz.func101, Tryz.ntmps101
    go_wp2
    go_ret
    refine ⟨by rw [unhide HB]; rfl, ?_⟩
    rw [unhide HB]
    exact ⟨F, D, unhide HH, Turns.refl _ _⟩
  | true =>
    rw [hr] at hc6
    have HR := hide hr
    have HZ := fun w' => hide (size_walk8 (n : Int) w')
    have HL := hide (left_walk h)
    have hz64 := sizeF_le (n : Int)
    have hlr : ∃ l : Int, leftJ x.sz j = l ∧ l ≤ 4096 ∧ -4096 ≤ l := ⟨_, rfl, by
      have h1 := roomJ_le (j := j) h.map j.inn
      have h2 := h.next
      unfold leftJ; rw [if_pos hr]; omega⟩
    obtain ⟨lf, hlf, hlf1, hlf2⟩ := hlr
    have HLF := hide hlf
    rw [hlf] at HL
    have hc4 := h.arr.cell (i := 4) rfl
    clear h hv hrow hr hlf
    obtain ⟨z, hz⟩ : ∃ z, sizeF (n : Int) = z := ⟨_, rfl⟩
    have HZE : Hid (sizeF (b.length : Int) = z) := hide (by rw [hbl, hz])
    rw [hz] at hz64
    simp only [hz] at HZ
    by_cases h0 : z = 0
    · subst h0
      have HB : Hid (appendJ d x j b = (92, d, x, j)) := hide (by unfold appendJ; rw [if_neg (by rw [unhide HR]; decide), if_pos (.inl (unhide HZE))])
      clear hbl hz
      go_enter Tryz.func101, Tryz.ntmps101
      go_wp2_with fail
      refine (unhide (HZ w)).mono ?_
      rintro e w1 ⟨rfl, hw1⟩
      subst w1
      go_wp2
      go_ret
      refine ⟨by rw [unhide HB]; rfl, ?_⟩
      rw [unhide HB]
      exact ⟨F, D, unhide HH, Turns.refl _ _⟩
    · have h0i : ((z : Int) == 0) = false := by simpa using h0
      by_cases h1 : lf < (z : Int)
      · have HB : Hid (appendJ d x j b = (92, d, x, j)) := hide (by unfold appendJ; rw [if_neg (by rw [unhide HR]; decide), if_pos (.inr (.inl (by rw [unhide HLF, unhide HZE]; exact h1)))])
        clear hbl hz
        go_enter Tryz.func101, Tryz.ntmps101
        go_wp2_with fail
        refine (unhide (HZ w)).mono ?_
        rintro e w1 ⟨rfl, hw1⟩
        subst w1
        go_wp2_with fail
        refine (unhide HL).mono ?_
        rintro e w2 ⟨rfl, hb2, hs2⟩
        have HB2 := hide hb2
        clear hb2 HL
        go_wp2
        go_ret
        refine ⟨by rw [unhide HB]; rfl, ?_⟩
        rw [unhide HB]
        exact ⟨F, D, (unhide HH).below (unhide HB2), Turns.of_below (unhide HB2)⟩
      · have h1i : decide (lf < (z : Int)) = false := by simp; omega
        by_cases hbig : big ≤ j.last
        · have HB : Hid (appendJ d x j b = (92, d, x, j)) := hide (by unfold appendJ; rw [if_neg (by rw [unhide HR]; decide), if_pos (.inr (.inr hbig))])
          unfold big at hbig
          have hbig2 : (4611686018427387904 : Int) ≤ (j.last : Int) := by omega
          clear hbl hbig hz
          go_enter Tryz.func101, Tryz.ntmps101
          go_wp2_with fail
          refine (unhide (HZ w)).mono ?_
          rintro e w1 ⟨rfl, hw1⟩
          subst w1
          go_wp2_with fail
          refine (unhide HL).mono ?_
          rintro e w2 ⟨rfl, hb2, hs2⟩
          have HB2 := hide hb2
          have hc42 := ((unhide HH).below hb2).arr.cell (i := 4) rfl
          clear hb2 HL hc4
          go_wp2
          go_ret
          refine ⟨by rw [unhide HB]; rfl, ?_⟩
          rw [unhide HB]
          exact ⟨F, D, (unhide HH).below (unhide HB2), Turns.of_below (unhide HB2)⟩
        · have HBE : Hid (appendJ d x j b = if (writeJ d x (j.bk j.inn) j.next (putF 2 (j.last + 1) b)).1 ≠ 0 then ((writeJ d x (j.bk j.inn) j.next (putF 2 (j.last + 1) b)).1, (writeJ d x (j.bk j.inn) j.next (putF 2 (j.last + 1) b)).2.1, (writeJ d x (j.bk j.inn) j.next (putF 2 (j.last + 1) b)).2.2, j.off)
              else (0, (writeJ d x (j.bk j.inn) j.next (putF 2 (j.last + 1) b)).2.1, (writeJ d x (j.bk j.inn) j.next (putF 2 (j.last + 1) b)).2.2, { j with last := j.last + 1, next := j.next + (putF 2 (j.last + 1) b).length, ready := true })) := hide (by
            unfold appendJ
            rw [if_neg (by rw [unhide HR]; decide), if_neg (by simp only [not_or]; exact ⟨by rw [unhide HZE]; exact h0, by rw [unhide HLF, unhide HZE]; exact h1, hbig⟩)])
          have hb4 : b.length ≤ 4000 := sizeF_ne (by rw [unhide HZE]; exact h0)
          have hput := putF_length hb4 2 (j.last + 1)
          rw [unhide HZE] at hput
          have hnx : j.next + z ≤ 4096 := by
            have h2 := roomJ_le (j := j) (unhide HH).map j.inn
            have h3 := unhide HLF
            unfold leftJ at h3; rw [if_pos (unhide HR)] at h3
            omega
          unfold big at hbig
          have HLB : Hid (j.last < 4611686018427387904) := hide (by omega)
          have hcmp : decide ((4611686018427387904 : Int) ≤ (j.last : Int)) = false := by simp; omega
          have HO : ∀ w', Below w.heap.size w w' → Hid (Jour F D (w'.setCell ⟨q, 6, none⟩ (.bool false)) q m p d x j.off ∧ Turns (q :: (F ++ D)) (q :: (F ++ D)) w' (w'.setCell ⟨q, 6, none⟩ (.bool false))) := fun w' hb =>
            hide (((unhide HH).below hb).field (j' := j.off) 6 (.bool false) rfl ⟨(unhide HH).ok.a, (unhide HH).ok.b, (unhide HH).ok.ne, (unhide HH).ok.inn⟩ (unhide HH).last (unhide HH).next)
          have hin := (unhide HH).ok.inn
          have HWR : ∀ (w' : World) (g c : Nat), Jour F D w' q m p d x j.off → SecAt w' g (putF 2 (j.last + 1) b) → g ∉ q :: (F ++ D) → (putF 2 (j.last + 1) b).length ≤ c → Hid (Calls Tryz.prog 127 #[.pointer (some ⟨q, 0, none⟩), .int .i64 (j.inn : Int), .int .i64 (j.next : Int), .slice (some ⟨g, 0, none⟩) (putF 2 (j.last + 1) b).length c] w' fun e w2 =>
              e = .returned (.int .i64 (writeJ d x (j.bk j.inn) j.next (putF 2 (j.last + 1) b)).1) ∧ ∃ F' D', Jour F' D' w2 q m p (writeJ d x (j.bk j.inn) j.next (putF 2 (j.last + 1) b)).2.1 (writeJ d x (j.bk j.inn) j.next (putF 2 (j.last + 1) b)).2.2 j.off ∧ Turns (q :: (F ++ D)) (q :: (F' ++ D')) w' w2) := fun w' g c hj hs hg hc =>
            hide (write_walk hj j.inn hin j.next (by omega) _ g c hs hg (by omega) hc (by omega) (by omega))
          have hrsz : (writeJ d x (j.bk j.inn) j.next (putF 2 (j.last + 1) b)).2.2.sz = x.sz := by
            unfold writeJ; rw [thenSync_sz, progJ_few]
          have HPUT : ∀ (w' : World) (N : Nat), N ≤ w'.heap.size → RowV N w' (.slice a n cap) b → Hid (Calls Tryz.prog 126 #[.int .u8 2, .int .u64 ((j.last : Int) + 1), .slice a n cap] w' fun e w2 => ∃ v', e = .returned v' ∧ SOwn w'.heap.size w2 v' (putF 2 (j.last + 1) b) ∧ Below w'.heap.size w' w2) := fun w' N hN hr =>
            hide (put_sectors N 2 (j.last + 1) (by have := unhide HLB; omega) (.slice a n cap) b w' hN hr)
          generalize hr : writeJ d x (j.bk j.inn) j.next (putF 2 (j.last + 1) b) = r at *
          obtain ⟨e2, d2, x2⟩ := r
          have HX2 : Hid (x2.sz = x.sz) := hide hrsz
          clear hr hrsz hbig hbl hz hb4
          generalize hps : putF 2 (j.last + 1) b = ps at *
          have HPN := hide hput
          have hz0 : 0 < z := by omega
          have HNX := hide hnx
          clear hps hput hnx
          by_cases h2 : e2 = 0
          · subst h2
            have HBE3 := hide ((unhide HBE).trans (if_neg (by simp)))
            clear HBE
            go_enter Tryz.func101, Tryz.ntmps101
            go_wp2_with fail
            refine (unhide (HZ w)).mono ?_
            rintro e w1 ⟨rfl, hw1⟩
            subst w1
            go_wp2_with fail
            refine (unhide HL).mono ?_
            rintro e w1 ⟨rfl, hb1, hs1⟩
            have HB1 := hide hb1
            have hJ1 := (unhide HH).below hb1
            have HO1 := hide (unhide (HO w1 hb1))
            have hc41 : w1.cell? ⟨q, 4, none⟩ = some (.int .u64 (j.last : Int)) := hJ1.arr.cell (i := 4) rfl
            have hc61 := hJ1.arr.cell (i := 6) rfl
            have hf61 := hJ1.arr.free 6
            obtain ⟨w2, hw2⟩ : ∃ w2, w1.setCell ⟨q, 6, none⟩ (.bool false) = w2 := ⟨_, rfl⟩
            have HJ2 : Hid (Jour F D w2 q m p d x j.off ∧ Turns (q :: (F ++ D)) (q :: (F ++ D)) w1 w2) := hide (hw2 ▸ unhide HO1)
            have HT2 := hide ((Turns.of_below (unhide HB1)).trans (unhide HJ2).2)
            have hc42 : w2.cell? ⟨q, 4, none⟩ = some (.int .u64 (j.last : Int)) := (unhide HJ2).1.arr.cell (i := 4) rfl
            have HP2 := HPUT w2 w2.heap.size (Nat.le_refl _) ((unhide HV) w2 (unhide HT2).1)
            have hlb := unhide HLB
            clear hb1 HL hJ1 HO hc4 hc6 HPUT HO1
            go_wp2_with fail
            clear hlb hcmp hc41 hc61 hf61 hs1
            refine (unhide HP2).mono ?_
            rintro e w3 ⟨v3, rfl, hO3, hb3⟩
            obtain ⟨g, c, rfl, hg3, hpc, _, hS3⟩ := hO3.at (by rw [unhide HPN]; exact hz0)
            have HJ3 := hide ((unhide HJ2).1.below hb3)
            have HT3 := hide ((unhide HT2).then hb3)
            have hgn : g ∉ q :: (F ++ D) := fun e => by
              have := (unhide HJ2).1.lt g e
              omega
            have HWR3 : ∀ w', Below w3.heap.size w3 w' → Hid (Calls Tryz.prog 127 #[.pointer (some ⟨q, 0, none⟩), .int .i64 (j.inn : Int), .int .i64 (j.next : Int), .slice (some ⟨g, 0, none⟩) z c] w' fun e w2 =>
                e = .returned (.int .i64 0) ∧ ∃ F' D', Jour F' D' w2 q m p d2 x2 j.off ∧ Turns (q :: (F ++ D)) (q :: (F' ++ D')) w' w2) := fun w' hb => by
              have := HWR w' g c ((unhide HJ3).below hb) (hS3.below hb) hgn hpc
              rw [unhide HPN] at this
              exact this
            simp only [unhide HPN]
            clear HP2 hO3 hb3 hS3 hgn HWR hc42 HJ2 HT2 hpc hw2
            go_wp2_with fail
            refine Flow.wp_region (Flow.VV (fun ix => match ix with | 0 => .pointer (some ⟨q, 0, none⟩) | 1 => .pointer (some ⟨q, 0, none⟩) | 2 => .pointer (some ⟨q, 0, none⟩) | 3 => .pointer (some ⟨q, 3, none⟩) | 4 => .int .i64 (j.inn : Int) | 5 => .pointer (some ⟨q, 0, none⟩) | 6 => .pointer (some ⟨q, 0, none⟩) | 7 => .pointer (some ⟨q, 5, none⟩) | 8 => .int .i64 (j.next : Int) | 9 => .slice (some ⟨g, 0, none⟩) z c | 10 => .int .i64 0 | 11 => .int .i64 0 | _ => undef)) (Flow.two 10 (fun (_ : Unit) w' => Below w3.heap.size w3 w') (fun _ w' => ∃ F4 D4, Jour F4 D4 w' q m p d2 x2 j.off ∧ Turns (q :: (F ++ D)) (q :: (F4 ++ D4)) w3 w')) () (by kernel_rfl) (by kernel_rfl) (Below.refl _ w3).drew ⟨?_, ?_, ?_, ?_, ?_, ?_, ?_, ?_, ?_, ?_, ?_, ?_, trivial⟩ ?_
            · exact Flow.move (Flow.goes_plain rfl) (Flow.two.upd (by decide)) (.inl rfl) fun a s w' hs hd => (hs 0 (by kernel_rfl))
            · exact Flow.move (Flow.goes_plain rfl) (Flow.two.upd (by decide)) (.inl rfl) fun a s w' hs hd => (hs 0 (by kernel_rfl))
            · exact Flow.pure (Flow.goes_plain rfl) (Flow.two.upd (by decide)) fun a L s w' hC hL hn hs hd => ⟨_, op_nil rfl (hd 1 42 (by kernel_rfl)) w', rfl⟩
            · exact Flow.pure (Flow.goes_plain rfl) (Flow.two.upd (by decide)) fun a L s w' hC hL hn hs hd => ⟨_, op_f165_2 rfl (hd 2 43 (by kernel_rfl)) w', rfl⟩
            · refine Flow.pure (Flow.goes_plain rfl) (Flow.two.upd (by decide)) fun a L s w' hC hL hn hs hd => ?_
              skip
              exact ⟨_, op_load3 rfl (hd 3 44 (by kernel_rfl)) (((unhide HJ3).below (hC.pre (hn.after 10 (by kernel_rfl)))).arr.cell (i := 3) rfl), rfl⟩
            · exact Flow.move (Flow.goes_plain rfl) (Flow.two.upd (by decide)) (.inl rfl) fun a s w' hs hd => (hs 0 (by kernel_rfl))
            · exact Flow.pure (Flow.goes_plain rfl) (Flow.two.upd (by decide)) fun a L s w' hC hL hn hs hd => ⟨_, op_nil rfl (hd 5 46 (by kernel_rfl)) w', rfl⟩
            · exact Flow.pure (Flow.goes_plain rfl) (Flow.two.upd (by decide)) fun a L s w' hC hL hn hs hd => ⟨_, op_f165_4 rfl (hd 6 47 (by kernel_rfl)) w', rfl⟩
            · refine Flow.pure (Flow.goes_plain rfl) (Flow.two.upd (by decide)) fun a L s w' hC hL hn hs hd => ?_
              skip
              exact ⟨_, op_load3 rfl (hd 7 48 (by kernel_rfl)) (((unhide HJ3).below (hC.pre (hn.after 10 (by kernel_rfl)))).arr.cell (i := 5) rfl), rfl⟩
            · exact Flow.move (Flow.goes_plain rfl) (Flow.two.upd (by decide)) (.inl rfl) fun a s w' hs hd => (hs 6 (by kernel_rfl))
            · refine Flow.call (Flow.goes_plain rfl) fun a L s0 w' hC hL hn hs hd => ⟨127, _, op_call127 rfl (hd 0 41 (by kernel_rfl)) (hd 4 45 (by kernel_rfl)) (hd 8 49 (by kernel_rfl)) (hd 9 50 (by kernel_rfl)) rfl w', (unhide (HWR3 w' (hC.pre hL))).mono ?_⟩
              rintro e w'' ⟨rfl, F4, D4, hJ, hT⟩
              exact ⟨_, (), rfl, fun _ _ _ h => h, Flow.two.post ⟨F4, D4, hJ, Turns.after (hC.pre hL) hT⟩, rfl⟩
            · exact Flow.move (Flow.goes_plain rfl) (Flow.two.upd (by decide)) (.inr rfl) fun a s w' hs hd => (hd 10 51 (by kernel_rfl))
            · intro L _ w4 hC hL vals hv
              obtain ⟨F4, D4, hJ4, hT4⟩ := hC.end (hL 10 (by decide))
              have e11 : vals 11 = .int .i64 0 := hv 11 _ 7 rfl rfl
              simp only [Free.putAll, Act.put, List.setIfInBounds_toArray, List.set_cons_succ, List.set_cons_zero, e11]
              have HJ4 := hide hJ4
              have HT4 := hide ((unhide HT3).trans hT4)
              clear hC hL hv e11 hJ4 hT4 HJ3 HT3
              generalize vals 0 = t0 at *
              generalize vals 1 = t1 at *
              generalize vals 2 = t2 at *
              generalize vals 3 = t3 at *
              generalize vals 4 = t4 at *
              generalize vals 5 = t5 at *
              generalize vals 6 = t6 at *
              generalize vals 7 = t7 at *
              generalize vals 8 = t8 at *
              generalize vals 9 = t9 at *
              generalize vals 10 = t10 at *
              have hc5 : w4.cell? ⟨q, 5, none⟩ = some (.int .i64 (j.next : Int)) := (unhide HJ4).arr.cell (i := 5) rfl
              have HWT := hide (wrote_walk (unhide HJ4) j.next z c (some ⟨g, 0, none⟩) (unhide HLB) (unhide HNX))
              go_wp2_with fail
              refine (unhide HWT).mono ?_
              rintro e w6 ⟨rfl, hJ6, hT6⟩
              have HJ6 := hide hJ6
              have HT6 := hide ((unhide HT4).trans hT6)
              clear hJ6 hT6 HWT HT4 HJ4 hc5
              go_wp2
              go_ret
              refine ⟨by rw [unhide HBE3]; rfl, ?_⟩
              rw [unhide HBE3]
              refine ⟨F4, D4, (unhide HJ6).next_to ?_, unhide HT6⟩
              rw [unhide HPN]
              simp [JX.wrote, JX.off]
          · have HBE3 := hide ((unhide HBE).trans (if_pos (by simpa using h2)))
            have hne : (e2 != 0) = true := by simpa using h2
            clear HBE
            go_enter Tryz.func101, Tryz.ntmps101
            go_wp2_with fail
            refine (unhide (HZ w)).mono ?_
            rintro e w1 ⟨rfl, hw1⟩
            subst w1
            go_wp2_with fail
            refine (unhide HL).mono ?_
            rintro e w1 ⟨rfl, hb1, hs1⟩
            have HB1 := hide hb1
            have hJ1 := (unhide HH).below hb1
            have HO1 := hide (unhide (HO w1 hb1))
            have hc41 : w1.cell? ⟨q, 4, none⟩ = some (.int .u64 (j.last : Int)) := hJ1.arr.cell (i := 4) rfl
            have hc61 := hJ1.arr.cell (i := 6) rfl
            have hf61 := hJ1.arr.free 6
            obtain ⟨w2, hw2⟩ : ∃ w2, w1.setCell ⟨q, 6, none⟩ (.bool false) = w2 := ⟨_, rfl⟩
            have HJ2 : Hid (Jour F D w2 q m p d x j.off ∧ Turns (q :: (F ++ D)) (q :: (F ++ D)) w1 w2) := hide (hw2 ▸ unhide HO1)
            have HT2 := hide ((Turns.of_below (unhide HB1)).trans (unhide HJ2).2)
            have hc42 : w2.cell? ⟨q, 4, none⟩ = some (.int .u64 (j.last : Int)) := (unhide HJ2).1.arr.cell (i := 4) rfl
            have HP2 := HPUT w2 w2.heap.size (Nat.le_refl _) ((unhide HV) w2 (unhide HT2).1)
            have hlb := unhide HLB
            clear hb1 HL hJ1 HO hc4 hc6 HPUT HO1
            go_wp2_with fail
            clear hlb hcmp hc41 hc61 hf61 hs1
            refine (unhide HP2).mono ?_
            rintro e w3 ⟨v3, rfl, hO3, hb3⟩
            obtain ⟨g, c, rfl, hg3, hpc, _, hS3⟩ := hO3.at (by rw [unhide HPN]; exact hz0)
            have HJ3 := hide ((unhide HJ2).1.below hb3)
            have HT3 := hide ((unhide HT2).then hb3)
            have hgn : g ∉ q :: (F ++ D) := fun e => by
              have := (unhide HJ2).1.lt g e
              omega
            have HWR3 : ∀ w', Below w3.heap.size w3 w' → Hid (Calls Tryz.prog 127 #[.pointer (some ⟨q, 0, none⟩), .int .i64 (j.inn : Int), .int .i64 (j.next : Int), .slice (some ⟨g, 0, none⟩) z c] w' fun e w2 =>
                e = .returned (.int .i64 e2) ∧ ∃ F' D', Jour F' D' w2 q m p d2 x2 j.off ∧ Turns (q :: (F ++ D)) (q :: (F' ++ D')) w' w2) := fun w' hb => by
              have := HWR w' g c ((unhide HJ3).below hb) (hS3.below hb) hgn hpc
              rw [unhide HPN] at this
              exact this
            simp only [unhide HPN]
            clear HP2 hO3 hb3 hS3 hgn HWR hc42 HJ2 HT2 hpc hw2
            go_wp2_with fail
            refine Flow.wp_region (Flow.VV (fun ix => match ix with | 0 => .pointer (some ⟨q, 0, none⟩) | 1 => .pointer (some ⟨q, 0, none⟩) | 2 => .pointer (some ⟨q, 0, none⟩) | 3 => .pointer (some ⟨q, 3, none⟩) | 4 => .int .i64 (j.inn : Int) | 5 => .pointer (some ⟨q, 0, none⟩) | 6 => .pointer (some ⟨q, 0, none⟩) | 7 => .pointer (some ⟨q, 5, none⟩) | 8 => .int .i64 (j.next : Int) | 9 => .slice (some ⟨g, 0, none⟩) z c | 10 => .int .i64 e2 | 11 => .int .i64 e2 | _ => undef)) (Flow.two 10 (fun (_ : Unit) w' => Below w3.heap.size w3 w') (fun _ w' => ∃ F4 D4, Jour F4 D4 w' q m p d2 x2 j.off ∧ Turns (q :: (F ++ D)) (q :: (F4 ++ D4)) w3 w')) () (by kernel_rfl) (by kernel_rfl) (Below.refl _ w3).drew ⟨?_, ?_, ?_, ?_, ?_, ?_, ?_, ?_, ?_, ?_, ?_, ?_, trivial⟩ ?_
            · exact Flow.move (Flow.goes_plain rfl) (Flow.two.upd (by decide)) (.inl rfl) fun a s w' hs hd => (hs 0 (by kernel_rfl))
            · exact Flow.move (Flow.goes_plain rfl) (Flow.two.upd (by decide)) (.inl rfl) fun a s w' hs hd => (hs 0 (by kernel_rfl))
            · exact Flow.pure (Flow.goes_plain rfl) (Flow.two.upd (by decide)) fun a L s w' hC hL hn hs hd => ⟨_, op_nil rfl (hd 1 42 (by kernel_rfl)) w', rfl⟩
            · exact Flow.pure (Flow.goes_plain rfl) (Flow.two.upd (by decide)) fun a L s w' hC hL hn hs hd => ⟨_, op_f165_2 rfl (hd 2 43 (by kernel_rfl)) w', rfl⟩
            · refine Flow.pure (Flow.goes_plain rfl) (Flow.two.upd (by decide)) fun a L s w' hC hL hn hs hd => ?_
              skip
              exact ⟨_, op_load3 rfl (hd 3 44 (by kernel_rfl)) (((unhide HJ3).below (hC.pre (hn.after 10 (by kernel_rfl)))).arr.cell (i := 3) rfl), rfl⟩
            · exact Flow.move (Flow.goes_plain rfl) (Flow.two.upd (by decide)) (.inl rfl) fun a s w' hs hd => (hs 0 (by kernel_rfl))
            · exact Flow.pure (Flow.goes_plain rfl) (Flow.two.upd (by decide)) fun a L s w' hC hL hn hs hd => ⟨_, op_nil rfl (hd 5 46 (by kernel_rfl)) w', rfl⟩
            · exact Flow.pure (Flow.goes_plain rfl) (Flow.two.upd (by decide)) fun a L s w' hC hL hn hs hd => ⟨_, op_f165_4 rfl (hd 6 47 (by kernel_rfl)) w', rfl⟩
            · refine Flow.pure (Flow.goes_plain rfl) (Flow.two.upd (by decide)) fun a L s w' hC hL hn hs hd => ?_
              skip
              exact ⟨_, op_load3 rfl (hd 7 48 (by kernel_rfl)) (((unhide HJ3).below (hC.pre (hn.after 10 (by kernel_rfl)))).arr.cell (i := 5) rfl), rfl⟩
            · exact Flow.move (Flow.goes_plain rfl) (Flow.two.upd (by decide)) (.inl rfl) fun a s w' hs hd => (hs 6 (by kernel_rfl))
            · refine Flow.call (Flow.goes_plain rfl) fun a L s0 w' hC hL hn hs hd => ⟨127, _, op_call127 rfl (hd 0 41 (by kernel_rfl)) (hd 4 45 (by kernel_rfl)) (hd 8 49 (by kernel_rfl)) (hd 9 50 (by kernel_rfl)) rfl w', (unhide (HWR3 w' (hC.pre hL))).mono ?_⟩
              rintro e w'' ⟨rfl, F4, D4, hJ, hT⟩
              exact ⟨_, (), rfl, fun _ _ _ h => h, Flow.two.post ⟨F4, D4, hJ, Turns.after (hC.pre hL) hT⟩, rfl⟩
            · exact Flow.move (Flow.goes_plain rfl) (Flow.two.upd (by decide)) (.inr rfl) fun a s w' hs hd => (hd 10 51 (by kernel_rfl))
            · intro L _ w4 hC hL vals hv
              obtain ⟨F4, D4, hJ4, hT4⟩ := hC.end (hL 10 (by decide))
              have e11 : vals 11 = .int .i64 e2 := hv 11 _ 7 rfl rfl
              simp only [Free.putAll, Act.put, List.setIfInBounds_toArray, List.set_cons_succ, List.set_cons_zero, e11]
              have HJ4 := hide hJ4
              have HT4 := hide ((unhide HT3).trans hT4)
              clear hC hL hv e11 hJ4 hT4 HJ3 HT3
              generalize vals 0 = t0 at *
              generalize vals 1 = t1 at *
              generalize vals 2 = t2 at *
              generalize vals 3 = t3 at *
              generalize vals 4 = t4 at *
              generalize vals 5 = t5 at *
              generalize vals 6 = t6 at *
              generalize vals 7 = t7 at *
              generalize vals 8 = t8 at *
              generalize vals 9 = t9 at *
              generalize vals 10 = t10 at *
              go_wp2
              go_ret
              refine ⟨by rw [unhide HBE3]; rfl, ?_⟩
              rw [unhide HBE3]
              exact ⟨F4, D4, unhide HJ4, unhide HT4⟩
end
end Go.Proofs.YtdfdalkcljfghaaGreat
