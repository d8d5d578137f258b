/-
  PartNames: the walk.
-/
import Derived.Test.YtlgknllcnkainaaPAlive
namespace Go.Proofs.Ytlgknllcnkainaa
open Go.RowKit
namespace partNames

def n0 : DM := newD 6 5
def x0 : MX := ⟨[3, 3], 0, []⟩
def x1 : MX := x0.as 9
def n1 : DM := (programM zeroS n0 x1 1 2).2.1
def x2 : MX := (programM zeroS n0 x1 1 2).2.2
def n2 : DM := (eraseM n1 x2 1 2).2.1
def x3 : MX := (eraseM n1 x2 1 2).2.2
def x5 : MX := x3.told.as 0
theorem r0 : rightD n0.kept.length [] = false := by decide +kernel
theorem r1 : rightD n0.kept.length [3, 4] = false := by decide +kernel
theorem r2 : rightD n0.kept.length [0, 1] = false := by decide +kernel
theorem r3 : rightD n0.kept.length [3, 3] = true := by decide +kernel
theorem e1 : (programM zeroS n0 x1 1 2).1 = 0 := by decide +kernel
theorem e2 : (eraseM n1 x2 1 2).1 = 0 := by decide +kernel
theorem e3 : x3.ops = [(2, 1, 2, 9), (1, 1, 2, 9)] := by decide +kernel
theorem e3t : x3.told.who = 9 := by decide +kernel
theorem e4 : (readM n0 x0.sz 2 0) = (zeroS, 71) := by decide +kernel
theorem e5 : (readM n0 x0.sz 1 3) = (zeroS, 61) := by decide +kernel
theorem e6 : (syncD n2).1 = 0 := by decide +kernel
theorem s7 : sizeX x5.told.sz 7 = 0 := by decide +kernel
theorem w0 : n0.wait.length ≤ 1000000 := by decide +kernel
theorem w1 : n1.wait.length ≤ 1000000 := by decide +kernel
theorem w2 : n2.wait.length ≤ 1000000 := by decide +kernel
theorem o1 : x1.ops.length ≤ 1000000 := by decide +kernel
theorem o2 : x2.ops.length ≤ 1000000 := by decide +kernel
section
variable {F D : List Nat} {w : World} {m p : Nat}
theorem cbad (h : Dev D w p n0) (a : Option Addr) (len cap : Nat) (l : List Int) (hR : IRow w.heap.size w a len l) (hl : len ≤ 1000000) (hr : rightD n0.kept.length l = false) : Calls Try.prog 8 #[.pointer (some ⟨p, 0, none⟩), .slice a len cap] w fun e w' =>
    e = .returned (.tuple #[.pointer none, .int .i64 71]) ∧ Below w.heap.size w w' := by
  refine (mnew_walk h a len cap l hR hl).mono ?_
  intro e w' hP
  unfold NewP at hP
  rw [if_neg (by rw [hr]; decide)] at hP
  exact hP
theorem cgood (h : Dev D w p n0) (a : Option Addr) (cap : Nat) (hR : IRow w.heap.size w a 2 [3, 3]) : Calls Try.prog 8 #[.pointer (some ⟨p, 0, none⟩), .slice a 2 cap] w fun e w' =>
    ∃ m F, e = .returned (.tuple #[.pointer (some ⟨m, 0, none⟩), .int .i64 0]) ∧ PMap F D w' m p n0 x0 ∧ (∀ k ∈ F, w.heap.size ≤ k) ∧ Below w.heap.size w w' := by
  refine (mnew_walk h a 2 cap [3, 3] hR (by decide)).mono ?_
  intro e w' hP
  unfold NewP at hP
  rw [if_pos r3] at hP
  exact hP
theorem c4 (h : PMap F D w m p n0 x0) : Calls Try.prog 9 #[.pointer (some ⟨m, 0, none⟩), .int .i64 2, .int .i64 0] w fun e w' => e = .returned (.tuple #[secV zeroS, .int .i64 71]) ∧ Below w.heap.size w w' := by
  have := mread_walk h 2 0 (by decide)
  rw [e4] at this
  exact this
theorem c5 (h : PMap F D w m p n0 x0) : Calls Try.prog 9 #[.pointer (some ⟨m, 0, none⟩), .int .i64 1, .int .i64 3] w fun e w' => e = .returned (.tuple #[secV zeroS, .int .i64 61]) ∧ Below w.heap.size w w' := by
  have := mread_walk h 1 3 (by decide)
  rw [e5] at this
  exact this
theorem cas (h : PMap F D w m p n0 x0) : Calls Try.prog 10 #[.pointer (some ⟨m, 0, none⟩), .int .i64 9] w fun e w' => e = .returned (.int .i64 0) ∧ PMap F D w' m p n0 x1 ∧ Turns (F ++ D) (F ++ D) w w' := by
  refine (as_walk h.map 9).mono ?_
  rintro e w' ⟨rfl, hM, hT⟩
  exact ⟨rfl, h.turnM hT hM rfl⟩
theorem c1 (h : PMap F D w m p n0 x1) : Calls Try.prog 11 #[.pointer (some ⟨m, 0, none⟩), .int .i64 1, .int .i64 2, secV zeroS] w fun e w' => e = .returned (.int .i64 0) ∧ ∃ F' D', PMap F' D' w' m p n1 x2 ∧ Turns (F ++ D) (F' ++ D') w w' := by
  have := mprogram_walk h 1 2 (by decide) zeroS zeroS_len w0 o1
  rw [e1] at this
  exact this
theorem c2 (h : PMap F D w m p n1 x2) : Calls Try.prog 12 #[.pointer (some ⟨m, 0, none⟩), .int .i64 1, .int .i64 2] w fun e w' => e = .returned (.int .i64 0) ∧ ∃ F' D', PMap F' D' w' m p n2 x3 ∧ Turns (F ++ D) (F' ++ D') w w' := by
  have := merase_walk h 1 2 (by decide) w1 o2
  rw [e2] at this
  exact this
/-- Two operations, in a block that is no part of the map. -/
theorem cops (h : PMap F D w m p n2 x3) : Calls Try.prog 13 #[.pointer (some ⟨m, 0, none⟩)] w fun e w' => ∃ g cap F', e = .returned (.slice (some ⟨g, 0, none⟩) 2 cap) ∧ w'.rangeAt g 0 (opV (2, 1, 2, 9)) ∧ w'.rangeAt g 4 (opV (1, 1, 2, 9)) ∧
    PMap F' D w' m p n2 x3.told ∧ Turns (F ++ D) (F' ++ D) w w' ∧ g ∉ F' ++ D ∧ g < w'.heap.size := by
  refine (ops_walk h.map).mono ?_
  rintro e w' ⟨ov, F', rfl, hO, hM, hT, hs, hk⟩
  rw [e3] at hO
  have hQ := h.turnM hT hM rfl
  rcases hO.2 with ⟨_, h0⟩ | ⟨g, cap, cur, rfl, _, hh, _, _⟩
  · simp at h0
  · have hc := hO.cells (g := g) rfl
    have hg := hk g (by simp [Value.ownBlock])
    have key : ∀ j u, (opsV [(2, 1, 2, 9), (1, 1, 2, 9)])[j]? = some u → w'.cell? ⟨g, j, none⟩ = some u := fun j u hj => by
      have := hc j u hj
      rw [Addr.add_mid, Nat.zero_add] at this
      exact this
    refine ⟨g, cap, F', rfl, fun j u hj => ?_, fun j u hj => ?_, hQ.1, hQ.2, ?_, (Array.getElem?_eq_some_iff.1 hh).1⟩
    · have := opsV_range (l := [(2, 1, 2, 9), (1, 1, 2, 9)]) (i := 0) (by decide) j u hj
      exact key _ _ this
    · have := opsV_range (l := [(2, 1, 2, 9), (1, 1, 2, 9)]) (i := 1) (by decide) j u hj
      exact key _ _ this
    · intro e
      rcases List.mem_append.1 e with e | e
      · exact hg.2 e
      · exact h.apart g hg.1 e
theorem cas0 (h : PMap F D w m p n2 x3.told) : Calls Try.prog 10 #[.pointer (some ⟨m, 0, none⟩), .int .i64 0] w fun e w' => e = .returned (.int .i64 9) ∧ PMap F D w' m p n2 x5 ∧ Turns (F ++ D) (F ++ D) w w' := by
  refine (as_walk h.map 0).mono ?_
  rintro e w' ⟨rfl, hM, hT⟩
  rw [e3t]
  exact ⟨rfl, h.turnM hT hM rfl⟩
theorem cops2 (h : PMap F D w m p n2 x5) : Calls Try.prog 13 #[.pointer (some ⟨m, 0, none⟩)] w fun e w' => ∃ a cap F', e = .returned (.slice a 0 cap) ∧ PMap F' D w' m p n2 x5.told ∧ Turns (F ++ D) (F' ++ D) w w' := by
  refine (ops_walk h.map).mono ?_
  rintro e w' ⟨ov, F', rfl, hO, hM, hT, hs, hk⟩
  obtain ⟨a, cap, rfl, _, _⟩ := owns_slice hO
  have hQ := h.turnM hT hM rfl
  exact ⟨a, cap, F', rfl, hQ⟩
theorem csync (h : PMap F D w m p n2 x5.told) : Calls Try.prog 14 #[.pointer (some ⟨m, 0, none⟩)] w fun e w' => e = .returned (.int .i64 0) ∧ ∃ D', PMap F D' w' m p (syncD n2).2 x5.told ∧ Turns (F ++ D) (F ++ D') w w' := by
  have := msync_walk h w2
  rw [e6] at this
  exact this
theorem csz (h : MapF F w m p x5.told) : Calls Try.prog 15 #[.pointer (some ⟨m, 0, none⟩), .int .i64 7] w fun e w' => e = .returned (.int .i64 0) ∧ Below w.heap.size w w' ∧ w'.heap.size = w.heap.size := by
  have := msize_walk h 7
  rw [s7] at this
  exact this
end

set_option maxHeartbeats 3200000 in
set_option maxRecDepth 100000 in
theorem walk (w : World) : Calls Try.prog 3 #[] w fun e w' => e = .returned (.bool true) ∧ Below w.heap.size w w' := by
  go_enter Try.func3, Try.ntmps3
  go_wp2_with fail
  refine (palive_walk w).mono ?_
  rintro e w1 ⟨rfl, hb1⟩
  have Hb1 := hide hb1
  clear hb1
  go_wp2_with fail
  refine (new_walk 6 5 w1).mono ?_
  rintro e w2 ⟨D, p, rfl, hD, hF, hb2⟩
  have HD : Hid (Dev D w2 p n0) := hide hD
  have Hb2 := hide ((unhide Hb1).trans (hb2.mono (unhide Hb1).size))
  have HF : Hid (∀ k ∈ D, w.heap.size ≤ k) := hide fun k hk => Nat.le_trans (unhide Hb1).size (hF k hk)
  clear hD hF hb2 Hb1
  go_wp2_with fail
  refine (cbad (unhide HD) none 0 0 [] ⟨rfl, fun i hi => by omega⟩ (by omega) r0).mono ?_
  rintro e w3 ⟨rfl, hb3⟩
  have HD3 := hide ((unhide HD).below hb3)
  have Hb3 := hide ((unhide Hb2).trans (hb3.mono (unhide Hb2).size))
  clear hb3 HD Hb2
  go_wp2_with (refine wpList_slice2 _ _ 3 4 rfl rfl rfl rfl ?_)
  intro w4 hA4 hb4 hs4
  have HR4 : Hid (IRow w4.heap.size w4 (some ⟨w3.heap.size, 0, none⟩) 2 [3, 4]) := hide ((IRow.arr (l := [3, 4]) hA4).up (by omega))
  have HD4 := hide ((unhide HD3).below hb4)
  have Hb4 := hide ((unhide Hb3).trans (hb4.mono (unhide Hb3).size))
  clear hA4 hb4 HD3 Hb3
  go_wp2_with fail
  refine (cbad (unhide HD4) _ 2 _ [3, 4] (unhide HR4) (by omega) r1).mono ?_
  rintro e w5 ⟨rfl, hb5⟩
  have HD5 := hide ((unhide HD4).below hb5)
  have Hb5 := hide ((unhide Hb4).trans (hb5.mono (unhide Hb4).size))
  clear hb5 HD4 Hb4 HR4
  go_wp2_with (refine wpList_slice2 _ _ 0 1 rfl rfl rfl rfl ?_)
  intro w6 hA6 hb6 hs6
  have HR6 : Hid (IRow w6.heap.size w6 (some ⟨w5.heap.size, 0, none⟩) 2 [0, 1]) := hide ((IRow.arr (l := [0, 1]) hA6).up (by omega))
  have HD6 := hide ((unhide HD5).below hb6)
  have Hb6 := hide ((unhide Hb5).trans (hb6.mono (unhide Hb5).size))
  clear hA6 hb6 HD5 Hb5
  go_wp2_with fail
  refine (cbad (unhide HD6) _ 2 _ [0, 1] (unhide HR6) (by omega) r2).mono ?_
  rintro e w7 ⟨rfl, hb7⟩
  have HD7 := hide ((unhide HD6).below hb7)
  have Hb7 := hide ((unhide Hb6).trans (hb7.mono (unhide Hb6).size))
  clear hb7 HD6 Hb6 HR6
  go_wp2_with (refine wpList_slice2 _ _ 3 3 rfl rfl rfl rfl ?_)
  intro w8 hA8 hb8 hs8
  have HR8 : Hid (IRow w8.heap.size w8 (some ⟨w7.heap.size, 0, none⟩) 2 [3, 3]) := hide ((IRow.arr (l := [3, 3]) hA8).up (by omega))
  have HD8 := hide ((unhide HD7).below hb8)
  have Hb8 := hide ((unhide Hb7).trans (hb8.mono (unhide Hb7).size))
  clear hA8 hb8 HD7 Hb7
  go_wp2_with fail
  refine (cgood (unhide HD8) _ _ (unhide HR8)).mono ?_
  rintro e w9 ⟨m, F, rfl, hM9, hF9, hb9⟩
  have HM9 := hide hM9
  have Hb9 := hide ((unhide Hb8).trans (hb9.mono (unhide Hb8).size))
  have HH9 : Hid (∀ k ∈ F ++ D, w.heap.size ≤ k) := hide fun k hk => by
    rcases List.mem_append.1 hk with e | e
    · exact Nat.le_trans (unhide Hb8).size (hF9 k e)
    · exact unhide HF k e
  clear hM9 hF9 hb9 HD8 Hb8 HR8 HF
  go_wp2_with fail
  refine (c4 (unhide HM9)).mono ?_
  rintro e w10 ⟨rfl, hb10⟩
  have HM10 := hide ((unhide HM9).below hb10)
  have Hb10 := hide ((unhide Hb9).trans (hb10.mono (unhide Hb9).size))
  clear hb10 HM9 Hb9
  go_wp2_with (refine wpList_alloc 30 30 (bytesV zeroS) rfl rfl alloc30 ?_)
  intro w11 hA11 hb11 hs11
  have HA11 := hide hA11
  have HM11 := hide ((unhide HM10).below hb11)
  have Hb11 := hide ((unhide Hb10).trans (hb11.mono (unhide Hb10).size))
  have HQ11 : Hid (∀ j ∈ F ++ D, j ≠ w10.heap.size) := hide (fun j hj e => by have := (unhide HM10).lt j hj; omega)
  have HW11 : Hid (w.heap.size ≤ w10.heap.size) := hide (unhide Hb10).size
  clear hA11 hb11 HM10 Hb10
  generalize w10.heap.size = q at *
  go_wp2_with (refine wpList_storeAll 30 _ _ q (bytesV zeroS) (bytesV zeroS) rfl rfl rfl rfl (unhide HA11) rfl (info30s zeroS_len) (bytesV_one _) ?_)
  intro w12 _ hg12 hs12
  have HM12 := hide ((unhide HM11).but (But.of_grown (F := [q]) hg12 (by simp)) (fun j hj => by simpa using unhide HQ11 j hj))
  have Hb12 := hide ((unhide Hb11).grown hg12 (by have := (unhide Hb11).size; omega) (fun k hk => by simp at hk; have := unhide HW11; omega))
  clear hg12 HA11 HM11 Hb11 HQ11 HW11
  go_wp2_with fail
  refine (c5 (unhide HM12)).mono ?_
  rintro e w13 ⟨rfl, hb13⟩
  have HM13 := hide ((unhide HM12).below hb13)
  have Hb13 := hide ((unhide Hb12).trans (hb13.mono (unhide Hb12).size))
  clear hb13 HM12 Hb12
  go_wp2_with (refine wpList_alloc 30 30 (bytesV zeroS) rfl rfl alloc30 ?_)
  intro w14 hA14 hb14 hs14
  have HA14 := hide hA14
  have HM14 := hide ((unhide HM13).below hb14)
  have Hb14 := hide ((unhide Hb13).trans (hb14.mono (unhide Hb13).size))
  have HQ14 : Hid (∀ j ∈ F ++ D, j ≠ w13.heap.size) := hide (fun j hj e => by have := (unhide HM13).lt j hj; omega)
  have HW14 : Hid (w.heap.size ≤ w13.heap.size) := hide (unhide Hb13).size
  clear hA14 hb14 HM13 Hb13
  generalize w13.heap.size = q2 at *
  go_wp2_with (refine wpList_storeAll 30 _ _ q2 (bytesV zeroS) (bytesV zeroS) rfl rfl rfl rfl (unhide HA14) rfl (info30s zeroS_len) (bytesV_one _) ?_)
  intro w15 _ hg15 hs15
  have HM15 := hide ((unhide HM14).but (But.of_grown (F := [q2]) hg15 (by simp)) (fun j hj => by simpa using unhide HQ14 j hj))
  have Hb15 := hide ((unhide Hb14).grown hg15 (by have := (unhide Hb14).size; omega) (fun k hk => by simp at hk; have := unhide HW14; omega))
  clear hg15 HA14 HM14 Hb14 HQ14 HW14
  go_wp2_with fail
  refine (cas (unhide HM15)).mono ?_
  rintro e w16 ⟨rfl, hM16, hT16⟩
  have HM16 := hide hM16
  have HT16 := hide hT16
  clear hM16 hT16
  go_wp2_with (refine wpList_build 30 _ (bytesV zeroS) [] rfl rfl rfl built30 ?_)
  refine (c1 (unhide HM16)).mono ?_
  rintro e w17 ⟨rfl, F1, D1, hM17, hT17⟩
  have HM17 := hide hM17
  have HT17 := hide ((unhide HT16).trans hT17)
  clear hM17 hT17 HT16 HM16
  go_wp2_with fail
  refine (c2 (unhide HM17)).mono ?_
  rintro e w18 ⟨rfl, F2, D2, hM18, hT18⟩
  have HM18 := hide hM18
  have HT18 := hide ((unhide HT17).trans hT18)
  clear hM18 hT18 HT17 HM17
  go_wp2_with fail
  refine (cops (unhide HM18)).mono ?_
  rintro e w19 ⟨g, cap, F3, rfl, hr0, hr4, hM19, hT19, hg, hgl⟩
  have HM19 := hide hM19
  have HT19 := hide ((unhide HT18).trans hT19)
  have HR0 := hide hr0
  have HR4 := hide hr4
  have HG := hide (And.intro hg hgl)
  clear hM19 hT19 HT18 HM18 hr0 hr4 hg hgl
  go_wp2_with fail
  refine (cas0 (unhide HM19)).mono ?_
  rintro e w20 ⟨rfl, hM20, hT20⟩
  have HM20 := hide hM20
  have HT20 := hide ((unhide HT19).trans hT20)
  have HG20 : Hid (w20.heap[g]? = w19.heap[g]?) := hide (hT20.1.block g (unhide HG).2 (unhide HG).1)
  have HR0 : Hid (w20.rangeAt g 0 (opV (2, 1, 2, 9))) := hide fun j u hj => (cell_same (unhide HG20)).trans (unhide HR0 j u hj)
  have HR4 : Hid (w20.rangeAt g 4 (opV (1, 1, 2, 9))) := hide fun j u hj => (cell_same (unhide HG20)).trans (unhide HR4 j u hj)
  clear hM20 hT20 HT19 HM19 HG20 HG
  have k0 : w20.cell? ⟨g, 0, none⟩ = some (.int .i64 2) := unhide HR0 0 _ rfl
  have k1 : w20.cell? ⟨g, 1, none⟩ = some (.int .i64 1) := unhide HR0 1 _ rfl
  have k2 : w20.cell? ⟨g, 2, none⟩ = some (.int .i64 2) := unhide HR0 2 _ rfl
  have k3 : w20.cell? ⟨g, 3, none⟩ = some (.int .i64 9) := unhide HR0 3 _ rfl
  have k4 : w20.cell? ⟨g, 4, none⟩ = some (.int .i64 1) := unhide HR4 0 _ rfl
  have k5 : w20.cell? ⟨g, 5, none⟩ = some (.int .i64 1) := unhide HR4 1 _ rfl
  have k6 : w20.cell? ⟨g, 6, none⟩ = some (.int .i64 2) := unhide HR4 2 _ rfl
  have k7 : w20.cell? ⟨g, 7, none⟩ = some (.int .i64 9) := unhide HR4 3 _ rfl
  go_wp2_with fail
  clear k0 k1 k2 k3 k4 k5 k6 k7 HR0 HR4
  refine (cops2 (unhide HM20)).mono ?_
  rintro e w21 ⟨a21, cap21, F4, rfl, hM21, hT21⟩
  have HM21 := hide hM21
  have HT21 := hide ((unhide HT20).trans hT21)
  clear hM21 hT21 HT20 HM20
  go_wp2_with fail
  refine (csync (unhide HM21)).mono ?_
  rintro e w22 ⟨rfl, D4, hM22, hT22⟩
  have HM22 := hide hM22
  have HT22 := hide ((unhide HT21).trans hT22)
  clear hM22 hT22 HT21 HM21
  go_wp2_with fail
  refine (csz (unhide HM22).map).mono ?_
  rintro e w23 ⟨rfl, hb23, hs23⟩
  have Hb23 : Hid (Below w.heap.size w w23) := hide ((unhide Hb15).trans (((unhide HT22).1.below (unhide HH9) (unhide Hb15).size).trans (hb23.mono (Nat.le_trans (unhide Hb15).size (unhide HT22).1.size))))
  clear hb23
  go_wp2
  go_ret
  exact ⟨rfl, unhide Hb23⟩
end partNames
end Go.Proofs.Ytlgknllcnkainaa
