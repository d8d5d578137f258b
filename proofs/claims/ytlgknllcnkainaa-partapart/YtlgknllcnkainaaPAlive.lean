/-
  The chapter's example.
-/
import Derived.Test.YtlgknllcnkainaaMNew
import Derived.LaidEqlPtr
namespace Go.Proofs.Ytlgknllcnkainaa
open Go.RowKit

def sevenS : Sec := 7 :: List.replicate 63 0
theorem sevenS_len : sevenS.length = 64 := by decide +kernel
theorem built30_7 : Try.prog.built 30 [(0, .int .u8 7)] = some (bytesV sevenS).toArray := by kernel_rfl

theorem info82 : ∃ j, Try.prog.info? 82 = some j := by
  have h : (Try.prog.info? 82).isSome = true := by kernel_rfl
  exact Option.isSome_iff_exists.1 h
theorem same_dev (a : Addr) (w : World) : (binOp .eql 23 (.pointer (some a)) (.pointer (some a))).run Try.prog w = .ok (.bool true) w := by
  obtain ⟨j, hj⟩ := info82
  exact run_eql_ptr_same w a Try.underlying23 hj
namespace al
def n0 : DM := newD 6 5
def x0 : MX := ⟨[2, 3], 0, []⟩
def n1 : DM := (programM sevenS n0 x0 1 1).2.1
def x1 : MX := (programM sevenS n0 x0 1 1).2.2
theorem r0 : rightD n0.kept.length [2, 3] = true := by decide +kernel
theorem e1 : (programM sevenS n0 x0 1 1).1 = 0 := by decide +kernel
theorem e3 : (readD n1 3).1 = sevenS := by decide +kernel
theorem s1 : sizeX x1.sz 1 = 3 := by decide +kernel
theorem p1 : x1.sz.length = 2 := by decide +kernel
theorem w0 : n0.wait.length ≤ 1000000 := by decide +kernel
theorem o0 : x0.ops.length ≤ 1000000 := by decide +kernel
section
variable {F D : List Nat} {w : World} {m p : Nat}
theorem c0 (w : World) : Calls Try.prog 7 #[.int .i64 6, .int .i64 5] w fun e w' => ∃ F p, e = .returned (.pointer (some ⟨p, 0, none⟩)) ∧ Dev F w' p n0 ∧ (∀ k ∈ F, w.heap.size ≤ k) ∧ Below w.heap.size w w' := new_walk 6 5 w
theorem cn (h : Dev D w p n0) (a : Option Addr) (cap : Nat) (hR : IRow w.heap.size w a 2 [2, 3]) : Calls Try.prog 8 #[.pointer (some ⟨p, 0, none⟩), .slice a 2 cap] w fun e w' =>
    ∃ m F, e = .returned (.tuple #[.pointer (some ⟨m, 0, none⟩), .int .i64 0]) ∧ PMap F D w' m p n0 x0 ∧ (∀ k ∈ F, w.heap.size ≤ k) ∧ Below w.heap.size w w' := by
  refine (mnew_walk h a 2 cap [2, 3] hR (by decide)).mono ?_
  intro e w' hP
  unfold NewP at hP
  rw [if_pos r0] at hP
  exact hP
theorem c1 (h : PMap F D w m p n0 x0) : Calls Try.prog 11 #[.pointer (some ⟨m, 0, none⟩), .int .i64 1, .int .i64 1, secV sevenS] w fun e w' => e = .returned (.int .i64 0) ∧ ∃ F' D', PMap F' D' w' m p n1 x1 ∧ Turns (F ++ D) (F' ++ D') w w' := by
  have := mprogram_walk h 1 1 (by decide) sevenS sevenS_len w0 o0
  rw [e1] at this
  exact this
theorem c2 (h : Dev D w p n1) : Calls Try.prog 35 #[.pointer (some ⟨p, 0, none⟩), .int .i64 3] w fun e w' => e = .returned (.tuple #[secV sevenS, .int .i64 (readD n1 3).2]) ∧ Below w.heap.size w w' := by
  have := read_walk h 3
  rw [e3] at this
  exact this
theorem c3 (h : MapF F w m p x1) : Calls Try.prog 33 #[.pointer (some ⟨m, 0, none⟩)] w fun e w' => e = .returned (.int .i64 2) ∧ w' = w := by
  have := parts_walk h
  rw [p1] at this
  exact this
theorem c4 (h : MapF F w m p x1) : Calls Try.prog 15 #[.pointer (some ⟨m, 0, none⟩), .int .i64 1] w fun e w' => e = .returned (.int .i64 3) ∧ Below w.heap.size w w' ∧ w'.heap.size = w.heap.size := by
  have := msize_walk h 1
  rw [s1] at this
  exact this
end
end al

set_option maxHeartbeats 1600000 in
set_option maxRecDepth 100000 in
theorem palive_walk (w : World) : Calls Try.prog 6 #[] w fun e w' => e = .returned (.bool true) ∧ Below w.heap.size w w' := by
  go_enter Try.func6, Try.ntmps6
  go_wp2_with fail
  refine (al.c0 w).mono ?_
  rintro e w1 ⟨D, p, rfl, hD, hF, hb1⟩
  have HD := hide hD
  have HF := hide hF
  have Hb1 := hide hb1
  clear hD hF hb1
  go_wp2_with (refine wpList_slice2 _ _ 2 3 rfl rfl rfl rfl ?_)
  intro w2 hA2 hb2 hs2
  have HA2 := hide hA2
  have HD2 := hide ((unhide HD).below hb2)
  have Hb2 := hide ((unhide Hb1).trans (hb2.mono (unhide Hb1).size))
  have HR2 : Hid (IRow w2.heap.size w2 (some ⟨w1.heap.size, 0, none⟩) 2 [2, 3]) := hide ((IRow.arr (l := [2, 3]) hA2).up (by omega))
  clear hA2 hb2 HA2 HD Hb1
  go_wp2_with fail
  refine (al.cn (unhide HD2) _ _ (unhide HR2)).mono ?_
  rintro e w3 ⟨m, F, rfl, hM3, hF3, hb3⟩
  have HM3 := hide hM3
  have Hb3 := hide ((unhide Hb2).trans (hb3.mono (unhide Hb2).size))
  have HH3 : Hid (∀ k ∈ F ++ D, w.heap.size ≤ k) := hide fun k hk => by
    rcases List.mem_append.1 hk with e | e
    · exact Nat.le_trans (unhide Hb2).size (hF3 k e)
    · exact unhide HF k e
  clear hM3 hF3 hb3 HD2 HR2 Hb2 HF
  go_wp2_with (refine wpList_build 30 _ (bytesV sevenS) _ rfl rfl rfl built30_7 ?_)
  refine (al.c1 (unhide HM3)).mono ?_
  rintro e w4 ⟨rfl, F', D', hM4, hT4⟩
  have HM4 := hide hM4
  have Hb4 := hide ((unhide Hb3).trans (hT4.1.below (unhide HH3) (unhide Hb3).size))
  clear hM4 hT4 HM3 Hb3 HH3
  go_wp2_with fail
  refine (al.c2 (unhide HM4).dev).mono ?_
  rintro e w5 ⟨rfl, hb5⟩
  have HM5 := hide ((unhide HM4).below hb5)
  have Hb5 := hide ((unhide Hb4).trans (hb5.mono (unhide Hb4).size))
  clear hb5 HM4 Hb4
  generalize (readD al.n1 3).2 = e2 at *
  go_wp2_with (refine wpList_alloc 30 30 (bytesV zeroS) rfl rfl alloc30 ?_)
  intro w6 hA6 hb6 hs6
  have HA6 := hide hA6
  have HM6 := hide ((unhide HM5).below hb6)
  have Hb6 := hide ((unhide Hb5).trans (hb6.mono (unhide Hb5).size))
  have HQ : Hid (∀ j ∈ F' ++ D', j ≠ w5.heap.size) := hide (fun j hj e => by have := (unhide HM5).lt j hj; omega)
  have HWQ : Hid (w.heap.size ≤ w5.heap.size) := hide (unhide Hb5).size
  clear hA6 hb6 HM5 Hb5
  generalize w5.heap.size = q at *
  go_wp2_with (refine wpList_storeAll 30 _ _ q (bytesV sevenS) (bytesV zeroS) rfl rfl rfl rfl (unhide HA6) rfl (info30s sevenS_len) (bytesV_one _) ?_)
  intro w7 hA7 hg7 hs7
  have HA7 := hide hA7
  have HM7 := hide ((unhide HM6).but (But.of_grown (F := [q]) hg7 (by simp)) (fun j hj => by simpa using unhide HQ j hj))
  have Hb7 := hide ((unhide Hb6).grown hg7 (by have := (unhide Hb6).size; omega) (fun k hk => by simp at hk; have := unhide HWQ; omega))
  clear hA7 hg7 HA6 HM6 Hb6
  have he := run_equal30 sevenS sevenS sevenS_len sevenS_len w7
  unfold secV at he
  rw [show (sevenS == sevenS) = true by decide +kernel] at he
  go_wp2_with (first
    | refine wpList_loadAll 30 _ q (bytesV sevenS) _ rfl rfl rfl (unhide HA7) Try.underlying30 rfl (info30s sevenS_len) ?_
    | refine wpList_build 30 _ (bytesV sevenS) _ rfl rfl rfl built30_7 ?_)
  refine (al.c3 (unhide HM7).map).mono ?_
  rintro e w8 ⟨rfl, hw8⟩
  subst w8
  go_wp2_with fail
  refine (al.c4 (unhide HM7).map).mono ?_
  rintro e w9 ⟨rfl, hb9, hs9⟩
  have HM9 := hide ((unhide HM7).below hb9)
  have Hb9 := hide ((unhide Hb7).trans (hb9.mono (unhide Hb7).size))
  clear hb9 HM7 Hb7
  go_wp2_with fail
  refine (device_walk (unhide HM9).map).mono ?_
  rintro e w10 ⟨rfl, hw10⟩
  subst w10
  have hsd := same_dev ⟨p, 0, none⟩ w9
  go_wp2
  go_ret
  exact ⟨rfl, unhide Hb9⟩
end Go.Proofs.Ytlgknllcnkainaa
