/-
  FlashNames: the walk.
-/
import Derived.Test.YtebahemgbpjldaaAlive
namespace Go.Proofs.Ytebahemgbpjldaa
open Go.RowKit
namespace flashNames

def n0 : DM := newD 1 1
def n1 : DM := (eraseD n0 0).2
def n2 : DM := (eraseD n1 0).2
def n3 : DM := budgetD n2 0
def n4 : DM := (programD n3 0 zeroS).2
def n5 : DM := (syncD n4).2
def n6 : DM := (eraseD n5 0).2
theorem e0 : (readD n0 1).2 = 61 := by decide +kernel
theorem e0s : (readD n0 1).1 = zeroS := by decide +kernel
theorem e1 : (eraseD n0 0).1 = 0 := by decide +kernel
theorem e2 : (eraseD n1 0).1 = 64 := by decide +kernel
theorem e4 : (programD n3 0 zeroS).1 = 62 := by decide +kernel
theorem e4d : n4.down = true := by decide +kernel
theorem e5 : (syncD n4).1 = 62 := by decide +kernel
theorem e6 : (eraseD n5 0).1 = 62 := by decide +kernel
theorem e7 : wearD n6 0 = 1 := by decide +kernel
theorem e8 : wearD n6 9 = 0 := by decide +kernel
theorem w0 : n0.wait.length ≤ 1000000 := by decide +kernel
theorem w1 : n1.wait.length ≤ 1000000 := by decide +kernel
theorem w3 : n3.wait.length ≤ 1000000 := by decide +kernel
theorem w4 : n4.wait.length ≤ 1000000 := by decide +kernel
theorem w5 : n5.wait.length ≤ 1000000 := by decide +kernel
theorem k1 : (newD 9999 0).kept.length = 4096 := by rw [newD_kept]; decide +kernel
theorem k2 : (newD (-1) 0).kept.length = 0 := by rw [newD_kept]; decide +kernel
section
variable {F : List Nat} {w : World} {p : Nat}
theorem c0 (h : Dev F w p n0) : Calls Try.prog 9 #[.pointer (some ⟨p, 0, none⟩), .int .i64 1] w fun e w' => e = .returned (.tuple #[secV zeroS, .int .i64 61]) ∧ Below w.heap.size w w' := by
  have := read_walk h 1
  rw [e0, e0s] at this
  exact this
theorem c1 (h : Dev F w p n0) : Calls Try.prog 10 #[.pointer (some ⟨p, 0, none⟩), .int .i64 0] w fun e w' => e = .returned (.int .i64 0) ∧ ∃ F', Dev F' w' p n1 ∧ Turns F F' w w' := by
  have := erase_walk h 0 w0
  rw [e1] at this
  exact this
theorem c2 (h : Dev F w p n1) : Calls Try.prog 10 #[.pointer (some ⟨p, 0, none⟩), .int .i64 0] w fun e w' => e = .returned (.int .i64 64) ∧ ∃ F', Dev F' w' p n2 ∧ Turns F F' w w' := by
  have := erase_walk h 0 w1
  rw [e2] at this
  exact this
theorem c3 (h : Dev F w p n2) : Calls Try.prog 11 #[.pointer (some ⟨p, 0, none⟩), .int .i64 0] w fun e w' => e = .returned (.tuple #[]) ∧ ∃ F', Dev F' w' p n3 ∧ Turns F F' w w' := by
  refine (budget_walk h 0 (by decide)).mono ?_
  rintro e w' ⟨rfl, h1, h2, _⟩
  exact ⟨rfl, F, h1, h2, fun _ h => .inl h⟩
theorem c4 (h : Dev F w p n3) : Calls Try.prog 12 #[.pointer (some ⟨p, 0, none⟩), .int .i64 0, secV zeroS] w fun e w' => e = .returned (.int .i64 62) ∧ ∃ F', Dev F' w' p n4 ∧ Turns F F' w w' := by
  have := program_walk h 0 zeroS zeroS_len w3
  rw [e4] at this
  exact this
theorem c4d (h : Dev F w p n4) : Calls Try.prog 13 #[.pointer (some ⟨p, 0, none⟩)] w fun e w' => e = .returned (.bool true) ∧ w' = w := by
  have := down_walk h
  rw [e4d] at this
  exact this
theorem c5 (h : Dev F w p n4) : Calls Try.prog 14 #[.pointer (some ⟨p, 0, none⟩)] w fun e w' => e = .returned (.int .i64 62) ∧ ∃ F', Dev F' w' p n5 ∧ Turns F F' w w' := by
  have := sync_walk h w4
  rw [e5] at this
  exact this
theorem c6 (h : Dev F w p n5) : Calls Try.prog 10 #[.pointer (some ⟨p, 0, none⟩), .int .i64 0] w fun e w' => e = .returned (.int .i64 62) ∧ ∃ F', Dev F' w' p n6 ∧ Turns F F' w w' := by
  have := erase_walk h 0 w5
  rw [e6] at this
  exact this
theorem c7 (h : Dev F w p n6) : Calls Try.prog 15 #[.pointer (some ⟨p, 0, none⟩), .int .i64 0] w fun e w' => e = .returned (.int .i64 1) ∧ w' = w := by
  have := wear_walk h 0
  rw [e7] at this
  exact this
theorem c8 (h : Dev F w p n6) : Calls Try.prog 15 #[.pointer (some ⟨p, 0, none⟩), .int .i64 9] w fun e w' => e = .returned (.int .i64 0) ∧ w' = w := by
  have := wear_walk h 9
  rw [e8] at this
  exact this
theorem cs1 (h : Dev F w p (newD 9999 0)) : Calls Try.prog 18 #[.pointer (some ⟨p, 0, none⟩)] w fun e w' => e = .returned (.int .i64 4096) ∧ w' = w := by
  have := size_walk h
  rw [k1, show ((4096 : Nat) : Int) = 4096 by simp] at this
  exact this
theorem cs2 (h : Dev F w p (newD (-1) 0)) : Calls Try.prog 18 #[.pointer (some ⟨p, 0, none⟩)] w fun e w' => e = .returned (.int .i64 0) ∧ w' = w := by
  have := size_walk h
  rw [k2] at this
  exact this
end

set_option maxHeartbeats 1600000 in
set_option maxRecDepth 100000 in
theorem main (w : World) : Calls Try.prog 3 #[] w fun e w' => e = .returned (.bool true) ∧ Below w.heap.size w w' := by
  go_enter Try.func3, Try.ntmps3
  go_wp2_with fail
  refine (alive_walk w).mono ?_
  rintro e w1 ⟨rfl, hb1⟩
  have Hb1 := hide hb1
  clear hb1
  go_wp2_with fail
  refine (new_walk 1 1 w1).mono ?_
  rintro e w2 ⟨F, p, rfl, hD, hF, hb⟩
  have hs := (unhide Hb1).size
  have HD2 : Hid (Dev F w2 p n0) := hide hD
  have HF2 : Hid (∀ k ∈ F, w.heap.size ≤ k) := hide (fun k hk => Nat.le_trans hs (hF k hk))
  have Hb2 := hide ((unhide Hb1).trans (hb.mono hs))
  clear hD hF hb Hb1 hs
  go_wp2_with fail
  refine (c0 (unhide HD2)).mono ?_
  rintro e w3 ⟨rfl, hb3⟩
  have HD3 := hide ((unhide HD2).below hb3)
  have Hb3 := hide ((unhide Hb2).trans (hb3.mono (unhide Hb2).size))
  clear HD2 Hb2 hb3
  have HLZ : Hid (zeroS.length = 64) := hide zeroS_len
  obtain ⟨zs, hzs⟩ : ∃ zs : Sec, zs = zeroS := ⟨_, rfl⟩
  rw [← hzs] at HLZ ⊢
  have HZS := hide hzs
  clear hzs
  go_wp2_with (refine wpList_alloc 26 26 (bytesV zeroS) rfl rfl alloc26 ?_)
  intro w4 hA4 hb4 hs4
  have HA4 := hide hA4
  have HD4 := hide ((unhide HD3).below hb4)
  have Hb4 := hide ((unhide Hb3).trans (hb4.mono (unhide Hb3).size))
  have HQ : Hid (w3.heap.size ∉ F ∧ w.heap.size ≤ w3.heap.size) := hide ⟨fun e => by have := (unhide HD3).lt _ e; omega, (unhide Hb3).size⟩
  clear hA4 hb4 HD3 Hb3
  generalize w3.heap.size = q at *
  go_wp2_with (refine wpList_storeAll 26 _ _ q (bytesV zs) (bytesV zeroS) rfl rfl rfl rfl (unhide HA4) (by rw [bytesV_length, bytesV_length, unhide HLZ]; rfl) (info26s (unhide HLZ)) (bytesV_one _) ?_)
  intro w5 hA5 hg5 hs5
  have HD5 := hide ((unhide HD4).same (w' := w5) fun k hk => hg5.block k ((unhide HD4).lt k hk) (by intro e; cases e; exact (unhide HQ).1 hk))
  have Hb5 := hide ((unhide Hb4).grown hg5 (unhide Hb4).size (fun k hk => by cases hk; exact (unhide HQ).2))
  clear hA5 hg5 HA4 HD4 Hb4 HQ
  go_wp2_with fail
  refine (c1 (unhide HD5)).mono ?_
  rintro e w6 ⟨rfl, F6, hD, hT⟩
  have hu := hT.under (unhide HF2) (unhide Hb5).size
  have HD6 := hide hD
  have HF6 := hide hu.2
  have Hb6 := hide ((unhide Hb5).trans hu.1)
  clear hD hT hu HD5 Hb5 HF2
  go_wp2_with fail
  refine (c2 (unhide HD6)).mono ?_
  rintro e w7 ⟨rfl, F7, hD, hT⟩
  have hu := hT.under (unhide HF6) (unhide Hb6).size
  have HD7 := hide hD
  have HF7 := hide hu.2
  have Hb7 := hide ((unhide Hb6).trans hu.1)
  clear hD hT hu HD6 Hb6 HF6
  go_wp2_with fail
  refine (c3 (unhide HD7)).mono ?_
  rintro e w8 ⟨rfl, F8, hD, hT⟩
  have hu := hT.under (unhide HF7) (unhide Hb7).size
  have HD8 := hide hD
  have HF8 := hide hu.2
  have Hb8 := hide ((unhide Hb7).trans hu.1)
  clear hD hT hu HD7 Hb7 HF7
  go_wp2_with (refine wpList_build 26 _ (bytesV zeroS) [] rfl rfl rfl built26 ?_)
  refine (c4 (unhide HD8)).mono ?_
  rintro e w9 ⟨rfl, F9, hD, hT⟩
  have hu := hT.under (unhide HF8) (unhide Hb8).size
  have HD9 := hide hD
  have HF9 := hide hu.2
  have Hb9 := hide ((unhide Hb8).trans hu.1)
  clear hD hT hu HD8 Hb8 HF8
  go_wp2_with fail
  refine (c4d (unhide HD9)).mono ?_
  rintro e wx ⟨rfl, hwx⟩
  subst wx
  go_wp2_with fail
  refine (c5 (unhide HD9)).mono ?_
  rintro e w10 ⟨rfl, F10, hD, hT⟩
  have hu := hT.under (unhide HF9) (unhide Hb9).size
  have HD10 := hide hD
  have HF10 := hide hu.2
  have Hb10 := hide ((unhide Hb9).trans hu.1)
  clear hD hT hu HD9 Hb9 HF9
  go_wp2_with fail
  refine (c6 (unhide HD10)).mono ?_
  rintro e w11 ⟨rfl, F11, hD, hT⟩
  have hu := hT.under (unhide HF10) (unhide Hb10).size
  have HD11 := hide hD
  have HF11 := hide hu.2
  have Hb11 := hide ((unhide Hb10).trans hu.1)
  clear hD hT hu HD10 Hb10 HF10
  go_wp2_with fail
  refine (c7 (unhide HD11)).mono ?_
  rintro e wx ⟨rfl, hwx⟩
  subst wx
  go_wp2_with fail
  refine (c8 (unhide HD11)).mono ?_
  rintro e wx ⟨rfl, hwx⟩
  subst wx
  clear HD11 HF11
  go_wp2_with fail
  refine (blank_walk w11).mono ?_
  rintro e w12 ⟨rfl, hb12⟩
  have Hb12 := hide ((unhide Hb11).trans (hb12.mono (unhide Hb11).size))
  clear hb12 Hb11
  go_wp2_with fail
  refine (rblank_walk w12).mono ?_
  rintro e w13 ⟨rfl, hb13⟩
  have Hb13 := hide ((unhide Hb12).trans (hb13.mono (unhide Hb12).size))
  clear hb13 Hb12
  have HLB : Hid (blankS.length = 64) := hide blankS_len
  obtain ⟨bs, hbs⟩ : ∃ bs : Sec, bs = blankS := ⟨_, rfl⟩
  rw [← hbs] at HLB ⊢
  clear hbs
  have heq : (Op.equalIn 10000 26 (.agg (bytesV bs).toArray) (.agg (bytesV bs).toArray)).run Try.prog w13 = .ok true w13 := by
    have := run_equal26 bs bs (unhide HLB) (unhide HLB) w13
    rw [beq_self_eq_true] at this
    exact this
  unfold secV
  go_wp2_with fail
  refine (new_walk 9999 0 w13).mono ?_
  rintro e w14 ⟨F9, p9, rfl, hD9, hF9, hb9⟩
  have HD14 := hide hD9
  have Hb14 := hide ((unhide Hb13).trans (hb9.mono (unhide Hb13).size))
  clear hD9 hF9 hb9 Hb13 heq
  go_wp2_with fail
  refine (cs1 (unhide HD14)).mono ?_
  rintro e wx ⟨rfl, hwx⟩
  subst wx
  clear HD14
  go_wp2_with fail
  refine (new_walk (-1) 0 w14).mono ?_
  rintro e w15 ⟨F9, p9, rfl, hD9, hF9, hb9⟩
  have HD15 := hide hD9
  have Hb15 := hide ((unhide Hb14).trans (hb9.mono (unhide Hb14).size))
  clear hD9 hF9 hb9 Hb14
  go_wp2_with fail
  refine (cs2 (unhide HD15)).mono ?_
  rintro e wx ⟨rfl, hwx⟩
  subst wx
  clear HD15
  go_wp2_with fail
  go_ret
  exact ⟨rfl, unhide Hb15⟩
theorem walk (w : World) : Calls Try.prog 3 #[] w fun e w' => e = .returned (.bool true) ∧ Below w.heap.size w w' := main w
end flashNames
end Go.Proofs.Ytebahemgbpjldaa
