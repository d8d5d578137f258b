/-
  FrameTorn: what is not spoken of; the walk, whole.
-/
import Derived.Test.YtkcchadecnkgnaaTornWalk
namespace Go.Proofs.Ytkcchadecnkgnaa
open Go.RowKit

set_option maxRecDepth 100000 in
set_option maxHeartbeats 2000000 in
theorem frameTorn.inner (s : Nat) (hs : s < 18446744073709551616) (v : Value) (b : List UInt8) (n0 n1 : Int) (hn0 : -9223372036854775808 ≤ n0 ∧ n0 < 9223372036854775808) (w : World) (hr : RowV w.heap.size w v b) :
    Calls Try.prog 6 #[.int .u64 (s : Int), v, .agg #[.int .i64 n0, .int .i64 n1]] w fun e w' => e = .returned (.bool true) ∧ Below w.heap.size w w' := by
  by_cases hok : b.length ≤ 600 ∧ 0 ≤ n0 ∧ 1 ≤ n1 ∧ n1 ≤ 255
  · obtain ⟨h1, h2, h3, h4⟩ := hok
    obtain ⟨n, rfl⟩ : ∃ n : Nat, n0 = (n : Int) := ⟨n0.toNat, by omega⟩
    obtain ⟨c, rfl⟩ : ∃ c : UInt8, n1 = ((c.toNat : Nat) : Int) := ⟨UInt8.ofNat n1.toNat, by simp; omega⟩
    exact frameTorn.main s hs v b n c (by omega) (by omega) w hr h1
  · have H0 := hide (fun w => alive_walk w)
    obtain ⟨a, len, cap, rfl, q1, q2, q3, hrow⟩ := hr
    have hlen : b.length = len := hrow.1
    rw [hlen] at hok
    clear hrow hlen
    by_cases h1 : 600 < len
    · clear hok
      go_enter Try.func6, Try.ntmps6
      go_wp2_with (refine wpList_box 37 _ [.int .i64 n0, .int .i64 n1] rfl rfl rfl ?_)
      intro w0 hA0 hb0 hs0
      have HA0 := hide hA0
      have Hb0 := hide hb0
      clear hA0 hb0
      go_wp2_with fail
      refine (unhide H0 w0).mono ?_
      rintro e w1 ⟨rfl, hb1⟩
      have Hb1 : Hid (Below w.heap.size w w1) := hide ((unhide Hb0).trans (hb1.mono (unhide Hb0).size))
      have hca := ((unhide HA0).below hb1).cell (i := 0) rfl
      have hcb := ((unhide HA0).below hb1).cell (i := 1) rfl
      clear hb1 H0 HA0 Hb0
      go_wp2_with fail
      go_ret
      exact ⟨rfl, unhide Hb1⟩
    · by_cases h2 : n0 < 0
      · clear hok
        go_enter Try.func6, Try.ntmps6
        go_wp2_with (refine wpList_box 37 _ [.int .i64 n0, .int .i64 n1] rfl rfl rfl ?_)
        intro w0 hA0 hb0 hs0
        have HA0 := hide hA0
        have Hb0 := hide hb0
        clear hA0 hb0
        go_wp2_with fail
        refine (unhide H0 w0).mono ?_
        rintro e w1 ⟨rfl, hb1⟩
        have Hb1 : Hid (Below w.heap.size w w1) := hide ((unhide Hb0).trans (hb1.mono (unhide Hb0).size))
        have hca := ((unhide HA0).below hb1).cell (i := 0) rfl
        have hcb := ((unhide HA0).below hb1).cell (i := 1) rfl
        clear hb1 H0 HA0 Hb0
        go_wp2_with fail
        go_ret
        exact ⟨rfl, unhide Hb1⟩
      · by_cases h3 : n1 < 1
        · clear hok
          go_enter Try.func6, Try.ntmps6
          go_wp2_with (refine wpList_box 37 _ [.int .i64 n0, .int .i64 n1] rfl rfl rfl ?_)
          intro w0 hA0 hb0 hs0
          have HA0 := hide hA0
          have Hb0 := hide hb0
          clear hA0 hb0
          go_wp2_with fail
          refine (unhide H0 w0).mono ?_
          rintro e w1 ⟨rfl, hb1⟩
          have Hb1 : Hid (Below w.heap.size w w1) := hide ((unhide Hb0).trans (hb1.mono (unhide Hb0).size))
          have hca := ((unhide HA0).below hb1).cell (i := 0) rfl
          have hcb := ((unhide HA0).below hb1).cell (i := 1) rfl
          clear hb1 H0 HA0 Hb0
          go_wp2_with fail
          go_ret
          exact ⟨rfl, unhide Hb1⟩
        · have h4 : 255 < n1 := by omega
          clear hok
          go_enter Try.func6, Try.ntmps6
          go_wp2_with (refine wpList_box 37 _ [.int .i64 n0, .int .i64 n1] rfl rfl rfl ?_)
          intro w0 hA0 hb0 hs0
          have HA0 := hide hA0
          have Hb0 := hide hb0
          clear hA0 hb0
          go_wp2_with fail
          refine (unhide H0 w0).mono ?_
          rintro e w1 ⟨rfl, hb1⟩
          have Hb1 : Hid (Below w.heap.size w w1) := hide ((unhide Hb0).trans (hb1.mono (unhide Hb0).size))
          have hca := ((unhide HA0).below hb1).cell (i := 0) rfl
          have hcb := ((unhide HA0).below hb1).cell (i := 1) rfl
          clear hb1 H0 HA0 Hb0
          go_wp2_with fail
          go_ret
          exact ⟨rfl, unhide Hb1⟩
end Go.Proofs.Ytkcchadecnkgnaa
