/-
  frame.Put: the sectors of a frame; what no one else holds.
-/
import Derived.Test.YtkcchadecnkgnaaFCut2
namespace Go.Proofs.Ytkcchadecnkgnaa
open Go.RowKit

set_option maxRecDepth 100000 in
set_option maxHeartbeats 1000000 in
theorem put_sectors (N : Nat) (k : UInt8) (s : Nat) (hs : s < 18446744073709551616) (v : Value) (b : List UInt8) (w : World) (hN : N ≤ w.heap.size) (hr : RowV N w v b) :
    Calls Try.prog 9 #[.int .u8 ((k.toNat : Nat) : Int), .int .u64 (s : Int), v] w fun e w' => ∃ v', e = .returned v' ∧ SOwn w.heap.size w' v' (putF k s b) ∧ Below w.heap.size w w' := by
  by_cases hb : b.length ≤ 4000
  · have H1 := hide (rowOf_walk N k s hs v b w hN hr hb)
    have HE := hide (putF_cut hb k s)
    obtain ⟨a, len, cap, rfl, q1, q2, q3, hrow⟩ := hr
    have hlen : b.length = len := hrow.1
    have hl4 : len ≤ 4000 := by omega
    have hrl : (rowF k s b).length = 17 + len := by rw [rowF_length, hlen]
    generalize rowF k s b = r at *
    generalize putF k s b = l at *
    have hk := k.toNat_lt
    clear hrow hlen hb
    go_enter Try.func9, Try.ntmps9
    go_wp2_with fail
    refine (unhide H1).mono ?_
    rintro e w1 ⟨v1, rfl, hO1, hb1⟩
    have H2 := hide (cut_walk w1.heap.size v1 r w1 (Nat.le_refl _) (hO1.row (by omega)) (by omega) (by omega))
    have Hb1 := hide hb1
    clear hO1 hb1 H1
    go_wp2_with fail
    refine (unhide H2).mono ?_
    rintro e w2 ⟨v2, rfl, hO2, hb2⟩
    have hz := (unhide Hb1).size
    have HO2 := hide (hO2.lower hz)
    have Hb2 := hide ((unhide Hb1).trans (hb2.mono hz))
    clear hO2 hb2 H2 Hb1
    go_wp2_with fail
    go_ret
    exact ⟨_, rfl, by rw [unhide HE]; exact unhide HO2, unhide Hb2⟩
  · have HE := hide (putF_none hb k s)
    obtain ⟨a, len, cap, rfl, q1, q2, q3, hrow⟩ := hr
    have hlen : b.length = len := hrow.1
    have hl4 : 4000 < len := by omega
    have hl5 : len ≤ 140737488351232 := hrow.2.1
    clear hrow hlen hb
    go_enter Try.func9, Try.ntmps9
    go_wp2
    go_ret
    exact ⟨_, rfl, by rw [unhide HE]; exact SOwn.nil _ _, Below.refl _ _⟩
end Go.Proofs.Ytkcchadecnkgnaa
