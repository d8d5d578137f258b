/-
  The walks, as the closing texts take them.
-/
import Derived.Test.YtkcchadecnkgnaaPutsWalk
import Derived.Test.YtkcchadecnkgnaaTornAll
import Derived.Test.YtkcchadecnkgnaaKit2
namespace Go.Proofs.Ytkcchadecnkgnaa
open Go.RowKit

set_option maxRecDepth 100000 in
set_option maxHeartbeats 1000000 in
theorem framePuts.big (k s : Value) (a : Option Addr) (len cap : Nat) (h1000 : 1000 < len) (w : World) : Calls Try.prog 4 #[k, s, .slice a len cap] w fun e w' => e = .returned (.bool true) ∧ Below w.heap.size w w' := by
  have H0 := hide (fun w => alive_walk w)
  go_enter Try.func4, Try.ntmps4
  go_wp2_with fail
  refine (unhide H0 w).mono ?_
  rintro e w1 ⟨rfl, hb1⟩
  have Hb1 := hide hb1
  clear hb1
  go_wp2_with fail
  go_ret
  exact ⟨rfl, unhide Hb1⟩
set_option maxRecDepth 100000 in
set_option maxHeartbeats 1000000 in
theorem frameTorn.big (s : Value) (a : Option Addr) (len cap : Nat) (h600 : 600 < len) (n0 n1 : Int) (w : World) : Calls Try.prog 6 #[s, .slice a len cap, .agg #[.int .i64 n0, .int .i64 n1]] w fun e w' => e = .returned (.bool true) ∧ Below w.heap.size w w' := by
  have H0 := hide (fun w => alive_walk w)
  go_enter Try.func6, Try.ntmps6
  go_wp2_with (refine wpList_box 37 _ [.int .i64 n0, .int .i64 n1] rfl rfl rfl ?_)
  intro w0 hA0 hb0 hs0
  have HA0 := hide hA0
  have Hb0 := hide hb0
  clear hA0 hb0
  go_wp2_with fail
  refine (unhide H0 w0).mono ?_
  rintro e w1 ⟨rfl, hb1⟩
  have Hb1 : Hid (Below w.heap.size w w1) := hide ((unhide Hb0).trans (hb1.mono (unhide Hb0).size))
  clear hb1 H0 HA0 Hb0
  go_wp2_with fail
  go_ret
  exact ⟨rfl, unhide Hb1⟩

theorem framePuts.walk (a0 a1 : Int) (a : Option Addr) (len cap : Nat) (W : World) (w0 : (Lit.int .u8 a0).wf = true) (w1 : (Lit.int .u64 a1).wf = true) (w2 : Bytes W a len cap) :
    Calls Try.prog 4 #[.int .u8 a0, .int .u64 a1, .slice a len cap] W fun e w' => e = .returned (.bool true) ∧ Below W.heap.size W w' := by
  obtain ⟨s, rfl, hs⟩ := wf_u64 w1
  have hk := wf_u8 w0
  obtain ⟨k, rfl⟩ : ∃ k : Nat, a0 = (k : Int) := ⟨a0.toNat, by omega⟩
  by_cases h : len ≤ 140737488351232
  · obtain ⟨bs, _, hr⟩ := w2.2.2 h
    exact framePuts.inner k (by omega) s hs _ bs W hr
  · exact framePuts.big _ _ a len cap (by omega) W
theorem frameGets.walk (a : Option Addr) (len cap : Nat) (ss : List Sec) (W : World) (w0 : SRowV W.heap.size W (.slice a len cap) ss) :
    Calls Try.prog 5 #[.slice a len cap] W fun e w' => e = .returned (.bool true) ∧ Below W.heap.size W w' := frameGets.inner _ ss W w0
theorem frameTorn.walk (a0 : Int) (a : Option Addr) (len cap : Nat) (x y : Int) (W : World) (w0 : (Lit.int .u64 a0).wf = true) (w1 : Bytes W a len cap) (w2 : -9223372036854775808 ≤ x ∧ x ≤ 9223372036854775807) (_w3 : -9223372036854775808 ≤ y ∧ y ≤ 9223372036854775807) :
    Calls Try.prog 6 #[.int .u64 a0, .slice a len cap, .agg #[.int .i64 x, .int .i64 y]] W fun e w' => e = .returned (.bool true) ∧ Below W.heap.size W w' := by
  obtain ⟨s, rfl, hs⟩ := wf_u64 w0
  by_cases h : len ≤ 140737488351232
  · obtain ⟨bs, _, hr⟩ := w1.2.2 h
    exact frameTorn.inner s hs _ bs x y (by omega) W hr
  · exact frameTorn.big _ a len cap (by omega) x y W
end Go.Proofs.Ytkcchadecnkgnaa
