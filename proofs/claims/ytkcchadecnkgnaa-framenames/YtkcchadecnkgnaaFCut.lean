/-
  slices.Chunk: what it hands to a loop's body; frame.cut: a row of bytes in sectors.
-/
import Derived.RangeFuncNested
import Derived.RangeFuncBound
import Derived.RangeFuncCalls
import Derived.RangeFuncLeaves
import Derived.RangeFuncBox
import Derived.Shelf.Abstract
import Derived.Shelf.RegionOpen
import Derived.WalkKit
import Derived.OwnWalkIn
import Derived.TacticsInMore
import Derived.LoopNIn
import Derived.LoopIn
import Derived.RegionIn
import Derived.BigRegionIn
import Derived.Test.YtkcchadecnkgnaaSOps
namespace Go.Proofs.Ytkcchadecnkgnaa
open Go.RowKit Go.Shelf
attribute [local go_sem] Oper.semAt_some

/-- The places at which a row of so many bytes is cut. -/
abbrev Cuts (len : Nat) := { k : Nat // 63 * k < len }
def chunkV (b off len : Nat) (x : Cuts len) : Array Value := #[.slice (some ⟨b, off + 63 * x.1, none⟩) (min 63 (len - 63 * x.1)) (min 63 (len - 63 * x.1))]

set_option maxRecDepth 100000 in
set_option maxHeartbeats 2000000 in
theorem chunk1_in (F : Fence) (n : Nat) (h35 : F.fn 35) (hro : F.round = none) (hn : 1 ≤ n) (l Bs Bn b off len cap : Nat) (hlen : len ≤ 100000) (hcap : len ≤ cap) (Kp : World → World → Prop)
    (hKc : ∀ W W', Kp W W' → W'.heap[Bs]? = W.heap[Bs]? ∧ W'.heap[Bn]? = W.heap[Bn]?) (J Jx : List (Cuts len) → World → Prop)
    (hY : ∀ pre x W, J pre W → pre.length < (len + 62) / 63 → YieldAt F (n - 1) Try.prog l (chunkV b off len x) W fun e W' =>
      (e = .returned (.bool true) ∧ J (pre ++ [x]) W' ∧ Kp W W') ∨ (e = .returned (.bool false) ∧ Jx (pre ++ [x]) W'))
    (hJd : ∀ pre W, J pre W → J pre W.drew)
    (W : World) (hBs : Boxed W Bs 27 (.slice (some ⟨b, off, none⟩) len cap)) (hBn : Boxed W Bn 3 (.int .i64 63)) (h0 : J [] W) :
    CallsIn F n Try.prog 35 #[.func (.yield l) #[] #[], .pointer (some ⟨Bs, 0, none⟩), .pointer (some ⟨Bn, 0, none⟩)] W fun e W' => (∃ v, e = .returned v) ∧
      ((∃ ys : List (Cuts len), ys.map (·.1) = List.range ((len + 62) / 63) ∧ J ys W') ∨ (∃ pre, True ∧ Jx pre W')) := by
  refine callsIn_of_wp Try.func35 rfl h35 ?_ hro
  simp only [Try.ntmps35, List.size_toArray, List.length_cons, List.length_nil, Nat.reduceAdd, Nat.reduceSub, Array.replicate_succ, Array.replicate_zero, List.push_toArray, List.append_toArray, List.nil_append, List.cons_append]
  gi_wp2
  gi_loopw [4] (fun i wr => ∃ (k : Nat) (pre : List (Cuts len)), k ≤ (len + 62) / 63 ∧ i = .int .i64 ((63 * k : Nat) : Int) ∧ pre.map (·.1) = List.range k ∧ J pre wr ∧ Boxed wr Bs 27 (.slice (some ⟨b, off, none⟩) len cap) ∧ Boxed wr Bn 3 (.int .i64 63))
    (fun i _ => len + 63 - (intOf i).toNat)
  case atStart => exact ⟨0, [], by omega, rfl, rfl, h0, hBs, hBn⟩
  case round =>
    obtain ⟨k, pre, hk, rfl, hpre, hJs, hBs', hBn'⟩ := hrel
    have hc1 := hBs'.cell
    have hc2 := hBn'.cell
    have hpl : pre.length = k := by have := congrArg List.length hpre; simpa using this
    by_cases hlt : 63 * k < len
    · obtain ⟨fn, tmps, assign, body, hy, hR⟩ := hY pre ⟨k, hlt⟩ wr.drew (hJd _ _ hJs) (by omega)
      have hne : ¬ (cap = 63 * k) := by omega
      obtain ⟨e, he⟩ : ∃ e : Nat, e = min 63 (len - 63 * k) := ⟨_, rfl⟩
      have hif : (if ((len - 63 * k : Nat) : Int) < 63 then ((len - 63 * k : Nat) : Int) else 63) = (e : Int) := by split <;> omega
      dsimp only [chunkV] at hy
      rw [← he] at hy
      have he1 : 63 * k + e ≤ len := by omega
      have he2 : 1 ≤ e := by omega
      clear he
      gi_wp2
      gi_region
      all_goals clear hif
      all_goals gi_wp2
      all_goals
        refine hR.mono ?_
        rintro z W3 (⟨rfl, hJ3, hk3⟩ | ⟨rfl, hJx3⟩)
        · have hBs3 : Boxed W3 Bs 27 (.slice (some ⟨b, off, none⟩) len cap) := (hKc _ _ hk3).1.trans hBs'
          have hBn3 : Boxed W3 Bn 3 (.int .i64 63) := (hKc _ _ hk3).2.trans hBn'
          have hc3 := hBn3.cell
          clear hc1 hc2 hR hy
          gi_wp2
          go_roundw
          case rel => exact ⟨k + 1, pre ++ [⟨k, hlt⟩], by omega, by simp; omega, by rw [List.map_append, hpre, List.range_succ]; rfl, hJ3, hBs3, hBn3⟩
          case measure => simp [intOf]; omega
        · clear hc1 hc2 hR hy
          gi_wp2
          refine bodyPost_ret (results_none rfl _ _ _) rfl ?_
          exact ⟨⟨_, rfl⟩, .inr ⟨_, trivial, hJx3⟩⟩
    · have hk2 : k = (len + 62) / 63 := by omega
      gi_wp2
      go_end0
      exact ⟨⟨_, rfl⟩, .inl ⟨pre, by rw [hpre, hk2], hJs⟩⟩

set_option maxHeartbeats 1000000 in
theorem chunk_in (F : Fence) (n : Nat) (h23 : F.fn 23) (hro : F.round = none) (a : Option Addr) (len cap : Nat) (w : World) :
    CallsIn F n Try.prog 23 #[.slice a len cap, .int .i64 63] w fun e w' => e = .returned (.func (.func 35) #[] #[.pointer (some ⟨w.heap.size, 0, none⟩), .pointer (some ⟨w.heap.size + 1, 0, none⟩)]) ∧ w' = (w.alloc (.cells #[.slice a len cap] 27)).alloc (.cells #[.int .i64 63] 3) := by
  refine callsIn_of_wp Try.func23 rfl h23 ?_ hro
  simp only [Try.ntmps23, List.size_toArray, List.length_cons, List.length_nil, Nat.reduceAdd, Nat.reduceSub, Array.replicate_succ, Array.replicate_zero, List.push_toArray, List.append_toArray, List.nil_append, List.cons_append]
  gi_wp2
  go_ret
  exact ⟨rfl, rfl⟩

theorem chunk_stops (F : Fence) (n : Nat) (h35 : F.fn 35) (hro : F.round = none) (hn : 1 ≤ n) (Bs Bn b off len cap : Nat) (hlen : len ≤ 100000) (hcap : len ≤ cap) (Kp : World → World → Prop)
    (hKc : ∀ W W', Kp W W' → W'.heap[Bs]? = W.heap[Bs]? ∧ W'.heap[Bn]? = W.heap[Bn]?) (w : World) (hBs : Boxed w Bs 27 (.slice (some ⟨b, off, none⟩) len cap)) (hBn : Boxed w Bn 3 (.int .i64 63)) :
    SeqStopsK F n Try.prog 35 #[.pointer (some ⟨Bs, 0, none⟩), .pointer (some ⟨Bn, 0, none⟩)] (chunkV b off len) Kp (fun ys => ys.map (·.1) = List.range ((len + 62) / 63)) (fun _ => True) ((len + 62) / 63) w := fun l J Jx W hW hJ _ hY h0 =>
  chunk1_in F n h35 hro hn l Bs Bn b off len cap hlen hcap Kp hKc J Jx hY (fun pre W h => hJ pre W W.drew none h ⟨rfl, rfl, rfl, Nat.le_refl _, fun _ _ _ => rfl⟩ (fun r e => by cases e)) W
    ((hW.block Bs hBs.lt).trans hBs) ((hW.block Bn hBn.lt).trans hBn) h0
end Go.Proofs.Ytkcchadecnkgnaa
