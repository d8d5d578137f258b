/-
  A blank sector, the program's and the document's; a sector full of one byte; a number within bounds.
-/
import Derived.Test.YtdfdalkcljfghaaGreatBase
namespace Go.Proofs.YtdfdalkcljfghaaGreat
open Go.RowKit

def fillS (v : UInt8) (k : Nat) : Sec := List.replicate k v ++ List.replicate (64 - k) 0
theorem fillS_len (v : UInt8) {k : Nat} (h : k ≤ 64) : (fillS v k).length = 64 := by simp [fillS]; omega
theorem fillS_zero (v : UInt8) : fillS v 0 = zeroS := by simp [fillS, zeroS]
theorem fillS_all (v : UInt8) : fillS v 64 = List.replicate 64 v := by simp [fillS]
theorem fillS_step (v : UInt8) {k : Nat} (h : k < 64) : (fillS v k).set k v = fillS v (k + 1) := by
  unfold fillS
  rw [List.set_append_right k v (by simp), List.length_replicate, Nat.sub_self]
  obtain ⟨m, hm⟩ : ∃ m, 64 - k = m + 1 := ⟨63 - k, by omega⟩
  rw [hm, List.replicate_succ, List.set_cons_zero, show 64 - (k + 1) = m by omega, List.replicate_succ']
  simp

set_option maxHeartbeats 800000 in
set_option maxRecDepth 100000 in
theorem blank_walk (w : World) : Calls Tryz.prog 118 #[] w fun e w' => e = .returned (secV blankS) ∧ Below w.heap.size w w' := by
  go_enter Tryz.func118, Tryz.ntmps118
  go_wp2_with (refine wpList_alloc 136 136 (bytesV zeroS) rfl rfl alloc136 ?_)
  intro w1 hA1 hb1 hs1
  have HA1 := hide hA1
  have Hb1 := hide hb1
  clear hA1 hb1
  go_wp2_with (refine wpList_alloc 136 136 (bytesV zeroS) rfl rfl alloc136 ?_)
  intro w2 hA2 hb2 hs2
  have HR2 := hide ((unhide HA1).keep hb2 (by omega))
  have HA2 := hide hA2
  have Hb2 := hide ((unhide Hb1).trans (hb2.mono (by omega)))
  clear hA2 hb2 HA1 Hb1
  go_wp2
  go_loopw [3] (fun i wr => ∃ k : Nat, k ≤ 64 ∧ i = .int .i64 k ∧ Arr wr (w.heap.size + 1) (bytesV (fillS 255 k)) ∧ Arr wr w.heap.size (bytesV zeroS) ∧ Below w.heap.size w wr ∧ wr.heap.size = w.heap.size + 2) (fun i _ => 64 - (intOf i).toNat)
  case atStart => exact ⟨0, by omega, rfl, by rw [fillS_zero]; exact unhide HA2, unhide HR2, unhide Hb2, by omega⟩
  case round =>
    obtain ⟨k, hk, rfl, hA, hR, hb, hs⟩ := hrel
    clear HA2 Hb2 HR2
    have HR := hide hR
    have Hb := hide hb
    by_cases hlt : k < 64
    · have hcell := hA.cell (bytesV_get (fillS 255 k) (i := k) (by rw [fillS_len _ hk]; exact hlt))
      have hfree := hA.free k
      have Hset := hide (hA.set k (.int .u8 255))
      clear hA hb hR
      generalize (fillS 255 k).getD k 0 = c at *
      go_wp2
      go_roundw
      case rel =>
        refine ⟨k + 1, by omega, by go_num, ?_, (unhide HR).other _ _ (by simp), (unhide Hb).setCell (by simp) _, by simpa using hs⟩
        rw [← fillS_step _ hlt, ← bytesV_set]; exact unhide Hset
      case measure => simp [intOf]; omega
    · obtain rfl : k = 64 := by omega
      rw [fillS_all] at hA
      have HA : Hid (Arr wr (w.heap.size + 1) (bytesV blankS)) := hide hA
      clear hA hb hR
      have Hl : Hid ((bytesV blankS).length = 64) := hide (by rw [bytesV_length, blankS_len])
      have Hone := hide (bytesV_one blankS)
      show _
      obtain ⟨xs, hxs⟩ : ∃ xs, xs = bytesV blankS := ⟨_, rfl⟩
      rw [← hxs] at HA Hl Hone
      have Hxs := hide hxs
      clear hxs
      go_wp2_with (first
        | refine wpList_loadAll 136 _ (w.heap.size + 1) xs _ rfl rfl rfl (unhide HA) Tryz.underlying136 rfl (by rw [unhide Hl]; exact info136) ?_
        | refine wpList_storeAll 136 _ _ w.heap.size xs (bytesV zeroS) rfl rfl rfl rfl (unhide HR) (by rw [unhide Hl]; rfl) (by rw [unhide Hl]; exact info136) (unhide Hone) ?_)
      intro w5 hA5 hg5 hs5
      have HA5 := hide hA5
      have Hb5 := hide ((unhide Hb).grown hg5 (by omega) (fun k hk => by simp at hk; omega))
      clear hA5 hg5
      go_wp2
      refine bodyPost_ret (v := .agg xs.toArray) ?_ rfl ⟨by rw [unhide Hxs]; rfl, unhide Hb5⟩
      exact results_arr Tryz.results118 rfl (unhide HA5) Tryz.underlying136 rfl (by rw [unhide Hl]; exact info136)

theorem within_walk (n : Int) (m : Nat) (w : World) :
    Calls Tryz.prog 85 #[.int .i64 n, .int .i64 (m : Int)] w fun e w' => e = .returned (.int .i64 ((clampD n m : Nat) : Int)) ∧ w' = w := by
  by_cases h1 : n < 0
  · have e : ((clampD n m : Nat) : Int) = 0 := by unfold clampD; omega
    have E := hide e
    clear e
    go_enter Tryz.func85, Tryz.ntmps85
    go_wp2
    all_goals (first | (exfalso; omega) | (go_ret; exact ⟨by rw [unhide E]; rfl, rfl⟩))
  · by_cases h2 : (m : Int) < n
    · have e : ((clampD n m : Nat) : Int) = m := by unfold clampD; omega
      have E := hide e
      clear e
      go_enter Tryz.func85, Tryz.ntmps85
      go_wp2
      all_goals (first | (exfalso; omega) | (go_ret; exact ⟨by rw [unhide E]; rfl, rfl⟩))
    · have e : ((clampD n m : Nat) : Int) = n := by unfold clampD; omega
      have E := hide e
      clear e
      go_enter Tryz.func85, Tryz.ntmps85
      go_wp2
      all_goals (first | (exfalso; omega) | (go_ret; exact ⟨by rw [unhide E]; rfl, rfl⟩))
end Go.Proofs.YtdfdalkcljfghaaGreat
