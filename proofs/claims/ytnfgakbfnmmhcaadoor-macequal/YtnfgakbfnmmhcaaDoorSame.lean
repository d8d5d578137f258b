/-
  What mac.Equal answers: whether both are the same.
-/
import Derived.Test.YtnfgakbfnmmhcaaDoorAlive
import Derived.WalkSpells
import Derived.WalkLawsBesides
namespace Go.Proofs.YtnfgakbfnmmhcaaDoor
open Go.RowKit

theorem or8 (a b : BitVec 8) : bits .or .u8 ((a.toNat : Nat) : Int) ((b.toNat : Nat) : Int) = (((a ||| b).toNat : Nat) : Int) := by
  show IntKind.u8.wrap ((BitVec.ofInt 8 ((a.toNat : Nat) : Int) ||| BitVec.ofInt 8 ((b.toNat : Nat) : Int)).toNat : Int) = _
  have h : ∀ c : BitVec 8, BitVec.ofInt 8 ((c.toNat : Nat) : Int) = c := fun c => by simp
  rw [h, h]
  have := (a ||| b).isLt
  rw [IntKind.wrap_u8']
  omega

/-- What differs in the first k bytes. -/
def dif (x y : List (BitVec 8)) : Nat → BitVec 8
  | 0 => 0#8
  | k + 1 => dif x y k ||| (x.getD k 0 ^^^ y.getD k 0)

theorem or_zero (a b : BitVec 8) : a ||| b = 0#8 ↔ a = 0#8 ∧ b = 0#8 := by
  constructor
  · intro h
    constructor
    · apply BitVec.eq_of_getLsbD_eq
      intro i hi
      have := congrArg (fun z => BitVec.getLsbD z i) h
      simp at this
      simp [this.1]
    · apply BitVec.eq_of_getLsbD_eq
      intro i hi
      have := congrArg (fun z => BitVec.getLsbD z i) h
      simp at this
      simp [this.2]
  · rintro ⟨rfl, rfl⟩; rfl

theorem dif_zero (x y : List (BitVec 8)) : ∀ k, dif x y k = 0#8 ↔ ∀ i, i < k → x.getD i 0 = y.getD i 0
  | 0 => ⟨fun _ i hi => by omega, fun _ => rfl⟩
  | k + 1 => by
    rw [dif, or_zero, dif_zero x y k]
    constructor
    · rintro ⟨h1, h2⟩ i hi
      rcases Nat.lt_or_ge i k with h | h
      · exact h1 i h
      · obtain rfl : i = k := by omega
        exact BitVec.xor_eq_zero_iff.1 h2
    · intro h
      exact ⟨fun i hi => h i (by omega), BitVec.xor_eq_zero_iff.2 (h k (by omega))⟩

theorem dif_same (x y : List (BitVec 8)) (hx : x.length = 32) (hy : y.length = 32) : ((((dif x y 32).toNat : Nat) : Int) == 0) = (x == y) := by
  rw [← all_getD x y hx hy, Bool.eq_iff_iff, List.all_eq_true, beq_iff_eq]
  have e : (((dif x y 32).toNat : Nat) : Int) = 0 ↔ dif x y 32 = 0#8 := by
    constructor
    · intro h
      apply BitVec.eq_of_toNat_eq
      simp; omega
    · intro h; rw [h]; rfl
  rw [e, dif_zero]
  constructor
  · intro h i hi
    rw [beq_iff_eq]
    exact h i (by simpa using hi)
  · intro h i hi
    exact beq_iff_eq.1 (h i (by simpa using hi))

set_option maxRecDepth 100000 in
set_option maxHeartbeats 400000 in
theorem equal_any (x y : List (BitVec 8)) (hx : x.length = 32) (hy : y.length = 32) (cs ds : List Value) (hcs : cs = bytesV x) (hds : ds = bytesV y) (w : World) :
    Calls Tryd.prog 9 #[.agg cs.toArray, .agg ds.toArray] w fun e w' => e = .returned (.bool (x == y)) ∧ Below w.heap.size w w' := by
  have Hcs := hide hcs
  have Hds := hide hds
  have Hx := hide hx
  have Hy := hide hy
  clear hcs hds
  go_enter Tryd.func9, Tryd.ntmps9
  go_wp2_with (refine wpList_box 25 _ cs rfl rfl rfl ?_)
  intro w1 hA1 hb1 hs1
  have HA1 := hide hA1
  have Hb1 := hide hb1
  clear hA1 hb1
  go_wp2_with (refine wpList_box 25 _ ds rfl rfl rfl ?_)
  intro w2 hB2 hb2 hs2
  have HA2 := hide ((unhide HA1).keep hb2 (by omega))
  have HB2 := hide hB2
  have Hb2 := hide ((unhide Hb1).trans (hb2.mono (by omega)))
  clear hB2 hb2 HA1 Hb1
  go_wp2_with fail
  go_loopw [5, 7] (fun d i wr => ∃ k : Nat, k ≤ 32 ∧ i = .int .i64 k ∧ d = .int .u8 (((dif x y k).toNat : Nat) : Int) ∧ Arr wr w.heap.size cs ∧ Arr wr (w.heap.size + 1) ds ∧ Below w.heap.size w wr) (fun _ i _ => 32 - (intOf i).toNat)
  case atStart => exact ⟨0, by omega, rfl, rfl, unhide HA2, unhide HB2, unhide Hb2⟩
  case round =>
    obtain ⟨k, hk, rfl, rfl, hA, hB, hb⟩ := hrel
    clear HA2 Hb2 HB2
    have HA := hide hA
    have HB := hide hB
    have Hb := hide hb
    by_cases hlt : k < 32
    · have hc1 := hA.cell (i := k) (by rw [unhide Hcs]; exact bytesV_get x (by omega))
      have hc2 := hB.cell (i := k) (by rw [unhide Hds]; exact bytesV_get y (by omega))
      have hxo := xor8 (x.getD k 0) (y.getD k 0)
      have hor := or8 (dif x y k) (x.getD k 0 ^^^ y.getD k 0)
      have Hd : Hid (dif x y (k + 1) = dif x y k ||| (x.getD k 0 ^^^ y.getD k 0)) := rfl
      generalize x.getD k 0 = c1 at *
      generalize y.getD k 0 = c2 at *
      generalize dif x y k = d at *
      clear hA hB hb
      go_wp2_with fail
      go_quiet (fail)
      go_wp2
      go_roundw
      case rel => exact ⟨k + 1, by omega, by go_num, by rw [unhide Hd, ← BitVec.toNat_xor, hor], unhide HA, unhide HB, below_drewN (unhide Hb) _⟩
      case measure => simp [intOf]; omega
    · obtain rfl : k = 32 := by omega
      have hd := dif_same x y hx hy
      clear hA hB hb
      go_wp2
      go_ret
      exact ⟨rfl, unhide Hb⟩

end Go.Proofs.YtnfgakbfnmmhcaaDoor
