/-
  How bootjackref04 reads a rune of 2 bytes.
-/
import Derived.Test.YtglphnmnnfpcoaaDoorGOneA
namespace Go.Proofs.YtglphnmnnfpcoaaDoor.G
open Go.RowKit Go.Lib

set_option maxHeartbeats 32000000 in
set_option maxRecDepth 1000000 in
theorem one_2_walk (s : ByteArray) (h0 : 0 < s.size) (hs : s.size ≤ 1000000) (hb : 194 ≤ (s[0]'h0).toNat ∧ (s[0]'h0).toNat < 224) (w : World) :
    Calls Tryd.prog 78 #[.string s] w fun e w' => e = .returned (.agg (ruV (one s.data.toList))) ∧ Below w.heap.size w w' := by
  have hdec := dec2 s.data.toList.length (s[0]'h0).toNat (s.data.toList.getD 1 0).toNat (s.data.toList.getD 2 0).toNat (s.data.toList.getD 3 0).toNat hb
  rw [← at_getD s 0 h0, ← decodeL_N, at_getD s 0 h0, len_of] at hdec
  have hb1 : 194 ≤ ((s[0]'h0).toNat : Int) := by omega
  have hb2 : ((s[0]'h0).toNat : Int) < 224 := by omega
  by_cases hlen : s.size < 2
  · rw [if_neg (by omega)] at hdec
    rw [ru_bad s h0 hdec]
    clear hdec hb
    have hlen' : (s.size : Int) < 2 := by omega
    go_enter Tryd.func78, Tryd.ntmps78
    go_wp2
    exact end_one rfl (heap2 _ _ _) ⟨rfl, below2 _ _ _⟩
  · have hlen' : ¬ (s.size : Int) < 2 := by omega
    rw [at_getD s 1 (by omega)] at hdec
    have k1 := (s[1]'(by omega)).toNat_lt
    have HDEC := hide hdec
    clear hdec
    go_enter Tryd.func78, Tryd.ntmps78
    go_wp2
    go_loop [6, 8] (fun vn vi => (vi = .int .i64 1 ∧ vn = .int .i64 (((s[0]'h0).toNat : Int) - 192)) ∨ (vi = .int .i64 2 ∧ vn = .int .i64 (64 * (((s[0]'h0).toNat : Int) - 192) + ((s[1]'(by omega)).toNat : Int) - 128) ∧ (128 ≤ (s[1]'(by omega)).toNat ∧ (s[1]'(by omega)).toNat ≤ 191))) (fun _ vi => 2 - (RowKit.intOf vi).toNat)
    case atStart => exact .inl ⟨rfl, rfl⟩
    case round =>
      rcases hrel with ⟨rfl, rfl⟩ | ⟨rfl, rfl, ⟨c1a, c1b⟩⟩
      · by_cases hc : 128 ≤ (s[1]'(by omega)).toNat ∧ (s[1]'(by omega)).toNat ≤ 191
        · have hc1 : 128 ≤ ((s[1]'(by omega)).toNat : Int) := by omega
          have hc2 : ((s[1]'(by omega)).toNat : Int) ≤ 191 := by omega
          go_wp2
          refine ⟨?_, by decide⟩
          exact .inr (⟨rfl, rfl, hc⟩)
        · have hc1 : ((s[1]'(by omega)).toNat : Int) < 128 ∨ 191 < ((s[1]'(by omega)).toNat : Int) := by omega
          have hbad : decodeL s.data.toList = (65533, 1) := by
            have := unhide HDEC
            rw [if_neg (by omega)] at this
            exact this
          have HR := hide (ru_bad s h0 hbad)
          clear hc hbad
          rcases hc1 with hc1 | hc1
          · go_wp2
            refine end_one rfl (heap2 _ _ _) ⟨?_, below2 _ _ _⟩
            rw [unhide HR]
          · go_wp2
            refine end_one rfl (heap2 _ _ _) ⟨?_, below2 _ _ _⟩
            rw [unhide HR]
      · have hdec := unhide HDEC
        obtain ⟨x, hx⟩ : ∃ x : Nat, x = 64 * ((s[0]'h0).toNat - 192) + (s[1]'(by omega)).toNat - 128 := ⟨_, rfl⟩
        have hval : (64 * (((s[0]'h0).toNat : Int) - 192) + ((s[1]'(by omega)).toNat : Int) - 128 : Int) = (x : Int) := by omega
        rw [hval]
        rw [← hx] at hdec
        have hxl : x ≤ 2097151 := by omega
        clear hval HDEC
        by_cases hok : 128 ≤ x ∧ x ≤ 1114111 ∧ ¬ (55296 ≤ x ∧ x ≤ 57343)
        · rw [if_pos (by omega)] at hdec
          have HR := hide (ru_good s _ _ hdec (by omega))
          have o1 : 128 ≤ (x : Int) := by omega
          have o2 : (x : Int) ≤ 1114111 := by omega
          have o3 : (x : Int) < 55296 := by omega
          clear hdec hok hx
          go_wp2
          refine end_one rfl (heap2 _ _ _) ⟨?_, below2 _ _ _⟩
          rw [unhide HR]
        · exact absurd (by omega) hok
end Go.Proofs.YtglphnmnnfpcoaaDoor.G
