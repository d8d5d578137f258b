/-
  digestAlive answers true, whatever the memory; it makes blocks of its own.
-/
import Derived.Test.YtmmphnmgepbclaaDoorText
namespace Go.Proofs.YtmmphnmgepbclaaDoor
open Go.RowKit

def abcS : ByteArray := ⟨#[98, 97, 55, 56, 49, 54, 98, 102, 56, 102, 48, 49, 99, 102, 101, 97, 52, 49, 52, 49, 52, 48, 100, 101, 53, 100, 97, 101, 50, 50, 50, 51, 98, 48, 48, 51, 54, 49, 97, 51, 57, 54, 49, 55, 55, 97, 57, 99, 98, 52, 49, 48, 102, 102, 54, 49, 102, 50, 48, 48, 49, 53, 97, 100]⟩
theorem abc_str : str (Sha.text (Sha.sum [97#8, 98#8, 99#8])) = abcS := by rw [Sha.abc]; rfl

theorem abc_list : (abcS.toList == [98, 97, 55, 56, 49, 54, 98, 102, 56, 102, 48, 49, 99, 102, 101, 97, 52, 49, 52, 49, 52, 48, 100, 101, 53, 100, 97, 101, 50, 50, 50, 51, 98, 48, 48, 51, 54, 49, 97, 51, 57, 54, 49, 55, 55, 97, 57, 99, 98, 52, 49, 48, 102, 102, 54, 49, 102, 50, 48, 48, 49, 53, 97, 100]) = true := by decide +kernel

theorem Fits.one {w : World} {a : Option Addr} {len cap : Nat} (h : len ≤ cap) (e : TypeId) (fr : Nat × Nat) : Fits (w.alloc (.cells #[.slice a len cap] e fr)) (some ⟨w.heap.size, 0, none⟩) 1 := by
  intro i hi b off ai li ci hb hc
  obtain rfl : i = 0 := by omega
  cases hb
  rw [Nat.zero_add, cell_new] at hc
  cases hc
  exact h

/-- One part. -/
theorem sum_one (b : Nat) (a : Option Addr) (len cap : Nat) (bs : List (BitVec 8)) (w : World) (hT : Tabs w) (hcell : w.cell? ⟨b, 0, none⟩ = some (.slice a len cap)) (hr : Row w a len bs) (hlc : len ≤ cap) (hm : len < 1152921504606840000) :
    Calls Tryd.prog 13 #[.slice (some ⟨b, 0, none⟩) 1 1] w fun e w' => e = .returned (.agg (bytesV (Sha.sum bs)).toArray) ∧ Below w.heap.size w w' := by
  have hp : Parts w (some ⟨b, 0, none⟩) 1 [bs] := ⟨rfl, by decide, fun i hi => by
    obtain rfl : i = 0 := by omega
    exact ⟨b, 0, a, len, cap, rfl, hcell, hr⟩⟩
  have hf : Fits w (some ⟨b, 0, none⟩) 1 := by
    intro i hi b' off ai li ci hb hc
    obtain rfl : i = 0 := by omega
    cases hb
    rw [Nat.zero_add, hcell] at hc
    cases hc
    exact hlc
  have h := sum_any (some ⟨b, 0, none⟩) 1 1 [bs] w hT hp hf (by simpa [hr.1] using hm)
  simpa using h

set_option maxRecDepth 100000 in
set_option maxHeartbeats 400000 in
theorem alive_any (w : World) (hT : Tabs w) :
    Calls Tryd.prog 7 #[] w fun e w' => e = .returned (.bool true) ∧ Below w.heap.size w w' := by
  have HT := hide hT
  have hsz := hT.size
  clear hT
  have kc := fun (w : World) (C : Array Value) (n c : Nat) => Lib.run_convert_bytes_const (P := Tryd.prog) w 22 5 C n c Tryd.underlying22 Tryd.underlying5
  go_enter Tryd.func7, Tryd.ntmps7
  go_wp2_with fail
  refine (new_any _ (unhide HT)).mono ?_
  rintro e w1 ⟨d, rfl, _, _, hb1⟩
  have HT1 := hide ((unhide HT).below hb1 hsz)
  have Hb1 := hide hb1
  clear hb1 HT
  go_wp2_with fail
  obtain ⟨W, hW⟩ : ∃ W, W = (w1.alloc (.cells #[.int .u8 97, .int .u8 98, .int .u8 99] 5 (3, 4))).alloc (.cells #[.slice (some ⟨w1.heap.size, 0, none⟩) 3 3] 22) := ⟨_, rfl⟩
  have hbW : Below w1.heap.size w1 W := by rw [hW]; exact ((Below.refl _ _).alloc (Nat.le_refl _) _).alloc (by simp) _
  have hrow : Row W (some ⟨w1.heap.size, 0, none⟩) 3 [97#8, 98#8, 99#8] := by
    rw [hW]
    exact (Row.fresh w1 [97#8, 98#8, 99#8] _ 5 (3, 4) (by decide) rfl).alloc _
  have hcell : W.cell? ⟨w1.heap.size + 1, 0, none⟩ = some (.slice (some ⟨w1.heap.size, 0, none⟩) 3 3) := by
    rw [hW]
    simp
  rw [← hW]
  have HTW := hide ((unhide HT1).below hbW (by have := (unhide HT1).size; omega))
  have HbW := hide ((unhide Hb1).trans (hbW.mono (unhide Hb1).size))
  clear hW hbW HT1 Hb1 kc
  refine (sum_one (w1.heap.size + 1) _ 3 3 [97#8, 98#8, 99#8] W (unhide HTW) hcell hrow (by decide) (by decide)).mono ?_
  rintro e w2 ⟨rfl, hb2⟩
  have Hb2 := hide ((unhide HbW).trans (hb2.mono (unhide HbW).size))
  clear hb2 HbW HTW hcell hrow
  have Hsl := hide (Sha.sum_length [97#8, 98#8, 99#8])
  have Hab := hide abc_str
  generalize Sha.sum [97#8, 98#8, 99#8] = h at *
  go_wp2_with fail
  refine (text_any h (unhide Hsl) _).mono ?_
  rintro e w3 ⟨rfl, hb3⟩
  rw [unhide Hab]
  have Hb3 := hide ((unhide Hb2).trans (hb3.mono (unhide Hb2).size))
  clear hb3 Hb2
  have heq := abc_list
  go_wp2
  go_ret
  exact ⟨rfl, unhide Hb3⟩

end Go.Proofs.YtmmphnmgepbclaaDoor
