/-
  macAlive answers true, whatever the memory; it makes blocks of its own.
-/
import Derived.Test.YtnfgakbfnmmhcaaDoorMac
namespace Go.Proofs.YtnfgakbfnmmhcaaDoor
open Go.RowKit

def macS : ByteArray := ⟨#[53, 98, 100, 99, 99, 49, 52, 54, 98, 102, 54, 48, 55, 53, 52, 101, 54, 97, 48, 52, 50, 52, 50, 54, 48, 56, 57, 53, 55, 53, 99, 55, 53, 97, 48, 48, 51, 102, 48, 56, 57, 100, 50, 55, 51, 57, 56, 51, 57, 100, 101, 99, 53, 56, 98, 57, 54, 52, 101, 99, 51, 56, 52, 51]⟩
theorem mac_str : str (Sha.text (Mac.sum Mac.jefe (Mac.what ++ Mac.nothing))) = macS := by rw [Mac.known]; rfl
theorem mac_list : (macS.toList == [53, 98, 100, 99, 99, 49, 52, 54, 98, 102, 54, 48, 55, 53, 52, 101, 54, 97, 48, 52, 50, 52, 50, 54, 48, 56, 57, 53, 55, 53, 99, 55, 53, 97, 48, 48, 51, 102, 48, 56, 57, 100, 50, 55, 51, 57, 56, 51, 57, 100, 101, 99, 53, 56, 98, 57, 54, 52, 101, 99, 51, 56, 52, 51]) = true := by decide +kernel

theorem conv_at (W : World) (b : Nat) (hb : W.heap.size = b) (C : Array Value) (n c : Nat) :
    (convert 22 22 (.slice (some ⟨b, 0, none⟩) n c)).run Tryd.prog (W.alloc (.cells C 5)) = .ok (.slice (some ⟨b, 0, none⟩) n c) (W.alloc (.cells C 5 (C.size, C.size + 1))) := by
  subst hb
  exact Lib.run_convert_bytes_const (P := Tryd.prog) W 22 5 C n c Tryd.underlying22 Tryd.underlying5

/-- mac.Sum of two parts that lie in one row. -/
theorem msum_two (k : Sl) (b : Nat) (s t : Sl) (w : World) (hT : Tabs w) (hcell : w.cell? ⟨b, 0, none⟩ = some (.slice s.a s.len s.cap)) (hcell' : w.cell? ⟨b, 1, none⟩ = some (.slice t.a t.len t.cap)) (hk : k.Ok w) (h : s.Ok w) (h' : t.Ok w) (hkl : k.len ≤ 1500) (hl : s.len + t.len ≤ 1500) :
    Calls Tryd.prog 8 #[.slice k.a k.len k.cap, .slice (some ⟨b, 0, none⟩) 2 2] w fun e w' => e = .returned (.agg (bytesV (Mac.sum k.bs (s.bs ++ t.bs))).toArray) ∧ Below w.heap.size w w' := by
  have hp : Parts w (some ⟨b, 0, none⟩) 2 [s.bs, t.bs] := ⟨rfl, by decide, fun i hi => by
    match i, hi with
    | 0, _ => exact ⟨b, 0, s.a, s.len, s.cap, rfl, hcell, h.1⟩
    | 1, _ => exact ⟨b, 0, t.a, t.len, t.cap, rfl, hcell', h'.1⟩⟩
  have hf : Fits w (some ⟨b, 0, none⟩) 2 := by
    intro i hi b' off ai li ci hb hc
    cases hb
    match i, hi with
    | 0, _ =>
      rw [show (0 + 0 : Nat) = 0 from rfl, hcell] at hc
      cases hc
      exact h.2
    | 1, _ =>
      rw [show (0 + 1 : Nat) = 1 from rfl, hcell'] at hc
      cases hc
      exact h'.2
  have h := msum_any k.a k.len k.cap k.bs (some ⟨b, 0, none⟩) 2 2 [s.bs, t.bs] w hT hk.1 hk.2 (by omega) hp hf (by simp [h.1.1, h'.1.1]; omega)
  simpa using h

/-- mac.Sum of one part. -/
theorem msum_one (k : Sl) (b : Nat) (s : Sl) (w : World) (hT : Tabs w) (hcell : w.cell? ⟨b, 0, none⟩ = some (.slice s.a s.len s.cap)) (hk : k.Ok w) (h : s.Ok w) (hkl : k.len ≤ 1500) (hl : s.len ≤ 1500) :
    Calls Tryd.prog 8 #[.slice k.a k.len k.cap, .slice (some ⟨b, 0, none⟩) 1 1] w fun e w' => e = .returned (.agg (bytesV (Mac.sum k.bs s.bs)).toArray) ∧ Below w.heap.size w w' := by
  have hp : Parts w (some ⟨b, 0, none⟩) 1 [s.bs] := ⟨rfl, by decide, fun i hi => by
    obtain rfl : i = 0 := by omega
    exact ⟨b, 0, s.a, s.len, s.cap, rfl, hcell, h.1⟩⟩
  have hf : Fits w (some ⟨b, 0, none⟩) 1 := by
    intro i hi b' off ai li ci hb hc
    obtain rfl : i = 0 := by omega
    cases hb
    rw [show (0 + 0 : Nat) = 0 from rfl, hcell] at hc
    cases hc
    exact h.2
  have h := msum_any k.a k.len k.cap k.bs (some ⟨b, 0, none⟩) 1 1 [s.bs] w hT hk.1 hk.2 (by omega) hp hf (by simp [h.1.1]; omega)
  simpa using h

theorem cell_at (w : World) (b : Nat) (hb : w.heap.size = b) (C : Array Value) (e : TypeId) (fr : Nat × Nat) (i : Nat) : (w.alloc (.cells C e fr)).cell? ⟨b, i, none⟩ = C[i]? := by
  subst hb
  exact cell_new w C e fr i

/-- A new block of bytes, as they came of a text. -/
theorem Row.text (w : World) (bs : List (BitVec 8)) (n : Nat) (C : Array Value) (e : TypeId) (fr : Nat × Nat) (b : Nat) (hb : w.heap.size = b) (hl : bs.length = n) (hn : n ≤ 1000) (hC : C = (bs.map fun c => Value.int .u8 ((c.toNat : Nat) : Int)).toArray) :
    Row (w.alloc (.cells C e fr)) (some ⟨b, 0, none⟩) n bs := by
  subst hb hl
  exact Row.fresh w bs C e fr (by omega) hC

set_option maxRecDepth 100000 in
set_option maxHeartbeats 800000 in
theorem alive_any (w : World) (hT : Tabs w) :
    Calls Tryd.prog 6 #[] w fun e w' => e = .returned (.bool true) ∧ Below w.heap.size w w' := by
  have HT := hide hT
  have hsz := hT.size
  clear hT
  have kc := fun (C : Array Value) (n c : Nat) => conv_at w w.heap.size rfl C n c
  have kc2 := fun (o : Obj) (C : Array Value) (n c : Nat) => conv_at (w.alloc o) (w.heap.size + 1) (by simp) C n c
  have kc3 := fun (o o' : Obj) (C : Array Value) (n c : Nat) => conv_at ((w.alloc o).alloc o') (w.heap.size + 1 + 1) (by simp) C n c
  go_enter Tryd.func6, Tryd.ntmps6
  go_wp2_with fail
  obtain ⟨W, hW⟩ : ∃ W, W = (((w.alloc (.cells #[.int .u8 74, .int .u8 101, .int .u8 102, .int .u8 101] 5 (4, 5))).alloc (.cells #[.int .u8 119, .int .u8 104, .int .u8 97, .int .u8 116, .int .u8 32, .int .u8 100, .int .u8 111, .int .u8 32, .int .u8 121, .int .u8 97, .int .u8 32, .int .u8 119, .int .u8 97, .int .u8 110, .int .u8 116, .int .u8 32] 5 (16, 17))).alloc (.cells #[.int .u8 102, .int .u8 111, .int .u8 114, .int .u8 32, .int .u8 110, .int .u8 111, .int .u8 116, .int .u8 104, .int .u8 105, .int .u8 110, .int .u8 103, .int .u8 63] 5 (12, 13))).alloc (.cells #[.slice (some ⟨w.heap.size + 1, 0, none⟩) 16 16, .slice (some ⟨w.heap.size + 1 + 1, 0, none⟩) 12 12] 22) := ⟨_, rfl⟩
  have hbW : Below w.heap.size w W := by rw [hW]; exact ((((Below.refl _ _).alloc (Nat.le_refl _) _).alloc (by simp) _).alloc (by simp; omega) _).alloc (by simp; omega) _
  have hr1 : Row W (some ⟨w.heap.size, 0, none⟩) 4 Mac.jefe := by
    rw [hW]
    exact (((Row.text w Mac.jefe 4 _ 5 (4, 5) _ rfl rfl (by decide) rfl).alloc _).alloc _).alloc _
  have hr2 : Row W (some ⟨w.heap.size + 1, 0, none⟩) 16 Mac.what := by
    rw [hW]
    exact ((Row.text _ Mac.what 16 _ 5 (16, 17) _ (by simp) rfl (by decide) rfl).alloc _).alloc _
  have hr3 : Row W (some ⟨w.heap.size + 1 + 1, 0, none⟩) 12 Mac.nothing := by
    rw [hW]
    exact (Row.text _ Mac.nothing 12 _ 5 (12, 13) _ (by simp) rfl (by decide) rfl).alloc _
  have hc0 : W.cell? ⟨w.heap.size + 1 + 1 + 1, 0, none⟩ = some (.slice (some ⟨w.heap.size + 1, 0, none⟩) 16 16) := by
    rw [hW]
    exact cell_at _ _ (by simp) _ _ _ _
  have hc1 : W.cell? ⟨w.heap.size + 1 + 1 + 1, 1, none⟩ = some (.slice (some ⟨w.heap.size + 1 + 1, 0, none⟩) 12 12) := by
    rw [hW]
    exact cell_at _ _ (by simp) _ _ _ _
  rw [← hW]
  have HTW := hide ((unhide HT).below hbW (by omega))
  have HbW := hide hbW
  clear hW hbW HT kc kc2 kc3
  refine (msum_two ⟨some ⟨w.heap.size, 0, none⟩, 4, 4, Mac.jefe⟩ (w.heap.size + 1 + 1 + 1) ⟨some ⟨w.heap.size + 1, 0, none⟩, 16, 16, Mac.what⟩ ⟨some ⟨w.heap.size + 1 + 1, 0, none⟩, 12, 12, Mac.nothing⟩ W (unhide HTW) hc0 hc1 ⟨hr1, Nat.le_refl _⟩ ⟨hr2, Nat.le_refl _⟩ ⟨hr3, Nat.le_refl _⟩ (show 4 ≤ 1500 by decide) (show 16 + 12 ≤ 1500 by decide)).mono ?_
  rintro e w2 ⟨he, hb2⟩
  have he' : e = .returned (.agg (bytesV (Mac.sum Mac.jefe (Mac.what ++ Mac.nothing))).toArray) := he
  subst he'
  clear he
  have Hb2 := hide ((unhide HbW).trans (hb2.mono (unhide HbW).size))
  clear hb2 HbW HTW hc0 hc1 hr1 hr2 hr3
  have Hsl := hide (Mac.sum_length Mac.jefe (Mac.what ++ Mac.nothing))
  have Hab := hide mac_str
  generalize Mac.sum Mac.jefe (Mac.what ++ Mac.nothing) = h at *
  go_wp2_with fail
  refine (text_any h (unhide Hsl) _).mono ?_
  rintro e w3 ⟨rfl, hb3⟩
  rw [unhide Hab]
  have Hb3 := hide ((unhide Hb2).trans (hb3.mono (unhide Hb2).size))
  clear hb3 Hb2
  have heq := mac_list
  go_wp2
  go_ret
  exact ⟨rfl, unhide Hb3⟩

end Go.Proofs.YtnfgakbfnmmhcaaDoor
