/-
  crcAlive answers true, whatever the memory; it makes blocks of its own.
-/
import Derived.Test.YtcbiaggdfhifmaaSum
import Derived.Lib.SlBytesConst
namespace Go.Proofs.Ytcbiaggdfhifmaa
open Go.RowKit

/-- What lay there lies there behind a new block. -/
theorem Row.alloc {w : World} {a : Option Addr} {len : Nat} {bs : List (BitVec 8)} (h : Row w a len bs) (o : Obj) : Row (w.alloc o) a len bs :=
  ⟨h.1, h.2.1, fun i hi => by obtain ⟨b, off, ha, hc⟩ := h.2.2 i hi; exact ⟨b, off, ha, Lib.cell?_alloc_marked o hc⟩⟩

theorem cell_new (w : World) (C : Array Value) (e : TypeId) (fr : Nat × Nat) (i : Nat) : (w.alloc (.cells C e fr)).cell? ⟨w.heap.size, i, none⟩ = C[i]? := by
  have h : (w.alloc (.cells C e fr)).heap[w.heap.size]? = some (.cells C e fr) := by
    show (w.heap.push (.cells C e fr))[w.heap.size]? = _
    simp
  unfold World.cell?
  rw [h]
  rfl

/-- A new block of bytes. -/
theorem Row.fresh (w : World) (bs : List (BitVec 8)) (C : Array Value) (e : TypeId) (fr : Nat × Nat) (hn : bs.length ≤ 140737488351232)
    (hC : C = (bs.map fun c => Value.int .u8 ((c.toNat : Nat) : Int)).toArray) : Row (w.alloc (.cells C e fr)) (some ⟨w.heap.size, 0, none⟩) bs.length bs := by
  refine ⟨rfl, hn, fun i hi => ⟨_, 0, rfl, ?_⟩⟩
  rw [Nat.zero_add, cell_new, hC]
  rw [List.getElem?_toArray, List.getElem?_map, List.getD_eq_getElem?_getD, List.getElem?_eq_getElem hi]
  rfl

/-- A new block of one slice. -/
theorem Parts.one {w : World} {a : Option Addr} {len : Nat} {bs : List (BitVec 8)} (h : Row w a len bs) (cap : Nat) (e : TypeId) (fr : Nat × Nat) :
    Parts (w.alloc (.cells #[.slice a len cap] e fr)) (some ⟨w.heap.size, 0, none⟩) 1 [bs] := by
  refine ⟨rfl, by decide, fun i hi => ?_⟩
  obtain rfl : i = 0 := by omega
  refine ⟨_, 0, a, len, cap, rfl, ?_, h.alloc _⟩
  rw [Nat.zero_add, cell_new]
  rfl

theorem alive_any (w : World) :
    Calls Try.prog 7 #[] w fun e w' => e = .returned (.bool true) ∧ Below w.heap.size w w' := by
  have kc := fun (w : World) (C : Array Value) (n c : Nat) => Lib.run_convert_bytes_const (P := Try.prog) w 22 5 C n c Try.underlying22 Try.underlying5
  go_enter Try.func7, Try.ntmps7
  go_wp2_with fail
  have hp := Parts.one (Row.fresh w [49#8, 50#8, 51#8, 52#8, 53#8, 54#8, 55#8, 56#8, 57#8] _ 5 (9, 10) (by decide) rfl) 9 22 (0, 0)
  refine (sum_any _ _ _ [[49#8, 50#8, 51#8, 52#8, 53#8, 54#8, 55#8, 56#8, 57#8]] _ (by simpa using hp)).mono ?_
  rintro e w' ⟨rfl, rfl⟩
  have hs : N32 (Crc.more 0#32 [[49#8, 50#8, 51#8, 52#8, 53#8, 54#8, 55#8, 56#8, 57#8]].flatten) = 3421780262 := by decide +kernel
  rw [hs]
  clear hs hp
  go_wp2
  go_ret
  exact ⟨rfl, ((Below.refl _ _).alloc (Nat.le_refl _) _).alloc (by simp) _⟩

end Go.Proofs.Ytcbiaggdfhifmaa
