/-
  A slice of bytes that came in, as a row of bytes; and what is carried behind calls that only make new blocks.
-/
import Derived.Test.YtcbiaggdfhifmaaAlive
import Derived.OpenShut
namespace Go.Proofs.Ytcbiaggdfhifmaa
open Go.RowKit

/-- A slice of integers that came in: it is nil; or it leads to a row of 'cap' cells, the numbers 'zs' (the first 'len' are its elements, the rest its spare room), each fitting its kind. -/
def IsRow (k : IntKind) (w : World) (a : Option Addr) (len cap : Nat) (zs : List Int) : Prop :=
  (a = none ∧ len = 0 ∧ cap = 0 ∧ zs = []) ∨
  ∃ x, a = some x ∧ len ≤ cap ∧ cap ≤ maxLen ∧ zs.length = cap ∧ (∀ i, i < zs.length → w.cell? (x.add i) = some (.int k (zs.getD i 0))) ∧ ∀ n ∈ zs, (Lit.int k n).wf = true

theorem byte_back (z : Int) (h0 : 0 ≤ z) (h1 : z ≤ 255) : (((BitVec.ofInt 8 z).toNat : Nat) : Int) = z := by
  obtain ⟨n, rfl⟩ := Int.eq_ofNat_of_zero_le h0
  have : (BitVec.ofInt 8 (n : Int)).toNat = n := ofInt_u8 n (by omega)
  rw [this]

theorem wf_u8 {z : Int} (h : (Lit.int .u8 z).wf = true) : 0 ≤ z ∧ z ≤ 255 := by
  simpa [Lit.wf, IntKind.min, IntKind.max, IntKind.signed, IntKind.bits] using h

/-- Of a slice of bytes that came in: its first n bytes. -/
theorem IsRow.first {w : World} {a : Option Addr} {len cap : Nat} {zs : List Int} (h : IsRow .u8 w a len cap zs) (n : Nat) (hn : n ≤ len) (hl : n ≤ 140737488351232) :
    ∃ bs, Row w a n bs := by
  rcases h with ⟨rfl, rfl, rfl, rfl⟩ | ⟨x, rfl, hlc, _, hz, hcell, hwz⟩
  · obtain rfl : n = 0 := by omega
    exact ⟨[], rfl, hl, fun i hi => by omega⟩
  · refine ⟨(zs.take n).map (BitVec.ofInt 8), by simp; omega, hl, fun i hi => ?_⟩
    have hc0 := hcell 0 (by omega)
    obtain ⟨b, off, spot⟩ := x
    have hspot : spot = none := by simpa [Addr.add] using World.cell?_spot hc0
    subst hspot
    have hc := hcell i (by omega)
    have ea : Addr.add ⟨b, off, none⟩ i = ⟨b, off + i, none⟩ := by
      rcases i with _ | i <;> simp [Addr.add]
    rw [ea] at hc
    refine ⟨b, off, rfl, ?_⟩
    have hi' : i < zs.length := by omega
    have e : ((zs.take n).map (BitVec.ofInt 8)).getD i 0 = BitVec.ofInt 8 (zs.getD i 0) := by
      rw [List.getD_eq_getElem?_getD, List.getElem?_map, List.getElem?_take_of_lt hi, List.getD_eq_getElem?_getD, List.getElem?_eq_getElem hi']
      rfl
    rw [e]
    have hmem : zs.getD i 0 ∈ zs := by
      rw [List.getD_eq_getElem?_getD, List.getElem?_eq_getElem hi']
      exact List.getElem_mem hi'
    have hb := wf_u8 (hwz _ hmem)
    rw [byte_back _ hb.1 hb.2]
    exact hc

theorem IsRow.row {w : World} {a : Option Addr} {len cap : Nat} {zs : List Int} (h : IsRow .u8 w a len cap zs) (hl : len ≤ 140737488351232) :
    ∃ bs, Row w a len bs := h.first len (Nat.le_refl _) hl

theorem IsRow.room {w : World} {k : IntKind} {a : Option Addr} {len cap : Nat} {zs : List Int} (h : IsRow k w a len cap zs) : len ≤ cap := by
  rcases h with ⟨_, rfl, rfl, _⟩ | ⟨_, _, hlc, _⟩
  · exact Nat.le_refl _
  · exact hlc

theorem lt_of_cell {w : World} {b off : Nat} {v : Value} (h : w.cell? ⟨b, off, none⟩ = some v) : b < w.heap.size := by
  rcases Nat.lt_or_ge b w.heap.size with h' | h'
  · exact h'
  · simp [World.cell?, Array.getElem?_eq_none h'] at h

theorem Row.below {w w' : World} {a : Option Addr} {len : Nat} {bs : List (BitVec 8)} (h : Row w a len bs) (hb : Below w.heap.size w w') : Row w' a len bs :=
  ⟨h.1, h.2.1, fun i hi => by
    obtain ⟨b, off, ha, hc⟩ := h.2.2 i hi
    exact ⟨b, off, ha, (hb.cell (p := ⟨b, off + i, none⟩) (lt_of_cell hc)).trans hc⟩⟩

/-- No bytes: whatever the address. -/
theorem Row.nil (w : World) (a : Option Addr) : Row w a 0 [] := ⟨rfl, by decide, fun i hi => by omega⟩

/-- The first n of them. -/
theorem Row.take {w : World} {a : Option Addr} {len : Nat} {bs : List (BitVec 8)} (h : Row w a len bs) (n : Nat) (hn : n ≤ len) : Row w a n (bs.take n) :=
  ⟨by have := h.1; simp; omega, by have := h.2.1; omega, fun i hi => by
    obtain ⟨b, off, ha, hc⟩ := h.2.2 i (by omega)
    refine ⟨b, off, ha, ?_⟩
    rw [List.getD_eq_getElem?_getD, List.getElem?_take_of_lt hi, ← List.getD_eq_getElem?_getD]
    exact hc⟩

theorem N32_inj {x y : BitVec 32} (h : N32 x = N32 y) : x = y := by
  unfold N32 at h
  exact BitVec.eq_of_toNat_eq (by omega)

end Go.Proofs.Ytcbiaggdfhifmaa
