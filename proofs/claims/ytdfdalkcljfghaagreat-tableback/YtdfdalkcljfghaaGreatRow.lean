/-
  Slices of bytes as the walks carry them.
-/
import Derived.Test.YtdfdalkcljfghaaGreatBase
namespace Go.Proofs.YtdfdalkcljfghaaGreat
open Go.RowKit

theorem lt_of_cell {w : World} {b off : Nat} {v : Value} (h : w.cell? ⟨b, off, none⟩ = some v) : b < w.heap.size := by
  rcases Nat.lt_or_ge b w.heap.size with h' | h'
  · exact h'
  · simp [World.cell?, Array.getElem?_eq_none h'] at h

/-- A slice of bytes, below block N: its length is the list's; its cells hold the list's bytes. -/
def Row (N : Nat) (w : World) (a : Option Addr) (len : Nat) (bs : List UInt8) : Prop :=
  bs.length = len ∧ len ≤ 140737488351232 ∧ ∀ i, i < len → ∃ b off, a = some ⟨b, off, none⟩ ∧ b < N ∧ w.cell? ⟨b, off + i, none⟩ = some (.int .u8 (((bs.getD i 0).toNat : Nat) : Int))

/-- The same, of a value. -/
def RowV (N : Nat) (w : World) (v : Value) (bs : List UInt8) : Prop :=
  ∃ a len cap, v = .slice a len cap ∧ len ≤ cap ∧ cap ≤ maxLen ∧ (a = none → cap = 0) ∧ Row N w a len bs

theorem Row.below {N : Nat} {w w' : World} {a : Option Addr} {len : Nat} {bs : List UInt8} (h : Row N w a len bs) (hb : Below N w w') : Row N w' a len bs :=
  ⟨h.1, h.2.1, fun i hi => by
    obtain ⟨b, off, ha, hl, hc⟩ := h.2.2 i hi
    exact ⟨b, off, ha, hl, (hb.cell (p := ⟨b, off + i, none⟩) hl).trans hc⟩⟩
theorem RowV.below {N : Nat} {w w' : World} {v : Value} {bs : List UInt8} (h : RowV N w v bs) (hb : Below N w w') : RowV N w' v bs := by
  obtain ⟨a, len, cap, rfl, h1, h2, h3, hr⟩ := h
  exact ⟨a, len, cap, rfl, h1, h2, h3, hr.below hb⟩
theorem Row.up {N M : Nat} {w : World} {a : Option Addr} {len : Nat} {bs : List UInt8} (h : Row N w a len bs) (hb : N ≤ M) : Row M w a len bs :=
  ⟨h.1, h.2.1, fun i hi => by
    obtain ⟨b, off, ha, hl, hc⟩ := h.2.2 i hi
    exact ⟨b, off, ha, by omega, hc⟩⟩
theorem RowV.up {N M : Nat} {w : World} {v : Value} {bs : List UInt8} (h : RowV N w v bs) (hb : N ≤ M) : RowV M w v bs := by
  obtain ⟨a, len, cap, rfl, h1, h2, h3, hr⟩ := h
  exact ⟨a, len, cap, rfl, h1, h2, h3, hr.up hb⟩
theorem Row.nil (N : Nat) (w : World) (a : Option Addr) : Row N w a 0 [] := ⟨rfl, by decide, fun i hi => by omega⟩
theorem RowV.nil (N : Nat) (w : World) : RowV N w (.slice none 0 0) [] := ⟨none, 0, 0, rfl, Nat.le_refl _, Nat.zero_le _, fun _ => rfl, Row.nil _ _ _⟩

end Go.Proofs.YtdfdalkcljfghaaGreat
