/-
  Slices of bytes as rows of bytes, words of 32 bits as the walk has them; what is carried behind calls that only make new blocks.
-/
import Derived.Test.YtnfgakbfnmmhcaaDoorProg
import Derived.Test.YtnfgakbfnmmhcaaDoorMath
import Derived.Test.YtnfgakbfnmmhcaaDoorArr
import Derived.WalkKit
import Derived.WalkSpells
import Derived.WalkLawsBesides
import Derived.Lib.SlBytesConst
import Derived.OpenShut
namespace Go.Proofs.YtnfgakbfnmmhcaaDoor
open Go.RowKit

theorem hide {p : Prop} (h : p) : Hid p := h
theorem unhide {p : Prop} (h : Hid p) : p := h

/-- A number of 32 bits, as the walk has it. -/
def N32 (x : BitVec 32) : Int := (x.toNat : Int)

theorem N32_lo (x : BitVec 32) : 0 ≤ N32 x := by unfold N32; omega
theorem N32_hi (x : BitVec 32) : N32 x < 4294967296 := by unfold N32; have := x.isLt; omega

theorem ofInt_N32 (x : BitVec 32) : BitVec.ofInt 32 (N32 x) = x := by
  unfold N32; simp

theorem bits_xor32 (a b : BitVec 32) : bits .xor .u32 (N32 a) (N32 b) = N32 (a ^^^ b) := by
  show IntKind.u32.wrap ((BitVec.ofInt 32 (N32 a) ^^^ BitVec.ofInt 32 (N32 b)).toNat : Int) = _
  rw [ofInt_N32, ofInt_N32, IntKind.wrap_u32']
  have := (a ^^^ b).isLt
  unfold N32
  omega

theorem N32_byte (c : BitVec 8) : ((c.toNat : Nat) : Int) = N32 (c.setWidth 32) := by
  unfold N32
  rw [BitVec.toNat_setWidth, Nat.mod_eq_of_lt (by have := c.isLt; omega)]

/-- A slice of bytes: its length is the list's; its cells hold the list's bytes. -/
def Row (w : World) (a : Option Addr) (len : Nat) (bs : List (BitVec 8)) : Prop :=
  bs.length = len ∧ len ≤ 140737488351232 ∧ ∀ i, i < len → ∃ b off, a = some ⟨b, off, none⟩ ∧ w.cell? ⟨b, off + i, none⟩ = some (.int .u8 (((bs.getD i 0).toNat : Nat) : Int))

theorem take_snoc (bs : List (BitVec 8)) (k : Nat) (h : k < bs.length) : bs.take (k + 1) = bs.take k ++ [bs.getD k 0] := by
  rw [List.take_succ_eq_append_getElem h, List.getD_eq_getElem?_getD, List.getElem?_eq_getElem h]
  rfl

/-- A slice of slices of bytes. -/
def Parts (w : World) (a : Option Addr) (n : Nat) (ps : List (List (BitVec 8))) : Prop :=
  ps.length = n ∧ n ≤ 140737488351232 ∧ ∀ i, i < n → ∃ b off ai li ci, a = some ⟨b, off, none⟩ ∧ w.cell? ⟨b, off + i, none⟩ = some (.slice ai li ci) ∧ Row w ai li (ps.getD i [])

theorem take_snoc' (ps : List (List (BitVec 8))) (k : Nat) (h : k < ps.length) : ps.take (k + 1) = ps.take k ++ [ps.getD k []] := by
  rw [List.take_succ_eq_append_getElem h, List.getD_eq_getElem?_getD, List.getElem?_eq_getElem h]
  rfl

/-- What lay there lies there behind a new block. -/
theorem Row.alloc {w : World} {a : Option Addr} {len : Nat} {bs : List (BitVec 8)} (h : Row w a len bs) (o : Obj) : Row (w.alloc o) a len bs :=
  ⟨h.1, h.2.1, fun i hi => by obtain ⟨b, off, ha, hc⟩ := h.2.2 i hi; exact ⟨b, off, ha, Lib.cell?_alloc_marked o hc⟩⟩

theorem cell_new (w : World) (C : Array Value) (e : TypeId) (fr : Nat × Nat) (i : Nat) : (w.alloc (.cells C e fr)).cell? ⟨w.heap.size, i, none⟩ = C[i]? := by
  have h : (w.alloc (.cells C e fr)).heap[w.heap.size]? = some (.cells C e fr) := by
    show (w.heap.push (.cells C e fr))[w.heap.size]? = _
    simp
  unfold World.cell?
  rw [h]
  rfl

/-- A new block of bytes. -/
theorem Row.fresh (w : World) (bs : List (BitVec 8)) (C : Array Value) (e : TypeId) (fr : Nat × Nat) (hn : bs.length ≤ 140737488351232)
    (hC : C = (bs.map fun c => Value.int .u8 ((c.toNat : Nat) : Int)).toArray) : Row (w.alloc (.cells C e fr)) (some ⟨w.heap.size, 0, none⟩) bs.length bs := by
  refine ⟨rfl, hn, fun i hi => ⟨_, 0, rfl, ?_⟩⟩
  rw [Nat.zero_add, cell_new, hC]
  rw [List.getElem?_toArray, List.getElem?_map, List.getD_eq_getElem?_getD, List.getElem?_eq_getElem hi]
  rfl

/-- A new block of one slice. -/
theorem Parts.one {w : World} {a : Option Addr} {len : Nat} {bs : List (BitVec 8)} (h : Row w a len bs) (cap : Nat) (e : TypeId) (fr : Nat × Nat) :
    Parts (w.alloc (.cells #[.slice a len cap] e fr)) (some ⟨w.heap.size, 0, none⟩) 1 [bs] := by
  refine ⟨rfl, by decide, fun i hi => ?_⟩
  obtain rfl : i = 0 := by omega
  refine ⟨_, 0, a, len, cap, rfl, ?_, h.alloc _⟩
  rw [Nat.zero_add, cell_new]
  rfl

/-- A slice of integers that came in: it is nil; or it leads to a row of 'cap' cells, the numbers 'zs' (the first 'len' are its elements, the rest its spare room), each fitting its kind. -/
def IsRow (k : IntKind) (w : World) (a : Option Addr) (len cap : Nat) (zs : List Int) : Prop :=
  (a = none ∧ len = 0 ∧ cap = 0 ∧ zs = []) ∨
  ∃ x, a = some x ∧ len ≤ cap ∧ cap ≤ maxLen ∧ zs.length = cap ∧ (∀ i, i < zs.length → w.cell? (x.add i) = some (.int k (zs.getD i 0))) ∧ ∀ n ∈ zs, (Lit.int k n).wf = true

theorem byte_back (z : Int) (h0 : 0 ≤ z) (h1 : z ≤ 255) : (((BitVec.ofInt 8 z).toNat : Nat) : Int) = z := by
  obtain ⟨n, rfl⟩ := Int.eq_ofNat_of_zero_le h0
  have : (BitVec.ofInt 8 (n : Int)).toNat = n := ofInt_u8 n (by omega)
  rw [this]

theorem wf_u8 {z : Int} (h : (Lit.int .u8 z).wf = true) : 0 ≤ z ∧ z ≤ 255 := by
  simpa [Lit.wf, IntKind.min, IntKind.max, IntKind.signed, IntKind.bits] using h

/-- Of a slice of bytes that came in: its first n bytes. -/
theorem IsRow.first {w : World} {a : Option Addr} {len cap : Nat} {zs : List Int} (h : IsRow .u8 w a len cap zs) (n : Nat) (hn : n ≤ len) (hl : n ≤ 140737488351232) :
    ∃ bs, Row w a n bs := by
  rcases h with ⟨rfl, rfl, rfl, rfl⟩ | ⟨x, rfl, hlc, _, hz, hcell, hwz⟩
  · obtain rfl : n = 0 := by omega
    exact ⟨[], rfl, hl, fun i hi => by omega⟩
  · refine ⟨(zs.take n).map (BitVec.ofInt 8), by simp; omega, hl, fun i hi => ?_⟩
    have hc0 := hcell 0 (by omega)
    obtain ⟨b, off, spot⟩ := x
    have hspot : spot = none := by simpa [Addr.add] using World.cell?_spot hc0
    subst hspot
    have hc := hcell i (by omega)
    have ea : Addr.add ⟨b, off, none⟩ i = ⟨b, off + i, none⟩ := by
      rcases i with _ | i <;> simp [Addr.add]
    rw [ea] at hc
    refine ⟨b, off, rfl, ?_⟩
    have hi' : i < zs.length := by omega
    have e : ((zs.take n).map (BitVec.ofInt 8)).getD i 0 = BitVec.ofInt 8 (zs.getD i 0) := by
      rw [List.getD_eq_getElem?_getD, List.getElem?_map, List.getElem?_take_of_lt hi, List.getD_eq_getElem?_getD, List.getElem?_eq_getElem hi']
      rfl
    rw [e]
    have hmem : zs.getD i 0 ∈ zs := by
      rw [List.getD_eq_getElem?_getD, List.getElem?_eq_getElem hi']
      exact List.getElem_mem hi'
    have hb := wf_u8 (hwz _ hmem)
    rw [byte_back _ hb.1 hb.2]
    exact hc

theorem IsRow.row {w : World} {a : Option Addr} {len cap : Nat} {zs : List Int} (h : IsRow .u8 w a len cap zs) (hl : len ≤ 140737488351232) :
    ∃ bs, Row w a len bs := h.first len (Nat.le_refl _) hl

theorem IsRow.room {w : World} {k : IntKind} {a : Option Addr} {len cap : Nat} {zs : List Int} (h : IsRow k w a len cap zs) : len ≤ cap := by
  rcases h with ⟨_, rfl, rfl, _⟩ | ⟨_, _, hlc, _⟩
  · exact Nat.le_refl _
  · exact hlc

theorem lt_of_cell {w : World} {b off : Nat} {v : Value} (h : w.cell? ⟨b, off, none⟩ = some v) : b < w.heap.size := by
  rcases Nat.lt_or_ge b w.heap.size with h' | h'
  · exact h'
  · simp [World.cell?, Array.getElem?_eq_none h'] at h

theorem Row.below {w w' : World} {a : Option Addr} {len : Nat} {bs : List (BitVec 8)} (h : Row w a len bs) (hb : Below w.heap.size w w') : Row w' a len bs :=
  ⟨h.1, h.2.1, fun i hi => by
    obtain ⟨b, off, ha, hc⟩ := h.2.2 i hi
    exact ⟨b, off, ha, (hb.cell (p := ⟨b, off + i, none⟩) (lt_of_cell hc)).trans hc⟩⟩

/-- No bytes: whatever the address. -/
theorem Row.nil (w : World) (a : Option Addr) : Row w a 0 [] := ⟨rfl, by decide, fun i hi => by omega⟩

/-- The first n of them. -/
theorem Row.take {w : World} {a : Option Addr} {len : Nat} {bs : List (BitVec 8)} (h : Row w a len bs) (n : Nat) (hn : n ≤ len) : Row w a n (bs.take n) :=
  ⟨by have := h.1; simp; omega, by have := h.2.1; omega, fun i hi => by
    obtain ⟨b, off, ha, hc⟩ := h.2.2 i (by omega)
    refine ⟨b, off, ha, ?_⟩
    rw [List.getD_eq_getElem?_getD, List.getElem?_take_of_lt hi, ← List.getD_eq_getElem?_getD]
    exact hc⟩

theorem N32_inj {x y : BitVec 32} (h : N32 x = N32 y) : x = y := by
  unfold N32 at h
  exact BitVec.eq_of_toNat_eq (by omega)

theorem Row.drop {w : World} {a : Option Addr} {len cap : Nat} {bs : List (BitVec 8)} (h : Row w a len bs) (hc : len ≤ cap) (n : Nat) (hn : n ≤ len) : Row w (if cap = n then a else a.map fun x => x.add n) (len - n) (bs.drop n) := by
  refine ⟨by have := h.1; simp; omega, by have := h.2.1; omega, fun i hi => ?_⟩
  rw [if_neg (by omega)]
  obtain ⟨b, off, ha, hcell⟩ := h.2.2 (n + i) (by omega)
  refine ⟨b, off + n, by rw [ha]; simp [Addr.add_mid], ?_⟩
  rw [List.getD_eq_getElem?_getD, List.getElem?_drop, ← List.getD_eq_getElem?_getD, Nat.add_assoc]
  exact hcell

theorem kept_cell {w w' : World} {b i : Nat} {v : Value} (h : w.cell? ⟨b, i, none⟩ = some v) (hb : Below w.heap.size w w') : w'.cell? ⟨b, i, none⟩ = some v :=
  (hb.cell (p := ⟨b, i, none⟩) (lt_of_cell h)).trans h

end Go.Proofs.YtnfgakbfnmmhcaaDoor
