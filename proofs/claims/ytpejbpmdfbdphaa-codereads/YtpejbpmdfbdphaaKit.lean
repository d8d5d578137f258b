/-
  Arguments, opened: slices of bytes, of texts, of pairs of numbers.
-/
import Derived.Test.YtpejbpmdfbdphaaBase
import Derived.ProofKit
import Derived.OpenShut
import Derived.SliceStrings
import Derived.Deep.SlicePairs
namespace Go.Proofs.Ytpejbpmdfbdphaa
open Go.ChangeShapes Go.WideShapes Go.ChangeAt Go.RowKit

theorem own : ownKnob Try.prog.godebug = none := by kernel_rfl
theorem laidOut : laidOutB Try.prog = true := by kernel_rfl

theorem byte_back (z : Int) (h0 : 0 ≤ z) (h1 : z ≤ 255) : ((UInt8.ofNat z.toNat).toNat : Int) = z := by
  simp
  omega
theorem wf_u8 {z : Int} (h : (Lit.int .u8 z).wf = true) : 0 ≤ z ∧ z ≤ 255 := by
  simpa [Lit.wf, IntKind.min, IntKind.max, IntKind.signed, IntKind.bits] using h
theorem wf_u64 {z : Int} (h : (Lit.int .u64 z).wf = true) : ∃ n : Nat, z = (n : Int) ∧ n < 18446744073709551616 := by
  have : 0 ≤ z ∧ z ≤ 18446744073709551615 := by simpa [Lit.wf, IntKind.min, IntKind.max, IntKind.signed, IntKind.bits] using h
  exact ⟨z.toNat, by omega, by omega⟩
theorem wf_i64 {z : Int} (h : (Lit.int .i64 z).wf = true) : -9223372036854775808 ≤ z ∧ z ≤ 9223372036854775807 := by
  simpa [Lit.wf, IntKind.min, IntKind.max, IntKind.signed, IntKind.bits] using h

section
variable {H : Type} {enc : TypeId × Value → H} {W : World} {base : Nat} {v : Value} {d : DataW H} {p : List MemPlace}

/-- A slice of bytes that came in. -/
def Bytes (W : World) (a : Option Addr) (len cap : Nat) : Prop := len ≤ cap ∧ cap ≤ maxLen ∧ (len ≤ 140737488351232 → ∃ bs, bs.length = len ∧ RowV W.heap.size W (.slice a len cap) bs)

theorem add_zero_none {x : Addr} {W : World} {v : Value} (h : W.cell? (x.add 0) = some v) : ∃ b off, x = ⟨b, off, none⟩ := by
  obtain ⟨b, off, spot⟩ := x
  have hspot : spot = none := by simpa [Addr.add] using World.cell?_spot h
  subst hspot
  exact ⟨b, off, rfl⟩

theorem open_bytes (hv : Value.okWide Try.prog W .any base 25 v) (h : DataW.Trod enc Try.prog W 0 (fun _ => true) true 25 v d p) : ∃ a len cap, v = .slice a len cap ∧ Bytes W a len cap := by
  obtain ⟨a, len, cap, rfl⟩ := okWide_slice Try.underlying25 hv
  obtain ⟨fuel, hf⟩ := h
  refine ⟨a, len, cap, rfl, ?_⟩
  rcases open_ints Try.underlying25 Try.underlying5 (by kernel_rfl) hf with ⟨hcs, _⟩ | ⟨x, l, c, zs, hcs, _, hl, hm, hz, _, hcell, hwz⟩
  · simp [Value.cells] at hcs
    obtain ⟨rfl, rfl, rfl⟩ := hcs
    exact ⟨Nat.le_refl _, Nat.zero_le _, fun _ => ⟨[], rfl, RowV.nil _ _⟩⟩
  · simp [Value.cells] at hcs
    obtain ⟨rfl, rfl, rfl⟩ := hcs
    have hz' : zs.length = cap := by simpa using hz
    refine ⟨hl, hm, fun hlen => ⟨(zs.take len).map fun z => UInt8.ofNat z.toNat, by simp; omega, ⟨some x, len, cap, rfl, hl, hm, by simp, by simp; omega, hlen, fun i hi => ?_⟩⟩⟩
    obtain ⟨b, off, rfl⟩ := add_zero_none (hcell 0 (by omega))
    have hc := hcell i (by omega)
    rw [Addr.add_mid] at hc
    refine ⟨b, off, rfl, lt_of_cell hc, ?_⟩
    have hi' : i < zs.length := by omega
    have hmem : zs.getD i 0 ∈ zs := by
      rw [List.getD_eq_getElem?_getD, List.getElem?_eq_getElem hi']
      exact List.getElem_mem hi'
    have hb := wf_u8 (hwz _ hmem)
    rw [hc, ← byte_back _ hb.1 hb.2]
    have e : ((zs.take len).map fun z => UInt8.ofNat z.toNat).getD i 0 = UInt8.ofNat (zs.getD i 0).toNat := by
      rw [List.getD_eq_getElem?_getD, List.getElem?_map, List.getElem?_take_of_lt hi, List.getD_eq_getElem?_getD, List.getElem?_eq_getElem hi']
      rfl
    rw [e, byte_back _ hb.1 hb.2]

/-- A slice of texts that came in. -/
def Texts (W : World) (a : Option Addr) (len : Nat) : Prop := len ≤ maxLen ∧ ∃ ss, Strs W.heap.size W a len ss ∧ ∀ s ∈ ss, s.size ≤ maxLen

theorem open_texts (hv : Value.okWide Try.prog W .any base 32 v) (h : DataW.Trod enc Try.prog W 0 (fun _ => true) true 32 v d p) : ∃ a len cap, v = .slice a len cap ∧ Texts W a len := by
  obtain ⟨a, len, cap, rfl⟩ := okWide_slice Try.underlying32 hv
  obtain ⟨fuel, hf⟩ := h
  refine ⟨a, len, cap, rfl, ?_⟩
  rcases open_strings Try.underlying32 Try.underlying9 (by kernel_rfl) hf with ⟨hcs, _⟩ | ⟨x, l, c, ss, hcs, _, hl, hm, hz, _, hcell, hsz⟩
  · simp [Value.cells] at hcs
    obtain ⟨rfl, rfl, rfl⟩ := hcs
    exact ⟨Nat.zero_le _, [], ⟨rfl, fun i hi => by omega⟩, fun s hs => by simp at hs⟩
  · simp [Value.cells] at hcs
    obtain ⟨rfl, rfl, rfl⟩ := hcs
    have hz' : ss.length = cap := by simpa using hz
    refine ⟨by omega, ss.take len, ⟨by simp; omega, fun i hi => ?_⟩, fun s hs => hsz s (List.mem_of_mem_take hs)⟩
    obtain ⟨b, off, rfl⟩ := add_zero_none (hcell 0 (by omega))
    have hc := hcell i (by omega)
    rw [Addr.add_mid] at hc
    refine ⟨b, off, rfl, lt_of_cell hc, ?_⟩
    rw [hc, List.getD_eq_getElem?_getD, List.getD_eq_getElem?_getD, List.getElem?_take_of_lt hi]

/-- A slice of what is asked, that came in. -/
def Asks (N : Nat) (W : World) (a : Option Addr) (len : Nat) (K M : Nat → Int) : Prop := ∀ i, i < len → ∃ b off, a = some ⟨b, off, none⟩ ∧ b < N ∧ W.cell? ⟨b, off + i * 2, none⟩ = some (.int .i64 (K i)) ∧ W.cell? ⟨b, off + i * 2 + 1, none⟩ = some (.int .i64 (M i)) ∧ (-9223372036854775808 ≤ M i ∧ M i ≤ 9223372036854775807)
theorem Asks.below {N : Nat} {w w' : World} {a : Option Addr} {len : Nat} {K M : Nat → Int} (h : Asks N w a len K M) (hb : Below N w w') : Asks N w' a len K M := fun i hi => by
  obtain ⟨b, off, ha, hl, h1, h2, h3⟩ := h i hi
  exact ⟨b, off, ha, hl, (hb.cell (p := ⟨b, off + i * 2, none⟩) hl).trans h1, (hb.cell (p := ⟨b, off + i * 2 + 1, none⟩) hl).trans h2, h3⟩

theorem open_asks (hv : Value.okWide Try.prog W .any base 39 v) (h : DataW.Trod enc Try.prog W 0 (fun _ => true) true 39 v d p) : ∃ a len cap K M, v = .slice a len cap ∧ len ≤ maxLen ∧ Asks W.heap.size W a len K M := by
  obtain ⟨a, len, cap, rfl⟩ := okWide_slice Try.underlying39 hv
  obtain ⟨fuel, hf⟩ := h
  rcases Deep.open_slice_pairs Try.underlying39 Try.underlying44 (by kernel_rfl) rfl rfl (by kernel_rfl) (by kernel_rfl) hf with ⟨hcs, _⟩ | ⟨x, l, c, m, n, V0, V1, D0, D1, P0, P1, hcs, _, hl, hm, hmm, _, hcell⟩
  · simp [Value.cells] at hcs
    obtain ⟨rfl, rfl, rfl⟩ := hcs
    exact ⟨none, 0, 0, fun _ => 0, fun _ => 0, rfl, Nat.zero_le _, fun i hi => by omega⟩
  · simp [Value.cells] at hcs
    obtain ⟨rfl, rfl, rfl⟩ := hcs
    have hmc : m = cap := by simpa using hmm
    subst hmc
    refine ⟨some x, len, m, fun i => intOf (V0 i), fun i => intOf (V1 i), rfl, by omega, fun i hi => ?_⟩
    obtain ⟨c0, _, _, _⟩ := hcell 0 (by omega)
    obtain ⟨b, off, rfl⟩ := add_zero_none (by simpa using c0)
    obtain ⟨e0, e1, t0, t1⟩ := hcell i (by omega)
    rw [Addr.add_mid] at e0 e1
    obtain ⟨k0, f0, _, g0⟩ := DataW.trod_int Try.underlying3 t0
    obtain ⟨k1, f1, _, g1⟩ := DataW.trod_int Try.underlying3 t1
    simp at f0 f1
    refine ⟨b, off, rfl, lt_of_cell e0, ?_, ?_, ?_⟩
    · simp only [f0, intOf] at e0 ⊢; exact e0
    · rw [Nat.add_assoc]; simp only [f1, intOf] at e1 ⊢; exact e1
    · have := wf_i64 g1
      simp only [f1, intOf]
      exact this
end
end Go.Proofs.Ytpejbpmdfbdphaa
