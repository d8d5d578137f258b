/-
  Arguments, opened: slices of sectors; two numbers.
-/
import Derived.Test.YtkcchadecnkgnaaKit
import Derived.Test.YtkcchadecnkgnaaSecs
import Derived.Deep.Slices
namespace Go.Proofs.Ytkcchadecnkgnaa
open Go.ChangeShapes Go.WideShapes Go.ChangeAt Go.RowKit

theorem okWide_array {P : Program} {w : World} {r : Reach} {base : Nat} {t e : TypeId} {n : Nat} {v : Value} (ht : P.underlying t = some (.array n e)) (h : Value.okWide P w r base t v) : ∃ cs : Array Value, v = .agg cs ∧ cs.size = P.cellsOf t := by
  simp only [Value.okWide, ht] at h
  obtain ⟨cs, h1, h2, _⟩ := h
  exact ⟨cs, h1, h2⟩
theorem cells33 : Try.prog.cellsOf 33 = 64 := by kernel_rfl
theorem cells37 : Try.prog.cellsOf 37 = 2 := by kernel_rfl
theorem cells5 : Try.prog.cellsOf 5 = 1 := by kernel_rfl
theorem cells3 : Try.prog.cellsOf 3 = 1 := by kernel_rfl

section
variable {H : Type} {enc : TypeId × Value → H} {W : World}

/-- The cells of a sector. -/
theorem open_sec {m : Nat} {cs : List Value} {x : DataW H × List MemPlace} (hl : cs.length = 64) (h : DataW.trod enc Try.prog W 0 (fun _ => true) true m 33 cs = some x) : ∃ s : Sec, s.length = 64 ∧ cs = bytesV s := by
  obtain ⟨xs, m', _, _, _, hxl, hel⟩ := DataW.trod_array Try.underlying33 h
  rw [cells5] at hel
  have hcell : ∀ i, i < 64 → ∃ c : UInt8, cs[i]? = some (.int .u8 ((c.toNat : Nat) : Int)) := fun i hi => by
    have h0 := hel i hi
    rw [List.getElem?_eq_getElem (by omega)] at h0
    obtain ⟨k, e1, _, e3⟩ := DataW.trod_int Try.underlying5 h0
    have hb := wf_u8 e3
    refine ⟨UInt8.ofNat k.toNat, ?_⟩
    rw [byte_back _ hb.1 hb.2]
    have := congrArg (·[0]?) e1
    simpa [List.getElem?_take, List.getElem?_drop] using this
  obtain ⟨f, hf⟩ := Deep.choose_lt hcell
  refine ⟨(List.range 64).map f, by simp, ?_⟩
  apply List.ext_getElem?
  intro i
  by_cases hi : i < 64
  · rw [hf i hi, bytesV_get _ (by simpa using hi), List.getD_eq_getElem?_getD, List.getElem?_map, List.getElem?_range hi]
    rfl
  · rw [List.getElem?_eq_none (by omega), List.getElem?_eq_none (by simp [bytesV]; omega)]

set_option maxRecDepth 100000 in
theorem open_secs {v : Value} {d : DataW H} {p : List MemPlace} {base : Nat} (hv : Value.okWide Try.prog W .any base 24 v) (h : DataW.Trod enc Try.prog W 0 (fun _ => true) true 24 v d p) :
    ∃ a len cap ss, v = .slice a len cap ∧ SRowV W.heap.size W (.slice a len cap) ss := by
  obtain ⟨a, len, cap, rfl⟩ := okWide_slice Try.underlying24 hv
  obtain ⟨fuel, hf⟩ := h
  rcases Deep.open_slice Try.underlying24 hf with ⟨hcs, _⟩ | ⟨a', len', cap', mm, n, D, Pl, hcs, hb, hl, hm, hmm, _, hx⟩
  · simp [Value.cells] at hcs
    obtain ⟨rfl, rfl, rfl⟩ := hcs
    exact ⟨none, 0, 0, [], rfl, SRowV.nil _ _⟩
  · simp [Value.cells] at hcs
    obtain ⟨rfl, rfl, rfl⟩ := hcs
    have hmc : mm = cap := by simpa using hmm
    subst hmc
    have each : ∀ i, i < len → ∃ s : Sec, s.length = 64 ∧ ∀ j, j < 64 → W.cell? (a'.add (i * 64 + j)) = (bytesV s)[j]? := fun i hi => by
      obtain ⟨cs', h1, h2⟩ := hx i (by omega)
      rw [cells33] at h1
      obtain ⟨_, hlen, hcell⟩ := World.cells?_some h1
      obtain ⟨s, hs, rfl⟩ := open_sec hlen h2
      refine ⟨s, hs, fun j hj => ?_⟩
      have := hcell j hj
      rwa [Deep.add_add] at this
    obtain ⟨f, hf'⟩ := Deep.choose_lt each
    refine ⟨some a', len, mm, (List.range len).map f, rfl, ⟨_, _, _, rfl, hl, hm, by simp, by simp, ?_, fun i hi => ?_⟩⟩
    · intro s hs
      obtain ⟨i, hi, rfl⟩ := List.mem_map.1 hs
      exact (hf' i (by simpa using hi)).1
    · have e0 := (hf' 0 (by omega)).2 0 (by omega)
      rw [bytesV_get _ (by rw [(hf' 0 (by omega)).1]; omega)] at e0
      obtain ⟨b, off, rfl⟩ := add_zero_none (by simpa using e0)
      rw [Addr.add_mid] at e0
      refine ⟨b, off, rfl, lt_of_cell e0, fun j u hj => ?_⟩
      have hfi : ((List.range len).map f).getD i [] = f i := by
        rw [List.getD_eq_getElem?_getD, List.getElem?_map, List.getElem?_range hi]
        rfl
      rw [hfi] at hj
      have hj64 : j < 64 := by
        have := (List.getElem?_eq_some_iff.1 hj).1
        rwa [bytesV_length, (hf' i hi).1] at this
      have := (hf' i hi).2 j hj64
      rw [Addr.add_mid, hj] at this
      rw [Nat.add_assoc]
      exact this
set_option maxRecDepth 100000 in
theorem open_pair {v : Value} {d : DataW H} {p : List MemPlace} {base : Nat} (hv : Value.okWide Try.prog W .any base 37 v) (h : DataW.Trod enc Try.prog W 0 (fun _ => true) true 37 v d p) :
    ∃ x y : Int, v = .agg #[.int .i64 x, .int .i64 y] ∧ (-9223372036854775808 ≤ x ∧ x ≤ 9223372036854775807) ∧ (-9223372036854775808 ≤ y ∧ y ≤ 9223372036854775807) := by
  obtain ⟨cs, rfl, hsz⟩ := okWide_array Try.underlying37 hv
  rw [cells37] at hsz
  obtain ⟨fuel, hf⟩ := h
  obtain ⟨xs, m, _, _, _, hxl, hel⟩ := DataW.trod_array Try.underlying37 hf
  rw [cells3] at hel
  obtain ⟨l⟩ := cs
  match l, hsz with
  | [c0, c1], _ =>
    have h0 := hel 0 (by decide)
    have h1 := hel 1 (by decide)
    simp [Value.cells] at h0 h1
    obtain ⟨x0, hx0⟩ : ∃ x, xs[0]? = some x := ⟨xs[0]'(by omega), List.getElem?_eq_getElem _⟩
    obtain ⟨x1, hx1⟩ : ∃ x, xs[1]? = some x := ⟨xs[1]'(by omega), List.getElem?_eq_getElem _⟩
    rw [hx0] at h0
    rw [hx1] at h1
    obtain ⟨z0, f0, _, w0⟩ := DataW.trod_int Try.underlying3 h0
    obtain ⟨z1, f1, _, w1⟩ := DataW.trod_int Try.underlying3 h1
    simp at f0 f1
    subst f0 f1
    exact ⟨z0, z1, rfl, wf_i64 w0, wf_i64 w1⟩
end
end Go.Proofs.Ytkcchadecnkgnaa
