/-
  Arguments that are arrays, opened: two slices of bytes; a hash.
-/
import Derived.Test.YtnfgakbfnmmhcaaDoorLaid
import Derived.Test.YtnfgakbfnmmhcaaDoorTurn
namespace Go.Proofs.YtnfgakbfnmmhcaaDoor
open Go.ChangeShapes Go.WideShapes Go.ChangeAt Go.RowKit

theorem okWide_array {P : Program} {w : World} {r : Reach} {base : Nat} {t e : TypeId} {n : Nat} {v : Value} (ht : P.underlying t = some (.array n e)) (h : Value.okWide P w r base t v) : ∃ cs : Array Value, v = .agg cs ∧ cs.size = P.cellsOf t := by
  simp only [Value.okWide, ht] at h
  obtain ⟨cs, h1, h2, _⟩ := h
  exact ⟨cs, h1, h2⟩

theorem cells22 : Tryd.prog.cellsOf 22 = 1 := by kernel_rfl
theorem cells25 : Tryd.prog.cellsOf 25 = 32 := by kernel_rfl
theorem cells5 : Tryd.prog.cellsOf 5 = 1 := by kernel_rfl

section
variable {H : Type} {enc : TypeId × Value → H} {W : World}

theorem open_row {m : Nat} {c : Value} {x : DataW H × List MemPlace} (h : DataW.trod enc Tryd.prog W 0 (fun _ => true) true m 22 [c] = some x) : ∃ a len cap zs, c = .slice a len cap ∧ IsRow .u8 W a len cap zs := by
  rcases open_ints Tryd.underlying22 Tryd.underlying5 (by kernel_rfl) h with ⟨hcs, _⟩ | ⟨y, l, c', zs, hcs, _, hl, hm, hz, _, hcell, hwz⟩
  · simp at hcs
    exact ⟨none, 0, 0, [], hcs, .inl ⟨rfl, rfl, rfl, rfl⟩⟩
  · simp at hcs
    exact ⟨some y, l, c', zs, hcs, .inr ⟨_, rfl, hl, hm, by simpa using hz, hcell, hwz⟩⟩

theorem open_hash {v : Value} {d : DataW H} {p : List MemPlace} {base : Nat} (hv : Value.okWide Tryd.prog W .any base 25 v) (h : DataW.Trod enc Tryd.prog W 0 (fun _ => true) true 25 v d p) :
    ∃ hs : List (BitVec 8), hs.length = 32 ∧ v = .agg (bytesV hs).toArray := by
  obtain ⟨cs, rfl, hsz⟩ := okWide_array Tryd.underlying25 hv
  rw [cells25] at hsz
  obtain ⟨fuel, hf⟩ := h
  obtain ⟨xs, m, _, _, _, hxl, hel⟩ := DataW.trod_array Tryd.underlying25 hf
  rw [cells5] at hel
  have hcell : ∀ i, i < 32 → ∃ c : BitVec 8, cs[i]? = some (.int .u8 ((c.toNat : Nat) : Int)) := fun i hi => by
    have h0 := hel i hi
    rw [List.getElem?_eq_getElem (by omega)] at h0
    obtain ⟨k, e1, _, e3⟩ := DataW.trod_int Tryd.underlying5 h0
    have hb := wf_u8 e3
    refine ⟨BitVec.ofInt 8 k, ?_⟩
    rw [byte_back _ hb.1 hb.2]
    have := congrArg (·[0]?) e1
    simpa [List.getElem?_take, List.getElem?_drop, Value.cells] using this
  refine ⟨(List.range 32).map fun i => BitVec.ofInt 8 (intOf (cs.getD i undef)), by simp, ?_⟩
  congr 1
  apply Array.ext
  · simp [bytesV, hsz]
  · intro i h1 h2
    obtain ⟨c, hc⟩ := hcell i (by omega)
    have e : cs[i] = .int .u8 ((c.toNat : Nat) : Int) := by
      rw [Array.getElem?_eq_getElem h1] at hc
      exact Option.some.inj hc
    rw [e]
    simp only [bytesV, List.getElem_toArray, List.getElem_map, List.getElem_range]
    have e2 : cs.getD i undef = .int .u8 ((c.toNat : Nat) : Int) := by
      rw [Array.getD_eq_getD_getElem?, hc]; rfl
    rw [e2]
    congr 1
    show _ = (((BitVec.ofInt 8 ((c.toNat : Nat) : Int)).toNat : Nat) : Int)
    rw [byte_back _ (by omega) (by have := c.isLt; omega)]
end

end Go.Proofs.YtnfgakbfnmmhcaaDoor
