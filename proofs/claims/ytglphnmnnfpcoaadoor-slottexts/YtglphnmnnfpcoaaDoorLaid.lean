/-
  What the program's variables hold, out of what the rows lay; a slot that came in.
-/
import Derived.Test.YtglphnmnnfpcoaaDoorRows
import Derived.Test.YtglphnmnnfpcoaaDoorKit
import Derived.Test.YtglphnmnnfpcoaaDoorSWord
import Derived.LaidMore
import Derived.Lay
import Derived.LaidOnce
import Derived.Lib.LaidTab
import Derived.Stop.LaidErr
import Derived.Stop.Joined
namespace Go.Proofs.YtglphnmnnfpcoaaDoor
open Go.ChangeShapes Go.WideShapes Go.ChangeAt Go.RowKit

theorem tPow : (Tryd.prog.globals[1]?).map (·.type) = some 104 := by kernel_rfl
theorem tSyn : (Tryd.prog.globals[3]?).map (·.type) = some 85 := by kernel_rfl
theorem tRng : (Tryd.prog.globals[4]?).map (·.type) = some 85 := by kernel_rfl
theorem tSts : (Tryd.prog.globals[0]?).map (·.type) = some 61 := by kernel_rfl
theorem powD : (Rows.laid_internal_strconv_uint64pow10 : DataW Unit) = Lib.tabData .u64 Lib.pow10Tab := by kernel_rfl

def strData {H : Type} (ls : List (List UInt8)) : DataW H := .agg (ls.map fun l => .lit (.string l))
theorem stsD : (Rows.laid_bootjack_slot_statuses : DataW Unit) = strData wordsB := by rfl
theorem cells_of_strs {H : Type} {enc : TypeId × Value → H} {P : Program} {w : World} {base : Nat} {sp : Nat → Bool} {held : Bool} {fuel : Nat} {t e : TypeId} {n : Nat} {cs : List Value} {ls : List (List UInt8)} {p : List MemPlace}
    (ht : P.underlying t = some (.array n e)) (he : P.underlying e = some .string) (hce : P.cellsOf e = 1) (hct : P.cellsOf t = n)
    (h : DataW.trod enc P w base sp held fuel t cs = some (strData ls, p)) : cs = ls.map fun l => Value.string (tx l) := by
  cases fuel with
  | zero => simp [DataW.trod] at h
  | succ fuel =>
    simp only [DataW.trod, ht, hce, hct, Nat.mul_one] at h
    split at h
    · rename_i hl
      obtain ⟨xs, hm, hx⟩ := Option.map_eq_some_iff.1 h
      have hxs : xs.map (·.1) = ls.map fun l => (DataW.lit (.string l) : DataW H) := by
        have := congrArg Prod.fst hx
        simpa [strData] using this
      have hxl : xs.length = n := by simpa using Lib.mapM_length hm
      have hzl : ls.length = n := by
        have := congrArg List.length hxs
        simp at this
        omega
      apply List.ext_getElem?
      intro i
      by_cases hi : i < n
      · obtain ⟨b, hb, hf⟩ := Lib.mapM_at hm i i (by simp [hi])
        obtain ⟨z, hc, rfl, _⟩ := DataW.trod_string he hf
        have h1 : cs[i]? = some (.string z) := by
          have := congrArg (·[0]?) hc
          simpa [List.getElem?_take, List.getElem?_drop] using this
        have h2 : (xs.map (·.1))[i]? = some (DataW.lit (.string z.data.toList) : DataW H) := by simp [hb]
        rw [hxs] at h2
        simp only [List.getElem?_map, Option.map_eq_some_iff, DataW.lit.injEq, Lit.string.injEq] at h2
        obtain ⟨z', hz', e⟩ := h2
        rw [h1, List.getElem?_map, hz', e, Option.map_some, tx_of]
      · rw [List.getElem?_eq_none (by omega), List.getElem?_eq_none (by simp; omega)]
    · cases h

def laid6 (rest : List (String × DataW Unit)) : List (String × DataW Unit) :=
  ("math/bits.deBruijn32tab", Rows.laid_math_bits_deBruijn32tab) :: ("math/bits.deBruijn64tab", Rows.laid_math_bits_deBruijn64tab) :: ("internal/strconv.uint64pow10", Rows.laid_internal_strconv_uint64pow10) :: ("strconv.ErrRange", Rows.laid_strconv_ErrRange) :: ("strconv.ErrSyntax", Rows.laid_strconv_ErrSyntax) :: ("bootjack/slot.statuses", Rows.laid_bootjack_slot_statuses) :: rest
theorem err_star : "*" ++ "errors.errorString" = "*errors.errorString" := by decide
theorem err_row (u : TypeId) (h : Tryd.prog.typeName? 3 u = some "*errors.errorString") : u = 129 :=
  typeName_ptr_named (nm := "errors.errorString") (by rw [err_star]; kernel_rfl) (by kernel_rfl) (by decide) u (by rw [err_star]; exact h)

theorem gDb : Tryd.prog.globalNamed "math/bits.deBruijn64tab" = some 6 := by kernel_rfl
theorem tabs_of {rest : List (String × DataW Unit)} {W : World} (h : laidMet Tryd.prog (laid6 rest) W) : Tabs W := by
  have h7 : 7 ≤ W.heap.size := by
    obtain ⟨ps, ⟨g', t', cs, fuel, p, q, hg', ht', hvar, hd, _, _⟩, _⟩ := laidMet.tail h
    rcases Nat.lt_or_ge 6 W.heap.size with h6 | h6
    · omega
    · simp [World.var?, gDb, Array.getElem?_eq_none h6] at hvar
  have h2 := laidMet.tail (laidMet.tail h)
  rw [powD] at h2
  have t1 := Lib.tabIs_of_head gPow tPow Tryd.underlying104 Tryd.underlying22 (by kernel_rfl) (by kernel_rfl) h2
  have h3 := laidMet.tail h2
  obtain ⟨a3, s3, v3, _⟩ := laid_sentinel h3 gRng tRng Tryd.underlying85 err_row Tryd.underlying129 Tryd.underlying131 rfl rfl Tryd.underlying9 (by kernel_rfl) (by kernel_rfl)
  have h4 := laidMet.tail h3
  obtain ⟨a4, s4, v4, _⟩ := laid_sentinel h4 gSyn tSyn Tryd.underlying85 err_row Tryd.underlying129 Tryd.underlying131 rfl rfl Tryd.underlying9 (by kernel_rfl) (by kernel_rfl)
  have h5 := laidMet.tail h4
  rw [stsD] at h5
  refine ⟨h7, ?_, t1, ⟨129, .pointer (some a4), v4⟩, ⟨129, .pointer (some a3), v3⟩⟩
  obtain ⟨ps, ⟨g', t', cs, fuel, p, q, hg', ht', hvar, hd, _, _⟩, _⟩ := h5
  obtain rfl := Option.some.inj (gSts.symm.trans hg')
  obtain rfl := Option.some.inj (tSts.symm.trans ht')
  have e := cells_of_strs Tryd.underlying61 Tryd.underlying9 (by kernel_rfl) (by kernel_rfl) hd
  intro j v hj
  have := World.var?_cell gSts hvar j
  rw [Nat.zero_add, this, ← Array.getElem?_toList, e]
  exact hj
theorem of_laid {W : World} (h : laidMet Tryd.prog Rows.slotMovesRow.laid W) : Tabs W := tabs_of (rest := []) h

theorem okWide_struct {P : Program} {w : World} {r : Reach} {base : Nat} {t : TypeId} {fs : Array Field} {v : Value} (ht : P.underlying t = some (.struct fs)) (h : Value.okWide P w r base t v) : ∃ cs : Array Value, v = .agg cs ∧ cs.size = P.cellsOf t := by
  simp only [Value.okWide, ht] at h
  obtain ⟨cs, h1, h2, _⟩ := h
  exact ⟨cs, h1, h2⟩
section
variable {H : Type} {enc : TypeId × Value → H} {W : World} {base : Nat} {v : Value} {d : DataW H} {p : List MemPlace}
set_option maxRecDepth 100000 in
theorem open_slot (hv : Value.okWide Tryd.prog W .any base 26 v) (h : DataW.Trod enc Tryd.prog W 0 (fun _ => true) true 26 v d p) : ∃ s : S, Fit s ∧ v = s.v := by
  obtain ⟨cs, rfl, hsz⟩ := okWide_struct Tryd.underlying26 hv
  rw [show Tryd.prog.cellsOf 26 = 36 by kernel_rfl] at hsz
  obtain ⟨fuel, hf⟩ := h
  obtain ⟨xs, k, hk, hxy, _, hxl, hel⟩ := DataW.trod_struct Tryd.underlying26 hf
  have hcs : (Value.agg cs).cells = cs := rfl
  obtain ⟨l⟩ := cs
  have hl : l.length = 36 := by simpa using hsz
  match xs, hxl, l, hl with
  | [y0, y1, y2, y3, y4], _, v0 :: v1 :: v2 :: v3 :: r, hl =>
    have hr : r.length = 32 := by simp at hl; omega
    have g0 : DataW.trod enc Tryd.prog W 0 (fun _ => true) true k 3 (List.take (Tryd.prog.cellsOf 3) (List.drop 0 (v0 :: v1 :: v2 :: v3 :: r))) = some y0 := hel 0 _ rfl
    have g1 : DataW.trod enc Tryd.prog W 0 (fun _ => true) true k 3 (List.take (Tryd.prog.cellsOf 3) (List.drop 1 (v0 :: v1 :: v2 :: v3 :: r))) = some y1 := hel 1 _ rfl
    have g2 : DataW.trod enc Tryd.prog W 0 (fun _ => true) true k 22 (List.take (Tryd.prog.cellsOf 22) (List.drop 2 (v0 :: v1 :: v2 :: v3 :: r))) = some y2 := hel 2 _ rfl
    have g3 : DataW.trod enc Tryd.prog W 0 (fun _ => true) true k 3 (List.take (Tryd.prog.cellsOf 3) (List.drop 3 (v0 :: v1 :: v2 :: v3 :: r))) = some y3 := hel 3 _ rfl
    have g4 : DataW.trod enc Tryd.prog W 0 (fun _ => true) true k 24 (List.take (Tryd.prog.cellsOf 24) (List.drop 4 (v0 :: v1 :: v2 :: v3 :: r))) = some y4 := hel 4 _ rfl
    rw [show Tryd.prog.cellsOf 3 = 1 by kernel_rfl] at g0 g1 g3
    rw [show Tryd.prog.cellsOf 22 = 1 by kernel_rfl] at g2
    rw [show Tryd.prog.cellsOf 24 = 32 by kernel_rfl] at g4
    simp only [List.drop_zero, List.take_succ_cons, List.take_zero, List.drop_succ_cons] at g0 g1 g2 g3 g4
    rw [List.take_of_length_le (by omega)] at g4
    obtain ⟨n0, e0, _, q0⟩ := DataW.trod_int Tryd.underlying3 g0
    obtain ⟨n1, e1, _, q1⟩ := DataW.trod_int Tryd.underlying3 g1
    obtain ⟨n2, e2, _, q2⟩ := DataW.trod_int Tryd.underlying22 g2
    obtain ⟨n3, e3, _, q3⟩ := DataW.trod_int Tryd.underlying3 g3
    obtain ⟨xs4, m, _, _, _, hxl4, hel4⟩ := DataW.trod_array Tryd.underlying24 g4
    rw [show Tryd.prog.cellsOf 5 = 1 by kernel_rfl] at hel4
    have hcell : ∀ i, i < 32 → ∃ c : UInt8, r[i]? = some (.int .u8 ((c.toNat : Nat) : Int)) := fun i hi => by
      have h0 := hel4 i hi
      rw [List.getElem?_eq_getElem (by omega)] at h0
      obtain ⟨z, e1, _, e3⟩ := DataW.trod_int Tryd.underlying5 h0
      have hb := wf_u8 e3
      refine ⟨UInt8.ofNat z.toNat, ?_⟩
      rw [byte_back _ hb.1 hb.2]
      have := congrArg (·[0]?) e1
      simpa [List.getElem?_take, List.getElem?_drop] using this
    simp only [List.cons.injEq, and_true] at e0 e1 e2 e3
    subst e0 e1 e2 e3
    obtain ⟨u2, rfl, hu2⟩ := wf_u64 q2
    have w0 := wf_i64 q0
    have w1 := wf_i64 q1
    have w3 := wf_i64 q3
    have hb : ∃ dg : List UInt8, dg.length = 32 ∧ r = bytesV dg := by
      refine ⟨(List.range 32).map fun i => UInt8.ofNat (intOf (r.getD i undef)).toNat, by simp, ?_⟩
      apply List.ext_getElem?
      intro i
      by_cases hi : i < 32
      · obtain ⟨c, hc⟩ := hcell i hi
        have e2 : r.getD i undef = .int .u8 ((c.toNat : Nat) : Int) := by rw [List.getD_eq_getElem?_getD, hc]; rfl
        have e : (bytesV ((List.range 32).map fun i => UInt8.ofNat (intOf (r.getD i undef)).toNat))[i]? = some (.int .u8 (((UInt8.ofNat (intOf (r.getD i undef)).toNat).toNat : Nat) : Int)) := by
          rw [bytesV, List.getElem?_map, List.getElem?_map, List.getElem?_range hi]
          rfl
        rw [e, hc, e2]
        show _ = some (Value.int .u8 (((UInt8.ofNat ((c.toNat : Nat) : Int).toNat).toNat : Nat) : Int))
        rw [Int.toNat_natCast]
        simp
      · rw [List.getElem?_eq_none (by omega), List.getElem?_eq_none (by rw [bytesV_length]; simp; omega)]
    obtain ⟨dg, hdg, rfl⟩ := hb
    exact ⟨⟨n0, n1, u2, n3, dg⟩, ⟨w0.1, w0.2, w1.1, w1.2, hu2, w3.1, w3.2, hdg⟩, rfl⟩
end
end Go.Proofs.YtglphnmnnfpcoaaDoor
