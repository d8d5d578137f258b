/-
  Arguments, opened: slices of things to do, one and two of them.
-/
import Derived.Test.YtebahemgbpjldaaKit
import Derived.Deep.Slices
namespace Go.Proofs.Ytebahemgbpjldaa
open Go.ChangeShapes Go.WideShapes Go.ChangeAt Go.RowKit

/-- The bytes of a thing to do. -/
def KeptOk (N : Nat) (W : World) (a : Option Addr) (len cap : Nat) : Prop := len ≤ cap ∧ cap ≤ maxLen ∧ (len ≤ 140737488351232 → ∃ bs : List UInt8, RowV N W (.slice a len cap) bs)
/-- Things to do, below block N. -/
def Acts (N : Nat) (W : World) (a : Option Addr) (len : Nat) : Prop := ∀ i, i < len → ∃ (b off : Nat) (kd pl : Int) (v : UInt8) (ka : Option Addr) (kl kc : Nat), a = some ⟨b, off, none⟩ ∧ b < N ∧
  W.cell? ⟨b, off + i * 4, none⟩ = some (.int .i64 kd) ∧ W.cell? ⟨b, off + i * 4 + 1, none⟩ = some (.int .i64 pl) ∧ W.cell? ⟨b, off + i * 4 + 2, none⟩ = some (.int .u8 ((v.toNat : Nat) : Int)) ∧ W.cell? ⟨b, off + i * 4 + 3, none⟩ = some (.slice ka kl kc) ∧
  (-9223372036854775808 ≤ pl ∧ pl ≤ 9223372036854775807) ∧ KeptOk N W ka kl kc
theorem Acts.below {N : Nat} {w w' : World} {a : Option Addr} {len : Nat} (h : Acts N w a len) (hb : Below N w w') : Acts N w' a len := fun i hi => by
  obtain ⟨b, off, kd, pl, v, ka, kl, kc, ha, hl, h0, h1, h2, h3, h4, h5, h6, h7⟩ := h i hi
  exact ⟨b, off, kd, pl, v, ka, kl, kc, ha, hl, (hb.cell (p := ⟨b, off + i * 4, none⟩) hl).trans h0, (hb.cell (p := ⟨b, off + i * 4 + 1, none⟩) hl).trans h1, (hb.cell (p := ⟨b, off + i * 4 + 2, none⟩) hl).trans h2, (hb.cell (p := ⟨b, off + i * 4 + 3, none⟩) hl).trans h3, h4, h5, h6, fun hx => by
    obtain ⟨bs, hr⟩ := h7 hx
    exact ⟨bs, hr.below hb⟩⟩

section
variable {H : Type} {enc : TypeId × Value → H} {W : World}

theorem open_bytes1 {m : Nat} {c : Value} {x : DataW H × List MemPlace} (h : DataW.trod enc Try.prog W 0 (fun _ => true) true m 40 [c] = some x) : ∃ a len cap, c = .slice a len cap ∧ KeptOk W.heap.size W a len cap := by
  rcases open_ints Try.underlying40 Try.underlying5 (by kernel_rfl) h with ⟨hcs, _⟩ | ⟨x, l, c', zs, hcs, _, hl, hm, hz, _, hcell, hwz⟩
  · simp at hcs
    exact ⟨none, 0, 0, hcs, Nat.le_refl _, Nat.zero_le _, fun _ => ⟨[], RowV.nil _ _⟩⟩
  · simp at hcs
    subst hcs
    refine ⟨some x, l, c', rfl, hl, hm, fun hlen => ⟨(zs.take l).map fun z => UInt8.ofNat z.toNat, ⟨some x, l, c', rfl, hl, hm, by simp, by simp at hz ⊢; omega, hlen, fun i hi => ?_⟩⟩⟩
    have hz' : zs.length = c' := by simpa using hz
    obtain ⟨b, off, rfl⟩ := add_zero_none (hcell 0 (by omega))
    have hc := hcell i (by omega)
    rw [Addr.add_mid] at hc
    refine ⟨b, off, rfl, lt_of_cell hc, ?_⟩
    have hi' : i < zs.length := by omega
    have hmem : zs.getD i 0 ∈ zs := by
      rw [List.getD_eq_getElem?_getD, List.getElem?_eq_getElem hi']
      exact List.getElem_mem hi'
    have hb := wf_u8 (hwz _ hmem)
    rw [hc, ← byte_back _ hb.1 hb.2]
    have e : ((zs.take l).map fun z => UInt8.ofNat z.toNat).getD i 0 = UInt8.ofNat (zs.getD i 0).toNat := by
      rw [List.getD_eq_getElem?_getD, List.getElem?_map, List.getElem?_take_of_lt hi, List.getD_eq_getElem?_getD, List.getElem?_eq_getElem hi']
      rfl
    rw [e, byte_back _ hb.1 hb.2]

theorem open_acts1 {m : Nat} {c : Value} {x : DataW H × List MemPlace} (h : DataW.trod enc Try.prog W 0 (fun _ => true) true m 37 [c] = some x) : ∃ a len cap, c = .slice a len cap ∧ len ≤ maxLen ∧ Acts W.heap.size W a len := by
  rcases Deep.open_slice Try.underlying37 h with ⟨hcs, _⟩ | ⟨a, len, cap, mm, n, D, Pl, hcs, hb, hl, hm, hmm, _, hx⟩
  · simp at hcs
    exact ⟨none, 0, 0, hcs, Nat.zero_le _, fun i hi => by omega⟩
  · simp at hcs
    subst hcs
    have hmc : mm = cap := by simpa using hmm
    subst hmc
    have ce : Try.prog.cellsOf 42 = 4 := by kernel_rfl
    refine ⟨some a, len, mm, rfl, by omega, fun i hi => ?_⟩
    have each : ∀ i, i < mm → ∃ v0 v1 v2 v3, W.cell? (a.add (i * 4)) = some v0 ∧ W.cell? (a.add (i * 4 + 1)) = some v1 ∧ W.cell? (a.add (i * 4 + 2)) = some v2 ∧ W.cell? (a.add (i * 4 + 3)) = some v3 ∧
        (∃ y k, DataW.trod enc Try.prog W 0 (fun _ => true) true k 3 [v0] = some y) ∧ (∃ y k, DataW.trod enc Try.prog W 0 (fun _ => true) true k 3 [v1] = some y) ∧ (∃ y k, DataW.trod enc Try.prog W 0 (fun _ => true) true k 5 [v2] = some y) ∧ (∃ y k, DataW.trod enc Try.prog W 0 (fun _ => true) true k 40 [v3] = some y) := by
      intro i hi
      obtain ⟨cs', h1, h2⟩ := hx i hi
      rw [ce] at h1
      obtain ⟨_, hlen, hcell⟩ := World.cells?_some h1
      obtain ⟨xs, k, hk, hxy, _, hxl, hf⟩ := DataW.trod_struct Try.underlying42 h2
      match xs, hxl, cs', hlen with
      | [y0, y1, y2, y3], _, [v0, v1, v2, v3], _ =>
        have g0 : DataW.trod enc Try.prog W 0 (fun _ => true) true k 3 (List.take (Try.prog.cellsOf 3) (List.drop 0 [v0, v1, v2, v3])) = some y0 := hf 0 _ rfl
        have g1 : DataW.trod enc Try.prog W 0 (fun _ => true) true k 3 (List.take (Try.prog.cellsOf 3) (List.drop 1 [v0, v1, v2, v3])) = some y1 := hf 1 _ rfl
        have g2 : DataW.trod enc Try.prog W 0 (fun _ => true) true k 5 (List.take (Try.prog.cellsOf 5) (List.drop 2 [v0, v1, v2, v3])) = some y2 := hf 2 _ rfl
        have g3 : DataW.trod enc Try.prog W 0 (fun _ => true) true k 40 (List.take (Try.prog.cellsOf 40) (List.drop 3 [v0, v1, v2, v3])) = some y3 := hf 3 _ rfl
        rw [show Try.prog.cellsOf 3 = 1 by kernel_rfl] at g0 g1
        rw [show Try.prog.cellsOf 5 = 1 by kernel_rfl] at g2
        rw [show Try.prog.cellsOf 40 = 1 by kernel_rfl] at g3
        simp at g0 g1 g2 g3
        have e0 := hcell 0 (by omega)
        have e1 := hcell 1 (by omega)
        have e2 := hcell 2 (by omega)
        have e3 := hcell 3 (by omega)
        rw [Deep.add_add] at e0 e1 e2 e3
        exact ⟨v0, v1, v2, v3, by simpa using e0, by simpa using e1, by simpa using e2, by simpa using e3, ⟨_, _, g0⟩, ⟨_, _, g1⟩, ⟨_, _, g2⟩, ⟨_, _, g3⟩⟩
    obtain ⟨v0, v1, v2, v3, c0, c1, c2, c3, ⟨y0, k0, t0⟩, ⟨y1, k1, t1⟩, ⟨y2, k2, t2⟩, ⟨y3, k3, t3⟩⟩ := each i (by omega)
    obtain ⟨u0, _, _, _, d0, _⟩ := each 0 (by omega)
    obtain ⟨b, off, rfl⟩ := add_zero_none (by simpa using d0)
    rw [Addr.add_mid] at c0 c1 c2 c3
    obtain ⟨z0, f0, _, _⟩ := DataW.trod_int Try.underlying3 t0
    obtain ⟨z1, f1, _, w1⟩ := DataW.trod_int Try.underlying3 t1
    obtain ⟨z2, f2, _, w2⟩ := DataW.trod_int Try.underlying5 t2
    obtain ⟨ka, kl, kc, f3, hk⟩ := open_bytes1 t3
    simp at f0 f1 f2
    have hb2 := wf_u8 w2
    subst f0 f1 f2 f3
    refine ⟨b, off, z0, z1, UInt8.ofNat z2.toNat, ka, kl, kc, rfl, lt_of_cell c0, c0, by rw [Nat.add_assoc]; exact c1, ?_, by rw [Nat.add_assoc]; exact c3, wf_i64 w1, hk⟩
    rw [byte_back _ hb2.1 hb2.2, Nat.add_assoc]
    exact c2

theorem open_acts {v : Value} {d : DataW H} {p : List MemPlace} {base : Nat} (hv : Value.okWide Try.prog W .any base 37 v) (h : DataW.Trod enc Try.prog W 0 (fun _ => true) true 37 v d p) :
    ∃ a len cap, v = .slice a len cap ∧ len ≤ maxLen ∧ Acts W.heap.size W a len := by
  obtain ⟨a, len, cap, rfl⟩ := okWide_slice Try.underlying37 hv
  obtain ⟨fuel, hf⟩ := h
  exact open_acts1 hf
theorem okWide_array {P : Program} {w : World} {r : Reach} {base : Nat} {t e : TypeId} {n : Nat} {v : Value} (ht : P.underlying t = some (.array n e)) (h : Value.okWide P w r base t v) : ∃ cs : Array Value, v = .agg cs ∧ cs.size = P.cellsOf t := by
  simp only [Value.okWide, ht] at h
  obtain ⟨cs, h1, h2, _⟩ := h
  exact ⟨cs, h1, h2⟩
theorem cells58 : Try.prog.cellsOf 58 = 2 := by kernel_rfl
theorem cells37 : Try.prog.cellsOf 37 = 1 := by kernel_rfl
theorem open_acts2 {v : Value} {d : DataW H} {p : List MemPlace} {base : Nat} (hv : Value.okWide Try.prog W .any base 58 v) (h : DataW.Trod enc Try.prog W 0 (fun _ => true) true 58 v d p) :
    ∃ a1 len1 cap1 a2 len2 cap2, v = .agg #[.slice a1 len1 cap1, .slice a2 len2 cap2] ∧ (len1 ≤ maxLen ∧ Acts W.heap.size W a1 len1) ∧ (len2 ≤ maxLen ∧ Acts W.heap.size W a2 len2) := by
  obtain ⟨cs, rfl, hsz⟩ := okWide_array Try.underlying58 hv
  rw [cells58] at hsz
  obtain ⟨fuel, hf⟩ := h
  obtain ⟨xs, m, _, _, _, hxl, hel⟩ := DataW.trod_array Try.underlying58 hf
  rw [cells37] at hel
  obtain ⟨l⟩ := cs
  match l, hsz with
  | [c0, c1], _ =>
    have h0 := hel 0 (by decide)
    have h1 := hel 1 (by decide)
    simp [Value.cells] at h0 h1
    obtain ⟨x0, hx0⟩ : ∃ x, xs[0]? = some x := ⟨xs[0]'(by omega), List.getElem?_eq_getElem _⟩
    obtain ⟨x1, hx1⟩ : ∃ x, xs[1]? = some x := ⟨xs[1]'(by omega), List.getElem?_eq_getElem _⟩
    rw [hx0] at h0
    rw [hx1] at h1
    obtain ⟨a1, len1, cap1, rfl, hr1⟩ := open_acts1 h0
    obtain ⟨a2, len2, cap2, rfl, hr2⟩ := open_acts1 h1
    exact ⟨a1, len1, cap1, a2, len2, cap2, rfl, hr1, hr2⟩
end
end Go.Proofs.Ytebahemgbpjldaa
