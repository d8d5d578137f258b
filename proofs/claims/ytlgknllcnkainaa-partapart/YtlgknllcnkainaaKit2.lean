/-
  Arguments, opened: slices of things to do, of numbers; three bytes.
-/
import Derived.Test.YtlgknllcnkainaaKit
import Derived.Test.YtlgknllcnkainaaMNew
import Derived.Deep.Slices
namespace Go.Proofs.Ytlgknllcnkainaa
open Go.ChangeShapes Go.WideShapes Go.ChangeAt Go.RowKit

/-- The bytes of a thing to do. -/
def KeptOk (N : Nat) (W : World) (a : Option Addr) (len cap : Nat) : Prop := len ≤ cap ∧ cap ≤ maxLen ∧ (len ≤ 140737488351232 → ∃ bs : List UInt8, RowV N W (.slice a len cap) bs)
/-- Things to do, below block N. -/
def Acts (N : Nat) (W : World) (a : Option Addr) (len : Nat) : Prop := ∀ i, i < len → ∃ (b off : Nat) (kd pt pl : Int) (v : UInt8) (ka : Option Addr) (kl kc : Nat), a = some ⟨b, off, none⟩ ∧ b < N ∧
  W.cell? ⟨b, off + i * 5, none⟩ = some (.int .i64 kd) ∧ W.cell? ⟨b, off + i * 5 + 1, none⟩ = some (.int .i64 pt) ∧ W.cell? ⟨b, off + i * 5 + 2, none⟩ = some (.int .i64 pl) ∧ W.cell? ⟨b, off + i * 5 + 3, none⟩ = some (.int .u8 ((v.toNat : Nat) : Int)) ∧ W.cell? ⟨b, off + i * 5 + 4, none⟩ = some (.slice ka kl kc) ∧
  (-9223372036854775808 ≤ pl ∧ pl ≤ 9223372036854775807) ∧ KeptOk N W ka kl kc
theorem Acts.below {N : Nat} {w w' : World} {a : Option Addr} {len : Nat} (h : Acts N w a len) (hb : Below N w w') : Acts N w' a len := fun i hi => by
  obtain ⟨b, off, kd, pt, pl, v, ka, kl, kc, ha, hl, h0, h1, h2, h3, h8, h4, h5, h6, h7⟩ := h i hi
  exact ⟨b, off, kd, pt, pl, v, ka, kl, kc, ha, hl, (hb.cell (p := ⟨b, off + i * 5, none⟩) hl).trans h0, (hb.cell (p := ⟨b, off + i * 5 + 1, none⟩) hl).trans h1, (hb.cell (p := ⟨b, off + i * 5 + 2, none⟩) hl).trans h2, (hb.cell (p := ⟨b, off + i * 5 + 3, none⟩) hl).trans h3, (hb.cell (p := ⟨b, off + i * 5 + 4, none⟩) hl).trans h8, h4, h5, h6, fun hx => by
    obtain ⟨bs, hr⟩ := h7 hx
    exact ⟨bs, hr.below hb⟩⟩

section
variable {H : Type} {enc : TypeId × Value → H} {W : World}

theorem open_bytes1 {m : Nat} {c : Value} {x : DataW H × List MemPlace} (h : DataW.trod enc Try.prog W 0 (fun _ => true) true m 49 [c] = some x) : ∃ a len cap, c = .slice a len cap ∧ KeptOk W.heap.size W a len cap := by
  rcases open_ints Try.underlying49 Try.underlying5 (by kernel_rfl) h with ⟨hcs, _⟩ | ⟨x, l, c', zs, hcs, _, hl, hm, hz, _, hcell, hwz⟩
  · simp at hcs
    exact ⟨none, 0, 0, hcs, Nat.le_refl _, Nat.zero_le _, fun _ => ⟨[], RowV.nil _ _⟩⟩
  · simp at hcs
    subst hcs
    refine ⟨some x, l, c', rfl, hl, hm, fun hlen => ⟨(zs.take l).map fun z => UInt8.ofNat z.toNat, ⟨some x, l, c', rfl, hl, hm, by simp, by simp at hz ⊢; omega, hlen, fun i hi => ?_⟩⟩⟩
    have hz' : zs.length = c' := by simpa using hz
    obtain ⟨b, off, rfl⟩ := add_zero_none (hcell 0 (by omega))
    have hc := hcell i (by omega)
    rw [Addr.add_mid] at hc
    refine ⟨b, off, rfl, lt_of_cell hc, ?_⟩
    have hi' : i < zs.length := by omega
    have hmem : zs.getD i 0 ∈ zs := by
      rw [List.getD_eq_getElem?_getD, List.getElem?_eq_getElem hi']
      exact List.getElem_mem hi'
    have hb := wf_u8 (hwz _ hmem)
    rw [hc, ← byte_back _ hb.1 hb.2]
    have e : ((zs.take l).map fun z => UInt8.ofNat z.toNat).getD i 0 = UInt8.ofNat (zs.getD i 0).toNat := by
      rw [List.getD_eq_getElem?_getD, List.getElem?_map, List.getElem?_take_of_lt hi, List.getD_eq_getElem?_getD, List.getElem?_eq_getElem hi']
      rfl
    rw [e, byte_back _ hb.1 hb.2]

set_option maxRecDepth 100000 in
theorem open_acts1 {m : Nat} {c : Value} {x : DataW H × List MemPlace} (h : DataW.trod enc Try.prog W 0 (fun _ => true) true m 42 [c] = some x) : ∃ a len cap, c = .slice a len cap ∧ len ≤ maxLen ∧ Acts W.heap.size W a len := by
  rcases Deep.open_slice Try.underlying42 h with ⟨hcs, _⟩ | ⟨a, len, cap, mm, n, D, Pl, hcs, hb, hl, hm, hmm, _, hx⟩
  · simp at hcs
    exact ⟨none, 0, 0, hcs, Nat.zero_le _, fun i hi => by omega⟩
  · simp at hcs
    subst hcs
    have hmc : mm = cap := by simpa using hmm
    subst hmc
    have ce : Try.prog.cellsOf 51 = 5 := by kernel_rfl
    refine ⟨some a, len, mm, rfl, by omega, fun i hi => ?_⟩
    have each : ∀ i, i < mm → ∃ v0 v1 v2 v3 v4, W.cell? (a.add (i * 5)) = some v0 ∧ W.cell? (a.add (i * 5 + 1)) = some v1 ∧ W.cell? (a.add (i * 5 + 2)) = some v2 ∧ W.cell? (a.add (i * 5 + 3)) = some v3 ∧ W.cell? (a.add (i * 5 + 4)) = some v4 ∧
        (∃ y k, DataW.trod enc Try.prog W 0 (fun _ => true) true k 3 [v0] = some y) ∧ (∃ y k, DataW.trod enc Try.prog W 0 (fun _ => true) true k 3 [v1] = some y) ∧ (∃ y k, DataW.trod enc Try.prog W 0 (fun _ => true) true k 3 [v2] = some y) ∧ (∃ y k, DataW.trod enc Try.prog W 0 (fun _ => true) true k 5 [v3] = some y) ∧ (∃ y k, DataW.trod enc Try.prog W 0 (fun _ => true) true k 49 [v4] = some y) := by
      intro i hi
      obtain ⟨cs', h1, h2⟩ := hx i hi
      rw [ce] at h1
      obtain ⟨_, hlen, hcell⟩ := World.cells?_some h1
      obtain ⟨xs, k, hk, hxy, _, hxl, hf⟩ := DataW.trod_struct Try.underlying51 h2
      match xs, hxl, cs', hlen with
      | [y0, y1, y2, y3, y4], _, [v0, v1, v2, v3, v4], _ =>
        have g0 : DataW.trod enc Try.prog W 0 (fun _ => true) true k 3 (List.take (Try.prog.cellsOf 3) (List.drop 0 [v0, v1, v2, v3, v4])) = some y0 := hf 0 _ rfl
        have g1 : DataW.trod enc Try.prog W 0 (fun _ => true) true k 3 (List.take (Try.prog.cellsOf 3) (List.drop 1 [v0, v1, v2, v3, v4])) = some y1 := hf 1 _ rfl
        have g2 : DataW.trod enc Try.prog W 0 (fun _ => true) true k 3 (List.take (Try.prog.cellsOf 3) (List.drop 2 [v0, v1, v2, v3, v4])) = some y2 := hf 2 _ rfl
        have g3 : DataW.trod enc Try.prog W 0 (fun _ => true) true k 5 (List.take (Try.prog.cellsOf 5) (List.drop 3 [v0, v1, v2, v3, v4])) = some y3 := hf 3 _ rfl
        have g4 : DataW.trod enc Try.prog W 0 (fun _ => true) true k 49 (List.take (Try.prog.cellsOf 49) (List.drop 4 [v0, v1, v2, v3, v4])) = some y4 := hf 4 _ rfl
        rw [show Try.prog.cellsOf 3 = 1 by kernel_rfl] at g0 g1 g2
        rw [show Try.prog.cellsOf 5 = 1 by kernel_rfl] at g3
        rw [show Try.prog.cellsOf 49 = 1 by kernel_rfl] at g4
        simp at g0 g1 g2 g3 g4
        have e0 := hcell 0 (by omega)
        have e1 := hcell 1 (by omega)
        have e2 := hcell 2 (by omega)
        have e3 := hcell 3 (by omega)
        have e4 := hcell 4 (by omega)
        rw [Deep.add_add] at e0 e1 e2 e3 e4
        exact ⟨v0, v1, v2, v3, v4, by simpa using e0, by simpa using e1, by simpa using e2, by simpa using e3, by simpa using e4, ⟨_, _, g0⟩, ⟨_, _, g1⟩, ⟨_, _, g2⟩, ⟨_, _, g3⟩, ⟨_, _, g4⟩⟩
    obtain ⟨v0, v1, v2, v3, v4, c0, c1, c2, c3, c4, ⟨y0, k0, t0⟩, ⟨y1, k1, t1⟩, ⟨y2, k2, t2⟩, ⟨y3, k3, t3⟩, ⟨y4, k4, t4⟩⟩ := each i (by omega)
    obtain ⟨u0, _, _, _, _, d0, _⟩ := each 0 (by omega)
    obtain ⟨b, off, rfl⟩ := add_zero_none (by simpa using d0)
    rw [Addr.add_mid] at c0 c1 c2 c3 c4
    obtain ⟨z0, f0, _, _⟩ := DataW.trod_int Try.underlying3 t0
    obtain ⟨z1, f1, _, _⟩ := DataW.trod_int Try.underlying3 t1
    obtain ⟨z2, f2, _, w2⟩ := DataW.trod_int Try.underlying3 t2
    obtain ⟨z3, f3, _, w3⟩ := DataW.trod_int Try.underlying5 t3
    obtain ⟨ka, kl, kc, f4, hk⟩ := open_bytes1 t4
    simp at f0 f1 f2 f3
    have hb3 := wf_u8 w3
    subst f0 f1 f2 f3 f4
    refine ⟨b, off, z0, z1, z2, UInt8.ofNat z3.toNat, ka, kl, kc, rfl, lt_of_cell c0, c0, by rw [Nat.add_assoc]; exact c1, by rw [Nat.add_assoc]; exact c2, ?_, by rw [Nat.add_assoc]; exact c4, wf_i64 w2, hk⟩
    rw [byte_back _ hb3.1 hb3.2, Nat.add_assoc]
    exact c3

set_option maxRecDepth 100000 in
theorem open_acts {v : Value} {d : DataW H} {p : List MemPlace} {base : Nat} (hv : Value.okWide Try.prog W .any base 42 v) (h : DataW.Trod enc Try.prog W 0 (fun _ => true) true 42 v d p) :
    ∃ a len cap, v = .slice a len cap ∧ len ≤ maxLen ∧ Acts W.heap.size W a len := by
  obtain ⟨a, len, cap, rfl⟩ := okWide_slice Try.underlying42 hv
  obtain ⟨fuel, hf⟩ := h
  exact open_acts1 hf
set_option maxRecDepth 100000 in
theorem open_nums {v : Value} {d : DataW H} {p : List MemPlace} {base : Nat} (hv : Value.okWide Try.prog W .any base 41 v) (h : DataW.Trod enc Try.prog W 0 (fun _ => true) true 41 v d p) :
    ∃ a len cap l, v = .slice a len cap ∧ IRow W.heap.size W a len l := by
  obtain ⟨a, len, cap, rfl⟩ := okWide_slice Try.underlying41 hv
  obtain ⟨fuel, hf⟩ := h
  rcases open_ints Try.underlying41 Try.underlying3 (by kernel_rfl) hf with ⟨hcs, _⟩ | ⟨x, l, c', zs, hcs, _, hl, hm, hz, _, hcell, hwz⟩
  · simp [Value.cells] at hcs
    obtain ⟨rfl, rfl, rfl⟩ := hcs
    exact ⟨none, 0, 0, [], rfl, rfl, fun i hi => by omega⟩
  · simp [Value.cells] at hcs
    obtain ⟨rfl, rfl, rfl⟩ := hcs
    have hz' : zs.length = cap := by simpa using hz
    refine ⟨some x, len, cap, zs.take len, rfl, by simp; omega, fun i hi => ?_⟩
    obtain ⟨b, off, rfl⟩ := add_zero_none (hcell 0 (by omega))
    have hc := hcell i (by omega)
    rw [Addr.add_mid] at hc
    refine ⟨b, off, rfl, lt_of_cell hc, ?_⟩
    rw [hc, List.getD_eq_getElem?_getD, List.getD_eq_getElem?_getD, List.getElem?_take_of_lt hi]
theorem okWide_array {P : Program} {w : World} {r : Reach} {base : Nat} {t e : TypeId} {n : Nat} {v : Value} (ht : P.underlying t = some (.array n e)) (h : Value.okWide P w r base t v) : ∃ cs : Array Value, v = .agg cs ∧ cs.size = P.cellsOf t := by
  simp only [Value.okWide, ht] at h
  obtain ⟨cs, h1, h2, _⟩ := h
  exact ⟨cs, h1, h2⟩
theorem cells70 : Try.prog.cellsOf 70 = 3 := by kernel_rfl
theorem cells5 : Try.prog.cellsOf 5 = 1 := by kernel_rfl
set_option maxRecDepth 100000 in
theorem open_three {v : Value} {d : DataW H} {p : List MemPlace} {base : Nat} (hv : Value.okWide Try.prog W .any base 70 v) (h : DataW.Trod enc Try.prog W 0 (fun _ => true) true 70 v d p) :
    ∃ a b c : UInt8, v = .agg #[.int .u8 ((a.toNat : Nat) : Int), .int .u8 ((b.toNat : Nat) : Int), .int .u8 ((c.toNat : Nat) : Int)] := by
  obtain ⟨cs, rfl, hsz⟩ := okWide_array Try.underlying70 hv
  rw [cells70] at hsz
  obtain ⟨fuel, hf⟩ := h
  obtain ⟨xs, m, _, _, _, hxl, hel⟩ := DataW.trod_array Try.underlying70 hf
  rw [cells5] at hel
  obtain ⟨l⟩ := cs
  match l, hsz with
  | [c0, c1, c2], _ =>
    have h0 := hel 0 (by decide)
    have h1 := hel 1 (by decide)
    have h2 := hel 2 (by decide)
    simp [Value.cells] at h0 h1 h2
    obtain ⟨x0, hx0⟩ : ∃ x, xs[0]? = some x := ⟨xs[0]'(by omega), List.getElem?_eq_getElem _⟩
    obtain ⟨x1, hx1⟩ : ∃ x, xs[1]? = some x := ⟨xs[1]'(by omega), List.getElem?_eq_getElem _⟩
    obtain ⟨x2, hx2⟩ : ∃ x, xs[2]? = some x := ⟨xs[2]'(by omega), List.getElem?_eq_getElem _⟩
    rw [hx0] at h0
    rw [hx1] at h1
    rw [hx2] at h2
    obtain ⟨z0, f0, _, w0⟩ := DataW.trod_int Try.underlying5 h0
    obtain ⟨z1, f1, _, w1⟩ := DataW.trod_int Try.underlying5 h1
    obtain ⟨z2, f2, _, w2⟩ := DataW.trod_int Try.underlying5 h2
    simp at f0 f1 f2
    subst f0 f1 f2
    have b0 := wf_u8 w0
    have b1 := wf_u8 w1
    have b2 := wf_u8 w2
    exact ⟨UInt8.ofNat z0.toNat, UInt8.ofNat z1.toNat, UInt8.ofNat z2.toNat, by rw [byte_back _ b0.1 b0.2, byte_back _ b1.1 b1.2, byte_back _ b2.1 b2.2]⟩
end
end Go.Proofs.Ytlgknllcnkainaa
