/-
  Arguments, opened: slices of things to do, of bodies; two numbers.
-/
import Derived.Test.YtjebejdcjfnleaaKit
import Derived.Deep.Slices
namespace Go.Proofs.Ytjebejdcjfnleaa
open Go.ChangeShapes Go.WideShapes Go.ChangeAt Go.RowKit

theorem okWide_array {P : Program} {w : World} {r : Reach} {base : Nat} {t e : TypeId} {n : Nat} {v : Value} (ht : P.underlying t = some (.array n e)) (h : Value.okWide P w r base t v) : ∃ cs : Array Value, v = .agg cs ∧ cs.size = P.cellsOf t := by
  simp only [Value.okWide, ht] at h
  obtain ⟨cs, h1, h2, _⟩ := h
  exact ⟨cs, h1, h2⟩
theorem cells29 : Try.prog.cellsOf 29 = 2 := by kernel_rfl
theorem cells3 : Try.prog.cellsOf 3 = 1 := by kernel_rfl
/-- The bytes of a thing to do. -/
def KeptOk (N : Nat) (W : World) (a : Option Addr) (len cap : Nat) : Prop := len ≤ cap ∧ cap ≤ maxLen ∧ (len ≤ 140737488351232 → ∃ bs : List UInt8, RowV N W (.slice a len cap) bs)
theorem KeptOk.below {N : Nat} {w w' : World} {a : Option Addr} {len cap : Nat} (h : KeptOk N w a len cap) (hb : Below N w w') : KeptOk N w' a len cap :=
  ⟨h.1, h.2.1, fun hx => by
    obtain ⟨bs, hr⟩ := h.2.2 hx
    exact ⟨bs, hr.below hb⟩⟩
/-- Things to do, below block N. -/
def Acts (N : Nat) (W : World) (a : Option Addr) (len : Nat) : Prop := ∀ i, i < len → ∃ (b off : Nat) (kd nn bk : Int) (ka : Option Addr) (kl kc : Nat) (fr sq : Int), a = some ⟨b, off, none⟩ ∧ b < N ∧
  W.cell? ⟨b, off + i * 6, none⟩ = some (.int .i64 kd) ∧ W.cell? ⟨b, off + i * 6 + 1, none⟩ = some (.int .i64 nn) ∧ W.cell? ⟨b, off + i * 6 + 2, none⟩ = some (.int .i64 bk) ∧ W.cell? ⟨b, off + i * 6 + 3, none⟩ = some (.slice ka kl kc) ∧ W.cell? ⟨b, off + i * 6 + 4, none⟩ = some (.int .u8 fr) ∧ W.cell? ⟨b, off + i * 6 + 5, none⟩ = some (.int .u64 sq) ∧
  (-9223372036854775808 ≤ nn ∧ nn ≤ 9223372036854775807) ∧ KeptOk N W ka kl kc
theorem Acts.below {N : Nat} {w w' : World} {a : Option Addr} {len : Nat} (h : Acts N w a len) (hb : Below N w w') : Acts N w' a len := fun i hi => by
  obtain ⟨b, off, kd, nn, bk, ka, kl, kc, fr, sq, ha, hl, h0, h1, h2, h3, h4, h5, h6, h7⟩ := h i hi
  exact ⟨b, off, kd, nn, bk, ka, kl, kc, fr, sq, ha, hl, (hb.cell (p := ⟨b, off + i * 6, none⟩) hl).trans h0, (hb.cell (p := ⟨b, off + i * 6 + 1, none⟩) hl).trans h1, (hb.cell (p := ⟨b, off + i * 6 + 2, none⟩) hl).trans h2, (hb.cell (p := ⟨b, off + i * 6 + 3, none⟩) hl).trans h3, (hb.cell (p := ⟨b, off + i * 6 + 4, none⟩) hl).trans h4, (hb.cell (p := ⟨b, off + i * 6 + 5, none⟩) hl).trans h5, h6, h7.below hb⟩
/-- Bodies, below block N. -/
def Bods (N : Nat) (W : World) (a : Option Addr) (len : Nat) : Prop := ∀ i, i < len → ∃ (b off : Nat) (ka : Option Addr) (kl kc : Nat), a = some ⟨b, off, none⟩ ∧ b < N ∧ W.cell? ⟨b, off + i, none⟩ = some (.slice ka kl kc) ∧ KeptOk N W ka kl kc
theorem Bods.below {N : Nat} {w w' : World} {a : Option Addr} {len : Nat} (h : Bods N w a len) (hb : Below N w w') : Bods N w' a len := fun i hi => by
  obtain ⟨b, off, ka, kl, kc, ha, hl, h0, h1⟩ := h i hi
  exact ⟨b, off, ka, kl, kc, ha, hl, (hb.cell (p := ⟨b, off + i, none⟩) hl).trans h0, h1.below hb⟩

section
variable {H : Type} {enc : TypeId × Value → H} {W : World}
theorem open_bytes1 {m : Nat} {c : Value} {x : DataW H × List MemPlace} (h : DataW.trod enc Try.prog W 0 (fun _ => true) true m 32 [c] = some x) : ∃ a len cap, c = .slice a len cap ∧ KeptOk W.heap.size W a len cap := by
  rcases open_ints Try.underlying32 Try.underlying5 (by kernel_rfl) h with ⟨hcs, _⟩ | ⟨x, l, c', zs, hcs, _, hl, hm, hz, _, hcell, hwz⟩
  · simp at hcs
    exact ⟨none, 0, 0, hcs, Nat.le_refl _, Nat.zero_le _, fun _ => ⟨[], RowV.nil _ _⟩⟩
  · simp at hcs
    subst hcs
    refine ⟨some x, l, c', rfl, hl, hm, fun hlen => ⟨(zs.take l).map fun z => UInt8.ofNat z.toNat, ⟨some x, l, c', rfl, hl, hm, by simp, by simp at hz ⊢; omega, hlen, fun i hi => ?_⟩⟩⟩
    have hz' : zs.length = c' := by simpa using hz
    obtain ⟨b, off, rfl⟩ := add_zero_none (hcell 0 (by omega))
    have hc := hcell i (by omega)
    rw [Addr.add_mid] at hc
    refine ⟨b, off, rfl, lt_of_cell hc, ?_⟩
    have hi' : i < zs.length := by omega
    have hmem : zs.getD i 0 ∈ zs := by
      rw [List.getD_eq_getElem?_getD, List.getElem?_eq_getElem hi']
      exact List.getElem_mem hi'
    have hb := wf_u8 (hwz _ hmem)
    rw [hc, ← byte_back _ hb.1 hb.2]
    have e : ((zs.take l).map fun z => UInt8.ofNat z.toNat).getD i 0 = UInt8.ofNat (zs.getD i 0).toNat := by
      rw [List.getD_eq_getElem?_getD, List.getElem?_map, List.getElem?_take_of_lt hi, List.getD_eq_getElem?_getD, List.getElem?_eq_getElem hi']
      rfl
    rw [e, byte_back _ hb.1 hb.2]

set_option maxRecDepth 100000 in
theorem open_pair {v : Value} {d : DataW H} {p : List MemPlace} {base : Nat} (hv : Value.okWide Try.prog W .any base 29 v) (h : DataW.Trod enc Try.prog W 0 (fun _ => true) true 29 v d p) :
    ∃ x y : Int, v = .agg #[.int .i64 x, .int .i64 y] ∧ (-9223372036854775808 ≤ x ∧ x ≤ 9223372036854775807) ∧ (-9223372036854775808 ≤ y ∧ y ≤ 9223372036854775807) := by
  obtain ⟨cs, rfl, hsz⟩ := okWide_array Try.underlying29 hv
  rw [cells29] at hsz
  obtain ⟨fuel, hf⟩ := h
  obtain ⟨xs, m, _, _, _, hxl, hel⟩ := DataW.trod_array Try.underlying29 hf
  rw [cells3] at hel
  obtain ⟨l⟩ := cs
  match l, hsz with
  | [c0, c1], _ =>
    have h0 := hel 0 (by decide)
    have h1 := hel 1 (by decide)
    simp [Value.cells] at h0 h1
    obtain ⟨x0, hx0⟩ : ∃ x, xs[0]? = some x := ⟨xs[0]'(by omega), List.getElem?_eq_getElem _⟩
    obtain ⟨x1, hx1⟩ : ∃ x, xs[1]? = some x := ⟨xs[1]'(by omega), List.getElem?_eq_getElem _⟩
    rw [hx0] at h0
    rw [hx1] at h1
    obtain ⟨z0, f0, _, w0⟩ := DataW.trod_int Try.underlying3 h0
    obtain ⟨z1, f1, _, w1⟩ := DataW.trod_int Try.underlying3 h1
    simp at f0 f1
    subst f0 f1
    exact ⟨z0, z1, rfl, wf_i64 w0, wf_i64 w1⟩

set_option maxRecDepth 100000 in
theorem open_acts1 {m : Nat} {c : Value} {x : DataW H × List MemPlace} (h : DataW.trod enc Try.prog W 0 (fun _ => true) true m 34 [c] = some x) : ∃ a len cap, c = .slice a len cap ∧ len ≤ maxLen ∧ Acts W.heap.size W a len := by
  rcases Deep.open_slice Try.underlying34 h with ⟨hcs, _⟩ | ⟨a, len, cap, mm, n, D, Pl, hcs, hb, hl, hm, hmm, _, hx⟩
  · simp at hcs
    exact ⟨none, 0, 0, hcs, Nat.zero_le _, fun i hi => by omega⟩
  · simp at hcs
    subst hcs
    have hmc : mm = cap := by simpa using hmm
    subst hmc
    have ce : Try.prog.cellsOf 39 = 6 := by kernel_rfl
    refine ⟨some a, len, mm, rfl, by omega, fun i hi => ?_⟩
    have each : ∀ i, i < mm → ∃ v0 v1 v2 v3 v4 v5, W.cell? (a.add (i * 6)) = some v0 ∧ W.cell? (a.add (i * 6 + 1)) = some v1 ∧ W.cell? (a.add (i * 6 + 2)) = some v2 ∧ W.cell? (a.add (i * 6 + 3)) = some v3 ∧ W.cell? (a.add (i * 6 + 4)) = some v4 ∧ W.cell? (a.add (i * 6 + 5)) = some v5 ∧
        (∃ y k, DataW.trod enc Try.prog W 0 (fun _ => true) true k 3 [v0] = some y) ∧ (∃ y k, DataW.trod enc Try.prog W 0 (fun _ => true) true k 3 [v1] = some y) ∧ (∃ y k, DataW.trod enc Try.prog W 0 (fun _ => true) true k 3 [v2] = some y) ∧ (∃ y k, DataW.trod enc Try.prog W 0 (fun _ => true) true k 32 [v3] = some y) ∧ (∃ y k, DataW.trod enc Try.prog W 0 (fun _ => true) true k 5 [v4] = some y) ∧ (∃ y k, DataW.trod enc Try.prog W 0 (fun _ => true) true k 37 [v5] = some y) := by
      intro i hi
      obtain ⟨cs', h1, h2⟩ := hx i hi
      rw [ce] at h1
      obtain ⟨_, hlen, hcell⟩ := World.cells?_some h1
      obtain ⟨xs, k, hk, hxy, _, hxl, hf⟩ := DataW.trod_struct Try.underlying39 h2
      match xs, hxl, cs', hlen with
      | [y0, y1, y2, y3, y4, y5], _, [v0, v1, v2, v3, v4, v5], _ =>
        have g0 : DataW.trod enc Try.prog W 0 (fun _ => true) true k 3 (List.take (Try.prog.cellsOf 3) (List.drop 0 [v0, v1, v2, v3, v4, v5])) = some y0 := hf 0 _ rfl
        have g1 : DataW.trod enc Try.prog W 0 (fun _ => true) true k 3 (List.take (Try.prog.cellsOf 3) (List.drop 1 [v0, v1, v2, v3, v4, v5])) = some y1 := hf 1 _ rfl
        have g2 : DataW.trod enc Try.prog W 0 (fun _ => true) true k 3 (List.take (Try.prog.cellsOf 3) (List.drop 2 [v0, v1, v2, v3, v4, v5])) = some y2 := hf 2 _ rfl
        have g3 : DataW.trod enc Try.prog W 0 (fun _ => true) true k 32 (List.take (Try.prog.cellsOf 32) (List.drop 3 [v0, v1, v2, v3, v4, v5])) = some y3 := hf 3 _ rfl
        have g4 : DataW.trod enc Try.prog W 0 (fun _ => true) true k 5 (List.take (Try.prog.cellsOf 5) (List.drop 4 [v0, v1, v2, v3, v4, v5])) = some y4 := hf 4 _ rfl
        have g5 : DataW.trod enc Try.prog W 0 (fun _ => true) true k 37 (List.take (Try.prog.cellsOf 37) (List.drop 5 [v0, v1, v2, v3, v4, v5])) = some y5 := hf 5 _ rfl
        rw [show Try.prog.cellsOf 3 = 1 by kernel_rfl] at g0 g1 g2
        rw [show Try.prog.cellsOf 32 = 1 by kernel_rfl] at g3
        rw [show Try.prog.cellsOf 5 = 1 by kernel_rfl] at g4
        rw [show Try.prog.cellsOf 37 = 1 by kernel_rfl] at g5
        simp at g0 g1 g2 g3 g4 g5
        have e0 := hcell 0 (by omega)
        have e1 := hcell 1 (by omega)
        have e2 := hcell 2 (by omega)
        have e3 := hcell 3 (by omega)
        have e4 := hcell 4 (by omega)
        have e5 := hcell 5 (by omega)
        rw [Deep.add_add] at e0 e1 e2 e3 e4 e5
        exact ⟨v0, v1, v2, v3, v4, v5, by simpa using e0, by simpa using e1, by simpa using e2, by simpa using e3, by simpa using e4, by simpa using e5, ⟨_, _, g0⟩, ⟨_, _, g1⟩, ⟨_, _, g2⟩, ⟨_, _, g3⟩, ⟨_, _, g4⟩, ⟨_, _, g5⟩⟩
    obtain ⟨v0, v1, v2, v3, v4, v5, c0, c1, c2, c3, c4, c5, ⟨y0, k0, t0⟩, ⟨y1, k1, t1⟩, ⟨y2, k2, t2⟩, ⟨y3, k3, t3⟩, ⟨y4, k4, t4⟩, ⟨y5, k5, t5⟩⟩ := each i (by omega)
    obtain ⟨u0, _, _, _, _, _, d0, _⟩ := each 0 (by omega)
    obtain ⟨b, off, rfl⟩ := add_zero_none (by simpa using d0)
    rw [Addr.add_mid] at c0 c1 c2 c3 c4 c5
    obtain ⟨z0, f0, _, _⟩ := DataW.trod_int Try.underlying3 t0
    obtain ⟨z1, f1, _, w1⟩ := DataW.trod_int Try.underlying3 t1
    obtain ⟨z2, f2, _, _⟩ := DataW.trod_int Try.underlying3 t2
    obtain ⟨ka, kl, kc, f3, hk⟩ := open_bytes1 t3
    obtain ⟨z4, f4, _, _⟩ := DataW.trod_int Try.underlying5 t4
    obtain ⟨z5, f5, _, _⟩ := DataW.trod_int Try.underlying37 t5
    simp at f0 f1 f2 f4 f5
    subst f0 f1 f2 f3 f4 f5
    exact ⟨b, off, z0, z1, z2, ka, kl, kc, z4, z5, rfl, lt_of_cell c0, c0, by rw [Nat.add_assoc]; exact c1, by rw [Nat.add_assoc]; exact c2, by rw [Nat.add_assoc]; exact c3, by rw [Nat.add_assoc]; exact c4, by rw [Nat.add_assoc]; exact c5, wf_i64 w1, hk⟩
set_option maxRecDepth 100000 in
theorem open_acts {v : Value} {d : DataW H} {p : List MemPlace} {base : Nat} (hv : Value.okWide Try.prog W .any base 34 v) (h : DataW.Trod enc Try.prog W 0 (fun _ => true) true 34 v d p) :
    ∃ a len cap, v = .slice a len cap ∧ len ≤ maxLen ∧ Acts W.heap.size W a len := by
  obtain ⟨a, len, cap, rfl⟩ := okWide_slice Try.underlying34 hv
  obtain ⟨fuel, hf⟩ := h
  exact open_acts1 hf
set_option maxRecDepth 100000 in
theorem open_bods {v : Value} {d : DataW H} {p : List MemPlace} {base : Nat} (hv : Value.okWide Try.prog W .any base 24 v) (h : DataW.Trod enc Try.prog W 0 (fun _ => true) true 24 v d p) :
    ∃ a len cap, v = .slice a len cap ∧ len ≤ maxLen ∧ Bods W.heap.size W a len := by
  obtain ⟨a, len, cap, rfl⟩ := okWide_slice Try.underlying24 hv
  obtain ⟨fuel, hf⟩ := h
  rcases Deep.open_slice Try.underlying24 hf with ⟨hcs, _⟩ | ⟨a', len', cap', mm, n, D, Pl, hcs, hb, hl, hm, hmm, _, hx⟩
  · simp [Value.cells] at hcs
    obtain ⟨rfl, rfl, rfl⟩ := hcs
    exact ⟨none, 0, 0, rfl, Nat.zero_le _, fun i hi => by omega⟩
  · simp [Value.cells] at hcs
    obtain ⟨rfl, rfl, rfl⟩ := hcs
    have hmc : mm = cap := by simpa using hmm
    subst hmc
    have ce : Try.prog.cellsOf 32 = 1 := by kernel_rfl
    have each : ∀ i, i < mm → ∃ v0, W.cell? (a'.add i) = some v0 ∧ ∃ y k, DataW.trod enc Try.prog W 0 (fun _ => true) true k 32 [v0] = some y := by
      intro i hi
      obtain ⟨cs', h1, h2⟩ := hx i hi
      rw [ce] at h1
      obtain ⟨_, hlen, hcell⟩ := World.cells?_some h1
      match cs', hlen with
      | [v0], _ =>
        have e0 := hcell 0 (by omega)
        rw [Deep.add_add] at e0
        exact ⟨v0, by simpa using e0, _, _, h2⟩
    refine ⟨some a', len, mm, rfl, by omega, fun i hi => ?_⟩
    obtain ⟨v0, c0, y0, k0, t0⟩ := each i (by omega)
    obtain ⟨u0, d0, _⟩ := each 0 (by omega)
    obtain ⟨b, off, rfl⟩ := add_zero_none (by simpa using d0)
    rw [Addr.add_mid] at c0
    obtain ⟨ka, kl, kc, rfl, hk⟩ := open_bytes1 t0
    exact ⟨b, off, ka, kl, kc, rfl, lt_of_cell c0, c0, hk⟩
end
end Go.Proofs.Ytjebejdcjfnleaa
