/-
  Two hashes held against each other; how slices of slices come.
-/
import Derived.Test.YtnfgakbfnmmhcaaDoorText
import Derived.DeepKeys
namespace Go.Proofs.YtnfgakbfnmmhcaaDoor
open Go.RowKit

theorem run_part5 (x : List (BitVec 8)) (i : Nat) (hi : i < x.length) (w : World) : (part 5 (bytesV x).toArray i).run Tryd.prog w = .ok (.int .u8 (((x.getD i 0).toNat : Nat) : Int)) w := by
  have hv := bytesV_get x hi
  simp [part, hv]

theorem run_eqItems_bytes (x y : List (BitVec 8)) (dd : Nat) (w : World) : ∀ is : List Nat, (∀ i ∈ is, i < x.length ∧ i < y.length) →
    (Op.eqItems (dd + 1) 5 1 (bytesV x).toArray (bytesV y).toArray is).run Tryd.prog w = .ok (is.all fun i => x.getD i 0 == y.getD i 0) w
  | [], _ => by simp [Op.eqItems]
  | i :: is, h => by
    have h1 := h i (by simp)
    have ih := run_eqItems_bytes x y dd w is (fun j hj => h j (by simp [hj]))
    have hb : ((((x.getD i 0).toNat : Nat) : Int) == (((y.getD i 0).toNat : Nat) : Int)) = (x.getD i 0 == y.getD i 0) := by
      rw [Bool.eq_iff_iff, beq_iff_eq, beq_iff_eq]
      constructor
      · intro e; exact BitVec.eq_of_toNat_eq (by omega)
      · intro e; rw [e]
    simp only [Op.eqItems, Sem.run_bind, Nat.mul_one, run_part5 x i h1.1, run_part5 y i h1.2, Result.andThen_ok, run_equalIn_int w dd 5 .u8 .u8 _ _ Tryd.underlying5, hb, List.all_cons]
    cases x.getD i 0 == y.getD i 0
    · simp
    · simpa using ih

theorem all_getD (x y : List (BitVec 8)) (hx : x.length = 32) (hy : y.length = 32) : ((List.range 32).all fun i => x.getD i 0 == y.getD i 0) = (x == y) := by
  rw [Bool.eq_iff_iff, List.all_eq_true, beq_iff_eq]
  constructor
  · intro h
    apply List.ext_getElem (by omega)
    intro i h1 h2
    have := h i (by simp; omega)
    rw [beq_iff_eq, List.getD_eq_getElem?_getD, List.getD_eq_getElem?_getD, List.getElem?_eq_getElem h1, List.getElem?_eq_getElem h2] at this
    exact this
  · intro e i _
    rw [e]; simp

theorem run_equal25 (x y : List (BitVec 8)) (hx : x.length = 32) (hy : y.length = 32) (w : World) : (Op.equalIn 10000 25 (.agg (bytesV x).toArray) (.agg (bytesV y).toArray)).run Tryd.prog w = .ok (x == y) w := by
  obtain ⟨i, hi, _, hsz, _⟩ := info5
  rw [← all_getD x y hx hy]
  have h := run_eqItems_bytes x y 9998 w (List.range 32) (fun i hi => by simp at hi; omega)
  rw [run_equalIn_array w 9999 _ _ Tryd.underlying25 hi, show Tryd.prog.cellsOf 5 = 1 by kernel_rfl]
  exact h

theorem run_same25 (H : List Value) (x : List (BitVec 8)) (hH : H = bytesV x) (hx : x.length = 32) (w : World) : (Op.equalIn 10000 25 (.agg H.toArray) (.agg H.toArray)).run Tryd.prog w = .ok true w := by
  subst hH
  rw [run_equal25 x x hx hx]
  simp

/-- A slice of bytes, with the bytes that it shows. -/
structure Sl where
  a : Option Addr
  len : Nat
  cap : Nat
  bs : List (BitVec 8)

/-- They lie there. -/
def Sl.Ok (w : World) (s : Sl) : Prop := Row w s.a s.len s.bs ∧ s.len ≤ s.cap

theorem Sl.Ok.below {w w' : World} {s : Sl} (h : s.Ok w) (hb : Below w.heap.size w w') : s.Ok w' := ⟨h.1.below hb, h.2⟩
theorem Sl.Ok.alloc {w : World} {s : Sl} (h : s.Ok w) (o : Obj) : s.Ok (w.alloc o) := ⟨h.1.alloc o, h.2⟩

/-- digest.Sum of a row of slices that was just made. -/
theorem sum_fresh (W : World) (ss : List Sl) (m : List (BitVec 8)) (C : Array Value) (n : Nat) (hm : (ss.map (·.bs)).flatten = m) (hn : ss.length = n) (hC : C = (ss.map fun s => Value.slice s.a s.len s.cap).toArray) (hT : Tabs W) (h : ∀ s ∈ ss, s.Ok W)
    (hl : m.length < 1152921504606840000) (hn2 : n ≤ 1000) :
    Calls Tryd.prog 10 #[.slice (some ⟨W.heap.size, 0, none⟩) n n] (W.alloc (.cells C 22)) fun e w' => e = .returned (.agg (bytesV (Sha.sum m)).toArray) ∧ Below W.heap.size W w' := by
  subst hn hC hm
  have hb : Below W.heap.size W (W.alloc (.cells (ss.map fun s => Value.slice s.a s.len s.cap).toArray 22)) := (Below.refl _ _).alloc (Nat.le_refl _) _
  have hcell : ∀ i (hi : i < ss.length), (W.alloc (.cells (ss.map fun s => Value.slice s.a s.len s.cap).toArray 22)).cell? ⟨W.heap.size, 0 + i, none⟩ = some (.slice ss[i].a ss[i].len ss[i].cap) := fun i hi => by
    rw [Nat.zero_add, cell_new]
    simp [hi]
  have hp : Parts (W.alloc (.cells (ss.map fun s => Value.slice s.a s.len s.cap).toArray 22)) (some ⟨W.heap.size, 0, none⟩) ss.length (ss.map (·.bs)) := by
    refine ⟨by simp, by omega, fun i hi => ⟨_, 0, _, _, _, rfl, hcell i hi, ?_⟩⟩
    have e : (ss.map (·.bs)).getD i [] = ss[i].bs := by
      rw [List.getD_eq_getElem?_getD, List.getElem?_map, List.getElem?_eq_getElem hi]; rfl
    rw [e]
    exact ((h _ (List.getElem_mem hi)).1).alloc _
  have hf : Fits (W.alloc (.cells (ss.map fun s => Value.slice s.a s.len s.cap).toArray 22)) (some ⟨W.heap.size, 0, none⟩) ss.length := by
    intro i hi b off ai li ci hb hc
    cases hb
    rw [hcell i hi] at hc
    cases hc
    exact (h _ (List.getElem_mem hi)).2
  refine (sum_any _ _ _ _ _ (hT.below hb hT.size) hp hf hl).mono ?_
  rintro e w' ⟨rfl, hb'⟩
  exact ⟨rfl, hb.trans (hb'.mono hb.size)⟩

end Go.Proofs.YtnfgakbfnmmhcaaDoor
