/-
  Memory but for some blocks; what stands while other things turn. Plain facts over any program.
-/
import Derived.Test.YtkcchadecnkgnaaBlank
namespace Go.Proofs.Ytkcchadecnkgnaa
open Go.RowKit

theorem nodupF {a b c d : Nat} {l : List Nat} (h : (a :: b :: c :: d :: l).Nodup) :
    a ≠ b ∧ a ≠ c ∧ a ≠ d ∧ b ≠ c ∧ b ≠ d ∧ c ≠ d ∧ (∀ k ∈ l, a ≠ k) ∧ (∀ k ∈ l, b ≠ k) ∧ (∀ k ∈ l, c ≠ k) ∧ (∀ k ∈ l, d ≠ k) ∧ l.Nodup := by
  simp only [List.nodup_cons, List.mem_cons, not_or] at h
  obtain ⟨⟨h1, h2, h3, h4⟩, ⟨h5, h6, h7⟩, ⟨h8, h9⟩, h10, h11⟩ := h
  exact ⟨h1, h2, h3, h5, h6, h8, fun k hk e => h4 (e ▸ hk), fun k hk e => h7 (e ▸ hk), fun k hk e => h9 (e ▸ hk), fun k hk e => h10 (e ▸ hk), h11⟩

/-- Memory but for these blocks is as it was; it may have grown. -/
structure But (F : List Nat) (w w' : World) : Prop where
  os : w'.os = w.os
  tape : w'.tape = w.tape
  output : w'.output = w.output
  size : w.heap.size ≤ w'.heap.size
  block : ∀ k, k < w.heap.size → k ∉ F → w'.heap[k]? = w.heap[k]?
theorem But.refl (F : List Nat) (w : World) : But F w w := ⟨rfl, rfl, rfl, Nat.le_refl _, fun _ _ _ => rfl⟩
theorem But.of_below {F : List Nat} {w w' : World} (h : Below w.heap.size w w') : But F w w' := ⟨h.os, h.tape, h.output, h.size, fun k hk _ => h.block k hk⟩
theorem But.of_grown {F : List Nat} {w w' : World} {b : Nat} (h : w.grownBy w' (some b)) (hb : b ∈ F) : But F w w' :=
  ⟨h.os, h.tape, h.output, h.size, fun k hk hn => h.block k hk (fun e => hn (by cases e; exact hb))⟩
theorem But.trans {F G : List Nat} {w w1 w2 : World} (h : But F w w1) (g : But G w1 w2) (hg : ∀ k ∈ G, k ∈ F ∨ w.heap.size ≤ k) : But F w w2 :=
  ⟨g.os.trans h.os, g.tape.trans h.tape, g.output.trans h.output, Nat.le_trans h.size g.size, fun k hk hn => by
    rw [g.block k (Nat.lt_of_lt_of_le hk h.size) (fun e => by rcases hg k e with e1 | e1; exact hn e1; omega), h.block k hk hn]⟩
theorem But.below {F : List Nat} {N : Nat} {w w' : World} (h : But F w w') (hF : ∀ k ∈ F, N ≤ k) (hN : N ≤ w.heap.size) : Below N w w' :=
  ⟨h.os, h.tape, h.output, h.size, fun k hk => h.block k (by omega) (fun e => by have := hF k e; omega)⟩
/-- What turns F, and has F' behind it. -/
def Turns (F F' : List Nat) (w w' : World) : Prop := But F w w' ∧ ∀ k ∈ F', k ∈ F ∨ w.heap.size ≤ k
theorem Turns.refl (F : List Nat) (w : World) : Turns F F w w := ⟨But.refl _ _, fun _ h => .inl h⟩
theorem Turns.trans {F F1 F2 : List Nat} {w w1 w2 : World} (h : Turns F F1 w w1) (g : Turns F1 F2 w1 w2) : Turns F F2 w w2 :=
  ⟨h.1.trans g.1 h.2, fun k hk => by
    rcases g.2 k hk with e | e
    · exact h.2 k e
    · exact .inr (Nat.le_trans h.1.size e)⟩
theorem Turns.of_below {F : List Nat} {w w' : World} (h : Below w.heap.size w w') : Turns F F w w' := ⟨But.of_below h, fun _ h => .inl h⟩
theorem Turns.after {F F' : List Nat} {w w1 w2 : World} (h : Below w.heap.size w w1) (g : Turns F F' w1 w2) : Turns F F' w w2 := (Turns.of_below h).trans g
theorem Turns.then {F F' : List Nat} {w w1 w2 : World} (h : Turns F F' w w1) (g : Below w1.heap.size w1 w2) : Turns F F' w w2 := h.trans (Turns.of_below g)
theorem Turns.apart {F F' G : List Nat} {w w' : World} (h : Turns F F' w w') (hd : ∀ k ∈ G, k ∉ F) (hG : ∀ k ∈ G, k < w.heap.size) : ∀ k ∈ G, k ∉ F' := fun k hk e => by
  rcases h.2 k e with e | e
  · exact hd k hk e
  · have := hG k hk; omega

theorem Arr.same {w w' : World} {b : Nat} {cs : List Value} (h : Arr w b cs) (hb : w'.heap[b]? = w.heap[b]?) : Arr w' b cs := by
  obtain ⟨C, e, hh, hc⟩ := h
  exact ⟨C, e, by rw [hb]; exact hh, hc⟩
theorem owns_same {w w' : World} {B e n m : Nat} {v : Value} {xs : List Value} (h : w.ownsRow B e m v n xs) (hb : ∀ k ∈ v.ownBlock.toList, w'.heap[k]? = w.heap[k]?) : w'.ownsRow B e m v n xs := by
  refine ⟨h.1, ?_⟩
  rcases h.2 with hn | ⟨g, cap, cur, rfl, h1, hgg, rest⟩
  · exact .inl hn
  · exact .inr ⟨g, cap, cur, rfl, h1, by rw [hb g (by simp [Value.ownBlock])]; exact hgg, rest⟩
theorem set_grown (w : World) (r i : Nat) (v : Value) : w.grownBy (w.setCell ⟨r, i, none⟩ v) (some r) :=
  ⟨rfl, rfl, rfl, by simp [World.setCell], fun k _ hne => Below.heap_setCell _ _ _ _ (fun e => hne (by rw [e]))⟩
theorem set_size (w : World) (a : Addr) (v : Value) : (w.setCell a v).heap.size = w.heap.size := by simp [World.setCell]
theorem owns_slice {w : World} {B e n m : Nat} {v : Value} {xs : List Value} (h : w.ownsRow B e m v n xs) : ∃ a cap, v = .slice a n cap ∧ n ≤ cap ∧ cap ≤ maxLen := by
  rcases h.2 with ⟨rfl, rfl⟩ | ⟨g, cap, cur, rfl, _, _, h1, h2, _⟩
  · exact ⟨none, 0, rfl, Nat.le_refl _, Nat.zero_le _⟩
  · exact ⟨_, cap, rfl, h1, h2⟩
end Go.Proofs.Ytkcchadecnkgnaa
