/-
  The program's device in memory: what it is made of, what stands while other things turn; the calls that only ask it.
-/
import Derived.Test.YtdfdalkcljfghaaGreatBlank
namespace Go.Proofs.YtdfdalkcljfghaaGreat
open Go.RowKit

theorem nodupF {a b c d : Nat} {l : List Nat} (h : (a :: b :: c :: d :: l).Nodup) :
    a ≠ b ∧ a ≠ c ∧ a ≠ d ∧ b ≠ c ∧ b ≠ d ∧ c ≠ d ∧ (∀ k ∈ l, a ≠ k) ∧ (∀ k ∈ l, b ≠ k) ∧ (∀ k ∈ l, c ≠ k) ∧ (∀ k ∈ l, d ≠ k) ∧ l.Nodup := by
  simp only [List.nodup_cons, List.mem_cons, not_or] at h
  obtain ⟨⟨h1, h2, h3, h4⟩, ⟨h5, h6, h7⟩, ⟨h8, h9⟩, h10, h11⟩ := h
  exact ⟨h1, h2, h3, h5, h6, h8, fun k hk e => h4 (e ▸ hk), fun k hk e => h7 (e ▸ hk), fun k hk e => h9 (e ▸ hk), fun k hk e => h10 (e ▸ hk), h11⟩

/-- Memory but for these blocks is as it was; it may have grown. -/
structure But (F : List Nat) (w w' : World) : Prop where
  os : w'.os = w.os
  tape : w'.tape = w.tape
  output : w'.output = w.output
  size : w.heap.size ≤ w'.heap.size
  block : ∀ k, k < w.heap.size → k ∉ F → w'.heap[k]? = w.heap[k]?
theorem But.refl (F : List Nat) (w : World) : But F w w := ⟨rfl, rfl, rfl, Nat.le_refl _, fun _ _ _ => rfl⟩
theorem But.of_below {F : List Nat} {w w' : World} (h : Below w.heap.size w w') : But F w w' := ⟨h.os, h.tape, h.output, h.size, fun k hk _ => h.block k hk⟩
theorem But.of_grown {F : List Nat} {w w' : World} {b : Nat} (h : w.grownBy w' (some b)) (hb : b ∈ F) : But F w w' :=
  ⟨h.os, h.tape, h.output, h.size, fun k hk hn => h.block k hk (fun e => hn (by cases e; exact hb))⟩
theorem But.trans {F G : List Nat} {w w1 w2 : World} (h : But F w w1) (g : But G w1 w2) (hg : ∀ k ∈ G, k ∈ F ∨ w.heap.size ≤ k) : But F w w2 :=
  ⟨g.os.trans h.os, g.tape.trans h.tape, g.output.trans h.output, Nat.le_trans h.size g.size, fun k hk hn => by
    rw [g.block k (Nat.lt_of_lt_of_le hk h.size) (fun e => by rcases hg k e with e1 | e1; exact hn e1; omega), h.block k hk hn]⟩
theorem But.below {F : List Nat} {N : Nat} {w w' : World} (h : But F w w') (hF : ∀ k ∈ F, N ≤ k) (hN : N ≤ w.heap.size) : Below N w w' :=
  ⟨h.os, h.tape, h.output, h.size, fun k hk => h.block k (by omega) (fun e => by have := hF k e; omega)⟩
/-- What turns F, and has F' behind it. -/
def Turns (F F' : List Nat) (w w' : World) : Prop := But F w w' ∧ ∀ k ∈ F', k ∈ F ∨ w.heap.size ≤ k
theorem Turns.refl (F : List Nat) (w : World) : Turns F F w w := ⟨But.refl _ _, fun _ h => .inl h⟩
theorem Turns.trans {F F1 F2 : List Nat} {w w1 w2 : World} (h : Turns F F1 w w1) (g : Turns F1 F2 w1 w2) : Turns F F2 w w2 :=
  ⟨h.1.trans g.1 h.2, fun k hk => by
    rcases g.2 k hk with e | e
    · exact h.2 k e
    · exact .inr (Nat.le_trans h.1.size e)⟩
theorem Turns.of_below {F : List Nat} {w w' : World} (h : Below w.heap.size w w') : Turns F F w w' := ⟨But.of_below h, fun _ h => .inl h⟩
theorem Turns.after {F F' : List Nat} {w w1 w2 : World} (h : Below w.heap.size w w1) (g : Turns F F' w1 w2) : Turns F F' w w2 := (Turns.of_below h).trans g
theorem Turns.then {F F' : List Nat} {w w1 w2 : World} (h : Turns F F' w w1) (g : Below w1.heap.size w1 w2) : Turns F F' w w2 := h.trans (Turns.of_below g)
theorem Turns.apart {F F' G : List Nat} {w w' : World} (h : Turns F F' w w') (hd : ∀ k ∈ G, k ∉ F) (hG : ∀ k ∈ G, k < w.heap.size) : ∀ k ∈ G, k ∉ F' := fun k hk e => by
  rcases h.2 k e with e | e
  · exact hd k hk e
  · have := hG k hk; omega

theorem Arr.same {w w' : World} {b : Nat} {cs : List Value} (h : Arr w b cs) (hb : w'.heap[b]? = w.heap[b]?) : Arr w' b cs := by
  obtain ⟨C, e, hh, hc⟩ := h
  exact ⟨C, e, by rw [hb]; exact hh, hc⟩
theorem owns_same {w w' : World} {B e n m : Nat} {v : Value} {xs : List Value} (h : w.ownsRow B e m v n xs) (hb : ∀ k ∈ v.ownBlock.toList, w'.heap[k]? = w.heap[k]?) : w'.ownsRow B e m v n xs := by
  refine ⟨h.1, ?_⟩
  rcases h.2 with hn | ⟨g, cap, cur, rfl, h1, hgg, rest⟩
  · exact .inl hn
  · exact .inr ⟨g, cap, cur, rfl, h1, by rw [hb g (by simp [Value.ownBlock])]; exact hgg, rest⟩
theorem set_grown (w : World) (r i : Nat) (v : Value) : w.grownBy (w.setCell ⟨r, i, none⟩ v) (some r) :=
  ⟨rfl, rfl, rfl, by simp [World.setCell], fun k _ hne => Below.heap_setCell _ _ _ _ (fun e => hne (by rw [e]))⟩
theorem set_size (w : World) (a : Addr) (v : Value) : (w.setCell a v).heap.size = w.heap.size := by simp [World.setCell]

def devV (bk bn bw : Nat) (wv : Value) (d : DM) : List Value :=
  [.slice (some ⟨bk, 0, none⟩) d.kept.length d.kept.length, .slice (some ⟨bn, 0, none⟩) d.kept.length d.kept.length, wv, .slice (some ⟨bw, 0, none⟩) d.kept.length d.kept.length, .int .i64 (d.most : Int), .int .i64 d.budget, .bool d.down]
def devF (p bk bn bw : Nat) (wv : Value) : List Nat := p :: bk :: bn :: bw :: wv.ownBlock.toList

/-- A device, block by block. -/
structure DevB (bk bn bw : Nat) (wv : Value) (w : World) (p : Nat) (d : DM) : Prop where
  ok : d.Ok
  nodup : (devF p bk bn bw wv).Nodup
  dev : Arr w p (devV bk bn bw wv d)
  kept : Arr w bk (secsV d.kept)
  now : Arr w bn (secsV d.now)
  wear : Arr w bw (intsV d.wear)
  wait : w.ownsRow 0 151 65 wv d.wait.length (donesV d.wait)
def Dev (F : List Nat) (w : World) (p : Nat) (d : DM) : Prop := ∃ bk bn bw wv, F = devF p bk bn bw wv ∧ DevB bk bn bw wv w p d

theorem DevB.same {bk bn bw : Nat} {wv : Value} {w w' : World} {p : Nat} {d : DM} (h : DevB bk bn bw wv w p d) (hb : ∀ k ∈ devF p bk bn bw wv, w'.heap[k]? = w.heap[k]?) : DevB bk bn bw wv w' p d :=
  { h with
    dev := h.dev.same (hb _ (by simp [devF])), kept := h.kept.same (hb _ (by simp [devF])), now := h.now.same (hb _ (by simp [devF])), wear := h.wear.same (hb _ (by simp [devF])),
    wait := owns_same h.wait (fun k hk => hb k (by simp only [devF, List.mem_cons]; exact .inr (.inr (.inr (.inr hk))))) }
theorem DevB.lt {bk bn bw : Nat} {wv : Value} {w : World} {p : Nat} {d : DM} (h : DevB bk bn bw wv w p d) : ∀ k ∈ devF p bk bn bw wv, k < w.heap.size := by
  intro k hk
  simp only [devF, List.mem_cons] at hk
  rcases hk with rfl | rfl | rfl | rfl | hk
  · exact h.dev.lt
  · exact h.kept.lt
  · exact h.now.lt
  · exact h.wear.lt
  · exact (h.wait.lt k (by simpa using hk)).2
theorem Dev.same {F : List Nat} {w w' : World} {p : Nat} {d : DM} (h : Dev F w p d) (hb : ∀ k ∈ F, w'.heap[k]? = w.heap[k]?) : Dev F w' p d := by
  obtain ⟨bk, bn, bw, wv, rfl, h⟩ := h
  exact ⟨bk, bn, bw, wv, rfl, h.same hb⟩
theorem Dev.lt {F : List Nat} {w : World} {p : Nat} {d : DM} (h : Dev F w p d) : ∀ k ∈ F, k < w.heap.size := by
  obtain ⟨bk, bn, bw, wv, rfl, h⟩ := h
  exact h.lt
theorem Dev.ok {F : List Nat} {w : World} {p : Nat} {d : DM} (h : Dev F w p d) : d.Ok := by
  obtain ⟨bk, bn, bw, wv, rfl, h⟩ := h
  exact h.ok
theorem Dev.below {F : List Nat} {w w' : World} {p : Nat} {d : DM} (h : Dev F w p d) (hb : Below w.heap.size w w') : Dev F w' p d := h.same fun k hk => hb.block k (h.lt k hk)
theorem Dev.but {F G : List Nat} {w w' : World} {p : Nat} {d : DM} (h : Dev F w p d) (hb : But G w w') (hd : ∀ k ∈ F, k ∉ G) : Dev F w' p d := h.same fun k hk => hb.block k (h.lt k hk) (hd k hk)
theorem Dev.mem {F : List Nat} {w : World} {p : Nat} {d : DM} (h : Dev F w p d) : p ∈ F := by
  obtain ⟨bk, bn, bw, wv, rfl, h⟩ := h
  simp [devF]

/-- One field of the device is set. -/
theorem DevB.field {bk bn bw : Nat} {wv : Value} {w : World} {p : Nat} {d d' : DM} (h : DevB bk bn bw wv w p d) (i : Nat) (v : Value) (hv : (devV bk bn bw wv d).set i v = devV bk bn bw wv d')
    (e1 : d'.kept = d.kept) (e2 : d'.now = d.now) (e3 : d'.wear = d.wear) (e4 : d'.wait = d.wait) (ok : d'.Ok) : DevB bk bn bw wv (w.setCell ⟨p, i, none⟩ v) p d' := by
  obtain ⟨n1, n2, n3, n4, n5, n6, n7, n8, n9, n10, _⟩ := nodupF h.nodup
  refine { ok := ok, nodup := h.nodup, dev := by rw [← hv]; exact h.dev.set i v, kept := by rw [e1]; exact h.kept.other _ _ n1.symm, now := by rw [e2]; exact h.now.other _ _ n2.symm, wear := by rw [e3]; exact h.wear.other _ _ n3.symm, wait := by rw [e4]; exact owns_same h.wait fun k hk => Below.heap_setCell _ _ _ _ (n7 k hk).symm }

section
variable {F : List Nat} {w : World} {p : Nat} {d : DM}

set_option maxHeartbeats 800000 in
set_option maxRecDepth 100000 in
theorem has_walk (h : Dev F w p d) (i : Int) : Calls Tryz.prog 136 #[.pointer (some ⟨p, 0, none⟩), .int .i64 i] w fun e w' => e = .returned (.bool (hasD d.kept.length i)) ∧ w' = w := by
  obtain ⟨bk, bn, bw, wv, rfl, h⟩ := h
  have hc1 := h.dev.cell (i := 1) rfl
  by_cases h0 : 0 ≤ i
  · have E : Hid (hasD d.kept.length i = decide (i < (d.kept.length : Int))) := hide (by simp [hasD, h0])
    clear h
    generalize d.kept.length = n at *
    go_enter Tryz.func136, Tryz.ntmps136
    go_wp2
    go_ret
    exact ⟨by rw [unhide E]; rfl, rfl⟩
  · have E : Hid (hasD d.kept.length i = false) := hide (by simp [hasD, h0])
    clear h hc1
    generalize d.kept.length = n at *
    go_enter Tryz.func136, Tryz.ntmps136
    go_wp2
    go_ret
    exact ⟨by rw [unhide E]; rfl, rfl⟩

set_option maxHeartbeats 800000 in
set_option maxRecDepth 100000 in
theorem open_walk (h : Dev F w p d) (i : Int) : Calls Tryz.prog 161 #[.pointer (some ⟨p, 0, none⟩), .int .i64 i] w fun e w' => e = .returned (.int .i64 (openD d i)) ∧ w' = w := by
  have HH := hide (has_walk h i)
  obtain ⟨bk, bn, bw, wv, rfl, h⟩ := h
  have hc6 := h.dev.cell (i := 6) rfl
  clear h
  unfold openD
  generalize hasD d.kept.length i = b at *
  generalize d.down = dn at *
  cases b <;> cases dn <;>
  · simp only [if_true, if_false, Bool.true_eq_false, Bool.false_eq_true]
    go_enter Tryz.func161, Tryz.ntmps161
    go_wp2_with fail
    refine (unhide HH).mono ?_
    rintro e w1 ⟨rfl, hw1⟩
    subst w1
    clear HH
    go_wp2
    go_ret
    exact ⟨rfl, rfl⟩

set_option maxHeartbeats 800000 in
set_option maxRecDepth 100000 in
theorem size_walk (h : Dev F w p d) : Calls Tryz.prog 84 #[.pointer (some ⟨p, 0, none⟩)] w fun e w' => e = .returned (.int .i64 (d.kept.length : Int)) ∧ w' = w := by
  obtain ⟨bk, bn, bw, wv, rfl, h⟩ := h
  have hc1 := h.dev.cell (i := 1) rfl
  clear h
  go_enter Tryz.func84, Tryz.ntmps84
  go_wp2
  go_ret
  exact ⟨rfl, rfl⟩
theorem owns_slice {w : World} {B e n m : Nat} {v : Value} {xs : List Value} (h : w.ownsRow B e m v n xs) : ∃ a cap, v = .slice a n cap ∧ n ≤ cap ∧ cap ≤ maxLen := by
  rcases h.2 with ⟨rfl, rfl⟩ | ⟨g, cap, cur, rfl, _, _, h1, h2, _⟩
  · exact ⟨none, 0, rfl, Nat.le_refl _, Nat.zero_le _⟩
  · exact ⟨_, cap, rfl, h1, h2⟩
end
end Go.Proofs.YtdfdalkcljfghaaGreat
