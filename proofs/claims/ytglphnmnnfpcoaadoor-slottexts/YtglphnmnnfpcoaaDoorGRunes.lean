/-
  The runes of a text, as bootjackref04 lists them.
-/
import Derived.Test.YtglphnmnnfpcoaaDoorGOne
namespace Go.Proofs.YtglphnmnnfpcoaaDoor.G
open Go.RowKit

theorem str_some {s : ByteArray} (h : s.size ≠ 0) : s.toList.isEmpty = false := by
  rw [ByteArray.toList_eq]
  cases hh : s.data.toList with
  | nil => have := len_of s; rw [hh] at this; simp at this; omega
  | cons => rfl
def strLen : Value → Nat
  | .string r => r.size
  | _ => 0
theorem ex_from (s : ByteArray) (k : Nat) : (s.extract k s.size).data.toList = s.data.toList.drop k := by
  rw [ByteArray.data_extract, Array.toList_extract]
  apply List.take_of_length_le
  rw [List.length_drop, len_of]
  exact Nat.le_refl _

def ruC (r : Ru) : List Value := [.int .i64 (r.num : Int), .string (tx r.bytes), .bool r.brk]
def rowsC (rs : List Ru) : List Value := rs.flatMap ruC
theorem rowsC_len (rs : List Ru) : (rowsC rs).length = rs.length * 3 := by
  induction rs with
  | nil => rfl
  | cons r rs ih =>
    show (ruC r ++ rowsC rs).length = _
    rw [List.length_append, ih]
    simp [ruC]
    omega
theorem rowsC_append (a b : List Ru) : rowsC (a ++ b) = rowsC a ++ rowsC b := by simp [rowsC]

/-- v is a slice of runes that the call owns. -/
def OwnR (B : Nat) (w : World) (v : Value) (rs : List Ru) : Prop := w.ownsRow B 82 3 v rs.length (rowsC rs)

theorem OwnR.below {B : Nat} {w w' : World} {v : Value} {rs : List Ru} (h : OwnR B w v rs) (hg : w.grownBy w' v.ownBlock) (hB : B ≤ w.heap.size) : Below B w w' :=
  ⟨hg.os, hg.tape, hg.output, hg.size, fun k hk => hg.block k (by omega) (fun e => by
    rcases h.2 with ⟨ev, _⟩ | ⟨g', cap, cur, ev, hb, hh, _⟩
    · rw [ev] at e; exact absurd e (by simp [Value.ownBlock])
    · rw [ev] at e
      simp only [Value.ownBlock, Option.some.injEq] at e
      omega)⟩
theorem OwnR.keep {B : Nat} {w w' : World} {v : Value} {rs : List Ru} (h : OwnR B w v rs) (hb : ∀ k, k < w.heap.size → w'.heap[k]? = w.heap[k]?) : OwnR B w' v rs := by
  refine ⟨h.1, ?_⟩
  rcases h.2 with h1 | ⟨g', cap, cur, e, hb', hh, hr⟩
  · exact Or.inl h1
  · exact Or.inr ⟨g', cap, cur, e, hb', by rw [hb g' (Array.getElem?_eq_some_iff.1 hh).1]; exact hh, hr⟩

theorem OwnR.lt {B : Nat} {w : World} {v : Value} {rs : List Ru} (h : OwnR B w v rs) {g : Nat} (e : v.ownBlock = some g) : g < w.heap.size := by
  rcases h.2 with ⟨ev, _⟩ | ⟨g', cap, cur, ev, hb, hh, _⟩
  · rw [ev] at e; exact absurd e (by simp [Value.ownBlock])
  · rw [ev] at e
    simp only [Value.ownBlock, Option.some.injEq] at e
    subst e
    exact (Array.getElem?_eq_some_iff.1 hh).1

theorem info82' : ∃ i z, Tryd.prog.info? 82 = some i ∧ i.zero = some z ∧ i.size = 3 ∧ i.bytes = 32 ∧ z.cells.size = 3 := by
  have h : (Tryd.prog.info? 82).map (fun i => (i.zero.map fun z => z.cells.size, i.size, i.bytes)) = some (some 3, 3, 32) := by kernel_rfl
  cases hi : Tryd.prog.info? 82 with
  | none => rw [hi] at h; simp at h
  | some i =>
    rw [hi] at h
    simp only [Option.map_some, Option.some.injEq, Prod.mk.injEq] at h
    cases hz : i.zero with
    | none => rw [hz] at h; simp at h
    | some z =>
      rw [hz] at h
      simp only [Option.map_some, Option.some.injEq] at h
      exact ⟨i, z, rfl, hz, h.2.1, h.2.2, h.1⟩

section
variable {ops : Array Oper} {rest : List Oper} {o : Oper} {a : Act} {w : World} {Q : Exit → Act → World → Prop}
theorem wpList_appR (hgd : o.guard = none) (s x : Operand) (ho : o.op = .call { callee := .builtin .append, args := #[s, x], argTypes := #[79, 79] })
    (B : Nat) (v : Value) (l : List Ru) (hs : a.eval s = v) (hown : OwnR B w v l) (g c : Nat) (hx : a.eval x = .slice (some ⟨g, 0, none⟩) 1 c) (r : Ru)
    (hn : ∀ j, j < 3 → w.cell? ⟨g, j, none⟩ = (ruC r)[j]?) (hlim : l.length ≤ 1000000) (hB : B ≤ w.heap.size)
    (h : ∀ v' w', OwnR B w' v' (l ++ [r]) → w.grownBy w' v.ownBlock → wpList Tryd.prog ops Q rest (a.put o.dst v') w') : wpList Tryd.prog ops Q (o :: rest) a w := by
  obtain ⟨i, z, i1, i2, i3, i4, i5⟩ := info82'
  refine wpList_append_own w hgd s x 79 ho B 82 i z 3 32 Tryd.underlying79 i1 i2 i3 i4 i5 (by decide) v l.length (rowsC l) hs hown ⟨g, 0, none⟩ 1 c (ruC r) hx rfl ?_ ?_ ?_ (by omega) hB fun v' w' h2 h3 _ => h v' w' ?_ h3
  · intro j u hj
    have hj3 : j < 3 := (List.getElem?_eq_some_iff.1 hj).1
    rw [Addr.add_lit, Nat.zero_add, hn j hj3, hj]
  · intro u hu
    simp only [ruC, List.mem_cons, List.not_mem_nil, or_false] at hu
    rcases hu with rfl | rfl | rfl <;> rfl
  · simp only [maxLen]; omega
  · unfold OwnR
    rw [rowsC_append, List.length_append]
    have : rowsC [r] = ruC r := by simp [rowsC]
    rw [this]
    exact h2
end

set_option maxHeartbeats 16000000 in
set_option maxRecDepth 1000000 in
theorem runes_walk (s : ByteArray) (hs : s.size ≤ 1000000) (w : World) :
    Calls Tryd.prog 65 #[.string s] w fun e w' => ∃ v, e = .returned v ∧ OwnR w.heap.size w' v (runes s.data.toList) ∧ Below w.heap.size w w' := by
  go_enter Tryd.func65, Tryd.ntmps65
  go_wp2
  go_loopw [0, 3] (fun cs co wr => ∃ (rest : ByteArray) (acc : List Ru), cs = .string rest ∧ OwnR w.heap.size wr co acc ∧ Below w.heap.size w wr ∧ rest.size ≤ s.size ∧ acc.length + rest.size ≤ s.size ∧ Hid (acc ++ runes rest.data.toList = runes s.data.toList)) (fun cs _ _ => strLen cs)
  case atStart =>
    refine ⟨s, [], rfl, ⟨rfl, .inr ⟨w.heap.size, 0, #[], rfl, Nat.le_refl _, heap_alloc_new w _, Nat.le_refl _, Nat.zero_le _, rfl, rfl⟩⟩, (Below.refl _ w).alloc (Nat.le_refl _) _, Nat.le_refl _, by simp, hide rfl⟩
  case round =>
    obtain ⟨rest, acc, rfl, hown, hbw, hrs, hal, HR⟩ := hrel
    by_cases hne : rest.size = 0
    · have e0 : rest.data.toList = [] := List.length_eq_zero_iff.1 (by rw [len_of]; exact hne)
      have e1 : rest = ⟨#[]⟩ := by rw [← tx_of rest, e0]; rfl
      have h2 := unhide HR
      rw [e0, runes_nil, List.append_nil] at h2
      subst e1
      have HE := hide h2
      clear h2 HR e0
      go_wp2
      go_ret
      rw [← unhide HE]
      exact ⟨_, rfl, hown, hbw⟩
    · have hemp := str_some hne
      have h1 := one_walk rest (by omega) (by omega)
      have hnl : rest.data.toList ≠ [] := by intro e; have := len_of rest; rw [e] at this; simp at this; omega
      have hw := Lib.decodeL_width rest.data.toList
      have hle := Lib.decodeL_le rest.data.toList hnl
      rw [len_of] at hle
      have hbl : (one rest.data.toList).bytes.length = (Lib.decodeL rest.data.toList).2 := by rw [one_bytes, List.length_take, len_of]; omega
      have hst := runes_cons rest.data.toList hnl
      have hex : rest.data.toList.drop (one rest.data.toList).bytes.length = rest.data.toList.drop (Lib.decodeL rest.data.toList).2 := by rw [hbl]
      have HN : Hid (acc ++ [one rest.data.toList] ++ runes (rest.data.toList.drop (one rest.data.toList).bytes.length) = runes s.data.toList) := hide (by rw [hex, ← unhide HR, hst]; simp)
      have hz := tx_size (one rest.data.toList).bytes
      rw [hbl] at hz
      rw [← hz] at hle hw
      clear hst hex HR hnl
      rw [← hbl] at hz
      generalize hr0 : one rest.data.toList = r at *
      clear hr0 hbl
      have hzl : (tx r.bytes).size = r.bytes.length := hz
      clear hz
      generalize hB : tx r.bytes = rb at *
      have HB := hide hB
      have HZ := hide hzl
      clear hB hzl
      have H1 := hide h1
      clear h1
      go_wp2_with (first | (go_at_call 78; refine (unhide H1 _).mono ?_; unfold ruV; rw [unhide HB]; rintro e w2 ⟨rfl, hb2⟩) | (refine wpList_appR rfl _ _ rfl w.heap.size _ acc rfl ?_ _ _ rfl r ?_ ?_ ?_ ?_))
      · exact hown.keep fun k hk => by
          have := hb2.size
          rw [Below.heap_alloc _ _ _ (by simp; omega), Below.heap_alloc _ _ _ (by omega), hb2.block k hk]
      · intro j _
        have e1 : w2.heap.size + 1 = (w2.alloc (Obj.cells #[Value.int IntKind.i64 ↑r.num, Value.string rb, Value.bool r.brk] 82)).heap.size := by simp
        rw [e1, cell_fresh]
        unfold ruC
        rw [unhide HB]
        simp
      · omega
      · have := hb2.size
        have := hbw.size
        simp
        omega
      · intro v5 w5 hO5 hG5
        have s1 := hb2.size
        have s2 := hbw.size
        have hblk : w5.heap[w2.heap.size]? = some (.cells #[Value.int IntKind.i64 ↑r.num, Value.string rb, Value.bool r.brk] 82) := by
          rw [hG5.block w2.heap.size (by simp; omega) (fun e => by have := hown.lt e.symm; omega), Below.heap_alloc _ _ _ (by simp)]
          exact heap_alloc_new w2 _
        have hcell : w5.cell? ⟨w2.heap.size, 1, none⟩ = some (.string rb) := cell_of_row _ _ _ _ _ _ hblk
        have hb4 : Below w.heap.size w ((w2.alloc (Obj.cells #[Value.int IntKind.i64 ↑r.num, Value.string rb, Value.bool r.brk] 82)).alloc (Obj.cells #[Value.int IntKind.i64 ↑r.num, Value.string rb, Value.bool r.brk] 82)) := ((hbw.trans (hb2.mono hbw.size)).alloc (by omega) _).alloc (by simp; omega) _
        have hO4 : OwnR w.heap.size ((w2.alloc (Obj.cells #[Value.int IntKind.i64 ↑r.num, Value.string rb, Value.bool r.brk] 82)).alloc (Obj.cells #[Value.int IntKind.i64 ↑r.num, Value.string rb, Value.bool r.brk] 82)) u3 acc := hown.keep fun k hk => by
          rw [Below.heap_alloc _ _ _ (by simp; omega), Below.heap_alloc _ _ _ (by omega), hb2.block k hk]
        have hb5 := hb4.trans (hO4.below hG5 hb4.size)
        clear hblk hG5 hb4 hO4
        go_wp2
        refine ⟨⟨rest.extract rb.size rest.size, acc ++ [r], rfl, hO5, hb5, ?_, ?_, ?_⟩, ?_⟩
        · rw [ByteArray.size_extract]; omega
        · rw [ByteArray.size_extract, List.length_append]; simp; omega
        · rw [ex_from, unhide HZ]; exact HN
        · simp only [strLen]
          rw [ByteArray.size_extract]
          omega

/-- Where the runes lie. -/
def LayR (w : World) (a : Option Addr) (rs : List Ru) : Prop := ∀ i, i < rs.length → ∃ g, a = some ⟨g, 0, none⟩ ∧ g < w.heap.size ∧ ∀ j, j < 3 → w.cell? ⟨g, i * 3 + j, none⟩ = (ruC (rs.getD i ⟨0, [], false⟩))[j]?

theorem LayR.below {B : Nat} {w w' : World} {a : Option Addr} {rs : List Ru} (h : LayR w a rs) (hb : Below B w w') (hB : w.heap.size ≤ B) : LayR w' a rs := fun i hi => by
  obtain ⟨g, e, hg, hc⟩ := h i hi
  exact ⟨g, e, Nat.lt_of_lt_of_le hg hb.size, fun j hj => by rw [cell_below hb (by omega)]; exact hc j hj⟩

theorem rowsC_at : ∀ (rs : List Ru) (i j : Nat), i < rs.length → j < 3 → (rowsC rs)[i * 3 + j]? = (ruC (rs.getD i ⟨0, [], false⟩))[j]?
  | [], i, j, h, _ => by simp at h
  | r :: rs, 0, j, _, hj => by
    show (ruC r ++ rowsC rs)[0 * 3 + j]? = _
    rw [Nat.zero_mul, Nat.zero_add, List.getElem?_append_left (by simpa [ruC] using hj)]
    rfl
  | r :: rs, i + 1, j, h, hj => by
    show (ruC r ++ rowsC rs)[(i + 1) * 3 + j]? = _
    rw [List.getElem?_append_right (by simp [ruC]; omega)]
    have e : (i + 1) * 3 + j - (ruC r).length = i * 3 + j := by simp [ruC]; omega
    rw [e, rowsC_at rs i j (by simpa using h) hj]
    rfl

theorem OwnR.form {B : Nat} {w : World} {v : Value} {rs : List Ru} (h : OwnR B w v rs) : ∃ a cap, v = .slice a rs.length cap ∧ LayR w a rs := by
  rcases h.2 with ⟨ev, h0⟩ | ⟨g, cap, cur, ev, hb, hh, hc1, hc2, hc3, hc4⟩
  · refine ⟨none, 0, by rw [ev, h0], fun i hi => by omega⟩
  · refine ⟨some ⟨g, 0, none⟩, cap, ev, fun i hi => ⟨g, rfl, (Array.getElem?_eq_some_iff.1 hh).1, fun j hj => ?_⟩⟩
    rw [cell_of_row w g _ cur 82 _ hh, ← rowsC_at rs i j hi hj, ← hc4, ← Array.getElem?_toList, List.getElem?_take, if_pos (by omega)]

theorem runes_at (s : ByteArray) (hs : s.size ≤ 1000000) (w : World) :
    Calls Tryd.prog 65 #[.string s] w fun e w' => ∃ a cap, e = .returned (.slice a (runes s.data.toList).length cap) ∧ LayR w' a (runes s.data.toList) ∧ Below w.heap.size w w' := by
  refine (runes_walk s hs w).mono ?_
  rintro e w' ⟨v, rfl, h1, h2⟩
  obtain ⟨a, cap, rfl, h3⟩ := h1.form
  exact ⟨a, cap, rfl, h3, h2⟩
end Go.Proofs.YtglphnmnnfpcoaaDoor.G
