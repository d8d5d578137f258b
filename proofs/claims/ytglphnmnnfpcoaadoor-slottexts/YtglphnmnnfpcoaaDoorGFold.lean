/-
  Small letters: what glyph.Fold and glyph.Same answer, by the library's table.
-/
import Derived.Test.YtglphnmnnfpcoaaDoorGMath
import Derived.Test.YtglphnmnnfpcoaaDoorShelf
import Derived.Test.YtglphnmnnfpcoaaDoorSTexs
import Derived.Test.YtglphnmnnfpcoaaDoorSBase
import Derived.Test.YtglphnmnnfpcoaaDoorCPut
import Derived.WalkKit
import Derived.BigCall
import Derived.WalkSpells
import Derived.WalkLawsBesides
import Derived.Lib.OthersKept
import Derived.Lib.AppendStr
import Derived.Lib.BufferRead
import Derived.OpenShut
namespace Go.Proofs.YtglphnmnnfpcoaaDoor.G
open Go.RowKit Go.Lib

theorem rune_at (s : ByteArray) (pos : Nat) : Utf8.decode s pos = Lib.decodeL (s.data.toList.drop pos) := (Lib.decodeL_drop s pos).symm
theorem rest_ne (s : ByteArray) (pos : Nat) (h : pos < s.size) : s.data.toList.drop pos ≠ [] := by
  intro e
  have := congrArg List.length e
  rw [List.length_drop, len_of] at this
  simp at this
  omega
/-- The runes that are left. -/
def left (s : ByteArray) (pos : Nat) : List Ru := runes (s.data.toList.drop pos)
theorem left_end (s : ByteArray) (pos : Nat) (h : ¬ pos < s.size) : left s pos = [] := by
  unfold left
  rw [List.drop_of_length_le (by rw [len_of]; omega)]
  rfl
theorem left_step (s : ByteArray) (pos : Nat) (h : pos < s.size) : left s pos = one (s.data.toList.drop pos) :: left s (pos + (Utf8.decode s pos).2) := by
  unfold left
  rw [runes_cons _ (rest_ne s pos h), List.drop_drop, rune_at]
theorem width (s : ByteArray) (pos : Nat) (h : pos < s.size) : 1 ≤ (Utf8.decode s pos).2 ∧ pos + (Utf8.decode s pos).2 ≤ s.size := by
  have h1 := Lib.decodeL_width (s.data.toList.drop pos)
  have h2 := Lib.decodeL_le _ (rest_ne s pos h)
  rw [rune_at]
  rw [List.length_drop, len_of] at h2
  omega
theorem tx_take (s : ByteArray) (k : Nat) : tx (s.data.toList.take k) = s.extract 0 k := by
  have h : s.data.toList.take k = (s.extract 0 k).data.toList := by
    rw [ByteArray.data_extract, Array.toList_extract]
    simp
  rw [h, tx_of]
theorem tx_drop (s : ByteArray) (k : Nat) : tx (s.data.toList.drop k) = s.extract k s.size := by
  have h : s.data.toList.drop k = (s.extract k s.size).data.toList := by
    rw [ByteArray.data_extract, Array.toList_extract]
    simp
    rw [List.take_of_length_le (by rw [List.length_drop, len_of]; omega)]
  rw [h, tx_of]
theorem drop_cons {α : Type} : ∀ {n : Nat} {rs rest : List α} {r : α}, rs.drop n = r :: rest → n < rs.length ∧ rs.take (n + 1) = rs.take n ++ [r] ∧ rs.drop (n + 1) = rest
  | 0, rs, rest, r, h => by
    simp at h
    subst h
    simp
  | n + 1, [], rest, r, h => by simp at h
  | n + 1, x :: rs, rest, r, h => by
    have := drop_cons (n := n) (rs := rs) h
    simp only [List.length_cons, List.take_succ_cons, List.drop_succ_cons, List.cons_append]
    exact ⟨by omega, by rw [this.2.1], this.2.2⟩
set_option maxHeartbeats 4000000 in
set_option maxRecDepth 1000000 in
theorem broken_walk (s : ByteArray) (pos : Nat) (hp : pos < s.size) (r : Int) (w : World) :
    Calls Tryd.prog 70 #[.string s, .int .i64 (pos : Int), .int .i32 r] w fun e w' => e = .returned (.bool (decide (r = 65533 ∧ Lib.hasPrefix (s.data.toList.drop pos) [239, 191, 189] = false))) ∧ w' = w := by
  go_enter Tryd.func70, Tryd.ntmps70
  by_cases hr : r = 65533
  · subst hr
    go_wp2_with (first | (go_at_call 82; refine (Tryd.strings_HasPrefix _ _ _).mono ?_; rintro e w' ⟨rfl, rfl⟩))
    go_ret
    refine ⟨?_, rfl⟩
    rw [List.take_of_length_le (by rw [List.length_drop, len_of]; omega)]
    rfl
  · go_wp2_with fail
    go_ret
    refine ⟨?_, rfl⟩
    show Ending.returned (Value.bool false) = _
    simp [hr]
theorem _root_.Go.Proofs.YtglphnmnnfpcoaaDoor.Own.iter {B : Nat} {w w' : World} {v : Value} {l : List UInt8} (h : Own B w v l) (hg : w.grownBy w' v.ownBlock) {k : Nat} {s : ByteArray} {pos : Nat} (hk : w.heap[k]? = some (.stringIter s pos)) : w'.heap[k]? = some (.stringIter s pos) := by
  rw [hg.block k (Array.getElem?_eq_some_iff.1 hk).1 (fun e => ?_), hk]
  obtain ⟨_, _, C, hC⟩ := h.block e.symm
  rw [hk] at hC
  exact absurd hC (by simp)
theorem _root_.Go.Proofs.YtglphnmnnfpcoaaDoor.Own.iterAt {B : Nat} {w : World} {v : Value} {l : List UInt8} (h : Own B w v l) {k : Nat} {s : ByteArray} {pos : Nat} (hk : w.heap[k]? = some (.stringIter s pos)) (p : Nat) : Own B (w.iterAt k s p) v l := by
  refine ⟨h.1, ?_⟩
  rcases h.2 with h1 | ⟨g', cap, cur, e, hb', hh, hr⟩
  · exact Or.inl h1
  · refine Or.inr ⟨g', cap, cur, e, hb', ?_, hr⟩
    rw [Lib.iterAt_other _ _ _ _ _ (by intro e'; subst e'; rw [hk] at hh; exact absurd hh (by simp))]
    exact hh
theorem grown_alloc {w w' : World} {o : Obj} {row : Option Nat} (h : (w.alloc o).grownBy w' row) : w.grownBy w' row :=
  ⟨h.os, h.tape, h.output, Nat.le_trans (by simp) h.size, fun k hk hne => by rw [h.block k (by simp; omega) hne, Below.heap_alloc _ _ _ hk]⟩
theorem grown_trans {w w1 w2 : World} {row : Option Nat} (h : Below w.heap.size w w1) (k : w1.grownBy w2 row) : w.grownBy w2 row :=
  ⟨k.os.trans h.os, k.tape.trans h.tape, k.output.trans h.output, Nat.le_trans h.size k.size, fun i hi hne => (k.block i (Nat.lt_of_lt_of_le hi h.size) hne).trans (h.block i hi)⟩
theorem grown_grown {w w1 w2 : World} {row row' : Option Nat} (h : w.grownBy w1 row) (k : w1.grownBy w2 row') (hr : row' = row ∨ ∀ g, row' = some g → w.heap.size ≤ g) : w.grownBy w2 row :=
  ⟨k.os.trans h.os, k.tape.trans h.tape, k.output.trans h.output, Nat.le_trans h.size k.size, fun i hi hne => by
    rw [k.block i (Nat.lt_of_lt_of_le hi h.size) (fun e => ?_), h.block i hi hne]
    rcases hr with hr | hr
    · rw [hr] at e; exact hne e
    · have := hr i e.symm; omega⟩
theorem info5 : ∃ i, Tryd.prog.info? 5 = some i ∧ i.zero = some (.int .u8 0) ∧ i.size = 1 ∧ i.bytes = 1 := by
  have h : (Tryd.prog.info? 5).map (fun i => (i.zero, i.size, i.bytes)) = some (some (.int .u8 0), 1, 1) := by kernel_rfl
  cases hi : Tryd.prog.info? 5 with
  | none => rw [hi] at h; simp at h
  | some i =>
    rw [hi] at h
    simp only [Option.map_some, Option.some.injEq, Prod.mk.injEq] at h
    exact ⟨i, rfl, h⟩
/-- 'make([]byte, 0, n)'. -/
theorem make_bytes (w : World) (c : Nat) (hc : c ≤ 1000000) : ∃ w1, (Instr.makeSlice 34 (.int .i64 0) (.int .i64 (c : Int))).run Tryd.prog w = .ok (.slice (some ⟨w.heap.size, 0, none⟩) 0 c) w1 ∧
    Own w.heap.size w1 (.slice (some ⟨w.heap.size, 0, none⟩) 0 c) [] ∧ Below w.heap.size w w1 ∧ w1.heap.size = w.heap.size + 1 := by
  obtain ⟨i, i1, i2, i3, i4⟩ := info5
  have hr := run_makeSlice (P := Tryd.prog) w 34 5 i (.int .u8 0) Tryd.underlying34 i1 i2 .i64 .i64 0 c (Int.le_refl _) (by omega) (by rw [i3]; omega) (by rw [i4]; omega) (by omega)
  simp only [Int.toNat_zero, Int.toNat_natCast, i3] at hr
  refine ⟨_, hr, ?_, (Below.refl _ w).alloc (Nat.le_refl _) _, by simp⟩
  have := World.ownsRow_made (e := 5) (size := 1) w (madeCells (Value.int .u8 0).cells (c * 1)) c (Nat.le_refl _) (by simp only [maxLen]; omega) (size_madeCells _ _)
  exact this
/-- 'string(b)'. -/
theorem run_text {B : Nat} {w : World} {v : Value} {l : List UInt8} (h : Own B w v l) : (convert 34 9 v).run Tryd.prog w = .ok (.string (tx l)) w := by
  rcases h.2 with ⟨e, h0⟩ | ⟨g, cap, cur, e, hb, hh, hcap, hmax, hcur, htk⟩
  · rw [e]
    obtain rfl : l = [] := List.length_eq_zero_iff.1 h0
    exact Lib.run_convert_nil_bytes w 34 9 5 0 Tryd.underlying34 Tryd.underlying5 Tryd.underlying9
  · rw [e]
    exact run_convert_bytes_back w 34 9 5 ⟨g, 0, none⟩ cap l Tryd.underlying34 Tryd.underlying5 Tryd.underlying9 fun j hj => by
      have e2 : (⟨g, 0, none⟩ : Addr).add j = ⟨g, j, none⟩ := by rw [Addr.add_lit]; simp
      rw [e2, cell_of_row w g j cur 5 _ hh, ← Array.getElem?_toList]
      have h3 : (cur.toList.take (l.length * 1))[j]? = cur.toList[j]? := by rw [List.getElem?_take]; simp [hj]
      rw [← h3, htk, Lib.byteCells, List.getElem?_map, List.getElem?_eq_getElem hj]
      rfl
theorem cell_below {B : Nat} {w w' : World} (h : Below B w w') {b i : Nat} (hb : b < B) : w'.cell? ⟨b, i, none⟩ = w.cell? ⟨b, i, none⟩ := by
  simp only [World.cell?, h.block b hb]
theorem below_grown {w w' : World} {row : Option Nat} (h : Below w.heap.size w w') : w.grownBy w' row := ⟨h.os, h.tape, h.output, h.size, fun k hk _ => h.block k hk⟩
theorem drewN_below (B : Nat) (w : World) (n : Nat) : Below B w (w.drewN n) := ⟨rfl, rfl, rfl, Nat.le_refl _, fun _ _ => rfl⟩
theorem appendRune_at (B : Nat) (v : Value) (l : List UInt8) (r : Int) (h0 : -2147483648 ≤ r) (h1 : r ≤ 2147483647) (w : World) (hown : Own B w v l) (hB : B ≤ w.heap.size) (hlim : l.length + 16 ≤ 140737488355328) :
    Calls Tryd.prog 71 #[v, .int .i32 r] w fun e w' => ∃ v', e = .returned v' ∧ Own B w' v' (l ++ Lib.encodeRune r) ∧ w.grownBy w' v.ownBlock := by
  refine (Tryd.utf8_AppendRune_plain B v l.length (Lib.byteCells l) r h0 h1 w hown (by omega) hB).mono ?_
  rintro e w' ⟨v', rfl, h2, o, h3⟩
  refine ⟨v', rfl, ?_, grown_alloc h3⟩
  unfold Own
  rw [List.length_append, Lib.byteCells_append, Lib.byteCells_encodeRune, ← Lib.runeCells_length]
  exact h2
theorem broken_at (s : ByteArray) (pos r k : Nat) (hp : pos < s.size) (hd : Hid (Utf8.decode s pos = (r, k))) (b : Bool) (hb : Hid ((r = 65533 ∧ k = 1) ↔ b = true)) (w : World) :
    Calls Tryd.prog 70 #[.string s, .int .i64 (pos : Int), .int .i32 (r : Int)] w fun e w' => e = .returned (.bool b) ∧ w' = w := by
  refine (broken_walk s pos hp _ w).mono ?_
  rintro e w' ⟨rfl, rfl⟩
  refine ⟨?_, rfl⟩
  congr 2
  have h := bad_iff (s.data.toList.drop pos)
  rw [← rune_at, unhide hd] at h
  dsimp only at h
  rw [Bool.eq_iff_iff, decide_eq_true_eq, ← unhide hb]
  constructor
  · rintro ⟨h1, h2⟩
    exact h.2 ⟨by omega, h2⟩
  · intro h1
    have := h.1 h1
    exact ⟨by omega, this.2⟩
theorem head_at (s : ByteArray) (pos : Nat) (hp : pos < s.size) : (s.data.toList.drop pos).getD 0 0 = s[pos]'hp := by
  rw [List.getD_eq_getElem?_getD, List.getElem?_drop, Nat.add_zero, List.getElem?_eq_getElem (by rw [len_of]; exact hp)]
  rfl
theorem cell_keep {w w' : World} (hb : Below w.heap.size w w') {g i : Nat} {v : Value} (h : w.cell? ⟨g, i, none⟩ = some v) : w'.cell? ⟨g, i, none⟩ = some v := by
  have hg : g < w.heap.size := by
    rcases Nat.lt_or_ge g w.heap.size with k | k
    · exact k
    · simp [World.cell?, Array.getElem?_eq_none k] at h
  rw [cell_below hb hg]
  exact h
theorem case_keep {w w' : World} (hb : Below w.heap.size w w') {g : Nat} {T : Array CaseRow} (h : CaseVar g T w) : CaseVar g T w' := by
  obtain ⟨R, o, c, h1, h2⟩ := h
  exact ⟨R, o, c, cell_keep hb h1, fun i hi => ⟨cell_keep hb (h2 i hi).1, cell_keep hb (h2 i hi).2.1, cell_keep hb (h2 i hi).2.2.1, cell_keep hb (h2 i hi).2.2.2.1, cell_keep hb (h2 i hi).2.2.2.2⟩⟩
/-- The tables, and that of small letters. -/
structure Uni (w : World) : Prop where
  tabs : Tabs w
  ca : CaseVar 2 caseA w
theorem Uni.below {w w' : World} (h : Uni w) (hb : Below w.heap.size w w') : Uni w' := ⟨h.tabs.below hb, case_keep hb h.ca⟩

def folded (Lo : Int → Int) (r : Ru) : List UInt8 := if r.brk then r.bytes else encodeRune (Lo (r.num : Int))
def foldL (Lo : Int → Int) (l : List UInt8) : List UInt8 := (runes l).flatMap (folded Lo)

/-- What is asked of the small letters. -/
def LowOk (Lo : Int → Int) : Prop := ∀ (r : Nat), r ≤ 1114111 → (-2147483648 ≤ Lo r ∧ Lo r ≤ 2147483647) ∧ ∀ w, Uni w → Calls Tryd.prog 67 #[.int .i32 (r : Int)] w fun e w' => e = .returned (.int .i32 (Lo r)) ∧ Below w.heap.size w w'

theorem low_ok : LowOk toLowerU := fun r hr => by
  refine ⟨?_, fun w hU => ?_⟩
  · rw [← toLowerW_caseA]
    unfold Lib.toLowerW
    split
    · split <;> omega
    · unfold toW
      split
      · unfold wrap32; omega
      · omega
  · refine (Tryd.unicode_ToLower_laid r w hU.ca).mono ?_
    rintro e w' ⟨rfl, n, rfl⟩
    exact ⟨rfl, drewN_below _ _ _⟩

theorem encode_len (r : Int) : (encodeRune r).length ≤ 4 := by
  have := encodeRuneZ_length r
  simp only [encodeRune, List.length_map]
  omega

set_option maxHeartbeats 8000000 in
set_option maxRecDepth 1000000 in
theorem fold_walk (Lo : Int → Int) (hLo : LowOk Lo) (s : ByteArray) (hs : s.size ≤ 1000000) (w : World) (hU : Uni w) :
    Calls Tryd.prog 57 #[.string s] w fun e w' => e = .returned (.string (tx (foldL Lo s.data.toList))) ∧ Below w.heap.size w w' := by
  have HLO := hide hLo
  have HU := hide hU
  clear hLo hU
  have hl0 : (left s 0).flatMap (folded Lo) = foldL Lo s.data.toList := by simp [left, foldL]
  generalize foldL Lo s.data.toList = fl at *
  have HL0 := hide hl0
  clear hl0
  obtain ⟨w1, hmk, hO1, hB1, hS1⟩ := make_bytes w s.size hs
  go_enter Tryd.func57, Tryd.ntmps57
  go_wp2
  go_loopw [3] (fun cb wr => ∃ (pos : Nat) (acc : List UInt8), Own w.heap.size wr cb acc ∧ pos ≤ s.size ∧ wr.heap[w.heap.size + 1]? = some (.stringIter s pos) ∧ Below w.heap.size w wr ∧ Hid (acc ++ (left s pos).flatMap (folded Lo) = fl) ∧ acc.length ≤ 4 * pos) (fun _ wr => s.size - wr.iterPos (w.heap.size + 1))
  case atStart =>
    refine ⟨0, [], ?_, by omega, ?_, hB1.trans ((Below.refl _ w1).alloc (by omega) _), hide (unhide HL0), by simp⟩
    · exact hO1.keep fun k hk => Below.heap_alloc _ _ _ hk
    · rw [← hS1]; exact World.iter_heap w1 s 0
  case round =>
    obtain ⟨pos, acc, hown, hps, hit, hbw, HA, hal⟩ := hrel
    have hsz : w.heap.size + 1 < wr.heap.size := (Array.getElem?_eq_some_iff.1 hit).1
    by_cases hp : pos < s.size
    · obtain ⟨r, k, hrk⟩ : ∃ r k, Utf8.decode s pos = (r, k) := ⟨_, _, rfl⟩
      have hnx : ∀ ty, (Instr.next (.pointer (some ⟨w.heap.size + 1, 0, none⟩)) true ty).run Tryd.prog wr = _ := fun ty => Lib.run_next_any_at wr (w.heap.size + 1) s pos ty hit hp
      have hwd := width s pos hp
      have hit2 := Lib.iterAt_heap wr (w.heap.size + 1) s pos (pos + k) hit
      have hbw2 := Lib.below_iterAt hbw (k := w.heap.size + 1) (by omega) s (pos + k)
      have hown2 := hown.iterAt hit (pos + k)
      have hst := left_step s pos hp
      have hsz2 : w.heap.size ≤ (wr.iterAt (w.heap.size + 1) s (pos + k)).heap.size := by rw [Lib.iterAt_size]; omega
      have hr21 := Lib.decodeL_rune (s.data.toList.drop pos)
      rw [← rune_at] at hr21
      simp only [hrk] at hnx hwd hst hr21
      have hacc := unhide HA
      rw [hst, List.flatMap_cons, ← List.append_assoc] at hacc
      have HD := hide hrk
      have hdl : Lib.decodeL (s.data.toList.drop pos) = (r, k) := by rw [← rune_at]; exact hrk
      have hone := one_good (s.data.toList.drop pos)
      have honeB := one_bad (s.data.toList.drop pos)
      rw [hdl] at hone honeB
      have hfl : (folded Lo (one (s.data.toList.drop pos))).length ≤ 4 * k := by
        by_cases hb : r = 65533 ∧ k = 1
        · rw [honeB hb]
          simp only [folded, if_true, List.length_take]
          omega
        · rw [hone hb]
          have := encode_len (Lo r)
          simp only [folded, Bool.false_eq_true, if_false]
          omega
      have fin : ∀ v w4, Own w.heap.size w4 v (acc ++ folded Lo (one (s.data.toList.drop pos))) → w4.heap[w.heap.size + 1]? = some (.stringIter s (pos + k)) → Below w.heap.size w w4 →
          ((∃ pos acc, Own w.heap.size w4 v acc ∧ pos ≤ s.size ∧ w4.heap[w.heap.size + 1]? = some (Obj.stringIter s pos) ∧ Below w.heap.size w w4 ∧ Hid (acc ++ List.flatMap (folded Lo) (left s pos) = fl) ∧ acc.length ≤ 4 * pos) ∧
          s.size - w4.iterPos (w.heap.size + 1) < s.size - wr.iterPos (w.heap.size + 1)) := by
        intro v w4 h1 h2 h3
        refine ⟨⟨pos + k, _, h1, by omega, h2, h3, hide hacc, ?_⟩, ?_⟩
        · rw [List.length_append]; omega
        · simp only [World.iterPos, h2, hit]; omega
      have FIN := hide fin
      have HD1 := hide hone
      have HD2 := hide honeB
      clear fin hrk hst hdl hone honeB hacc hfl HA
      by_cases hbad : r = 65533 ∧ k = 1
      · have HB : Hid ((r = 65533 ∧ k = 1) ↔ true = true) := hide (by simp [hbad])
        have HE : Hid (folded Lo (one (s.data.toList.drop pos)) = [s[pos]'hp]) := hide (by
          rw [unhide HD2 hbad]
          simp only [folded, if_true]
          rw [Lib.takeA _ (List.length_pos_iff.2 (rest_ne s pos hp)), head_at s pos hp])
        clear hbad
        generalize hc0 : (s[pos]'hp) = c0 at *
        go_wp2_with (first | (go_at_call 70; refine (broken_at s pos r k hp HD true HB _).mono ?_; rintro e w' ⟨rfl, rfl⟩) | (refine wpList_app rfl _ _ rfl w.heap.size _ acc rfl (hown2.keep fun k hk => Below.heap_alloc _ _ _ hk) ⟨_, 0, none⟩ 1 1 rfl [c0] rfl ?_ ?_ ?_ ?_))
        · intro j hj
          obtain rfl : j = 0 := by omega
          rw [Addr.add_lit]
          exact cell_fresh _ _ _ _
        · show acc.length + 1 ≤ _
          omega
        · simp; omega
        · intro v3 w3 hO3 hG3
          go_wp2_with fail
          have hG4 := grown_alloc hG3
          refine unhide FIN v3 w3 ?_ (hown2.iter hG4 hit2) (hbw2.trans (hown2.below hG4 hsz2))
          rw [unhide HE]
          exact hO3
      · have HB : Hid ((r = 65533 ∧ k = 1) ↔ false = true) := hide (by simp [hbad])
        have HE : Hid (folded Lo (one (s.data.toList.drop pos)) = encodeRune (Lo r)) := hide (by
          rw [unhide HD1 hbad]
          rfl)
        obtain ⟨hlb, hlw⟩ := unhide HLO r (by omega)
        have HLW := hide hlw
        clear hbad hlw
        generalize Lo (r : Int) = q at *
        go_wp2_with fail
        refine (broken_at s pos r k hp HD false HB _).mono ?_
        rintro e w' ⟨rfl, rfl⟩
        go_wp2_with fail
        refine (unhide HLW _ ((unhide HU).below hbw2)).mono ?_
        rintro e w3 ⟨rfl, hb3⟩
        go_wp2_with fail
        refine (appendRune_at w.heap.size _ acc q hlb.1 hlb.2 w3 (hown2.keepB hb3) (Nat.le_trans hsz2 hb3.size) (by omega)).mono ?_
        rintro e w4 ⟨v4, rfl, hO4, hG4⟩
        have hO3 := hown2.keepB hb3
        have hb4 := hbw2.trans (hb3.mono hsz2)
        have hi3 : w3.heap[w.heap.size + 1]? = some (.stringIter s (pos + k)) := by
          rw [hb3.block _ (Array.getElem?_eq_some_iff.1 hit2).1]
          exact hit2
        go_wp2_with fail
        refine unhide FIN v4 w4 ?_ (hO3.iter hG4 hi3) (hb4.trans (hO3.below hG4 (Nat.le_trans hsz2 hb3.size)))
        rw [unhide HE]
        exact hO4
    · have hnx : ∀ ty, (Instr.next (.pointer (some ⟨w.heap.size + 1, 0, none⟩)) true ty).run Tryd.prog wr = _ := fun ty => Lib.run_next_end_at wr (w.heap.size + 1) s pos ty hit hp
      have htx := run_text hown
      go_wp2
      go_ret
      have hacc := unhide HA
      rw [left_end s pos hp] at hacc
      simp at hacc
      rw [← hacc]
      exact ⟨rfl, hbw⟩

set_option maxHeartbeats 8000000 in
set_option maxRecDepth 1000000 in
theorem same_walk (Lo : Int → Int) (hLo : LowOk Lo) (a b : ByteArray) (ha : a.size ≤ 1000000) (hb : b.size ≤ 1000000) (w : World) (hU : Uni w) :
    Calls Tryd.prog 37 #[.string a, .string b] w fun e w' => e = .returned (.bool ((tx (foldL Lo a.data.toList)).toList == (tx (foldL Lo b.data.toList)).toList)) ∧ Below w.heap.size w w' := by
  have HA := hide (fold_walk Lo hLo a ha)
  have HB := hide (fold_walk Lo hLo b hb)
  clear hLo
  generalize tx (foldL Lo a.data.toList) = fa at *
  generalize tx (foldL Lo b.data.toList) = fb at *
  go_enter Tryd.func37, Tryd.ntmps37
  go_wp2_with fail
  refine (unhide HA w hU).mono ?_
  rintro e w1 ⟨rfl, hb1⟩
  go_wp2_with fail
  refine (unhide HB w1 (hU.below hb1)).mono ?_
  rintro e w2 ⟨rfl, hb2⟩
  go_wp2_with fail
  go_ret
  exact ⟨rfl, hb1.trans (hb2.mono hb1.size)⟩
end Go.Proofs.YtglphnmnnfpcoaaDoor.G
