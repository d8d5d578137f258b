/-
  Small letters: what glyph.Fold and glyph.Same answer, by the library's table.
-/
import Derived.Test.YtdgebadjlkmdiaaDoorUni
import Derived.Test.YtdgebadjlkmdiaaDoorAlive
namespace Go.Proofs.YtdgebadjlkmdiaaDoor
open Go.RowKit Go.Lib

def folded (Lo : Int → Int) (r : Ru) : List UInt8 := if r.brk then r.bytes else encodeRune (Lo (r.num : Int))
def foldL (Lo : Int → Int) (l : List UInt8) : List UInt8 := (runes l).flatMap (folded Lo)

/-- What is asked of the small letters. -/
def LowOk (Lo : Int → Int) : Prop := ∀ (r : Nat), r ≤ 1114111 → (-2147483648 ≤ Lo r ∧ Lo r ≤ 2147483647) ∧ ∀ w, Uni w → Calls Tryd.prog 27 #[.int .i32 (r : Int)] w fun e w' => e = .returned (.int .i32 (Lo r)) ∧ Below w.heap.size w w'

theorem low_ok : LowOk toLowerU := fun r hr => by
  refine ⟨?_, fun w hU => ?_⟩
  · rw [← toLowerW_caseA]
    unfold Lib.toLowerW
    split
    · split <;> omega
    · unfold toW
      split
      · unfold wrap32; omega
      · omega
  · refine (Tryd.unicode_ToLower_laid r w hU.ca).mono ?_
    rintro e w' ⟨rfl, n, rfl⟩
    exact ⟨rfl, drewN_below _ _ _⟩

theorem encode_len (r : Int) : (encodeRune r).length ≤ 4 := by
  have := encodeRuneZ_length r
  simp only [encodeRune, List.length_map]
  omega

set_option maxHeartbeats 8000000 in
set_option maxRecDepth 1000000 in
theorem fold_walk (Lo : Int → Int) (hLo : LowOk Lo) (s : ByteArray) (hs : s.size ≤ 1000000) (w : World) (hU : Uni w) :
    Calls Tryd.prog 14 #[.string s] w fun e w' => e = .returned (.string (tx (foldL Lo s.data.toList))) ∧ Below w.heap.size w w' := by
  have HLO := hide hLo
  have HU := hide hU
  clear hLo hU
  have hl0 : (left s 0).flatMap (folded Lo) = foldL Lo s.data.toList := by simp [left, foldL]
  generalize foldL Lo s.data.toList = fl at *
  have HL0 := hide hl0
  clear hl0
  obtain ⟨w1, hmk, hO1, hB1, hS1⟩ := make_bytes w s.size hs
  go_enter Tryd.func14, Tryd.ntmps14
  go_wp2
  go_loopw [3] (fun cb wr => ∃ (pos : Nat) (acc : List UInt8), Own w.heap.size wr cb acc ∧ pos ≤ s.size ∧ wr.heap[w.heap.size + 1]? = some (.stringIter s pos) ∧ Below w.heap.size w wr ∧ Hid (acc ++ (left s pos).flatMap (folded Lo) = fl) ∧ acc.length ≤ 4 * pos) (fun _ wr => s.size - wr.iterPos (w.heap.size + 1))
  case atStart =>
    refine ⟨0, [], ?_, by omega, ?_, hB1.trans ((Below.refl _ w1).alloc (by omega) _), hide (unhide HL0), by simp⟩
    · exact hO1.keep fun k hk => Below.heap_alloc _ _ _ hk
    · rw [← hS1]; exact World.iter_heap w1 s 0
  case round =>
    obtain ⟨pos, acc, hown, hps, hit, hbw, HA, hal⟩ := hrel
    have hsz : w.heap.size + 1 < wr.heap.size := (Array.getElem?_eq_some_iff.1 hit).1
    by_cases hp : pos < s.size
    · obtain ⟨r, k, hrk⟩ : ∃ r k, Utf8.decode s pos = (r, k) := ⟨_, _, rfl⟩
      have hnx : ∀ ty, (Instr.next (.pointer (some ⟨w.heap.size + 1, 0, none⟩)) true ty).run Tryd.prog wr = _ := fun ty => Lib.run_next_any_at wr (w.heap.size + 1) s pos ty hit hp
      have hwd := width s pos hp
      have hit2 := Lib.iterAt_heap wr (w.heap.size + 1) s pos (pos + k) hit
      have hbw2 := Lib.below_iterAt hbw (k := w.heap.size + 1) (by omega) s (pos + k)
      have hown2 := hown.iterAt hit (pos + k)
      have hst := left_step s pos hp
      have hsz2 : w.heap.size ≤ (wr.iterAt (w.heap.size + 1) s (pos + k)).heap.size := by rw [Lib.iterAt_size]; omega
      have hr21 := Lib.decodeL_rune (s.data.toList.drop pos)
      rw [← rune_at] at hr21
      simp only [hrk] at hnx hwd hst hr21
      have hacc := unhide HA
      rw [hst, List.flatMap_cons, ← List.append_assoc] at hacc
      have HD := hide hrk
      have hdl : Lib.decodeL (s.data.toList.drop pos) = (r, k) := by rw [← rune_at]; exact hrk
      have hone := one_good (s.data.toList.drop pos)
      have honeB := one_bad (s.data.toList.drop pos)
      rw [hdl] at hone honeB
      have hfl : (folded Lo (one (s.data.toList.drop pos))).length ≤ 4 * k := by
        by_cases hb : r = 65533 ∧ k = 1
        · rw [honeB hb]
          simp only [folded, if_true, List.length_take]
          omega
        · rw [hone hb]
          have := encode_len (Lo r)
          simp only [folded, Bool.false_eq_true, if_false]
          omega
      have fin : ∀ v w4, Own w.heap.size w4 v (acc ++ folded Lo (one (s.data.toList.drop pos))) → w4.heap[w.heap.size + 1]? = some (.stringIter s (pos + k)) → Below w.heap.size w w4 →
          ((∃ pos acc, Own w.heap.size w4 v acc ∧ pos ≤ s.size ∧ w4.heap[w.heap.size + 1]? = some (Obj.stringIter s pos) ∧ Below w.heap.size w w4 ∧ Hid (acc ++ List.flatMap (folded Lo) (left s pos) = fl) ∧ acc.length ≤ 4 * pos) ∧
          s.size - w4.iterPos (w.heap.size + 1) < s.size - wr.iterPos (w.heap.size + 1)) := by
        intro v w4 h1 h2 h3
        refine ⟨⟨pos + k, _, h1, by omega, h2, h3, hide hacc, ?_⟩, ?_⟩
        · rw [List.length_append]; omega
        · simp only [World.iterPos, h2, hit]; omega
      have FIN := hide fin
      have HD1 := hide hone
      have HD2 := hide honeB
      clear fin hrk hst hdl hone honeB hacc hfl HA
      by_cases hbad : r = 65533 ∧ k = 1
      · have HB : Hid ((r = 65533 ∧ k = 1) ↔ true = true) := hide (by simp [hbad])
        have HE : Hid (folded Lo (one (s.data.toList.drop pos)) = [s[pos]'hp]) := hide (by
          rw [unhide HD2 hbad]
          simp only [folded, if_true]
          rw [Lib.takeA _ (List.length_pos_iff.2 (rest_ne s pos hp)), head_at s pos hp])
        clear hbad
        generalize hc0 : (s[pos]'hp) = c0 at *
        go_wp2_with (first | (go_at_call 25; refine (broken_at s pos r k hp HD true HB _).mono ?_; rintro e w' ⟨rfl, rfl⟩) | (refine wpList_app rfl _ _ rfl w.heap.size _ acc rfl (hown2.keep fun k hk => Below.heap_alloc _ _ _ hk) ⟨_, 0, none⟩ 1 1 rfl [c0] rfl ?_ ?_ ?_ ?_))
        · intro j hj
          obtain rfl : j = 0 := by omega
          rw [Addr.add_lit]
          exact cell_fresh _ _ _ _
        · show acc.length + 1 ≤ _
          omega
        · simp; omega
        · intro v3 w3 hO3 hG3
          go_wp2_with fail
          have hG4 := grown_alloc hG3
          refine unhide FIN v3 w3 ?_ (hown2.iter hG4 hit2) (hbw2.trans (hown2.below hG4 hsz2))
          rw [unhide HE]
          exact hO3
      · have HB : Hid ((r = 65533 ∧ k = 1) ↔ false = true) := hide (by simp [hbad])
        have HE : Hid (folded Lo (one (s.data.toList.drop pos)) = encodeRune (Lo r)) := hide (by
          rw [unhide HD1 hbad]
          rfl)
        obtain ⟨hlb, hlw⟩ := unhide HLO r (by omega)
        have HLW := hide hlw
        clear hbad hlw
        generalize Lo (r : Int) = q at *
        go_wp2_with fail
        refine (broken_at s pos r k hp HD false HB _).mono ?_
        rintro e w' ⟨rfl, rfl⟩
        go_wp2_with fail
        refine (unhide HLW _ ((unhide HU).below hbw2)).mono ?_
        rintro e w3 ⟨rfl, hb3⟩
        go_wp2_with fail
        refine (appendRune_at w.heap.size _ acc q hlb.1 hlb.2 w3 (hown2.keepB hb3) (Nat.le_trans hsz2 hb3.size) (by omega)).mono ?_
        rintro e w4 ⟨v4, rfl, hO4, hG4⟩
        have hO3 := hown2.keepB hb3
        have hb4 := hbw2.trans (hb3.mono hsz2)
        have hi3 : w3.heap[w.heap.size + 1]? = some (.stringIter s (pos + k)) := by
          rw [hb3.block _ (Array.getElem?_eq_some_iff.1 hit2).1]
          exact hit2
        go_wp2_with fail
        refine unhide FIN v4 w4 ?_ (hO3.iter hG4 hi3) (hb4.trans (hO3.below hG4 (Nat.le_trans hsz2 hb3.size)))
        rw [unhide HE]
        exact hO4
    · have hnx : ∀ ty, (Instr.next (.pointer (some ⟨w.heap.size + 1, 0, none⟩)) true ty).run Tryd.prog wr = _ := fun ty => Lib.run_next_end_at wr (w.heap.size + 1) s pos ty hit hp
      have htx := run_text hown
      go_wp2
      go_ret
      have hacc := unhide HA
      rw [left_end s pos hp] at hacc
      simp at hacc
      rw [← hacc]
      exact ⟨rfl, hbw⟩

set_option maxHeartbeats 8000000 in
set_option maxRecDepth 1000000 in
theorem same_walk (Lo : Int → Int) (hLo : LowOk Lo) (a b : ByteArray) (ha : a.size ≤ 1000000) (hb : b.size ≤ 1000000) (w : World) (hU : Uni w) :
    Calls Tryd.prog 10 #[.string a, .string b] w fun e w' => e = .returned (.bool ((tx (foldL Lo a.data.toList)).toList == (tx (foldL Lo b.data.toList)).toList)) ∧ Below w.heap.size w w' := by
  have HA := hide (fold_walk Lo hLo a ha)
  have HB := hide (fold_walk Lo hLo b hb)
  clear hLo
  generalize tx (foldL Lo a.data.toList) = fa at *
  generalize tx (foldL Lo b.data.toList) = fb at *
  go_enter Tryd.func10, Tryd.ntmps10
  go_wp2_with fail
  refine (unhide HA w hU).mono ?_
  rintro e w1 ⟨rfl, hb1⟩
  go_wp2_with fail
  refine (unhide HB w1 (hU.below hb1)).mono ?_
  rintro e w2 ⟨rfl, hb2⟩
  go_wp2_with fail
  go_ret
  exact ⟨rfl, hb1.trans (hb2.mono hb1.size)⟩
end Go.Proofs.YtdgebadjlkmdiaaDoor
