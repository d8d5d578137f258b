/-
  What the walks of this program carry; glyph.Len, glyph.Cut, glyph.broken and glyph.plain answer as plain Lean says.
-/
import Derived.Test.YtdgebadjlkmdiaaDoorShelf
import Derived.Test.YtdgebadjlkmdiaaDoorMath
import Derived.WalkKit
import Derived.BigCall
import Derived.WalkSpells
import Derived.WalkLawsBesides
import Derived.Lib.OthersKept
import Derived.Lib.AppendStr
import Derived.Lib.BufferRead
import Derived.OpenShut
namespace Go.Proofs.YtdgebadjlkmdiaaDoor
open Go.RowKit

theorem hide {p : Prop} (h : p) : Hid p := h
theorem unhide {p : Prop} (h : Hid p) : p := h

/-- A text as the program has it. -/
def tx (l : List UInt8) : ByteArray := ⟨l.toArray⟩
theorem tx_list (l : List UInt8) : (tx l).data.toList = l := by simp [tx]
theorem tx_size (l : List UInt8) : (tx l).size = l.length := by
  show l.toArray.size = _
  simp
theorem tx_of (s : ByteArray) : tx s.data.toList = s := by
  cases s
  simp [tx]
theorem len_of (s : ByteArray) : s.data.toList.length = s.size := by
  rw [Array.length_toList]; rfl

theorem rune_at (s : ByteArray) (pos : Nat) : Utf8.decode s pos = Lib.decodeL (s.data.toList.drop pos) := (Lib.decodeL_drop s pos).symm
theorem rest_ne (s : ByteArray) (pos : Nat) (h : pos < s.size) : s.data.toList.drop pos ≠ [] := by
  intro e
  have := congrArg List.length e
  rw [List.length_drop, len_of] at this
  simp at this
  omega

/-- The runes that are left. -/
def left (s : ByteArray) (pos : Nat) : List Ru := runes (s.data.toList.drop pos)
theorem left_end (s : ByteArray) (pos : Nat) (h : ¬ pos < s.size) : left s pos = [] := by
  unfold left
  rw [List.drop_of_length_le (by rw [len_of]; omega)]
  rfl
theorem left_step (s : ByteArray) (pos : Nat) (h : pos < s.size) : left s pos = one (s.data.toList.drop pos) :: left s (pos + (Utf8.decode s pos).2) := by
  unfold left
  rw [runes_cons _ (rest_ne s pos h), List.drop_drop, rune_at]
theorem width (s : ByteArray) (pos : Nat) (h : pos < s.size) : 1 ≤ (Utf8.decode s pos).2 ∧ pos + (Utf8.decode s pos).2 ≤ s.size := by
  have h1 := Lib.decodeL_width (s.data.toList.drop pos)
  have h2 := Lib.decodeL_le _ (rest_ne s pos h)
  rw [rune_at]
  rw [List.length_drop, len_of] at h2
  omega

set_option maxHeartbeats 4000000 in
set_option maxRecDepth 1000000 in
theorem len_walk (s : ByteArray) (w : World) (hs : s.size ≤ 140737488355328) :
    Calls Tryd.prog 12 #[.string s] w fun e w' => e = .returned (.int .i64 ((runes s.data.toList).length : Nat)) ∧ Below w.heap.size w w' := by
  go_enter Tryd.func12, Tryd.ntmps12
  go_wp2
  go_loopw [3] (fun c wr => ∃ (pos n : Nat), c = .int .i64 (n : Int) ∧ pos ≤ s.size ∧ n ≤ pos ∧ wr.heap[w.heap.size]? = some (.stringIter s pos) ∧ Below w.heap.size w wr ∧ n + (left s pos).length = (runes s.data.toList).length) (fun _ wr => s.size - wr.iterPos w.heap.size)
  case atStart =>
    refine ⟨0, 0, rfl, by omega, by omega, World.iter_heap w s 0, (Below.refl _ w).alloc (Nat.le_refl _) _, ?_⟩
    simp [left]
  case round =>
    obtain ⟨pos, n, rfl, hps, hnp, hit, hbw, hn⟩ := hrel
    have hsz : w.heap.size < wr.heap.size := (Array.getElem?_eq_some_iff.1 hit).1
    by_cases hp : pos < s.size
    · have hnx : ∀ ty, (Instr.next (.pointer (some ⟨w.heap.size, 0, none⟩)) true ty).run Tryd.prog wr = _ := fun ty => Lib.run_next_any_at wr w.heap.size s pos ty hit hp
      have hwd := width s pos hp
      have hit2 := Lib.iterAt_heap wr w.heap.size s pos (pos + (Utf8.decode s pos).2) hit
      have hbw2 := Lib.below_iterAt hbw (k := w.heap.size) (by omega) s (pos + (Utf8.decode s pos).2)
      have hst := left_step s pos hp
      go_wp2
      go_roundw
      case rel =>
        refine ⟨pos + (Utf8.decode s pos).2, n + 1, ?_, by omega, by omega, hit2, hbw2, ?_⟩
        · congr 1
        · rw [hst, List.length_cons] at hn
          omega
      case measure =>
        simp only [World.iterPos, hit2, hit]
        omega
    · have hnx : ∀ ty, (Instr.next (.pointer (some ⟨w.heap.size, 0, none⟩)) true ty).run Tryd.prog wr = _ := fun ty => Lib.run_next_end_at wr w.heap.size s pos ty hit hp
      go_wp2
      go_ret
      rw [left_end s pos hp] at hn
      refine ⟨?_, hbw⟩
      simp at hn
      rw [hn]
      rfl

theorem tx_take (s : ByteArray) (k : Nat) : tx (s.data.toList.take k) = s.extract 0 k := by
  have h : s.data.toList.take k = (s.extract 0 k).data.toList := by
    rw [ByteArray.data_extract, Array.toList_extract]
    simp
  rw [h, tx_of]
theorem tx_drop (s : ByteArray) (k : Nat) : tx (s.data.toList.drop k) = s.extract k s.size := by
  have h : s.data.toList.drop k = (s.extract k s.size).data.toList := by
    rw [ByteArray.data_extract, Array.toList_extract]
    simp
    rw [List.take_of_length_le (by rw [List.length_drop, len_of]; omega)]
  rw [h, tx_of]
theorem drop_cons {α : Type} : ∀ {n : Nat} {rs rest : List α} {r : α}, rs.drop n = r :: rest → n < rs.length ∧ rs.take (n + 1) = rs.take n ++ [r] ∧ rs.drop (n + 1) = rest
  | 0, rs, rest, r, h => by
    simp at h
    subst h
    simp
  | n + 1, [], rest, r, h => by simp at h
  | n + 1, x :: rs, rest, r, h => by
    have := drop_cons (n := n) (rs := rs) h
    simp only [List.length_cons, List.take_succ_cons, List.drop_succ_cons, List.cons_append]
    exact ⟨by omega, by rw [this.2.1], this.2.2⟩

set_option maxHeartbeats 4000000 in
set_option maxRecDepth 1000000 in
theorem cut_walk (s : ByteArray) (m : Int) (hm0 : -9223372036854775808 ≤ m) (hm1 : m ≤ 9223372036854775807) (w : World) (hs : s.size ≤ 140737488355328) :
    Calls Tryd.prog 16 #[.string s, .int .i64 m] w fun e w' => e = .returned (.string (tx (((runes s.data.toList).take m.toNat).flatMap Ru.bytes))) ∧ Below w.heap.size w w' := by
  go_enter Tryd.func16, Tryd.ntmps16
  go_wp2
  go_loopw [1] (fun c wr => ∃ (pos n : Nat) (q : Int), c = .int .i64 q ∧ q ≤ m ∧ (n : Int) = m - q ∧ (0 < n → 0 ≤ q) ∧ pos ≤ s.size ∧ wr.heap[w.heap.size]? = some (.stringIter s pos) ∧ Below w.heap.size w wr ∧ n ≤ (runes s.data.toList).length ∧ s.data.toList.take pos = ((runes s.data.toList).take n).flatMap Ru.bytes ∧ left s pos = (runes s.data.toList).drop n) (fun _ wr => s.size - wr.iterPos w.heap.size)
  case atStart =>
    refine ⟨0, 0, m, rfl, by omega, by omega, by omega, by omega, World.iter_heap w s 0, (Below.refl _ w).alloc (Nat.le_refl _) _, by omega, ?_, ?_⟩
    · simp
    · simp [left]
  case round =>
    obtain ⟨pos, n, q, rfl, hqm, hnq, hq0, hps, hit, hbw, hnl, htk, hdr⟩ := hrel
    have hsz : w.heap.size < wr.heap.size := (Array.getElem?_eq_some_iff.1 hit).1
    by_cases hp : pos < s.size
    · have hnx : ∀ ty, (Instr.next (.pointer (some ⟨w.heap.size, 0, none⟩)) true ty).run Tryd.prog wr = _ := fun ty => Lib.run_next_any_at wr w.heap.size s pos ty hit hp
      have hwd := width s pos hp
      have hit2 := Lib.iterAt_heap wr w.heap.size s pos (pos + (Utf8.decode s pos).2) hit
      have hbw2 := Lib.below_iterAt hbw (k := w.heap.size) (by omega) s (pos + (Utf8.decode s pos).2)
      have hst := left_step s pos hp
      go_wp2
      · go_ret
        have hq1 : q < 1 := by assumption
        have e : m.toNat = n := by omega
        refine ⟨?_, hbw2⟩
        rw [e, ← htk, tx_take]
        rfl
      · rw [hst] at hdr
        obtain ⟨d1, d2, d3⟩ := drop_cons hdr.symm
        refine ⟨⟨pos + (Utf8.decode s pos).2, n + 1, q - 1, rfl, by omega, by omega, by omega, by omega, hit2, hbw2, by omega, ?_, d3.symm⟩, ?_⟩
        · rw [d2, List.flatMap_append, ← htk, List.take_add]
          simp [one_bytes, rune_at]
        · simp only [World.iterPos, hit2, hit]
          omega
    · have hnx : ∀ ty, (Instr.next (.pointer (some ⟨w.heap.size, 0, none⟩)) true ty).run Tryd.prog wr = _ := fun ty => Lib.run_next_end_at wr w.heap.size s pos ty hit hp
      go_wp2
      go_ret
      rw [left_end s pos hp] at hdr
      have hn : (runes s.data.toList).length ≤ n := List.drop_eq_nil_iff.1 hdr.symm
      refine ⟨?_, hbw⟩
      have hmn : n ≤ m.toNat := by omega
      rw [List.take_of_length_le (by omega), runes_flat, tx_of]
      rfl

set_option maxHeartbeats 4000000 in
set_option maxRecDepth 1000000 in
theorem broken_walk (s : ByteArray) (pos : Nat) (hp : pos < s.size) (r : Int) (w : World) :
    Calls Tryd.prog 25 #[.string s, .int .i64 (pos : Int), .int .i32 r] w fun e w' => e = .returned (.bool (decide (r = 65533 ∧ Lib.hasPrefix (s.data.toList.drop pos) [239, 191, 189] = false))) ∧ w' = w := by
  go_enter Tryd.func25, Tryd.ntmps25
  by_cases hr : r = 65533
  · subst hr
    go_wp2_with (first | (go_at_call 32; refine (Tryd.strings_HasPrefix _ _ _).mono ?_; rintro e w' ⟨rfl, rfl⟩))
    go_ret
    refine ⟨?_, rfl⟩
    rw [List.take_of_length_le (by rw [List.length_drop, len_of]; omega)]
    rfl
  · go_wp2_with fail
    go_ret
    refine ⟨?_, rfl⟩
    show Ending.returned (Value.bool false) = _
    simp [hr]

set_option maxHeartbeats 4000000 in
set_option maxRecDepth 1000000 in
theorem plain_walk (r : Int) (h0 : 0 ≤ r) (w : World) :
    Calls Tryd.prog 29 #[.int .i32 r] w fun e w' => e = .returned (.bool (plainN r.toNat)) ∧ w' = w := by
  go_enter Tryd.func29, Tryd.ntmps29
  go_wp2
  all_goals (go_ret; refine ⟨?_, rfl⟩; show Ending.returned (Value.bool _) = Ending.returned (Value.bool _); congr 2; rw [Bool.eq_iff_iff]; simp only [plainN, Bool.and_eq_true, decide_eq_true_eq, bne_iff_ne, ne_eq, Bool.false_eq_true, false_iff]; omega)
end Go.Proofs.YtdgebadjlkmdiaaDoor
