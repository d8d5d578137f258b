/-
  What glyph.Read answers of any text; the chapter's example.
-/
import Derived.Test.YtdgebadjlkmdiaaDoorRead
namespace Go.Proofs.YtdgebadjlkmdiaaDoor
open Go.RowKit

theorem index_bound : ∀ (l : List UInt8), 0 ≤ Lib.index l [125] → (Lib.index l [125]).toNat + 1 ≤ l.length
  | [], h => by simp [Lib.index] at h
  | c :: l, h => by
    unfold Lib.index at h ⊢
    split
    · simp
    · rename_i hc
      rw [if_neg hc] at h
      split
      · rename_i h1
        rw [if_pos h1] at h
        exact absurd h (by decide)
      · rename_i h1
        rw [if_neg h1] at h
        have h2 : Lib.index l [125] ≠ -1 := by simpa using h1
        have h3 : -1 ≤ Lib.index l [125] := by omega
        have := index_bound l (by omega)
        simp only [List.length_cons]
        omega
theorem cut_found (l : List UInt8) (h : (Lib.cut l [125]).2.2 = true) : (Lib.cut l [125]).1.length + 1 ≤ l.length := by
  unfold Lib.cut at h ⊢
  split
  · rename_i h1
    have := index_bound l h1
    simp only [List.length_take]
    omega
  · rename_i h1
    rw [if_neg h1] at h
    exact absurd h (by simp)
theorem readOneL_le {l b : List UInt8} {k : Nat} (hl : l ≠ []) (h : readOneL l = some (b, k)) : k ≤ l.length ∧ b.length ≤ 4 := by
  unfold readOneL at h
  split at h
  · rename_i hp
    split at h
    · rename_i hc
      rw [Option.map_eq_some_iff] at h
      obtain ⟨n, _, e⟩ := h
      cases e
      have h1 := cut_found _ hc
      have h2 := prefix_len hp
      rw [List.length_drop] at h1
      have := Lib.encodeRuneZ_length (n : Int)
      simp only [Lib.encodeRune, List.length_map]
      simp at h2
      omega
    · exact absurd h (by simp)
  · split at h
    · split at h
      · exact absurd h (by simp)
      · rw [Option.map_eq_some_iff] at h
        obtain ⟨n, _, e⟩ := h
        cases e
        simp
        omega
    · cases h
      have := List.length_pos_iff.2 hl
      simp
      omega

theorem str_ne {q s : ByteArray} (h : q ≠ s) : (q.toList == s.toList) = false := by
  rw [ByteArray.toList_eq, ByteArray.toList_eq, beq_eq_false_iff_ne]
  intro e
  exact h (by rw [← tx_of q, e, tx_of])
theorem str_some {s : ByteArray} (h : s.size ≠ 0) : s.toList.isEmpty = false := by
  rw [ByteArray.toList_eq]
  cases hh : s.data.toList with
  | nil => have := len_of s; rw [hh] at this; simp at this; omega
  | cons => rfl
def strLen : Value → Nat
  | .string r => r.size
  | _ => 0
/-- The answer of glyph.Read. -/
def readV (r : Option (List UInt8)) : Value :=
  match r with
  | some t => .tuple #[.string (tx t), .int .i64 0]
  | none => .tuple #[.string ⟨#[]⟩, .int .i64 41]

set_option maxHeartbeats 8000000 in
set_option maxRecDepth 1000000 in
theorem read_walk (s : ByteArray) (hs : s.size ≤ 200000) (w : World) (hE : Env w) :
    Calls Tryd.prog 7 #[.string s] w fun e w' => e = .returned (readV (readL s.data.toList)) ∧ Below w.heap.size w w' := by
  obtain ⟨w1, hmk, hO1, hB1, hS1⟩ := make_bytes w s.size (by omega)
  go_enter Tryd.func7, Tryd.ntmps7
  go_wp2
  go_loopw [4, 5] (fun cb cr wr => ∃ (acc : List UInt8) (rest : ByteArray), cr = .string rest ∧ Own w.heap.size wr cb acc ∧ Below w.heap.size w wr ∧ acc.length + 4 * rest.size ≤ 4 * s.size ∧ Hid (readF s.size acc rest.data.toList = readF s.size [] s.data.toList)) (fun _ cr _ => strLen cr)
  case atStart =>
    exact ⟨[], s, rfl, hO1, hB1, by simp, hide rfl⟩
  case round =>
    obtain ⟨acc, rest, rfl, hown, hbw, hal, HR⟩ := hrel
    by_cases hne : rest.size = 0
    · have e0 : rest.data.toList = [] := List.length_eq_zero_iff.1 (by rw [len_of]; exact hne)
      have e1 : rest = ⟨#[]⟩ := by rw [← tx_of rest, e0]; rfl
      have htx := run_text hown
      have hsh := show_walk (tx acc) wr (hE.below hbw hE.sz) (by rw [tx_size]; omega)
      rw [tx_list] at hsh
      have h2 := unhide HR
      rw [e0, readF_nil] at h2
      subst e1
      have HS := hide hsh
      clear hsh HR e0
      by_cases heq : showL acc = s.data.toList
      · have hres : readL s.data.toList = some acc := by
          unfold readL
          rw [len_of, ← h2]
          simp [heq]
        have hts : tx (showL acc) = s := by rw [heq, tx_of]
        have HRES := hide hres
        rw [hts] at HS
        clear h2 heq hres hts
        go_wp2_with (go_at_call 18; refine (unhide HS).mono ?_; rintro e w2 ⟨rfl, hb2⟩)
        go_ret2
        rw [unhide HRES]
        exact ⟨rfl, hbw.trans (hb2.mono hbw.size)⟩
      · have hres : readL s.data.toList = none := by
          unfold readL
          rw [len_of, ← h2]
          simp [heq]
        have hts : tx (showL acc) ≠ s := by
          intro e
          exact heq (by rw [← e, tx_list])
        have HRES := hide hres
        clear h2 heq hres
        generalize tx (showL acc) = q at HS hts
        have hqs := str_ne hts
        clear hts
        go_wp2_with (go_at_call 18; refine (unhide HS).mono ?_; rintro e w2 ⟨rfl, hb2⟩)
        go_ret2
        rw [unhide HRES]
        exact ⟨rfl, hbw.trans (hb2.mono hbw.size)⟩
    · have h1 : 1 ≤ rest.size := by omega
      have hemp := str_some hne
      have hc := readOne_walk w.heap.size _ acc rest h1 (by omega) wr (hE.below hbw hE.sz) hown hbw.size (by omega)
      have hnl : rest.data.toList ≠ [] := by intro e; have := len_of rest; rw [e] at this; simp at this; omega
      have hst := readF_step s.size acc rest.data.toList hnl (by rw [len_of]; omega)
      have hbnd := @readOneL_le rest.data.toList
      cases hr : readOneL rest.data.toList with
      | none =>
        rw [hr] at hc hst
        have hres : readL s.data.toList = none := by
          unfold readL
          rw [len_of, ← unhide HR, hst]
        have HRES := hide hres
        have HC := hide hc
        clear hc hst hres hbnd
        go_wp2_with (go_at_call 20; refine (unhide HC).mono ?_; rintro e w2 ⟨⟨v2, rfl⟩, hG2⟩)
        go_ret2
        rw [unhide HRES]
        exact ⟨rfl, hbw.trans (hown.below hG2 hbw.size)⟩
      | some p =>
        obtain ⟨b, k⟩ := p
        rw [hr] at hc hst
        have hk1 := readOneL_pos hr
        have hk2 := hbnd hnl hr
        rw [len_of] at hk2
        have HC := hide hc
        have HN : Hid (readF s.size (acc ++ b) (rest.data.toList.drop k) = readF s.size [] s.data.toList) := hide (by rw [← unhide HR, hst])
        clear hc hst hr hbnd
        go_wp2_with (go_at_call 20; refine (unhide HC).mono ?_; rintro e w2 ⟨⟨v2, rfl, hO2⟩, hG2⟩)
        go_region
        go_wp2
        have hb3 := (hbw.trans (hown.below hG2 hbw.size)).trans (Below.drew (Below.refl _ _))
        refine ⟨⟨acc ++ b, rest.extract k rest.size, rfl, hO2.keep fun _ _ => rfl, hb3, ?_, ?_⟩, ?_⟩
        · rw [List.length_append, ByteArray.size_extract]; omega
        · rw [ex_from]; exact HN
        · simp only [strLen]
          rw [ByteArray.size_extract]
          omega

/-- The chapter's example. -/
def ex0 : ByteArray := ⟨#[83, 116, 114, 97, 195, 159, 101]⟩
def ex1 : ByteArray := ⟨#[83, 116, 114, 97, 92, 117, 123, 100, 102, 125, 101]⟩
theorem ex_len : (runes ex0.data.toList).length = 6 := by decide +kernel
theorem ex_show : showL ex0.data.toList = ex1.data.toList := by decide +kernel
theorem ex_read : readL ex1.data.toList = some ex0.data.toList := by rw [← ex_show]; exact readL_show _

set_option maxHeartbeats 8000000 in
set_option maxRecDepth 1000000 in
theorem alive_walk (w : World) (hE : Env w) : Calls Tryd.prog 8 #[] w fun e w' => e = .returned (.bool true) ∧ Below w.heap.size w w' := by
  have h1 : ∀ w, Env w → Calls Tryd.prog 7 #[.string ex1] w fun e w' => e = .returned (.tuple #[.string ex0, .int .i64 0]) ∧ Below w.heap.size w w' := fun w hE => by
    have := read_walk ex1 (by decide) w hE
    rw [ex_read] at this
    exact this
  have h2 : ∀ w, Calls Tryd.prog 12 #[.string ex0] w fun e w' => e = .returned (.int .i64 6) ∧ Below w.heap.size w w' := fun w => by
    have := len_walk ex0 w (by decide)
    rw [ex_len] at this
    exact this
  have h3 : ∀ w, Env w → Calls Tryd.prog 18 #[.string ex0] w fun e w' => e = .returned (.string ex1) ∧ Below w.heap.size w w' := fun w hE => by
    have := show_walk ex0 w hE (by decide)
    rw [ex_show] at this
    exact this
  have H1 := hide h1
  have H2 := hide h2
  have H3 := hide h3
  clear h1 h2 h3
  have hq0 : (ex0.toList == [83, 116, 114, 97, 195, 159, 101]) = true := by rw [ByteArray.toList_eq]; decide
  have hq1 : (ex1.toList == [83, 116, 114, 97, 92, 117, 123, 100, 102, 125, 101]) = true := by rw [ByteArray.toList_eq]; decide
  go_enter Tryd.func8, Tryd.ntmps8
  go_wp2_with (first | (go_at_call 7; refine (unhide H1 _ hE).mono ?_; rintro e w1 ⟨rfl, hb1⟩) | (go_at_call 12; refine (unhide H2 _).mono ?_; rintro e w2 ⟨rfl, hb2⟩; have hb2' := hb1.trans (hb2.mono hb1.size)) | (go_at_call 18; refine (unhide H3 _ (hE.below hb2' hE.sz)).mono ?_; rintro e w3 ⟨rfl, hb3⟩))
  go_ret
  exact ⟨rfl, hb2'.trans (hb3.mono hb2'.size)⟩
end Go.Proofs.YtdgebadjlkmdiaaDoor
