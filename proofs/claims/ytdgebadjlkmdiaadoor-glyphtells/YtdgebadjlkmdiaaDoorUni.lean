/-
  Names: what glyph.fits and glyph.Name answer, by the library's tables of letters and digits.
-/
import Derived.Test.YtdgebadjlkmdiaaDoorShow
namespace Go.Proofs.YtdgebadjlkmdiaaDoor
open Go.RowKit Go.Lib

/-- What the library's tables hold, with the other variables. -/
structure Uni (w : World) : Prop where
  env : Env w
  pr : Lib.TabIs Tryd.prog w "unicode.properties" .u8 Lib.propertiesTab
  le : RVar 1 letterT w
  di : RVar 2 digitT w
  ca : CaseVar 3 caseA w

theorem cell_keep {w w' : World} (hb : Below w.heap.size w w') {g i : Nat} {v : Value} (h : w.cell? ⟨g, i, none⟩ = some v) : w'.cell? ⟨g, i, none⟩ = some v := by
  have hg : g < w.heap.size := by
    rcases Nat.lt_or_ge g w.heap.size with k | k
    · exact k
    · simp [World.cell?, Array.getElem?_eq_none k] at h
  rw [cell_below hb hg]
  exact h
theorem rg_keep {w w' : World} (hb : Below w.heap.size w w') {k : IntKind} {R o : Nat} {T : Array Rg} (h : RgTab k R o T w) : RgTab k R o T w' := fun i hi =>
  ⟨cell_keep hb (h i hi).1, cell_keep hb (h i hi).2.1, cell_keep hb (h i hi).2.2⟩
theorem rvar_keep {w w' : World} (hb : Below w.heap.size w w') {g : Nat} {T : RTab} (h : RVar g T w) : RVar g T w' := by
  obtain ⟨Tb, oT, h1, a16, a32, R16, o16, c16, R32, o32, c32, h2, h3, h4, h5, h6, h7, h8, h9⟩ := h
  exact ⟨Tb, oT, cell_keep hb h1, a16, a32, R16, o16, c16, R32, o32, c32, cell_keep hb h2, cell_keep hb h3, cell_keep hb h4, h5, h6, rg_keep hb h7, rg_keep hb h8, h9⟩
theorem case_keep {w w' : World} (hb : Below w.heap.size w w') {g : Nat} {T : Array CaseRow} (h : CaseVar g T w) : CaseVar g T w' := by
  obtain ⟨R, o, c, h1, h2⟩ := h
  exact ⟨R, o, c, cell_keep hb h1, fun i hi => ⟨cell_keep hb (h2 i hi).1, cell_keep hb (h2 i hi).2.1, cell_keep hb (h2 i hi).2.2.1, cell_keep hb (h2 i hi).2.2.2.1, cell_keep hb (h2 i hi).2.2.2.2⟩⟩
theorem gProp : Tryd.prog.globalNamed "unicode.properties" = some 0 := by kernel_rfl
theorem tab_keep {w w' : World} (hb : Below w.heap.size w w') (hz : 10 ≤ w.heap.size) {k : IntKind} {zs : List Int} (h : Lib.TabIs Tryd.prog w "unicode.properties" k zs) : Lib.TabIs Tryd.prog w' "unicode.properties" k zs := by
  unfold Lib.TabIs World.var? at h ⊢
  simp only [gProp, Option.bind_some] at h ⊢
  rw [hb.block 0 (by omega)]
  exact h
theorem Uni.below {w w' : World} (h : Uni w) (hb : Below w.heap.size w w') : Uni w' :=
  ⟨h.env.below hb h.env.sz, tab_keep hb h.env.sz h.pr, rvar_keep hb h.le, rvar_keep hb h.di, case_keep hb h.ca⟩

def fitB (r : Int) (first : Bool) : Bool := isLetterU r || (!first && (isDigitU r || r == 45 || r == 95 || r == 46))

set_option maxHeartbeats 8000000 in
set_option maxRecDepth 1000000 in
theorem fits_walk (r : Int) (h0 : 0 ≤ r) (h1 : r ≤ 1114111) (b : Bool) (w : World) (hU : Uni w) :
    Calls Tryd.prog 21 #[.int .i32 r, .bool b] w fun e w' => e = .returned (.bool (fitB r b)) ∧ Below w.heap.size w w' := by
  have HL := hide (Tryd.unicode_IsLetter_all r w (by omega) (by omega) hU.pr hU.le)
  have HD : Hid (∀ w', Below w.heap.size w w' → Calls Tryd.prog 23 #[.int .i32 r] w' fun e w2 => e = .returned (.bool (isDigitU r)) ∧ Below w'.heap.size w' w2) := hide (fun w' hb => Tryd.unicode_IsDigit_all r w' (by omega) (by omega) (hU.below hb).di)
  unfold fitB
  generalize isLetterU r = L at *
  generalize isDigitU r = D at *
  cases L with
  | true =>
    go_enter Tryd.func21, Tryd.ntmps21
    go_wp2_with fail
    refine (unhide HL).mono ?_
    rintro e w1 ⟨rfl, hb1⟩
    go_wp2_with fail
    go_ret
    exact ⟨by simp, hb1⟩
  | false =>
    cases b with
    | true =>
      go_enter Tryd.func21, Tryd.ntmps21
      go_wp2_with fail
      refine (unhide HL).mono ?_
      rintro e w1 ⟨rfl, hb1⟩
      go_wp2_with fail
      go_ret
      exact ⟨rfl, hb1⟩
    | false =>
      go_enter Tryd.func21, Tryd.ntmps21
      go_wp2_with fail
      refine (unhide HL).mono ?_
      rintro e w1 ⟨rfl, hb1⟩
      go_wp2_with fail
      refine (unhide HD w1 hb1).mono ?_
      rintro e w2 ⟨rfl, hb2⟩
      have hb3 := hb1.trans (hb2.mono hb1.size)
      cases D with
      | true =>
        go_wp2_with fail
        go_ret
        exact ⟨by simp, hb3⟩
      | false =>
        go_wp2_with fail
        all_goals go_ret
        all_goals refine ⟨?_, hb3⟩
        all_goals (show Ending.returned (Value.bool _) = Ending.returned (Value.bool _))
        all_goals first | rfl | simp_all

/-- The number by which a rune comes. -/
def rvOf (r : Ru) : Int := if r.brk then 65533 else (r.num : Int)
theorem rv_one (l : List UInt8) : rvOf (one l) = ((decodeL l).1 : Int) := by
  by_cases h : (decodeL l).1 = 65533 ∧ (decodeL l).2 = 1
  · rw [one_bad l h, h.1]; rfl
  · rw [one_good l h]; rfl
def okAll (F : Int → Bool → Bool) : Bool → List Ru → Bool
  | _, [] => true
  | b, r :: t => F (rvOf r) b && okAll F false t
def nameV (F : Int → Bool → Bool) (rs : List Ru) : Int := if rs.length = 0 ∨ 24 < rs.length ∨ okAll F true rs = false then 41 else 0
theorem nameV_long {F : Int → Bool → Bool} {rs : List Ru} (h : rs.length = 0 ∨ 24 < rs.length) : nameV F rs = 41 := by
  unfold nameV
  rw [if_pos]
  rcases h with h | h
  · exact .inl h
  · exact .inr (.inl h)
theorem nameV_bad {F : Int → Bool → Bool} {rs : List Ru} (h : okAll F true rs = false) : nameV F rs = 41 := by
  unfold nameV
  rw [if_pos (.inr (.inr h))]
theorem nameV_good {F : Int → Bool → Bool} {rs : List Ru} (h0 : rs.length ≠ 0) (h1 : rs.length ≤ 24) (h : okAll F true rs = true) : nameV F rs = 0 := by
  unfold nameV
  rw [if_neg]
  rintro (k | k | k)
  · exact h0 k
  · omega
  · rw [h] at k; exact absurd k (by decide)

set_option maxHeartbeats 8000000 in
set_option maxRecDepth 1000000 in
theorem name_walk (F : Int → Bool → Bool) (hF : ∀ (r : Nat), r ≤ 1114111 → ∀ (b : Bool) (w : World), Uni w → Calls Tryd.prog 21 #[.int .i32 (r : Int), .bool b] w fun e w' => e = .returned (.bool (F r b)) ∧ Below w.heap.size w w') (s : ByteArray) (hs : s.size ≤ 1000000) (w : World) (hU : Uni w) :
    Calls Tryd.prog 9 #[.string s] w fun e w' => e = .returned (.int .i64 (nameV F (runes s.data.toList))) ∧ Below w.heap.size w w' := by
  have HFF := hide hF
  have HU := hide hU
  clear hF hU
  have hl0 : left s 0 = runes s.data.toList := by simp [left]
  generalize runes s.data.toList = rs at *
  go_enter Tryd.func9, Tryd.ntmps9
  go_wp2
  go_loopw [3] (fun c wr => ∃ (pos n : Nat), c = .int .i64 (n : Int) ∧ pos ≤ s.size ∧ n ≤ 24 ∧ n ≤ pos ∧ (n = 0 → pos = 0) ∧ wr.heap[w.heap.size]? = some (.stringIter s pos) ∧ Below w.heap.size w wr ∧ Hid (n + (left s pos).length = rs.length ∧ okAll F true rs = okAll F (decide (pos = 0)) (left s pos))) (fun _ wr => s.size - wr.iterPos w.heap.size)
  case atStart =>
    exact ⟨0, 0, rfl, by omega, by omega, by omega, fun _ => rfl, World.iter_heap w s 0, (Below.refl _ w).alloc (Nat.le_refl _) _, hide ⟨by rw [hl0]; simp, by rw [hl0]; rfl⟩⟩
  case round =>
    obtain ⟨pos, n, rfl, hps, hn24, hnp, hn0, hit, hbw, HI⟩ := hrel
    have hsz : w.heap.size < wr.heap.size := (Array.getElem?_eq_some_iff.1 hit).1
    by_cases hp : pos < s.size
    · obtain ⟨r, k, hrk⟩ : ∃ r k, Utf8.decode s pos = (r, k) := ⟨_, _, rfl⟩
      have hnx : ∀ ty, (Instr.next (.pointer (some ⟨w.heap.size, 0, none⟩)) true ty).run Tryd.prog wr = _ := fun ty => Lib.run_next_any_at wr w.heap.size s pos ty hit hp
      have hwd := width s pos hp
      have hit2 := Lib.iterAt_heap wr w.heap.size s pos (pos + k) hit
      have hbw2 := Lib.below_iterAt hbw (k := w.heap.size) (by omega) s (pos + k)
      have hst := left_step s pos hp
      have hrv := rv_one (s.data.toList.drop pos)
      rw [← rune_at] at hrv
      have hr21 := Lib.decodeL_rune (s.data.toList.drop pos)
      rw [← rune_at] at hr21
      simp only [hrk] at hnx hwd hst hrv hr21
      obtain ⟨i1, i2⟩ := unhide HI
      rw [hst] at i1 i2
      simp only [okAll, hrv, List.length_cons] at i1 i2
      have hf := unhide HFF r (by omega)
      clear hrk hst hrv
      by_cases h24 : n = 24
      · subst h24
        have HV : Hid (nameV F rs = 41) := hide (nameV_long (by omega))
        clear i1 i2 HI hf
        go_wp2_with fail
        go_ret
        rw [unhide HV]
        exact ⟨rfl, hbw2⟩
      · have hn24' : ¬ 24 < (n : Int) + 1 := by omega
        obtain ⟨b0, hb0⟩ : ∃ b0, b0 = decide (pos = 0) := ⟨_, rfl⟩
        have e0 : ((pos : Int) == 0) = b0 := by
          rw [hb0, Bool.eq_iff_iff]
          simp
        rw [← hb0] at i2
        have HNF := hide (show ¬ pos + k = 0 by omega)
        have hfw := hf b0
        cases hfb : F r b0 with
        | true =>
          rw [hfb] at i2 hfw
          simp only [Bool.true_and] at i2
          have HF := hide hfw
          have HN : Hid (n + 1 + (left s (pos + k)).length = rs.length ∧ okAll F true rs = okAll F (decide (pos + k = 0)) (left s (pos + k))) := hide ⟨by omega, by rw [i2, decide_eq_false (unhide HNF)]⟩
          clear i1 i2 HI hf hfb hfw hb0
          go_wp2_with fail
          refine (unhide HF _ ((unhide HU).below hbw2)).mono ?_
          rintro e w3 ⟨rfl, hb3⟩
          have hit3 : w3.heap[w.heap.size]? = some (.stringIter s (pos + k)) := by
            rw [hb3.block _ (Array.getElem?_eq_some_iff.1 hit2).1]
            exact hit2
          have hb4 := hbw2.trans (hb3.mono hbw2.size)
          go_wp2_with fail
          refine ⟨⟨pos + k, n + 1, by congr 1, by omega, by omega, by omega, by omega, hit3, hb4, HN⟩, ?_⟩
          simp only [World.iterPos, hit3, hit]
          omega
        | false =>
          rw [hfb] at i2 hfw
          simp only [Bool.false_and] at i2
          have HF := hide hfw
          have HV : Hid (nameV F rs = 41) := hide (nameV_bad i2)
          clear i1 i2 HI hf hfb hfw hb0
          go_wp2_with fail
          refine (unhide HF _ ((unhide HU).below hbw2)).mono ?_
          rintro e w3 ⟨rfl, hb3⟩
          have hb4 := hbw2.trans (hb3.mono hbw2.size)
          go_wp2_with fail
          go_ret
          rw [unhide HV]
          exact ⟨rfl, hb4⟩
    · have hnx : ∀ ty, (Instr.next (.pointer (some ⟨w.heap.size, 0, none⟩)) true ty).run Tryd.prog wr = _ := fun ty => Lib.run_next_end_at wr w.heap.size s pos ty hit hp
      obtain ⟨i1, i2⟩ := unhide HI
      rw [left_end s pos hp] at i1 i2
      simp only [okAll, List.length_nil] at i1 i2
      by_cases h0 : n = 0
      · subst h0
        have HV : Hid (nameV F rs = 41) := hide (nameV_long (by omega))
        clear i1 i2 HI
        go_wp2_with fail
        go_ret
        rw [unhide HV]
        exact ⟨rfl, hbw⟩
      · have HV : Hid (nameV F rs = 0) := hide (nameV_good (by omega) (by omega) i2)
        have h0' : ¬ (n : Int) = 0 := by omega
        clear i1 i2 HI h0
        go_wp2_with fail
        go_ret
        rw [unhide HV]
        exact ⟨rfl, hbw⟩
end Go.Proofs.YtdgebadjlkmdiaaDoor
