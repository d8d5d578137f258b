/-
  GlyphReads returns true, whatever the two texts.
-/
import Derived.Test.YtdgebadjlkmdiaaDoorRShow
namespace Go.Proofs.YtdgebadjlkmdiaaDoor.glyphReads
open Go.RowKit

theorem str_eq (s : ByteArray) : (s.toList == s.toList) = true := by simp

set_option maxHeartbeats 16000000 in
set_option maxRecDepth 1000000 in
theorem walk (a s : ByteArray) (W : World) (hE : Env W) (ha : a.size ≤ maxLen) (hs : s.size ≤ maxLen) :
    Calls Tryd.prog 5 #[.string a, .string s] W fun e W' => e = .returned (.bool true) ∧ Below W.heap.size W W' := by
  have haz : (a.size : Int) ≤ 9223372036854775807 := by simp only [maxLen] at ha; omega
  have hsz : (s.size : Int) ≤ 9223372036854775807 := by simp only [maxLen] at hs; omega
  clear ha hs
  have HA := hide (alive_walk W hE)
  by_cases ha5 : 500 < (a.size : Int)
  · go_enter Tryd.func5, Tryd.ntmps5
    go_wp2_with (go_at_call 8; refine (unhide HA).mono ?_; rintro e w1 ⟨rfl, hb1⟩)
    go_ret
    exact ⟨rfl, hb1⟩
  · by_cases hs5 : 500 < (s.size : Int)
    · go_enter Tryd.func5, Tryd.ntmps5
      go_wp2_with (go_at_call 8; refine (unhide HA).mono ?_; rintro e w1 ⟨rfl, hb1⟩)
      go_ret
      exact ⟨rfl, hb1⟩
    · have hsl := showL_len a.data.toList
      rw [len_of] at hsl
      have S1 : ∀ w, Env w → Calls Tryd.prog 18 #[.string a] w fun e w' => e = .returned (.string (tx (showL a.data.toList))) ∧ Below w.heap.size w w' := fun w hE => show_walk a w hE (by omega)
      have R1 : ∀ w, Env w → Calls Tryd.prog 7 #[.string (tx (showL a.data.toList))] w fun e w' => e = .returned (.tuple #[.string a, .int .i64 0]) ∧ Below w.heap.size w w' := fun w hE => by
        have := read_walk (tx (showL a.data.toList)) (by rw [tx_size]; omega) w hE
        rw [tx_list, readL_show] at this
        have e1 : readV (some a.data.toList) = .tuple #[.string a, .int .i64 0] := by
          show Value.tuple #[.string (tx a.data.toList), .int .i64 0] = _
          rw [tx_of]
        rw [e1] at this
        exact this
      have R2 : ∀ w, Env w → Calls Tryd.prog 7 #[.string s] w fun e w' => e = .returned (readV (readL s.data.toList)) ∧ Below w.heap.size w w' := fun w hE => read_walk s (by omega) w hE
      generalize tx (showL a.data.toList) = q at *
      have HS1 := hide S1
      have HR1 := hide R1
      clear S1 R1 hsl
      have hqa := str_eq a
      cases hr : readL s.data.toList with
      | none =>
        have hse : s.toList.isEmpty = false := by
          apply str_some
          intro h0
          have e0 : s.data.toList = [] := List.length_eq_zero_iff.1 (by rw [len_of]; exact h0)
          rw [e0, readL_nil] at hr
          exact absurd hr (by simp)
        rw [hr] at R2
        have HR2 : Hid (∀ w, Env w → Calls Tryd.prog 7 #[.string s] w fun e w' => e = .returned (.tuple #[.string ⟨#[]⟩, .int .i64 41]) ∧ Below w.heap.size w w') := hide R2
        clear R2 hr
        go_enter Tryd.func5, Tryd.ntmps5
        go_wp2_with fail
        refine (unhide HA).mono ?_
        rintro e w1 ⟨rfl, hb1⟩
        go_wp2_with fail
        refine (unhide HS1 _ (hE.below hb1 hE.sz)).mono ?_
        rintro e w2 ⟨rfl, hb2⟩
        have hb3 := hb1.trans (hb2.mono hb1.size)
        clear hb2
        go_wp2_with fail
        refine (unhide HR1 _ (hE.below hb3 hE.sz)).mono ?_
        rintro e w4 ⟨rfl, hb4⟩
        have hb5 := hb3.trans (hb4.mono hb3.size)
        clear hb4 hb3
        go_wp2_with fail
        refine (unhide HR2 _ (hE.below hb5 hE.sz)).mono ?_
        rintro e w6 ⟨rfl, hb6⟩
        have hb7 := hb5.trans (hb6.mono hb5.size)
        clear hb6 hb5
        go_wp2_with fail
        go_ret
        exact ⟨rfl, hb7⟩
      | some t =>
        have hst := readL_some hr
        have htl : t.length ≤ 4 * s.size := by
          unfold readL at hr
          split at hr
          · exact absurd hr (by simp)
          · rename_i t' ht'
            split at hr
            · cases hr
              have := readF_len _ _ _ _ ht'
              rw [len_of] at this
              simpa using this
            · exact absurd hr (by simp)
        have D1 : ∀ w, Calls Tryd.prog 19 #[.string (tx t)] w fun e w' => e = .returned (.string s) ∧ Below w.heap.size w w' := fun w => by
          have := rshow_walk (tx t) (by rw [tx_size]; omega) w
          rw [tx_list, hst, tx_of] at this
          exact this
        rw [hr] at R2
        have HR2 : Hid (∀ w, Env w → Calls Tryd.prog 7 #[.string s] w fun e w' => e = .returned (.tuple #[.string (tx t), .int .i64 0]) ∧ Below w.heap.size w w') := hide R2
        have HD1 := hide D1
        clear R2 hr hst htl D1
        generalize tx t = x at *
        have hqs := str_eq s
        go_enter Tryd.func5, Tryd.ntmps5
        go_wp2_with fail
        refine (unhide HA).mono ?_
        rintro e w1 ⟨rfl, hb1⟩
        go_wp2_with fail
        refine (unhide HS1 _ (hE.below hb1 hE.sz)).mono ?_
        rintro e w2 ⟨rfl, hb2⟩
        have hb3 := hb1.trans (hb2.mono hb1.size)
        clear hb2
        go_wp2_with fail
        refine (unhide HR1 _ (hE.below hb3 hE.sz)).mono ?_
        rintro e w4 ⟨rfl, hb4⟩
        have hb5 := hb3.trans (hb4.mono hb3.size)
        clear hb4 hb3
        go_wp2_with fail
        refine (unhide HR2 _ (hE.below hb5 hE.sz)).mono ?_
        rintro e w6 ⟨rfl, hb6⟩
        have hb7 := hb5.trans (hb6.mono hb5.size)
        clear hb6 hb5
        go_wp2_with fail
        refine (unhide HD1 _).mono ?_
        rintro e w8 ⟨rfl, hb8⟩
        go_wp2_with fail
        go_ret
        exact ⟨rfl, hb7.trans (hb8.mono hb7.size)⟩
end Go.Proofs.YtdgebadjlkmdiaaDoor.glyphReads
