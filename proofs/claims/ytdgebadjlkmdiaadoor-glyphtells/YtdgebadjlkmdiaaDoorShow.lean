/-
  What glyph.Show answers: each rune of the text as it is shown, one behind the other.
-/
import Derived.Test.YtdgebadjlkmdiaaDoorTwo
namespace Go.Proofs.YtdgebadjlkmdiaaDoor
open Go.RowKit

theorem broken_at (s : ByteArray) (pos r k : Nat) (hp : pos < s.size) (hd : Hid (Utf8.decode s pos = (r, k))) (b : Bool) (hb : Hid ((r = 65533 ∧ k = 1) ↔ b = true)) (w : World) :
    Calls Tryd.prog 25 #[.string s, .int .i64 (pos : Int), .int .i32 (r : Int)] w fun e w' => e = .returned (.bool b) ∧ w' = w := by
  refine (broken_walk s pos hp _ w).mono ?_
  rintro e w' ⟨rfl, rfl⟩
  refine ⟨?_, rfl⟩
  congr 2
  have h := bad_iff (s.data.toList.drop pos)
  rw [← rune_at, unhide hd] at h
  dsimp only at h
  rw [Bool.eq_iff_iff, decide_eq_true_eq, ← unhide hb]
  constructor
  · rintro ⟨h1, h2⟩
    exact h.2 ⟨by omega, h2⟩
  · intro h1
    have := h.1 h1
    exact ⟨by omega, this.2⟩

theorem plain_at (n : Nat) (b : Bool) (hb : Hid (plainN n = b)) (w : World) : Calls Tryd.prog 29 #[.int .i32 (n : Int)] w fun e w' => e = .returned (.bool b) ∧ w' = w := by
  refine (plain_walk n (by omega) w).mono ?_
  rintro e w' ⟨rfl, rfl⟩
  exact ⟨by rw [← unhide hb]; rfl, rfl⟩

theorem head_at (s : ByteArray) (pos : Nat) (hp : pos < s.size) : (s.data.toList.drop pos).getD 0 0 = s[pos]'hp := by
  rw [List.getD_eq_getElem?_getD, List.getElem?_drop, Nat.add_zero, List.getElem?_eq_getElem (by rw [len_of]; exact hp)]
  rfl

set_option maxHeartbeats 8000000 in
set_option maxRecDepth 1000000 in
theorem show_walk (s : ByteArray) (w : World) (hE : Env w) (hs : s.size ≤ 1000000) :
    Calls Tryd.prog 18 #[.string s] w fun e w' => e = .returned (.string (tx (showL s.data.toList))) ∧ Below w.heap.size w w' := by
  obtain ⟨w1, hmk, hO1, hB1, hS1⟩ := make_bytes w s.size hs
  go_enter Tryd.func18, Tryd.ntmps18
  go_wp2
  go_loopw [3] (fun cb wr => ∃ (pos : Nat) (acc : List UInt8), Own w.heap.size wr cb acc ∧ pos ≤ s.size ∧ wr.heap[w.heap.size + 1]? = some (.stringIter s pos) ∧ Below w.heap.size w wr ∧ acc ++ (left s pos).flatMap shown = showL s.data.toList ∧ acc.length ≤ 10 * pos) (fun _ wr => s.size - wr.iterPos (w.heap.size + 1))
  case atStart =>
    refine ⟨0, [], ?_, by omega, ?_, hB1.trans ((Below.refl _ w1).alloc (by omega) _), by simp [left, showL], by simp⟩
    · exact hO1.keep fun k hk => Below.heap_alloc _ _ _ hk
    · rw [← hS1]; exact World.iter_heap w1 s 0
  case round =>
    obtain ⟨pos, acc, hown, hps, hit, hbw, hacc, hal⟩ := hrel
    have hsz : w.heap.size + 1 < wr.heap.size := (Array.getElem?_eq_some_iff.1 hit).1
    by_cases hp : pos < s.size
    · obtain ⟨r, k, hrk⟩ : ∃ r k, Utf8.decode s pos = (r, k) := ⟨_, _, rfl⟩
      have hnx : ∀ ty, (Instr.next (.pointer (some ⟨w.heap.size + 1, 0, none⟩)) true ty).run Tryd.prog wr = _ := fun ty => Lib.run_next_any_at wr (w.heap.size + 1) s pos ty hit hp
      have hwd := width s pos hp
      have hit2 := Lib.iterAt_heap wr (w.heap.size + 1) s pos (pos + k) hit
      have hbw2 := Lib.below_iterAt hbw (k := w.heap.size + 1) (by omega) s (pos + k)
      have hown2 := hown.iterAt hit (pos + k)
      have hst := left_step s pos hp
      have hsz2 : w.heap.size ≤ (wr.iterAt (w.heap.size + 1) s (pos + k)).heap.size := by rw [Lib.iterAt_size]; omega
      simp only [hrk] at hnx hwd hst
      rw [hst, List.flatMap_cons] at hacc
      have hlen := shown_len (s.data.toList.drop pos)
      have HD := hide hrk
      have HA := hide hacc
      have HL := hide hlen
      have hdl : Lib.decodeL (s.data.toList.drop pos) = (r, k) := by rw [← rune_at]; exact hrk
      have hone := one_good (s.data.toList.drop pos)
      have honeB := one_bad (s.data.toList.drop pos)
      have hlow := one_low (s.data.toList.drop pos) (rest_ne s pos hp)
      rw [hdl] at hone honeB hlow
      have HD1 := hide hone
      have HD2 := hide honeB
      have HD3 := hide hlow
      have hr21 : r ≤ 1114111 := by have := Lib.decodeL_rune (s.data.toList.drop pos); rw [hdl] at this; exact this
      have hw64 : wrap64 (r : Int) = (r : Int) := by unfold wrap64; omega
      clear hrk hacc hst hlen hdl hone honeB hlow
      generalize hW : wr.iterAt (w.heap.size + 1) s (pos + k) = W at *
      have HW := hide hW
      clear hW
      have fin : ∀ v w4, Own w.heap.size w4 v (acc ++ shown (one (s.data.toList.drop pos))) → w4.heap[w.heap.size + 1]? = some (.stringIter s (pos + k)) → Below w.heap.size w w4 →
          ((∃ pos acc, Own w.heap.size w4 v acc ∧ pos ≤ s.size ∧ w4.heap[w.heap.size + 1]? = some (Obj.stringIter s pos) ∧ Below w.heap.size w w4 ∧ acc ++ List.flatMap shown (left s pos) = showL s.data.toList ∧ acc.length ≤ 10 * pos) ∧
          s.size - w4.iterPos (w.heap.size + 1) < s.size - wr.iterPos (w.heap.size + 1)) := by
        intro v w4 h1 h2 h3
        refine ⟨⟨pos + k, _, h1, by omega, h2, h3, ?_, ?_⟩, ?_⟩
        · rw [List.append_assoc]; exact unhide HA
        · rw [List.length_append]; have := unhide HL; omega
        · simp only [World.iterPos, h2, hit]; omega
      have FIN := hide fin
      clear fin
      by_cases hbad : r = 65533 ∧ k = 1
      · have HB : Hid ((r = 65533 ∧ k = 1) ↔ true = true) := hide (by simp [hbad])
        clear hbad
        go_wp2_with (first | (go_at_call 25; refine (broken_at s pos r k hp HD true HB _).mono ?_; rintro e w' ⟨rfl, rfl⟩) | (refine wpList_appStr rfl _ _ rfl w.heap.size _ acc rfl hown2 _ rfl ?_ ?_ ?_))
        · show acc.length + 2 ≤ 140737488355328; omega
        · exact hsz2
        · intro v3 w3 hO3 hG3
          have hc : (s[pos]'hp).toNat < 256 := (s[pos]'hp).toNat_lt
          have hb3 := hbw2.trans (hown2.below hG3 hsz2)
          have hi3 := hown2.iter hG3 hit2
          go_wp2_with fail
          have HO3 := hide hO3
          clear hO3 hG3
          refine Free.wp_region_tail 12 (VT v3 s pos (s[pos]'hp).toNat) (fun w' => Below w3.heap.size w3 w') (by kernel_rfl) (by decide) (by kernel_rfl) (by kernel_rfl) (by kernel_rfl) VT.stable (Below.drew (Below.refl _ _)) ⟨?_, ?_, ?_, ?_, ?_, ?_, ?_, ?_, ?_, ?_, ?_, ?_, trivial⟩ ?_
          · exact Free.owed_move (Free.goes_plain rfl) (.inl rfl) fun a w' _ hs _ => hs 3 (by kernel_rfl)
          · exact Free.owed_move (Free.goes_plain rfl) (.inl rfl) fun a w' _ hs _ => hs 0 (by kernel_rfl)
          · exact Free.owed_move (Free.goes_plain rfl) (.inl rfl) fun a w' _ hs _ => hs 4 (by kernel_rfl)
          · exact Free.owed_pure (Free.goes_plain rfl) fun a w' hC hs hd => ⟨_, run_idx rfl (hd 1 31 (by kernel_rfl)) (hd 2 32 (by kernel_rfl)) hp w', rfl⟩
          · exact Free.owed_pure (Free.goes_plain rfl) fun a w' hC hs hd => ⟨_, run_shr4 rfl (hd 3 33 (by kernel_rfl)) (fun _ => rfl) w', rfl⟩
          · exact Free.owed_pure (Free.goes_plain rfl) fun a w' hC hs hd => ⟨_, run_dig rfl (hd 4 34 (by kernel_rfl)) (fun _ => rfl) (by omega) w', rfl⟩
          · exact Free.owed_move (Free.goes_plain rfl) (.inl rfl) fun a w' _ hs _ => hs 0 (by kernel_rfl)
          · exact Free.owed_move (Free.goes_plain rfl) (.inl rfl) fun a w' _ hs _ => hs 4 (by kernel_rfl)
          · exact Free.owed_pure (Free.goes_plain rfl) fun a w' hC hs hd => ⟨_, run_idx rfl (hd 6 36 (by kernel_rfl)) (hd 7 37 (by kernel_rfl)) hp w', rfl⟩
          · exact Free.owed_pure (Free.goes_plain rfl) fun a w' hC hs hd => ⟨_, run_and4 rfl (hd 8 38 (by kernel_rfl)) (fun _ => rfl) hc w', rfl⟩
          · exact Free.owed_pure (Free.goes_plain rfl) fun a w' hC hs hd => ⟨_, run_dig rfl (hd 9 39 (by kernel_rfl)) (fun _ => rfl) (by omega) w', rfl⟩
          · refine Free.owed_value (Free.goes_plain rfl) fun a w' hC hs hd => ?_
            exact ⟨_, _, run_two rfl (hd 5 35 (by kernel_rfl)) (hd 10 40 (by kernel_rfl)) w', (Below.refl _ _).alloc (Nat.le_refl _) _, hC.alloc hC.size _, w'.heap.size, by simp, rfl, cell_fresh w' _ _ 0, cell_fresh w' _ _ 1⟩
          · intro w4 hC vals hv
            have e0 : vals 0 = v3 := hv 0 _ 30 rfl rfl
            have e11 : ∃ b, b < w4.heap.size ∧ vals 11 = .slice (some ⟨b, 0, none⟩) 2 2 ∧ w4.cell? ⟨b, 0, none⟩ = some (.int .u8 (((hexd ((s[pos]'hp).toNat / 16)).toNat : Nat) : Int)) ∧ w4.cell? ⟨b, 1, none⟩ = some (.int .u8 (((hexd ((s[pos]'hp).toNat % 16)).toNat : Nat) : Int)) := hv 11 _ 41 rfl rfl
            obtain ⟨b, hbl, e11, c0, c1⟩ := e11
            clear hv
            simp only [Free.putAll, List.take, List.drop, Act.put, List.setIfInBounds_toArray, List.set_cons_succ, List.set_cons_zero, e0, e11]
            clear e0 e11
            have hO4 := (unhide HO3).keepB hC
            have hsz4 : w.heap.size ≤ w4.heap.size := Nat.le_trans hb3.size hC.size
            refine wpList_app rfl _ _ rfl w.heap.size v3 _ rfl hO4 ⟨b, 0, none⟩ 2 2 rfl [hexd ((s[pos]'hp).toNat / 16), hexd ((s[pos]'hp).toNat % 16)] rfl ?_ ?_ hsz4 ?_
            · intro j hj
              rw [Addr.add_lit]
              match j, hj with
              | 0, _ => exact c0
              | 1, _ => exact c1
            · rw [List.length_append]
              show acc.length + 2 + 2 ≤ _
              omega
            · intro v5 w5 hO5 hG5
              go_wp2_with fail
              have hb5 := (hb3.trans (hC.mono hb3.size)).trans (hO4.below hG5 hsz4)
              refine unhide FIN v5 w5 ?_ ?_ hb5
              · have hsh : shown (one (s.data.toList.drop pos)) = [92, 120] ++ [hexd ((s[pos]'hp).toNat / 16), hexd ((s[pos]'hp).toNat % 16)] := by
                  rw [unhide HD2 ((unhide HB).2 trivial)]
                  unfold shown
                  rw [head_at s pos hp]
                  rfl
                rw [hsh, ← List.append_assoc]
                exact hO5
              · exact hO4.iter hG5 (by rw [hC.block _ (Array.getElem?_eq_some_iff.1 hi3).1]; exact hi3)
      · have HB : Hid ((r = 65533 ∧ k = 1) ↔ false = true) := hide (by simp [hbad])
        clear hbad
        by_cases hpl : plainN r = true
        · have HP := hide hpl
          clear hpl
          go_wp2_with (first | (go_at_call 25; refine (broken_at s pos r k hp HD false HB _).mono ?_; rintro e w' ⟨rfl, rfl⟩) | (go_at_call 29; refine (plain_at r true HP _).mono ?_; rintro e w' ⟨rfl, rfl⟩) | (refine wpList_app rfl _ _ rfl w.heap.size _ acc rfl (hown2.keep fun k hk => Below.heap_alloc _ _ _ hk) ⟨_, 0, none⟩ 1 1 rfl [UInt8.ofNat r] rfl ?_ ?_ ?_ ?_))
          · intro j hj
            obtain rfl : j = 0 := by omega
            rw [Addr.add_lit]
            exact cell_fresh _ _ _ _
          · first | omega | (simp; omega)
          · simp; omega
          · intro v3 w3 hO3 hG3
            go_wp2_with fail
            have hG4 := grown_alloc hG3
            refine unhide FIN v3 w3 ?_ (hown2.iter hG4 hit2) (hbw2.trans (hown2.below hG4 hsz2))
            have hp1 := unhide HP
            have hnb : ¬ (r = 65533 ∧ k = 1) := fun h => absurd ((unhide HB).1 h) (by decide)
            have hr128 : r < 128 := by
              simp only [plainN, Bool.and_eq_true, decide_eq_true_eq] at hp1
              omega
            obtain ⟨e1, _, e3⟩ := unhide HD3 hr128
            have hsh : shown (one (s.data.toList.drop pos)) = [UInt8.ofNat r] := by
              rw [unhide HD1 hnb]
              unfold shown
              simp only [Bool.false_eq_true, if_false, hp1, if_true]
              rw [e1, e3]
            rw [hsh]
            exact hO3
        · have HP : Hid (plainN r = false) := hide (by simpa using hpl)
          clear hpl
          go_wp2_with (first | (go_at_call 25; refine (broken_at s pos r k hp HD false HB _).mono ?_; rintro e w' ⟨rfl, rfl⟩) | (go_at_call 29; refine (plain_at r false HP _).mono ?_; rintro e w' ⟨rfl, rfl⟩) | (refine wpList_appStr rfl _ _ rfl w.heap.size _ acc rfl hown2 _ rfl ?_ ?_ ?_))
          · show acc.length + 3 ≤ 140737488355328; omega
          · exact hsz2
          · intro v3 w3 hO3 hG3
            have hb3 := hbw2.trans (hown2.below hG3 hsz2)
            have hi3 := hown2.iter hG3 hit2
            go_wp2_with (go_at_call 30; refine (appendInt_walk w.heap.size v3 (acc ++ [92, 117, 123]) r (by omega) w3 (hE.below hb3 hE.sz) hO3 hb3.size (by simp; omega)).mono ?_; rintro e w4 ⟨v4, rfl, hO4, hG4⟩; have hb4 := hb3.trans (hO3.below hG4 hb3.size); have hi4 := hO3.iter hG4 hi3; generalize hq : acc ++ [92, 117, 123] ++ hexL r = q at hO4; go_wp2_with (refine wpList_appStr rfl _ _ rfl w.heap.size _ q rfl hO4 _ rfl ?_ ?_ ?_))
            · have h1 := hexF_len (r + 1) r (by omega)
              show q.length + 1 ≤ _
              rw [← hq, List.length_append, List.length_append]
              show acc.length + 3 + (hexF (r + 1) r).length + 1 ≤ _
              omega
            · exact hb4.size
            · intro v5 w5 hO5 hG5
              go_wp2_with fail
              have hnb : ¬ (r = 65533 ∧ k = 1) := fun h => absurd ((unhide HB).1 h) (by decide)
              refine unhide FIN v5 w5 ?_ (hO4.iter hG5 hi4) (hb4.trans (hO4.below hG5 hb4.size))
              have hsh : shown (one (s.data.toList.drop pos)) = [92, 117, 123] ++ hexL r ++ [125] := by
                rw [unhide HD1 hnb]
                unfold shown
                simp only [Bool.false_eq_true, if_false, unhide HP]
              rw [hsh, ← List.append_assoc, ← List.append_assoc, hq]
              exact hO5
    · have hnx : ∀ ty, (Instr.next (.pointer (some ⟨w.heap.size + 1, 0, none⟩)) true ty).run Tryd.prog wr = _ := fun ty => Lib.run_next_end_at wr (w.heap.size + 1) s pos ty hit hp
      have htx := run_text hown
      go_wp2
      go_ret
      rw [left_end s pos hp] at hacc
      simp at hacc
      rw [← hacc]
      exact ⟨rfl, hbw⟩
end Go.Proofs.YtdgebadjlkmdiaaDoor
