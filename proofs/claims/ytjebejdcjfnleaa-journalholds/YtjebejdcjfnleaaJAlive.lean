/-
  The chapter's example, walked.
-/
import Derived.Test.YtjebejdcjfnleaaJMath
import Derived.Test.YtjebejdcjfnleaaJLaw
import Derived.LaidEqlPtr
namespace Go.Proofs.Ytjebejdcjfnleaa
open Go.RowKit

theorem RowV.but {w : World} {G : List Nat} {g n c : Nat} {l : List UInt8} (h : RowV w.heap.size w (.slice (some ⟨g, 0, none⟩) n c) l) (hg : g ∉ G) : ∀ w', But G w w' → RowV w'.heap.size w' (.slice (some ⟨g, 0, none⟩) n c) l := fun w' hb => by
  obtain ⟨a, len, cap, e, p1, p2, p3, p4, p5, p6⟩ := h
  refine ⟨a, len, cap, e, p1, p2, p3, p4, p5, fun m hm => ?_⟩
  obtain ⟨b, off, e1, e2, e3⟩ := p6 m hm
  cases e
  cases e1
  exact ⟨g, 0, rfl, Nat.lt_of_lt_of_le e2 hb.size, by rw [← e3]; exact cell_same (hb.block g e2 hg)⟩
theorem RowV.nilBut (G : List Nat) (w : World) : ∀ w', But G w w' → RowV w'.heap.size w' (.slice none 0 0) [] := fun _ _ => RowV.nil _ _
theorem letter_row (w : World) (c : UInt8) : RowV (w.alloc (.cells #[.int .u8 ((c.toNat : Nat) : Int)] 5 (1, 2))).heap.size (w.alloc (.cells #[.int .u8 ((c.toNat : Nat) : Int)] 5 (1, 2))) (.slice (some ⟨w.heap.size, 0, none⟩) 1 1) [c] := by
  refine ⟨_, _, _, rfl, Nat.le_refl _, by decide, by simp, rfl, by decide, fun i hi => ⟨w.heap.size, 0, rfl, by simp, ?_⟩⟩
  obtain rfl : i = 0 := by omega
  rw [Nat.zero_add, cell_marked]
  rfl
theorem BodsV.empty {B : Nat} {w : World} {v : Value} (h : BodsV B w v []) : ∃ a c, v = .slice a 0 c := by
  obtain ⟨a, c, e, _⟩ := h.slice
  exact ⟨a, c, e⟩
/-- The blocks of a journal lie at N or above. -/
theorem Turns.above {N : Nat} {G G' : List Nat} {w w' : World} (h : Turns G G' w w') (hG : ∀ k ∈ G, N ≤ k) (hN : N ≤ w.heap.size) : Below N w w' ∧ ∀ k ∈ G', N ≤ k :=
  ⟨h.1.below hG hN, fun k hk => by
    rcases h.2 k hk with e | e
    · exact hG k e
    · omega⟩
/-- A map as the statements open it, and a journal on it. -/
theorem law_fresh (s0 s1 : Nat) (h0 : 1 ≤ s0 ∧ s0 ≤ 25) (h1 : 1 ≤ s1 ∧ s1 ≤ 25) {F D : List Nat} {w : World} {m p : Nat} (h : PMap F D w m p (newD 60 10000) ⟨[s0, s1, 1], 0, []⟩) : Calls Try.prog 7 #[.pointer (some ⟨m, 0, none⟩), .int .i64 0, .int .i64 1] w fun e w' =>
    ∃ q a c, e = .returned (.tuple #[.pointer (some ⟨q, 0, none⟩), .slice a 0 c]) ∧ Jour F D w' q m p (newD 60 10000) ⟨[s0, s1, 1], 0, []⟩ jnew ∧ Below w.heap.size w w' ∧ w.heap.size ≤ q := by
  have := jopen_walk h 0 1 (by simp) (by simp) (by omega)
  rw [open0 s0 s1 h0.2 h1.2] at this
  refine this.mono ?_
  rintro e w' ⟨q, bv, rfl, hJ, hB, hb, hq⟩
  obtain ⟨a, c, rfl⟩ := hB.empty
  exact ⟨q, a, c, rfl, hJ, hb, hq⟩

set_option maxHeartbeats 6400000 in
set_option maxRecDepth 100000 in
theorem jalive_walk (w : World) : Calls Try.prog 6 #[] w fun e w' => e = .returned (.bool true) ∧ Below w.heap.size w w' := by
  obtain ⟨d1, x1, j1, e1, d2, x2, j2, e2, hr2, hl2, hla2, hsz2, ho2, hw1, ho1⟩ := alive_math
  have HE1 := hide e1
  have HE2 := hide e2
  have HR2 := hide hr2
  have HL2 := hide hl2
  have HLA2 := hide hla2
  have HSZ2 := hide hsz2
  have HO2 := hide ho2
  have HW1 := hide (And.intro hw1 ho1)
  clear e1 e2 hr2 hl2 hla2 hsz2 ho2 hw1 ho1
  have HLW : Hid (Calls Try.prog 8 #[.agg #[.int .i64 4, .int .i64 4]] w fun e w' => ∃ F D m p, e = .returned (.pointer (some ⟨m, 0, none⟩)) ∧ PMap F D w' m p (newD 60 10000) ⟨[4, 4, 1], 0, []⟩ ∧ (∀ k ∈ F ++ D, w.heap.size ≤ k) ∧ Below w.heap.size w w') := hide (law_open 4 4 (by omega) (by omega) w)
  have kc := fun (w : World) (C : Array Value) (n c : Nat) => Lib.run_convert_bytes_const (P := Try.prog) w 32 5 C n c Try.underlying32 Try.underlying5
  go_enter Try.func6, Try.ntmps6
  go_wp2_with fail
  refine (unhide HLW).mono ?_
  rintro e w1 ⟨F, D, m, p, rfl, hM, hF, hb⟩
  have HM := hide hM
  have HF := hide hF
  have HB := hide hb
  have HOP := hide (law_fresh 4 4 (by omega) (by omega) hM)
  clear hM hF hb HLW
  go_wp2_with fail
  refine (unhide HOP).mono ?_
  rintro e w2 ⟨q, a0, c0, rfl, hJ, hb2, hq⟩
  have HJ := hide hJ
  have HB2 := hide ((unhide HB).trans (hb2.mono (unhide HB).size))
  have HG : Hid (∀ k ∈ q :: (F ++ D), w.heap.size ≤ k) := hide fun k hk => by
    rcases List.mem_cons.1 hk with rfl | hk
    · exact Nat.le_trans (unhide HB).size hq
    · exact unhide HF k hk
  have HRD : Hid (Calls Try.prog 18 #[.pointer (some ⟨q, 0, none⟩)] w2 fun e w' => e = .returned (.bool false) ∧ w' = w2) := hide (ready_walk hJ)
  clear hJ hb2 hq HOP HM HF HB
  go_wp2_with fail
  refine (unhide HRD).mono ?_
  rintro e w3 ⟨rfl, hw3⟩
  subst w3
  clear HRD
  -- Begin
  have HJ3 := hide ((unhide HJ).below ((Below.refl w2.heap.size w2).alloc (Nat.le_refl _) (.cells #[.int .u8 97] 5 (1, 2))))
  have HB3 : Hid (Below w.heap.size w (w2.alloc (.cells #[.int .u8 97] 5 (1, 2)))) := hide ((unhide HB2).alloc (unhide HB2).size _)
  have HBG := hide (begin_walk (unhide HJ3) _ [97] (RowV.but (letter_row w2 97) (fun e => by have := (unhide HJ).lt _ e; omega)) (by show ([] : List (Nat × Sec)).length ≤ _; simp) (by simp))
  rw [unhide HE1] at HBG
  go_wp2_with fail
  refine (unhide HBG).mono ?_
  rintro e w4 ⟨rfl, F4, D4, hJ4, hT4⟩
  have HJ4 := hide hJ4
  have HB4 := hide ((unhide HB3).trans (hT4.above (unhide HG) (unhide HB3).size).1)
  have HG4 := hide (hT4.above (unhide HG) (unhide HB3).size).2
  clear hJ4 hT4 HBG HJ3 HB3 HG HB2
  have HJ5 := hide ((unhide HJ4).below ((Below.refl w4.heap.size w4).alloc (Nat.le_refl _) (.cells #[.int .u8 98] 5 (1, 2))))
  have HB5 : Hid (Below w.heap.size w (w4.alloc (.cells #[.int .u8 98] 5 (1, 2)))) := hide ((unhide HB4).alloc (unhide HB4).size _)
  have HAP := hide (append_walk (unhide HJ5) _ [98] (RowV.but (letter_row w4 98) (fun e => by have := (unhide HJ4).lt _ e; omega)) (by have := (unhide HW1).1; show d1.wait.length ≤ _; omega) (by have := (unhide HW1).2; show x1.ops.length ≤ _; omega))
  rw [show appendJ _ _ _ [98] = (0, d2, x2, j2) from unhide HE2] at HAP
  go_wp2_with fail
  refine (unhide HAP).mono ?_
  rintro e w6 ⟨rfl, F6, D6, hJ6, hT6⟩
  have HJ6 := hide hJ6
  have HB6 := hide ((unhide HB5).trans (hT6.above (unhide HG4) (unhide HB5).size).1)
  clear hJ6 hT6 HAP HJ5 HB5 HG4 HB4
  have HRD6 : Hid (Calls Try.prog 18 #[.pointer (some ⟨q, 0, none⟩)] w6 fun e w' => e = .returned (.bool true) ∧ w' = w6) := hide (by have := ready_walk (unhide HJ6); rw [show JX.ready _ = true from unhide HR2] at this; exact this)
  have HLF6 : Hid (Calls Try.prog 19 #[.pointer (some ⟨q, 0, none⟩)] w6 fun e w' => e = .returned (.int .i64 2) ∧ Below w6.heap.size w6 w' ∧ w'.heap.size = w6.heap.size) := hide (by have := left_walk (unhide HJ6); rw [show leftJ _ _ = 2 from unhide HL2] at this; exact this)
  go_wp2_with fail
  refine (unhide HRD6).mono ?_
  rintro e w7 ⟨rfl, hw7⟩
  subst w7
  clear HRD6
  go_wp2_with fail
  refine (unhide HLF6).mono ?_
  rintro e w7 ⟨rfl, hb7, hs7⟩
  have HJ7 := hide ((unhide HJ6).below hb7)
  have HB7 := hide ((unhide HB6).trans (hb7.mono (unhide HB6).size))
  have HLS7 : Hid (Calls Try.prog 17 #[.pointer (some ⟨q, 0, none⟩)] w7 fun e w' => e = .returned (.int .u64 2) ∧ w' = w7) := hide (by have := last_walk (unhide HJ7); rw [show JX.last _ = 2 from unhide HLA2] at this; exact this)
  have HOP7 : Hid (Calls Try.prog 7 #[.pointer (some ⟨m, 0, none⟩), .int .i64 0, .int .i64 1] w7 fun e w' => ∃ q bv, e = .returned (.tuple #[.pointer (some ⟨q, 0, none⟩), bv]) ∧ BodsV w7.heap.size w' bv [[97], [98]] ∧ Below w7.heap.size w7 w') := hide (by
    have := jopen_walk (unhide HJ7).map 0 1 (by show 0 < x2.sz.length; rw [unhide HSZ2]; simp) (by show 1 < x2.sz.length; rw [unhide HSZ2]; simp) (by omega)
    rw [show openD2 _ _ 0 1 = (0, 2, [[97], [98]]) from unhide HO2] at this
    refine this.mono ?_
    rintro e w' ⟨q, bv, rfl, _, h1, h2, _⟩
    exact ⟨q, bv, rfl, h1, h2⟩)
  clear hb7 hs7 HLF6 HJ6 HB6 HJ4 HJ
  go_wp2_with fail
  refine (unhide HLS7).mono ?_
  rintro e w8 ⟨rfl, hw8⟩
  subst w8
  clear HLS7
  go_wp2_with fail
  refine (unhide HOP7).mono ?_
  rintro e w8 ⟨q8, bv, rfl, hV8, hb8⟩
  obtain ⟨g0, gc0, u0, rfl, _, _, hc0, _, hr0⟩ := hV8.at (i := 0) (by simp)
  obtain ⟨g1, gc1, u1, eq1, _, _, hc1, _, hr1⟩ := hV8.at (i := 1) (by simp)
  cases eq1
  have HB8 := hide ((unhide HB7).trans (hb8.mono (unhide HB7).size))
  have hx0 := run_text hr0
  have hx1 := run_text hr1
  clear hV8 hb8 HOP7 HB7 HJ7
  have ht0 : ((tx [97]).toList == [97]) = true := by kernel_rfl
  have ht1 : ((tx [98]).toList == [98]) = true := by kernel_rfl
  go_wp2
  go_ret
  exact ⟨rfl, unhide HB8⟩
end Go.Proofs.Ytjebejdcjfnleaa
