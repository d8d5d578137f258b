/-
  CodeNames returns true.
-/
import Derived.Test.YtpejbpmdfbdphaaReader
namespace Go.Proofs.Ytpejbpmdfbdphaa
open Go.RowKit

/-- A block of bytes. -/
theorem RowV.arr (w : World) (b : Nat) (bs : List UInt8) (n : Nat) (hn : bs.length = n) (hm : n ≤ 1000) (hA : Arr w b (Lib.byteCells bs)) : RowV (b + 1) w (.slice (some ⟨b, 0, none⟩) n n) bs := by
  subst hn
  refine ⟨_, _, _, rfl, Nat.le_refl _, by simp only [maxLen]; omega, by simp, rfl, by omega, fun i hi => ⟨_, 0, rfl, by omega, ?_⟩⟩
  rw [Nat.zero_add]
  refine hA.cell ?_
  rw [Lib.byteCells, List.getElem?_map, List.getElem?_eq_getElem hi, List.getD_eq_getElem?_getD, List.getElem?_eq_getElem hi]
  rfl

/-- A reader behind its bytes. -/
structure Pair (w : World) (b : Nat) (bs : List UInt8) (n : Nat) : Prop where
  bytes : Arr w b (Lib.byteCells bs)
  rd : Arr w (b + 1) [.slice (some ⟨b, 0, none⟩) n n, .int .i64 0]
theorem Pair.below {w w' : World} {b : Nat} {bs : List UInt8} {n : Nat} (h : Pair w b bs n) (hb : Below w.heap.size w w') : Pair w' b bs n := ⟨h.bytes.below hb, h.rd.below hb⟩
theorem Pair.other {w w' : World} {b q : Nat} {bs : List UInt8} {n : Nat} (h : Pair w b bs n) (hg : w.grownBy w' (some q)) (hq : q < b) : Pair w' b bs n :=
  ⟨h.bytes.grown hg (by simp; omega), h.rd.grown hg (by simp; omega)⟩
theorem Pair.reader {w : World} {b : Nat} {bs : List UInt8} {n : Nat} (h : Pair w b bs n) (hn : bs.length = n) (hm : n ≤ 1000) : Rd (b + 1) w (b + 1) bs 0 :=
  ⟨Nat.le_refl _, _, h.rd, RowV.arr w b bs n hn hm h.bytes⟩

/-- 'New' of bytes that were just made. -/
theorem new_fresh (w : World) (bs : List UInt8) (C : Array Value) (n : Nat) (hC : C.toList = Lib.byteCells bs) :
    Calls Try.prog 8 #[.slice (some ⟨w.heap.size, 0, none⟩) n n] (w.alloc (.cells C 5)) fun e w' => e = .returned (.pointer (some ⟨w.heap.size + 1, 0, none⟩)) ∧ Pair w' w.heap.size bs n ∧ Below w.heap.size w w' := by
  refine (new_arr _ n n _).mono ?_
  rintro e w' ⟨rfl, hA, hb⟩
  have hA0 : Arr (w.alloc (.cells C 5)) w.heap.size (Lib.byteCells bs) := ⟨C, 5, heap_alloc_new w _, hC⟩
  have hA1 := hA0.below hb
  rw [show (w.alloc (.cells C 5)).heap.size = w.heap.size + 1 by simp] at *
  exact ⟨rfl, ⟨hA1, hA⟩, ((Below.refl _ w).alloc (Nat.le_refl _) _).trans (hb.mono (by omega))⟩

theorem names_a : fixL [1] 0 2 = (0, [], 51) := by decide
theorem names_b : txtL [9, 0, 1] 0 5 = ([], [], 52) := by decide
theorem names_c : fixL [1, 2] 0 1 = (1, [2], 0) := by decide

namespace codeNames
set_option maxHeartbeats 3200000 in
set_option maxRecDepth 100000 in
theorem walk (w : World) : Calls Try.prog 3 #[] w fun e w' => e = .returned (.bool true) ∧ Below w.heap.size w w' := by
  go_enter Try.func3, Try.ntmps3
  go_wp2_with fail
  refine (alive_walk w).mono ?_
  rintro e w1 ⟨rfl, hb1⟩
  go_wp2_with fail
  refine (new_fresh w1 [1] _ 1 rfl).mono ?_
  rintro e w2 ⟨rfl, hA2, hb2⟩
  have hs2 := hA2.rd.lt
  go_wp2_with fail
  refine (new_fresh w2 [9, 0, 1] _ 3 rfl).mono ?_
  rintro e w3 ⟨rfl, hB3, hb3⟩
  have hs3 := hB3.rd.lt
  go_wp2_with fail
  refine (new_fresh w3 [1, 2] _ 2 rfl).mono ?_
  rintro e w4 ⟨rfl, hC4, hb4⟩
  have hs4 := hC4.rd.lt
  have hA4 := ((hA2.below hb3).below hb4).reader rfl (by decide)
  have HB4 := hide (hB3.below hb4)
  have HC4 := hide hC4
  have hbs1 := hb1.size
  have Hbw4 : Hid (Below w.heap.size w w4) := hide (((hb1.trans (hb2.mono hb1.size)).trans (hb3.mono (by omega))).trans (hb4.mono (by omega)))
  clear hA2 hB3 hC4 hb1 hb2 hb3 hb4
  have hf := rfixed_walk _ _ 2 _ _ _ hA4
  rw [names_a] at hf
  simp only at hf
  have HF := hide hf
  clear hf hA4
  have hra : w.heap.size ≤ w1.heap.size + 1 := by omega
  have hab : w1.heap.size + 1 < w2.heap.size := by omega
  have hbc : w2.heap.size + 1 < w3.heap.size := by omega
  have hcd : w3.heap.size + 1 < w4.heap.size := by omega
  clear hs2 hs3 hs4 hbs1
  generalize w1.heap.size + 1 = ra at *
  generalize w2.heap.size = b2 at *
  generalize w3.heap.size = b3 at *
  go_wp2_with fail
  refine (unhide HF).mono ?_
  rintro e w5 ⟨rfl, hA5, hg5⟩
  have hB5 := ((unhide HB4).other hg5 hab).reader rfl (by decide)
  have HC5 := hide ((unhide HC4).other hg5 (by omega))
  have Hbw5 := hide ((unhide Hbw4).grown hg5 (unhide Hbw4).size (fun k hk => by cases hk; exact hra))
  have HA5 := hide hA5
  clear hA5 hg5 HB4 HC4 Hbw4 HF
  have ht := rtext_walk _ _ 5 _ _ _ hB5
  rw [names_b] at ht
  simp only at ht
  have HT := hide ht
  clear ht hB5
  go_wp2_with fail
  refine (unhide HT).mono ?_
  rintro e w6 ⟨rfl, hB6, hg6⟩
  have HA6 := hide ((unhide HA5).other hg6 (by omega) (by omega))
  have hC6 := ((unhide HC5).other hg6 (by omega)).reader rfl (by decide)
  have Hbw6 := hide ((unhide Hbw5).grown hg6 (unhide Hbw5).size (fun k hk => by cases hk; omega))
  have HB6 := hide hB6
  clear hB6 hg6 HA5 HC5 Hbw5 HT
  have ht := rfixed_walk _ _ 1 _ _ _ hC6
  rw [names_c] at ht
  simp only at ht
  have HT := hide ht
  clear ht hC6
  go_wp2_with fail
  refine (unhide HT).mono ?_
  rintro e w7 ⟨rfl, hC7, hg7⟩
  have HA7 := hide ((unhide HA6).other hg7 (by omega) (by omega))
  have HB7 := hide ((unhide HB6).other hg7 (by omega) (by omega))
  have Hbw7 := hide ((unhide Hbw6).grown hg7 (unhide Hbw6).size (fun k hk => by cases hk; omega))
  have HC7 := hide hC7
  clear hC7 hg7 HA6 HB6 Hbw6 HT
  have hend : endL [2] 0 = 52 := by decide
  have HE7 := hide (rend_walk _ _ _ _ _ (unhide HC7))
  rw [hend] at HE7
  have hnil := new_walk 0 (.slice none 0 0) [] w7 (Nat.zero_le _) (RowV.nil _ _)
  have HN := hide hnil
  have hend0 : endL [] 0 = 0 := by decide
  clear hend hnil
  have hemp : (tx []).toList.isEmpty = true := by rw [ByteArray.toList_eq]; rfl
  go_wp2_with fail
  refine (rerr_walk _ _ _ _ _ (unhide HA7)).mono ?_
  rintro e w8 ⟨rfl, hw8⟩
  subst w8
  go_wp2_with fail
  refine (rleft_walk _ _ _ _ _ (unhide HA7)).mono ?_
  rintro e w8 ⟨rfl, hw8⟩
  subst w8
  go_wp2_with fail
  refine (rerr_walk _ _ _ _ _ (unhide HB7)).mono ?_
  rintro e w8 ⟨rfl, hw8⟩
  subst w8
  go_wp2_with fail
  refine (rerr_walk _ _ _ _ _ (unhide HC7)).mono ?_
  rintro e w8 ⟨rfl, hw8⟩
  subst w8
  go_wp2_with fail
  refine (unhide HE7).mono ?_
  rintro e w8 ⟨rfl, hw8⟩
  subst w8
  go_wp2_with fail
  refine (rleft_walk _ _ _ _ _ (unhide HC7)).mono ?_
  rintro e w8 ⟨rfl, hw8⟩
  subst w8
  go_wp2_with fail
  refine (unhide HN).mono ?_
  rintro e w8 ⟨rfl, hR8, hb8⟩
  have he := rend_walk _ _ _ _ _ hR8
  rw [hend0] at he
  have HE8 := hide he
  have Hbw8 := hide ((unhide Hbw7).trans (hb8.mono (unhide Hbw7).size))
  clear he hR8 hb8 HN hend0
  go_wp2_with fail
  refine (unhide HE8).mono ?_
  rintro e w9 ⟨rfl, hw9⟩
  subst w9
  go_wp2_with fail
  go_ret
  exact ⟨rfl, unhide Hbw8⟩
end codeNames
end Go.Proofs.Ytpejbpmdfbdphaa
