/-
  The walk of CrcTurned.
-/
import Derived.Test.YtcbiaggdfhifmaaKit
import Derived.Test.YtcbiaggdfhifmaaBurst
namespace Go.Proofs.Ytcbiaggdfhifmaa.crcTurned
open Go.RowKit

theorem Try.info5 : (Try.prog.info? 5).map (fun i => (i.zero, i.size, i.bytes)) = some (some (.int .u8 0), 1, 1) := by kernel_rfl

theorem N32_shrs (x : BitVec 32) (k : Nat) : N32 x / (2 : Int) ^ k = N32 (x >>> k) := by
  unfold N32
  rw [BitVec.toNat_ushiftRight, Nat.shiftRight_eq_div_pow]
  simp

theorem test_bit (x : BitVec 32) (k : Nat) : bits .and .u32 (N32 x / (2 : Int) ^ k) 1 = if x.getLsbD k then 1 else 0 := by
  rw [N32_shrs, and_one, BitVec.getLsbD_ushiftRight, Nat.add_zero]

theorem xor8 (a b : BitVec 8) : bits .xor .u8 ((a.toNat : Nat) : Int) ((b.toNat : Nat) : Int) = (((a ^^^ b).toNat : Nat) : Int) := by
  have h := u8_xor_nat a.toNat b.toNat a.isLt b.isLt
  rw [h, BitVec.toNat_xor]

theorem one_shl8 (j : Nat) (h : j < 8) : (2 : Int) ^ j % 256 = (((1#8 <<< j).toNat : Nat) : Int) := by
  have : ∀ j : Fin 8, (2 : Int) ^ j.val % 256 = (((1#8 <<< j.val).toNat : Nat) : Int) := by decide
  exact this ⟨j, h⟩

/-- A row of the call's own, as a row of bytes. -/
theorem Row.owned {w : World} {base g len cap : Nat} {bs : List (BitVec 8)} (hl : len ≤ 140737488351232) (hb : bs.length = len)
    (h : w.ownsRow base 5 1 (.slice (some ⟨g, 0, none⟩) len cap) len (bs.map fun c => Value.int .u8 ((c.toNat : Nat) : Int))) : Row w (some ⟨g, 0, none⟩) len bs := by
  refine ⟨hb, hl, fun i hi => ⟨g, 0, rfl, ?_⟩⟩
  rw [Nat.zero_add, h.cellAt _ (by omega), List.getElem?_map, List.getD_eq_getElem?_getD, List.getElem?_eq_getElem (by omega)]
  rfl

theorem early (a0 : Option Addr) (len0 cap0 : Nat) (a1 a2 : Int) (w : World)
    (h : len0 < 8 ∨ (8 ≤ len0 ∧ 3000 < len0) ∨ (8 ≤ len0 ∧ len0 ≤ 3000 ∧ a1 < 0) ∨ (8 ≤ len0 ∧ len0 ≤ 3000 ∧ 0 ≤ a1 ∧ a2 = 0)) :
    Calls Try.prog 4 #[.slice a0 len0 cap0, .int .i64 a1, .int .u32 a2] w fun e w' => e = .returned (.bool true) ∧ Below w.heap.size w w' := by
  rcases h with h | ⟨h1, h⟩ | ⟨h1, h2, h⟩ | ⟨h1, h2, h3, rfl⟩
  all_goals
    go_enter Try.func4, Try.ntmps4
    go_wp2_with fail
    refine (alive_any _).mono ?_
    rintro e w1 ⟨rfl, hb1⟩
    have Hb1 := hide hb1
    clear hb1
    go_wp2
    go_ret
    exact ⟨rfl, unhide Hb1⟩

theorem main (a0 : Option Addr) (len0 cap0 : Nat) (bs : List (BitVec 8)) (a1 : Int) (t : BitVec 32) (w : World) (hr : Row w a0 len0 bs)
    (h1 : 8 ≤ len0) (h2 : len0 ≤ 3000) (h3 : 0 ≤ a1) (h3' : a1 ≤ 9223372036854775807) (ht : t ≠ 0#32) :
    Calls Try.prog 4 #[.slice a0 len0 cap0, .int .i64 a1, .int .u32 (N32 t)] w fun e w' => e = .returned (.bool true) ∧ Below w.heap.size w w' := by
  obtain ⟨i0, hi, hz0, hz1, hz2⟩ := info_parts Try.info5
  have ht' : (N32 t == 0) = false := by
    rw [beq_eq_false_iff_ne]; intro e; exact ht (N32_inj (e.trans (by decide)))
  obtain ⟨b, off, rfl, hc⟩ : ∃ b off, a0 = some ⟨b, off, none⟩ ∧ ∀ i, i < len0 → w.cell? ⟨b, off + i, none⟩ = some (.int .u8 (((bs.getD i 0).toNat : Nat) : Int)) := by
    obtain ⟨b, off, e, _⟩ := hr.2.2 0 (by omega)
    refine ⟨b, off, e, fun i hi => ?_⟩
    obtain ⟨b', off', e', hc⟩ := hr.2.2 i hi
    rw [e] at e'
    obtain ⟨rfl, rfl⟩ : b = b' ∧ off = off' := by simpa using e'
    exact hc
  have Hr := hide hr
  have Hc := hide hc
  have Ht := hide ht
  clear hr hc ht
  go_enter Try.func4, Try.ntmps4
  go_wp2_with fail
  refine (alive_any _).mono ?_
  rintro e w1 ⟨rfl, hb1⟩
  have Hb1 := hide hb1
  clear hb1
  go_wp2_with (at_builtin; refine wpList_append_own _ rfl _ _ 22 rfl w.heap.size 5 i0 (.int .u8 0) 1 1 Try.underlying22 hi hz0 hz1 hz2 rfl (by decide) _ 0 [] rfl ?own ⟨b, off, none⟩ len0 cap0 (bs.map fun c => Value.int .u8 ((c.toNat : Nat) : Int)) rfl ?c0 ?c1 ?c2 ?c3 ?c4 ?c5 ?_)
  case own => exact World.ownsRow_lit w1 #[] 0 (unhide Hb1).size (by decide) rfl
  case c0 => have := (unhide Hr).1; simp; omega
  case c1 =>
    intro j u hj
    rw [List.getElem?_map] at hj
    have hl := (unhide Hr).1
    have hjl : j < bs.length := by
      rcases Nat.lt_or_ge j bs.length with h | h
      · exact h
      · rw [List.getElem?_eq_none h] at hj; simp at hj
    rw [List.getElem?_eq_getElem hjl] at hj
    have hcj := unhide Hc j (by omega)
    have ea : Addr.add ⟨b, off, none⟩ j = ⟨b, off + j, none⟩ := by rcases j with _ | j <;> simp [Addr.add]
    rw [ea]
    apply Lib.cell?_alloc_marked
    rw [(unhide Hb1).cell (p := ⟨b, off + j, none⟩) (lt_of_cell hcj), hcj, ← hj, List.getD_eq_getElem?_getD, List.getElem?_eq_getElem hjl]
    rfl
  case c2 => intro u hu; simp at hu; obtain ⟨c, _, rfl⟩ := hu; rfl
  case c3 => unfold maxLen; omega
  case c4 => omega
  case c5 => have := (unhide Hb1).size; simp; omega
  intro v' w2 hown hgrow hnil
  have Hb2 : Hid (Below w.heap.size w w2) := by
    refine Below.grown ((unhide Hb1).alloc (unhide Hb1).size _) hgrow ?_ ?_
    · have := (unhide Hb1).size; simp; omega
    · intro k hk
      have := (unhide Hb1).size
      simp [Value.ownBlock] at hk
      omega
  obtain ⟨g, cap', rfl⟩ : ∃ g cap', v' = .slice (some ⟨g, 0, none⟩) len0 cap' := by
    rcases hown.2 with ⟨h, h0⟩ | ⟨g, cap', _, h, _⟩
    · omega
    · exact ⟨g, cap', h⟩
  have hg : w.heap.size ≤ g := by
    rcases hown.2 with ⟨h, h0⟩ | ⟨g', cap'', _, h, hg, _⟩
    · omega
    · simp at h; omega
  clear hgrow hnil
  have Ho := hide hown
  clear hown
  obtain ⟨k0, hk0, hk1⟩ : ∃ k0 : Nat, a1 % (8 * (len0 : Int) - 32) = (k0 : Int) ∧ k0 + 32 < 8 * len0 := by
    have e1 := Int.emod_nonneg a1 (show (8 * (len0 : Int) - 32) ≠ 0 by omega)
    have e2 := Int.emod_lt_of_pos a1 (show 0 < (8 * (len0 : Int) - 32) by omega)
    exact ⟨(a1 % (8 * (len0 : Int) - 32)).toNat, by omega, by omega⟩
  go_wp2
  rw [hk0]
  clear hk0
  go_loopw [9] (fun i wr => ∃ k : Nat, k ≤ 32 ∧ i = .int .i64 k ∧ wr.ownsRow w.heap.size 5 1 (.slice (some ⟨g, 0, none⟩) len0 cap') len0 ((Crc.turn bs k0 t k).map fun c => Value.int .u8 ((c.toNat : Nat) : Int)) ∧ Below w.heap.size w wr) (fun i _ => 32 - (intOf i).toNat)
  case atStart => exact ⟨0, by omega, rfl, unhide Ho, unhide Hb2⟩
  case round =>
    obtain ⟨k, hk, rfl, hown, hb⟩ := hrel
    have Hown := hide hown
    have Hbr := hide hb
    clear hown hb
    by_cases hlt : k < 32
    · have hbit := test_bit t k
      have Hs : Hid (Crc.turn bs k0 t (k + 1) = if t.getLsbD k then (Crc.turn bs k0 t k).set ((k0 + k) / 8) ((Crc.turn bs k0 t k).getD ((k0 + k) / 8) 0 ^^^ (1#8 <<< ((k0 + k) % 8))) else Crc.turn bs k0 t k) := rfl
      cases hb : t.getLsbD k
      · rw [hb] at hbit Hs
        simp only [Bool.false_eq_true, if_false] at hbit Hs
        clear hb
        go_wp2
        go_roundw
        case rel => exact ⟨k + 1, by omega, by go_num, by rw [unhide Hs]; exact unhide Hown, unhide Hbr⟩
        case measure => simp [intOf]; omega
      · rw [hb] at hbit Hs
        simp only [if_true] at hbit Hs
        clear hb
        have hlen : (Crc.turn bs k0 t k).length = len0 := by rw [Crc.turn_length]; exact (unhide Hr).1
        have hix : (k0 + k) / 8 < len0 := by omega
        have hcell : wr.cell? ⟨g, (k0 + k) / 8, none⟩ = some (.int .u8 ((((Crc.turn bs k0 t k).getD ((k0 + k) / 8) 0).toNat : Nat) : Int)) := by
          rw [(unhide Hown).cellAt _ (by omega), List.getElem?_map, List.getD_eq_getElem?_getD, List.getElem?_eq_getElem (by omega)]
          rfl
        have hfz : wr.frozen? ⟨g, (k0 + k) / 8, none⟩ = false := (unhide Hown).frozenAt _
        generalize (Crc.turn bs k0 t k).getD ((k0 + k) / 8) 0 = c at *
        have Hlen := hide hlen
        clear hlen
        go_wp2
        go_region
        all_goals go_wp2
        go_roundw
        case rel =>
          refine ⟨k + 1, by omega, by go_num, ?_, ((unhide Hbr).setCell hg _).drew⟩
          rw [one_shl8 _ (by omega), xor8, unhide Hs]
          have hst := (((unhide Hown).stored ((k0 + k) / 8) (.int .u8 (((c ^^^ (1#8 <<< ((k0 + k) % 8))).toNat : Nat) : Int))).1).drew
          rw [← List.map_set (f := fun c : BitVec 8 => Value.int .u8 ((c.toNat : Nat) : Int))] at hst
          exact hst
        case measure => simp [intOf]; omega
    · obtain rfl : k = 32 := by omega
      go_wp2_with fail
      have hrc : Row wr (some ⟨g, 0, none⟩) len0 (Crc.turn bs k0 t 32) := Row.owned (by omega) (by rw [Crc.turn_length]; exact (unhide Hr).1) (unhide Hown)
      refine (sum_any _ 1 1 [Crc.turn bs k0 t 32] _ (by exact Parts.one hrc _ _ _)).mono ?_
      rintro e w3 ⟨rfl, hw3⟩
      have Hb3 : Hid (Below w.heap.size w w3) := by
        show Below _ _ _
        rw [hw3]; exact (unhide Hbr).alloc (unhide Hbr).size _
      clear hw3 hrc
      have hne := Crc.turn_more bs 0#32 t k0 (by have := (unhide Hr).1; omega) (unhide Ht)
      have hne' : (N32 (Crc.more 0#32 [Crc.turn bs k0 t 32].flatten) != N32 (Crc.more 0#32 [bs].flatten)) = true := by
        rw [bne_iff_ne]
        intro e
        apply hne
        simpa using N32_inj e
      clear hne
      generalize N32 (Crc.more 0#32 [Crc.turn bs k0 t 32].flatten) = s1 at *
      go_wp2_with fail
      refine (sum_any _ 1 1 [bs] _ (by exact Parts.one ((unhide Hr).below (unhide Hb3)) _ _ _)).mono ?_
      rintro e w4 ⟨rfl, hw4⟩
      have Hb4 : Hid (Below w.heap.size w w4) := by
        show Below _ _ _
        rw [hw4]; exact (unhide Hb3).alloc (unhide Hb3).size _
      clear hw4
      generalize N32 (Crc.more 0#32 [bs].flatten) = s2 at *
      go_wp2
      go_ret
      exact ⟨rfl, unhide Hb4⟩

end Go.Proofs.Ytcbiaggdfhifmaa.crcTurned
