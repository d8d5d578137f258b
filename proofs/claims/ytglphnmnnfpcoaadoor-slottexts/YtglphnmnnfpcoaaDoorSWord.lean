/-
  What the document's Digits, slot.statusOf and slot.words answer.
-/
import Derived.Test.YtglphnmnnfpcoaaDoorSDec
namespace Go.Proofs.YtglphnmnnfpcoaaDoor
open Go.RowKit

theorem tx_append (a b : List UInt8) : tx a ++ tx b = tx (a ++ b) := by
  apply ByteArray.ext
  simp [tx]
abbrev digs : ByteArray := ⟨#[48, 49, 50, 51, 52, 53, 54, 55, 56, 57]⟩
theorem run_dig (k : Int) (h0 : 0 ≤ k) (h1 : k < 10) (w : World) : (Instr.sliceAt 9 (.string digs) (some (.int .u64 k)) (some (.int .u64 (k + 1))) none).run Tryd.prog w = .ok (.string (tx [UInt8.ofNat (48 + k.toNat)])) w := by
  have : k = 0 ∨ k = 1 ∨ k = 2 ∨ k = 3 ∨ k = 4 ∨ k = 5 ∨ k = 6 ∨ k = 7 ∨ k = 8 ∨ k = 9 := by omega
  have key : ∀ w : World, (Instr.sliceAt 9 (.string digs) (some (.int .u64 k)) (some (.int .u64 (k + 1))) none).run Tryd.prog w = .ok (.string (tx [UInt8.ofNat (48 + k.toNat)])) w := by
    clear h0 h1
    rcases this with rfl | rfl | rfl | rfl | rfl | rfl | rfl | rfl | rfl | rfl <;> intro w <;> kernel_rfl
  exact key w
/-- One for true. -/
def boolN : Value → Nat
  | .bool true => 1
  | _ => 0

set_option maxHeartbeats 1600000 in
set_option maxRecDepth 100000 in
theorem digits_walk (u : Nat) (hu : u < 18446744073709551616) (w : World) : Calls Tryd.prog 46 #[.int .u64 u] w fun e w' => e = .returned (.string (tx (dec u))) ∧ Below w.heap.size w w' := by
  have HU := hide (dec_len hu)
  have HD := hide hu
  obtain ⟨d, hd⟩ : ∃ d, d = dec u := ⟨_, rfl⟩
  have Hd := hide hd
  rw [← hd] at HU ⊢
  clear hd hu
  go_enter Tryd.func46, Tryd.ntmps46
  go_wp2
  go_loopw [0, 3, 4] (fun n out f wr => ∃ (m : Nat) (acc : List UInt8) (b : Bool), n = .int .u64 (m : Int) ∧ out = .string (tx acc) ∧ f = .bool b ∧ m < 18446744073709551616 ∧ ((b = true ∨ 0 < m) → dec m ++ acc = d) ∧ (b = false → m = 0 → acc = d) ∧ Below w.heap.size w wr) (fun n _ f _ => (intOf n).toNat + boolN f)
  case atStart => exact ⟨u, [], true, rfl, rfl, rfl, unhide HD, fun _ => by rw [List.append_nil]; exact (unhide Hd).symm, by simp, Below.refl _ _⟩
  case round =>
    obtain ⟨m, acc, b, rfl, rfl, rfl, hm, hgo, hend, hb⟩ := hrel
    have Hb := hide hb
    have Hend := hide hend
    clear hb hend Hd HD
    by_cases hs : b = true ∨ 0 < m
    · have hda := hgo hs
      clear hgo
      have hal : acc.length ≤ 20 := by
        have := congrArg List.length hda
        rw [List.length_append] at this
        have := unhide HU
        omega
      have hm2 : 0 ≤ (m : Int) % 10 ∧ (m : Int) % 10 < 10 := by omega
      have hcut := run_dig ((m : Int) % 10) hm2.1 hm2.2
      obtain ⟨c, hc⟩ : ∃ c, c = UInt8.ofNat (48 + ((m : Int) % 10).toNat) := ⟨_, rfl⟩
      rw [← hc] at hcut
      have hw : IntKind.u64.wrap ((m : Int) % 10 + 1) = (m : Int) % 10 + 1 := by rw [IntKind.wrap_u64]; omega
      have hw2 : IntKind.u64.wrap ((m : Int) / 10) = (m : Int) / 10 := by rw [IntKind.wrap_u64]; omega
      have hz : (tx [c]).size + (tx acc).size ≤ 9223372036854775807 := by
        rw [tx_size, tx_size]
        simp only [List.length_cons, List.length_nil]
        omega
      have HA := hide (tx_append [c] acc)
      have Hnext : Hid ((0 < m / 10 → dec (m / 10) ++ ([c] ++ acc) = d) ∧ (m / 10 = 0 → [c] ++ acc = d)) := by
        have hk : ((m : Int) % 10).toNat = m % 10 := by omega
        rw [hk] at hc
        constructor
        · intro h
          rw [dec_step (by omega), ← hc, List.append_assoc] at hda
          exact hda
        · intro h
          rw [dec_small (by omega), show m = m % 10 by omega, ← hc] at hda
          exact hda
      have Hm := hide hm
      clear hm2 hc hda hal hm
      have hq : Hid (((m / 10 : Nat) : Int) = (m : Int) / 10) := by show _ = _; omega
      have hm10 : 0 ≤ (m : Int) := by omega
      generalize hX : tx [c] = X at *
      generalize hY : tx acc = Y at *
      have HX := hide hX
      have HY := hide hY
      clear hX hY
      cases b with
      | true =>
        clear hs
        go_wp2
        go_roundw
        case rel =>
          exact ⟨m / 10, [c] ++ acc, false, by rw [unhide hq], by rw [← unhide HA], rfl, by have := unhide Hm; omega, fun h => (unhide Hnext).1 (by simpa using h), fun _ h => (unhide Hnext).2 h, unhide Hb⟩
        case measure => simp [intOf, boolN]; omega
      | false =>
        have hs2 : (0 : Int) < (m : Int) := by simp at hs; omega
        clear hs
        go_wp2
        go_roundw
        case rel =>
          exact ⟨m / 10, [c] ++ acc, false, by rw [unhide hq], by rw [← unhide HA], rfl, by have := unhide Hm; omega, fun h => (unhide Hnext).1 (by simpa using h), fun _ h => (unhide Hnext).2 h, unhide Hb⟩
        case measure => simp [intOf, boolN]; omega
    · have hb2 : b = false := by
        cases b
        · rfl
        · exact absurd (.inl rfl) hs
      subst hb2
      obtain rfl : m = 0 := by
        rcases Nat.eq_zero_or_pos m with h | h
        · exact h
        · exact absurd (.inr h) hs
      have he := unhide Hend rfl rfl
      subst he
      clear hs hgo
      go_wp2
      go_ret
      exact ⟨rfl, unhide Hb⟩

/-- Equality of two texts, as the walk has it. -/
theorem tx_beq (a b : List UInt8) : ((tx a).toList == (tx b).toList) = decide (a = b) := by
  rw [ByteArray.toList_eq, ByteArray.toList_eq]
  rw [Bool.eq_iff_iff]
  simp [tx]
theorem words0 : wordsV = [.string (tx w0), .string (tx w1), .string (tx w2), .string (tx w3), .string (tx w4)] := rfl
theorem info61 : (Tryd.prog.info? 61).map (·.size) = some wordsV.length := by kernel_rfl
end Go.Proofs.YtglphnmnnfpcoaaDoor
