/-
  What crc.More and crc.Sum answer, for every argument. They change no memory.
-/
import Derived.Test.YtkcchadecnkgnaaKStep
namespace Go.Proofs.Ytkcchadecnkgnaa
open Go.RowKit

/-- A slice of bytes: its length is the list's; its cells hold the list's bytes. -/
def CRow (w : World) (a : Option Addr) (len : Nat) (bs : List (BitVec 8)) : Prop :=
  bs.length = len ∧ len ≤ 140737488351232 ∧ ∀ i, i < len → ∃ b off, a = some ⟨b, off, none⟩ ∧ w.cell? ⟨b, off + i, none⟩ = some (.int .u8 (((bs.getD i 0).toNat : Nat) : Int))

theorem ctake_snoc (bs : List (BitVec 8)) (k : Nat) (h : k < bs.length) : bs.take (k + 1) = bs.take k ++ [bs.getD k 0] := by
  rw [List.take_succ_eq_append_getElem h, List.getD_eq_getElem?_getD, List.getElem?_eq_getElem h]
  rfl

theorem not_N32 (x : BitVec 32) : bits .xor .u32 IntKind.u32.max (N32 x) = N32 (~~~ x) := by
  have h : IntKind.u32.max = N32 (BitVec.allOnes 32) := by decide
  rw [h, bits_xor32, BitVec.allOnes_xor]

theorem more_any (s : BitVec 32) (a : Option Addr) (len cap : Nat) (bs : List (BitVec 8)) (w : World) (hr : CRow w a len bs) :
    Calls Try.prog 38 #[.int .u32 (N32 s), .slice a len cap] w fun e w' => e = .returned (.int .u32 (N32 (Crc.more s bs))) ∧ w' = w := by
  obtain ⟨hl, hm, hc⟩ := hr
  have hn := not_N32 s
  go_enter Try.func38, Try.ntmps38
  go_wp2
  go_loop [5, 12] (fun g i => ∃ k : Nat, k ≤ len ∧ i = .int .i64 k ∧ g = .int .u32 (N32 (Crc.run (~~~ s) (bs.take k)))) (fun _ i => len - (intOf i).toNat)
  case atStart => exact ⟨0, by omega, rfl, rfl⟩
  case round =>
    obtain ⟨k, hk, rfl, rfl⟩ := hrel
    clear hn
    by_cases hlt : k < len
    · obtain ⟨b, off, rfl, hcell⟩ := hc k hlt
      have hts := ctake_snoc bs k (by omega)
      have Hs : Hid (Crc.run (~~~ s) (bs.take (k + 1)) = Crc.step (Crc.run (~~~ s) (bs.take k)) (bs.getD k 0)) := by
        show Crc.run (~~~ s) (bs.take (k + 1)) = _
        rw [hts, Crc.run_append]; rfl
      clear hts hc
      generalize bs.getD k 0 = c at *
      generalize Crc.run (~~~ s) (bs.take k) = x at *
      go_wp2_with (go_at_call 41; refine (step_any _ _ _).mono ?_; rintro e w' ⟨rfl, rfl⟩)
      go_round
      case rel => exact ⟨k + 1, by omega, by go_num, by rw [Hs.out]⟩
      case measure => simp [intOf]; omega
    · have hk' : k = len := by omega
      have e : bs.take k = bs := List.take_of_length_le (by omega)
      rw [e]
      have hn := not_N32 (Crc.run (~~~ s) bs)
      clear hc e
      go_wp2
      go_ret
      exact ⟨rfl, rfl⟩

/-- A slice of slices of bytes. -/
def CParts (w : World) (a : Option Addr) (n : Nat) (ps : List (List (BitVec 8))) : Prop :=
  ps.length = n ∧ n ≤ 140737488351232 ∧ ∀ i, i < n → ∃ b off ai li ci, a = some ⟨b, off, none⟩ ∧ w.cell? ⟨b, off + i, none⟩ = some (.slice ai li ci) ∧ CRow w ai li (ps.getD i [])

theorem ctake_snoc2 (ps : List (List (BitVec 8))) (k : Nat) (h : k < ps.length) : ps.take (k + 1) = ps.take k ++ [ps.getD k []] := by
  rw [List.take_succ_eq_append_getElem h, List.getD_eq_getElem?_getD, List.getElem?_eq_getElem h]
  rfl

theorem sum_any (a : Option Addr) (n cap : Nat) (ps : List (List (BitVec 8))) (w : World) (hr : CParts w a n ps) :
    Calls Try.prog 27 #[.slice a n cap] w fun e w' => e = .returned (.int .u32 (N32 (Crc.more 0#32 ps.flatten))) ∧ w' = w := by
  obtain ⟨hl, hm, hc⟩ := hr
  go_enter Try.func27, Try.ntmps27
  go_wp2
  go_loop [3, 8] (fun g i => ∃ k : Nat, k ≤ n ∧ i = .int .i64 k ∧ g = .int .u32 (N32 (Crc.more 0#32 (ps.take k).flatten))) (fun _ i => n - (intOf i).toNat)
  case atStart => exact ⟨0, by omega, rfl, by rw [List.take_zero, List.flatten_nil, Crc.more_nil]; rfl⟩
  case round =>
    obtain ⟨k, hk, rfl, rfl⟩ := hrel
    by_cases hlt : k < n
    · obtain ⟨b, off, ai, li, ci, rfl, hcell, hrow⟩ := hc k hlt
      have hts := ctake_snoc2 ps k (by omega)
      have Hs : Hid (Crc.more 0#32 (ps.take (k + 1)).flatten = Crc.more (Crc.more 0#32 (ps.take k).flatten) (ps.getD k [])) := by
        show Crc.more 0#32 (ps.take (k + 1)).flatten = _
        rw [hts, List.flatten_append, Crc.more_append]; simp
      clear hts hc
      have Hr := hide hrow
      clear hrow
      generalize ps.getD k [] = c at *
      generalize Crc.more 0#32 (ps.take k).flatten = x at *
      go_wp2_with (go_at_call 38; refine (more_any _ _ _ _ _ _ (unhide Hr)).mono ?_; rintro e w' ⟨rfl, rfl⟩)
      go_round
      case rel => exact ⟨k + 1, by omega, by go_num, by rw [Hs.out]⟩
      case measure => simp [intOf]; omega
    · have e : ps.take k = ps := List.take_of_length_le (by omega)
      rw [e]
      clear hc e
      go_wp2
      go_ret
      exact ⟨rfl, rfl⟩

end Go.Proofs.Ytkcchadecnkgnaa
