/-
  The chapter's example.
-/
import Derived.Test.YtebahemgbpjldaaNew
namespace Go.Proofs.Ytebahemgbpjldaa
open Go.RowKit

def oneS (v : UInt8) : Sec := v :: List.replicate 63 0
theorem oneS_len (v : UInt8) : (oneS v).length = 64 := by simp [oneS]
theorem builtOne1 : Try.prog.built 26 [(0, .int .u8 1)] = some (bytesV (oneS 1)).toArray := by kernel_rfl
theorem builtOne2 : Try.prog.built 26 [(0, .int .u8 2)] = some (bytesV (oneS 2)).toArray := by kernel_rfl

def al0 : DM := newD 2 5
def al1 : DM := (programD al0 1 (oneS 1)).2
def al2 : DM := (programD al1 1 (oneS 2)).2
def al3 : DM := (eraseD al2 1).2
theorem al_e1 : (programD al0 1 (oneS 1)).1 = 0 := by decide +kernel
theorem al_e2 : (programD al1 1 (oneS 2)).1 = 63 := by decide +kernel
theorem al_e3 : (eraseD al2 1).1 = 0 := by decide +kernel
theorem al_e4 : (programD al3 1 (oneS 2)).1 = 0 := by decide +kernel
theorem al_w0 : al0.wait.length ≤ 1000000 := by decide +kernel
theorem al_w1 : al1.wait.length ≤ 1000000 := by decide +kernel
theorem al_w2 : al2.wait.length ≤ 1000000 := by decide +kernel
theorem al_w3 : al3.wait.length ≤ 1000000 := by decide +kernel
theorem al_k0 : al0.kept.length = 2 := by decide +kernel

section
variable {F : List Nat} {w : World} {p : Nat}
theorem al_p1 (h : Dev F w p al0) : Calls Try.prog 12 #[.pointer (some ⟨p, 0, none⟩), .int .i64 1, secV (oneS 1)] w fun e w' => e = .returned (.int .i64 0) ∧ ∃ F', Dev F' w' p al1 ∧ Turns F F' w w' := by
  have := program_walk h 1 (oneS 1) (oneS_len 1) al_w0
  rw [al_e1] at this
  exact this
theorem al_p2 (h : Dev F w p al1) : Calls Try.prog 12 #[.pointer (some ⟨p, 0, none⟩), .int .i64 1, secV (oneS 2)] w fun e w' => e = .returned (.int .i64 63) ∧ ∃ F', Dev F' w' p al2 ∧ Turns F F' w w' := by
  have := program_walk h 1 (oneS 2) (oneS_len 2) al_w1
  rw [al_e2] at this
  exact this
theorem al_p3 (h : Dev F w p al2) : Calls Try.prog 10 #[.pointer (some ⟨p, 0, none⟩), .int .i64 1] w fun e w' => e = .returned (.int .i64 0) ∧ ∃ F', Dev F' w' p al3 ∧ Turns F F' w w' := by
  have := erase_walk h 1 al_w2
  rw [al_e3] at this
  exact this
theorem al_p4 (h : Dev F w p al3) : Calls Try.prog 12 #[.pointer (some ⟨p, 0, none⟩), .int .i64 1, secV (oneS 2)] w fun e w' => e = .returned (.int .i64 0) ∧ ∃ F', Dev F' w' p (programD al3 1 (oneS 2)).2 ∧ Turns F F' w w' := by
  have := program_walk h 1 (oneS 2) (oneS_len 2) al_w3
  rw [al_e4] at this
  exact this
theorem al_size (h : Dev F w p al0) : Calls Try.prog 18 #[.pointer (some ⟨p, 0, none⟩)] w fun e w' => e = .returned (.int .i64 2) ∧ w' = w := by
  have := size_walk h
  rw [al_k0] at this
  exact this
end
/-- A device below which nothing turns. -/
theorem Turns.under {F F' : List Nat} {N : Nat} {w w' : World} (h : Turns F F' w w') (hF : ∀ k ∈ F, N ≤ k) (hN : N ≤ w.heap.size) : Below N w w' ∧ ∀ k ∈ F', N ≤ k :=
  ⟨h.1.below hF hN, fun k hk => by
    rcases h.2 k hk with e | e
    · exact hF k e
    · omega⟩

set_option maxHeartbeats 1600000 in
set_option maxRecDepth 100000 in
theorem alive_walk (w : World) : Calls Try.prog 7 #[] w fun e w' => e = .returned (.bool true) ∧ Below w.heap.size w w' := by
  have HN := hide (new_walk 2 5 w)
  go_enter Try.func7, Try.ntmps7
  go_wp2_with fail
  refine (unhide HN).mono ?_
  rintro e w1 ⟨F, p, rfl, hD, hF, hb⟩
  have HD1 : Hid (Dev F w1 p al0) := hide hD
  have HF1 := hide hF
  have Hb1 := hide hb
  clear hD hF hb HN
  go_wp2_with fail
  refine (al_size (unhide HD1)).mono ?_
  rintro e w2 ⟨rfl, hw2⟩
  subst w2
  go_wp2_with (refine wpList_build 26 _ (bytesV (oneS 1)) [(0, .int .u8 1)] rfl rfl rfl builtOne1 ?_)
  refine (al_p1 (unhide HD1)).mono ?_
  rintro e w2 ⟨rfl, F2, hD2, hT2⟩
  have hu2 := hT2.under (unhide HF1) (unhide Hb1).size
  have HD2 := hide hD2
  have HF2 := hide hu2.2
  have Hb2 := hide ((unhide Hb1).trans hu2.1)
  clear hD2 hT2 hu2 HD1 HF1 Hb1
  go_wp2_with (refine wpList_build 26 _ (bytesV (oneS 2)) [(0, .int .u8 2)] rfl rfl rfl builtOne2 ?_)
  refine (al_p2 (unhide HD2)).mono ?_
  rintro e w3 ⟨rfl, F3, hD3, hT3⟩
  have hu3 := hT3.under (unhide HF2) (unhide Hb2).size
  have HD3 := hide hD3
  have HF3 := hide hu3.2
  have Hb3 := hide ((unhide Hb2).trans hu3.1)
  clear hD3 hT3 hu3 HD2 HF2 Hb2
  go_wp2_with fail
  refine (al_p3 (unhide HD3)).mono ?_
  rintro e w4 ⟨rfl, F4, hD4, hT4⟩
  have hu4 := hT4.under (unhide HF3) (unhide Hb3).size
  have HD4 := hide hD4
  have HF4 := hide hu4.2
  have Hb4 := hide ((unhide Hb3).trans hu4.1)
  clear hD4 hT4 hu4 HD3 HF3 Hb3
  go_wp2_with (refine wpList_build 26 _ (bytesV (oneS 2)) [(0, .int .u8 2)] rfl rfl rfl builtOne2 ?_)
  refine (al_p4 (unhide HD4)).mono ?_
  rintro e w5 ⟨rfl, F5, hD5, hT5⟩
  have hu5 := hT5.under (unhide HF4) (unhide Hb4).size
  have Hb5 := hide ((unhide Hb4).trans hu5.1)
  clear hD5 hT5 hu5 HD4 HF4 Hb4
  go_wp2_with fail
  go_ret
  exact ⟨rfl, unhide Hb5⟩
end Go.Proofs.Ytebahemgbpjldaa
