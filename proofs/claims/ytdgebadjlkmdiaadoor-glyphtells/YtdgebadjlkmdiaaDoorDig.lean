/-
  The digits of a number to sixteen, as bootjackref04 tells them.
-/
import Derived.Test.YtdgebadjlkmdiaaDoorTwo
namespace Go.Proofs.YtdgebadjlkmdiaaDoor
open Go.RowKit

theorem tx_append (a b : List UInt8) : tx a ++ tx b = tx (a ++ b) := by
  apply ByteArray.ext
  simp [tx]

theorem digit_cut (n : Nat) (h : n < 16) : (⟨#[48, 49, 50, 51, 52, 53, 54, 55, 56, 57, 97, 98, 99, 100, 101, 102]⟩ : ByteArray).extract n (n + 1) = tx [hexd n] := by
  have : ∀ k : Fin 16, (⟨#[48, 49, 50, 51, 52, 53, 54, 55, 56, 57, 97, 98, 99, 100, 101, 102]⟩ : ByteArray).extract k.val (k.val + 1) = tx [hexd k.val] := by decide +kernel
  exact this ⟨n, h⟩

set_option maxHeartbeats 8000000 in
set_option maxRecDepth 1000000 in
theorem dig_small (n : Nat) (hn : n < 16) (w : World) : Calls Tryd.prog 31 #[.int .i64 (n : Int)] w fun e w' => e = .returned (.string (tx (hexL n))) ∧ Below w.heap.size w w' := by
  rw [hexL_small hn, ← digit_cut n hn]
  go_enter Tryd.func31, Tryd.ntmps31
  go_wp2
  first
    | (go_ret; exact ⟨rfl, Below.refl _ _⟩)
    | (go_region; go_wp2; go_ret; exact ⟨rfl, Below.drew (Below.refl _ _)⟩)

set_option maxHeartbeats 8000000 in
set_option maxRecDepth 1000000 in
theorem dig_walk (n : Nat) : n < 16777216 → ∀ w, Calls Tryd.prog 31 #[.int .i64 (n : Int)] w fun e w' => e = .returned (.string (tx (hexL n))) ∧ Below w.heap.size w w' := by
  induction n using Nat.strongRecOn with
  | _ n ih =>
    intro h w
    by_cases h16 : n < 16
    · exact dig_small n h16 w
    · have h1 := ih (n / 16) (by omega) (by omega)
      have h2 := dig_small (n % 16) (by omega)
      rw [hexL_step (by omega)]
      rw [hexL_small (show n % 16 < 16 by omega)] at h2
      have hl := hexF_len (n / 16 + 1) (n / 16) (by omega)
      have hz : (tx (hexL (n / 16))).size + (tx [hexd (n % 16)]).size ≤ 9223372036854775807 := by
        rw [tx_size, tx_size]
        show (hexF (n / 16 + 1) (n / 16)).length + 1 ≤ _
        omega
      have HA := hide (tx_append (hexL (n / 16)) [hexd (n % 16)])
      have hq : ((n / 16 : Nat) : Int) = (n : Int) / 16 := by omega
      have hr : ((n % 16 : Nat) : Int) = (n : Int) % 16 := by omega
      rw [hq] at h1
      rw [hr] at h2
      have H1 := hide h1
      have H2 := hide h2
      clear h1 h2 ih hl hq hr
      generalize tx (hexL (n / 16)) = q at *
      generalize tx [hexd (n % 16)] = r at *
      have h16' : ¬ (n : Int) < 16 := by omega
      go_enter Tryd.func31, Tryd.ntmps31
      go_wp2_with fail
      refine (unhide H1 w).mono ?_
      rintro e w1 ⟨rfl, hb1⟩
      go_wp2_with fail
      refine (unhide H2 w1).mono ?_
      rintro e w2 ⟨rfl, hb2⟩
      go_wp2
      go_ret
      rw [← unhide HA]
      exact ⟨rfl, hb1.trans (hb2.mono hb1.size)⟩
end Go.Proofs.YtdgebadjlkmdiaaDoor
