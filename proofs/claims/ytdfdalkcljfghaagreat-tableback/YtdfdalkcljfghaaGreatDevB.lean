/-
  The calls that turn the program's device by little: a step, a sector read, a thing done, a budget.
-/
import Derived.Test.YtdfdalkcljfghaaGreatDev
import Derived.Test.YtdfdalkcljfghaaGreatFlow
namespace Go.Proofs.YtdfdalkcljfghaaGreat
open Go.RowKit

section
variable {F : List Nat} {w : World} {p : Nat} {d : DM}

set_option maxHeartbeats 800000 in
set_option maxRecDepth 100000 in
theorem step_walk (h : Dev F w p d) : Calls Tryz.prog 162 #[.pointer (some ⟨p, 0, none⟩)] w fun e w' => e = .returned (.int .i64 (stepD d).1) ∧ Dev F w' p (stepD d).2 ∧ But F w w' ∧ w'.heap.size = w.heap.size := by
  have HM := hide h.mem
  obtain ⟨bk, bn, bw, wv, rfl, h⟩ := h
  have hc5 := h.dev.cell (i := 5) rfl
  have hc6 := h.dev.cell (i := 6) rfl
  have hf5 := h.dev.free 5
  have hf6 := h.dev.free 6
  have hlow := h.ok.low
  have hhigh := h.ok.high
  have hok := h.ok.step
  by_cases h0 : d.budget = 0
  · have e1 : stepD d = (62, { d with down := true }) := by unfold stepD; rw [if_pos h0]
    rw [e1] at hok ⊢
    have H1 := hide (h.field 6 (.bool true) (d' := { d with down := true }) rfl rfl rfl rfl rfl hok)
    clear h hok e1
    rw [h0] at hc5
    go_enter Tryz.func162, Tryz.ntmps162
    go_wp2
    go_ret
    exact ⟨rfl, ⟨bk, bn, bw, wv, rfl, unhide H1⟩, But.of_grown (set_grown _ _ _ _) (unhide HM), set_size _ _ _⟩
  · by_cases h1 : d.budget = -1
    · have e1 : stepD d = (0, { d with budget := -1 }) := by unfold stepD; rw [if_neg h0, if_pos h1]
      have e2 : ({ d with budget := -1 } : DM) = d := by rw [← h1]
      rw [e1, e2]
      have H1 := hide h
      clear h hok e1 e2
      rw [h1] at hc5
      go_enter Tryz.func162, Tryz.ntmps162
      go_wp2
      go_ret
      exact ⟨rfl, ⟨bk, bn, bw, wv, rfl, unhide H1⟩, But.refl _ _, rfl⟩
    · have e1 : stepD d = (0, { d with budget := d.budget - 1 }) := by unfold stepD; rw [if_neg h0, if_neg h1]
      rw [e1] at hok ⊢
      have H1 := hide (h.field 5 (.int .i64 (d.budget - 1)) (d' := { d with budget := d.budget - 1 }) rfl rfl rfl rfl rfl hok)
      clear h hok e1
      obtain ⟨bu, hbu⟩ : ∃ bu, bu = d.budget := ⟨_, rfl⟩
      rw [← hbu] at hc5 h0 h1 hlow hhigh H1
      have HBU := hide hbu
      clear hbu
      go_enter Tryz.func162, Tryz.ntmps162
      go_wp2
      go_ret
      refine ⟨rfl, ⟨bk, bn, bw, wv, rfl, ?_⟩, But.of_grown (set_grown _ _ _ _) (unhide HM), set_size _ _ _⟩
      rw [← unhide HBU]
      exact unhide H1

set_option maxHeartbeats 800000 in
set_option maxRecDepth 100000 in
theorem budget_walk (h : Dev F w p d) (s : Int) (hs : s ≤ 9223372036854775807) : Calls Tryz.prog 32 #[.pointer (some ⟨p, 0, none⟩), .int .i64 s] w fun e w' => e = .returned (.tuple #[]) ∧ Dev F w' p (budgetD d s) ∧ But F w w' ∧ w'.heap.size = w.heap.size := by
  have HM := hide h.mem
  obtain ⟨bk, bn, bw, wv, rfl, h⟩ := h
  have hc5 := h.dev.cell (i := 5) rfl
  have hf5 := h.dev.free 5
  by_cases h1 : s < -1
  · have e : max s (-1) = -1 := by omega
    have H1 := hide (h.field 5 (.int .i64 (-1)) (d' := budgetD d s) (by unfold budgetD; rw [e]; rfl) rfl rfl rfl rfl (h.ok.budget s hs))
    clear h e
    go_enter Tryz.func32, Tryz.ntmps32
    go_wp2
    all_goals (first
      | (exfalso; omega)
      | (refine ⟨rfl, .tuple #[], by simp [results, Tryz.results32], ?_⟩
         exact ⟨rfl, ⟨bk, bn, bw, wv, rfl, unhide H1⟩, But.of_grown (set_grown _ _ _ _) (unhide HM), set_size _ _ _⟩))
  · have e : max s (-1) = s := by omega
    have H1 := hide (h.field 5 (.int .i64 s) (d' := budgetD d s) (by unfold budgetD; rw [e]; rfl) rfl rfl rfl rfl (h.ok.budget s hs))
    clear h e
    go_enter Tryz.func32, Tryz.ntmps32
    go_wp2
    all_goals (first
      | (exfalso; omega)
      | (refine ⟨rfl, .tuple #[], by simp [results, Tryz.results32], ?_⟩
         exact ⟨rfl, ⟨bk, bn, bw, wv, rfl, unhide H1⟩, But.of_grown (set_grown _ _ _ _) (unhide HM), set_size _ _ _⟩))

set_option maxHeartbeats 800000 in
set_option maxRecDepth 100000 in
theorem read_walk (h : Dev F w p d) (i : Int) : Calls Tryz.prog 111 #[.pointer (some ⟨p, 0, none⟩), .int .i64 i] w fun e w' => e = .returned (.tuple #[secV (readD d i).1, .int .i64 (readD d i).2]) ∧ Below w.heap.size w w' := by
  have HD := hide h
  cases hb : hasD d.kept.length i with
  | false =>
    rw [show readD d i = (zeroS, 61) by simp [readD, hb]]
    clear h
    go_enter Tryz.func111, Tryz.ntmps111
    go_wp2_with (refine wpList_alloc 136 136 (bytesV zeroS) rfl rfl alloc136 ?_)
    intro w1 hA1 hb1 hs1
    have HA1 := hide hA1
    have Hb1 := hide hb1
    clear hA1 hb1
    go_wp2_with fail
    refine (has_walk ((unhide HD).below (unhide Hb1)) i).mono ?_
    rw [hb]
    rintro e w2 ⟨rfl, hw2⟩
    subst w2
    go_wp2_with (first
        | refine wpList_build 136 _ (bytesV zeroS) [] rfl rfl rfl built136 ?_
        | refine wpList_storeAll 136 _ _ w.heap.size (bytesV zeroS) (bytesV zeroS) rfl rfl rfl rfl (unhide HA1) rfl (info136s zeroS_len) (bytesV_one _) ?_)
    intro w2 hA2 hg2 hs2
    have HA2 := hide hA2
    have Hb2 := hide ((unhide Hb1).grown hg2 (by omega) (fun k hk => by simp at hk; omega))
    clear hA2 hg2
    go_wp2
    refine bodyPost_ret (v := .tuple #[secV zeroS, .int .i64 61]) ?_ rfl ⟨rfl, unhide Hb2⟩
    exact results_two Tryz.results111 rfl rfl (unhide HA2) Tryz.underlying136 rfl (info136s zeroS_len)
  | true =>
    obtain ⟨k, rfl, hk⟩ := hasD_nat hb
    rw [show readD d (k : Int) = (d.now.getD k [], 0) by simp [readD, hb]]
    have hnl := h.ok.now
    have HS64 := hide (getD_mem64 h.ok.nowS (i := k) (by rw [hnl]; exact hk))
    have HB := hide (hb)
    obtain ⟨bk, bn, bw, wv, rfl, hd⟩ := h
    have HR : ∀ w1, Below w.heap.size w w1 → Hid (w1.rangeAt bn (k * 64) (bytesV (d.now.getD k [])) ∧ w1.cell? ⟨p, 1, none⟩ = some (.slice (some ⟨bn, 0, none⟩) d.kept.length d.kept.length)) := fun w1 hb1 =>
      hide ⟨(hd.now.below hb1).sec hd.ok.nowS (by rw [hnl]; exact hk), (hd.dev.below hb1).cell (i := 1) rfl⟩
    clear hd hb hnl
    generalize d.now.getD k [] = sec at *
    go_enter Tryz.func111, Tryz.ntmps111
    go_wp2_with (refine wpList_alloc 136 136 (bytesV zeroS) rfl rfl alloc136 ?_)
    intro w1 hA1 hb1 hs1
    have HA1 := hide hA1
    have Hb1 := hide hb1
    have HR1 := HR w1 hb1
    clear hA1 hb1 HR
    go_wp2_with fail
    refine (has_walk ((unhide HD).below (unhide Hb1)) k).mono ?_
    rw [unhide HB]
    rintro e w2 ⟨rfl, hw2⟩
    subst w2
    have hc1 := (unhide HR1).2
    have HRG := hide (unhide HR1).1
    clear HR1 HD HB
    generalize d.kept.length = n at *
    go_wp2_with (first
        | refine wpList_load_mid rfl 136 _ rfl bn (k * 64) rfl (bytesV sec) _ (unhide HRG) Tryz.underlying136 rfl (info136s (unhide HS64)) ?_
        | refine wpList_storeAll 136 _ _ w.heap.size (bytesV sec) (bytesV zeroS) rfl rfl rfl rfl (unhide HA1) (by rw [bytesV_length, bytesV_length, unhide HS64]; rfl) (info136s (unhide HS64)) (bytesV_one _) ?_)
    intro w2 hA2 hg2 hs2
    have HA2 := hide hA2
    have Hb2 := hide ((unhide Hb1).grown hg2 (by omega) (fun k hk => by simp at hk; omega))
    clear hA2 hg2
    go_wp2
    refine bodyPost_ret (v := .tuple #[secV sec, .int .i64 0]) ?_ rfl ⟨rfl, unhide Hb2⟩
    exact results_two Tryz.results111 rfl rfl (unhide HA2) Tryz.underlying136 rfl (info136s (unhide HS64))
end
end Go.Proofs.YtdfdalkcljfghaaGreat
