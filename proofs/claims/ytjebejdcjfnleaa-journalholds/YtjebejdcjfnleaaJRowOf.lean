/-
  The longest row of a bank, read: rowOf; which of two counts.
-/
import Derived.Test.YtjebejdcjfnleaaJBods
namespace Go.Proofs.Ytjebejdcjfnleaa
open Go.RowKit

def zeroRow : List Value := [.int .u64 0, .int .u64 0, .slice none 0 0]
theorem alloc54 (w : World) : (Instr.alloc 54 true (.tuple #[])).run Try.prog w = .ok (.pointer (some ⟨w.heap.size, 0, none⟩)) (w.alloc (.cells zeroRow.toArray 54)) := by kernel_rfl
theorem info54 : (Try.prog.info? 54).map (·.size) = some 3 := by kernel_rfl
theorem row_nou8 (x y : Nat) (a : Option Addr) (n c : Nat) : ∀ v ∈ [Value.int .u64 (x : Int), .int .u64 (y : Int), .slice a n c], ∀ k : Int, v ≠ .int .u8 k := by
  intro v hv k
  simp only [List.mem_cons, List.not_mem_nil, or_false] at hv
  rcases hv with rfl | rfl | rfl <;> simp
theorem row_one (x y : Nat) (a : Option Addr) (n c : Nat) : ∀ v ∈ [Value.int .u64 (x : Int), .int .u64 (y : Int), .slice a n c], v.oneCell' = true := by
  intro v hv
  simp only [List.mem_cons, List.not_mem_nil, or_false] at hv
  rcases hv with rfl | rfl | rfl <;> rfl
theorem SecAt.rowV {w : World} {g : Nat} {ss : List Sec} (h : SecAt w g ss) {o n off : Nat} (hn : ss.length = n) (ho : o ≤ n) (hoff : n - o ≠ 0 → off = 64 * o) (hm : n ≤ 4096) : SRowV w.heap.size w (.slice (some ⟨g, off, none⟩) (n - o) (n - o)) (ss.drop o) :=
  ⟨_, n - o, n - o, rfl, Nat.le_refl _, by simp only [maxLen]; omega, by simp, by rw [List.length_drop]; omega, fun s hs => h.sec s (List.mem_of_mem_drop hs), fun i hi => ⟨g, off, rfl, h.lt, by
    have := h.row (o + i) (by omega)
    rw [hoff (by omega), show 64 * o + i * 64 = (o + i) * 64 by omega]
    have e : (ss.drop o).getD i [] = ss.getD (o + i) [] := by
      rw [List.getD_eq_getElem?_getD, List.getElem?_drop, ← List.getD_eq_getElem?_getD]
    rw [e]
    exact this⟩⟩
theorem getF_seq (l : List Sec) : (getF l).2.1 < 18446744073709551616 := by
  rcases getF_cases l with h | ⟨r, h1, h2, h3, h4, h5⟩
  · rw [h]; show 0 < _; omega
  · rw [h5]; exact seqF_lt _

set_option maxHeartbeats 1600000 in
set_option maxRecDepth 100000 in
theorem over_walk (x y n c x2 y2 n2 c2 : Nat) (a a2 : Option Addr) (w : World) : Calls Try.prog 21 #[.agg #[.int .u64 (x : Int), .int .u64 (y : Int), .slice a n c], .agg #[.int .u64 (x2 : Int), .int .u64 (y2 : Int), .slice a2 n2 c2]] w fun e w' =>
    e = .returned (.bool (decide (0 < n) && (!decide (0 < n2) || decide (x2 < x)))) ∧ Below w.heap.size w w' := by
  have HC := fun w' => hide (counts_walk x y n c a w')
  have HC2 := fun w' => hide (counts_walk x2 y2 n2 c2 a2 w')
  have hx : (decide (x2 < x)) = decide ((x2 : Int) < (x : Int)) := decide_eq_decide.2 (by omega)
  rw [hx]
  clear hx
  by_cases h0 : 0 < n
  · have e0 : decide (0 < n) = true := decide_eq_true h0
    rw [e0] at *
    by_cases h2 : 0 < n2
    · have e2 : decide (0 < n2) = true := decide_eq_true h2
      rw [e2] at *
      go_enter Try.func21, Try.ntmps21
      go_wp2_with (refine wpList_box 54 _ [.int .u64 (x : Int), .int .u64 (y : Int), .slice a n c] rfl rfl rfl ?_)
      intro w1 hA1 hb1 hs1
      have HA1 := hide hA1
      have HB1 := hide hb1
      clear hA1 hb1
      go_wp2_with (refine wpList_box 54 _ [.int .u64 (x2 : Int), .int .u64 (y2 : Int), .slice a2 n2 c2] rfl rfl rfl ?_)
      intro w2 hA2 hb2 hs2
      have HA2 := hide hA2
      have HA12 := hide ((unhide HA1).keep hb2 (by omega))
      have HB2 := hide ((unhide HB1).trans (hb2.mono (by omega)))
      clear hA2 hb2 HB1 HA1
      go_wp2_with (refine wpList_loadAll 54 _ _ [.int .u64 (x : Int), .int .u64 (y : Int), .slice a n c] _ rfl rfl rfl (unhide HA12) Try.underlying54 rfl info54 ?_)
      go_wp2_with fail
      refine (unhide (HC w2)).mono ?_
      rintro e w3 ⟨rfl, hb3⟩
      have HA3 := hide ((unhide HA12).below hb3)
      have HA32 := hide ((unhide HA2).below hb3)
      have HB3 := hide ((unhide HB2).trans (hb3.mono (unhide HB2).size))
      clear hb3 HB2 HA12 HA2
      have hq0 := (unhide HA32).cell (i := 0) rfl
      have hq1 := (unhide HA32).cell (i := 1) rfl
      have hq2 := (unhide HA32).cell (i := 2) rfl
      go_wp2_with fail
      refine (unhide (HC2 w3)).mono ?_
      rintro e w4 ⟨rfl, hb4⟩
      have hc1 := ((unhide HA3).below hb4).cell (i := 0) rfl
      have hc2 := ((unhide HA32).below hb4).cell (i := 0) rfl
      have HB4 := hide ((unhide HB3).trans (hb4.mono (unhide HB3).size))
      clear hb4 HB3 HA3 HA32
      go_wp2
      go_ret
      refine ⟨?_, unhide HB4⟩
      first | rfl | simp
    · have e2 : decide (0 < n2) = false := decide_eq_false h2
      rw [e2] at *
      go_enter Try.func21, Try.ntmps21
      go_wp2_with (refine wpList_box 54 _ [.int .u64 (x : Int), .int .u64 (y : Int), .slice a n c] rfl rfl rfl ?_)
      intro w1 hA1 hb1 hs1
      have HA1 := hide hA1
      have HB1 := hide hb1
      clear hA1 hb1
      go_wp2_with (refine wpList_box 54 _ [.int .u64 (x2 : Int), .int .u64 (y2 : Int), .slice a2 n2 c2] rfl rfl rfl ?_)
      intro w2 hA2 hb2 hs2
      have HA2 := hide hA2
      have HA12 := hide ((unhide HA1).keep hb2 (by omega))
      have HB2 := hide ((unhide HB1).trans (hb2.mono (by omega)))
      clear hA2 hb2 HB1 HA1
      go_wp2_with (refine wpList_loadAll 54 _ _ [.int .u64 (x : Int), .int .u64 (y : Int), .slice a n c] _ rfl rfl rfl (unhide HA12) Try.underlying54 rfl info54 ?_)
      go_wp2_with fail
      refine (unhide (HC w2)).mono ?_
      rintro e w3 ⟨rfl, hb3⟩
      have HA32 := hide ((unhide HA2).below hb3)
      have HB3 := hide ((unhide HB2).trans (hb3.mono (unhide HB2).size))
      clear hb3 HB2 HA12 HA2
      have hq0 := (unhide HA32).cell (i := 0) rfl
      have hq1 := (unhide HA32).cell (i := 1) rfl
      have hq2 := (unhide HA32).cell (i := 2) rfl
      go_wp2_with fail
      refine (unhide (HC2 w3)).mono ?_
      rintro e w4 ⟨rfl, hb4⟩
      have HB4 := hide ((unhide HB3).trans (hb4.mono (unhide HB3).size))
      clear hb4 HB3 HA32
      go_wp2
      go_ret
      refine ⟨?_, unhide HB4⟩
      first | rfl | simp
  · have e0 : decide (0 < n) = false := decide_eq_false h0
    rw [e0] at *
    go_enter Try.func21, Try.ntmps21
    go_wp2_with (refine wpList_box 54 _ [.int .u64 (x : Int), .int .u64 (y : Int), .slice a n c] rfl rfl rfl ?_)
    intro w1 hA1 hb1 hs1
    have HA1 := hide hA1
    have HB1 := hide hb1
    clear hA1 hb1
    go_wp2_with (refine wpList_box 54 _ [.int .u64 (x2 : Int), .int .u64 (y2 : Int), .slice a2 n2 c2] rfl rfl rfl ?_)
    intro w2 hA2 hb2 hs2
    have HA12 := hide ((unhide HA1).keep hb2 (by omega))
    have HB2 := hide ((unhide HB1).trans (hb2.mono (by omega)))
    clear hA2 hb2 HB1 HA1
    go_wp2_with (refine wpList_loadAll 54 _ _ [.int .u64 (x : Int), .int .u64 (y : Int), .slice a n c] _ rfl rfl rfl (unhide HA12) Try.underlying54 rfl info54 ?_)
    go_wp2_with fail
    refine (unhide (HC w2)).mono ?_
    rintro e w3 ⟨rfl, hb3⟩
    have HB3 := hide ((unhide HB2).trans (hb3.mono (unhide HB2).size))
    clear hb3 HB2 HA12
    go_wp2
    go_ret
    refine ⟨?_, unhide HB3⟩
    first | rfl | simp
end Go.Proofs.Ytjebejdcjfnleaa
