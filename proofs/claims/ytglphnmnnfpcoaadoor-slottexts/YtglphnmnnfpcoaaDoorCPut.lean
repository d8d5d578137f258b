
/-
  What code.sizeOf, bytes.Clone, code.put, code.Fixed and code.Text answer.
-/
import Derived.Test.YtglphnmnnfpcoaaDoorOwn
import Derived.Test.YtglphnmnnfpcoaaDoorCMath
import Derived.Lib.SliceRun
namespace Go.Proofs.YtglphnmnnfpcoaaDoor
open Go.RowKit

theorem run_max0 (m : Int) (w : World) : (Builtin.max_ #[3, 3] 3 #[.int .i64 m, .int .i64 0]).run Tryd.prog w = .ok (.int .i64 (if m < 0 then 0 else m)) w := by
  simp [Builtin.max_, Builtin.max2]
theorem run_min8 (m : Int) (w : World) : (Builtin.min_ #[3, 3] 3 #[.int .i64 m, .int .i64 8]).run Tryd.prog w = .ok (.int .i64 (if 8 < m then 8 else m)) w := by
  simp [Builtin.min_, Builtin.min2]

set_option maxHeartbeats 400000 in
set_option maxRecDepth 100000 in
theorem sizeOf_walk (m : Int) (w : World) : Calls Tryd.prog 64 #[.int .i64 m] w fun e w' => e = .returned (.int .i64 (sizeN m : Int)) ∧ w' = w := by
  have h1 := run_max0 m w
  obtain ⟨q, hq⟩ : ∃ q, q = if m < 0 then 0 else m := ⟨_, rfl⟩
  rw [← hq] at h1
  have h2 := run_min8 q w
  obtain ⟨p, hp⟩ : ∃ p, p = if 8 < q then 8 else q := ⟨_, rfl⟩
  rw [← hp] at h2
  have HP : Hid (p = (sizeN m : Int)) := hide (by rw [hp, hq]; unfold sizeN; split <;> split <;> omega)
  clear hp hq
  go_enter Tryd.func64, Tryd.ntmps64
  go_wp2
  go_ret
  exact ⟨by rw [unhide HP]; rfl, rfl⟩

set_option maxHeartbeats 400000 in
set_option maxRecDepth 100000 in
theorem clone_walk (N : Nat) (v : Value) (bs : List UInt8) (w : World) (hN : N ≤ w.heap.size) (hr : RowV N w v bs) :
    Calls Tryd.prog 59 #[v] w fun e w' => ∃ v', e = .returned v' ∧ Own w.heap.size w' v' bs ∧ Below w.heap.size w w' := by
  have HR := hide hr
  obtain ⟨a, len, cap, rfl, h1, h2, h3, hrow⟩ := hr
  have hn := Lib.run_eql_slice_nil (P := Tryd.prog) w 34 5 a len cap 0 0 Tryd.underlying34
  cases a with
  | none =>
    obtain rfl := h3 rfl
    obtain rfl : len = 0 := by omega
    obtain rfl : bs = [] := List.length_eq_zero_iff.1 hrow.1
    go_enter Tryd.func59, Tryd.ntmps59
    go_wp2
    go_ret
    exact ⟨_, rfl, Own.nil _ _, Below.refl _ _⟩
  | some x =>
    have Hl := hide hrow.1
    have Hl2 := hide hrow.2.1
    clear hrow h3
    have hb : Below w.heap.size w (w.alloc (.cells #[] 5)) := (Below.refl _ _).alloc (Nat.le_refl _) _
    have hb2 : Below N w (w.alloc (.cells #[] 5)) := hb.mono hN
    have HR2 := hide ((unhide HR).below hb2)
    have HE := hide (Own.empty w)
    go_enter Tryd.func59, Tryd.ntmps59
    go_wp2_with (refine wpList_appRow rfl _ _ rfl w.heap.size N _ [] rfl (unhide HE) _ rfl bs (unhide HR2) ?_ ?_ ?_)
    · have e1 := unhide Hl; have e2 := unhide Hl2; simp; omega
    · simp
    · intro v' w' hO hG
      have hb3 := hb.trans ((unhide HE).below hG (by simp))
      have HO := hide hO
      clear hO hG
      go_wp2_with fail
      go_ret
      exact ⟨_, rfl, unhide HO, hb3⟩

theorem cell_fresh (w : World) (C : Array Value) (e : TypeId) (i : Nat) : (w.alloc (.cells C e (0, 0))).cell? ⟨w.heap.size, i, none⟩ = C[i]? :=
  cell_of_row _ _ _ C e _ (heap_alloc_new w _)
theorem pow_split (k : Nat) : 256 ^ (k + 1) = 256 ^ k * 256 := Nat.pow_succ ..

set_option maxHeartbeats 800000 in
set_option maxRecDepth 100000 in
theorem put_walk (B : Nat) (v : Value) (l : List UInt8) (n : Nat) (_hn : n < 18446744073709551616) (m : Int) (w : World) (hB : B ≤ w.heap.size) (ho : Own B w v l) (hl : l.length ≤ 1000000) :
    Calls Tryd.prog 58 #[v, .int .u64 (n : Int), .int .i64 m] w fun e w' => ∃ v', e = .returned v' ∧ Own B w' v' (l ++ fixedL n (sizeN m)) ∧ Below B w w' := by
  have HO := hide ho
  have hs8 := sizeN_le m
  have HC := hide (sizeOf_walk m w)
  clear ho
  generalize sizeN m = q at *
  go_enter Tryd.func58, Tryd.ntmps58
  go_wp2_with (go_at_call 64; refine (unhide HC).mono ?_; rintro e w1 ⟨rfl, hw1⟩; subst w1)
  go_loopw [0, 1, 9] (fun cr cn ci wr => ∃ k : Nat, k ≤ q ∧ ci = .int .i64 (k : Int) ∧ cn = .int .u64 ((n / 256 ^ k : Nat) : Int) ∧ Own B wr cr (l ++ fixedL n k) ∧ Below B w wr) (fun _ _ ci _ => q - (intOf ci).toNat)
  case atStart => exact ⟨0, by omega, rfl, by simp, by simpa [fixedL] using unhide HO, Below.refl _ _⟩
  case round =>
    obtain ⟨k, hk, rfl, rfl, hO, hb⟩ := hrel
    by_cases hlt : k < q
    · have hst := fixedL_snoc k n
      have hlen := fixedL_length k n
      have hd : n / 256 ^ (k + 1) = n / 256 ^ k / 256 := by rw [pow_split, Nat.div_div_eq_div_mul]
      have hle : n / 256 ^ k ≤ n := Nat.div_le_self _ _
      have HST := hide hst
      have HD := hide hd
      have HL := hide hlen
      clear hst hd hlen
      generalize n / 256 ^ k = p at *
      have HOk := hide hO
      clear hO
      go_wp2_with (refine wpList_app rfl _ _ rfl B _ (l ++ fixedL n k) rfl ((unhide HOk).keep fun k hk => Below.heap_alloc _ _ _ hk) ⟨_, 0, none⟩ 1 1 rfl [UInt8.ofNat p] rfl ?_ ?_ ?_ ?_)
      · intro j hj
        obtain rfl : j = 0 := by omega
        rw [Addr.add_lit, cell_fresh]
        simp
      · rw [List.length_append, unhide HL]; simp; omega
      · have := hb.size; simp; omega
      · intro v' w' hO' hG
        have hb' := hb.trans (((Below.refl B wr).alloc (Nat.le_trans hB hb.size) _).trans (((unhide HOk).keep fun k hk => Below.heap_alloc _ _ _ hk).below hG (by have := hb.size; simp; omega)))
        have HO' := hide hO'
        clear hO' hG
        go_wp2
        go_roundw
        case rel =>
          refine ⟨k + 1, by omega, by go_num, ?_, ?_, hb'⟩
          · rw [unhide HD]; simp
          · rw [unhide HST]; exact unhide HO'
        case measure => simp [intOf]; omega
    · obtain rfl : k = q := by omega
      have HOk := hide hO
      clear hO
      go_wp2
      go_ret
      exact ⟨_, rfl, unhide HOk, hb⟩

set_option maxHeartbeats 800000 in
set_option maxRecDepth 100000 in
theorem fixed_walk (N : Nat) (v : Value) (bs : List UInt8) (n : Nat) (hn : n < 18446744073709551616) (m : Int) (w : World) (hN : N ≤ w.heap.size) (hr : RowV N w v bs) (hl : bs.length ≤ 100000) :
    Calls Tryd.prog 39 #[v, .int .u64 (n : Int), .int .i64 m] w fun e w' => ∃ v', e = .returned v' ∧ Own w.heap.size w' v' (bs ++ fixedL n (sizeN m)) ∧ Below w.heap.size w w' := by
  have HC := hide (clone_walk N v bs w hN hr)
  clear hr
  go_enter Tryd.func39, Tryd.ntmps39
  go_wp2_with fail
  refine (unhide HC).mono ?_
  rintro e w1 ⟨v1, rfl, hO, hb⟩
  have HP := hide (put_walk w.heap.size v1 bs n hn m w1 hb.size hO (by omega))
  clear hO HC
  go_wp2_with fail
  refine (unhide HP).mono ?_
  rintro e w2 ⟨v2, rfl, hO2, hb2⟩
  have HO2 := hide hO2
  clear hO2 HP
  go_wp2_with fail
  go_ret
  exact ⟨_, rfl, unhide HO2, hb.trans hb2⟩

end Go.Proofs.YtglphnmnnfpcoaaDoor
