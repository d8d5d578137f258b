/-
  A rune's bytes, as bootjackref04 lays them; a small letter is a rune.
-/
import Derived.Test.YtglphnmnnfpcoaaDoorGFold
namespace Go.Proofs.YtglphnmnnfpcoaaDoor.G
open Go.RowKit Go.Lib

def rowOk (x : CaseRow) : Bool :=
  let valid := fun (a b : Int) => (decide (0 ≤ a) && decide (b < 55296)) || (decide (57343 < a) && decide (b ≤ 1114111))
  if x.delta 1 > 1114111 then valid (x.1 : Int) ((x.2.1 : Int) + 1) else valid ((x.1 : Int) + x.delta 1) ((x.2.1 : Int) + x.delta 1)
theorem rows_ok : caseT.all rowOk = true := by decide +kernel

theorem tx_nums (w : World) : Own w.heap.size (w.alloc (Obj.cells #[] 5)) (.slice (some ⟨w.heap.size, 0, none⟩) 0 0) [] :=
  ⟨rfl, .inr ⟨w.heap.size, 0, #[], rfl, Nat.le_refl _, heap_alloc_new w _, Nat.le_refl _, Nat.zero_le _, rfl, rfl⟩⟩

theorem cell_at2 (w : World) (o : Obj) (C : Array Value) (j : Nat) : ((w.alloc o).alloc (.cells C 5)).cell? ((⟨w.heap.size + 1, 0, none⟩ : Addr).add j) = C[j]? := by
  have e1 : w.heap.size + 1 = (w.alloc o).heap.size := by simp
  rw [Addr.add_lit, Nat.zero_add, e1]
  exact cell_fresh _ _ _ _

/-- A rune's small letter is a rune. -/
theorem low_valid (r : Nat) (hr : r ≤ 1114111) (hv : r < 55296 ∨ 57343 < r) : ∃ q : Nat, toLowerU r = q ∧ q ≤ 1114111 ∧ (q < 55296 ∨ 57343 < q) := by
  have key : 0 ≤ toLowerU r ∧ toLowerU r ≤ 1114111 ∧ (toLowerU r < 55296 ∨ 57343 < toLowerU r) := by
    rw [← toLowerW_caseA]
    unfold Lib.toLowerW
    split
    · split <;> omega
    · unfold toW
      split
      · rename_i i hi
        obtain ⟨h1, h2, h3⟩ := lookupIdx_some _ _ _ _ _ _ hi
        have hrow : rowOk (caseA.getD i (0, 0, 0, 0, 0)) = true := by
          have hm : caseA.getD i (0, 0, 0, 0, 0) ∈ caseT := by
            have e : caseA.getD i (0, 0, 0, 0, 0) = caseA[i]'h1 := by simp [Array.getD, h1]
            rw [e]
            simp [caseA]
          exact List.all_eq_true.1 rows_ok _ hm
        generalize caseA.getD i (0, 0, 0, 0, 0) = x at *
        unfold convertR
        unfold rowOk at hrow
        split
        · rename_i hd
          rw [if_pos hd] at hrow
          simp only [Bool.or_eq_true, Bool.and_eq_true, decide_eq_true_eq] at hrow
          unfold wrap32
          omega
        · rename_i hd
          rw [if_neg hd] at hrow
          simp only [Bool.or_eq_true, Bool.and_eq_true, decide_eq_true_eq] at hrow
          unfold wrap32
          omega
      · omega
  exact ⟨(toLowerU r).toNat, by omega, by omega, by omega⟩

theorem byte_of (z : Int) (h0 : 0 ≤ z) (h1 : z < 256) : ((z.toNat.toUInt8.toNat : Nat) : Int) = z := by
  have : z.toNat < 256 := by omega
  simp [Nat.toUInt8, UInt8.toNat_ofNat']
  omega

set_option maxHeartbeats 8000000 in
set_option maxRecDepth 1000000 in
theorem put_walk (n : Nat) (hn : n ≤ 1114111) (hv : n < 55296 ∨ 57343 < n) (w : World) :
    Calls Tryd.prog 66 #[.int .i64 (n : Int)] w fun e w' => e = .returned (.string (tx (encodeRune n))) ∧ Below w.heap.size w w' := by
  have hO := tx_nums w
  have hB0 : Below w.heap.size w (w.alloc (Obj.cells #[] 5)) := (Below.refl _ w).alloc (Nat.le_refl _) _
  have fin : ∀ (v : Value) (W2 w3 : World), Own w.heap.size W2 (.slice (some ⟨w.heap.size, 0, none⟩) 0 0) [] → Below w.heap.size w W2 → Own w.heap.size w3 v ([] ++ encodeRune n) → W2.grownBy w3 (Value.slice (some ⟨w.heap.size, 0, none⟩) 0 0).ownBlock → (convert 34 9 v).run Tryd.prog w3 = .ok (.string (tx (encodeRune n))) w3 ∧ Below w.heap.size w w3 := by
    intro v W2 w3 h1 h2 h3 h4
    exact ⟨run_text h3, h2.trans (h1.below h4 h2.size)⟩
  have FIN := hide fin
  clear fin
  by_cases h1 : n < 128
  · have h1' : (n : Int) < 128 := by omega
    have he : encodeRune (n : Int) = [((n : Int)).toNat.toUInt8] := by unfold encodeRune; rw [encodeRuneZ_one (by omega) (by omega)]; rfl
    have z0 := byte_of ((n : Int)) (by omega) (by omega)
    have HZ := hide (And.intro he trivial)
    have HZ0 := hide z0
    clear he z0
    go_enter Tryd.func66, Tryd.ntmps66
    go_wp2_with (refine wpList_app rfl _ _ rfl w.heap.size _ [] rfl (hO.keep fun k hk => Below.heap_alloc _ _ _ hk) ⟨_, 0, none⟩ 1 1 rfl (encodeRune n) ?_ ?_ ?_ ?_ ?_)
    · rw [(unhide HZ).1]; rfl
    · intro j hj
      rw [(unhide HZ).1]
      try refine (cell_at2 _ _ _ j).trans ?_
      match j, hj with
      | 0, _ =>
        show some (Value.int .u8 _) = some (Value.int .u8 _)
        have hz := unhide HZ0
        congr 2
        show _ = ((((n : Int)).toNat.toUInt8.toNat : Nat) : Int)
        omega
    · have := encode_len n
      first | omega | (show 0 + _ ≤ _; omega)
    · first | omega | (simp; omega)
    · intro v3 w3 hO3 hG3
      obtain ⟨htx, hb3⟩ := unhide FIN v3 _ w3 (hO.keep fun k hk => Below.heap_alloc _ _ _ hk) (hB0.alloc (by simp) _) hO3 hG3
      go_wp2_with fail
      go_ret
      exact ⟨rfl, hb3⟩
  · by_cases h2 : n < 2048
    · have h1' : ¬ (n : Int) < 128 := by omega
      have h2' : (n : Int) < 2048 := by omega
      have he : encodeRune (n : Int) = [(192 + (n : Int) / 64).toNat.toUInt8, (128 + (n : Int) % 64).toNat.toUInt8] := by unfold encodeRune; rw [encodeRuneZ_two (by omega) (by omega)]; rfl
      have z0 := byte_of (192 + (n : Int) / 64) (by omega) (by omega)
      have z1 := byte_of (128 + (n : Int) % 64) (by omega) (by omega)
      have HZ := hide (And.intro he trivial)
      have HZ0 := hide z0
      have HZ1 := hide z1
      clear he z0 z1
      go_enter Tryd.func66, Tryd.ntmps66
      go_wp2_with (refine wpList_app rfl _ _ rfl w.heap.size _ [] rfl (hO.keep fun k hk => Below.heap_alloc _ _ _ hk) ⟨_, 0, none⟩ 2 2 rfl (encodeRune n) ?_ ?_ ?_ ?_ ?_)
      · rw [(unhide HZ).1]; rfl
      · intro j hj
        rw [(unhide HZ).1]
        try refine (cell_at2 _ _ _ j).trans ?_
        match j, hj with
        | 0, _ =>
          show some (Value.int .u8 _) = some (Value.int .u8 _)
          have hz := unhide HZ0
          congr 2
          show _ = (((192 + (n : Int) / 64).toNat.toUInt8.toNat : Nat) : Int)
          omega
        | 1, _ =>
          show some (Value.int .u8 _) = some (Value.int .u8 _)
          have hz := unhide HZ1
          congr 2
          show _ = (((128 + (n : Int) % 64).toNat.toUInt8.toNat : Nat) : Int)
          omega
      · have := encode_len n
        first | omega | (show 0 + _ ≤ _; omega)
      · first | omega | (simp; omega)
      · intro v3 w3 hO3 hG3
        obtain ⟨htx, hb3⟩ := unhide FIN v3 _ w3 (hO.keep fun k hk => Below.heap_alloc _ _ _ hk) (hB0.alloc (by simp) _) hO3 hG3
        go_wp2_with fail
        go_ret
        exact ⟨rfl, hb3⟩
    · by_cases h3 : n < 65536
      · have h1' : ¬ (n : Int) < 128 := by omega
        have h2' : ¬ (n : Int) < 2048 := by omega
        have h3' : (n : Int) < 65536 := by omega
        have he : encodeRune (n : Int) = [(224 + (n : Int) / 4096).toNat.toUInt8, (128 + (n : Int) / 64 % 64).toNat.toUInt8, (128 + (n : Int) % 64).toNat.toUInt8] := by unfold encodeRune; rw [encodeRuneZ_three (by omega)]; rfl
        have z0 := byte_of (224 + (n : Int) / 4096) (by omega) (by omega)
        have z1 := byte_of (128 + (n : Int) / 64 % 64) (by omega) (by omega)
        have z2 := byte_of (128 + (n : Int) % 64) (by omega) (by omega)
        have HZ := hide (And.intro he trivial)
        have HZ0 := hide z0
        have HZ1 := hide z1
        have HZ2 := hide z2
        clear he z0 z1 z2
        go_enter Tryd.func66, Tryd.ntmps66
        go_wp2_with (refine wpList_app rfl _ _ rfl w.heap.size _ [] rfl (hO.keep fun k hk => Below.heap_alloc _ _ _ hk) ⟨_, 0, none⟩ 3 3 rfl (encodeRune n) ?_ ?_ ?_ ?_ ?_)
        · rw [(unhide HZ).1]; rfl
        · intro j hj
          rw [(unhide HZ).1]
          try refine (cell_at2 _ _ _ j).trans ?_
          match j, hj with
          | 0, _ =>
            show some (Value.int .u8 _) = some (Value.int .u8 _)
            have hz := unhide HZ0
            congr 2
            show _ = (((224 + (n : Int) / 4096).toNat.toUInt8.toNat : Nat) : Int)
            omega
          | 1, _ =>
            show some (Value.int .u8 _) = some (Value.int .u8 _)
            have hz := unhide HZ1
            congr 2
            show _ = (((128 + (n : Int) / 64 % 64).toNat.toUInt8.toNat : Nat) : Int)
            omega
          | 2, _ =>
            show some (Value.int .u8 _) = some (Value.int .u8 _)
            have hz := unhide HZ2
            congr 2
            show _ = (((128 + (n : Int) % 64).toNat.toUInt8.toNat : Nat) : Int)
            omega
        · have := encode_len n
          first | omega | (show 0 + _ ≤ _; omega)
        · first | omega | (simp; omega)
        · intro v3 w3 hO3 hG3
          obtain ⟨htx, hb3⟩ := unhide FIN v3 _ w3 (hO.keep fun k hk => Below.heap_alloc _ _ _ hk) (hB0.alloc (by simp) _) hO3 hG3
          go_wp2_with fail
          go_ret
          exact ⟨rfl, hb3⟩
      · have h1' : ¬ (n : Int) < 128 := by omega
        have h2' : ¬ (n : Int) < 2048 := by omega
        have h3' : ¬ (n : Int) < 65536 := by omega
        have he : encodeRune (n : Int) = [(240 + (n : Int) / 262144).toNat.toUInt8, (128 + (n : Int) / 4096 % 64).toNat.toUInt8, (128 + (n : Int) / 64 % 64).toNat.toUInt8, (128 + (n : Int) % 64).toNat.toUInt8] := by unfold encodeRune; rw [encodeRuneZ_four (by omega) (by omega)]; rfl
        have z0 := byte_of (240 + (n : Int) / 262144) (by omega) (by omega)
        have z1 := byte_of (128 + (n : Int) / 4096 % 64) (by omega) (by omega)
        have z2 := byte_of (128 + (n : Int) / 64 % 64) (by omega) (by omega)
        have z3 := byte_of (128 + (n : Int) % 64) (by omega) (by omega)
        have HZ := hide (And.intro he trivial)
        have HZ0 := hide z0
        have HZ1 := hide z1
        have HZ2 := hide z2
        have HZ3 := hide z3
        clear he z0 z1 z2 z3
        go_enter Tryd.func66, Tryd.ntmps66
        go_wp2_with (refine wpList_app rfl _ _ rfl w.heap.size _ [] rfl (hO.keep fun k hk => Below.heap_alloc _ _ _ hk) ⟨_, 0, none⟩ 4 4 rfl (encodeRune n) ?_ ?_ ?_ ?_ ?_)
        · rw [(unhide HZ).1]; rfl
        · intro j hj
          rw [(unhide HZ).1]
          try refine (cell_at2 _ _ _ j).trans ?_
          match j, hj with
          | 0, _ =>
            show some (Value.int .u8 _) = some (Value.int .u8 _)
            have hz := unhide HZ0
            congr 2
            show _ = (((240 + (n : Int) / 262144).toNat.toUInt8.toNat : Nat) : Int)
            omega
          | 1, _ =>
            show some (Value.int .u8 _) = some (Value.int .u8 _)
            have hz := unhide HZ1
            congr 2
            show _ = (((128 + (n : Int) / 4096 % 64).toNat.toUInt8.toNat : Nat) : Int)
            omega
          | 2, _ =>
            show some (Value.int .u8 _) = some (Value.int .u8 _)
            have hz := unhide HZ2
            congr 2
            show _ = (((128 + (n : Int) / 64 % 64).toNat.toUInt8.toNat : Nat) : Int)
            omega
          | 3, _ =>
            show some (Value.int .u8 _) = some (Value.int .u8 _)
            have hz := unhide HZ3
            congr 2
            show _ = (((128 + (n : Int) % 64).toNat.toUInt8.toNat : Nat) : Int)
            omega
        · have := encode_len n
          first | omega | (show 0 + _ ≤ _; omega)
        · first | omega | (simp; omega)
        · intro v3 w3 hO3 hG3
          obtain ⟨htx, hb3⟩ := unhide FIN v3 _ w3 (hO.keep fun k hk => Below.heap_alloc _ _ _ hk) (hB0.alloc (by simp) _) hO3 hG3
          go_wp2_with fail
          go_ret
          exact ⟨rfl, hb3⟩
end Go.Proofs.YtglphnmnnfpcoaaDoor.G
