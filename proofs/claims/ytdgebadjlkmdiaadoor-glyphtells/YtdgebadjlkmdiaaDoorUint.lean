/-
  strconv.ParseUint to sixteen, at eight and at thirty-one bits: the number, or an error that isn't nil.
-/
import Derived.Test.YtdgebadjlkmdiaaDoorHex
import Derived.Test.YtdgebadjlkmdiaaDoorMath2
import Derived.Lib.ConvBytes
import Derived.Laws.Strings3
import Derived.Laws.Closers25
import Derived.Laws.Closers25b
import Derived.BigGuard
namespace Go.Proofs.YtdgebadjlkmdiaaDoor
open Go.RowKit

theorem bytesWorld_below (w : World) (s : ByteArray) : Below w.heap.size w (Lib.bytesWorld w 5 s) :=
  ⟨rfl, rfl, rfl, by rw [Lib.bytesWorld_size]; omega, fun k hk => Lib.bytesWorld_at_old w 5 s k hk⟩

theorem or32 (c : Nat) (h : c < 256) : bits .or .u8 (c : Int) 32 = ((c ||| 32 : Nat) : Int) := by
  have : ∀ y : Fin 256, bits .or .u8 (y.val : Int) 32 = ((y.val ||| 32 : Nat) : Int) := by decide +kernel
  exact this ⟨c, h⟩
theorem lower_at (c x : Nat) (h : Hid (c < 256 ∧ x = c ||| 32)) (w : World) : Calls Tryd.prog 56 #[.int .u8 (c : Int)] w fun e w' => e = .returned (.int .u8 (x : Int)) ∧ w' = w := by
  refine (Tryd.internal_strconv_lower c w).mono ?_
  rintro e w' ⟨rfl, rfl⟩
  rw [or32 c (unhide h).1, (unhide h).2]
  exact ⟨rfl, rfl⟩

theorem lower_95 (w : World) : Calls Tryd.prog 56 #[.int .u8 95] w fun e w' => e = .returned (.int .u8 127) ∧ w' = w := by
  refine (Tryd.internal_strconv_lower 95 w).mono ?_
  rintro e w' ⟨rfl, rfl⟩
  have h : bits .or .u8 95 32 = 127 := by decide +kernel
  rw [h]
  exact ⟨rfl, rfl⟩

/-- The outcome of a parse: a number and nil, or an error. -/
def Parsed (r : Option Nat) (e : Ending) : Prop :=
  match r with
  | some n => e = .returned (.tuple #[.int .u64 (n : Int), .nilIface])
  | none => ∃ x k : Int, (k = 1 ∨ k = 2) ∧ e = .returned (.tuple #[.int .u64 x, .iface 88 (.int .i64 k)])

theorem parsed_syntax {r : Option Nat} (h : r = none) (x : Int) : Parsed r (.returned (.tuple #[.int .u64 x, .iface 88 (.int .i64 2)])) := by
  subst h
  exact ⟨x, 2, .inr rfl, rfl⟩
theorem parsed_range {r : Option Nat} (h : r = none) (x : Int) : Parsed r (.returned (.tuple #[.int .u64 x, .iface 88 (.int .i64 1)])) := by
  subst h
  exact ⟨x, 1, .inl rfl, rfl⟩
theorem parsed_ok {r : Option Nat} {n : Nat} (h : r = some n) : Parsed r (.returned (.tuple #[.int .u64 (n : Int), .nilIface])) := by
  subst h
  rfl

set_option maxHeartbeats 32000000 in
set_option maxRecDepth 100000 in
theorem parse8_walk (t : ByteArray) (hne : t.size ≠ 0) (hmax : t.size ≤ 1000000) (w : World) :
    Calls Tryd.prog 47 #[.string t, .int .i64 16, .int .i64 8] w fun e w' => Parsed (parseF 255 0 t.data.toList) e ∧ Below w.heap.size w w' := by
  have hemp : t.toList.isEmpty = false := by
    rw [← decide_eq_emptyBytes]
    exact decide_eq_false (fun h => hne (by rw [h]; rfl))
  have hcv := Lib.run_convert_string_bytes (P := Tryd.prog) w 9 35 5 t (u := .string) Tryd.underlying9 Tryd.underlying35 Tryd.underlying5
  have hB : ∀ j, j < t.size → (Lib.bytesWorld w 5 t).cell? ⟨w.heap.size, j, none⟩ = some (.int .u8 (t.data.toList.getD j 0).toNat) := fun j hj => Lib.bytesWorld_cell w 5 t j hj
  have hbw := bytesWorld_below w t
  obtain ⟨W1, hW1⟩ : ∃ W1, W1 = Lib.bytesWorld w 5 t := ⟨_, rfl⟩
  rw [← hW1] at hcv hB hbw
  clear hW1
  obtain ⟨bs, hL⟩ : ∃ bs, bs = t.data.toList := ⟨_, rfl⟩
  have hLn : bs.length = t.size := by rw [hL, len_of]
  rw [← hL] at hB ⊢
  clear hL
  have hmv : IntKind.u64.wrap (IntKind.u64.wrap 256 - 1) = 255 := by
    rw [IntKind.wrap_u64, IntKind.wrap_u64]
    decide
  go_enter Tryd.func47, Tryd.ntmps47
  go_wp2
  go_loop [12, 13, 101] (fun vu vn vi => ∃ (k acc : Nat) (a : Int), vu = .bool false ∧ vn = .int .u64 a ∧ vi = .int .i64 k ∧ k ≤ t.size ∧ Hid (a = (acc : Int) ∧ acc ≤ 255 ∧ parseF 255 0 bs = parseF 255 acc (bs.drop k)))
    (fun _ _ vi => t.size - (intOf vi).toNat)
  case atStart => exact ⟨0, 0, 0, rfl, rfl, rfl, by omega, rfl, by omega, rfl⟩
  case round =>
    obtain ⟨k, acc, a, rfl, rfl, rfl, hk, hh⟩ := hrel
    obtain ⟨ha, hacc, hdec⟩ := unhide hh
    clear hh
    have a0 : 0 ≤ a := by omega
    have a1 : a ≤ 255 := by omega
    by_cases hkn : k < t.size
    · have hc := hB k hkn
      have hdrop : bs.drop k = bs[k]'(by omega) :: bs.drop (k + 1) := List.drop_eq_getElem_cons (by omega)
      have hget : bs.getD k 0 = bs[k]'(by omega) := by simp [List.getD, List.getElem?_eq_getElem (show k < bs.length by omega)]
      rw [hdrop] at hdec
      rw [hget] at hc
      generalize bs[k]'(by omega) = c at hc hdec
      have hc256 : c.toNat < 256 := c.toNat_lt
      clear hB hdrop hget
      by_cases hdig : 48 ≤ c.toNat ∧ c.toNat ≤ 57
      · obtain ⟨hd0, hd1⟩ := hdig
        have hd : dig c = c.toNat - 48 := by unfold dig; rw [if_pos ⟨hd0, hd1⟩]
        simp only [parseF] at hdec
        rw [if_neg (by omega)] at hdec
        by_cases hov : 255 < acc * 16 + dig c
        · rw [if_pos hov] at hdec
          have iov : 255 < a * 16 + ((c.toNat : Int) - 48) := by omega
          have HD := hide hdec
          clear hacc hov hdec ha hd
          go_wp2
          go_ret2
          exact ⟨parsed_range (unhide HD) _, hbw⟩
        · rw [if_neg hov] at hdec
          have HN : Hid (a * 16 + ((c.toNat : Int) - 48) = ((acc * 16 + dig c : Nat) : Int) ∧ acc * 16 + dig c ≤ 255 ∧ parseF 255 0 bs = parseF 255 (acc * 16 + dig c) (bs.drop (k + 1))) := hide ⟨by omega, by omega, hdec⟩
          have iov : a * 16 + ((c.toNat : Int) - 48) ≤ 255 := by omega
          clear hacc hov hdec ha hd
          go_wp2
          refine ⟨⟨k + 1, acc * 16 + dig c, a * 16 + ((c.toNat : Int) - 48), rfl, (by first | rfl | (congr 1; omega)), (by first | rfl | (congr 1; omega)), by omega, HN⟩, by simp [intOf]; omega⟩
      · obtain ⟨x, hx⟩ : ∃ x, x = c.toNat ||| 32 := ⟨_, rfl⟩
        have HX : Hid (c.toNat < 256 ∧ x = c.toNat ||| 32) := hide ⟨hc256, hx⟩
        have hx256 : x < 256 := by rw [hx]; exact Nat.or_lt_two_pow (n := 8) hc256 (by decide)
        by_cases hlet : 97 ≤ x ∧ x ≤ 122
        · obtain ⟨hl0, hl1⟩ := hlet
          have hd : dig c = x - 97 + 10 := by unfold dig; rw [if_neg hdig, ← hx, if_pos ⟨hl0, hl1⟩]
          have h95 : ¬ ((c.toNat : Int) = 95) := by
            intro e
            have e' : c.toNat = 95 := by omega
            rw [e'] at hx
            rw [hx] at hl1
            exact absurd hl1 (by decide)
          clear hx
          simp only [parseF] at hdec
          by_cases h16 : 16 ≤ dig c
          · rw [if_pos h16] at hdec
            have i16 : 103 ≤ x := by omega
            have HD := hide hdec
            clear hacc hdec ha hd h16
            go_wp2_with (go_at_call 56; refine (lower_at c.toNat x HX _).mono ?_; rintro e w' ⟨rfl, rfl⟩)
            all_goals go_ret2
            all_goals exact ⟨parsed_syntax (unhide HD) _, hbw⟩
          · rw [if_neg h16] at hdec
            have i16 : x < 103 := by omega
            by_cases hov : 255 < acc * 16 + dig c
            · rw [if_pos hov] at hdec
              have iov : 255 < a * 16 + ((x : Int) - 97 + 10) := by omega
              have HD := hide hdec
              clear hacc hov hdec ha hd h16
              go_wp2_with (go_at_call 56; refine (lower_at c.toNat x HX _).mono ?_; rintro e w' ⟨rfl, rfl⟩)
              all_goals go_ret2
              all_goals exact ⟨parsed_range (unhide HD) _, hbw⟩
            · rw [if_neg hov] at hdec
              have HN : Hid (a * 16 + ((x : Int) - 97 + 10) = ((acc * 16 + dig c : Nat) : Int) ∧ acc * 16 + dig c ≤ 255 ∧ parseF 255 0 bs = parseF 255 (acc * 16 + dig c) (bs.drop (k + 1))) := hide ⟨by omega, by omega, hdec⟩
              have iov : a * 16 + ((x : Int) - 97 + 10) ≤ 255 := by omega
              clear hacc hov hdec ha hd h16
              go_wp2_with (go_at_call 56; refine (lower_at c.toNat x HX _).mono ?_; rintro e w' ⟨rfl, rfl⟩)
              all_goals refine ⟨⟨k + 1, acc * 16 + dig c, a * 16 + ((x : Int) - 97 + 10), rfl, (by first | rfl | (congr 1; omega)), (by first | rfl | (congr 1; omega)), by omega, HN⟩, by simp [intOf]; omega⟩
        · have hd : dig c = 99 := by unfold dig; rw [if_neg hdig, ← hx, if_neg hlet]
          clear hx
          simp only [parseF] at hdec
          rw [if_pos (by omega)] at hdec
          have HD := hide hdec
          clear hacc hdec ha hd
          by_cases h95 : (c.toNat : Int) = 95
          · rw [h95] at hc
            clear hdig
            go_wp2_with (go_at_call 56; refine (lower_95 _).mono ?_; rintro e w' ⟨rfl, rfl⟩)
            all_goals go_ret2
            all_goals exact ⟨parsed_syntax (unhide HD) _, hbw⟩
          · go_wp2_with (go_at_call 56; refine (lower_at c.toNat x HX _).mono ?_; rintro e w' ⟨rfl, rfl⟩)
            all_goals go_ret2
            all_goals exact ⟨parsed_syntax (unhide HD) _, hbw⟩
    · have hkk : k = t.size := by omega
      subst hkk
      have hF : parseF 255 acc (bs.drop t.size) = some acc := by rw [List.drop_eq_nil_of_le (by omega)]; rfl
      rw [hF] at hdec
      subst ha
      clear hacc hF a0 a1
      have HD := hide hdec
      clear hdec
      go_wp2
      go_ret2
      exact ⟨parsed_ok (unhide HD), hbw⟩

set_option maxHeartbeats 32000000 in
set_option maxRecDepth 100000 in
theorem parse31_walk (t : ByteArray) (hne : t.size ≠ 0) (hmax : t.size ≤ 1000000) (w : World) :
    Calls Tryd.prog 47 #[.string t, .int .i64 16, .int .i64 31] w fun e w' => Parsed (parseF 2147483647 0 t.data.toList) e ∧ Below w.heap.size w w' := by
  have hemp : t.toList.isEmpty = false := by
    rw [← decide_eq_emptyBytes]
    exact decide_eq_false (fun h => hne (by rw [h]; rfl))
  have hcv := Lib.run_convert_string_bytes (P := Tryd.prog) w 9 35 5 t (u := .string) Tryd.underlying9 Tryd.underlying35 Tryd.underlying5
  have hB : ∀ j, j < t.size → (Lib.bytesWorld w 5 t).cell? ⟨w.heap.size, j, none⟩ = some (.int .u8 (t.data.toList.getD j 0).toNat) := fun j hj => Lib.bytesWorld_cell w 5 t j hj
  have hbw := bytesWorld_below w t
  obtain ⟨W1, hW1⟩ : ∃ W1, W1 = Lib.bytesWorld w 5 t := ⟨_, rfl⟩
  rw [← hW1] at hcv hB hbw
  clear hW1
  obtain ⟨bs, hL⟩ : ∃ bs, bs = t.data.toList := ⟨_, rfl⟩
  have hLn : bs.length = t.size := by rw [hL, len_of]
  rw [← hL] at hB ⊢
  clear hL
  have hmv : IntKind.u64.wrap (IntKind.u64.wrap 2147483648 - 1) = 2147483647 := by
    rw [IntKind.wrap_u64, IntKind.wrap_u64]
    decide
  go_enter Tryd.func47, Tryd.ntmps47
  go_wp2
  go_loop [12, 13, 101] (fun vu vn vi => ∃ (k acc : Nat) (a : Int), vu = .bool false ∧ vn = .int .u64 a ∧ vi = .int .i64 k ∧ k ≤ t.size ∧ Hid (a = (acc : Int) ∧ acc ≤ 2147483647 ∧ parseF 2147483647 0 bs = parseF 2147483647 acc (bs.drop k)))
    (fun _ _ vi => t.size - (intOf vi).toNat)
  case atStart => exact ⟨0, 0, 0, rfl, rfl, rfl, by omega, rfl, by omega, rfl⟩
  case round =>
    obtain ⟨k, acc, a, rfl, rfl, rfl, hk, hh⟩ := hrel
    obtain ⟨ha, hacc, hdec⟩ := unhide hh
    clear hh
    have a0 : 0 ≤ a := by omega
    have a1 : a ≤ 2147483647 := by omega
    by_cases hkn : k < t.size
    · have hc := hB k hkn
      have hdrop : bs.drop k = bs[k]'(by omega) :: bs.drop (k + 1) := List.drop_eq_getElem_cons (by omega)
      have hget : bs.getD k 0 = bs[k]'(by omega) := by simp [List.getD, List.getElem?_eq_getElem (show k < bs.length by omega)]
      rw [hdrop] at hdec
      rw [hget] at hc
      generalize bs[k]'(by omega) = c at hc hdec
      have hc256 : c.toNat < 256 := c.toNat_lt
      clear hB hdrop hget
      by_cases hdig : 48 ≤ c.toNat ∧ c.toNat ≤ 57
      · obtain ⟨hd0, hd1⟩ := hdig
        have hd : dig c = c.toNat - 48 := by unfold dig; rw [if_pos ⟨hd0, hd1⟩]
        simp only [parseF] at hdec
        rw [if_neg (by omega)] at hdec
        by_cases hov : 2147483647 < acc * 16 + dig c
        · rw [if_pos hov] at hdec
          have iov : 2147483647 < a * 16 + ((c.toNat : Int) - 48) := by omega
          have HD := hide hdec
          clear hacc hov hdec ha hd
          go_wp2
          go_ret2
          exact ⟨parsed_range (unhide HD) _, hbw⟩
        · rw [if_neg hov] at hdec
          have HN : Hid (a * 16 + ((c.toNat : Int) - 48) = ((acc * 16 + dig c : Nat) : Int) ∧ acc * 16 + dig c ≤ 2147483647 ∧ parseF 2147483647 0 bs = parseF 2147483647 (acc * 16 + dig c) (bs.drop (k + 1))) := hide ⟨by omega, by omega, hdec⟩
          have iov : a * 16 + ((c.toNat : Int) - 48) ≤ 2147483647 := by omega
          clear hacc hov hdec ha hd
          go_wp2
          refine ⟨⟨k + 1, acc * 16 + dig c, a * 16 + ((c.toNat : Int) - 48), rfl, (by first | rfl | (congr 1; omega)), (by first | rfl | (congr 1; omega)), by omega, HN⟩, by simp [intOf]; omega⟩
      · obtain ⟨x, hx⟩ : ∃ x, x = c.toNat ||| 32 := ⟨_, rfl⟩
        have HX : Hid (c.toNat < 256 ∧ x = c.toNat ||| 32) := hide ⟨hc256, hx⟩
        have hx256 : x < 256 := by rw [hx]; exact Nat.or_lt_two_pow (n := 8) hc256 (by decide)
        by_cases hlet : 97 ≤ x ∧ x ≤ 122
        · obtain ⟨hl0, hl1⟩ := hlet
          have hd : dig c = x - 97 + 10 := by unfold dig; rw [if_neg hdig, ← hx, if_pos ⟨hl0, hl1⟩]
          have h95 : ¬ ((c.toNat : Int) = 95) := by
            intro e
            have e' : c.toNat = 95 := by omega
            rw [e'] at hx
            rw [hx] at hl1
            exact absurd hl1 (by decide)
          clear hx
          simp only [parseF] at hdec
          by_cases h16 : 16 ≤ dig c
          · rw [if_pos h16] at hdec
            have i16 : 103 ≤ x := by omega
            have HD := hide hdec
            clear hacc hdec ha hd h16
            go_wp2_with (go_at_call 56; refine (lower_at c.toNat x HX _).mono ?_; rintro e w' ⟨rfl, rfl⟩)
            all_goals go_ret2
            all_goals exact ⟨parsed_syntax (unhide HD) _, hbw⟩
          · rw [if_neg h16] at hdec
            have i16 : x < 103 := by omega
            by_cases hov : 2147483647 < acc * 16 + dig c
            · rw [if_pos hov] at hdec
              have iov : 2147483647 < a * 16 + ((x : Int) - 97 + 10) := by omega
              have HD := hide hdec
              clear hacc hov hdec ha hd h16
              go_wp2_with (go_at_call 56; refine (lower_at c.toNat x HX _).mono ?_; rintro e w' ⟨rfl, rfl⟩)
              all_goals go_ret2
              all_goals exact ⟨parsed_range (unhide HD) _, hbw⟩
            · rw [if_neg hov] at hdec
              have HN : Hid (a * 16 + ((x : Int) - 97 + 10) = ((acc * 16 + dig c : Nat) : Int) ∧ acc * 16 + dig c ≤ 2147483647 ∧ parseF 2147483647 0 bs = parseF 2147483647 (acc * 16 + dig c) (bs.drop (k + 1))) := hide ⟨by omega, by omega, hdec⟩
              have iov : a * 16 + ((x : Int) - 97 + 10) ≤ 2147483647 := by omega
              clear hacc hov hdec ha hd h16
              go_wp2_with (go_at_call 56; refine (lower_at c.toNat x HX _).mono ?_; rintro e w' ⟨rfl, rfl⟩)
              all_goals refine ⟨⟨k + 1, acc * 16 + dig c, a * 16 + ((x : Int) - 97 + 10), rfl, (by first | rfl | (congr 1; omega)), (by first | rfl | (congr 1; omega)), by omega, HN⟩, by simp [intOf]; omega⟩
        · have hd : dig c = 99 := by unfold dig; rw [if_neg hdig, ← hx, if_neg hlet]
          clear hx
          simp only [parseF] at hdec
          rw [if_pos (by omega)] at hdec
          have HD := hide hdec
          clear hacc hdec ha hd
          by_cases h95 : (c.toNat : Int) = 95
          · rw [h95] at hc
            clear hdig
            go_wp2_with (go_at_call 56; refine (lower_95 _).mono ?_; rintro e w' ⟨rfl, rfl⟩)
            all_goals go_ret2
            all_goals exact ⟨parsed_syntax (unhide HD) _, hbw⟩
          · go_wp2_with (go_at_call 56; refine (lower_at c.toNat x HX _).mono ?_; rintro e w' ⟨rfl, rfl⟩)
            all_goals go_ret2
            all_goals exact ⟨parsed_syntax (unhide HD) _, hbw⟩
    · have hkk : k = t.size := by omega
      subst hkk
      have hF : parseF 2147483647 acc (bs.drop t.size) = some acc := by rw [List.drop_eq_nil_of_le (by omega)]; rfl
      rw [hF] at hdec
      subst ha
      clear hacc hF a0 a1
      have HD := hide hdec
      clear hdec
      go_wp2
      go_ret2
      exact ⟨parsed_ok (unhide HD), hbw⟩

end Go.Proofs.YtdgebadjlkmdiaaDoor
