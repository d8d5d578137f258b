/-
  What glyph.Read answers: the text of which that is what Show tells, if there is one.
-/
import Derived.Test.YtdgebadjlkmdiaaDoorUint
import Derived.Test.YtdgebadjlkmdiaaDoorShow
namespace Go.Proofs.YtdgebadjlkmdiaaDoor
open Go.RowKit

set_option maxHeartbeats 8000000 in
set_option maxRecDepth 1000000 in
theorem parse_empty (b : Int) (w : World) : Calls Tryd.prog 47 #[.string ⟨#[]⟩, .int .i64 16, .int .i64 b] w fun e w' => Parsed none e ∧ Below w.heap.size w w' := by
  go_enter Tryd.func47, Tryd.ntmps47
  go_wp2
  go_ret2
  exact ⟨parsed_syntax rfl _, Below.refl _ _⟩

theorem parseB_walk (B : Int) (M : Nat) (h : (B = 8 ∧ M = 255) ∨ (B = 31 ∧ M = 2147483647)) (t : ByteArray) (hmax : t.size ≤ 1000000) (w : World) :
    Calls Tryd.prog 47 #[.string t, .int .i64 16, .int .i64 B] w fun e w' => Parsed (parse M t.data.toList) e ∧ Below w.heap.size w w' := by
  by_cases hne : t.size = 0
  · have e0 : t.data.toList = [] := List.length_eq_zero_iff.1 (by rw [len_of]; exact hne)
    have e1 : t = ⟨#[]⟩ := by rw [← tx_of t, e0]; rfl
    rw [e0, e1]
    exact parse_empty B w
  · have e0 : parse M t.data.toList = parseF M 0 t.data.toList := by
      unfold parse
      have : t.data.toList.isEmpty = false := by
        cases hh : t.data.toList with
        | nil => have := len_of t; rw [hh] at this; simp at this; omega
        | cons => rfl
      rw [this]
      rfl
    rw [e0]
    rcases h with ⟨rfl, rfl⟩ | ⟨rfl, rfl⟩
    · exact parse8_walk t hne hmax w
    · exact parse31_walk t hne hmax w

/-- The outcome of the public parse. -/
def Pub (r : Option Nat) (e : Ending) : Prop :=
  match r with
  | some n => e = .returned (.tuple #[.int .u64 (n : Int), .nilIface])
  | none => ∃ x tp p, e = .returned (.tuple #[.int .u64 x, .iface tp p])

set_option maxHeartbeats 8000000 in
set_option maxRecDepth 1000000 in
theorem pub_walk (B : Int) (M : Nat) (h : (B = 8 ∧ M = 255) ∨ (B = 31 ∧ M = 2147483647)) (t : ByteArray) (hmax : t.size ≤ 1000000) (w : World) (hE : Env w) :
    Calls Tryd.prog 41 #[.string t, .int .i64 16, .int .i64 B] w fun e w' => Pub (parse M t.data.toList) e ∧ Below w.heap.size w w' := by
  have hin := parseB_walk B M h t hmax
  clear h
  cases hr : parse M t.data.toList with
  | some n =>
    rw [hr] at hin
    have HI := hide hin
    clear hin hr
    go_enter Tryd.func41, Tryd.ntmps41
    go_wp2_with (go_at_call 47; refine (unhide HI _).mono ?_; rintro e w' ⟨h1, hb⟩; cases (show e = _ from h1))
    go_ret2
    exact ⟨rfl, hb⟩
  | none =>
    rw [hr] at hin
    have HI := hide hin
    clear hin hr
    go_enter Tryd.func41, Tryd.ntmps41
    go_wp2_with (go_at_call 47; refine (unhide HI _).mono ?_; rintro e w' ⟨⟨x, k, hk, rfl⟩, hb⟩)
    have hE' := hE.below hb hE.sz
    obtain ⟨ts, ps, hes⟩ := hE'.es
    obtain ⟨tr, pr, her⟩ := hE'.er
    rcases hk with rfl | rfl
    · go_wp2_with (go_at_call 48; refine (Tryd.strconv_toError_range _ t _ _ _ _ (by omega) her (.inr ⟨tr, pr, rfl⟩)).mono ?_; rintro e w2 ⟨N, rfl, _, _, hb2⟩)
      go_ret2
      exact ⟨⟨_, _, _, rfl⟩, hb.trans (hb2.mono hb.size)⟩
    · go_wp2_with (go_at_call 48; refine (Tryd.strconv_toError_syntax _ t _ _ _ _ (by omega) hes (.inr ⟨ts, ps, rfl⟩)).mono ?_; rintro e w2 ⟨N, rfl, _, _, hb2⟩)
      go_ret2
      exact ⟨⟨_, _, _, rfl⟩, hb.trans (hb2.mono hb.size)⟩

/-- The outcome of reading one. -/
def Red (B : Nat) (w w' : World) (v : Value) (l : List UInt8) (r : Option (List UInt8 × Nat)) (e : Ending) : Prop :=
  (match r with
   | none => ∃ v', e = .returned (.tuple #[v', .int .i64 0])
   | some p => ∃ v', e = .returned (.tuple #[v', .int .i64 (p.2 : Int)]) ∧ Own B w' v' (l ++ p.1)) ∧ w.grownBy w' v.ownBlock

theorem below_grown {w w' : World} {row : Option Nat} (h : Below w.heap.size w w') : w.grownBy w' row := ⟨h.os, h.tape, h.output, h.size, fun k hk _ => h.block k hk⟩

theorem ex24 (s : ByteArray) : (s.extract 2 4).data.toList = (s.data.toList.drop 2).take 2 := by
  rw [ByteArray.data_extract, Array.toList_extract]
theorem ex_from (s : ByteArray) (k : Nat) : (s.extract k s.size).data.toList = s.data.toList.drop k := by
  rw [← tx_drop, tx_list]

set_option maxHeartbeats 8000000 in
set_option maxRecDepth 1000000 in
theorem readByte_walk (B : Nat) (v : Value) (l : List UInt8) (s : ByteArray) (hs : s.size ≤ 1000000) (w : World) (hE : Env w) (hown : Own B w v l) (hB : B ≤ w.heap.size) (hlim : l.length + 16 ≤ 140737488355328) :
    Calls Tryd.prog 34 #[v, .string s] w fun e w' => Red B w w' v l (if s.data.toList.length < 4 then none else (parse 255 ((s.data.toList.drop 2).take 2)).map fun n => ([UInt8.ofNat n], 4)) e := by
  have HO := hide hown
  clear hown
  rw [len_of]
  by_cases h4 : s.size < 4
  · rw [if_pos h4]
    go_enter Tryd.func34, Tryd.ntmps34
    go_wp2
    go_ret2
    exact ⟨⟨v, rfl⟩, below_grown (Below.refl _ _)⟩
  · rw [if_neg h4]
    have hp := pub_walk 8 255 (.inl ⟨rfl, rfl⟩) (s.extract 2 4) (by rw [ByteArray.size_extract]; omega) w hE
    rw [ex24] at hp
    cases hr : parse 255 ((s.data.toList.drop 2).take 2) with
    | none =>
      rw [hr] at hp
      have HP := hide hp
      clear hp hr
      go_enter Tryd.func34, Tryd.ntmps34
      go_wp2_with (go_at_call 41; refine (unhide HP).mono ?_; rintro e w' ⟨⟨x, tp, p, rfl⟩, hb⟩)
      go_ret2
      exact ⟨⟨v, rfl⟩, below_grown hb⟩
    | some n =>
      rw [hr] at hp
      have HP := hide hp
      clear hp hr
      go_enter Tryd.func34, Tryd.ntmps34
      go_wp2_with (first | (go_at_call 41; refine (unhide HP).mono ?_; rintro e w' ⟨h1, hb⟩; cases (show e = _ from h1)) | (refine wpList_app rfl _ _ rfl B v l rfl (((unhide HO).keepB hb).keep fun k hk => Below.heap_alloc _ _ _ hk) ⟨_, 0, none⟩ 1 1 rfl [UInt8.ofNat n] rfl ?_ ?_ ?_ ?_))
      · intro j hj
        obtain rfl : j = 0 := by omega
        rw [Addr.add_lit]
        exact cell_fresh _ _ _ _
      · show l.length + 1 ≤ _
        omega
      · have := hb.size
        simp
        omega
      · intro v3 w3 hO3 hG3
        go_wp2_with fail
        go_ret2
        exact ⟨⟨v3, rfl, hO3⟩, grown_trans hb (grown_alloc hG3)⟩

theorem drewN_below (B : Nat) (w : World) (n : Nat) : Below B w (w.drewN n) := ⟨rfl, rfl, rfl, Nat.le_refl _, fun _ _ => rfl⟩

theorem appendRune_at (B : Nat) (v : Value) (l : List UInt8) (r : Int) (h0 : -2147483648 ≤ r) (h1 : r ≤ 2147483647) (w : World) (hown : Own B w v l) (hB : B ≤ w.heap.size) (hlim : l.length + 16 ≤ 140737488355328) :
    Calls Tryd.prog 26 #[v, .int .i32 r] w fun e w' => ∃ v', e = .returned v' ∧ Own B w' v' (l ++ Lib.encodeRune r) ∧ w.grownBy w' v.ownBlock := by
  refine (Tryd.utf8_AppendRune_plain B v l.length (Lib.byteCells l) r h0 h1 w hown (by omega) hB).mono ?_
  rintro e w' ⟨v', rfl, h2, o, h3⟩
  refine ⟨v', rfl, ?_, grown_alloc h3⟩
  unfold Own
  rw [List.length_append, Lib.byteCells_append, Lib.byteCells_encodeRune, ← Lib.runeCells_length]
  exact h2

theorem indexByte_one (c : UInt8) : ∀ l, Lib.indexByte l c = Lib.index l [c]
  | [] => rfl
  | b :: l => by
    have ih := indexByte_one c l
    have e : List.isPrefixOf [c] (b :: l) = (b == c) := by
      simp [List.isPrefixOf]
      rw [Bool.eq_iff_iff]
      simp
      exact ⟨fun h => h.symm, fun h => h.symm⟩
    unfold Lib.indexByte Lib.index
    rw [e, ih]
theorem index_cases : ∀ (l : List UInt8), Lib.index l [125] = -1 ∨ ∃ i : Nat, Lib.index l [125] = i ∧ i + 1 ≤ l.length
  | [] => .inl (by simp [Lib.index])
  | c :: l => by
    unfold Lib.index
    split
    · exact .inr ⟨0, rfl, by simp⟩
    · split
      · exact .inl rfl
      · rename_i h1
        rcases index_cases l with h | ⟨i, h, hi⟩
        · rw [h] at h1; exact absurd rfl h1
        · exact .inr ⟨i + 1, by rw [h]; rfl, by simp; omega⟩

set_option maxHeartbeats 8000000 in
set_option maxRecDepth 1000000 in
theorem cut0_walk (t : ByteArray) (ht : t.size ≤ 1000000) (w : World) :
    Calls Tryd.prog 46 #[.string t, .string ⟨#[125]⟩] w fun e w' => (∃ b, e = .returned (.tuple #[.string (tx (Lib.cut t.data.toList [125]).1), .string b, .bool (Lib.cut t.data.toList [125]).2.2])) ∧ Below w.heap.size w w' := by
  have hI := Tryd.stringslite_Index_one t 125 w
  rw [indexByte_one] at hI
  unfold Lib.cut
  rcases index_cases t.data.toList with h | ⟨i, h, hi⟩
  · rw [h] at hI ⊢
    rw [if_neg (by decide)]
    have HI := hide hI
    clear hI h
    go_enter Tryd.func46, Tryd.ntmps46
    go_wp2_with (go_at_call 55; refine (unhide HI).mono ?_; rintro e w' ⟨rfl, rfl⟩)
    go_ret3
    refine ⟨⟨⟨#[]⟩, ?_⟩, Below.refl _ _⟩
    rw [tx_of]
    rfl
  · rw [h] at hI ⊢
    rw [if_pos (by omega)]
    rw [len_of] at hi
    have HI := hide hI
    clear hI h
    go_enter Tryd.func46, Tryd.ntmps46
    go_wp2_with (go_at_call 55; refine (unhide HI).mono ?_; rintro e w' ⟨rfl, rfl⟩)
    go_region
    go_wp2
    go_ret3
    refine ⟨⟨t.extract (i + 1) t.size, ?_⟩, Below.drew (Below.refl _ _)⟩
    rw [show ((i : Nat) : Int).toNat = i from rfl, tx_take]
    rfl

set_option maxHeartbeats 8000000 in
set_option maxRecDepth 1000000 in
theorem cut_at (t : ByteArray) (a : List UInt8) (c : Bool) (h : Hid (t.size ≤ 1000000 ∧ a = (Lib.cut t.data.toList [125]).1 ∧ c = (Lib.cut t.data.toList [125]).2.2)) (w : World) :
    Calls Tryd.prog 40 #[.string t, .string ⟨#[125]⟩] w fun e w' => ∃ b, e = .returned (.tuple #[.string (tx a), .string b, .bool c]) ∧ Below w.heap.size w w' := by
  have hI := cut0_walk t (unhide h).1 w
  rw [← (unhide h).2.1, ← (unhide h).2.2] at hI
  have HI := hide hI
  clear hI
  go_enter Tryd.func40, Tryd.ntmps40
  go_wp2_with (go_at_call 46; refine (unhide HI).mono ?_; rintro e w2 ⟨⟨b, rfl⟩, hb⟩)
  go_ret3
  exact ⟨b, rfl, hb⟩

theorem cut_len (l : List UInt8) : (Lib.cut l [125]).1.length ≤ l.length := by
  unfold Lib.cut
  split
  · rw [List.length_take]; omega
  · exact Nat.le_refl _

set_option maxHeartbeats 8000000 in
set_option maxRecDepth 1000000 in
theorem readRune_walk (B : Nat) (v : Value) (l : List UInt8) (s : ByteArray) (h3 : 3 ≤ s.size) (hs : s.size ≤ 1000000) (w : World) (hE : Env w) (hown : Own B w v l) (hB : B ≤ w.heap.size) (hlim : l.length + 16 ≤ 140737488355328) :
    Calls Tryd.prog 33 #[v, .string s] w fun e w' => Red B w w' v l (if (Lib.cut (s.data.toList.drop 3) [125]).2.2 then (parse 2147483647 (Lib.cut (s.data.toList.drop 3) [125]).1).map fun (n : Nat) => (Lib.encodeRune (n : Int), 3 + (Lib.cut (s.data.toList.drop 3) [125]).1.length + 1) else none) e := by
  have HO := hide hown
  clear hown
  have hcl := cut_len (s.data.toList.drop 3)
  rw [List.length_drop, len_of] at hcl
  obtain ⟨a, ha⟩ : ∃ a, a = (Lib.cut (s.data.toList.drop 3) [125]).1 := ⟨_, rfl⟩
  obtain ⟨c, hc⟩ : ∃ c, c = (Lib.cut (s.data.toList.drop 3) [125]).2.2 := ⟨_, rfl⟩
  have HC : Hid ((s.extract 3 s.size).size ≤ 1000000 ∧ a = (Lib.cut (s.extract 3 s.size).data.toList [125]).1 ∧ c = (Lib.cut (s.extract 3 s.size).data.toList [125]).2.2) := by
    refine hide ⟨by rw [ByteArray.size_extract]; omega, ?_, ?_⟩
    · rw [ex_from]; exact ha
    · rw [ex_from]; exact hc
  rw [← ha] at hcl
  rw [← ha, ← hc]
  clear ha hc
  have hp := pub_walk 31 2147483647 (.inr ⟨rfl, rfl⟩) (tx a) (by rw [tx_size]; omega)
  rw [tx_list] at hp
  have hta := tx_size a
  cases hr : parse 2147483647 a with
  | none =>
    rw [hr] at hp
    have HP := hide hp
    clear hp hr
    have e0 : (if c = true then Option.map (fun (n : Nat) => (Lib.encodeRune (n : Int), 3 + a.length + 1)) none else none) = none := by cases c <;> rfl
    rw [e0]
    clear e0
    go_enter Tryd.func33, Tryd.ntmps33
    go_wp2_with (first | (go_at_call 40; refine (cut_at (s.extract 3 s.size) a c HC _).mono ?_; rintro e w1 ⟨b, rfl, hb1⟩) | (go_at_call 41; refine (unhide HP _ (hE.below hb1 hE.sz)).mono ?_; rintro e w' ⟨⟨x, tp, p, rfl⟩, hb2⟩))
    all_goals go_ret2
    all_goals exact ⟨⟨v, rfl⟩, below_grown (hb1.trans (hb2.mono hb1.size))⟩
  | some n =>
    have hn : n ≤ 2147483647 := by
      unfold parse at hr
      split at hr
      · exact absurd hr (by simp)
      · exact parseF_le _ _ _ _ (by omega) hr
    rw [hr] at hp
    have HP := hide hp
    clear hp hr
    cases c with
    | false =>
      go_enter Tryd.func33, Tryd.ntmps33
      go_wp2_with (first | (go_at_call 40; refine (cut_at (s.extract 3 s.size) a false HC _).mono ?_; rintro e w1 ⟨b, rfl, hb1⟩) | (go_at_call 41; refine (unhide HP _ (hE.below hb1 hE.sz)).mono ?_; rintro e w' ⟨h1, hb2⟩; cases (show e = _ from h1)))
      go_ret2
      exact ⟨⟨v, rfl⟩, below_grown (hb1.trans (hb2.mono hb1.size))⟩
    | true =>
      have hw32 : wrap32 (n : Int) = (n : Int) := by unfold wrap32; omega
      go_enter Tryd.func33, Tryd.ntmps33
      go_wp2_with (first | (go_at_call 40; refine (cut_at (s.extract 3 s.size) a true HC _).mono ?_; rintro e w1 ⟨b, rfl, hb1⟩) | (go_at_call 41; refine (unhide HP _ (hE.below hb1 hE.sz)).mono ?_; rintro e w' ⟨h1, hb2⟩; cases (show e = _ from h1); have hb3 := hb1.trans (hb2.mono hb1.size)) | (go_at_call 26; refine (appendRune_at B v l n (by omega) (by omega) _ ((unhide HO).keepB hb3) (Nat.le_trans hB hb3.size) hlim).mono ?_; rintro e w4 ⟨v4, rfl, hO4, hG4⟩))
      go_ret2
      refine ⟨⟨v4, ?_, hO4⟩, grown_trans hb3 hG4⟩
      show _ = Ending.returned (Value.tuple #[v4, Value.int .i64 ((3 + a.length + 1 : Nat) : Int)])
      rw [show ((3 + a.length + 1 : Nat) : Int) = 3 + (a.length : Int) + 1 by omega]
      rfl

theorem pre_at (s p : ByteArray) (b : Bool) (h : Hid (Lib.hasPrefix s.data.toList p.data.toList = b)) (w : World) : Calls Tryd.prog 32 #[.string s, .string p] w fun e w' => e = .returned (.bool b) ∧ w' = w := by
  refine (Tryd.strings_HasPrefix s p w).mono ?_
  rintro e w' ⟨rfl, rfl⟩
  exact ⟨by rw [unhide h], rfl⟩

theorem prefix_len {l p : List UInt8} (h : Lib.hasPrefix l p = true) : p.length ≤ l.length := by
  have := List.isPrefixOf_iff_prefix.1 h
  exact this.length_le

set_option maxHeartbeats 8000000 in
set_option maxRecDepth 1000000 in
theorem readOne_walk (B : Nat) (v : Value) (l : List UInt8) (s : ByteArray) (h1 : 1 ≤ s.size) (hs : s.size ≤ 1000000) (w : World) (hE : Env w) (hown : Own B w v l) (hB : B ≤ w.heap.size) (hlim : l.length + 16 ≤ 140737488355328) :
    Calls Tryd.prog 20 #[v, .string s] w fun e w' => Red B w w' v l (readOneL s.data.toList) e := by
  have HO := hide hown
  clear hown
  unfold readOneL
  by_cases hu : Lib.hasPrefix s.data.toList [92, 117, 123] = true
  · have h3 : 3 ≤ s.size := by have := prefix_len hu; rw [len_of] at this; simpa using this
    have hc := readRune_walk B v l s h3 hs w hE (unhide HO) hB hlim
    rw [if_pos hu]
    obtain ⟨r, hr⟩ : ∃ r, r = (if (Lib.cut (s.data.toList.drop 3) [125]).2.2 = true then (parse 2147483647 (Lib.cut (s.data.toList.drop 3) [125]).1).map fun (n : Nat) => (Lib.encodeRune (n : Int), 3 + (Lib.cut (s.data.toList.drop 3) [125]).1.length + 1) else none) := ⟨_, rfl⟩
    rw [← hr] at hc ⊢
    clear hr
    have HU : Hid (Lib.hasPrefix s.data.toList (⟨#[92, 117, 123]⟩ : ByteArray).data.toList = true) := hide hu
    have HC := hide hc
    clear hc hu
    cases r with
    | none =>
      go_enter Tryd.func20, Tryd.ntmps20
      go_wp2_with (first | (go_at_call 32; refine (pre_at s _ true HU _).mono ?_; rintro e w' ⟨rfl, rfl⟩) | (go_at_call 33; refine (unhide HC).mono ?_; rintro e w2 ⟨⟨v2, rfl⟩, hG2⟩))
      go_ret2
      exact ⟨⟨v2, rfl⟩, hG2⟩
    | some p =>
      go_enter Tryd.func20, Tryd.ntmps20
      go_wp2_with (first | (go_at_call 32; refine (pre_at s _ true HU _).mono ?_; rintro e w' ⟨rfl, rfl⟩) | (go_at_call 33; refine (unhide HC).mono ?_; rintro e w2 ⟨⟨v2, rfl, hO2⟩, hG2⟩))
      go_ret2
      exact ⟨⟨v2, rfl, hO2⟩, hG2⟩
  · have hu' : Lib.hasPrefix s.data.toList [92, 117, 123] = false := by simpa using hu
    rw [if_neg hu]
    have HU : Hid (Lib.hasPrefix s.data.toList (⟨#[92, 117, 123]⟩ : ByteArray).data.toList = false) := hide hu'
    clear hu hu'
    by_cases hx : Lib.hasPrefix s.data.toList [92, 120] = true
    · rw [if_pos hx]
      have hc := readByte_walk B v l s hs w hE (unhide HO) hB hlim
      obtain ⟨r, hr⟩ : ∃ r, r = (if s.data.toList.length < 4 then none else (parse 255 ((s.data.toList.drop 2).take 2)).map fun n => ([UInt8.ofNat n], 4)) := ⟨_, rfl⟩
      rw [← hr] at hc ⊢
      clear hr
      have HX : Hid (Lib.hasPrefix s.data.toList (⟨#[92, 120]⟩ : ByteArray).data.toList = true) := hide hx
      have HC := hide hc
      clear hc hx
      cases r with
      | none =>
        go_enter Tryd.func20, Tryd.ntmps20
        go_wp2_with (first | (go_at_call 32; first | (refine (pre_at s ⟨#[92, 117, 123]⟩ false HU _).mono ?_; rintro e w' ⟨rfl, rfl⟩) | (refine (pre_at s ⟨#[92, 120]⟩ true HX _).mono ?_; rintro e w' ⟨rfl, rfl⟩)) | (go_at_call 34; refine (unhide HC).mono ?_; rintro e w2 ⟨⟨v2, rfl⟩, hG2⟩))
        go_ret2
        exact ⟨⟨v2, rfl⟩, hG2⟩
      | some p =>
        go_enter Tryd.func20, Tryd.ntmps20
        go_wp2_with (first | (go_at_call 32; first | (refine (pre_at s ⟨#[92, 117, 123]⟩ false HU _).mono ?_; rintro e w' ⟨rfl, rfl⟩) | (refine (pre_at s ⟨#[92, 120]⟩ true HX _).mono ?_; rintro e w' ⟨rfl, rfl⟩)) | (go_at_call 34; refine (unhide HC).mono ?_; rintro e w2 ⟨⟨v2, rfl, hO2⟩, hG2⟩))
        go_ret2
        exact ⟨⟨v2, rfl, hO2⟩, hG2⟩
    · have hx' : Lib.hasPrefix s.data.toList [92, 120] = false := by simpa using hx
      rw [if_neg hx]
      have HX : Hid (Lib.hasPrefix s.data.toList (⟨#[92, 120]⟩ : ByteArray).data.toList = false) := hide hx'
      clear hx hx'
      have h0 : 0 < s.size := by omega
      have hh := head_at s 0 h0
      rw [List.drop_zero] at hh
      rw [hh]
      clear hh
      generalize hc0 : (s[0]'h0) = c0
      go_enter Tryd.func20, Tryd.ntmps20
      go_wp2_with (first | (go_at_call 32; first | (refine (pre_at s ⟨#[92, 117, 123]⟩ false HU _).mono ?_; rintro e w' ⟨rfl, rfl⟩) | (refine (pre_at s ⟨#[92, 120]⟩ false HX _).mono ?_; rintro e w' ⟨rfl, rfl⟩)) | (refine wpList_app rfl _ _ rfl B v l rfl ((unhide HO).keep fun k hk => Below.heap_alloc _ _ _ hk) ⟨_, 0, none⟩ 1 1 rfl [c0] rfl ?_ ?_ ?_ ?_))
      · intro j hj
        obtain rfl : j = 0 := by omega
        rw [Addr.add_lit]
        exact cell_fresh _ _ _ _
      · show l.length + 1 ≤ _
        omega
      · simp
        omega
      · intro v3 w3 hO3 hG3
        go_wp2_with fail
        go_ret2
        exact ⟨⟨v3, rfl, hO3⟩, grown_alloc hG3⟩
end Go.Proofs.YtdgebadjlkmdiaaDoor
