/-
  What strconv.FormatUint to ten, strconv.Itoa, digest.Text and digest.Parse, slot.number, slot.statusOf and the document's Digits answer.
-/
import Derived.Test.YtglphnmnnfpcoaaDoorSMath
import Derived.Lib.AppendIntMem
import Derived.Lib.ItoaMem
import Derived.Lib.Hide
namespace Go.Proofs.YtglphnmnnfpcoaaDoor
open Go.RowKit Go.Sort

theorem tx_eq (l : List UInt8) : (⟨l.toArray⟩ : ByteArray) = tx l := rfl
theorem sz_below {B : Nat} {w w' : World} (h : Below B w w') : w.heap.size ≤ w'.heap.size := h.size

set_option maxHeartbeats 12800000 in
set_option maxRecDepth 100000 in
theorem ifmt_walk (u : Nat) (hu64 : u < 18446744073709551616) (w : World) (hT : Tabs w) :
    Calls Tryd.prog 61 #[.int .u64 u, .int .i64 10] w fun e w' => e = .returned (.string (tx (dec u))) ∧ Below w.heap.size w w' := by
  by_cases hs : u < 100
  · go_enter Tryd.func61, Tryd.ntmps61
    go_wp2_with fail
    refine (Tryd.internal_strconv_small u hs _).mono ?_
    rintro e w' ⟨rfl, hw⟩
    subst w'
    go_wp2
    go_ret
    exact ⟨rfl, Below.refl _ _⟩
  · have htab := hT.pow
    clear hT
    have hu1 : 1 ≤ u := by omega
    have hnd20 : Lib.nDigits u ≤ 20 := by have := Lib.numDigits_eq u hu1 hu64; split at this <;> omega
    have hal : Tryd.prog.arrayLen 92 = 24 := by kernel_rfl
    have hsl : ∀ W, (Instr.sliceAt 92 (.pointer (some ⟨w.heap.size, 0, none⟩)) none (some (.int .i64 (Lib.nDigits u : Int))) none).run Tryd.prog W = .ok (.slice (some ⟨w.heap.size, 0, none⟩) (Lib.nDigits u) 24) W := fun W => by
      rw [run_sliceAt_array_h W 92 ⟨w.heap.size, 0, none⟩ (by simp [Program.arrayLen, Program.elem, Tryd.underlying92]) .i64 (Lib.nDigits u : Int) (by omega) (by rw [hal]; omega)]
      go_simp
    have hH0 := Lib.holds_zero0 w 92 (Lib.nDigits u) (by omega)
    have hfmt := Tryd.internal_strconv_formatBase10 w.heap.size 0 24 u (Array.replicate (Lib.nDigits u) 0) (w.alloc (.cells Lib.zeros24 92)) hH0 (by rw [Array.size_replicate]; exact Lib.lt_pow_nDigits u) hu64 (by rw [Array.size_replicate]; omega)
    rw [Array.size_replicate] at hfmt
    have HH0 := Lib.hid hH0
    have iu : (100 : Int) ≤ (u : Int) := by omega
    clear hH0 hal
    go_enter Tryd.func61, Tryd.ntmps61
    go_wp2_with fail
    refine (Tryd.internal_strconv_numDigits u hu1 hu64 _ (Lib.tabIs_alloc htab _)).mono ?_
    rintro e w' ⟨rfl, hw⟩
    subst w'
    go_wp2_with fail
    refine hfmt.mono ?_
    rintro e w' ⟨rfl, k, v', dk, rfl, hF⟩
    have hcv : (convert 34 9 (.slice (some ⟨w.heap.size, 0, none⟩) (Lib.nDigits u) 24)).run Tryd.prog ((putRow (fun (b : UInt8) => Value.int .u8 (b.toNat : Int)) (w.alloc (.cells Lib.zeros24 92)) w.heap.size 0 dk).drewN k) = .ok (.string ⟨(Lib.decDigits u).toArray⟩) ((putRow (fun (b : UInt8) => Value.int .u8 (b.toNat : Int)) (w.alloc (.cells Lib.zeros24 92)) w.heap.size 0 dk).drewN k) := by
      have h := run_convert_bytes_back (P := Tryd.prog) ((putRow (fun (b : UInt8) => Value.int .u8 (b.toNat : Int)) (w.alloc (.cells Lib.zeros24 92)) w.heap.size 0 dk).drewN k) 34 9 5 ⟨w.heap.size, 0, none⟩ 24 (Lib.decDigits u) Tryd.underlying34 Tryd.underlying5 Tryd.underlying9 (fun j hj => by
        rw [Lib.row_is_numeral hF j hj, Lib.add_plain, World.cell?_drewN]
        exact cell?_putRow (fun (b : UInt8) => Value.int .u8 (b.toNat : Int)) _ w.heap.size 0 _ dk HH0.out (by rw [hF.size, Array.size_replicate]) j (by rw [hF.size]; rw [Lib.decDigits_length] at hj; exact hj))
      rw [Lib.decDigits_length] at h
      exact h
    obtain ⟨os, eo⟩ := Lib.fin_at w (.cells Lib.zeros24 92) dk k 0
    have hb : Below w.heap.size w ((putRow (fun (b : UInt8) => Value.int .u8 (b.toNat : Int)) (w.alloc (.cells Lib.zeros24 92)) w.heap.size 0 dk).drewN k) := by rw [eo]; exact Lib.below_grow _ w (Nat.le_refl _) k os
    have Hb := hide hb
    clear eo HH0 hfmt hb
    generalize (putRow (fun (b : UInt8) => Value.int .u8 (b.toNat : Int)) (w.alloc (.cells Lib.zeros24 92)) w.heap.size 0 dk).drewN k = W2 at *
    go_wp2
    go_ret
    exact ⟨rfl, unhide Hb⟩

set_option maxHeartbeats 800000 in
set_option maxRecDepth 100000 in
theorem fmt_walk (u : Nat) (hu64 : u < 18446744073709551616) (w : World) (hT : Tabs w) :
    Calls Tryd.prog 43 #[.int .u64 u, .int .i64 10] w fun e w' => e = .returned (.string (tx (dec u))) ∧ Below w.heap.size w w' := by
  have HC := hide (ifmt_walk u hu64 w hT)
  clear hT
  go_enter Tryd.func43, Tryd.ntmps43
  go_wp2_with fail
  refine (unhide HC).mono ?_
  rintro e w' ⟨rfl, hb⟩
  have Hb := hide hb
  clear hb
  go_wp2
  go_ret
  exact ⟨rfl, unhide Hb⟩

theorem itoa_walk (n : Nat) (h : n < 9223372036854775808) (w : World) (hT : Tabs w) :
    Calls Tryd.prog 44 #[.int .i64 n] w fun e w' => e = .returned (.string (tx (dec n))) ∧ Below w.heap.size w w' := by
  refine (Tryd.strconv_Itoa n (by omega) (by omega) w hT.pow).mono ?_
  rintro e w' ⟨rfl, k, os, rfl⟩
  refine ⟨?_, Lib.below_grow _ w (Nat.le_refl _) k os⟩
  rw [Lib.itoa_nonneg]
  rfl

theorem hbytes (l : List UInt8) : H.bytesV (l.map UInt8.toBitVec) = bytesV l := by
  unfold H.bytesV bytesV
  rw [List.map_map]
  rfl
theorem hbytes' (l : List (BitVec 8)) : H.bytesV l = bytesV (l.map UInt8.ofBitVec) := by
  rw [← hbytes, map_back]
theorem hstr (l : List (BitVec 8)) : H.str l = tx (l.map UInt8.ofBitVec) := rfl
theorem htext_walk (dg : List UInt8) (h : dg.length = 32) (w : World) :
    Calls Tryd.prog 45 #[.agg (bytesV dg).toArray] w fun e w' => e = .returned (.string (tx (hexT dg))) ∧ Below w.heap.size w w' := by
  rw [← hbytes]
  exact H.text_any (dg.map UInt8.toBitVec) (by simpa using h) w
theorem hrtext_walk (dg : List UInt8) (h : dg.length = 32) (w : World) :
    Calls Tryd.prog 47 #[.agg (bytesV dg).toArray] w fun e w' => e = .returned (.string (tx (hexT dg))) ∧ Below w.heap.size w w' := by
  rw [← hbytes]
  exact H.reftext_any (dg.map UInt8.toBitVec) (by simpa using h) w
theorem hparse_walk (l : List UInt8) (w : World) :
    Calls Tryd.prog 56 #[.string (tx l)] w fun e w' => ∃ h ok, e = .returned (.tuple #[.agg (bytesV h).toArray, .bool ok]) ∧ HashOf l h ∧ Below w.heap.size w w' := by
  have h := H.parse_any (l.map UInt8.toBitVec) w
  rw [hstr, map_back'] at h
  refine h.mono ?_
  rintro e w' ⟨h, ok, rfl, ⟨h1, h2, h3⟩, hb⟩
  refine ⟨h.map UInt8.ofBitVec, ok, by rw [hbytes'], ⟨by simpa using h1, fun g hg he => ?_⟩, hb⟩
  have hg2 : H.Sha.text (g.map UInt8.toBitVec) = l.map UInt8.toBitVec := by
    rw [← he, hexT, map_back]
  cases ok with
  | false => exact absurd hg2 ((h3 rfl).2 _ (by simpa using hg))
  | true =>
    have e1 := h2 rfl
    have := H.Sha.text_inj _ _ (e1.trans hg2.symm)
    rw [this, map_back']

set_option maxHeartbeats 1600000 in
set_option maxRecDepth 100000 in
theorem number_walk (l : List UInt8) (hl : l.length ≤ 1000000) (w : World) (hT : Tabs w) :
    Calls Tryd.prog 55 #[.string (tx l)] w fun e w' => e = .returned (.int .u64 (num l : Int)) ∧ Below w.heap.size w w' := by
  obtain ⟨tp, p, hsyn⟩ := hT.syn
  obtain ⟨tr, q, hrng⟩ := hT.rng
  have hsz : (tx l).size = l.length := tx_size l
  have hlist : (tx l).data.toList = l := tx_list l
  have HC : Hid (Calls Tryd.prog 68 #[.string (tx l), .int .i64 10, .int .i64 64] w fun e w' => (∃ u : Nat, e = .returned (.tuple #[.int .u64 (u : Int), .nilIface]) ∧ num l = u ∨ (∃ (x : Int) (t : TypeId) (N : Nat), e = .returned (.tuple #[.int .u64 x, .iface t (.pointer (some ⟨N, 0, none⟩))])) ∧ num l = 0) ∧ Below w.heap.size w w') := by
    show Calls _ _ _ _ _
    cases hr : Lib.parseUintB 64 l with
    | ok u =>
      refine (Tryd.strconv_ParseUint_10_at64_ok (tx l) (by omega) u (by rw [hlist]; exact hr) w).mono ?_
      rintro e w' ⟨rfl, hw⟩
      refine ⟨⟨u, .inl ⟨rfl, by unfold num; rw [hr]⟩⟩, ?_⟩
      rcases hw with rfl | rfl
      · exact Below.refl _ _
      · exact Lib.bytesWorld_below _ _ _
    | «syntax» =>
      refine (Tryd.strconv_ParseUint_10_at64_syntax_var (tx l) (by omega) (by rw [hlist]; exact hr) tp p w hsyn).mono ?_
      rintro e w' ⟨N, rfl, _, _, hb⟩
      exact ⟨⟨0, .inr ⟨⟨_, _, N, rfl⟩, by unfold num; rw [hr]⟩⟩, hb⟩
    | range =>
      refine (Tryd.strconv_ParseUint_10_at64_range_var (tx l) (by omega) (by rw [hlist]; exact hr) tr q w hrng).mono ?_
      rintro e w' ⟨N, rfl, _, _, hb⟩
      exact ⟨⟨0, .inr ⟨⟨_, _, N, rfl⟩, by unfold num; rw [hr]⟩⟩, hb⟩
  clear hsyn hrng hsz hlist hT hl
  generalize num l = n at *
  go_enter Tryd.func55, Tryd.ntmps55
  go_wp2_with fail
  refine (unhide HC).mono ?_
  rintro e w' ⟨⟨u, ⟨rfl, hn⟩ | ⟨⟨x, t, N, rfl⟩, hn⟩⟩, hb⟩
  · have Hb := hide hb
    have Hn := hide hn
    clear hb hn HC
    go_wp2
    go_ret
    refine ⟨?_, unhide Hb⟩
    rw [unhide Hn]
    rfl
  · have Hb := hide hb
    have Hn := hide hn
    clear hb hn HC
    go_wp2
    go_ret
    refine ⟨?_, unhide Hb⟩
    rw [unhide Hn]
    rfl
end Go.Proofs.YtglphnmnnfpcoaaDoor
