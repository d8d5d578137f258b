
/-
  What bootjackref05.size, Fixed and Text, and code.Raw answer.
-/
import Derived.Test.YtglphnmnnfpcoaaDoorCPut
namespace Go.Proofs.YtglphnmnnfpcoaaDoor
open Go.RowKit

set_option maxHeartbeats 400000 in
set_option maxRecDepth 100000 in
theorem size5_walk (m : Int) (w : World) : Calls Tryd.prog 60 #[.int .i64 m] w fun e w' => e = .returned (.int .i64 (sizeN m : Int)) ∧ w' = w := by
  unfold sizeN
  by_cases h0 : m < 0
  · rw [if_pos h0]
    go_enter Tryd.func60, Tryd.ntmps60
    go_wp2
    go_ret
    exact ⟨rfl, rfl⟩
  · rw [if_neg h0]
    by_cases h8 : 8 < m
    · rw [if_pos h8]
      go_enter Tryd.func60, Tryd.ntmps60
      go_wp2
      go_ret
      exact ⟨rfl, rfl⟩
    · rw [if_neg h8]
      have e : ((m.toNat : Nat) : Int) = m := by omega
      rw [e]
      clear e
      go_enter Tryd.func60, Tryd.ntmps60
      go_wp2
      go_ret
      exact ⟨rfl, rfl⟩

set_option maxHeartbeats 1600000 in
set_option maxRecDepth 100000 in
theorem rfix_walk (n : Nat) (hn : n < 18446744073709551616) (m : Int) (w : World) :
    Calls Tryd.prog 41 #[.int .u64 (n : Int), .int .i64 m] w fun e w' => ∃ v', e = .returned v' ∧ Own w.heap.size w' v' (fixedL n (sizeN m)) ∧ Below w.heap.size w w' := by
  have hs8 := sizeN_le m
  have HC := hide (fun w => size5_walk m w)
  have hb0 : Below w.heap.size w (w.alloc (.cells #[] 5)) := (Below.refl _ _).alloc (Nat.le_refl _) _
  have HE := hide (Own.empty w)
  generalize sizeN m = q at *
  go_enter Tryd.func41, Tryd.ntmps41
  go_wp2_with fail
  go_loopw [0, 5, 6] (fun cn cr ci wr => ∃ k : Nat, k ≤ q ∧ ci = .int .i64 (k : Int) ∧ cn = .int .u64 ((n / 256 ^ k : Nat) : Int) ∧ Own w.heap.size wr cr (fixedL n k) ∧ Below w.heap.size w wr) (fun _ _ ci _ => q - (intOf ci).toNat)
  case atStart => exact ⟨0, by omega, rfl, by simp, by simpa [fixedL] using unhide HE, hb0⟩
  case round =>
    obtain ⟨k, hk, rfl, rfl, hO, hb⟩ := hrel
    have HOk := hide hO
    clear hO
    by_cases hlt : k < q
    · have hst := fixedL_snoc k n
      have hlen := fixedL_length k n
      have hd : n / 256 ^ (k + 1) = n / 256 ^ k / 256 := by rw [pow_split, Nat.div_div_eq_div_mul]
      have hle : n / 256 ^ k ≤ n := Nat.div_le_self _ _
      have HST := hide hst
      have HD := hide hd
      have HL := hide hlen
      clear hst hd hlen
      generalize n / 256 ^ k = p at *
      go_wp2_with fail
      refine (unhide HC wr).mono ?_
      rintro e w1 ⟨rfl, hw1⟩
      subst w1
      go_wp2_with (refine wpList_app rfl _ _ rfl w.heap.size _ (fixedL n k) rfl ((unhide HOk).keep fun k hk => Below.heap_alloc _ _ _ hk) ⟨_, 0, none⟩ 1 1 rfl [UInt8.ofNat p] rfl ?_ ?_ ?_ ?_)
      · intro j hj
        obtain rfl : j = 0 := by omega
        rw [Addr.add_lit, cell_fresh]
        simp
      · rw [unhide HL]; simp; omega
      · have := hb.size; simp; omega
      · intro v' w' hO' hG
        have hb' := hb.trans (((Below.refl w.heap.size wr).alloc hb.size _).trans (((unhide HOk).keep fun k hk => Below.heap_alloc _ _ _ hk).below hG (by have := hb.size; simp; omega)))
        have HO' := hide hO'
        clear hO' hG
        go_wp2
        go_roundw
        case rel =>
          refine ⟨k + 1, by omega, by go_num, ?_, ?_, hb'⟩
          · rw [unhide HD]; simp
          · rw [unhide HST]; exact unhide HO'
        case measure => simp [intOf]; omega
    · obtain rfl : k = q := by omega
      go_wp2_with fail
      refine (unhide HC wr).mono ?_
      rintro e w1 ⟨rfl, hw1⟩
      subst w1
      go_wp2
      go_ret
      exact ⟨_, rfl, unhide HOk, hb⟩

/-- A slice of slices of bytes. -/
def Parts (N : Nat) (w : World) (a : Option Addr) (len : Nat) (ps : List (List UInt8)) : Prop :=
  ps.length = len ∧ ∀ i, i < len → ∃ b off v, a = some ⟨b, off, none⟩ ∧ b < N ∧ w.cell? ⟨b, off + i, none⟩ = some v ∧ RowV N w v (ps.getD i [])
theorem Parts.below {N : Nat} {w w' : World} {a : Option Addr} {len : Nat} {ps : List (List UInt8)} (h : Parts N w a len ps) (hb : Below N w w') : Parts N w' a len ps :=
  ⟨h.1, fun i hi => by
    obtain ⟨b, off, v, ha, hl, hc, hv⟩ := h.2 i hi
    exact ⟨b, off, v, ha, hl, (hb.cell (p := ⟨b, off + i, none⟩) hl).trans hc, hv.below hb⟩⟩

set_option maxHeartbeats 1600000 in
set_option maxRecDepth 100000 in
theorem raw_walk (N : Nat) (v : Value) (bs : List UInt8) (a : Option Addr) (len cap : Nat) (ps : List (List UInt8)) (w : World) (hN : N ≤ w.heap.size) (hr : RowV N w v bs) (hp : Parts N w a len ps)
    (hl : bs.length ≤ 5000) (hsz : ∀ p ∈ ps, p.length ≤ 5000) (h10 : len ≤ 10) :
    Calls Tryd.prog 40 #[v, .slice a len cap] w fun e w' => ∃ v', e = .returned v' ∧ Own w.heap.size w' v' (bs ++ ps.flatten) ∧ Below w.heap.size w w' := by
  have HC := hide (clone_walk N v bs w hN hr)
  have HS := hide hp
  have HZ := hide hsz
  have HL := hide hp.1
  clear hr hp hsz
  go_enter Tryd.func40, Tryd.ntmps40
  go_wp2_with fail
  refine (unhide HC).mono ?_
  rintro e w1 ⟨v1, rfl, hO, hb⟩
  have HO := hide hO
  clear hO HC
  go_wp2_with fail
  go_loopw [5, 12] (fun cr ci wr => ∃ k : Nat, k ≤ len ∧ ci = .int .i64 (k : Int) ∧ Own w.heap.size wr cr (bs ++ (ps.take k).flatten) ∧ (bs ++ (ps.take k).flatten).length ≤ 5000 + 5000 * k ∧ Below w.heap.size w wr) (fun _ ci _ => len - (intOf ci).toNat)
  case atStart => exact ⟨0, by omega, rfl, by simpa using unhide HO, by simp; omega, hb⟩
  case round =>
    obtain ⟨k, hk, rfl, hOk, hlk, hbk⟩ := hrel
    by_cases hlt : k < len
    · obtain ⟨b, off, pv, rfl, hbN, hcell, hpv⟩ := ((unhide HS).below (hbk.mono hN)).2 k hlt
      have hmem : ps.getD k [] ∈ ps := by
        rw [List.getD_eq_getElem?_getD, List.getElem?_eq_getElem (by rw [unhide HL]; exact hlt)]
        exact List.getElem_mem _
      have hsk := unhide HZ _ hmem
      have hst := take_snoc [] ps k (by rw [unhide HL]; exact hlt)
      generalize ps.getD k [] = t at *
      have HT : Hid (bs ++ (ps.take (k + 1)).flatten = bs ++ (ps.take k).flatten ++ t) := hide (by rw [hst]; simp)
      clear hst hmem
      generalize bs ++ (ps.take k).flatten = acc at *
      have HOk := hide hOk
      have HPV := hide hpv
      obtain ⟨pa, pl, pc, rfl, _⟩ := hpv
      clear hOk
      go_wp2_with (refine wpList_appRow rfl _ _ rfl w.heap.size N _ acc rfl (unhide HOk) _ rfl t (unhide HPV) ?_ ?_ ?_)
      · omega
      · exact hbk.size
      · intro v4 w4 hO4 hG4
        have hb4 := hbk.trans ((unhide HOk).below hG4 hbk.size)
        have HO4 := hide hO4
        clear hO4 hG4
        go_wp2
        go_roundw
        case rel =>
          refine ⟨k + 1, by omega, by go_num, ?_, ?_, hb4⟩
          · rw [unhide HT]; exact unhide HO4
          · rw [unhide HT, List.length_append]; omega
        case measure => simp [intOf]; omega
    · obtain rfl : k = len := by omega
      have e1 : ps.take k = ps := List.take_of_length_le (by rw [unhide HL]; exact Nat.le_refl _)
      rw [e1] at hOk
      have HOk := hide hOk
      clear hOk e1
      go_wp2
      go_ret
      exact ⟨_, rfl, unhide HOk, hbk⟩

/-- A slice with these bytes, whatever its memory. -/
def Shows (bs : List UInt8) (v : Value) (w : World) : Prop := RowV w.heap.size w v bs
theorem Shows.stable {bs : List UInt8} : ∀ v w w', Shows bs v w → Below w.heap.size w w' → Shows bs v w' := fun _ _ _ h hb => (RowV.below h hb).up hb.size
theorem Parts.up {N M : Nat} {w : World} {a : Option Addr} {len : Nat} {ps : List (List UInt8)} (h : Parts N w a len ps) (hb : N ≤ M) : Parts M w a len ps :=
  ⟨h.1, fun i hi => by
    obtain ⟨b, off, v, ha, hl, hc, hv⟩ := h.2 i hi
    exact ⟨b, off, v, ha, by omega, hc, hv.up hb⟩⟩
end Go.Proofs.YtglphnmnnfpcoaaDoor
