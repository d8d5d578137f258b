/-
  How bootjackref04 cuts a text, and has it in small letters.
-/
import Derived.Test.YtglphnmnnfpcoaaDoorGRunes
import Derived.Test.YtglphnmnnfpcoaaDoorGPut
namespace Go.Proofs.YtglphnmnnfpcoaaDoor.G
open Go.RowKit

/-- Each of a text's runes is one that the text begins with somewhere. -/
theorem runes_one : ∀ (l : List UInt8) (r : Ru), r ∈ runes l → ∃ l', l' ≠ [] ∧ r = one l' := by
  apply runes_ind
  · intro r h; simp [runes_nil] at h
  · intro l hl ih r h
    rw [runes_cons l hl, List.mem_cons] at h
    rcases h with rfl | h
    · exact ⟨l, hl, rfl⟩
    · exact ih r h

/-- The numbers of a text's runes that are ones. -/
theorem one_valid (l : List UInt8) : (one l).brk = false → (one l).num ≤ 1114111 ∧ ((one l).num < 55296 ∨ 57343 < (one l).num) := by
  unfold one
  split
  · intro h; exact absurd h (by simp)
  · intro _
    dsimp only
    rw [Lib.decodeL_N l]
    have k0 := (l.getD 0 0).toNat_lt
    have k1 := (l.getD 1 0).toNat_lt
    have k2 := (l.getD 2 0).toNat_lt
    have k3 := (l.getD 3 0).toNat_lt
    rcases Lib.decodeN_shape l.length (l.getD 0 0).toNat (l.getD 1 0).toNat (l.getD 2 0).toNat (l.getD 3 0).toNat with ⟨c, e⟩ | ⟨c1, c2, c3, cv, e⟩ | ⟨c1, c2, c3, c4, cv, cs, e⟩ | ⟨c1, c2, c3, c4, c5, cv, cw, e⟩ | e
    all_goals (rw [e]; dsimp only; omega)
theorem one_small (l : List UInt8) : (tx (one l).bytes).size ≤ 4 := by
  rw [tx_size, one_bytes, List.length_take]
  have : (Lib.decodeL l).2 ≤ 4 := by
    rw [Lib.decodeL_N l]
    rcases Lib.decodeN_shape l.length (l.getD 0 0).toNat (l.getD 1 0).toNat (l.getD 2 0).toNat (l.getD 3 0).toNat with ⟨c, e⟩ | ⟨c1, c2, c3, cv, e⟩ | ⟨c1, c2, c3, c4, cv, cs, e⟩ | ⟨c1, c2, c3, c4, c5, cv, cw, e⟩ | e
    all_goals (rw [e]; simp)
  omega



set_option maxHeartbeats 16000000 in
set_option maxRecDepth 1000000 in
theorem rfold_walk (s : ByteArray) (hs : s.size ≤ 100000) (Lo : Int → Int) (hLo : LowOk Lo) (hLv : ∀ r : Nat, r ≤ 1114111 → (r < 55296 ∨ 57343 < r) → ∃ q : Nat, Lo r = q ∧ q ≤ 1114111 ∧ (q < 55296 ∨ 57343 < q)) (w : World) (hU : Uni w) :
    Calls Tryd.prog 53 #[.string s] w fun e w' => e = .returned (.string (tx (foldL Lo s.data.toList))) ∧ Below w.heap.size w w' := by
  have hR := runes_at s (by omega)
  have hall := runes_one s.data.toList
  have hlen := runes_len s.data.toList
  rw [len_of] at hlen
  have HLO := hide hLo
  have HLV := hide hLv
  have HU := hide hU
  clear hLo hLv hU
  unfold foldL
  generalize hrs : runes s.data.toList = rs at *
  have HRS := hide hrs
  clear hrs
  have HR := hide hR
  have HALL := hide hall
  clear hR hall
  go_enter Tryd.func53, Tryd.ntmps53
  go_wp2_with (go_at_call 65; refine (unhide HR _).mono ?_; rintro e w1 ⟨av, cap, rfl, hL, hb1⟩)
  go_loopw [3, 9] (fun vo vi wr => ∃ (i : Nat), vo = .string (tx ((rs.take i).flatMap (folded Lo))) ∧ vi = .int .i64 (i : Int) ∧ i ≤ rs.length ∧ Below w1.heap.size w1 wr) (fun _ vi _ => rs.length - (RowKit.intOf vi).toNat)
  case atStart =>
    exact ⟨0, by simp [tx], rfl, Nat.zero_le _, Below.refl _ _⟩
  case round =>
    obtain ⟨i0, rfl, rfl, hi, hbw⟩ := hrel
    by_cases hlt : i0 < rs.length
    · obtain ⟨g, rfl, hg, hcell⟩ := hL.below hbw (Nat.le_refl _) i0 hlt
      have c0 := hcell 0 (by decide)
      have c1 := hcell 1 (by decide)
      have c2 := hcell 2 (by decide)
      rw [Nat.add_zero] at c0
      simp only [ruC, List.getElem?_cons_zero, List.getElem?_cons_succ] at c0 c1 c2
      have hmem : rs.getD i0 ⟨0, [], false⟩ ∈ rs := by
        rw [List.getD_eq_getElem?_getD, List.getElem?_eq_getElem hlt]
        exact List.getElem_mem hlt
      have htake : rs.take (i0 + 1) = rs.take i0 ++ [rs.getD i0 ⟨0, [], false⟩] := by
        rw [List.take_succ_eq_append_getElem hlt, List.getD_eq_getElem?_getD, List.getElem?_eq_getElem hlt]
        rfl
      generalize rs.getD i0 ⟨0, [], false⟩ = r at *
      obtain ⟨l', hl', hr'⟩ := unhide HALL r hmem
      have hbz := one_small l'
      have hval := one_valid l'
      rw [← hr'] at hbz hval
      have hoz : (tx ((rs.take i0).flatMap (folded Lo))).size ≤ 1000000 := by
        have h1 : ∀ l : List Ru, (∀ r ∈ l, ∃ l', l' ≠ [] ∧ r = one l') → (l.flatMap (folded Lo)).length ≤ 4 * l.length := by
          intro l
          induction l with
          | nil => intro _; simp
          | cons x l ih =>
            intro hx
            have h2 := ih fun r hr => hx r (List.mem_cons_of_mem _ hr)
            obtain ⟨lx, _, e⟩ := hx x List.mem_cons_self
            have h3 : (folded Lo x).length ≤ 4 := by
              unfold folded
              split
              · have := one_small lx
                rw [tx_size, ← e] at this
                exact this
              · exact encode_len _
            rw [List.flatMap_cons, List.length_append, List.length_cons]
            omega
        have h2 := h1 (rs.take i0) fun r hr => unhide HALL r (List.mem_of_mem_take hr)
        rw [List.length_take] at h2
        rw [tx_size]
        omega
      have fin : ∀ (q : ByteArray) (w4 : World), q = tx ((rs.take (i0 + 1)).flatMap (folded Lo)) → Below w1.heap.size w1 w4 →
          ((∃ (i : Nat), Value.string q = .string (tx ((rs.take i).flatMap (folded Lo))) ∧ Value.int .i64 ((i0 : Int) + 1) = .int .i64 (i : Int) ∧ i ≤ rs.length ∧ Below w1.heap.size w1 w4) ∧
            rs.length - (RowKit.intOf (Value.int .i64 ((i0 : Int) + 1))).toNat < rs.length - (RowKit.intOf (Value.int .i64 (i0 : Int))).toNat) := by
        rintro q w4 rfl hb4
        exact ⟨⟨i0 + 1, rfl, by congr 1, by omega, hb4⟩, by simp [RowKit.intOf]; omega⟩
      have FIN := hide fin
      have HT := hide htake
      have HVAL := hide hval
      clear fin hcell hmem hl' hr' htake hval
      cases hbrk : r.brk with
      | true =>
        rw [hbrk] at c2
        have HF : Hid (tx ((rs.take i0).flatMap (folded Lo)) ++ tx r.bytes = tx ((rs.take (i0 + 1)).flatMap (folded Lo))) := hide (by
          rw [unhide HT, List.flatMap_append, tx_append]
          simp [folded, hbrk])
        generalize tx ((rs.take i0).flatMap (folded Lo)) = ob at *
        generalize tx r.bytes = rb at *
        generalize r.num = num at *
        clear hbrk
        go_wp2_with fail
        exact unhide FIN _ _ (unhide HF) (hbw.alloc hbw.size _)
      | false =>
        rw [hbrk] at c2
        obtain ⟨v1, v2⟩ := unhide HVAL hbrk
        obtain ⟨q, hq, hq1, hq2⟩ := unhide HLV r.num v1 v2
        obtain ⟨_, hlw⟩ := unhide HLO r.num v1
        rw [hq] at hlw
        have HF : Hid (tx ((rs.take i0).flatMap (folded Lo)) ++ tx (Lib.encodeRune q) = tx ((rs.take (i0 + 1)).flatMap (folded Lo))) := hide (by
          rw [unhide HT, List.flatMap_append, tx_append]
          simp [folded, hbrk, hq])
        have HP := hide (put_walk q hq1 hq2)
        have HLW := hide hlw
        have hez := encode_len q
        rw [← tx_size] at hez
        have hwn : wrap32 (r.num : Int) = (r.num : Int) := by unfold wrap32; omega
        have hwq : wrap64 (q : Int) = (q : Int) := by unfold wrap64; omega
        clear hlw hbrk hq
        generalize tx ((rs.take i0).flatMap (folded Lo)) = ob at *
        generalize tx (Lib.encodeRune q) = eb at *
        generalize tx r.bytes = rb at *
        generalize r.num = num at *
        have hb4 := hbw.alloc (o := Obj.cells #[Value.int IntKind.i64 ↑num, Value.string rb, Value.bool false] 82) hbw.size
        go_wp2_with fail
        refine (unhide HLW _ ((unhide HU).below (hb1.trans (hb4.mono hb1.size)))).mono ?_
        rintro e w5 ⟨rfl, hb5⟩
        have hb6 := hb4.trans (hb5.mono hb4.size)
        go_wp2_with fail
        refine (unhide HP _).mono ?_
        rintro e w7 ⟨rfl, hb7⟩
        have hb8 := hb6.trans (hb7.mono hb6.size)
        go_wp2_with fail
        exact unhide FIN _ _ (unhide HF) hb8
    · go_wp2_with fail
      go_ret
      have e1 : i0 = rs.length := by omega
      refine ⟨?_, hb1.trans (hbw.mono hb1.size)⟩
      show Ending.returned (Value.string _) = _
      rw [e1, List.take_length]
end Go.Proofs.YtglphnmnnfpcoaaDoor.G
