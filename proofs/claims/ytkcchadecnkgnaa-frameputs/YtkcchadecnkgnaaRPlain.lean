/-
  The document's Plain and Bytes of a frame.
-/
import Derived.Test.YtkcchadecnkgnaaKRefWalk
import Derived.Test.YtkcchadecnkgnaaFOps
namespace Go.Proofs.Ytkcchadecnkgnaa
open Go.RowKit

/-- append onto a slice of bytes that has no room. -/
theorem run_appFull (w : World) (ty : TypeId) (b : Addr) (l : List UInt8) (hl : ∀ j, j < l.length → w.cell? (b.add j) = some (.int .u8 (((l.getD j 0).toNat : Nat) : Int)))
    (a : Addr) (c : Nat) (ns : List UInt8) (hn : ∀ j, j < ns.length → w.cell? (a.add j) = some (.int .u8 (((ns.getD j 0).toNat : Nat) : Int))) (h0 : 0 < ns.length) (hlim : l.length + ns.length ≤ 1000000) :
    ∃ v' w', (Builtin.append_ #[27, 27] ty #[.slice (some b) l.length l.length, .slice (some a) ns.length c]).run Try.prog w = .ok v' w' ∧ Own w.heap.size w' v' (l ++ ns) ∧ Below w.heap.size w w' := by
  obtain ⟨i, i1, i2, i3, i4⟩ := full5
  have key : ∀ (x : List UInt8) (q : Addr), (∀ j, j < x.length → w.cell? (q.add j) = some (.int .u8 (((x.getD j 0).toNat : Nat) : Int))) → ∀ j u, (Lib.byteCells x)[j]? = some u → w.cell? (q.add j) = some u := fun x q hx j u hj => by
    rw [Lib.byteCells, List.getElem?_map] at hj
    cases hg : x[j]? with
    | none => rw [hg] at hj; simp at hj
    | some y =>
      rw [hg] at hj
      simp only [Option.map_some, Option.some.injEq] at hj
      obtain ⟨hlt, he⟩ := List.getElem?_eq_some_iff.1 hg
      rw [hx j hlt, ← hj, List.getD_eq_getElem?_getD, hg]
      rfl
  have hlen : ∀ x : List UInt8, (Lib.byteCells x).length = x.length := fun x => by simp [Lib.byteCells]
  have hr := run_append_grow (P := Try.prog) w 27 ty 5 i (.int .u8 0) Try.underlying27 i1 i2 b l.length l.length (Lib.byteCells l) (by rw [hlen, i3, Nat.mul_one]) (key l b hl) a ns.length c (Lib.byteCells ns) (by rw [hlen, i3, Nat.mul_one]) (key ns a hn) (by omega) (by omega) (growslice_fits (by omega) (by rw [i4]; omega))
  have hge := grownCap_ge w (l.length + ns.length) l.length 5
  have hcm : grownCap w (l.length + ns.length) l.length 5 ≤ maxLen := grownCap_le_maxLen w _ _ 5 (by simp only [maxLen]; omega)
  refine ⟨_, _, hr, ⟨by rw [hlen, Nat.mul_one], .inr ⟨w.heap.size, _, _, by rw [List.length_append], Nat.le_refl _, heap_alloc_new w.drew _, by rw [List.length_append]; exact hge, hcm, ?_, ?_⟩⟩, ((Below.refl w.heap.size w).drew).alloc (by simp) _⟩
  · have hz : (Value.int .u8 0).cells.size = 1 := rfl
    simp only [Array.size_append, List.size_toArray, size_zeroCells, hz, hlen]
    omega
  · simp only [Array.toList_append]
    rw [← Lib.byteCells_append, ← hlen (l ++ ns), Nat.mul_one]
    exact List.take_left

section
variable {ops : Array Oper} {rest : List Oper} {o : Oper} {a : Act} {w : World} {Q : Exit → Act → World → Prop}
theorem wpList_appFull (hgd : o.guard = none) (s x : Operand) (ho : o.op = .call { callee := .builtin .append, args := #[s, x], argTypes := #[27, 27] })
    (b : Addr) (l : List UInt8) (n : Nat) (hln : l.length = n) (hs : a.eval s = .slice (some b) n n) (hl : ∀ j, j < n → w.cell? (b.add j) = some (.int .u8 (((l.getD j 0).toNat : Nat) : Int)))
    (ad : Addr) (m c : Nat) (ns : List UInt8) (hm : ns.length = m) (hx : a.eval x = .slice (some ad) m c) (hn : ∀ j, j < m → w.cell? (ad.add j) = some (.int .u8 (((ns.getD j 0).toNat : Nat) : Int))) (h0 : 0 < m) (hlim : n + m ≤ 1000000)
    (h : ∀ v' w', Own w.heap.size w' v' (l ++ ns) → Below w.heap.size w w' → wpList Try.prog ops Q rest (a.put o.dst v') w') : wpList Try.prog ops Q (o :: rest) a w := by
  subst hln
  subst hm
  obtain ⟨v', w', hr, q1, q2⟩ := run_appFull w o.type b l hl ad c ns hn h0 hlim
  refine wpList_val hgd ?_ (h v' w' q1 q2)
  unfold execOp
  rw [ho]
  simp only [resolve, invoke, builtin, Sem.run_bind, Sem.run_pure, Result.andThen_ok, List.map_toArray, List.map_cons, List.map_nil, hs, hx, hr]
end

/-- Owned from B on; or with no bytes and no room. -/
def OwnE (B : Nat) (w : World) (v : Value) (l : List UInt8) : Prop := Own B w v l ∨ (l = [] ∧ ∃ b, v = .slice (some b) 0 0)
section
variable {ops : Array Oper} {rest : List Oper} {o : Oper} {a : Act} {w : World} {Q : Exit → Act → World → Prop}
theorem wpList_appE (hgd : o.guard = none) (s x : Operand) (ho : o.op = .call { callee := .builtin .append, args := #[s, x], argTypes := #[27, 27] })
    (B : Nat) (v : Value) (l : List UInt8) (hs : a.eval s = v) (hown : OwnE B w v l)
    (ad : Addr) (m c : Nat) (ns : List UInt8) (hm : ns.length = m) (hx : a.eval x = .slice (some ad) m c) (hn : ∀ j, j < m → w.cell? (ad.add j) = some (.int .u8 (((ns.getD j 0).toNat : Nat) : Int))) (h0 : 0 < m) (hlim : l.length + m ≤ 1000000) (hB : B ≤ w.heap.size)
    (h : ∀ v' w', Own B w' v' (l ++ ns) → Below B w w' → wpList Try.prog ops Q rest (a.put o.dst v') w') : wpList Try.prog ops Q (o :: rest) a w := by
  rcases hown with ho1 | ⟨rfl, b, rfl⟩
  · exact wpList_app hgd s x ho B v l hs ho1 ad m c hx ns hm hn (by omega) hB fun v' w' h1 h2 => h v' w' h1 (ho1.below h2 hB)
  · exact wpList_appFull hgd s x ho b [] 0 rfl hs (fun j hj => by omega) ad m c ns hm hx hn h0 (by simp at hlim; omega) fun v' w' h1 h2 => h v' w' (h1.lower hB) (h2.mono hB)
end
theorem OwnE.alloc {B : Nat} {w : World} {v : Value} {l : List UInt8} (h : OwnE B w v l) (o : Obj) : OwnE B (w.alloc o) v l := by
  rcases h with h | h
  · exact .inl (h.keep fun k hk => Below.heap_alloc _ _ _ hk)
  · exact .inr h
theorem zin_ne {l : List UInt8} (h : 0 < l.length) : zin 0 l ≠ [] := by
  cases l with
  | nil => simp at h
  | cons x l => simp [zin]

theorem zin_le : ∀ (l : List UInt8) (i : Nat), (zin i l).length ≤ 2 * l.length
  | [], _ => by simp [zin]
  | x :: l, i => by
    have := zin_le l (i + 1)
    rw [zin]
    split <;> simp only [List.length_cons] <;> omega

def lenV : Value → Nat
  | .slice _ n _ => n
  | _ => 0

set_option maxHeartbeats 1600000 in
set_option maxRecDepth 100000 in
theorem plain_walk (N : Nat) (k : UInt8) (s : Nat) (hs : s < 18446744073709551616) (v : Value) (b : List UInt8) (w : World) (hN : N ≤ w.heap.size) (hr : RowV N w v b) (hb : b.length ≤ 4000) :
    Calls Try.prog 17 #[.int .u8 ((k.toNat : Nat) : Int), .int .u64 (s : Int), v] w fun e w' => ∃ v', e = .returned v' ∧ Own w.heap.size w' v' (fillF (rowF k s b)) ∧ Below w.heap.size w w' := by
  have hk := k.toNat_lt
  have HR := hide hr
  have HBJ := hide (bj_bytes w)
  obtain ⟨ba, blen, bcap, rfl, q1, q2, q3, hrow⟩ := hr
  have hbl : b.length = blen := hrow.1
  have hbl4 : blen ≤ 4000 := by omega
  have HBL := hide hbl
  clear hrow hb hbl
  have kc := fun (w : World) (C : Array Value) (n c : Nat) => Lib.run_convert_bytes_const (P := Try.prog) w 27 5 C n c Try.underlying27 Try.underlying5
  obtain ⟨kn, hkn⟩ : ∃ kn, kn = k.toNat := ⟨_, rfl⟩
  have HKN := hide hkn
  rw [← hkn] at hk
  rw [← hkn]
  clear hkn
  go_enter Try.func17, Try.ntmps17
  have HC1 : Hid (∀ j, j < 2 → ((w.alloc (.cells #[.int .u8 66, .int .u8 74] 5 (2, 3))).alloc (.cells #[.int .u8 (kn : Int)] 5)).cell? ((⟨w.heap.size, 0, none⟩ : Addr).add j) = some (.int .u8 (((([66, 74] : List UInt8).getD j 0).toNat : Nat) : Int))) := hide (fun j hj => by
    have hb1 : Below (w.heap.size + 1) (w.alloc (.cells #[.int .u8 66, .int .u8 74] 5 (2, 3))) ((w.alloc (.cells #[.int .u8 66, .int .u8 74] 5 (2, 3))).alloc (.cells #[.int .u8 (kn : Int)] 5)) := (Below.refl _ _).alloc (by simp) _
    rw [Addr.add_lit, Nat.zero_add, hb1.cell (p := ⟨w.heap.size, j, none⟩) (Nat.lt_succ_self _), cell_marked]
    match j, hj with
    | 0, _ => rfl
    | 1, _ => rfl)
  have HC2 : Hid (∀ j, j < 1 → ((w.alloc (.cells #[.int .u8 66, .int .u8 74] 5 (2, 3))).alloc (.cells #[.int .u8 (kn : Int)] 5)).cell? ((⟨w.heap.size + 1, 0, none⟩ : Addr).add j) = some (.int .u8 ((((([k] : List UInt8).getD j 0).toNat : Nat) : Int)))) := hide (fun j hj => by
    obtain rfl : j = 0 := by omega
    rw [Addr.add_lit]
    have := cell_fresh (w.alloc (.cells #[.int .u8 66, .int .u8 74] 5 (2, 3))) #[.int .u8 (kn : Int)] 5 0
    rw [World.size_alloc] at this
    rw [this, unhide HKN]
    rfl)
  go_wp2_with (refine wpList_appFull rfl _ _ rfl ⟨w.heap.size, 0, none⟩ [66, 74] 2 rfl rfl (unhide HC1) ⟨w.heap.size + 1, 0, none⟩ 1 1 [k] rfl rfl (unhide HC2) (by omega) (by omega) ?_)
  intro v1 w1 hO1 hb1
  have HO1 : Hid (Own w.heap.size w1 v1 [66, 74, k]) := hide (hO1.lower (by omega))
  have Hb1 : Hid (Below w.heap.size w w1) := hide (((((Below.refl _ w).alloc (Nat.le_refl _) _).alloc (by simp) _)).trans (hb1.mono (by omega)))
  clear hO1 hb1 HC1 HC2 HBJ
  have H2 := hide (rfix_walk s hs 8 w1)
  go_wp2_with fail
  refine (unhide H2).mono ?_
  rintro e w2 ⟨v2, rfl, hO2, hb2⟩
  have HR2 := hide (hO2.row (by rw [fixedL_length]; exact Nat.le_trans (sizeN_le _) (by decide)))
  have HO2 := hide ((unhide HO1).keepB hb2)
  have Hb2 := hide ((unhide Hb1).trans (hb2.mono (unhide Hb1).size))
  clear hO2 hb2 H2 HO1 Hb1
  go_wp2_with (refine wpList_appRow rfl _ _ rfl w.heap.size w2.heap.size _ [66, 74, k] rfl (unhide HO2) _ rfl (fixedL s (sizeN 8)) (unhide HR2) ?_ ?_ ?_)
  · rw [fixedL_length]; show 3 + 8 ≤ _; omega
  · exact (unhide Hb2).size
  intro v3 w3 hO3 hg3
  have Hb3 := hide ((unhide Hb2).trans ((unhide HO2).below hg3 (unhide Hb2).size))
  have HO3 := hide hO3
  clear hO3 hg3 HO2 Hb2 HR2
  have H3 := hide (rfix_walk blen (by omega) 2 w3)
  go_wp2_with fail
  refine (unhide H3).mono ?_
  rintro e w4 ⟨v4, rfl, hO4, hb4⟩
  have HR4 := hide (hO4.row (by rw [fixedL_length]; exact Nat.le_trans (sizeN_le _) (by decide)))
  have HO4 := hide ((unhide HO3).keepB hb4)
  have Hb4 := hide ((unhide Hb3).trans (hb4.mono (unhide Hb3).size))
  clear hO4 hb4 H3 HO3 Hb3
  go_wp2_with (refine wpList_appRow rfl _ _ rfl w.heap.size w4.heap.size _ ([66, 74, k] ++ fixedL s (sizeN 8)) rfl (unhide HO4) _ rfl (fixedL blen (sizeN 2)) (unhide HR4) ?_ ?_ ?_)
  · rw [List.length_append, fixedL_length, fixedL_length]; show 3 + 8 + 2 ≤ _; omega
  · exact (unhide Hb4).size
  intro v5 w5 hO5 hg5
  have Hb5 := hide ((unhide Hb4).trans ((unhide HO4).below hg5 (unhide Hb4).size))
  have HO5 := hide hO5
  clear hO5 hg5 HO4 Hb4 HR4
  have HR5 := hide ((unhide HR).below ((unhide Hb5).mono hN))
  go_wp2_with (refine wpList_appRow rfl _ _ rfl w.heap.size N _ ([66, 74, k] ++ fixedL s (sizeN 8) ++ fixedL blen (sizeN 2)) rfl (unhide HO5) _ rfl b (unhide HR5) ?_ ?_ ?_)
  · rw [List.length_append, List.length_append, fixedL_length, fixedL_length, unhide HBL]; show 3 + 8 + 2 + blen ≤ _; omega
  · exact (unhide Hb5).size
  intro v6 w6 hO6 hg6
  have Hb6 := hide ((unhide Hb5).trans ((unhide HO5).below hg6 (unhide Hb5).size))
  have HE : (66 :: 74 :: k :: (fixedL s (sizeN 8) ++ (fixedL blen (sizeN 2) ++ b)) : List UInt8) = headF k s b := by
    unfold headF h13
    rw [one_byte, unhide HBL]
    simp only [List.append_assoc, List.cons_append, List.nil_append]
    rfl
  rw [HE] at hO6
  have hl6 : (headF k s b).length = 13 + blen := by rw [headF_length, unhide HBL]
  have HO6 := hide hO6
  have hr6 := hO6.row (by omega)
  have HR6 := hide hr6
  clear hO6 hg6 HO5 Hb5 HR5 HE
  obtain ⟨a6, l6, c6, rfl, _, _, _, hrow6⟩ := hr6
  have H4 := hide (Ref.ref_any a6 l6 c6 _ w6 (crow hrow6))
  have hcr := crcN_lt (headF k s b)
  have HCR : Hid (N32 (Crc.more 0#32 (bv (headF k s b))) = ((crcN (headF k s b) : Nat) : Int)) := hide (by unfold N32 crcN; rfl)
  have HROW : Hid (headF k s b ++ fixedL (crcN (headF k s b)) (sizeN 4) = rowF k s b) := hide (by unfold rowF; rw [show sizeN 4 = 4 from rfl])
  clear hrow6
  generalize N32 (Crc.more 0#32 (bv (headF k s b))) = cz at *
  have hcz := unhide HCR
  generalize crcN (headF k s b) = cn at *
  subst hcz
  go_wp2_with fail
  refine (unhide H4).mono ?_
  rintro e w7 ⟨rfl, hb7⟩
  have HO7 := hide ((unhide HO6).keepB hb7)
  have Hb7 := hide ((unhide Hb6).trans (hb7.mono (unhide Hb6).size))
  have H5 := hide (rfix_walk cn (by omega) 4 w7)
  clear hb7 H4 HO6 Hb6
  go_wp2_with fail
  refine (unhide H5).mono ?_
  rintro e w8 ⟨v8, rfl, hO8, hb8⟩
  have HR8 := hide (hO8.row (by rw [fixedL_length]; exact Nat.le_trans (sizeN_le _) (by decide)))
  have HO8 := hide ((unhide HO7).keepB hb8)
  have Hb8 := hide ((unhide Hb7).trans (hb8.mono (unhide Hb7).size))
  clear hO8 hb8 H5 HO7 Hb7
  go_wp2_with (refine wpList_appRow rfl _ _ rfl w.heap.size w8.heap.size _ (headF k s b) rfl (unhide HO8) _ rfl (fixedL cn (sizeN 4)) (unhide HR8) ?_ ?_ ?_)
  · rw [fixedL_length, hl6]; show 13 + blen + 4 ≤ _; omega
  · exact (unhide Hb8).size
  intro v9 w9 hO9 hg9
  rw [unhide HROW] at hO9
  have Hb9 := hide ((unhide Hb8).trans ((unhide HO8).below hg9 (unhide Hb8).size))
  have HO9 := hide hO9
  have hrl : (rowF k s b).length = 17 + blen := by rw [rowF_length, unhide HBL]
  obtain ⟨q, hq⟩ : ∃ q, q = 63 * cutN (rowF k s b) - (rowF k s b).length := ⟨_, rfl⟩
  have hq2 : q = 63 * ((17 + blen + 62) / 63) - (17 + blen) := by rw [hq, cutN, hrl]
  have HF : Hid (fillF (rowF k s b) = rowF k s b ++ List.replicate q 255) := hide (by unfold fillF; rw [hq])
  clear hO9 hg9 HO8 Hb8 HR8 hq HROW hl6 hcr HCR
  generalize hout : fillF (rowF k s b) = out at *
  have HOUT := hide hout
  clear hout
  generalize hrr : rowF k s b = r at *
  have HRR := hide hrr
  clear hrr
  go_wp2_with fail
  go_loopw [7] (fun co wr => ∃ j : Nat, j ≤ q ∧ Own w.heap.size wr co (r ++ List.replicate j 255) ∧ Below w.heap.size w wr) (fun co _ => 5000 - lenV co)
  case atStart => exact ⟨0, by omega, by simpa using unhide HO9, unhide Hb9⟩
  case round =>
    obtain ⟨j, hj, hO, hb⟩ := hrel
    have hL : (r ++ List.replicate j 255).length = 17 + blen + j := by rw [List.length_append, List.length_replicate, hrl]
    have HO := hide hO
    have Hb := hide hb
    have hO' := hO
    obtain ⟨a, cap, rfl, _, _⟩ := owns_slice hO'
    rw [hL]
    clear hO hb hO'
    have HOF : Hid (Own w.heap.size wr (.slice a (17 + blen + j) cap) (r ++ List.replicate j 255)) := hide (by
      have := unhide HO
      rwa [hL] at this)
    obtain ⟨L, hLL⟩ : ∃ L, L = 17 + blen + j := ⟨_, rfl⟩
    rw [← hLL] at HOF hL ⊢
    have htm : ((L : Nat) : Int).tmod 63 = ((L % 63 : Nat) : Int) := Int.tmod_eq_emod_of_nonneg (by omega)
    clear HO
    by_cases hjq : j < q
    · obtain ⟨m, hm⟩ : ∃ m : Nat, m = L % 63 := ⟨_, rfl⟩
      have hm0 : ¬ ((m : Int) = 0) := by omega
      rw [← hm] at htm
      have hLb : L ≤ 6000 := by omega
      have HLL := hide hLL
      have HLJ := hide hL
      have HQ := hide hq2
      clear hm hLL hL hq2
      go_wp2_with (refine wpList_app rfl _ _ rfl w.heap.size _ (r ++ List.replicate j 255) rfl ((unhide HOF).keep fun k hk => Below.heap_alloc _ _ _ hk) ⟨_, 0, none⟩ 1 1 rfl [255] rfl ?_ ?_ ?_ ?_)
      · intro j hj
        obtain rfl : j = 0 := by omega
        rw [Addr.add_lit, cell_fresh]
        rfl
      · rw [unhide HLJ]; show L + 1 ≤ _; omega
      · have := (unhide Hb).size; simp; omega
      · intro v' w' hO' hG
        have hb' := (unhide Hb).trans (((Below.refl w.heap.size wr).alloc (unhide Hb).size _).trans (((unhide HOF).keep fun k hk => Below.heap_alloc _ _ _ hk).below hG (by have := (unhide Hb).size; simp; omega)))
        have HO' : Hid (Own w.heap.size w' v' (r ++ List.replicate (j + 1) 255)) := hide (by
          have e : (r ++ List.replicate (j + 1) 255 : List UInt8) = r ++ (List.replicate j 255 ++ [255]) := by rw [List.replicate_succ']
          rw [e]; exact hO')
        obtain ⟨a', cap', rfl, _, _⟩ := owns_slice (unhide HO')
        have hL2 : (r ++ List.replicate (j + 1) 255 : List UInt8).length = L + 1 := by rw [List.length_append, List.length_replicate, hrl, unhide HLL]; omega
        have HL2 := hide hL2
        have Hb' := hide hb'
        clear hO' hG hL2 hb'
        go_wp2
        go_roundw
        case rel => exact ⟨j + 1, by omega, unhide HO', unhide Hb'⟩
        case measure =>
          have h1 := unhide HLL
          have h2 := unhide HQ
          rw [unhide HL2]
          simp [lenV]
          omega
    · obtain rfl : j = q := by omega
      have hm0 : L % 63 = 0 := by omega
      rw [hm0] at htm
      have HR9 : Hid (Own w.heap.size wr (.slice a L cap) out) := hide (by rw [unhide HF]; exact unhide HOF)
      have hLb : L ≤ 6000 := by omega
      clear HOF hL hLL hq2 hm0
      go_wp2
      go_ret
      refine ⟨_, rfl, ?_, unhide Hb⟩
      rw [unhide HRR, unhide HOUT]
      exact unhide HR9

set_option maxHeartbeats 1600000 in
set_option maxRecDepth 100000 in
theorem bytes_walk (N : Nat) (k : UInt8) (s : Nat) (hs : s < 18446744073709551616) (v : Value) (b : List UInt8) (w : World) (hN : N ≤ w.heap.size) (hr : RowV N w v b) (hb : b.length ≤ 4000) :
    Calls Try.prog 11 #[.int .u8 ((k.toNat : Nat) : Int), .int .u64 (s : Int), v] w fun e w' => ∃ v', e = .returned v' ∧ Own w.heap.size w' v' (bytesD k s b) ∧ Below w.heap.size w w' := by
  have hk := k.toNat_lt
  have H1 := hide (fun w' (hb' : Below N w w') (hz : N ≤ w'.heap.size) => plain_walk N k s hs v b w' hz (hr.below hb') hb)
  have hpl : (fillF (rowF k s b)).length = 63 * cutN (rowF k s b) := fillF_length _
  have hcn := cutN_row hb k s
  have hsz := sizeF_le (b.length : Int)
  obtain ⟨ba, blen, bcap, rfl, q1, q2, q3, hrow⟩ := hr
  have HB0 : Hid (Below w.heap.size w (w.alloc (.cells #[] 5))) := hide ((Below.refl _ _).alloc (Nat.le_refl _) _)
  have HE := hide (Own.empty w)
  unfold bytesD
  generalize fillF (rowF k s b) = p at *
  have hpb : p.length ≤ 4032 := by omega
  have hp0 : 0 < p.length := by have := sizeF_one hb; omega
  clear hrow hpl hcn hsz hb
  go_enter Try.func11, Try.ntmps11
  go_wp2_with fail
  refine (unhide H1 _ ((unhide HB0).mono hN) (Nat.le_trans hN (unhide HB0).size)).mono ?_
  rintro e w1 ⟨v1, rfl, hO1, hb1⟩
  obtain ⟨a1, len, c1, rfl, hc1, hc2, _, hrow1⟩ := hO1.row (by omega)
  have hlen : p.length = len := hrow1.1
  have HR1 := hide hrow1
  have HE1 : Hid (OwnE w1.heap.size w1 (.slice (some ⟨w.heap.size, 0, none⟩) 0 0) []) := hide (.inr ⟨rfl, _, rfl⟩)
  have hz1 := (unhide HB0).size
  have hz2 := hb1.size
  have hz : w.heap.size ≤ w1.heap.size := by omega
  have Hb1 := hide ((unhide HB0).trans (hb1.mono (unhide HB0).size))
  have hlb : len ≤ 4032 := by omega
  have hl0 : 0 < len := by omega
  have HLEN := hide hlen
  clear hO1 hb1 H1 HB0 HE hlen hpb hrow1 hz1 hz2 hp0
  go_wp2_with fail
  go_loopw [7, 16] (fun co ci wr => ∃ j : Nat, j ≤ len ∧ ci = .int .i64 (j : Int) ∧ OwnE w1.heap.size wr co (zin 0 (p.take j)) ∧ Below w1.heap.size w1 wr) (fun _ ci _ => len - (intOf ci).toNat)
  case atStart => exact ⟨0, by omega, rfl, by simpa [zin] using unhide HE1, Below.refl _ _⟩
  case round =>
    obtain ⟨j, hj, rfl, hO, hb⟩ := hrel
    by_cases hlt : j < len
    · obtain ⟨b', off, rfl, hbN, hcell⟩ := ((unhide HR1).below hb).2.2 j hlt
      have hts := take_snoc 0 p j (by rw [unhide HLEN]; exact hlt)
      have hzs := zin_snoc (p.take j) (p.getD j 0)
      rw [← hts, List.length_take, Nat.min_eq_left (by rw [unhide HLEN]; omega)] at hzs
      have hzl := zin_le (p.take j) 0
      rw [List.length_take, Nat.min_eq_left (by rw [unhide HLEN]; omega)] at hzl
      have hx8 := (p.getD j 0).toNat_lt
      generalize p.getD j 0 = x at *
      generalize zin 0 (p.take j) = acc at *
      have HZ := hide hzs
      have HO := hide hO
      have Hb := hide hb
      have htm : ((j : Nat) : Int).tmod 63 = ((j % 63 : Nat) : Int) := Int.tmod_eq_emod_of_nonneg (by omega)
      have hzl2 : acc.length ≤ 10000 := by omega
      clear hts hzs hzl hO hb
      go_wp2_with (refine wpList_appE rfl _ _ rfl w1.heap.size _ acc rfl ((unhide HO).alloc _) ⟨_, 0, none⟩ 1 1 [x] rfl rfl ?_ (by omega) (by omega) ?_ ?_)
      · intro j hj
        obtain rfl : j = 0 := by omega
        rw [Addr.add_lit, cell_fresh]
        rfl
      · have := (unhide Hb).size; simp; omega
      intro v2 w2 hO2 hb2
      have HO2 := hide hO2
      have Hb2 : Hid (Below w1.heap.size w1 w2) := hide (((unhide Hb).alloc (unhide Hb).size _).trans hb2)
      clear hO2 hb2
      by_cases hm : j % 63 = 62
      · rw [hm] at htm
        have HZ2 : Hid (zin 0 (p.take (j + 1)) = acc ++ [x] ++ [0]) := hide (by rw [unhide HZ, if_pos hm]; simp)
        clear hm
        go_wp2_with (refine wpList_appE rfl _ _ rfl w1.heap.size _ (acc ++ [x]) rfl (OwnE.alloc (.inl (unhide HO2)) _) ⟨_, 0, none⟩ 1 1 [0] rfl rfl ?_ (by omega) ?_ ?_ ?_)
        · intro j hj
          obtain rfl : j = 0 := by omega
          rw [Addr.add_lit, cell_fresh]
          rfl
        · rw [List.length_append]; show acc.length + 1 + 1 ≤ _; omega
        · have := (unhide Hb2).size; simp; omega
        intro v3 w3 hO3 hb3
        have HO3 := hide hO3
        have Hb3 : Hid (Below w1.heap.size w1 w3) := hide (((unhide Hb2).alloc (unhide Hb2).size _).trans hb3)
        clear hO3 hb3
        go_wp2
        go_roundw
        case rel =>
          refine ⟨j + 1, by omega, by go_num, .inl ?_, unhide Hb3⟩
          rw [unhide HZ2]
          have := unhide HO3
          simpa using this
        case measure => simp [intOf]; omega
      · obtain ⟨m, hmm⟩ : ∃ m : Nat, m = j % 63 := ⟨_, rfl⟩
        rw [← hmm] at htm
        have hm0 : ¬ ((m : Int) = 62) := by omega
        have HZ2 : Hid (zin 0 (p.take (j + 1)) = acc ++ [x]) := hide (by rw [unhide HZ, if_neg hm])
        clear hm hmm
        go_wp2
        go_roundw
        case rel =>
          refine ⟨j + 1, by omega, by go_num, .inl ?_, unhide Hb2⟩
          rw [unhide HZ2]
          exact unhide HO2
        case measure => simp [intOf]; omega
    · obtain rfl : j = len := by omega
      rw [List.take_of_length_le (by rw [unhide HLEN]; exact Nat.le_refl _)] at hO
      have HO : Hid (Own w1.heap.size wr _ (zin 0 p)) := hide (by
        rcases hO with h | ⟨h, _⟩
        · exact h
        · exact absurd h (zin_ne (by rw [unhide HLEN]; exact hl0)))
      have Hb := hide ((unhide Hb1).trans (hb.mono hz))
      clear hO hb
      go_wp2
      go_ret
      refine ⟨_, rfl, ?_, unhide Hb⟩
      exact (unhide HO).lower hz
end Go.Proofs.Ytkcchadecnkgnaa
