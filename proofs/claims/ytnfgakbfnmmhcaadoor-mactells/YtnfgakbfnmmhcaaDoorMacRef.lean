/-
  What bootjackref03.Sum answers: HMAC of the key and the bytes.
-/
import Derived.Test.YtnfgakbfnmmhcaaDoorMac
import Derived.Test.YtnfgakbfnmmhcaaDoorRefWalk
namespace Go.Proofs.YtnfgakbfnmmhcaaDoor
open Go.RowKit

theorem owned_grown {w w' : World} {base e size g n cap c : Nat} {xs : List Value} (h : w.ownsRow base e size (.slice (some ⟨g, 0, none⟩) n cap) n xs) (hg : w.grownBy w' (some c)) (hne : g ≠ c) : w'.ownsRow base e size (.slice (some ⟨g, 0, none⟩) n cap) n xs := by
  have hlt := owned_lt h
  obtain ⟨h1, h2⟩ := h
  refine ⟨h1, ?_⟩
  rcases h2 with h2 | ⟨g', cap', cur, hv, hg', hh, r⟩
  · exact .inl h2
  · refine .inr ⟨g', cap', cur, hv, hg', ?_, r⟩
    simp at hv
    obtain ⟨rfl, rfl⟩ := hv
    rw [hg.block g hlt (by simpa using hne)]; exact hh

namespace Mac
theorem turned_snoc (b : List (BitVec 8)) (x : BitVec 8) (k : Nat) (h : k < b.length) : turned (b.take (k + 1)) x = turned (b.take k) x ++ [b.getD k 0 ^^^ x] := by
  rw [take_snoc b k h]; simp only [turned, List.map_append, List.map_cons, List.map_nil]
theorem block_in (k : List (BitVec 8)) (i : Nat) (h : i < (key k).length) : (block k).getD i 0 = (key k).getD i 0 := by
  unfold block
  rw [List.getD_eq_getElem?_getD, List.getElem?_append_left h, ← List.getD_eq_getElem?_getD]
theorem block_out (k : List (BitVec 8)) (i : Nat) (h : (key k).length ≤ i) : (block k).getD i 0 = 0#8 := by
  unfold block
  rw [List.getD_eq_getElem?_getD, List.getElem?_append_right h, List.getElem?_replicate]
  split <;> rfl
end Mac

set_option maxRecDepth 100000 in
set_option maxHeartbeats 3200000 in
theorem mref_any (a : Option Addr) (len cap : Nat) (key : List (BitVec 8)) (aB : Option Addr) (lenB capB : Nat) (B : List (BitVec 8)) (w : World) (hk : Row w a len key) (hnil : a = none → cap = 0) (hB : Row w aB lenB B) (hnilB : aB = none → capB = 0) (hlen : len ≤ 500) (hlenB : lenB ≤ 1000) :
    Calls Tryd.prog 7 #[.slice a len cap, .slice aB lenB capB] w fun e w' => e = .returned (.agg (bytesV (Mac.sum key B)).toArray) ∧ Below w.heap.size w w' := by
  have Hk := hide hk
  have Hnil := hide hnil
  have HB := hide hB
  have HnilB := hide hnilB
  have HlB := hide hB.1
  have Hl := hide hk.1
  clear hk hnil hB hnilB
  go_enter Tryd.func7, Tryd.ntmps7
  go_wp2_with (refine wpList_alloc 25 25 (bytesV zerosB) rfl rfl alloc25 ?_)
  intro w1 hA1 hb1 hs1
  have HA1 := hide hA1
  have Hb1 := hide hb1
  have Hk1 := hide ((unhide Hk).below hb1)
  have HB1 := hide ((unhide HB).below hb1)
  have hw1 : w.heap.size < w1.heap.size := by omega
  clear hA1 hb1 hs1
  have Hbl := hide (Mac.block_length key)
  have Hsum : Hid (Mac.sum key B = Sha.sum (Mac.turned (Mac.block key) 92#8 ++ Sha.sum (Mac.turned (Mac.block key) 54#8 ++ B))) := rfl
  by_cases hlt : 64 < len
  · have Hkey : Hid (Mac.key key = Sha.sum key) := by show _ = _; unfold Mac.key; rw [if_pos (by rw [unhide Hl]; exact hlt)]
    go_wp2_with fail
    refine (ref_any a len cap key _ (unhide Hk1) (unhide Hnil) (by omega)).mono ?_
    rintro e w2 ⟨rfl, hb2⟩
    have HA2 := hide ((unhide HA1).below hb2)
    have HB2 := hide ((unhide HB1).below hb2)
    have hw2 : w.heap.size < w2.heap.size := Nat.lt_of_lt_of_le hw1 hb2.size
    have Hb2 := hide ((unhide Hb1).trans (hb2.mono (unhide Hb1).size))
    clear hb2 HA1 HB1 Hb1 Hk1
    have Hsl : Hid ((bytesV (Sha.sum key)).length = 32) := by show _ = _; rw [bytesV_length, Sha.sum_length]
    have Hso := hide (bytesV_one (Sha.sum key))
    have Hss := hide (Sha.sum_length key)
    generalize Sha.sum key = ks at *
    go_wp2_with (refine wpList_alloc 25 25 (bytesV zerosB) rfl rfl alloc25 ?_)
    intro w3 hA3 hb3 hs3
    obtain ⟨b5, hb5⟩ : ∃ b, b = w2.heap.size := ⟨_, rfl⟩
    have HR3 := hide ((unhide HA2).below hb3)
    have HB3 := hide ((unhide HB2).below hb3)
    have Hb3 := hide ((unhide Hb2).trans (hb3.mono (unhide Hb2).size))
    rw [← hb5] at hA3 hs3 hw2 ⊢
    have HA3 := hide hA3
    clear hA3 hb3 hb5 HA2 HB2 Hb2
    go_wp2_with (refine wpList_storeAll 25 _ _ b5 (bytesV ks) (bytesV zerosB) rfl rfl rfl rfl (unhide HA3) (by rw [unhide Hsl]; rfl) (by rw [unhide Hsl]; exact info25) (unhide Hso) ?_)
    intro wK hA4 hg4 hs4
    have HRK := hide ((unhide HR3).grown hg4 (by simp; omega))
    have HBK : Hid (Row wK aB lenB B) := (unhide HB).below ((unhide Hb3).grown hg4 (unhide Hb3).size (fun k hk => by simp at hk; omega))
    have HbK := hide ((unhide Hb3).grown hg4 (unhide Hb3).size (fun k hk => by simp at hk; omega))
    have HKK : Hid (Row wK (some ⟨b5, 0, none⟩) 32 ks) := by
      have := Arr.row (rest := []) (by rw [List.append_nil]; exact hA4) (by rw [unhide Hss]; decide)
      rw [unhide Hss] at this
      exact this
    have hwK : w.heap.size < wK.heap.size := by omega
    clear hA4 hg4 HR3 HB3 Hb3 HA3 hs3 hs4
    have hL64 : (32 : Nat) ≤ 64 := by decide
    have HlK : Hid ((Mac.key key).length = 32) := by show _ = _; rw [unhide Hkey]; exact (unhide HKK).1
    have Hblkin : Hid (∀ i, i < 32 → (Mac.block key).getD i 0 = ks.getD i 0) := by
      show ∀ i, i < 32 → _
      intro i hi
      rw [Mac.block_in key i (by rw [unhide HlK]; exact hi), unhide Hkey]
    have Hblkout : Hid (∀ i, 32 ≤ i → (Mac.block key).getD i 0 = 0#8) := by
      show ∀ i, 32 ≤ i → _
      intro i hi
      exact Mac.block_out key i (by rw [unhide HlK]; exact hi)
    obtain ⟨blk, hblk⟩ : ∃ b, b = Mac.block key := ⟨_, rfl⟩
    rw [← hblk] at Hbl Hsum Hblkin Hblkout
    clear hblk HlK Hkey
    obtain ⟨base, hbase⟩ : ∃ b, b = wK.heap.size := ⟨_, rfl⟩
    have hwb : w.heap.size < base := by omega
    have Ho6 := hide (owned_alloc (owned_fresh wK base (by omega)) (.cells #[] 5))
    have Ho7' := owned_fresh (wK.alloc (.cells #[] 5)) base (by simp; omega)
    rw [show (wK.alloc (.cells #[] 5)).heap.size = base + 1 by simp; omega] at Ho7'
    have Ho7 := hide Ho7'
    rw [← hbase] at Ho6
    have HbR := hide (((Below.refl base wK).alloc (by omega) (.cells #[] 5)).alloc (by simp; omega) (.cells #[] 5))
    have Hbase := hide hbase
    have hsz2 : ((wK.alloc (.cells #[] 5)).alloc (.cells #[] 5)).heap.size = base + 2 := by simp; omega
    have Hsz2 := hide hsz2
    clear Ho7' hbase hwK hsz2
    go_wp2_with fail
    rw [← unhide Hbase]
    obtain ⟨w0, hw0⟩ : ∃ w', w' = (wK.alloc (.cells #[] 5)).alloc (.cells #[] 5) := ⟨_, rfl⟩
    rw [← hw0] at Ho6 Ho7 HbR Hsz2 ⊢
    clear hw0
    go_loopw [6, 7, 8] (fun si so i wr => ∃ k gi ci go co : Nat, k ≤ 64 ∧ i = .int .i64 k ∧ si = .slice (some ⟨gi, 0, none⟩) k ci ∧ so = .slice (some ⟨go, 0, none⟩) k co ∧ wr.ownsRow base 5 1 (.slice (some ⟨gi, 0, none⟩) k ci) k (bytesV (Mac.turned (blk.take k) 54#8)) ∧ wr.ownsRow base 5 1 (.slice (some ⟨go, 0, none⟩) k co) k (bytesV (Mac.turned (blk.take k) 92#8)) ∧ gi ≠ go ∧ Below base wK wr ∧ base ≤ wr.heap.size) (fun _ _ i _ => 64 - (intOf i).toNat)
    case atStart => exact ⟨0, base, 0, base + 1, 0, by omega, rfl, rfl, rfl, unhide Ho6, unhide Ho7, by omega, unhide HbR, by rw [unhide Hsz2]; omega⟩
    case round =>
      obtain ⟨k, gi, ci, go, co, hk, rfl, rfl, rfl, hoi, hoo, hne, hb, hszr⟩ := hrel
      clear Ho6 Ho7 HbR Hsz2
      have Hoi := hide hoi
      have Hoo := hide hoo
      have Hb := hide hb
      have hgi := owned_base hoi
      have hgo := owned_base hoo
      have hgil := owned_lt hoi
      have hgol := owned_lt hoo
      clear hoi hoo hb
      by_cases hk64 : k < 64
      · have H54 := hide (Mac.turned_snoc blk 54#8 k (by rw [unhide Hbl]; exact hk64))
        have H92 := hide (Mac.turned_snoc blk 92#8 k (by rw [unhide Hbl]; exact hk64))
        by_cases hkl : k < 32
        · obtain ⟨kb, ko, hka, hkc⟩ := (unhide HKK).2.2 k hkl
          have hka' : kb < wK.heap.size := lt_of_cell hkc
          have hkc' := (unhide Hb).cell (p := ⟨kb, ko + k, none⟩) (by rw [unhide Hbase]; exact hka') |>.trans hkc
          cases hka
          rw [Nat.zero_add] at hkc'
          rw [← unhide Hblkin k hkl] at hkc'
          generalize blk.getD k 0 = c at *
          have Hx54 : Hid (bits .xor .u8 ((c.toNat : Nat) : Int) 54 = (((c ^^^ 54#8).toNat : Nat) : Int)) := xor8 c 54#8
          have Hx92 : Hid (bits .xor .u8 ((c.toNat : Nat) : Int) 92 = (((c ^^^ 92#8).toNat : Nat) : Int)) := xor8 c 92#8
          clear hkc hka'
          go_wp2_with (refine wpList_grow _ _ rfl rfl base gi k ci (bytesV (Mac.turned (blk.take k) 54#8)) (some ⟨wr.heap.size, 0, none⟩) 1 1 [c ^^^ 54#8] rfl rfl (owned_alloc (unhide Hoi) _) (row_one (by rw [cell_new]; exact congrArg some (congrArg (Value.int .u8) (unhide Hx54)))) (fun h => by cases h) (by omega) (by simp; omega) ?_)
          intro g4 cap4 w4 ho4 hg4 hor4
          have hsz4 : base ≤ w4.heap.size := by have := hg4.size; simp at this; omega
          have hsz4' : wr.heap.size < w4.heap.size := by have := hg4.size; simp at this; omega
          have hb4 : Below base wr w4 := ((Below.refl _ _).alloc hszr _).grown hg4 (by simp; omega) (fun k hk => by simp at hk; omega)
          have Hb4 := hide ((unhide Hb).trans hb4)
          have Hoo4 := hide (owned_grown (owned_alloc (unhide Hoo) _) hg4 (by omega))
          have hne4 : g4 ≠ go := by rcases hor4 with h | h <;> omega
          have ho4' : w4.ownsRow base 5 1 (.slice (some ⟨g4, 0, none⟩) (k + 1) cap4) (k + 1) (bytesV (Mac.turned (blk.take (k + 1)) 54#8)) := by
            rw [unhide H54, show bytesV (Mac.turned (blk.take k) 54#8 ++ [c ^^^ 54#8]) = bytesV (Mac.turned (blk.take k) 54#8) ++ bytesV [c ^^^ 54#8] by simp [bytesV]]; exact ho4
          have Ho4 := hide ho4'
          have hg4l := owned_lt ho4'
          clear ho4 ho4' hg4 hor4 hb4 Hoi Hoo Hb hszr hgil hgol
          go_wp2_with (refine wpList_grow _ _ rfl rfl base go k co (bytesV (Mac.turned (blk.take k) 92#8)) (some ⟨w4.heap.size, 0, none⟩) 1 1 [c ^^^ 92#8] rfl rfl (owned_alloc (unhide Hoo4) _) (row_one (by rw [cell_new]; exact congrArg some (congrArg (Value.int .u8) (unhide Hx92)))) (fun h => by cases h) (by omega) (by simp; omega) ?_)
          intro g5 cap5 w5 ho5 hg5 hor5
          have hsz5 : base ≤ w5.heap.size := by have := hg5.size; simp at this; omega
          have hb5 : Below base w4 w5 := ((Below.refl _ _).alloc hsz4 _).grown hg5 (by simp; omega) (fun k hk => by simp at hk; omega)
          have Hb5 := hide ((unhide Hb4).trans hb5)
          have Ho5 := hide (owned_grown (owned_alloc (unhide Ho4) _) hg5 (by omega))
          have hne5 : g4 ≠ g5 := by rcases hor5 with h | h <;> omega
          have ho5' : w5.ownsRow base 5 1 (.slice (some ⟨g5, 0, none⟩) (k + 1) cap5) (k + 1) (bytesV (Mac.turned (blk.take (k + 1)) 92#8)) := by
            rw [unhide H92, show bytesV (Mac.turned (blk.take k) 92#8 ++ [c ^^^ 92#8]) = bytesV (Mac.turned (blk.take k) 92#8) ++ bytesV [c ^^^ 92#8] by simp [bytesV]]; exact ho5
          have Hoo5 := hide ho5'
          clear ho5 ho5' hg5 hor5 hb5 Ho4 Hoo4 Hb4
          go_wp2
          go_roundw
          case rel => exact ⟨k + 1, g4, cap4, g5, cap5, by omega, by go_num, rfl, rfl, unhide Ho5, unhide Hoo5, hne5, unhide Hb5, hsz5⟩
          case measure => simp [intOf]; omega
        · have hc0 := unhide Hblkout k (by omega)
          rw [hc0, show (0#8 ^^^ 54#8 : BitVec 8) = 54#8 by decide] at H54
          rw [hc0, show (0#8 ^^^ 92#8 : BitVec 8) = 92#8 by decide] at H92
          clear hc0
          go_wp2_with (refine wpList_grow _ _ rfl rfl base gi k ci (bytesV (Mac.turned (blk.take k) 54#8)) (some ⟨wr.heap.size, 0, none⟩) 1 1 [54#8] rfl rfl (owned_alloc (unhide Hoi) _) (row_one (by rw [cell_new]; exact congrArg some rfl)) (fun h => by cases h) (by omega) (by simp; omega) ?_)
          intro g4 cap4 w4 ho4 hg4 hor4
          have hsz4 : base ≤ w4.heap.size := by have := hg4.size; simp at this; omega
          have hsz4' : wr.heap.size < w4.heap.size := by have := hg4.size; simp at this; omega
          have hb4 : Below base wr w4 := ((Below.refl _ _).alloc hszr _).grown hg4 (by simp; omega) (fun k hk => by simp at hk; omega)
          have Hb4 := hide ((unhide Hb).trans hb4)
          have Hoo4 := hide (owned_grown (owned_alloc (unhide Hoo) _) hg4 (by omega))
          have hne4 : g4 ≠ go := by rcases hor4 with h | h <;> omega
          have ho4' : w4.ownsRow base 5 1 (.slice (some ⟨g4, 0, none⟩) (k + 1) cap4) (k + 1) (bytesV (Mac.turned (blk.take (k + 1)) 54#8)) := by
            rw [unhide H54, show bytesV (Mac.turned (blk.take k) 54#8 ++ [54#8]) = bytesV (Mac.turned (blk.take k) 54#8) ++ bytesV [54#8] by simp [bytesV]]; exact ho4
          have Ho4 := hide ho4'
          have hg4l := owned_lt ho4'
          clear ho4 ho4' hg4 hor4 hb4 Hoi Hoo Hb hszr hgil hgol
          go_wp2_with (refine wpList_grow _ _ rfl rfl base go k co (bytesV (Mac.turned (blk.take k) 92#8)) (some ⟨w4.heap.size, 0, none⟩) 1 1 [92#8] rfl rfl (owned_alloc (unhide Hoo4) _) (row_one (by rw [cell_new]; exact congrArg some rfl)) (fun h => by cases h) (by omega) (by simp; omega) ?_)
          intro g5 cap5 w5 ho5 hg5 hor5
          have hsz5 : base ≤ w5.heap.size := by have := hg5.size; simp at this; omega
          have hb5 : Below base w4 w5 := ((Below.refl _ _).alloc hsz4 _).grown hg5 (by simp; omega) (fun k hk => by simp at hk; omega)
          have Hb5 := hide ((unhide Hb4).trans hb5)
          have Ho5 := hide (owned_grown (owned_alloc (unhide Ho4) _) hg5 (by omega))
          have hne5 : g4 ≠ g5 := by rcases hor5 with h | h <;> omega
          have ho5' : w5.ownsRow base 5 1 (.slice (some ⟨g5, 0, none⟩) (k + 1) cap5) (k + 1) (bytesV (Mac.turned (blk.take (k + 1)) 92#8)) := by
            rw [unhide H92, show bytesV (Mac.turned (blk.take k) 92#8 ++ [92#8]) = bytesV (Mac.turned (blk.take k) 92#8) ++ bytesV [92#8] by simp [bytesV]]; exact ho5
          have Hoo5 := hide ho5'
          clear ho5 ho5' hg5 hor5 hb5 Ho4 Hoo4 Hb4
          go_wp2
          go_roundw
          case rel => exact ⟨k + 1, g4, cap4, g5, cap5, by omega, by go_num, rfl, rfl, unhide Ho5, unhide Hoo5, hne5, unhide Hb5, hsz5⟩
          case measure => simp [intOf]; omega
      · obtain rfl : k = 64 := by omega
        have htk : blk.take 64 = blk := List.take_of_length_le (by rw [unhide Hbl]; omega)
        rw [htk] at Hoi Hoo
        clear htk hk hk64
        have HBr := hide ((unhide HBK).below ((unhide Hb).mono (by rw [unhide Hbase]; omega)))
        have HRr := hide ((unhide HRK).below ((unhide Hb).mono (by rw [unhide Hbase]; omega)))
        have Hbr := hide ((unhide HbK).trans ((unhide Hb).mono (by omega)))
        go_wp2_with (refine wpList_grow _ _ rfl rfl base gi 64 ci (bytesV (Mac.turned blk 54#8)) aB lenB capB B rfl rfl (unhide Hoi) (unhide HBr) (unhide HnilB) (by omega) hszr ?_)
        intro g2 cap2 w2 ho2 hg2 hor2
        have Hoo2 := hide (owned_grown (unhide Hoo) hg2 (by omega))
        have HR2 := hide ((unhide HRr).grown hg2 (by simp; omega))
        have Hb2 := hide ((unhide Hbr).grown hg2 (unhide Hbr).size (fun k hk => by simp at hk; omega))
        have ho2' : w2.ownsRow base 5 1 (.slice (some ⟨g2, 0, none⟩) (64 + lenB) cap2) (64 + lenB) (bytesV (Mac.turned blk 54#8 ++ B)) := by
          rw [show bytesV (Mac.turned blk 54#8 ++ B) = bytesV (Mac.turned blk 54#8) ++ bytesV B by simp [bytesV]]; exact ho2
        have Hrow2 := hide (owned_row ho2' (by rw [List.length_append, Mac.turned_length, unhide Hbl, unhide HlB]) (by omega))
        have hszR2 : base ≤ w2.heap.size := Nat.le_trans hszr hg2.size
        clear ho2 ho2' hg2 hor2 HBr HRr Hbr Hoi Hoo Hb hszr hgil hgol hgi hne
        go_wp2_with fail
        refine (ref_any _ _ _ (Mac.turned blk 54#8 ++ B) _ (unhide Hrow2) (fun h => by cases h) (by omega)).mono ?_
        rintro e w3 ⟨rfl, hb3⟩
        have Hoo3 := hide (owned_keep (unhide Hoo2) hb3 (owned_lt (unhide Hoo2)))
        have HR3 := hide ((unhide HR2).below hb3)
        have hszR3 : base ≤ w3.heap.size := Nat.le_trans hszR2 hb3.size
        have Hb3 := hide ((unhide Hb2).trans (hb3.mono (unhide Hb2).size))
        clear hb3 Hoo2 HR2 Hb2 Hrow2 hszR2
        obtain ⟨S, hS⟩ : ∃ S, S = Sha.sum (Mac.turned blk 54#8 ++ B) := ⟨_, rfl⟩
        have HSl : Hid (S.length = 32) := by show _ = _; rw [hS, Sha.sum_length]
        rw [← hS] at Hsum ⊢
        clear hS
        have Hsl2 : Hid ((bytesV S).length = 32) := by show _ = _; rw [bytesV_length, unhide HSl]
        have Hso2 := hide (bytesV_one S)
        obtain ⟨rs, hrs⟩ : ∃ rs, rs = bytesV S := ⟨_, rfl⟩
        rw [← hrs] at Hsl2 Hso2 ⊢
        have Hrs := hide hrs
        clear hrs
        go_wp2_with (refine wpList_alloc 25 25 (bytesV zerosB) rfl rfl alloc25 ?_)
        intro w4 hA4 hb4 hs4
        obtain ⟨b9, hb9⟩ : ∃ b, b = w3.heap.size := ⟨_, rfl⟩
        have HR4 := hide ((unhide HR3).below hb4)
        have Hoo4 := hide (owned_keep (unhide Hoo3) hb4 (owned_lt (unhide Hoo3)))
        have hgo9 := owned_lt (unhide Hoo3)
        have Hb4 := hide ((unhide Hb3).trans (hb4.mono (unhide Hb3).size))
        rw [← hb9] at hA4 hs4 hszR3 hgo9 ⊢
        have HA4 := hide hA4
        clear hA4 hb4 hb9 HR3 Hoo3 Hb3
        go_wp2_with (refine wpList_storeAll 25 _ _ b9 rs (bytesV zerosB) rfl rfl rfl rfl (unhide HA4) (by rw [unhide Hsl2]; rfl) (by rw [unhide Hsl2]; exact info25) (unhide Hso2) ?_)
        intro w5 hA5 hg5 hs5
        have HR5 := hide ((unhide HR4).grown hg5 (by simp; omega))
        have Hoo5 := hide (owned_grown (unhide Hoo4) hg5 (by omega))
        have Hb5 := hide ((unhide Hb4).grown hg5 (unhide Hb4).size (fun k hk => by simp at hk; omega))
        have Hrow5 : Hid (Row w5 (some ⟨b9, 0, none⟩) 32 S) := by
          have hA5' := hA5
          rw [unhide Hrs] at hA5'
          have := Arr.row (rest := []) (by rw [List.append_nil]; exact hA5') (by rw [unhide HSl]; decide)
          rw [unhide HSl] at this
          exact this
        have hszR5 : base ≤ w5.heap.size := by omega
        clear hA5 hg5 HR4 Hoo4 Hb4 HA4 hs4 hs5
        go_wp2_with (refine wpList_grow _ _ rfl rfl base go 64 co (bytesV (Mac.turned blk 92#8)) (some ⟨b9, 0, none⟩) 32 32 S rfl rfl (unhide Hoo5) (unhide Hrow5) (fun h => by cases h) (by omega) hszR5 ?_)
        intro g6 cap6 w6 ho6 hg6 hor6
        have HR6 := hide ((unhide HR5).grown hg6 (by simp; omega))
        have Hb6 := hide ((unhide Hb5).grown hg6 (unhide Hb5).size (fun k hk => by simp at hk; omega))
        have ho6' : w6.ownsRow base 5 1 (.slice (some ⟨g6, 0, none⟩) (64 + 32) cap6) (64 + 32) (bytesV (Mac.turned blk 92#8 ++ S)) := by
          rw [show bytesV (Mac.turned blk 92#8 ++ S) = bytesV (Mac.turned blk 92#8) ++ bytesV S by simp [bytesV]]; exact ho6
        have Hrow6 : Hid (Row w6 (some ⟨g6, 0, none⟩) 96 (Mac.turned blk 92#8 ++ S)) := owned_row ho6' (by rw [List.length_append, Mac.turned_length, unhide Hbl, unhide HSl]) (by decide)
        clear ho6 ho6' hg6 hor6 HR5 Hoo5 Hb5 Hrow5
        go_wp2_with fail
        refine (ref_any _ _ _ (Mac.turned blk 92#8 ++ S) _ (unhide Hrow6) (fun h => by cases h) (by decide)).mono ?_
        rintro e w7 ⟨rfl, hb7⟩
        rw [← unhide Hsum]
        have HR7 := hide ((unhide HR6).below hb7)
        have Hb7 := hide ((unhide Hb6).trans (hb7.mono (unhide Hb6).size))
        clear hb7 HR6 Hb6 Hrow6
        have Hrl : Hid ((bytesV (Mac.sum key B)).length = 32) := by show _ = _; rw [bytesV_length, Mac.sum_length]
        have Hro := hide (bytesV_one (Mac.sum key B))
        obtain ⟨xs, hxs⟩ : ∃ xs, xs = bytesV (Mac.sum key B) := ⟨_, rfl⟩
        rw [← hxs] at Hrl Hro ⊢
        have Hxs := hide hxs
        clear hxs
        go_wp2_with (refine wpList_storeAll 25 _ _ w.heap.size xs (bytesV zerosB) rfl rfl rfl rfl (unhide HR7) (by rw [unhide Hrl]; rfl) (by rw [unhide Hrl]; exact info25) (unhide Hro) ?_)
        intro w8 hA8 hg8 hs8
        have Hb8 := hide ((unhide Hb7).grown hg8 (unhide Hb7).size (fun k hk => by simp at hk; omega))
        have HA8 := hide hA8
        clear hA8 hg8 hs8 HR7 Hb7
        go_wp2
        have hi : (Tryd.prog.info? 25).map (·.size) = some xs.length := by rw [unhide Hrl]; exact info25
        refine bodyPost_ret (v := .agg xs.toArray) ?_ rfl ⟨by rw [unhide Hxs], unhide Hb8⟩
        exact results_arr Tryd.results7 rfl (unhide HA8) Tryd.underlying25 rfl hi
  · have Hkey : Hid (Mac.key key = key) := by show _ = _; unfold Mac.key; rw [if_neg (by rw [unhide Hl]; exact hlt)]
    obtain ⟨wK, hwk⟩ : ∃ w', w' = w1 := ⟨_, rfl⟩
    rw [← hwk] at HA1 HB1 Hb1 Hk1 hw1
    have HRK := hide (unhide HA1)
    have HBK := hide (unhide HB1)
    have HbK := hide (unhide Hb1)
    have HKK := hide (unhide Hk1)
    have hwK := hw1
    clear HA1 HB1 Hb1 Hk1 hw1
    rw [← hwk]
    clear hwk
    have hL64 : len ≤ 64 := by omega
    have HlK : Hid ((Mac.key key).length = len) := by show _ = _; rw [unhide Hkey]; exact (unhide HKK).1
    have Hblkin : Hid (∀ i, i < len → (Mac.block key).getD i 0 = key.getD i 0) := by
      show ∀ i, i < len → _
      intro i hi
      rw [Mac.block_in key i (by rw [unhide HlK]; exact hi), unhide Hkey]
    have Hblkout : Hid (∀ i, len ≤ i → (Mac.block key).getD i 0 = 0#8) := by
      show ∀ i, len ≤ i → _
      intro i hi
      exact Mac.block_out key i (by rw [unhide HlK]; exact hi)
    obtain ⟨blk, hblk⟩ : ∃ b, b = Mac.block key := ⟨_, rfl⟩
    rw [← hblk] at Hbl Hsum Hblkin Hblkout
    clear hblk HlK Hkey
    obtain ⟨base, hbase⟩ : ∃ b, b = wK.heap.size := ⟨_, rfl⟩
    have hwb : w.heap.size < base := by omega
    have Ho6 := hide (owned_alloc (owned_fresh wK base (by omega)) (.cells #[] 5))
    have Ho7' := owned_fresh (wK.alloc (.cells #[] 5)) base (by simp; omega)
    rw [show (wK.alloc (.cells #[] 5)).heap.size = base + 1 by simp; omega] at Ho7'
    have Ho7 := hide Ho7'
    rw [← hbase] at Ho6
    have HbR := hide (((Below.refl base wK).alloc (by omega) (.cells #[] 5)).alloc (by simp; omega) (.cells #[] 5))
    have Hbase := hide hbase
    have hsz2 : ((wK.alloc (.cells #[] 5)).alloc (.cells #[] 5)).heap.size = base + 2 := by simp; omega
    have Hsz2 := hide hsz2
    clear Ho7' hbase hwK hsz2
    go_wp2_with fail
    rw [← unhide Hbase]
    obtain ⟨w0, hw0⟩ : ∃ w', w' = (wK.alloc (.cells #[] 5)).alloc (.cells #[] 5) := ⟨_, rfl⟩
    rw [← hw0] at Ho6 Ho7 HbR Hsz2 ⊢
    clear hw0
    go_loopw [6, 7, 8] (fun si so i wr => ∃ k gi ci go co : Nat, k ≤ 64 ∧ i = .int .i64 k ∧ si = .slice (some ⟨gi, 0, none⟩) k ci ∧ so = .slice (some ⟨go, 0, none⟩) k co ∧ wr.ownsRow base 5 1 (.slice (some ⟨gi, 0, none⟩) k ci) k (bytesV (Mac.turned (blk.take k) 54#8)) ∧ wr.ownsRow base 5 1 (.slice (some ⟨go, 0, none⟩) k co) k (bytesV (Mac.turned (blk.take k) 92#8)) ∧ gi ≠ go ∧ Below base wK wr ∧ base ≤ wr.heap.size) (fun _ _ i _ => 64 - (intOf i).toNat)
    case atStart => exact ⟨0, base, 0, base + 1, 0, by omega, rfl, rfl, rfl, unhide Ho6, unhide Ho7, by omega, unhide HbR, by rw [unhide Hsz2]; omega⟩
    case round =>
      obtain ⟨k, gi, ci, go, co, hk, rfl, rfl, rfl, hoi, hoo, hne, hb, hszr⟩ := hrel
      clear Ho6 Ho7 HbR Hsz2
      have Hoi := hide hoi
      have Hoo := hide hoo
      have Hb := hide hb
      have hgi := owned_base hoi
      have hgo := owned_base hoo
      have hgil := owned_lt hoi
      have hgol := owned_lt hoo
      clear hoi hoo hb
      by_cases hk64 : k < 64
      · have H54 := hide (Mac.turned_snoc blk 54#8 k (by rw [unhide Hbl]; exact hk64))
        have H92 := hide (Mac.turned_snoc blk 92#8 k (by rw [unhide Hbl]; exact hk64))
        by_cases hkl : k < len
        · obtain ⟨kb, ko, hka, hkc⟩ := (unhide HKK).2.2 k hkl
          have hka' : kb < wK.heap.size := lt_of_cell hkc
          have hkc' := (unhide Hb).cell (p := ⟨kb, ko + k, none⟩) (by rw [unhide Hbase]; exact hka') |>.trans hkc
          subst hka
          rw [← unhide Hblkin k hkl] at hkc'
          generalize blk.getD k 0 = c at *
          have Hx54 : Hid (bits .xor .u8 ((c.toNat : Nat) : Int) 54 = (((c ^^^ 54#8).toNat : Nat) : Int)) := xor8 c 54#8
          have Hx92 : Hid (bits .xor .u8 ((c.toNat : Nat) : Int) 92 = (((c ^^^ 92#8).toNat : Nat) : Int)) := xor8 c 92#8
          clear hkc hka'
          go_wp2_with (refine wpList_grow _ _ rfl rfl base gi k ci (bytesV (Mac.turned (blk.take k) 54#8)) (some ⟨wr.heap.size, 0, none⟩) 1 1 [c ^^^ 54#8] rfl rfl (owned_alloc (unhide Hoi) _) (row_one (by rw [cell_new]; exact congrArg some (congrArg (Value.int .u8) (unhide Hx54)))) (fun h => by cases h) (by omega) (by simp; omega) ?_)
          intro g4 cap4 w4 ho4 hg4 hor4
          have hsz4 : base ≤ w4.heap.size := by have := hg4.size; simp at this; omega
          have hsz4' : wr.heap.size < w4.heap.size := by have := hg4.size; simp at this; omega
          have hb4 : Below base wr w4 := ((Below.refl _ _).alloc hszr _).grown hg4 (by simp; omega) (fun k hk => by simp at hk; omega)
          have Hb4 := hide ((unhide Hb).trans hb4)
          have Hoo4 := hide (owned_grown (owned_alloc (unhide Hoo) _) hg4 (by omega))
          have hne4 : g4 ≠ go := by rcases hor4 with h | h <;> omega
          have ho4' : w4.ownsRow base 5 1 (.slice (some ⟨g4, 0, none⟩) (k + 1) cap4) (k + 1) (bytesV (Mac.turned (blk.take (k + 1)) 54#8)) := by
            rw [unhide H54, show bytesV (Mac.turned (blk.take k) 54#8 ++ [c ^^^ 54#8]) = bytesV (Mac.turned (blk.take k) 54#8) ++ bytesV [c ^^^ 54#8] by simp [bytesV]]; exact ho4
          have Ho4 := hide ho4'
          have hg4l := owned_lt ho4'
          clear ho4 ho4' hg4 hor4 hb4 Hoi Hoo Hb hszr hgil hgol
          go_wp2_with (refine wpList_grow _ _ rfl rfl base go k co (bytesV (Mac.turned (blk.take k) 92#8)) (some ⟨w4.heap.size, 0, none⟩) 1 1 [c ^^^ 92#8] rfl rfl (owned_alloc (unhide Hoo4) _) (row_one (by rw [cell_new]; exact congrArg some (congrArg (Value.int .u8) (unhide Hx92)))) (fun h => by cases h) (by omega) (by simp; omega) ?_)
          intro g5 cap5 w5 ho5 hg5 hor5
          have hsz5 : base ≤ w5.heap.size := by have := hg5.size; simp at this; omega
          have hb5 : Below base w4 w5 := ((Below.refl _ _).alloc hsz4 _).grown hg5 (by simp; omega) (fun k hk => by simp at hk; omega)
          have Hb5 := hide ((unhide Hb4).trans hb5)
          have Ho5 := hide (owned_grown (owned_alloc (unhide Ho4) _) hg5 (by omega))
          have hne5 : g4 ≠ g5 := by rcases hor5 with h | h <;> omega
          have ho5' : w5.ownsRow base 5 1 (.slice (some ⟨g5, 0, none⟩) (k + 1) cap5) (k + 1) (bytesV (Mac.turned (blk.take (k + 1)) 92#8)) := by
            rw [unhide H92, show bytesV (Mac.turned (blk.take k) 92#8 ++ [c ^^^ 92#8]) = bytesV (Mac.turned (blk.take k) 92#8) ++ bytesV [c ^^^ 92#8] by simp [bytesV]]; exact ho5
          have Hoo5 := hide ho5'
          clear ho5 ho5' hg5 hor5 hb5 Ho4 Hoo4 Hb4
          go_wp2
          go_roundw
          case rel => exact ⟨k + 1, g4, cap4, g5, cap5, by omega, by go_num, rfl, rfl, unhide Ho5, unhide Hoo5, hne5, unhide Hb5, hsz5⟩
          case measure => simp [intOf]; omega
        · have hc0 := unhide Hblkout k (by omega)
          rw [hc0, show (0#8 ^^^ 54#8 : BitVec 8) = 54#8 by decide] at H54
          rw [hc0, show (0#8 ^^^ 92#8 : BitVec 8) = 92#8 by decide] at H92
          clear hc0
          go_wp2_with (refine wpList_grow _ _ rfl rfl base gi k ci (bytesV (Mac.turned (blk.take k) 54#8)) (some ⟨wr.heap.size, 0, none⟩) 1 1 [54#8] rfl rfl (owned_alloc (unhide Hoi) _) (row_one (by rw [cell_new]; exact congrArg some rfl)) (fun h => by cases h) (by omega) (by simp; omega) ?_)
          intro g4 cap4 w4 ho4 hg4 hor4
          have hsz4 : base ≤ w4.heap.size := by have := hg4.size; simp at this; omega
          have hsz4' : wr.heap.size < w4.heap.size := by have := hg4.size; simp at this; omega
          have hb4 : Below base wr w4 := ((Below.refl _ _).alloc hszr _).grown hg4 (by simp; omega) (fun k hk => by simp at hk; omega)
          have Hb4 := hide ((unhide Hb).trans hb4)
          have Hoo4 := hide (owned_grown (owned_alloc (unhide Hoo) _) hg4 (by omega))
          have hne4 : g4 ≠ go := by rcases hor4 with h | h <;> omega
          have ho4' : w4.ownsRow base 5 1 (.slice (some ⟨g4, 0, none⟩) (k + 1) cap4) (k + 1) (bytesV (Mac.turned (blk.take (k + 1)) 54#8)) := by
            rw [unhide H54, show bytesV (Mac.turned (blk.take k) 54#8 ++ [54#8]) = bytesV (Mac.turned (blk.take k) 54#8) ++ bytesV [54#8] by simp [bytesV]]; exact ho4
          have Ho4 := hide ho4'
          have hg4l := owned_lt ho4'
          clear ho4 ho4' hg4 hor4 hb4 Hoi Hoo Hb hszr hgil hgol
          go_wp2_with (refine wpList_grow _ _ rfl rfl base go k co (bytesV (Mac.turned (blk.take k) 92#8)) (some ⟨w4.heap.size, 0, none⟩) 1 1 [92#8] rfl rfl (owned_alloc (unhide Hoo4) _) (row_one (by rw [cell_new]; exact congrArg some rfl)) (fun h => by cases h) (by omega) (by simp; omega) ?_)
          intro g5 cap5 w5 ho5 hg5 hor5
          have hsz5 : base ≤ w5.heap.size := by have := hg5.size; simp at this; omega
          have hb5 : Below base w4 w5 := ((Below.refl _ _).alloc hsz4 _).grown hg5 (by simp; omega) (fun k hk => by simp at hk; omega)
          have Hb5 := hide ((unhide Hb4).trans hb5)
          have Ho5 := hide (owned_grown (owned_alloc (unhide Ho4) _) hg5 (by omega))
          have hne5 : g4 ≠ g5 := by rcases hor5 with h | h <;> omega
          have ho5' : w5.ownsRow base 5 1 (.slice (some ⟨g5, 0, none⟩) (k + 1) cap5) (k + 1) (bytesV (Mac.turned (blk.take (k + 1)) 92#8)) := by
            rw [unhide H92, show bytesV (Mac.turned (blk.take k) 92#8 ++ [92#8]) = bytesV (Mac.turned (blk.take k) 92#8) ++ bytesV [92#8] by simp [bytesV]]; exact ho5
          have Hoo5 := hide ho5'
          clear ho5 ho5' hg5 hor5 hb5 Ho4 Hoo4 Hb4
          go_wp2
          go_roundw
          case rel => exact ⟨k + 1, g4, cap4, g5, cap5, by omega, by go_num, rfl, rfl, unhide Ho5, unhide Hoo5, hne5, unhide Hb5, hsz5⟩
          case measure => simp [intOf]; omega
      · obtain rfl : k = 64 := by omega
        have htk : blk.take 64 = blk := List.take_of_length_le (by rw [unhide Hbl]; omega)
        rw [htk] at Hoi Hoo
        clear htk hk hk64
        have HBr := hide ((unhide HBK).below ((unhide Hb).mono (by rw [unhide Hbase]; omega)))
        have HRr := hide ((unhide HRK).below ((unhide Hb).mono (by rw [unhide Hbase]; omega)))
        have Hbr := hide ((unhide HbK).trans ((unhide Hb).mono (by omega)))
        go_wp2_with (refine wpList_grow _ _ rfl rfl base gi 64 ci (bytesV (Mac.turned blk 54#8)) aB lenB capB B rfl rfl (unhide Hoi) (unhide HBr) (unhide HnilB) (by omega) hszr ?_)
        intro g2 cap2 w2 ho2 hg2 hor2
        have Hoo2 := hide (owned_grown (unhide Hoo) hg2 (by omega))
        have HR2 := hide ((unhide HRr).grown hg2 (by simp; omega))
        have Hb2 := hide ((unhide Hbr).grown hg2 (unhide Hbr).size (fun k hk => by simp at hk; omega))
        have ho2' : w2.ownsRow base 5 1 (.slice (some ⟨g2, 0, none⟩) (64 + lenB) cap2) (64 + lenB) (bytesV (Mac.turned blk 54#8 ++ B)) := by
          rw [show bytesV (Mac.turned blk 54#8 ++ B) = bytesV (Mac.turned blk 54#8) ++ bytesV B by simp [bytesV]]; exact ho2
        have Hrow2 := hide (owned_row ho2' (by rw [List.length_append, Mac.turned_length, unhide Hbl, unhide HlB]) (by omega))
        have hszR2 : base ≤ w2.heap.size := Nat.le_trans hszr hg2.size
        clear ho2 ho2' hg2 hor2 HBr HRr Hbr Hoi Hoo Hb hszr hgil hgol hgi hne
        go_wp2_with fail
        refine (ref_any _ _ _ (Mac.turned blk 54#8 ++ B) _ (unhide Hrow2) (fun h => by cases h) (by omega)).mono ?_
        rintro e w3 ⟨rfl, hb3⟩
        have Hoo3 := hide (owned_keep (unhide Hoo2) hb3 (owned_lt (unhide Hoo2)))
        have HR3 := hide ((unhide HR2).below hb3)
        have hszR3 : base ≤ w3.heap.size := Nat.le_trans hszR2 hb3.size
        have Hb3 := hide ((unhide Hb2).trans (hb3.mono (unhide Hb2).size))
        clear hb3 Hoo2 HR2 Hb2 Hrow2 hszR2
        obtain ⟨S, hS⟩ : ∃ S, S = Sha.sum (Mac.turned blk 54#8 ++ B) := ⟨_, rfl⟩
        have HSl : Hid (S.length = 32) := by show _ = _; rw [hS, Sha.sum_length]
        rw [← hS] at Hsum ⊢
        clear hS
        have Hsl2 : Hid ((bytesV S).length = 32) := by show _ = _; rw [bytesV_length, unhide HSl]
        have Hso2 := hide (bytesV_one S)
        obtain ⟨rs, hrs⟩ : ∃ rs, rs = bytesV S := ⟨_, rfl⟩
        rw [← hrs] at Hsl2 Hso2 ⊢
        have Hrs := hide hrs
        clear hrs
        go_wp2_with (refine wpList_alloc 25 25 (bytesV zerosB) rfl rfl alloc25 ?_)
        intro w4 hA4 hb4 hs4
        obtain ⟨b9, hb9⟩ : ∃ b, b = w3.heap.size := ⟨_, rfl⟩
        have HR4 := hide ((unhide HR3).below hb4)
        have Hoo4 := hide (owned_keep (unhide Hoo3) hb4 (owned_lt (unhide Hoo3)))
        have hgo9 := owned_lt (unhide Hoo3)
        have Hb4 := hide ((unhide Hb3).trans (hb4.mono (unhide Hb3).size))
        rw [← hb9] at hA4 hs4 hszR3 hgo9 ⊢
        have HA4 := hide hA4
        clear hA4 hb4 hb9 HR3 Hoo3 Hb3
        go_wp2_with (refine wpList_storeAll 25 _ _ b9 rs (bytesV zerosB) rfl rfl rfl rfl (unhide HA4) (by rw [unhide Hsl2]; rfl) (by rw [unhide Hsl2]; exact info25) (unhide Hso2) ?_)
        intro w5 hA5 hg5 hs5
        have HR5 := hide ((unhide HR4).grown hg5 (by simp; omega))
        have Hoo5 := hide (owned_grown (unhide Hoo4) hg5 (by omega))
        have Hb5 := hide ((unhide Hb4).grown hg5 (unhide Hb4).size (fun k hk => by simp at hk; omega))
        have Hrow5 : Hid (Row w5 (some ⟨b9, 0, none⟩) 32 S) := by
          have hA5' := hA5
          rw [unhide Hrs] at hA5'
          have := Arr.row (rest := []) (by rw [List.append_nil]; exact hA5') (by rw [unhide HSl]; decide)
          rw [unhide HSl] at this
          exact this
        have hszR5 : base ≤ w5.heap.size := by omega
        clear hA5 hg5 HR4 Hoo4 Hb4 HA4 hs4 hs5
        go_wp2_with (refine wpList_grow _ _ rfl rfl base go 64 co (bytesV (Mac.turned blk 92#8)) (some ⟨b9, 0, none⟩) 32 32 S rfl rfl (unhide Hoo5) (unhide Hrow5) (fun h => by cases h) (by omega) hszR5 ?_)
        intro g6 cap6 w6 ho6 hg6 hor6
        have HR6 := hide ((unhide HR5).grown hg6 (by simp; omega))
        have Hb6 := hide ((unhide Hb5).grown hg6 (unhide Hb5).size (fun k hk => by simp at hk; omega))
        have ho6' : w6.ownsRow base 5 1 (.slice (some ⟨g6, 0, none⟩) (64 + 32) cap6) (64 + 32) (bytesV (Mac.turned blk 92#8 ++ S)) := by
          rw [show bytesV (Mac.turned blk 92#8 ++ S) = bytesV (Mac.turned blk 92#8) ++ bytesV S by simp [bytesV]]; exact ho6
        have Hrow6 : Hid (Row w6 (some ⟨g6, 0, none⟩) 96 (Mac.turned blk 92#8 ++ S)) := owned_row ho6' (by rw [List.length_append, Mac.turned_length, unhide Hbl, unhide HSl]) (by decide)
        clear ho6 ho6' hg6 hor6 HR5 Hoo5 Hb5 Hrow5
        go_wp2_with fail
        refine (ref_any _ _ _ (Mac.turned blk 92#8 ++ S) _ (unhide Hrow6) (fun h => by cases h) (by decide)).mono ?_
        rintro e w7 ⟨rfl, hb7⟩
        rw [← unhide Hsum]
        have HR7 := hide ((unhide HR6).below hb7)
        have Hb7 := hide ((unhide Hb6).trans (hb7.mono (unhide Hb6).size))
        clear hb7 HR6 Hb6 Hrow6
        have Hrl : Hid ((bytesV (Mac.sum key B)).length = 32) := by show _ = _; rw [bytesV_length, Mac.sum_length]
        have Hro := hide (bytesV_one (Mac.sum key B))
        obtain ⟨xs, hxs⟩ : ∃ xs, xs = bytesV (Mac.sum key B) := ⟨_, rfl⟩
        rw [← hxs] at Hrl Hro ⊢
        have Hxs := hide hxs
        clear hxs
        go_wp2_with (refine wpList_storeAll 25 _ _ w.heap.size xs (bytesV zerosB) rfl rfl rfl rfl (unhide HR7) (by rw [unhide Hrl]; rfl) (by rw [unhide Hrl]; exact info25) (unhide Hro) ?_)
        intro w8 hA8 hg8 hs8
        have Hb8 := hide ((unhide Hb7).grown hg8 (unhide Hb7).size (fun k hk => by simp at hk; omega))
        have HA8 := hide hA8
        clear hA8 hg8 hs8 HR7 Hb7
        go_wp2
        have hi : (Tryd.prog.info? 25).map (·.size) = some xs.length := by rw [unhide Hrl]; exact info25
        refine bodyPost_ret (v := .agg xs.toArray) ?_ rfl ⟨by rw [unhide Hxs], unhide Hb8⟩
        exact results_arr Tryd.results7 rfl (unhide HA8) Tryd.underlying25 rfl hi

end Go.Proofs.YtnfgakbfnmmhcaaDoor
