/-
  What (*Digest).Sum and digest.Sum answer: SHA-256 of the bytes.
-/
import Derived.Test.YtnfgakbfnmmhcaaDoorWrite
namespace Go.Proofs.YtnfgakbfnmmhcaaDoor
open Go.RowKit

set_option maxRecDepth 100000 in
set_option maxHeartbeats 400000 in
theorem dsum_any (b : Nat) (m : List (BitVec 8)) (w : World) (hT : Tabs w) (hd : Dig w b m) (hm : m.length < 1152921504606840000) :
    Calls Tryd.prog 17 #[.pointer (some ⟨b, 0, none⟩)] w fun e w' => e = .returned (.agg (bytesV (Sha.sum m)).toArray) ∧ Below w.heap.size w w' := by
  have HT := hide hT
  have hlt := hd.lt
  obtain ⟨h2, st, tail, hA, hH⟩ := hd
  have HA := hide hA
  have HH := hide hH
  have hsz := hT.size
  have Hl := hide (digV_length hH m.length)
  have Hone := hide (digV_one st tail m.length)
  have H72 := hide (digV_len hH m.length)
  obtain ⟨cs, hcs⟩ : ∃ cs, cs = digV st tail m.length := ⟨_, rfl⟩
  rw [← hcs] at HA Hl Hone H72
  have Hcs := hide hcs
  clear hA hH hcs hT
  go_enter Tryd.func17, Tryd.ntmps17
  go_wp2_with (refine wpList_alloc 25 25 (bytesV zerosB) rfl rfl alloc25 ?_)
  intro w1 hA1 hb1 hs1
  have HA1 := hide hA1
  have Hb1 := hide hb1
  have HD1 := hide ((unhide HA).keep hb1 hlt)
  clear hA1 hb1 HA
  go_wp2_with (first
    | refine wpList_load_mid rfl 52 _ rfl b 0 rfl cs _ (unhide HD1).range Tryd.underlying52 rfl (by rw [unhide Hl]; exact info52) ?_
    | refine wpList_alloc 52 52 (digV zeros8 (List.replicate 64 0#8) 0) rfl rfl alloc52 ?_)
  intro w2 hA2 hb2 hs2
  have HR2 := hide ((unhide HA1).keep hb2 (by omega))
  have HD2 := hide ((unhide HD1).keep hb2 (by omega))
  have HA2 := hide hA2
  have Hb2 := hide ((unhide Hb1).trans (hb2.mono (by omega)))
  clear hA2 hb2 HA1 HD1 Hb1
  go_wp2_with (refine wpList_storeAll 52 _ _ (w.heap.size + 1) cs (digV zeros8 (List.replicate 64 0#8) 0) rfl rfl rfl rfl (unhide HA2) (by rw [unhide Hl]; rfl) (by rw [unhide Hl]; exact info52) (unhide Hone) ?_)
  intro w3 hA3 hg3 hs3
  have hD3 := (unhide HD2).grown hg3 (by simp; omega)
  have hc72 := hD3.cell (unhide H72)
  have HR3 := hide ((unhide HR2).grown hg3 (by simp))
  have hdig3 : Dig w3 (w.heap.size + 1) m := ⟨by omega, st, tail, by rw [← unhide Hcs]; exact hA3, unhide HH⟩
  have Hdig3 := hide hdig3
  have Hb3 := hide ((unhide Hb2).grown hg3 (unhide Hb2).size (fun k hk => by simp at hk; omega))
  clear hA3 hg3 hD3 hdig3 HD2 HA2 Hb2 HR2
  go_wp2_with fail
  refine (ending_any m.length (by omega) _).mono ?_
  rintro e w4 ⟨b4, len4, cap4, rfl, hlc4, hrow4, hb4', hb4⟩
  have HT4 := hide ((unhide HT).below ((unhide Hb3).trans (hb4.mono (by have := (unhide Hb3).size; omega))) hsz)
  have Hdig4 := hide ((unhide Hdig3).below hb4 (unhide Hdig3).lt)
  have HR4 := hide ((unhide HR3).below hb4)
  have Hb4 := hide ((unhide Hb3).trans (hb4.mono (unhide Hb3).size))
  have Hrow4 := hide hrow4
  have hne4 : b4 ≠ w.heap.size + 1 := by have := (unhide Hdig3).lt; omega
  have hl4 : len4 = 9 + (119 - m.length % 64) % 64 := by rw [← hrow4.1, Sha.ending_length]
  have Hlen4 : Hid (m.length + len4 < 1152921504606846976) := by show _ < _; omega
  clear hrow4 hb4 hb4' Hdig3 Hb3 HR3 hc72 hl4
  go_wp2_with fail
  refine (write_any (w.heap.size + 1) m (Sha.ending m.length) _ _ _ _ (unhide HT4) (unhide Hdig4) (unhide Hrow4) hlc4 (fun _ ad h => by cases h; exact hne4) (unhide Hlen4)).mono ?_
  rintro e w5 ⟨rfl, hdig5, hg5⟩
  have HR5 := hide ((unhide HR4).grown hg5 (by simp))
  have Hb5 := hide ((unhide Hb4).grown hg5 (unhide Hb4).size (fun k hk => by simp at hk; omega))
  obtain ⟨_, st5, tail5, hA5, hH5⟩ := hdig5
  have hout : Sha.out st5 = Sha.sum m := by rw [hH5.st]; rfl
  have HA5 := hide hA5
  have Hst5 := hide hH5.stlen
  have Hout := hide hout
  clear hA5 hH5 hg5 hout Hdig4 HR4 Hb4 Hrow4
  have hmid := Arr.mid (p := []) (unhide HA5)
  have Hmid := hide hmid
  clear hmid
  go_wp2_with (refine wpList_load_mid rfl 50 _ rfl (w.heap.size + 1) 0 rfl (wordsV st5) _ (unhide Hmid) Tryd.underlying50 rfl (by rw [wordsV_length, unhide Hst5]; exact info50) ?_)
  refine (hashOf_any st5 (unhide Hst5) _).mono ?_
  rintro e w6 ⟨rfl, hb6⟩
  rw [unhide Hout]
  have HR6 := hide ((unhide HR5).below hb6)
  have Hb6 := hide ((unhide Hb5).trans (hb6.mono (unhide Hb5).size))
  clear hb6 HR5 Hb5 Hmid HA5
  have Hsl : Hid ((bytesV (Sha.sum m)).length = 32) := by show _ = _; rw [bytesV_length, Sha.sum_length]
  have Hso := hide (bytesV_one (Sha.sum m))
  generalize hrs : bytesV (Sha.sum m) = rs at Hsl Hso ⊢
  have Hrs := hide hrs
  clear hrs
  go_wp2_with (refine wpList_storeAll 25 _ _ w.heap.size rs (bytesV zerosB) rfl rfl rfl rfl (unhide HR6) (by rw [unhide Hsl]; rfl) (by rw [unhide Hsl]; exact info25) (unhide Hso) ?_)
  intro w7 hA7 hg7 hs7
  have Hb7 := hide ((unhide Hb6).grown hg7 (unhide Hb6).size (fun k hk => by simp at hk; omega))
  have HA7 := hide hA7
  clear hA7 hg7 hs7 HR6 Hb6
  go_wp2
  have hi : (Tryd.prog.info? 25).map (·.size) = some rs.length := by rw [unhide Hsl]; exact info25
  refine bodyPost_ret (v := .agg rs.toArray) ?_ rfl ⟨by rw [unhide Hrs], unhide Hb7⟩
  exact results_arr Tryd.results17 rfl (unhide HA7) Tryd.underlying25 rfl hi

theorem Parts.below {w w' : World} {a : Option Addr} {n : Nat} {ps : List (List (BitVec 8))} (h : Parts w a n ps) (hb : Below w.heap.size w w') : Parts w' a n ps :=
  ⟨h.1, h.2.1, fun i hi => by
    obtain ⟨b, off, ai, li, ci, ha, hc, hr⟩ := h.2.2 i hi
    exact ⟨b, off, ai, li, ci, ha, kept_cell hc hb, hr.below hb⟩⟩

theorem flatten_take_le (ps : List (List (BitVec 8))) : ∀ k, (ps.take k).flatten.length ≤ ps.flatten.length := by
  induction ps with
  | nil => intro k; simp
  | cons p ps ih =>
    intro k
    cases k with
    | zero => simp
    | succ k => simp only [List.take_succ_cons, List.flatten_cons, List.length_append]; have := ih k; omega

/-- The slices of the parts have no more elements than room. -/
def Fits (w : World) (a : Option Addr) (n : Nat) : Prop := ∀ i, i < n → ∀ b off ai li ci, a = some ⟨b, off, none⟩ → w.cell? ⟨b, off + i, none⟩ = some (.slice ai li ci) → li ≤ ci

set_option maxRecDepth 100000 in
set_option maxHeartbeats 400000 in
theorem sum_any (a : Option Addr) (n cap : Nat) (ps : List (List (BitVec 8))) (w : World) (hT : Tabs w) (hr : Parts w a n ps) (hf : Fits w a n) (hm : ps.flatten.length < 1152921504606840000) :
    Calls Tryd.prog 10 #[.slice a n cap] w fun e w' => e = .returned (.agg (bytesV (Sha.sum ps.flatten)).toArray) ∧ Below w.heap.size w w' := by
  have HT := hide hT
  have Hr := hide hr
  have Hf := hide hf
  have hsz := hT.size
  have hnl := hr.2.1
  clear hT hr hf
  go_enter Tryd.func10, Tryd.ntmps10
  go_wp2_with (refine wpList_alloc 25 25 (bytesV zerosB) rfl rfl alloc25 ?_)
  intro w1 hA1 hb1 hs1
  have HA1 := hide hA1
  have Hb1 := hide hb1
  clear hA1 hb1
  go_wp2_with fail
  refine (new_any _ ((unhide HT).below (unhide Hb1) hsz)).mono ?_
  rintro e w2 ⟨d, rfl, hdig2, hd2, hb2⟩
  rw [hs1] at hd2 hb2
  have Hdig2 := hide hdig2
  have HA2 := hide ((unhide HA1).keep hb2 (by omega))
  have Hb2 := hide ((unhide Hb1).trans (hb2.mono (by omega)))
  clear hdig2 hb2 HA1 Hb1 hs1
  go_wp2_with fail
  go_loopw [9] (fun i wr => ∃ k : Nat, k ≤ n ∧ i = .int .i64 k ∧ Dig wr d (ps.take k).flatten ∧ Arr wr w.heap.size (bytesV zerosB) ∧ Below w.heap.size w wr) (fun i _ => n - (intOf i).toNat)
  case atStart => exact ⟨0, by omega, rfl, unhide Hdig2, unhide HA2, unhide Hb2⟩
  case round =>
    obtain ⟨k, hk, rfl, hdig, hA, hb⟩ := hrel
    clear Hdig2 HA2 Hb2
    have Hdig := hide hdig
    have HA := hide hA
    have Hb := hide hb
    clear hdig hA hb
    by_cases hlt : k < n
    · obtain ⟨pb, off, ai, li, ci, rfl, hcell, hrow⟩ := (unhide Hr).2.2 k hlt
      have hts := take_snoc' ps k (by have := (unhide Hr).1; omega)
      have hfl : (ps.take (k + 1)).flatten = (ps.take k).flatten ++ ps.getD k [] := by rw [hts, List.flatten_append]; simp
      have Hfl := hide hfl
      have hli := unhide Hf k hlt pb off ai li ci rfl hcell
      have Hlen : Hid ((ps.take k).flatten.length + li < 1152921504606846976) := by
        show _ < _
        have h1 := flatten_take_le ps (k + 1)
        rw [hfl, List.length_append, hrow.1] at h1
        omega
      have hc := kept_cell hcell (unhide Hb)
      have Hap := hide (Row.apart hrow (b := d) (by omega))
      have Hrow := hide (hrow.below (unhide Hb))
      clear hts hfl hcell hrow
      generalize ps.getD k [] = p at *
      go_wp2_with fail
      refine (write_any d _ p _ _ _ _ ((unhide HT).below (unhide Hb) hsz) (unhide Hdig) (unhide Hrow) hli (unhide Hap) (unhide Hlen)).mono ?_
      rintro e w3 ⟨rfl, hdig3, hg3⟩
      have Hdig3 := hide hdig3
      have HA3 := hide ((unhide HA).grown hg3 (by simp; omega))
      have Hb3 := hide ((unhide Hb).grown hg3 (unhide Hb).size (fun k hk => by simp at hk; omega))
      clear hdig3 hg3 HA Hb Hdig
      go_wp2
      go_roundw
      case rel => exact ⟨k + 1, by omega, by go_num, by rw [unhide Hfl]; exact unhide Hdig3, unhide HA3, unhide Hb3⟩
      case measure => simp [intOf]; omega
    · have hts : ps.take k = ps := List.take_of_length_le (by have := (unhide Hr).1; omega)
      rw [hts] at Hdig
      clear hts
      go_wp2_with fail
      refine (dsum_any d ps.flatten _ ((unhide HT).below (unhide Hb) hsz) (unhide Hdig) hm).mono ?_
      rintro e w6 ⟨rfl, hb6⟩
      have HR6 := hide ((unhide HA).below hb6)
      have Hb6 := hide ((unhide Hb).trans (hb6.mono (unhide Hb).size))
      clear hb6 HA Hb Hdig
      have Hsl : Hid ((bytesV (Sha.sum ps.flatten)).length = 32) := by show _ = _; rw [bytesV_length, Sha.sum_length]
      have Hso := hide (bytesV_one (Sha.sum ps.flatten))
      generalize hrs : bytesV (Sha.sum ps.flatten) = rs at Hsl Hso ⊢
      have Hrs := hide hrs
      clear hrs
      go_wp2_with (refine wpList_storeAll 25 _ _ w.heap.size rs (bytesV zerosB) rfl rfl rfl rfl (unhide HR6) (by rw [unhide Hsl]; rfl) (by rw [unhide Hsl]; exact info25) (unhide Hso) ?_)
      intro w7 hA7 hg7 hs7
      have Hb7 := hide ((unhide Hb6).grown hg7 (unhide Hb6).size (fun k hk => by simp at hk; omega))
      have HA7 := hide hA7
      clear hA7 hg7 hs7 HR6 Hb6
      go_wp2
      have hi : (Tryd.prog.info? 25).map (·.size) = some rs.length := by rw [unhide Hsl]; exact info25
      refine bodyPost_ret (v := .agg rs.toArray) ?_ rfl ⟨by rw [unhide Hrs], unhide Hb7⟩
      exact results_arr Tryd.results10 rfl (unhide HA7) Tryd.underlying25 rfl hi

end Go.Proofs.YtnfgakbfnmmhcaaDoor
