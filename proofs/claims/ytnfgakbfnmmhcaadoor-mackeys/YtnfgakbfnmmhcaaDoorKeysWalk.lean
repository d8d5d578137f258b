/-
  MacKeys returns true, whatever the slices and the number.
-/
import Derived.Test.YtnfgakbfnmmhcaaDoorAsk
import Derived.Test.YtnfgakbfnmmhcaaDoorZeros
import Derived.Test.YtnfgakbfnmmhcaaDoorRefWalk
import Derived.WalkSpells
import Derived.WalkLawsBesides
namespace Go.Proofs.YtnfgakbfnmmhcaaDoor.macKeys
open Go.RowKit MacAsk

theorem nil_of {w : World} {k : IntKind} {a : Option Addr} {len cap : Nat} {zs : List Int} (h : IsRow k w a len cap zs) : a = none → cap = 0 := by
  rcases h with ⟨_, _, rfl, _⟩ | ⟨x, rfl, _⟩
  · exact fun _ => rfl
  · exact fun h => by cases h

/-- One slice in a row of its own. -/
def Has1 (a : Option Addr) (len cap : Nat) (v : Value) (w : World) : Prop := ∃ b, v = .slice (some ⟨b, 0, none⟩) 1 1 ∧ w.cell? ⟨b, 0, none⟩ = some (.slice a len cap)
/-- Two. -/
def Has2 (a : Option Addr) (len cap : Nat) (a' : Option Addr) (len' cap' : Nat) (v : Value) (w : World) : Prop := ∃ b, v = .slice (some ⟨b, 0, none⟩) 2 2 ∧ w.cell? ⟨b, 0, none⟩ = some (.slice a len cap) ∧ w.cell? ⟨b, 1, none⟩ = some (.slice a' len' cap')

/-- What the operations of the question yield. -/
def VK (a0 : Option Addr) (len0 cap0 : Nat) (a1 : Option Addr) (len1 cap1 gP lenP capP gL lenL capL b9 : Nat) (S1 S2 : List (BitVec 8)) : Nat → Value → World → Prop
  | 0, v, _ => v = .slice (some ⟨gP, 0, none⟩) lenP capP
  | 1, v, _ => v = .slice a1 len1 cap1
  | 2, v, w => Has1 a1 len1 cap1 v w
  | 3, v, _ => v = .agg (bytesV S1).toArray
  | 4, v, _ => v = .slice a0 len0 cap0
  | 5, v, _ => v = .slice a1 len1 cap1
  | 6, v, w => Has1 a1 len1 cap1 v w
  | 7, v, _ => v = .agg (bytesV S1).toArray
  | 8, v, _ => v = .bool true
  | 9, v, _ => v = .bool true
  | 10, v, _ => v = .slice (some ⟨gL, 0, none⟩) lenL capL
  | 11, v, _ => v = .slice a1 len1 cap1
  | 12, v, w => Has1 a1 len1 cap1 v w
  | 13, v, _ => v = .agg (bytesV S2).toArray
  | 14, v, _ => v = .slice (some ⟨b9, 0, none⟩) 32 32
  | 15, v, _ => v = .slice a1 len1 cap1
  | 16, v, w => Has1 a1 len1 cap1 v w
  | 17, v, _ => v = .agg (bytesV S2).toArray
  | 18, v, _ => v = .bool true
  | 19, v, _ => v = .bool true
  | 20, v, _ => v = .bool true
  | 21, v, _ => v = .slice a0 len0 cap0
  | 22, v, _ => v = .slice a1 len1 cap1
  | 23, v, w => Has2 a1 len1 cap1 none 0 0 v w
  | 24, v, _ => v = .agg (bytesV S1).toArray
  | 25, v, _ => v = .slice a0 len0 cap0
  | 26, v, _ => v = .slice a1 len1 cap1
  | 27, v, w => Has2 none 0 0 a1 len1 cap1 v w
  | 28, v, _ => v = .agg (bytesV S1).toArray
  | 29, v, _ => v = .bool true
  | 30, v, _ => v = .bool true
  | 31, v, _ => v = .bool true
  | _, _, _ => True

theorem Has1.below {a : Option Addr} {len cap : Nat} {v : Value} {w w' : World} (h : Has1 a len cap v w) (hb : Below w.heap.size w w') : Has1 a len cap v w' := by
  obtain ⟨b, hv, hc⟩ := h
  exact ⟨b, hv, kept_cell hc hb⟩
theorem Has2.below {a : Option Addr} {len cap : Nat} {a' : Option Addr} {len' cap' : Nat} {v : Value} {w w' : World} (h : Has2 a len cap a' len' cap' v w) (hb : Below w.heap.size w w') : Has2 a len cap a' len' cap' v w' := by
  obtain ⟨b, hv, hc, hc'⟩ := h
  exact ⟨b, hv, kept_cell hc hb, kept_cell hc' hb⟩

theorem VK.stable {a0 : Option Addr} {len0 cap0 : Nat} {a1 : Option Addr} {len1 cap1 gP lenP capP gL lenL capL b9 : Nat} {S1 S2 : List (BitVec 8)} (j : Nat) (v : Value) (w w' : World) (h : VK a0 len0 cap0 a1 len1 cap1 gP lenP capP gL lenL capL b9 S1 S2 j v w) (hb : Below w.heap.size w w') : VK a0 len0 cap0 a1 len1 cap1 gP lenP capP gL lenL capL b9 S1 S2 j v w' := by
  unfold VK at *
  split at h
  all_goals first | exact h | exact h.below hb

set_option maxRecDepth 100000 in
set_option maxHeartbeats 3200000 in
theorem main (a0 : Option Addr) (len0 cap0 : Nat) (key : List (BitVec 8)) (a1 : Option Addr) (len1 cap1 : Nat) (B : List (BitVec 8)) (M : Nat) (w : World) (hT : Tabs w) (hK : Row w a0 len0 key) (hnil0 : a0 = none → cap0 = 0) (c0 : len0 ≤ cap0)
    (hB : Row w a1 len1 B) (c1 : len1 ≤ cap1) (l0 : len0 ≤ 64) (l1 : len1 ≤ 1000) (hM : len0 + M ≤ 64) :
    Calls Tryd.prog 5 #[.slice a0 len0 cap0, .slice a1 len1 cap1, .int .i64 (M : Int)] w fun e w' => e = .returned (.bool true) ∧ Below w.heap.size w w' := by
  have HT := hide hT
  have hsz := hT.size
  have HK := hide hK
  have HB := hide hB
  have Hn0 := hide hnil0
  have HlK := hide hK.1
  clear hT hK hB hnil0
  go_enter Tryd.func5, Tryd.ntmps5
  go_wp2_with fail
  refine (alive_any _ (unhide HT)).mono ?_
  rintro e w1 ⟨rfl, hb1⟩
  have Hb1 := hide hb1
  have HK1 := hide ((unhide HK).below hb1)
  have HB1 := hide ((unhide HB).below hb1)
  obtain ⟨base, hbase⟩ : ∃ b, b = w1.heap.size := ⟨_, rfl⟩
  have hwb : w.heap.size ≤ base := by rw [hbase]; exact hb1.size
  have Ho1 := hide (owned_fresh w1 base (by omega))
  have HKa := hide ((unhide HK1).alloc (.cells #[] 5))
  have hd : (decide (64 - (len0 : Int) < (M : Int))) = false := by simp; omega
  have Hbase := hide hbase
  clear hb1 hbase
  go_wp2_with (refine wpList_grow _ _ rfl rfl base w1.heap.size 0 0 [] a0 len0 cap0 key rfl rfl (unhide Ho1) (unhide HKa) (unhide Hn0) (by omega) (by rw [unhide Hbase]; simp) ?_)
  intro g2 cap2 w2 ho2 hg2 hor2
  have hsz2 : base ≤ w2.heap.size := by have := hg2.size; simp at this; have := unhide Hbase; omega
  have hb2 : Below base w1 w2 := ((Below.refl _ _).alloc (by rw [unhide Hbase]; exact Nat.le_refl _) (.cells #[] 5)).grown hg2 (by have := unhide Hbase; simp; omega) (fun k hk => by have := unhide Hbase; simp at hk; omega)
  have Hb2 := hide hb2
  have ho2' : w2.ownsRow base 5 1 (.slice (some ⟨g2, 0, none⟩) len0 cap2) len0 (bytesV key) := by simpa using ho2
  have Ho2 := hide ho2'
  have hg2b := owned_base ho2'
  clear ho2 ho2' hg2 hor2 hb2 Ho1 HKa
  go_wp2_with (refine wpList_growZeros _ _ rfl rfl base g2 len0 cap2 (bytesV key) M rfl rfl (unhide Ho2) (by omega) hsz2 ?_)
  intro gP capP w3 ho3 hg3 hor3
  have Hb3 := hide ((unhide Hb2).grown hg3 (by omega) (fun k hk => by simp at hk; omega))
  have ho3' : w3.ownsRow base 5 1 (.slice (some ⟨gP, 0, none⟩) (len0 + M) capP) (len0 + M) (bytesV (key ++ List.replicate M 0#8)) := by
    rw [show bytesV (key ++ List.replicate M 0#8) = bytesV key ++ bytesV (List.replicate M 0#8) by simp [bytesV]]; exact ho3
  have HP3 := hide (owned_row ho3' (by rw [List.length_append, List.length_replicate, unhide HlK]) (by omega))
  have hcP := owned_cap ho3'
  have hsz3 : base ≤ w3.heap.size := Nat.le_trans hsz2 hg3.size
  clear ho3 ho3' hg3 hor3 Ho2 Hb2 hg2b hsz2
  have HbW3 := hide ((unhide Hb1).trans ((unhide Hb3).mono hwb))
  obtain ⟨base2, hbase2⟩ : ∃ b, b = w3.heap.size := ⟨_, rfl⟩
  have Ho4 := hide (owned_fresh w3 base2 (by omega))
  have HKb := hide (((unhide HK).below (unhide HbW3)).alloc (.cells #[] 5))
  have Hbase2 := hide hbase2
  have hwb2 : w.heap.size ≤ base2 := by omega
  clear hbase2 Hb3 Hb1 hsz3
  go_wp2_with (refine wpList_grow _ _ rfl rfl base2 w3.heap.size 0 0 [] a0 len0 cap0 key rfl rfl (unhide Ho4) (unhide HKb) (unhide Hn0) (by omega) (by rw [unhide Hbase2]; simp) ?_)
  intro g5 cap5 w5 ho5 hg5 hor5
  have hsz5 : base2 ≤ w5.heap.size := by have := hg5.size; simp at this; have := unhide Hbase2; omega
  have hb5 : Below base2 w3 w5 := ((Below.refl _ _).alloc (by rw [unhide Hbase2]; exact Nat.le_refl _) (.cells #[] 5)).grown hg5 (by have := unhide Hbase2; simp; omega) (fun k hk => by have := unhide Hbase2; simp at hk; omega)
  have Hb5 := hide hb5
  have ho5' : w5.ownsRow base2 5 1 (.slice (some ⟨g5, 0, none⟩) len0 cap5) len0 (bytesV key) := by simpa using ho5
  have Ho5 := hide ho5'
  have hg5b := owned_base ho5'
  clear ho5 ho5' hg5 hor5 hb5 Ho4 HKb
  go_wp2_with (refine wpList_growZeros _ _ rfl rfl base2 g5 len0 cap5 (bytesV key) 65 rfl rfl (unhide Ho5) (by omega) hsz5 ?_)
  intro gL capL w6 ho6 hg6 hor6
  have Hb6 := hide ((unhide Hb5).grown hg6 (by omega) (fun k hk => by simp at hk; omega))
  have ho6' : w6.ownsRow base2 5 1 (.slice (some ⟨gL, 0, none⟩) (len0 + 65) capL) (len0 + 65) (bytesV (key ++ List.replicate 65 0#8)) := by
    rw [show bytesV (key ++ List.replicate 65 0#8) = bytesV key ++ bytesV (List.replicate 65 0#8) by simp only [bytesV, List.map_append]]; exact ho6
  have HL6 := hide (owned_row ho6' (by rw [List.length_append, List.length_replicate, unhide HlK]) (by omega))
  have hcL := owned_cap ho6'
  have hb36 : Below w3.heap.size w3 w6 := by rw [← unhide Hbase2]; exact unhide Hb6
  have HbW6 := hide ((unhide HbW3).trans (hb36.mono (unhide HbW3).size))
  have HP6 := hide ((unhide HP3).below hb36)
  clear ho6 ho6' hg6 hor6 Ho5 Hb5 Hb6 hg5b hsz5 hb36 HP3 HbW3 HK1 HB1
  have HeP : Hid (Mac.sum (key ++ List.replicate M 0#8) B = Mac.sum key B) := Mac.sum_more key B M (by rw [unhide HlK]; exact hM)
  obtain ⟨padded, hpad⟩ : ∃ p, p = key ++ List.replicate M 0#8 := ⟨_, rfl⟩
  rw [← hpad] at HeP HP6
  have Hlong : Hid (64 < (key ++ List.replicate 65 0#8).length) := by show _ < _; rw [List.length_append, List.length_replicate]; omega
  have Hlong2 : Hid ((key ++ List.replicate 65 0#8).length = len0 + 65) := by show _ = _; rw [List.length_append, List.length_replicate, unhide HlK]
  obtain ⟨long, hlong⟩ : ∃ p, p = key ++ List.replicate 65 0#8 := ⟨_, rfl⟩
  rw [← hlong] at HL6 Hlong Hlong2
  have HeD : Hid (Mac.sum (Sha.sum long) B = Mac.sum long B) := Mac.sum_long long B (unhide Hlong)
  clear hpad hlong
  obtain ⟨b7, hb7⟩ : ∃ b, b = w6.heap.size := ⟨_, rfl⟩
  have Hb7 := hide hb7
  have hwb7 : w.heap.size ≤ b7 := by rw [hb7]; exact (unhide HbW6).size
  clear hb7
  go_wp2_with fail
  refine (sum_new w6 _ rfl [⟨some ⟨gL, 0, none⟩, len0 + 65, capL, long⟩] long _ 1 (by simp) rfl rfl ((unhide HT).below (unhide HbW6) hsz) (fun s hs => by obtain rfl := List.mem_singleton.1 hs; exact ⟨unhide HL6, hcL⟩) (by rw [unhide Hlong2]; omega) (by decide)).mono ?_
  rintro e w7 ⟨rfl, hb7⟩
  have HL7 := hide ((unhide HL6).below hb7)
  have HP7 := hide ((unhide HP6).below hb7)
  have HbW7 := hide ((unhide HbW6).trans (hb7.mono (unhide HbW6).size))
  clear hb7 HL6 HP6 HbW6
  have Hdl : Hid ((Sha.sum long).length = 32) := Sha.sum_length long
  obtain ⟨dg, hdg⟩ : ∃ d, d = Sha.sum long := ⟨_, rfl⟩
  rw [← hdg] at HeD Hdl ⊢
  clear hdg
  have Hrl : Hid ((bytesV dg).length = 32) := by show _ = _; rw [bytesV_length, unhide Hdl]
  have Hro := hide (bytesV_one dg)
  obtain ⟨rs, hrs⟩ : ∃ rs, rs = bytesV dg := ⟨_, rfl⟩
  rw [← hrs] at Hrl Hro ⊢
  have Hrs := hide hrs
  clear hrs
  go_wp2_with (refine wpList_alloc 25 25 (bytesV zerosB) rfl rfl alloc25 ?_)
  intro w8 hA8 hb8 hs8
  obtain ⟨b9, hb9⟩ : ∃ b, b = w7.heap.size := ⟨_, rfl⟩
  have hwb9 : w.heap.size ≤ b9 := by rw [hb9]; exact (unhide HbW7).size
  have HL8 := hide ((unhide HL7).below hb8)
  have HP8 := hide ((unhide HP7).below hb8)
  have HgL : Hid (gL ≠ b9) := by
    show gL ≠ b9
    obtain ⟨b, off, ha, hc⟩ := (unhide HL7).2.2 0 (by omega)
    cases ha
    have := lt_of_cell hc
    omega
  have HgP : Hid (0 < len0 + M → ∀ ad : Addr, some ⟨gP, 0, none⟩ = some ad → ad.block ≠ b9) := Row.apart (unhide HP7) (by rw [hb9]; exact Nat.le_refl _)
  have HbW8 := hide ((unhide HbW7).trans (hb8.mono (unhide HbW7).size))
  rw [← hb9] at hA8 hs8 ⊢
  have HA8 := hide hA8
  clear hA8 hb8 HL7 HP7 HbW7 hb9
  go_wp2_with (refine wpList_storeAll 25 _ _ b9 rs (bytesV zerosB) rfl rfl rfl rfl (unhide HA8) (by rw [unhide Hrl]; rfl) (by rw [unhide Hrl]; exact info25) (unhide Hro) ?_)
  intro w4 hA4 hg4 hs4
  have Hb4 := hide ((unhide HbW8).grown hg4 (unhide HbW8).size (fun k hk => by simp at hk; omega))
  have HL4 := hide ((unhide HL8).other hg4 (by intro ad had; cases had; exact unhide HgL))
  have HP4 : Hid (Row w4 (some ⟨gP, 0, none⟩) (len0 + M) padded) := by
    by_cases h0 : 0 < len0 + M
    · exact (unhide HP8).other hg4 (unhide HgP h0)
    · have hp := unhide HP8
      exact ⟨hp.1, hp.2.1, fun i hi => by omega⟩
  have HD4 : Hid (Row w4 (some ⟨b9, 0, none⟩) 32 dg) := by
    have hA4' := hA4
    rw [unhide Hrs] at hA4'
    have := Arr.row (rest := []) (by rw [List.append_nil]; exact hA4') (by rw [unhide Hdl]; decide)
    rw [unhide Hdl] at this
    exact this
  clear hA4 hg4 HA8 HbW8 HL8 HP8 hs8 hs4 HgL HgP
  have HOK : Hid (Sl.Ok w4 ⟨a0, len0, cap0, key⟩) := ⟨(unhide HK).below (unhide Hb4), c0⟩
  have HOB : Hid (Sl.Ok w4 ⟨a1, len1, cap1, B⟩) := ⟨(unhide HB).below (unhide Hb4), c1⟩
  have HOP : Hid (Sl.Ok w4 ⟨some ⟨gP, 0, none⟩, len0 + M, capP, padded⟩) := ⟨unhide HP4, hcP⟩
  have HOL : Hid (Sl.Ok w4 ⟨some ⟨gL, 0, none⟩, len0 + 65, capL, long⟩) := ⟨unhide HL4, hcL⟩
  have HOD : Hid (Sl.Ok w4 ⟨some ⟨b9, 0, none⟩, 32, 32, dg⟩) := ⟨unhide HD4, Nat.le_refl _⟩
  have HON : Hid (Sl.Ok w4 ⟨none, 0, 0, []⟩) := ⟨Row.nil _ _, Nat.le_refl _⟩
  have HT4 := hide ((unhide HT).below (unhide Hb4) hsz)
  have HS1 := hide (Mac.sum_length key B)
  have HS2 := hide (Mac.sum_length long B)
  have He1 : Hid (Mac.sum key (B ++ []) = Mac.sum key B) := by show _ = _; rw [List.append_nil]
  have He2 : Hid (Mac.sum key ([] ++ B) = Mac.sum key B) := rfl
  go_wp2_with fail
  refine Free.wp_region_owes (VK a0 len0 cap0 a1 len1 cap1 gP (len0 + M) capP gL (len0 + 65) capL b9 (Mac.sum key B) (Mac.sum long B)) (fun w' => Below w4.heap.size w4 w') (by kernel_rfl) (by kernel_rfl) VK.stable (Below.drew (Below.refl _ _)) ⟨?_, ?_, ?_, ?_, ?_, ?_, ?_, ?_, ?_, ?_, ?_, ?_, ?_, ?_, ?_, ?_, ?_, ?_, ?_, ?_, ?_, ?_, ?_, ?_, ?_, ?_, ?_, ?_, ?_, ?_, ?_, ?_, trivial⟩ ?_
  · exact Free.owed_move (Free.goes_plain rfl) (.inl rfl) fun a w' _ hs _ => hs 7 (by kernel_rfl)
  · exact Free.owed_move (Free.goes_plain rfl) (.inl rfl) fun a w' _ hs _ => hs 1 (by kernel_rfl)
  · refine Free.owed_value (Free.goes_plain rfl) fun a w' hC hs hd => ?_
    exact ⟨_, _, run_build1 rfl (hd 1 44 (by kernel_rfl)) w', (Below.refl _ _).alloc (Nat.le_refl _) _, hC.alloc hC.size _, w'.heap.size, rfl, cell_new w' _ _ _ 0⟩
  · refine Free.owed_call (Free.goes_plain rfl) fun a w' hC hs hd => ?_
    obtain ⟨b, h1, h2⟩ := hd 2 45 (by kernel_rfl)
    refine ⟨8, _, run_call8 rfl rfl (hd 0 43 (by kernel_rfl)) h1 w', (msum_one ⟨some ⟨gP, 0, none⟩, len0 + M, capP, padded⟩ b ⟨a1, len1, cap1, B⟩ w' ((unhide HT4).below hC (unhide HT4).size) h2 ((unhide HOP).below hC) ((unhide HOB).below hC) (by show len0 + M ≤ 1500; omega) (by show len1 ≤ 1500; omega)).mono ?_⟩
    rintro e w7 ⟨rfl, hb7⟩
    refine ⟨_, rfl, hb7, hC.trans (hb7.mono hC.size), ?_⟩
    exact congrArg (fun z => Value.agg (bytesV z).toArray) (unhide HeP)
  · exact Free.owed_move (Free.goes_plain rfl) (.inl rfl) fun a w' _ hs _ => hs 0 (by kernel_rfl)
  · exact Free.owed_move (Free.goes_plain rfl) (.inl rfl) fun a w' _ hs _ => hs 1 (by kernel_rfl)
  · refine Free.owed_value (Free.goes_plain rfl) fun a w' hC hs hd => ?_
    exact ⟨_, _, run_build1 rfl (hd 5 48 (by kernel_rfl)) w', (Below.refl _ _).alloc (Nat.le_refl _) _, hC.alloc hC.size _, w'.heap.size, rfl, cell_new w' _ _ _ 0⟩
  · refine Free.owed_call (Free.goes_plain rfl) fun a w' hC hs hd => ?_
    obtain ⟨b, h1, h2⟩ := hd 6 49 (by kernel_rfl)
    refine ⟨8, _, run_call8 rfl rfl (hd 4 47 (by kernel_rfl)) h1 w', (msum_one ⟨a0, len0, cap0, key⟩ b ⟨a1, len1, cap1, B⟩ w' ((unhide HT4).below hC (unhide HT4).size) h2 ((unhide HOK).below hC) ((unhide HOB).below hC) (by show len0 ≤ 1500; omega) (by show len1 ≤ 1500; omega)).mono ?_⟩
    rintro e w7 ⟨rfl, hb7⟩
    refine ⟨_, rfl, hb7, hC.trans (hb7.mono hC.size), ?_⟩
    rfl
  · exact Free.owed_pure (Free.goes_plain rfl) fun a w' hC hs hd => ⟨_, run_eql25 (unhide HS1) rfl (hd 3 46 (by kernel_rfl)) (hd 7 50 (by kernel_rfl)) w', rfl⟩
  · exact Free.owed_move (Free.goes_plain rfl) (.inl rfl) fun a w' _ _ hd => hd 8 51 (by kernel_rfl)
  · exact Free.owed_move (Free.goes_guard true rfl rfl rfl (by kernel_rfl) fun _ _ h => h) (.inl rfl) fun a w' _ hs _ => hs 8 (by kernel_rfl)
  · exact Free.owed_move (Free.goes_guard true rfl rfl rfl (by kernel_rfl) fun _ _ h => h) (.inl rfl) fun a w' _ hs _ => hs 1 (by kernel_rfl)
  · refine Free.owed_value (Free.goes_guard true rfl rfl rfl (by kernel_rfl) fun _ _ h => h) fun a w' hC hs hd => ?_
    exact ⟨_, _, run_build1 rfl (hd 11 54 (by kernel_rfl)) w', (Below.refl _ _).alloc (Nat.le_refl _) _, hC.alloc hC.size _, w'.heap.size, rfl, cell_new w' _ _ _ 0⟩
  · refine Free.owed_call (Free.goes_guard true rfl rfl rfl (by kernel_rfl) fun _ _ h => h) fun a w' hC hs hd => ?_
    obtain ⟨b, h1, h2⟩ := hd 12 55 (by kernel_rfl)
    refine ⟨8, _, run_call8 rfl rfl (hd 10 53 (by kernel_rfl)) h1 w', (msum_one ⟨some ⟨gL, 0, none⟩, len0 + 65, capL, long⟩ b ⟨a1, len1, cap1, B⟩ w' ((unhide HT4).below hC (unhide HT4).size) h2 ((unhide HOL).below hC) ((unhide HOB).below hC) (by show len0 + 65 ≤ 1500; omega) (by show len1 ≤ 1500; omega)).mono ?_⟩
    rintro e w7 ⟨rfl, hb7⟩
    refine ⟨_, rfl, hb7, hC.trans (hb7.mono hC.size), ?_⟩
    rfl
  · exact Free.owed_pure (Free.goes_guard true rfl rfl rfl (by kernel_rfl) fun _ _ h => h) fun a w' hC hs hd => ⟨_, run_slice25 rfl (hs 9 (by kernel_rfl)) w', rfl⟩
  · exact Free.owed_move (Free.goes_guard true rfl rfl rfl (by kernel_rfl) fun _ _ h => h) (.inl rfl) fun a w' _ hs _ => hs 1 (by kernel_rfl)
  · refine Free.owed_value (Free.goes_guard true rfl rfl rfl (by kernel_rfl) fun _ _ h => h) fun a w' hC hs hd => ?_
    exact ⟨_, _, run_build1 rfl (hd 15 58 (by kernel_rfl)) w', (Below.refl _ _).alloc (Nat.le_refl _) _, hC.alloc hC.size _, w'.heap.size, rfl, cell_new w' _ _ _ 0⟩
  · refine Free.owed_call (Free.goes_guard true rfl rfl rfl (by kernel_rfl) fun _ _ h => h) fun a w' hC hs hd => ?_
    obtain ⟨b, h1, h2⟩ := hd 16 59 (by kernel_rfl)
    refine ⟨8, _, run_call8 rfl rfl (hd 14 57 (by kernel_rfl)) h1 w', (msum_one ⟨some ⟨b9, 0, none⟩, 32, 32, dg⟩ b ⟨a1, len1, cap1, B⟩ w' ((unhide HT4).below hC (unhide HT4).size) h2 ((unhide HOD).below hC) ((unhide HOB).below hC) (by show 32 ≤ 1500; omega) (by show len1 ≤ 1500; omega)).mono ?_⟩
    rintro e w7 ⟨rfl, hb7⟩
    refine ⟨_, rfl, hb7, hC.trans (hb7.mono hC.size), ?_⟩
    exact congrArg (fun z => Value.agg (bytesV z).toArray) (unhide HeD)
  · exact Free.owed_pure (Free.goes_guard true rfl rfl rfl (by kernel_rfl) fun _ _ h => h) fun a w' hC hs hd => ⟨_, run_eql25 (unhide HS2) rfl (hd 13 56 (by kernel_rfl)) (hd 17 60 (by kernel_rfl)) w', rfl⟩
  · exact Free.owed_pure (Free.goes_plain rfl) fun a w' hC hs hd => ⟨_, run_pick rfl (hd 9 52 (by kernel_rfl)) (hd 18 61 (by kernel_rfl)) w', rfl⟩
  · exact Free.owed_move (Free.goes_plain rfl) (.inl rfl) fun a w' _ _ hd => hd 19 62 (by kernel_rfl)
  · exact Free.owed_move (Free.goes_guard true rfl rfl rfl (by kernel_rfl) fun _ _ h => h) (.inl rfl) fun a w' _ hs _ => hs 0 (by kernel_rfl)
  · exact Free.owed_move (Free.goes_guard true rfl rfl rfl (by kernel_rfl) fun _ _ h => h) (.inl rfl) fun a w' _ hs _ => hs 1 (by kernel_rfl)
  · refine Free.owed_value (Free.goes_guard true rfl rfl rfl (by kernel_rfl) fun _ _ h => h) fun a w' hC hs hd => ?_
    exact ⟨_, _, run_pair rfl (hd 22 65 (by kernel_rfl)) rfl w', (Below.refl _ _).alloc (Nat.le_refl _) _, hC.alloc hC.size _, w'.heap.size, rfl, cell_new w' _ _ _ 0, cell_new w' _ _ _ 1⟩
  · refine Free.owed_call (Free.goes_guard true rfl rfl rfl (by kernel_rfl) fun _ _ h => h) fun a w' hC hs hd => ?_
    obtain ⟨b, h1, h2, h3⟩ := hd 23 66 (by kernel_rfl)
    refine ⟨8, _, run_call8 rfl rfl (hd 21 64 (by kernel_rfl)) h1 w', (msum_two ⟨a0, len0, cap0, key⟩ b ⟨a1, len1, cap1, B⟩ ⟨none, 0, 0, []⟩ w' ((unhide HT4).below hC (unhide HT4).size) h2 h3 ((unhide HOK).below hC) ((unhide HOB).below hC) ((unhide HON).below hC) (by show len0 ≤ 1500; omega) (by show len1 + 0 ≤ 1500; omega)).mono ?_⟩
    rintro e w7 ⟨rfl, hb7⟩
    refine ⟨_, rfl, hb7, hC.trans (hb7.mono hC.size), ?_⟩
    exact congrArg (fun z => Value.agg (bytesV z).toArray) (unhide He1)
  · exact Free.owed_move (Free.goes_guard true rfl rfl rfl (by kernel_rfl) fun _ _ h => h) (.inl rfl) fun a w' _ hs _ => hs 0 (by kernel_rfl)
  · exact Free.owed_move (Free.goes_guard true rfl rfl rfl (by kernel_rfl) fun _ _ h => h) (.inl rfl) fun a w' _ hs _ => hs 1 (by kernel_rfl)
  · refine Free.owed_value (Free.goes_guard true rfl rfl rfl (by kernel_rfl) fun _ _ h => h) fun a w' hC hs hd => ?_
    exact ⟨_, _, run_pair rfl rfl (hd 26 69 (by kernel_rfl)) w', (Below.refl _ _).alloc (Nat.le_refl _) _, hC.alloc hC.size _, w'.heap.size, rfl, cell_new w' _ _ _ 0, cell_new w' _ _ _ 1⟩
  · refine Free.owed_call (Free.goes_guard true rfl rfl rfl (by kernel_rfl) fun _ _ h => h) fun a w' hC hs hd => ?_
    obtain ⟨b, h1, h2, h3⟩ := hd 27 70 (by kernel_rfl)
    refine ⟨8, _, run_call8 rfl rfl (hd 25 68 (by kernel_rfl)) h1 w', (msum_two ⟨a0, len0, cap0, key⟩ b ⟨none, 0, 0, []⟩ ⟨a1, len1, cap1, B⟩ w' ((unhide HT4).below hC (unhide HT4).size) h2 h3 ((unhide HOK).below hC) ((unhide HON).below hC) ((unhide HOB).below hC) (by show len0 ≤ 1500; omega) (by show 0 + len1 ≤ 1500; omega)).mono ?_⟩
    rintro e w7 ⟨rfl, hb7⟩
    refine ⟨_, rfl, hb7, hC.trans (hb7.mono hC.size), ?_⟩
    exact congrArg (fun z => Value.agg (bytesV z).toArray) (unhide He2)
  · exact Free.owed_pure (Free.goes_guard true rfl rfl rfl (by kernel_rfl) fun _ _ h => h) fun a w' hC hs hd => ⟨_, run_eql25 (unhide HS1) rfl (hd 24 67 (by kernel_rfl)) (hd 28 71 (by kernel_rfl)) w', rfl⟩
  · exact Free.owed_pure (Free.goes_plain rfl) fun a w' hC hs hd => ⟨_, run_pick rfl (hd 20 63 (by kernel_rfl)) (hd 29 72 (by kernel_rfl)) w', rfl⟩
  · exact Free.owed_move (Free.goes_plain rfl) (.inr rfl) fun a w' _ _ hd => hd 30 73 (by kernel_rfl)
  · intro w9 hC vals hv
    have e31 : vals 31 = .bool true := hv 31 _ 6 rfl rfl
    clear hv
    simp only [Free.putAll, Act.put, List.setIfInBounds_toArray, List.set_cons_succ, List.set_cons_zero, e31]
    clear e31
    have Hb9 := hide ((unhide Hb4).trans (hC.mono (unhide Hb4).size))
    clear hC Hb4
    go_wp2
    go_ret
    exact ⟨rfl, unhide Hb9⟩

set_option maxHeartbeats 800000 in
theorem early (a0 a1 : Option Addr) (len0 cap0 len1 cap1 : Nat) (m : Int) (w : World) (hT : Tabs w) (h : 64 < len0 ∨ (len0 ≤ 64 ∧ 1000 < len1) ∨ (len0 ≤ 64 ∧ len1 ≤ 1000 ∧ m < 0) ∨ (len0 ≤ 64 ∧ len1 ≤ 1000 ∧ 0 ≤ m ∧ 64 - (len0 : Int) < m)) :
    Calls Tryd.prog 5 #[.slice a0 len0 cap0, .slice a1 len1 cap1, .int .i64 m] w fun e w' => e = .returned (.bool true) ∧ Below w.heap.size w w' := by
  have HT := hide hT
  clear hT
  go_enter Tryd.func5, Tryd.ntmps5
  go_wp2_with fail
  refine (alive_any _ (unhide HT)).mono ?_
  rintro e w1 ⟨rfl, hb1⟩
  have Hb1 := hide hb1
  clear hb1
  rcases h with h | ⟨h, h1⟩ | ⟨h, h1, h2⟩ | ⟨h, h1, h2, h3⟩
  · have e1 : decide (64 < (len0 : Int)) = true := by simp; omega
    go_wp2
    go_ret
    exact ⟨rfl, unhide Hb1⟩
  · have e1 : decide (64 < (len0 : Int)) = false := by simp; omega
    have e2 : decide (1000 < (len1 : Int)) = true := by simp; omega
    go_wp2
    go_ret
    exact ⟨rfl, unhide Hb1⟩
  · have e1 : decide (64 < (len0 : Int)) = false := by simp; omega
    have e2 : decide (1000 < (len1 : Int)) = false := by simp; omega
    have e3 : decide (m < 0) = true := by simp; omega
    go_wp2
    go_ret
    exact ⟨rfl, unhide Hb1⟩
  · have e1 : decide (64 < (len0 : Int)) = false := by simp; omega
    have e2 : decide (1000 < (len1 : Int)) = false := by simp; omega
    have e3 : decide (m < 0) = false := by simp; omega
    have e4 : decide (64 - (len0 : Int) < m) = true := by simp; omega
    go_wp2
    go_ret
    exact ⟨rfl, unhide Hb1⟩

theorem walk (a0 : Option Addr) (len0 cap0 : Nat) (z0 : List Int) (a1 : Option Addr) (len1 cap1 : Nat) (z1 : List Int) (m : Int) (w : World) (hT : Tabs w) (w0 : IsRow .u8 w a0 len0 cap0 z0) (w1 : IsRow .u8 w a1 len1 cap1 z1) (_ : (Lit.int .i64 m).wf = true) :
    Calls Tryd.prog 5 #[.slice a0 len0 cap0, .slice a1 len1 cap1, .int .i64 m] w fun e w' => e = .returned (.bool true) ∧ Below w.heap.size w w' := by
  by_cases h : len0 ≤ 64 ∧ len1 ≤ 1000 ∧ 0 ≤ m ∧ m ≤ 64 - (len0 : Int)
  · obtain ⟨l0, l1, h0, hm⟩ := h
    obtain ⟨key, hK⟩ := w0.row (by omega)
    obtain ⟨B, hB⟩ := w1.row (by omega)
    obtain ⟨M, rfl⟩ := Int.eq_ofNat_of_zero_le h0
    exact main a0 len0 cap0 key a1 len1 cap1 B M w hT hK (nil_of w0) w0.room hB w1.room l0 l1 (by omega)
  · exact early a0 a1 len0 cap0 len1 cap1 m w hT (by omega)

end Go.Proofs.YtnfgakbfnmmhcaaDoor.macKeys
