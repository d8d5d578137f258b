/-
  What the document's Text answers.
-/
import Derived.Test.YtglphnmnnfpcoaaDoorSText
namespace Go.Proofs.YtglphnmnnfpcoaaDoor
open Go.RowKit

set_option maxHeartbeats 1600000 in
set_option maxRecDepth 100000 in
theorem rtext_no (s : S) (hf : Fit s) (hr : right s = false) (w : World) : Calls Tryd.prog 21 #[s.v] w fun e w' => e = .returned (.string (tx (textS s))) ∧ Below w.heap.size w w' := by
  have HW : Hid (∀ w : World, Calls Tryd.prog 15 #[.agg s.cs.toArray] w fun e w' => e = .returned (.bool (right s)) ∧ Below w.heap.size w w') := hide (rright_walk s hf)
  have HS := hide (info26s hf.dg)
  have Hx : Hid (textS s = []) := by
    show _ = _
    unfold textS
    rw [if_neg (by rw [hr]; simp)]
  clear hf
  rw [hr] at HW
  unfold S.v
  go_enter Tryd.func21, Tryd.ntmps21
  go_wp2_with (refine wpList_box 26 _ s.cs rfl rfl rfl ?_)
  intro w1 hA1 hb1 hs1
  have HA1 := hide hA1
  have Hb1 := hide hb1
  clear hA1 hb1
  go_wp2_with (refine wpList_loadAll 26 _ w.heap.size s.cs _ rfl rfl rfl (unhide HA1) Tryd.underlying26 rfl (unhide HS) ?_)
  refine ((unhide HW) w1).mono ?_
  rintro e w3 ⟨rfl, hb3⟩
  have HA3 := hide ((unhide HA1).below hb3)
  have Hb3 := hide ((unhide Hb1).trans (hb3.mono (unhide Hb1).size))
  have Hlt : Hid (w.heap.size < w3.heap.size) := hide (unhide HA3).lt
  clear hb3 Hb1 HW HA1
  go_wp2
  go_ret
  refine ⟨?_, unhide Hb3⟩
  rw [unhide Hx]
  rfl

set_option maxHeartbeats 1600000 in
set_option maxRecDepth 100000 in
theorem rtext_yes (s : S) (hf : Fit s) (hr : right s = true) (w : World) : Calls Tryd.prog 21 #[s.v] w fun e w' => e = .returned (.string (tx (textS s))) ∧ Below w.heap.size w w' := by
  have HW : Hid (∀ w : World, Calls Tryd.prog 15 #[.agg s.cs.toArray] w fun e w' => e = .returned (.bool (right s)) ∧ Below w.heap.size w w') := hide (rright_walk s hf)
  have HS := hide (info26s hf.dg)
  have hg := right_range hr
  have Hx : Hid (s.st = 0 ∧ textS s = word 0 ∨ s.st = 1 ∧ textS s = word 1 ∨ s.st = 2 ∧ textS s = word 2 ++ ([32] ++ dec s.ver ++ [32] ++ dec s.sz.toNat ++ [32] ++ hexT s.dg) ++ ([32] ++ dec s.tr.toNat) ∨ s.st = 3 ∧ textS s = word 3 ++ ([32] ++ dec s.ver ++ [32] ++ dec s.sz.toNat ++ [32] ++ hexT s.dg) ∨ s.st = 4 ∧ textS s = word 4) := by
    show _ ∨ _
    rcases right_cases hr with ⟨h1, h2⟩ | ⟨h1, h2, h3, h4⟩ | ⟨h1, h2, h4⟩
    · have := textS_bare h1
      rw [← h2] at this
      rcases h1 with h | h | h
      · exact .inl ⟨h, by rw [this, h]⟩
      · exact .inr (.inl ⟨h, by rw [this, h]⟩)
      · exact .inr (.inr (.inr (.inr ⟨h, by rw [this, h]⟩)))
    · exact .inr (.inr (.inl ⟨h1, textS_ready hr h1⟩))
    · exact .inr (.inr (.inr (.inl ⟨h1, textS_good hr h1⟩)))
  obtain ⟨ver, hver⟩ : ∃ ver, ver = s.ver := ⟨_, rfl⟩
  obtain ⟨zn, hzn⟩ : ∃ zn : Nat, s.sz = (zn : Int) := ⟨s.sz.toNat, by omega⟩
  obtain ⟨tn, htn⟩ : ∃ tn : Nat, s.tr = (tn : Int) := ⟨s.tr.toNat, by omega⟩
  have HC1 : Hid (∀ w, Calls Tryd.prog 46 #[.int .u64 (ver : Int)] w fun e w' => e = .returned (.string (tx (dec ver))) ∧ Below w.heap.size w w') := hide (digits_walk ver (by rw [hver]; exact hf.ver))
  have HC2 : Hid (∀ w, Calls Tryd.prog 46 #[.int .u64 (zn : Int)] w fun e w' => e = .returned (.string (tx (dec zn))) ∧ Below w.heap.size w w') := hide (digits_walk zn (by omega))
  have HC4 : Hid (∀ w, Calls Tryd.prog 46 #[.int .u64 (tn : Int)] w fun e w' => e = .returned (.string (tx (dec tn))) ∧ Below w.heap.size w w') := hide (digits_walk tn (by omega))
  have HC3 : Hid (∀ w : World, Calls Tryd.prog 47 #[.agg (bytesV s.dg).toArray] w fun e w' => e = .returned (.string (tx (hexT s.dg))) ∧ Below w.heap.size w w') := hide (hrtext_walk s.dg hf.dg)
  have lv := dec_len hf.ver
  have lz := dec_len (n := zn) (by omega)
  have lt := dec_len (n := tn) (by omega)
  have ld := hexT_length s.dg
  rw [hf.dg] at ld
  have H0 : Hid (s.cs[0]? = some (.int .i64 s.st)) := hide rfl
  have H1 : Hid (s.cs[1]? = some (.int .i64 (tn : Int))) := by rw [← htn]; exact hide rfl
  have H2 : Hid (s.cs[2]? = some (.int .u64 (ver : Int))) := by rw [hver]; exact hide rfl
  have H3 : Hid (s.cs[3]? = some (.int .i64 (zn : Int))) := by rw [← hzn]; exact hide rfl
  have H4 : Hid (∀ j v, (bytesV s.dg)[j]? = some v → s.cs[4 + j]? = some v) := by
    show ∀ j v, _
    intro j v hj
    rw [← hj, S.cs, Nat.add_comm]
    rfl
  have HGI := hide (info24s hf.dg)
  rw [hzn, htn, ← hver, Int.toNat_natCast, Int.toNat_natCast] at Hx
  rw [← hver] at lv
  have hz1 : zn ≤ 65536 := by omega
  have ht1 : (tn : Int) ≤ 7 := by omega
  rw [hr] at HW
  clear hf hg hver hzn htn
  generalize dec ver = V at *
  generalize dec zn = Z at *
  generalize dec tn = Y at *
  generalize hexT s.dg = D at *
  generalize bytesV s.dg = G at *
  generalize textS s = T at *
  generalize s.st = x at *
  unfold S.v
  go_enter Tryd.func21, Tryd.ntmps21
  go_wp2_with (refine wpList_box 26 _ s.cs rfl rfl rfl ?_)
  intro w1 hA1 hb1 hs1
  have HA1 := hide hA1
  have Hb1 := hide hb1
  clear hA1 hb1
  go_wp2_with (refine wpList_loadAll 26 _ w.heap.size s.cs _ rfl rfl rfl (unhide HA1) Tryd.underlying26 rfl (unhide HS) ?_)
  refine ((unhide HW) w1).mono ?_
  rintro e w3 ⟨rfl, hb3⟩
  have HA3 := hide ((unhide HA1).below hb3)
  have Hb3 := hide ((unhide Hb1).trans (hb3.mono (unhide Hb1).size))
  have Hlt : Hid (w.heap.size < w3.heap.size) := hide (unhide HA3).lt
  clear hb3 Hb1 HW HA1
  have c0 := (unhide HA3).cell (unhide H0)
  have D2 := hide ((unhide HA3).cell (unhide H2))
  have D3 := hide ((unhide HA3).cell (unhide H3))
  have HRG := hide ((unhide HA3).rangeMid 4 G (unhide H4))
  go_wp2_with fail
  · skip
    refine Free.wp_region_tail 15 (fun j (v : Value) (_ : World) => v = (fun j => match j with | 0 => .pointer (some ⟨w.heap.size, 2, none⟩) | 1 => .int .u64 (ver : Int) | 2 => .string (tx V) | 3 => .string (tx ([32] ++ V)) | 4 => .string (tx ([32] ++ V ++ [32])) | 5 => .pointer (some ⟨w.heap.size, 3, none⟩) | 6 => .int .i64 (zn : Int) | 7 => .int .u64 (zn : Int) | 8 => .string (tx Z) | 9 => .string (tx ([32] ++ V ++ [32] ++ Z)) | 10 => .string (tx ([32] ++ V ++ [32] ++ Z ++ [32])) | 11 => .pointer (some ⟨w.heap.size, 4, none⟩) | 12 => .agg G.toArray | 13 => .string (tx D) | 14 => .string (tx ([32] ++ V ++ [32] ++ Z ++ [32] ++ D)) | _ => undef) j) (fun w' => Below w3.heap.size w3 w') (by kernel_rfl) (by decide) (by kernel_rfl) (by kernel_rfl) (by kernel_rfl) (fun _ _ _ _ h _ => h) (Below.drew (Below.refl _ _)) ⟨?_, ?_, ?_, ?_, ?_, ?_, ?_, ?_, ?_, ?_, ?_, ?_, ?_, ?_, ?_, trivial⟩ ?_
    · exact Free.owed_pure (Free.goes_plain rfl) fun a w' hC hs hd => ⟨_, op_f26_2 rfl (hs 1 (by kernel_rfl)) w', rfl⟩
    · exact Free.owed_pure (Free.goes_plain rfl) fun a w' hC hs hd => ⟨_, op_load22 rfl (hd 0 7 (by kernel_rfl)) ((hC.cell (p := ⟨w.heap.size, 2, none⟩) (unhide Hlt)).trans (unhide D2)), rfl⟩
    · refine Free.owed_call (Free.goes_plain rfl) fun a w' hC hs hd => ⟨46, #[.int .u64 (ver : Int)], op_call46 (u := .int .u64 (ver : Int)) rfl (hd 1 8 (by kernel_rfl)) rfl w', (unhide HC1 w').mono ?_⟩
      rintro e w2 ⟨rfl, hb⟩
      exact ⟨_, rfl, hb, hC.trans (hb.mono hC.size), rfl⟩
    · exact Free.owed_pure (Free.goes_plain rfl) fun a w' hC hs hd => ⟨_, op_addT rfl rfl (hd 2 9 (by kernel_rfl)) (by simp only [List.length_cons, List.length_nil]; omega) w', rfl⟩
    · exact Free.owed_pure (Free.goes_plain rfl) fun a w' hC hs hd => ⟨_, op_addT rfl (hd 3 10 (by kernel_rfl)) rfl (by simp only [List.length_append, List.length_cons, List.length_nil]; omega) w', rfl⟩
    · exact Free.owed_pure (Free.goes_plain rfl) fun a w' hC hs hd => ⟨_, op_f26_3 rfl (hs 1 (by kernel_rfl)) w', rfl⟩
    · exact Free.owed_pure (Free.goes_plain rfl) fun a w' hC hs hd => ⟨_, op_load3 rfl (hd 5 12 (by kernel_rfl)) ((hC.cell (p := ⟨w.heap.size, 3, none⟩) (unhide Hlt)).trans (unhide D3)), rfl⟩
    · exact Free.owed_pure (Free.goes_plain rfl) fun a w' hC hs hd => ⟨_, op_conv3_22 rfl (hd 6 13 (by kernel_rfl)) (by omega) (by omega) w', rfl⟩
    · refine Free.owed_call (Free.goes_plain rfl) fun a w' hC hs hd => ⟨46, #[.int .u64 (zn : Int)], op_call46 (u := .int .u64 (zn : Int)) rfl (hd 7 14 (by kernel_rfl)) rfl w', (unhide HC2 w').mono ?_⟩
      rintro e w2 ⟨rfl, hb⟩
      exact ⟨_, rfl, hb, hC.trans (hb.mono hC.size), rfl⟩
    · exact Free.owed_pure (Free.goes_plain rfl) fun a w' hC hs hd => ⟨_, op_addT rfl (hd 4 11 (by kernel_rfl)) (hd 8 15 (by kernel_rfl)) (by simp only [List.length_append, List.length_cons, List.length_nil]; omega) w', rfl⟩
    · exact Free.owed_pure (Free.goes_plain rfl) fun a w' hC hs hd => ⟨_, op_addT rfl (hd 9 16 (by kernel_rfl)) rfl (by simp only [List.length_append, List.length_cons, List.length_nil]; omega) w', rfl⟩
    · exact Free.owed_pure (Free.goes_plain rfl) fun a w' hC hs hd => ⟨_, op_f26_4 rfl (hs 1 (by kernel_rfl)) w', rfl⟩
    · exact Free.owed_pure (Free.goes_plain rfl) fun a w' hC hs hd => ⟨_, op_load24 rfl (hd 11 18 (by kernel_rfl)) (rangeAt_keep (unhide HRG) hC (unhide Hlt)) (unhide HGI), rfl⟩
    · refine Free.owed_call (Free.goes_plain rfl) fun a w' hC hs hd => ⟨47, #[.agg G.toArray], op_call47 (u := .agg G.toArray) rfl (hd 12 19 (by kernel_rfl)) rfl w', (unhide HC3 w').mono ?_⟩
      rintro e w2 ⟨rfl, hb⟩
      exact ⟨_, rfl, hb, hC.trans (hb.mono hC.size), rfl⟩
    · exact Free.owed_pure (Free.goes_plain rfl) fun a w' hC hs hd => ⟨_, op_addT rfl (hd 10 17 (by kernel_rfl)) (hd 13 20 (by kernel_rfl)) (by simp only [List.length_append, List.length_cons, List.length_nil]; omega) w', rfl⟩
    intro w5 hb5 vals hv
    have e14 : vals 14 = .string (tx ([32] ++ V ++ [32] ++ Z ++ [32] ++ D)) := hv 14 _ 21 rfl rfl
    clear hv
    simp only [Free.putAll, List.take, List.drop, Act.put, List.setIfInBounds_toArray, List.set_cons_succ, List.set_cons_zero, e14]
    clear e14
    have c5 := (hb5.cell (p := ⟨w.heap.size, 0, none⟩) (unhide Hlt)).trans c0
    have c6 := (hb5.cell (p := ⟨w.heap.size, 1, none⟩) (unhide Hlt)).trans ((unhide HA3).cell (unhide H1))
    have Hb5 := hide ((unhide Hb3).trans (hb5.mono (unhide Hb3).size))
    have lR : ([32] ++ V ++ [32] ++ Z ++ [32] ++ D : List UInt8).length ≤ 1000 := by simp only [List.length_append, List.length_cons, List.length_nil]; omega
    clear hb5 c0 D2 D3 HRG HC1 HC2 HC3
    generalize ([32] ++ V ++ [32] ++ Z ++ [32] ++ D : List UInt8) = R at *
    rcases unhide Hx with ⟨rfl, hx⟩ | ⟨rfl, hx⟩ | ⟨rfl, hx⟩ | ⟨rfl, hx⟩ | ⟨rfl, hx⟩
    · have HX := hide hx
      clear hx Hx
      go_wp2
      go_ret
      refine ⟨?_, unhide Hb5⟩
      rw [unhide HX]
      rfl
    · have HX := hide hx
      clear hx Hx
      go_wp2
      go_ret
      refine ⟨?_, unhide Hb5⟩
      rw [unhide HX]
      rfl
    · have HX := hide hx
      clear hx Hx
      have hcv : IntKind.u64.wrap (tn : Int) = (tn : Int) := by rw [IntKind.wrap_u64]; omega
      have e1 : tx Go.Proofs.YtglphnmnnfpcoaaDoor.w2 ++ tx R = tx (Go.Proofs.YtglphnmnnfpcoaaDoor.w2 ++ R) := tx_append _ R
      have z1 : (tx Go.Proofs.YtglphnmnnfpcoaaDoor.w2).size + (tx R).size ≤ 9223372036854775807 := by rw [tx_size, tx_size]; show 5 + _ ≤ _; omega
      have e2 : tx (Go.Proofs.YtglphnmnnfpcoaaDoor.w2 ++ R) ++ (⟨#[32]⟩ : ByteArray) = tx (Go.Proofs.YtglphnmnnfpcoaaDoor.w2 ++ R ++ [32]) := tx_append (Go.Proofs.YtglphnmnnfpcoaaDoor.w2 ++ R) [32]
      have z2 : (tx (Go.Proofs.YtglphnmnnfpcoaaDoor.w2 ++ R)).size + (⟨#[32]⟩ : ByteArray).size ≤ 9223372036854775807 := by rw [tx_size, List.length_append]; show 5 + _ + 1 ≤ _; omega
      have e3 : tx (Go.Proofs.YtglphnmnnfpcoaaDoor.w2 ++ R ++ [32]) ++ tx Y = tx (Go.Proofs.YtglphnmnnfpcoaaDoor.w2 ++ R ++ [32] ++ Y) := tx_append _ Y
      have z3 : (tx (Go.Proofs.YtglphnmnnfpcoaaDoor.w2 ++ R ++ [32])).size + (tx Y).size ≤ 9223372036854775807 := by rw [tx_size, tx_size, List.length_append, List.length_append]; show 5 + _ + 1 + _ ≤ _; omega
      have HX : Hid (T = Go.Proofs.YtglphnmnnfpcoaaDoor.w2 ++ R ++ [32] ++ Y) := by show _ = _; rw [unhide HX, List.append_assoc (Go.Proofs.YtglphnmnnfpcoaaDoor.w2 ++ R)]; rfl
      have ew : tx Go.Proofs.YtglphnmnnfpcoaaDoor.w2 = (⟨#[114, 101, 97, 100, 121]⟩ : ByteArray) := rfl
      rw [ew] at e1 z1
      generalize hF : tx (Go.Proofs.YtglphnmnnfpcoaaDoor.w2 ++ R ++ [32] ++ Y) = F at *
      have HF := hide hF
      clear hF ew
      generalize tx (Go.Proofs.YtglphnmnnfpcoaaDoor.w2 ++ R ++ [32]) = A3 at *
      generalize tx (Go.Proofs.YtglphnmnnfpcoaaDoor.w2 ++ R) = A2 at *
      generalize tx R = RR at *
      generalize tx Y = YY at *
      go_wp2_with fail
      refine (unhide HC4 w5).mono ?_
      rintro e w6 ⟨rfl, hb6⟩
      have Hb6 := hide ((unhide Hb5).trans (hb6.mono (unhide Hb5).size))
      clear hb6
      go_wp2
      go_ret
      refine ⟨?_, unhide Hb6⟩
      rw [unhide HX, unhide HF]
      rfl
    · have HX : Hid (T = Go.Proofs.YtglphnmnnfpcoaaDoor.w3 ++ R) := hide hx
      clear hx Hx
      have e1 : tx Go.Proofs.YtglphnmnnfpcoaaDoor.w3 ++ tx R = tx (Go.Proofs.YtglphnmnnfpcoaaDoor.w3 ++ R) := tx_append _ R
      have z1 : (tx Go.Proofs.YtglphnmnnfpcoaaDoor.w3).size + (tx R).size ≤ 9223372036854775807 := by rw [tx_size, tx_size]; show 4 + _ ≤ _; omega
      have ew : tx Go.Proofs.YtglphnmnnfpcoaaDoor.w3 = (⟨#[103, 111, 111, 100]⟩ : ByteArray) := rfl
      rw [ew] at e1 z1
      generalize hF : tx (Go.Proofs.YtglphnmnnfpcoaaDoor.w3 ++ R) = F at *
      have HF := hide hF
      clear hF ew
      generalize tx R = RR at *
      go_wp2
      go_ret
      refine ⟨?_, unhide Hb5⟩
      rw [unhide HX, unhide HF]
      rfl
    · have HX := hide hx
      clear hx Hx
      go_wp2
      go_ret
      refine ⟨?_, unhide Hb5⟩
      rw [unhide HX]
      rfl

theorem rtext_walk (s : S) (hf : Fit s) (w : World) : Calls Tryd.prog 21 #[s.v] w fun e w' => e = .returned (.string (tx (textS s))) ∧ Below w.heap.size w w' := by
  by_cases hr : right s = true
  · exact rtext_yes s hf hr w
  · exact rtext_no s hf (by simpa using hr) w
end Go.Proofs.YtglphnmnnfpcoaaDoor
