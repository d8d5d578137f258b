/-
  What mac.Sum answers: HMAC of the key and all parts' bytes.
-/
import Derived.Test.YtnfgakbfnmmhcaaDoorTurned
import Derived.Test.YtnfgakbfnmmhcaaDoorWrite
namespace Go.Proofs.YtnfgakbfnmmhcaaDoor
open Go.RowKit

theorem run_load35z {ρ : Operand → Value} {o : Oper} {x : Operand} {b : Nat} {cs : List Value} {w : World} (ho : o.op = .load 35 x) (h : ρ x = .pointer (some ⟨b, 0, none⟩)) (hc : w.rangeAt b 0 cs) (hl : cs.length = 64) :
    (execOp ρ o).run Tryd.prog w = .ok (.value (.agg cs.toArray)) w := by
  have hr := run_loadAt_mid (P := Tryd.prog) w b 0 35 cs _ hc Tryd.underlying35 rfl (by rw [hl]; exact info35)
  unfold execOp
  simp only [ho, h, Sem.run_bind, hr, Result.andThen, Sem.run_pure]
theorem run_call16 {ρ : Operand → Value} {o : Oper} {t : Nat} {v : Value} {k : Int} (ho : o.op = .call { callee := .value (.func 16), args := #[.tmp t, .const (.int .u8 k)], argTypes := #[35, 5] }) (hf : ρ (.func 16) = .func (.func 16) #[] #[]) (h : ρ (.tmp t) = v) (h' : ρ (.const (.int .u8 k)) = .int .u8 k) (w : World) :
    (execOp ρ o).run Tryd.prog w = .ok (.enter 16 #[v, .int .u8 k]) w := by
  unfold execOp
  rw [ho]
  go_simp
theorem run_slice25 {ρ : Operand → Value} {o : Oper} {x : Operand} {b : Nat} (ho : o.op = .slice 25 x none none none) (h : ρ x = .pointer (some ⟨b, 0, none⟩)) (w : World) :
    (execOp ρ o).run Tryd.prog w = .ok (.value (.slice (some ⟨b, 0, none⟩) 32 32)) w := by
  unfold execOp
  rw [ho]
  go_simp
theorem run_pair {ρ : Operand → Value} {o : Oper} {x y : Operand} {aa ab : Option Addr} {ll cc lb cb : Nat} (ho : o.op = .buildSlice 34 2 #[(0, x), (1, y)]) (h : ρ x = .slice aa ll cc) (h' : ρ y = .slice ab lb cb) (w : World) :
    (execOp ρ o).run Tryd.prog w = .ok (.value (.slice (some ⟨w.heap.size, 0, none⟩) 2 2)) (w.alloc (.cells #[.slice aa ll cc, .slice ab lb cb] 22)) := by
  unfold execOp
  rw [ho]
  go_simp
theorem run_call10 {ρ : Operand → Value} {o : Oper} {t : Nat} {v : Value} (ho : o.op = .call { callee := .value (.func 10), args := #[.tmp t], argTypes := #[34] }) (hf : ρ (.func 10) = .func (.func 10) #[] #[]) (h : ρ (.tmp t) = v) (w : World) :
    (execOp ρ o).run Tryd.prog w = .ok (.enter 10 #[v]) w := by
  unfold execOp
  rw [ho]
  go_simp

theorem sum_two (b : Nat) (s t : Sl) (w : World) (hT : Tabs w) (hcell : w.cell? ⟨b, 0, none⟩ = some (.slice s.a s.len s.cap)) (hcell' : w.cell? ⟨b, 1, none⟩ = some (.slice t.a t.len t.cap)) (h : s.Ok w) (h' : t.Ok w) (hl : s.len + t.len ≤ 1500) :
    Calls Tryd.prog 10 #[.slice (some ⟨b, 0, none⟩) 2 2] w fun e w' => e = .returned (.agg (bytesV (Sha.sum (s.bs ++ t.bs))).toArray) ∧ Below w.heap.size w w' := by
  have hp : Parts w (some ⟨b, 0, none⟩) 2 [s.bs, t.bs] := ⟨rfl, by decide, fun i hi => by
    match i, hi with
    | 0, _ => exact ⟨b, 0, s.a, s.len, s.cap, rfl, hcell, h.1⟩
    | 1, _ => exact ⟨b, 0, t.a, t.len, t.cap, rfl, hcell', h'.1⟩⟩
  have hf : Fits w (some ⟨b, 0, none⟩) 2 := by
    intro i hi b' off ai li ci hb hc
    cases hb
    match i, hi with
    | 0, _ =>
      rw [show (0 + 0 : Nat) = 0 from rfl, hcell] at hc
      cases hc
      exact h.2
    | 1, _ =>
      rw [show (0 + 1 : Nat) = 1 from rfl, hcell'] at hc
      cases hc
      exact h'.2
  have h := sum_any (some ⟨b, 0, none⟩) 2 2 [s.bs, t.bs] w hT hp hf (by simp [h.1.1, h'.1.1]; omega)
  simpa using h

/-- What the operations of the last region yield. -/
def VM (blk R : List (BitVec 8)) (b9 : Nat) : Nat → Value → World → Prop
  | 0, v, _ => v = .agg (bytesV blk).toArray
  | 1, v, w => ∃ b, v = .slice (some ⟨b, 0, none⟩) 64 64 ∧ Row w (some ⟨b, 0, none⟩) 64 (Mac.turned blk 92#8)
  | 2, v, _ => v = .slice (some ⟨b9, 0, none⟩) 32 32
  | 3, v, w => ∃ b c, v = .slice (some ⟨b, 0, none⟩) 2 2 ∧ w.cell? ⟨b, 0, none⟩ = some (.slice (some ⟨c, 0, none⟩) 64 64) ∧ w.cell? ⟨b, 1, none⟩ = some (.slice (some ⟨b9, 0, none⟩) 32 32) ∧ Row w (some ⟨c, 0, none⟩) 64 (Mac.turned blk 92#8)
  | 4, v, _ => v = .agg (bytesV R).toArray
  | _, _, _ => True

theorem VM.stable {blk R : List (BitVec 8)} {b9 : Nat} (j : Nat) (v : Value) (w w' : World) (h : VM blk R b9 j v w) (hb : Below w.heap.size w w') : VM blk R b9 j v w' := by
  unfold VM at *
  split at h
  all_goals first | exact h | skip
  · obtain ⟨b, hv, hr⟩ := h
    exact ⟨b, hv, hr.below hb⟩
  · obtain ⟨b, c, hv, h0, h1, hr⟩ := h
    exact ⟨b, c, hv, kept_cell h0 hb, kept_cell h1 hb, hr.below hb⟩

set_option maxRecDepth 100000 in
set_option maxHeartbeats 800000 in
theorem msum_any (a : Option Addr) (len cap : Nat) (key : List (BitVec 8)) (ap : Option Addr) (n capp : Nat) (ps : List (List (BitVec 8))) (w : World) (hT : Tabs w) (hk : Row w a len key) (hlc : len ≤ cap) (hkl : len < 1152921504606840000)
    (hr : Parts w ap n ps) (hf : Fits w ap n) (hm : ps.flatten.length < 1152921504606830000) :
    Calls Tryd.prog 8 #[.slice a len cap, .slice ap n capp] w fun e w' => e = .returned (.agg (bytesV (Mac.sum key ps.flatten)).toArray) ∧ Below w.heap.size w w' := by
  have HT := hide hT
  have Hk := hide hk
  have Hr := hide hr
  have Hf := hide hf
  have hsz := hT.size
  have hnl := hr.2.1
  clear hT hr hf hk
  go_enter Tryd.func8, Tryd.ntmps8
  go_wp2_with (refine wpList_alloc 25 25 (bytesV zerosB) rfl rfl alloc25 ?_)
  intro w1 hA1 hb1 hs1
  have HA1 := hide hA1
  have Hb1 := hide hb1
  clear hA1 hb1
  go_wp2_with fail
  refine (fill_any a len cap key _ ((unhide HT).below (unhide Hb1) hsz) ((unhide Hk).below (unhide Hb1)) hlc hkl).mono ?_
  rintro e w2 ⟨rfl, hb2⟩
  have HA2 := hide ((unhide HA1).below hb2)
  have Hb2 := hide ((unhide Hb1).trans (hb2.mono (unhide Hb1).size))
  have hs2 : w.heap.size < w2.heap.size := (unhide HA2).lt
  clear hb2 HA1 Hb1 hs1
  have Hbl := hide (Mac.block_length key)
  have Hbv : Hid ((bytesV (Mac.block key)).length = 64) := by show _ = _; rw [bytesV_length, Mac.block_length]
  have Hone := hide (bytesV_one (Mac.block key))
  obtain ⟨blk, hblk⟩ : ∃ blk, blk = Mac.block key := ⟨_, rfl⟩
  have Hsum : Hid (Mac.sum key ps.flatten = Sha.sum (Mac.turned blk 92#8 ++ Sha.sum (Mac.turned blk 54#8 ++ ps.flatten))) := by show _ = _; rw [hblk]; rfl
  rw [← hblk] at Hbl Hbv Hone ⊢
  clear hblk
  obtain ⟨bv, hbv⟩ : ∃ bv, bv = bytesV blk := ⟨_, rfl⟩
  rw [← hbv] at Hbv Hone ⊢
  have HBV := hide hbv
  clear hbv
  go_wp2_with (refine wpList_alloc 35 35 (bytesV zeros64) rfl rfl alloc35 ?_)
  intro w3 hA3 hb3 hs3
  have HR3 := hide ((unhide HA2).below hb3)
  have Hb3 := hide ((unhide Hb2).trans (hb3.mono (unhide Hb2).size))
  have HA3 := hide hA3
  clear hA3 hb3 HA2 Hb2
  obtain ⟨b5, hb5⟩ : ∃ b, b = w2.heap.size := ⟨_, rfl⟩
  rw [← hb5] at HA3 hs3 hs2 ⊢
  clear hb5
  go_wp2_with (refine wpList_storeAll 35 _ _ b5 bv (bytesV zeros64) rfl rfl rfl rfl (unhide HA3) (by rw [unhide Hbv]; rfl) (by rw [unhide Hbv]; exact info35) (unhide Hone) ?_)
  intro w4 hA4 hg4 hs4
  have HR4 := hide ((unhide HR3).grown hg4 (by simp; omega))
  have Hb4 := hide ((unhide Hb3).grown hg4 (unhide Hb3).size (fun k hk => by simp at hk; omega))
  have HA4 := hide hA4
  clear hA4 hg4 HA3 HR3 Hb3 hs3 hs4
  go_wp2_with fail
  refine (new_any _ ((unhide HT).below (unhide Hb4) hsz)).mono ?_
  rintro e w5 ⟨d, rfl, hD5, hd5, hb5⟩
  have hbd : b5 < d := Nat.lt_of_lt_of_le (unhide HA4).lt hd5
  have HR5 := hide ((unhide HR4).below hb5)
  have HA5 := hide ((unhide HA4).below hb5)
  have Hb5 := hide ((unhide Hb4).trans (hb5.mono (unhide Hb4).size))
  have HD5 := hide hD5
  clear hD5 hd5 hb5 HR4 HA4 Hb4
  go_wp2_with (refine wpList_loadAll 35 _ b5 bv _ rfl rfl rfl (unhide HA5) Tryd.underlying35 rfl (by rw [unhide Hbv]; exact info35) ?_)
  refine (turned_any blk 54#8 54 rfl bv (unhide HBV) (unhide Hbl) _).mono ?_
  rintro e w6 ⟨t6, rfl, hrow6, ht6, ht6', hb6⟩
  have HR6 := hide ((unhide HR5).below hb6)
  have HA6 := hide ((unhide HA5).below hb6)
  have HD6 := hide ((unhide HD5).below hb6 (unhide HD5).lt)
  have hd6 : d < t6 := Nat.lt_of_lt_of_le (unhide HD5).lt ht6
  have Hb6 := hide ((unhide Hb5).trans (hb6.mono (unhide Hb5).size))
  have Hrow6 := hide hrow6
  clear hrow6 ht6 ht6' hb6 HR5 HA5 HD5 Hb5
  go_wp2_with fail
  refine (write_any d [] (Mac.turned blk 54#8) _ _ _ _ ((unhide HT).below (unhide Hb6) hsz) (unhide HD6) (unhide Hrow6) (Nat.le_refl _) (fun _ ad h => by cases h; show t6 ≠ d; omega) (by simp)).mono ?_
  rintro e w7 ⟨rfl, hD7, hg7⟩
  have HD7 := hide hD7
  have HR7 := hide ((unhide HR6).grown hg7 (by simp; omega))
  have HA7 := hide ((unhide HA6).grown hg7 (by simp; omega))
  have Hb7 := hide ((unhide Hb6).grown hg7 (unhide Hb6).size (fun k hk => by simp at hk; omega))
  rw [List.nil_append] at HD7
  have Htl : Hid ((Mac.turned blk 54#8).length = 64) := by show _ = _; rw [Mac.turned_length, unhide Hbl]
  obtain ⟨K, hK⟩ : ∃ K, K = Mac.turned blk 54#8 := ⟨_, rfl⟩
  rw [← hK] at HD7 Hsum Htl
  clear hD7 hg7 HR6 HA6 HD6 Hb6 Hrow6 hd6 hK
  go_wp2_with fail
  go_loopw [19] (fun i wr => ∃ k : Nat, k ≤ n ∧ i = .int .i64 k ∧ Dig wr d (K ++ (ps.take k).flatten) ∧ Arr wr w.heap.size (bytesV zerosB) ∧ Arr wr b5 bv ∧ Below w.heap.size w wr) (fun i _ => n - (intOf i).toNat)
  case atStart => exact ⟨0, by omega, rfl, by simpa using unhide HD7, unhide HR7, unhide HA7, unhide Hb7⟩
  case round =>
    obtain ⟨k, hk, rfl, hdig, hR, hA, hb⟩ := hrel
    clear HD7 HR7 HA7 Hb7
    have Hdig := hide hdig
    have HR := hide hR
    have HA := hide hA
    have Hb := hide hb
    clear hdig hR hA hb
    by_cases hlt : k < n
    · obtain ⟨pb, off, ai, li, ci, rfl, hcell, hrow⟩ := (unhide Hr).2.2 k hlt
      have hts := take_snoc' ps k (by have := (unhide Hr).1; omega)
      have hfl : (ps.take (k + 1)).flatten = (ps.take k).flatten ++ ps.getD k [] := by rw [hts, List.flatten_append]; simp
      have Hfl := hide hfl
      have hli := unhide Hf k hlt pb off ai li ci rfl hcell
      have Hlen : Hid ((K ++ (ps.take k).flatten).length + li < 1152921504606846976) := by
        show _ < _
        have h1 := flatten_take_le ps (k + 1)
        rw [hfl, List.length_append, hrow.1] at h1
        rw [List.length_append, unhide Htl]
        omega
      have hc := kept_cell hcell (unhide Hb)
      have Hap := hide (Row.apart hrow (b := d) (by omega))
      have Hrow := hide (hrow.below (unhide Hb))
      clear hts hfl hcell hrow
      generalize ps.getD k [] = p at *
      go_wp2_with fail
      refine (write_any d _ p _ _ _ _ ((unhide HT).below (unhide Hb) hsz) (unhide Hdig) (unhide Hrow) hli (unhide Hap) (unhide Hlen)).mono ?_
      rintro e w3 ⟨rfl, hdig3, hg3⟩
      have Hdig3 := hide hdig3
      have HR3 := hide ((unhide HR).grown hg3 (by simp; omega))
      have HA3 := hide ((unhide HA).grown hg3 (by simp; omega))
      have Hb3 := hide ((unhide Hb).grown hg3 (unhide Hb).size (fun k hk => by simp at hk; omega))
      clear hdig3 hg3 HA HR Hb Hdig
      go_wp2
      go_roundw
      case rel => exact ⟨k + 1, by omega, by go_num, by rw [unhide Hfl, ← List.append_assoc]; exact unhide Hdig3, unhide HR3, unhide HA3, unhide Hb3⟩
      case measure => simp [intOf]; omega
    · have hts : ps.take k = ps := List.take_of_length_le (by have := (unhide Hr).1; omega)
      rw [hts] at Hdig
      clear hts
      go_wp2_with fail
      refine (dsum_any d (K ++ ps.flatten) _ ((unhide HT).below (unhide Hb) hsz) (unhide Hdig) (by rw [List.length_append, unhide Htl]; omega)).mono ?_
      rintro e w6 ⟨rfl, hb6⟩
      have HR6 := hide ((unhide HR).below hb6)
      have HA6 := hide ((unhide HA).below hb6)
      have h56 : b5 < w6.heap.size := (unhide HA6).lt
      have Hb6 := hide ((unhide Hb).trans (hb6.mono (unhide Hb).size))
      clear hb6 HA HR Hb Hdig
      obtain ⟨S, hS⟩ : ∃ S, S = Sha.sum (K ++ ps.flatten) := ⟨_, rfl⟩
      have HSl : Hid (S.length = 32) := by show _ = _; rw [hS, Sha.sum_length]
      rw [← hS] at Hsum ⊢
      clear hS
      have Hsl : Hid ((bytesV S).length = 32) := by show _ = _; rw [bytesV_length, unhide HSl]
      have Hso := hide (bytesV_one S)
      obtain ⟨rs, hrs⟩ : ∃ rs, rs = bytesV S := ⟨_, rfl⟩
      rw [← hrs] at Hsl Hso ⊢
      have Hrs := hide hrs
      clear hrs
      go_wp2_with (refine wpList_alloc 25 25 (bytesV zerosB) rfl rfl alloc25 ?_)
      intro w8 hA8 hb8 hs8
      obtain ⟨b9, hb9⟩ : ∃ b, b = w6.heap.size := ⟨_, rfl⟩
      have HR8 := hide ((unhide HR6).below hb8)
      have HB8 := hide ((unhide HA6).below hb8)
      have Hb8 := hide ((unhide Hb6).trans (hb8.mono (unhide Hb6).size))
      rw [← hb9] at hA8 hs8 h56 ⊢
      have HA8 := hide hA8
      clear hA8 hb8 HR6 HA6 Hb6 hb9
      go_wp2_with (refine wpList_storeAll 25 _ _ b9 rs (bytesV zerosB) rfl rfl rfl rfl (unhide HA8) (by rw [unhide Hsl]; rfl) (by rw [unhide Hsl]; exact info25) (unhide Hso) ?_)
      intro w9 hA9 hg9 hs9
      have HR9 := hide ((unhide HR8).grown hg9 (by simp; omega))
      have HB9 := hide ((unhide HB8).grown hg9 (by simp; omega))
      have Hb9 := hide ((unhide Hb8).grown hg9 (unhide Hb8).size (fun k hk => by simp at hk; omega))
      have Hrow9 : Hid (Row w9 (some ⟨b9, 0, none⟩) 32 S) := by
        have hA9' := hA9
        rw [unhide Hrs] at hA9'
        have := Arr.row (rest := []) (by rw [List.append_nil]; exact hA9') (by rw [unhide HSl]; decide)
        rw [unhide HSl] at this
        exact this
      clear hA9 hg9 HR8 HB8 Hb8 HA8 hs8 hs9
      go_wp2_with fail
      refine Free.wp_region_tail 5 (VM blk (Sha.sum (Mac.turned blk 92#8 ++ S)) b9) (fun w' => Below w9.heap.size w9 w') (by kernel_rfl) (by decide) (by kernel_rfl) (by kernel_rfl) (by kernel_rfl) VM.stable (Below.drew (Below.refl _ _)) ⟨?_, ?_, ?_, ?_, ?_, trivial⟩ ?_
      · refine Free.owed_pure (Free.goes_plain rfl) fun a w' hC hs hd => ?_
        exact ⟨_, run_load35z rfl (hs 5 (by kernel_rfl)) ((unhide HB9).below hC).range (unhide Hbv), by rw [unhide HBV]; rfl⟩
      · refine Free.owed_call (Free.goes_plain rfl) fun a w' hC hs hd => ?_
        refine ⟨16, _, run_call16 rfl rfl (hd 0 29 (by kernel_rfl)) rfl w', (turned_any blk 92#8 92 rfl _ rfl (unhide Hbl) w').mono ?_⟩
        rintro e w4 ⟨b, rfl, hrow, _, _, hb4⟩
        exact ⟨_, rfl, hb4, hC.trans (hb4.mono hC.size), b, rfl, hrow⟩
      · exact Free.owed_pure (Free.goes_plain rfl) fun a w' hC hs hd => ⟨_, run_slice25 rfl (hs 9 (by kernel_rfl)) w', rfl⟩
      · refine Free.owed_value (Free.goes_plain rfl) fun a w' hC hs hd => ?_
        obtain ⟨c, h1, h2⟩ := hd 1 30 (by kernel_rfl)
        exact ⟨_, _, run_pair rfl h1 (hd 2 31 (by kernel_rfl)) w', (Below.refl _ _).alloc (Nat.le_refl _) _, hC.alloc hC.size _, w'.heap.size, c, rfl, cell_new w' _ _ _ 0, cell_new w' _ _ _ 1, h2.alloc _⟩
      · refine Free.owed_call (Free.goes_plain rfl) fun a w' hC hs hd => ?_
        obtain ⟨b, c, h1, h2, h3, h4⟩ := hd 3 32 (by kernel_rfl)
        refine ⟨10, _, run_call10 rfl rfl h1 w', (sum_two b ⟨some ⟨c, 0, none⟩, 64, 64, Mac.turned blk 92#8⟩ ⟨some ⟨b9, 0, none⟩, 32, 32, S⟩ w' ((unhide HT).below ((unhide Hb9).trans (hC.mono (unhide Hb9).size)) hsz) h2 h3 ⟨h4, Nat.le_refl _⟩ ⟨(unhide Hrow9).below hC, Nat.le_refl _⟩ (show 64 + 32 ≤ 1500 by decide)).mono ?_⟩
        rintro e w7 ⟨rfl, hb7⟩
        exact ⟨_, rfl, hb7, hC.trans (hb7.mono hC.size), rfl⟩
      · intro w10 hC vals hv
        have e4 : vals 4 = .agg (bytesV (Sha.sum (Mac.turned blk 92#8 ++ S))).toArray := hv 4 _ 33 rfl rfl
        clear hv
        rw [← unhide Hsum] at e4
        simp only [Free.putAll, List.take, List.drop, Act.put, List.setIfInBounds_toArray, List.set_cons_succ, List.set_cons_zero, e4]
        clear e4
        have HR10 := hide ((unhide HR9).below hC)
        have Hb10 := hide ((unhide Hb9).trans (hC.mono (unhide Hb9).size))
        clear hC HR9 HB9 Hb9 Hrow9
        have Hrl : Hid ((bytesV (Mac.sum key ps.flatten)).length = 32) := by show _ = _; rw [bytesV_length, Mac.sum_length]
        have Hro := hide (bytesV_one (Mac.sum key ps.flatten))
        obtain ⟨xs, hxs⟩ : ∃ xs, xs = bytesV (Mac.sum key ps.flatten) := ⟨_, rfl⟩
        rw [← hxs] at Hrl Hro ⊢
        have Hxs := hide hxs
        clear hxs
        go_wp2_with (refine wpList_storeAll 25 _ _ w.heap.size xs (bytesV zerosB) rfl rfl rfl rfl (unhide HR10) (by rw [unhide Hrl]; rfl) (by rw [unhide Hrl]; exact info25) (unhide Hro) ?_)
        intro w11 hA11 hg11 hs11
        have Hb11 := hide ((unhide Hb10).grown hg11 (unhide Hb10).size (fun k hk => by simp at hk; omega))
        have HA11 := hide hA11
        clear hA11 hg11 hs11 HR10 Hb10
        go_wp2
        have hi : (Tryd.prog.info? 25).map (·.size) = some xs.length := by rw [unhide Hrl]; exact info25
        refine bodyPost_ret (v := .agg xs.toArray) ?_ rfl ⟨by rw [unhide Hxs], unhide Hb11⟩
        exact results_arr Tryd.results8 rfl (unhide HA11) Tryd.underlying25 rfl hi

end Go.Proofs.YtnfgakbfnmmhcaaDoor
