/-
  What table.behind and table.kept answer; a store in memory, opened and asked. A store in memory; what table.Open, Table and Left answer. What table.keep and table.Do do.
-/
import Derived.Test.YtdfdalkcljfghaaGreatTGet
import Derived.Test.YtdfdalkcljfghaaGreatJOpen
import Derived.Test.YtdfdalkcljfghaaGreatJAppend
namespace Go.Proofs.YtdfdalkcljfghaaGreat.Slot
open Go.RowKit

set_option maxHeartbeats 3200000 in
set_option maxRecDepth 100000 in
theorem behind_walk (N : Nat) (v : Value) (t : T) (ht : FitT t) (b : List UInt8) (w : World) (hN : N ≤ w.heap.size) (hr : RowV N w v b) :
    Calls Tryz.prog 83 #[t.v, v] w fun e w' => e = .returned (.tuple #[(behindF t b).1.v, .int .i64 (behindF t b).2]) ∧ Below w.heap.size w w' := by
  have HAL := hide alloc37
  have HZL := hide (tcs_length zeroT_fit)
  have HZI := hide (info37t zeroT_fit)
  have HZ1 := hide (tcs_one zeroT)
  have HB0 := hide built37
  have HTL := hide (tcs_length ht)
  have HTI := hide (info37t ht)
  have HV := hide (hr.up hN)
  have HR : Hid (behindF t b = if (getF b).2 ≠ 0 then (zeroT, (getF b).2) else applyT t (getF b).1) := hide rfl
  have HGW : Hid (∀ N v w, N ≤ w.heap.size → RowV N w v b → Calls Tryz.prog 16 #[v] w fun e w' => ∃ u, e = .returned (.tuple #[u, .int .i64 (getF b).2]) ∧ CRowV w'.heap.size w' u (getF b).1 ∧ Below w.heap.size w w') := hide fun N v w h1 h2 => get_walk N v b w h1 h2
  have HAW : Hid (∀ v w, CRowV w.heap.size w v (getF b).1 → Calls Tryz.prog 14 #[.agg t.cs.toArray, v] w fun e w' => e = .returned (.tuple #[.agg (applyT t (getF b).1).1.cs.toArray, .int .i64 (applyT t (getF b).1).2]) ∧ Below w.heap.size w w') := hide fun v w h => apply_walk _ v t ht _ w (Nat.le_refl _) h
  have HFA := hide (apply_fit ht (get_fit b))
  obtain ⟨va, vn, vc, ev⟩ := RowV.sl hr
  subst ev
  clear hr hN ht
  obtain ⟨R, hR⟩ : ∃ R, R = behindF t b := ⟨_, rfl⟩
  rw [← hR] at HR ⊢
  clear hR
  generalize getF b = G at *
  generalize applyT t G.1 = A at *
  have HAL1 := hide (tcs_length (unhide HFA))
  have HAI := hide (info37t (unhide HFA))
  have HA1' := hide (tcs_one A.1)
  unfold T.v
  generalize t.cs = X at *
  obtain ⟨Y, hY⟩ : ∃ Y, Y = A.1.cs := ⟨_, rfl⟩
  have HY := hide hY
  obtain ⟨Z, hZ⟩ : ∃ Z, Z = zeroT.cs := ⟨_, rfl⟩
  have HZ := hide hZ
  rw [← hY] at HAL1 HAI HA1' HAW
  rw [← hZ] at HZI HZL HZ1 HB0 HAL
  clear hY hZ
  go_enter Tryz.func83, Tryz.ntmps83
  go_wp2_with (refine wpList_box 37 _ X rfl rfl rfl ?_)
  intro w1 hA1 hb1 hs1
  have HA1 := hide hA1
  have Hb1 := hide hb1
  clear hA1 hb1
  go_wp2_with (refine wpList_alloc 37 37 Z rfl rfl (unhide HAL) ?_)
  intro w2 hA2 hb2 hs2
  have HA2 := hide hA2
  have HA12 := hide ((unhide HA1).keep hb2 (by omega))
  have Hb12 := hide ((unhide Hb1).trans (hb2.mono (by omega)))
  clear hA2 hb2 HA1 Hb1
  have hG := unhide HGW w.heap.size _ w2 (unhide Hb12).size ((unhide HV).below (unhide Hb12))
  have HG := hide hG
  clear hG HGW
  go_wp2_with fail
  refine (unhide HG).mono ?_
  rintro e w3 ⟨u, rfl, hC, hb3⟩
  have HC := hide hC
  have HA3 := hide ((unhide HA12).below hb3)
  have HZ3 := hide ((unhide HA2).below hb3)
  have Hb3 := hide ((unhide Hb12).trans (hb3.mono (unhide Hb12).size))
  have hsz3 : w.heap.size + 2 ≤ w3.heap.size := by have := hb3.size; omega
  obtain ⟨ua, un, uc, eu, _⟩ := hC
  subst eu
  clear hb3 HA12 HA2 Hb12 HG
  by_cases h0 : G.2 = 0
  · have h0' : (G.2 != 0) = false := by simpa using h0
    have HRA : Hid (R = A) := by
      show _ = _
      rw [unhide HR, if_neg (by simpa using h0)]
    clear h0
    go_wp2_with (refine wpList_loadAll 37 _ w.heap.size X _ rfl rfl rfl (unhide HA3) Tryz.underlying37 rfl (unhide HTI) ?_)
    refine (unhide HAW _ w3 (unhide HC)).mono ?_
    rintro e w4 ⟨rfl, hb4⟩
    have HZ4 := hide ((unhide HZ3).below hb4)
    have Hb4 := hide ((unhide Hb3).trans (hb4.mono (unhide Hb3).size))
    have hsz4 : w.heap.size + 2 ≤ w4.heap.size := by have := hb4.size; omega
    clear hb4 HZ3 Hb3
    go_wp2_with (refine wpList_storeAll 37 _ _ (w.heap.size + 1) Y Z rfl rfl rfl rfl (unhide HZ4) (by rw [unhide HZL, unhide HAL1]) (unhide HAI) (unhide HA1') ?_)
    intro w5 hA5 hg5 hs5
    have HA5 := hide hA5
    have Hb5 := hide ((unhide Hb4).grown hg5 (unhide Hb4).size (fun k hk => by simp at hk; omega))
    clear hA5 hg5
    go_wp2
    refine bodyPost_ret (v := .tuple #[.agg Y.toArray, .int .i64 A.2]) ?_ rfl ⟨?_, unhide Hb5⟩
    · exact results_two Tryz.results83 rfl rfl (unhide HA5) Tryz.underlying37 rfl (unhide HAI)
    · rw [unhide HRA, unhide HY]
  · have h0' : (G.2 != 0) = true := by simpa using h0
    have HRA : Hid (R = (zeroT, G.2)) := by
      show _ = _
      rw [unhide HR, if_pos h0]
    clear h0
    go_wp2_with (first
      | refine wpList_build 37 _ Z [] rfl rfl rfl (unhide HB0) ?_
      | refine wpList_storeAll 37 _ _ (w.heap.size + 1) Z Z rfl rfl rfl rfl (unhide HZ3) rfl (unhide HZI) (unhide HZ1) ?_)
    intro w5 hA5 hg5 hs5
    have HA5 := hide hA5
    have Hb5 := hide ((unhide Hb3).grown hg5 (unhide Hb3).size (fun k hk => by simp at hk; omega))
    clear hA5 hg5
    go_wp2
    refine bodyPost_ret (v := .tuple #[.agg Z.toArray, .int .i64 G.2]) ?_ rfl ⟨?_, unhide Hb5⟩
    · exact results_two Tryz.results83 rfl rfl (unhide HA5) Tryz.underlying37 rfl (unhide HZI)
    · rw [unhide HRA, unhide HZ]

theorem foldB_step {bs : List (List UInt8)} {t u : T} {k : Nat} (hk : k < bs.length) (h : foldB t bs = foldB u (bs.drop k)) :
    ((behindF u (bs.getD k [])).2 ≠ 0 → foldB t bs = u) ∧ ((behindF u (bs.getD k [])).2 = 0 → foldB t bs = foldB (behindF u (bs.getD k [])).1 (bs.drop (k + 1))) := by
  have e : bs.drop k = bs.getD k [] :: bs.drop (k + 1) := by
    rw [List.drop_eq_getElem_cons hk, List.getD_eq_getElem?_getD, List.getElem?_eq_getElem hk]
    rfl
  rw [e, foldB] at h
  constructor
  · intro h2
    rw [h, if_pos h2]
  · intro h2
    rw [h, if_neg (by simpa using h2)]
set_option maxHeartbeats 6400000 in
set_option maxRecDepth 100000 in
theorem kept_walk (N : Nat) (bv : Value) (first : T) (hf : FitT first) (bs : List (List UInt8)) (w : World) (_hN : N ≤ w.heap.size) (hB : BodsV N w bv bs) :
    Calls Tryz.prog 46 #[first.v, bv] w fun e w' => e = .returned (keptF first bs).v ∧ Below w.heap.size w w' := by
  have HAL := hide alloc37
  have HZL := hide (tcs_length zeroT_fit)
  have HTL := hide (tcs_length hf)
  have HTI := hide (info37t hf)
  have HT1 := hide (tcs_one first)
  unfold T.v
  cases bs with
  | nil =>
    obtain ⟨a, c, rfl, _, _⟩ := hB.slice
    have HR : Hid (keptF first [] = first) := hide rfl
    obtain ⟨R, hR⟩ : ∃ R, R = keptF first [] := ⟨_, rfl⟩
    rw [← hR] at HR ⊢
    obtain ⟨X, hX⟩ : ∃ X, X = first.cs := ⟨_, rfl⟩
    have HX := hide hX
    rw [← hX] at HTL HTI HT1 ⊢
    clear hR hX hB hf
    go_enter Tryz.func46, Tryz.ntmps46
    go_wp2_with (refine wpList_box 37 _ X rfl rfl rfl ?_)
    intro w1 hA1 hb1 hs1
    have HA1 := hide hA1
    have Hb1 := hide hb1
    clear hA1 hb1
    go_wp2_with (refine wpList_alloc 37 37 zeroT.cs rfl rfl (unhide HAL) ?_)
    intro w2 hA2 hb2 hs2
    have HA2 := hide hA2
    have HA12 := hide ((unhide HA1).keep hb2 (by omega))
    have Hb12 := hide ((unhide Hb1).trans (hb2.mono (by omega)))
    clear hA2 hb2 HA1 Hb1
    go_wp2_with (first
      | refine wpList_loadAll 37 _ w.heap.size X _ rfl rfl rfl (unhide HA12) Tryz.underlying37 rfl (unhide HTI) ?_
      | refine wpList_storeAll 37 _ _ (w.heap.size + 1) X zeroT.cs rfl rfl rfl rfl (unhide HA2) (by rw [unhide HTL]; rfl) (unhide HTI) (unhide HT1) ?_)
    intro w3 hA3 hg3 hs3
    have HA3 := hide hA3
    have Hb3 := hide ((unhide Hb12).grown hg3 (unhide Hb12).size (fun k hk => by simp at hk; omega))
    clear hA3 hg3
    go_wp2
    refine bodyPost_ret (v := .agg X.toArray) ?_ rfl ⟨by rw [unhide HR, unhide HX], unhide Hb3⟩
    exact results_arr Tryz.results46 rfl (unhide HA3) Tryz.underlying37 rfl (unhide HTI)
  | cons b rest =>
    obtain ⟨g, cap, u0, rfl, _, hg, hc0, _, hr0⟩ := hB.at (i := 0) (by simp)
    have HAT : Hid (∀ k, k < rest.length → ∃ u, w.cell? ⟨g, 1 + k, none⟩ = some u ∧ RowV w.heap.size w u (rest.getD k [])) := hide fun k hk => by
      obtain ⟨g2, cap2, u, e, _, _, hc, _, hr⟩ := hB.at (i := 1 + k) (by simp; omega)
      cases e
      refine ⟨u, hc, ?_⟩
      have e2 : (b :: rest).getD (1 + k) [] = rest.getD k [] := by rw [Nat.add_comm]; rfl
      rw [e2] at hr
      exact hr
    obtain ⟨_, cap2, e2, hcap, hmax⟩ := hB.slice
    cases e2
    have hcap' : rest.length + 1 ≤ cap := by simpa using hcap
    have hm' : cap ≤ 9223372036854775807 := by simpa [maxLen] using hmax
    have e0 : (b :: rest).getD 0 [] = b := rfl
    rw [e0] at hr0
    have HR0 := hide hr0
    have hgl := hg
    have HC0 := hide hc0
    have hbl : (b :: rest).length = rest.length + 1 := rfl
    rw [hbl]
    clear hB hr0 hcap hmax hc0 e0 hbl
    have HR : Hid (keptF first (b :: rest) = if (parseF b).2 ≠ 0 then first else foldB (parseF b).1 rest) := hide rfl
    have HKF := hide (kept_fit hf (b :: rest))
    obtain ⟨R, hR⟩ : ∃ R, R = keptF first (b :: rest) := ⟨_, rfl⟩
    rw [← hR] at HR HKF ⊢
    have HPF := hide (parse_fit b)
    have HPW := hide (fun w1 (h : Below w.heap.size w w1) => parse_walk _ u0 b w1 (Nat.le_refl _) (((unhide HR0).below h).up h.size))
    generalize parseF b = P at *
    have HPL := hide (tcs_length (unhide HPF))
    have HPI := hide (info37t (unhide HPF))
    have HP1 := hide (tcs_one P.1)
    obtain ⟨X, hX⟩ : ∃ X, X = first.cs := ⟨_, rfl⟩
    have HX := hide hX
    obtain ⟨Y, hY⟩ : ∃ Y, Y = P.1.cs := ⟨_, rfl⟩
    have HY := hide hY
    rw [← hX] at HTL HTI HT1 ⊢
    unfold T.v at HPW
    rw [← hY] at HPW HPL HPI HP1
    clear hR hX hY hf
    generalize hn : rest.length = n at *
    have HN := hide hn
    clear hn
    have h1n : decide ((n : Int) + 1 = 0) = false := by simp; omega
    have h1m : (((n + 1 : Nat) : Int) == 0) = false := by simp; omega
    go_enter Tryz.func46, Tryz.ntmps46
    go_wp2_with (refine wpList_box 37 _ X rfl rfl rfl ?_)
    intro w1 hA1 hb1 hs1
    have HA1 := hide hA1
    have Hb1 := hide hb1
    clear hA1 hb1
    go_wp2_with (refine wpList_alloc 37 37 zeroT.cs rfl rfl (unhide HAL) ?_)
    intro w2 hA2 hb2 hs2
    have HA2 := hide hA2
    have HA12 := hide ((unhide HA1).keep hb2 (by omega))
    have Hb12 := hide ((unhide Hb1).trans (hb2.mono (by omega)))
    have hc2 : w2.cell? ⟨g, 0, none⟩ = some u0 := ((unhide Hb12).cell (p := ⟨g, 0, none⟩) hgl).trans (unhide HC0)
    have HP2 := hide (unhide HPW w2 (unhide Hb12))
    clear hA2 hb2 HA1 Hb1 HPW
    go_wp2_with fail
    refine (unhide HP2).mono ?_
    rintro e w3 ⟨rfl, hb3⟩
    have HA3 := hide ((unhide HA12).below hb3)
    have HZ3 := hide ((unhide HA2).below hb3)
    have Hb3 := hide ((unhide Hb12).trans (hb3.mono (unhide Hb12).size))
    have hsz3 : w.heap.size + 2 ≤ w3.heap.size := by have := hb3.size; omega
    clear hb3 HA12 HA2 Hb12 HP2 hc2
    go_wp2_with (refine wpList_alloc 37 37 zeroT.cs rfl rfl (unhide HAL) ?_)
    intro w4 hA4 hb4 hs4
    have HA4 := hide ((unhide HA3).below hb4)
    have HZ4 := hide ((unhide HZ3).below hb4)
    have Hb4 := hide ((unhide Hb3).trans (hb4.mono (unhide Hb3).size))
    have HB4 := hide hA4
    clear hb4 hA4 HA3 HZ3 Hb3
    generalize w3.heap.size = m at *
    go_wp2_with (refine wpList_storeAll 37 _ _ m Y zeroT.cs rfl rfl rfl rfl (unhide HB4) (by rw [unhide HPL]; rfl) (unhide HPI) (unhide HP1) ?_)
    intro w5 hA5 hg5 hs5
    have HB5 := hide hA5
    have HA5 := hide ((unhide HA4).grown hg5 (by simp; omega))
    have HZ5 := hide ((unhide HZ4).grown hg5 (by simp; omega))
    have Hb5 := hide ((unhide Hb4).grown hg5 (unhide Hb4).size (fun k hk => by simp at hk; omega))
    clear hA5 hg5 HA4 HZ4 Hb4 HB4
    by_cases h0 : P.2 = 0
    · have h0' : (P.2 != 0) = false := by simpa using h0
      have HRA : Hid (R = foldB P.1 rest) := by
        show _ = _
        rw [unhide HR, if_neg (by simpa using h0)]
      clear h0 HR
      by_cases hc1 : cap = 1
      · subst hc1
        obtain rfl : n = 0 := by omega
        have HRN : Hid (rest = []) := hide (List.length_eq_zero_iff.1 (unhide HN))
        go_wp2_with fail
        go_loopw [28] (fun ci wr => ci = .int .i64 0 ∧ Arr wr m Y ∧ Arr wr (w.heap.size + 1) zeroT.cs ∧ Below w.heap.size w wr) (fun _ _ => 0)
        case atStart => exact ⟨rfl, unhide HB5, unhide HZ5, unhide Hb5⟩
        case round =>
          obtain ⟨rfl, hA, hZ, hb⟩ := hrel
          have HBr := hide hA
          have HZr := hide hZ
          have Hbr := hide hb
          have hszr := hb.size
          clear hA hZ hb
          go_wp2_with (first
            | refine wpList_loadAll 37 _ m Y _ rfl rfl rfl (unhide HBr) Tryz.underlying37 rfl (unhide HPI) ?_
            | refine wpList_storeAll 37 _ _ (w.heap.size + 1) Y zeroT.cs rfl rfl rfl rfl (unhide HZr) (by rw [unhide HPL]; rfl) (unhide HPI) (unhide HP1) ?_)
          intro w9 hA9 hg9 hs9
          have HA9 := hide hA9
          have Hb9 := hide ((unhide Hbr).grown hg9 (unhide Hbr).size (fun k hk => by simp at hk; omega))
          clear hA9 hg9
          go_wp2
          refine bodyPost_ret (v := .agg Y.toArray) ?_ rfl ⟨by rw [unhide HRA, unhide HRN, foldB, unhide HY], unhide Hb9⟩
          exact results_arr Tryz.results46 rfl (unhide HA9) Tryz.underlying37 rfl (unhide HPI)
      · have hc1b : (cap == 1) = false := by simpa using hc1
        go_wp2_with fail
        go_loopw [28] (fun ci wr => ∃ k : Nat, ∃ u : T, k ≤ n ∧ ci = .int .i64 (k : Int) ∧ FitT u ∧ foldB P.1 rest = foldB u (rest.drop k) ∧ Arr wr m u.cs ∧ Arr wr (w.heap.size + 1) zeroT.cs ∧ Below w.heap.size w wr) (fun ci _ => n - (intOf ci).toNat)
        case atStart => exact ⟨0, P.1, by omega, rfl, unhide HPF, rfl, by rw [← unhide HY]; exact unhide HB5, unhide HZ5, unhide Hb5⟩
        case round =>
          obtain ⟨k, u, hk, rfl, hfu, hfold, hA, hZ, hb⟩ := hrel
          have hszr := hb.size
          have hmr := hA.lt
          by_cases hlt : k < n
          · obtain ⟨bu, hcb, hrb⟩ := unhide HAT k hlt
            have hcr : wr.cell? ⟨g, 1 + k, none⟩ = some bu := (hb.cell (p := ⟨g, 1 + k, none⟩) hgl).trans hcb
            obtain ⟨hno, hyes⟩ := foldB_step (by rw [unhide HN]; exact hlt) hfold
            have HNO := hide hno
            have HYES := hide hyes
            have HBW := hide (fun w1 (h : Below wr.heap.size wr w1) => behind_walk _ bu u hfu (rest.getD k []) w1 (hb.trans (h.mono hszr)).size (hrb.below (hb.trans (h.mono hszr))))
            have HBF := hide (behind_fit hfu (rest.getD k []))
            generalize behindF u (rest.getD k []) = A at *
            obtain ⟨ba, bn, bc, ebu⟩ := RowV.sl hrb
            subst ebu
            have HUL := hide (tcs_length hfu)
            have HUI := hide (info37t hfu)
            have HU1 := hide (tcs_one u)
            have HAL2 := hide (tcs_length (unhide HBF))
            have HAI := hide (info37t (unhide HBF))
            have HA1 := hide (tcs_one A.1)
            have HBr := hide hA
            have HZr := hide hZ
            have Hbr := hide hb
            clear hfu hfold hA hZ hb hcb hrb hno hyes
            unfold T.v at HBW
            obtain ⟨U, hU⟩ : ∃ U, U = u.cs := ⟨_, rfl⟩
            have HU := hide hU
            rw [← hU] at HUL HUI HU1 HBr HBW
            obtain ⟨V, hV⟩ : ∃ V, V = A.1.cs := ⟨_, rfl⟩
            have HVE := hide hV
            rw [← hV] at HAL2 HAI HA1 HBW
            clear hU hV
            go_wp2_with (refine wpList_loadAll 37 _ m U _ rfl rfl rfl (unhide HBr) Tryz.underlying37 rfl (unhide HUI) ?_)
            refine (unhide HBW wr (Below.refl _ _)).mono ?_
            rintro e w6 ⟨rfl, hb6⟩
            have HB6 := hide ((unhide HBr).below hb6)
            have HZ6 := hide ((unhide HZr).below hb6)
            have Hb6 := hide ((unhide Hbr).trans (hb6.mono hszr))
            have hsz6 : m < w6.heap.size := (unhide HB6).lt
            have hsz6' : wr.heap.size ≤ w6.heap.size := hb6.size
            clear hb6 HBr HZr Hbr HBW
            go_wp2_with (refine wpList_alloc 37 37 zeroT.cs rfl rfl (unhide HAL) ?_)
            intro w7 hA7 hb7 hs7
            have HA7 := hide hA7
            have HB7 := hide ((unhide HB6).below hb7)
            have HZ7 := hide ((unhide HZ6).below hb7)
            have Hb7 := hide ((unhide Hb6).trans (hb7.mono (unhide Hb6).size))
            have hsz6'' : w.heap.size ≤ w6.heap.size := (unhide Hb6).size
            clear hA7 hb7 HB6 HZ6 Hb6
            generalize w6.heap.size = m2 at *
            go_wp2_with (refine wpList_storeAll 37 _ _ m2 V zeroT.cs rfl rfl rfl rfl (unhide HA7) (by rw [unhide HAL2]; rfl) (unhide HAI) (unhide HA1) ?_)
            intro w8 hA8 hg8 hs8
            have HA8 := hide hA8
            have HB8 := hide ((unhide HB7).grown hg8 (by simp; omega))
            have HZ8 := hide ((unhide HZ7).grown hg8 (by simp; omega))
            have Hb8 := hide ((unhide Hb7).grown hg8 (unhide Hb7).size (fun k hk => by simp at hk; omega))
            clear hA8 hg8 HA7 HB7 HZ7 Hb7
            by_cases h2 : A.2 = 0
            · have h2' : (A.2 != 0) = false := by simpa using h2
              have HF2 := hide (unhide HYES h2)
              clear h2
              go_wp2_with (first
                | refine wpList_loadAll 37 _ m2 V _ rfl rfl rfl (unhide HA8) Tryz.underlying37 rfl (unhide HAI) ?_
                | refine wpList_storeAll 37 _ _ m V U rfl rfl rfl rfl (unhide HB8) (by rw [unhide HAL2, unhide HUL]) (unhide HAI) (unhide HA1) ?_)
              intro w9 hA9 hg9 hs9
              have HA9 : Hid (Arr w9 m A.1.cs) := hide (by rw [← unhide HVE]; exact hA9)
              have HZ9 := hide ((unhide HZ8).grown hg9 (by simp; omega))
              have Hb9 := hide ((unhide Hb8).grown hg9 (unhide Hb8).size (fun k hk => by simp at hk; omega))
              clear hA9 hg9 HB8 HA8 HZ8 Hb8
              go_wp2
              go_roundw
              case rel => exact ⟨k + 1, A.1, by omega, by simp, unhide HBF, unhide HF2, unhide HA9, unhide HZ9, unhide Hb9⟩
              case measure => simp [intOf]; omega
            · have h2' : (A.2 != 0) = true := by simpa using h2
              have HF2 := hide (unhide HNO h2)
              clear h2
              go_wp2_with (first
                | refine wpList_loadAll 37 _ m U _ rfl rfl rfl (unhide HB8) Tryz.underlying37 rfl (unhide HUI) ?_
                | refine wpList_storeAll 37 _ _ (w.heap.size + 1) U zeroT.cs rfl rfl rfl rfl (unhide HZ8) (by rw [unhide HUL]; rfl) (unhide HUI) (unhide HU1) ?_)
              intro w9 hA9 hg9 hs9
              have HA9 := hide hA9
              have Hb9 := hide ((unhide Hb8).grown hg9 (unhide Hb8).size (fun k hk => by simp at hk; omega))
              clear hA9 hg9
              go_wp2
              refine bodyPost_ret (v := .agg U.toArray) ?_ rfl ⟨by rw [unhide HRA, unhide HF2, unhide HU], unhide Hb9⟩
              exact results_arr Tryz.results46 rfl (unhide HA9) Tryz.underlying37 rfl (unhide HUI)
          · obtain rfl : k = n := by omega
            have HF2 : Hid (foldB P.1 rest = u) := by
              rw [List.drop_of_length_le (by rw [unhide HN]; exact Nat.le_refl _)] at hfold
              exact hide hfold
            have HUL := hide (tcs_length hfu)
            have HUI := hide (info37t hfu)
            have HU1 := hide (tcs_one u)
            have HBr := hide hA
            have HZr := hide hZ
            have Hbr := hide hb
            clear hfu hfold hA hZ hb
            obtain ⟨U, hU⟩ : ∃ U, U = u.cs := ⟨_, rfl⟩
            have HU := hide hU
            rw [← hU] at HUL HUI HU1 HBr
            clear hU
            go_wp2_with (first
              | refine wpList_loadAll 37 _ m U _ rfl rfl rfl (unhide HBr) Tryz.underlying37 rfl (unhide HUI) ?_
              | refine wpList_storeAll 37 _ _ (w.heap.size + 1) U zeroT.cs rfl rfl rfl rfl (unhide HZr) (by rw [unhide HUL]; rfl) (unhide HUI) (unhide HU1) ?_)
            intro w9 hA9 hg9 hs9
            have HA9 := hide hA9
            have Hb9 := hide ((unhide Hbr).grown hg9 (unhide Hbr).size (fun k hk => by simp at hk; omega))
            clear hA9 hg9
            go_wp2
            refine bodyPost_ret (v := .agg U.toArray) ?_ rfl ⟨by rw [unhide HRA, unhide HF2, unhide HU], unhide Hb9⟩
            exact results_arr Tryz.results46 rfl (unhide HA9) Tryz.underlying37 rfl (unhide HUI)
    · have h0' : (P.2 != 0) = true := by simpa using h0
      have HRA : Hid (R = first) := by
        show _ = _
        rw [unhide HR, if_pos h0]
      clear h0 HR
      go_wp2_with (first
        | refine wpList_loadAll 37 _ w.heap.size X _ rfl rfl rfl (unhide HA5) Tryz.underlying37 rfl (unhide HTI) ?_
        | refine wpList_storeAll 37 _ _ (w.heap.size + 1) X zeroT.cs rfl rfl rfl rfl (unhide HZ5) (by rw [unhide HTL]; rfl) (unhide HTI) (unhide HT1) ?_)
      intro w6 hA6 hg6 hs6
      have HA6 := hide hA6
      have Hb6 := hide ((unhide Hb5).grown hg6 (unhide Hb5).size (fun k hk => by simp at hk; omega))
      clear hA6 hg6
      go_wp2
      refine bodyPost_ret (v := .agg X.toArray) ?_ rfl ⟨by rw [unhide HRA, unhide HX], unhide Hb6⟩
      exact results_arr Tryz.results46 rfl (unhide HA6) Tryz.underlying37 rfl (unhide HTI)
end Go.Proofs.YtdfdalkcljfghaaGreat.Slot

namespace Go.Proofs.YtdfdalkcljfghaaGreat.Slot
open Go.RowKit

/-- A store, its journal, map and device. -/
structure Sto (F D : List Nat) (w : World) (z q m p : Nat) (d : DM) (x : MX) (j : JX) (t : T) : Prop where
  jour : Jour F D w q m p d x j
  arr : Arr w z (.pointer (some ⟨q, 0, none⟩) :: t.cs)
  own : z ∉ q :: (F ++ D)
  fit : FitT t
section
variable {F D : List Nat} {w w' : World} {z q m p : Nat} {d : DM} {x : MX} {j : JX} {t : T}
theorem Sto.below (h : Sto F D w z q m p d x j t) (hb : Below w.heap.size w w') : Sto F D w' z q m p d x j t := { h with jour := h.jour.below hb, arr := h.arr.below hb }
theorem Sto.lt (h : Sto F D w z q m p d x j t) : ∀ k ∈ z :: q :: (F ++ D), k < w.heap.size := fun k hk => by
  rcases List.mem_cons.1 hk with rfl | hk
  · exact h.arr.lt
  · exact h.jour.lt k hk
/-- Its journal turns. -/
theorem Sto.turn {F' D' : List Nat} {d' : DM} {x' : MX} {j' : JX} (h : Sto F D w z q m p d x j t) (ht : Turns (q :: (F ++ D)) (q :: (F' ++ D')) w w') (hj : Jour F' D' w' q m p d' x' j') : Sto F' D' w' z q m p d' x' j' t ∧ Turns (z :: q :: (F ++ D)) (z :: q :: (F' ++ D')) w w' := by
  have hz : z ∉ q :: (F' ++ D') := fun e => by
    rcases ht.2 z e with e | e
    · exact h.own e
    · have := h.arr.lt; omega
  exact ⟨⟨hj, h.arr.same (ht.1.block z h.arr.lt h.own), hz, h.fit⟩, ht.cons⟩
/-- Its table is set. -/
theorem Sto.set {t' : T} (h : Sto F D w z q m p d x j t) (ht : FitT t') (hA : Arr w' z (.pointer (some ⟨q, 0, none⟩) :: t'.cs)) (hg : w.grownBy w' (some z)) : Sto F D w' z q m p d x j t' ∧ Turns (z :: q :: (F ++ D)) (z :: q :: (F ++ D)) w w' :=
  ⟨⟨h.jour.but (But.of_grown (F := [z]) hg (by simp)) (fun k hk e => by
    obtain rfl := List.mem_singleton.1 e
    exact h.own hk), hA, h.own, ht⟩, But.of_grown hg (by simp), fun _ h => .inl h⟩
end
theorem built102 (q : Nat) {t : T} (h : FitT t) : Tryz.prog.built 102 [(0, .pointer (some ⟨q, 0, none⟩)), (1, .agg t.cs.toArray)] = some (.pointer (some ⟨q, 0, none⟩) :: t.cs).toArray := by
  obtain ⟨⟨a, b, c, d, e⟩, ⟨a', b', c', d', e'⟩, x, y, z⟩ := t
  obtain ⟨f, rfl⟩ := of_len h.s0.dg
  obtain ⟨f', rfl⟩ := of_len h.s1.dg
  kernel_rfl
theorem info102 : (Tryz.prog.info? 102).map (·.size) = some 76 := by kernel_rfl

set_option maxHeartbeats 3200000 in
set_option maxRecDepth 100000 in
theorem open_no (a b : Int) (mv : Value) (first : T) (hf : FitT first) (hr : rightT first = false) (w : World) : Calls Tryz.prog 12 #[mv, .int .i64 a, .int .i64 b, first.v] w fun e w' => e = .returned (.tuple #[.pointer none, .int .i64 111]) ∧ Below w.heap.size w w' := by
  have HTI := hide (info37t hf)
  have HRT := hide (rightT_walk first hf)
  rw [hr] at HRT
  unfold T.v at HRT ⊢
  generalize first.cs = X at *
  clear hf hr
  go_enter Tryz.func12, Tryz.ntmps12
  go_wp2_with (refine wpList_box 37 _ X rfl rfl rfl ?_)
  intro w1 hA1 hb1 hs1
  have HA1 := hide hA1
  have Hb1 := hide hb1
  clear hA1 hb1
  go_wp2_with (refine wpList_loadAll 37 _ w.heap.size X _ rfl rfl rfl (unhide HA1) Tryz.underlying37 rfl (unhide HTI) ?_)
  refine (unhide HRT w1).mono ?_
  rintro e w2 ⟨rfl, hb2⟩
  have Hb2 := hide ((unhide Hb1).trans (hb2.mono (unhide Hb1).size))
  clear hb2
  go_wp2
  go_ret2
  exact ⟨rfl, unhide Hb2⟩

set_option maxHeartbeats 3200000 in
set_option maxRecDepth 100000 in
theorem topen_walk {F D : List Nat} {w : World} {m p : Nat} {d : DM} {x : MX} (h : PMap F D w m p d x) (a b : Nat) (ha : a < x.sz.length) (hb : b < x.sz.length) (hab : a ≠ b) (first : T) (hf : FitT first) (hr : rightT first = true) :
    Calls Tryz.prog 12 #[.pointer (some ⟨m, 0, none⟩), .int .i64 (a : Int), .int .i64 (b : Int), first.v] w fun e w' => ∃ z q, e = .returned (.tuple #[.pointer (some ⟨z, 0, none⟩), .int .i64 0]) ∧
      Sto F D w' z q m p d x ⟨a, b, (openD2 d x.sz a b).1, (openD2 d x.sz a b).2.1, 0, false⟩ (keptF first (openD2 d x.sz a b).2.2) ∧ Below w.heap.size w w' ∧ w.heap.size ≤ z ∧ w.heap.size ≤ q := by
  have HTI := hide (info37t hf)
  have HRT := hide (rightT_walk first hf)
  rw [hr] at HRT
  have HMP := hide h
  have HJO : Hid (∀ w, PMap F D w m p d x → Calls Tryz.prog 44 #[.pointer (some ⟨m, 0, none⟩), .int .i64 (a : Int), .int .i64 (b : Int)] w fun e w' => ∃ q bv, e = .returned (.tuple #[.pointer (some ⟨q, 0, none⟩), bv]) ∧ Jour F D w' q m p d x ⟨a, b, (openD2 d x.sz a b).1, (openD2 d x.sz a b).2.1, 0, false⟩ ∧ BodsV w.heap.size w' bv (openD2 d x.sz a b).2.2 ∧ Below w.heap.size w w' ∧ w.heap.size ≤ q) := hide fun w h => jopen_walk h a b ha hb hab
  have HKW := hide (fun N bv w h1 h2 => kept_walk N bv first hf (openD2 d x.sz a b).2.2 w h1 h2)
  have HKF := hide (kept_fit hf (openD2 d x.sz a b).2.2)
  generalize openD2 d x.sz a b = O at *
  generalize (JX.mk a b O.1 O.2.1 0 false) = jj at *
  generalize keptF first O.2.2 = K at *
  generalize O.2.2 = bs at *
  have HBT := hide (fun q => built102 q (unhide HKF))
  have HKL := hide (tcs_length (unhide HKF))
  unfold T.v at HRT HKW ⊢
  obtain ⟨Y, hY⟩ : ∃ Y, Y = K.cs := ⟨_, rfl⟩
  have HY := hide hY
  rw [← hY] at HBT HKW HKL
  clear hY
  generalize first.cs = X at *
  clear hf hr h ha hb hab
  go_enter Tryz.func12, Tryz.ntmps12
  go_wp2_with (refine wpList_box 37 _ X rfl rfl rfl ?_)
  intro w1 hA1 hb1 hs1
  have HA1 := hide hA1
  have Hb1 := hide hb1
  clear hA1 hb1
  go_wp2_with (refine wpList_loadAll 37 _ w.heap.size X _ rfl rfl rfl (unhide HA1) Tryz.underlying37 rfl (unhide HTI) ?_)
  refine (unhide HRT w1).mono ?_
  rintro e w2 ⟨rfl, hb2⟩
  have HA2 := hide ((unhide HA1).below hb2)
  have Hb2 := hide ((unhide Hb1).trans (hb2.mono (unhide Hb1).size))
  clear hb2 HA1 Hb1 HRT
  have HJ2 := hide (unhide HJO w2 ((unhide HMP).below (unhide Hb2)))
  have hs2 := (unhide Hb2).size
  clear HJO
  go_wp2_with fail
  refine (unhide HJ2).mono ?_
  rintro e w3 ⟨q, bv, rfl, hJ, hB, hb3, hq⟩
  have HA3 := hide ((unhide HA2).below hb3)
  have Hb3 := hide ((unhide Hb2).trans (hb3.mono hs2))
  have HJ3 := hide hJ
  have HKW3 := hide (unhide HKW _ _ w3 hb3.size hB)
  have hq1 : w.heap.size ≤ q := Nat.le_trans hs2 hq
  have hs3 := hb3.size
  obtain ⟨ba, bc, ebv, _⟩ := hB.slice
  subst ebv
  clear hJ hB hb3 HA2 Hb2 HJ2 HKW
  go_wp2_with (refine wpList_loadAll 37 _ w.heap.size X _ rfl rfl rfl (unhide HA3) Tryz.underlying37 rfl (unhide HTI) ?_)
  refine (unhide HKW3).mono ?_
  rintro e w4 ⟨rfl, hb4⟩
  have Hb4 := hide ((unhide Hb3).trans (hb4.mono (unhide Hb3).size))
  have HJ4 := hide ((unhide HJ3).below hb4)
  have hs4 := hb4.size
  clear hb4 Hb3 HJ3 HA3 HKW3
  go_wp2_with (first
    | refine wpList_build 102 _ (.pointer (some ⟨q, 0, none⟩) :: Y) [(0, .pointer (some ⟨q, 0, none⟩)), (1, .agg Y.toArray)] rfl rfl rfl (unhide HBT q) ?_
    | refine wpList_box 102 _ (.pointer (some ⟨q, 0, none⟩) :: Y) rfl rfl rfl ?_)
  intro w5 hA5 hb5 hs5
  have HR : Hid (Sto F D w5 w4.heap.size q m p d x jj K ∧ Below w.heap.size w w5 ∧ w.heap.size ≤ w4.heap.size) := hide ⟨⟨(unhide HJ4).below hb5, by rw [← unhide HY]; exact hA5, fun e => by
    have := (unhide HJ4).lt _ e
    omega, unhide HKF⟩, (unhide Hb4).trans (hb5.mono (unhide Hb4).size), (unhide Hb4).size⟩
  clear hA5 hb5 HJ4 Hb4
  go_wp2
  go_ret2
  exact ⟨_, q, rfl, (unhide HR).1, (unhide HR).2.1, (unhide HR).2.2, hq1⟩

section
variable {F D : List Nat} {w : World} {z q m p : Nat} {d : DM} {x : MX} {j : JX} {t : T}
theorem sto_range {w : World} {z q : Nat} {t : T} (h : Arr w z (.pointer (some ⟨q, 0, none⟩) :: t.cs)) : w.rangeAt z 1 t.cs := range_sub (o := 0) h.range 1 _ fun j v hj => by
  rw [Nat.add_comm, List.getElem?_cons_succ]; exact hj
set_option maxHeartbeats 1600000 in
set_option maxRecDepth 100000 in
theorem table_walk (h : Sto F D w z q m p d x j t) : Calls Tryz.prog 36 #[.pointer (some ⟨z, 0, none⟩)] w fun e w' => e = .returned t.v ∧ Below w.heap.size w w' := by
  have HRG := hide (sto_range h.arr)
  have HAL := hide alloc37
  have HTL := hide (tcs_length h.fit)
  have HTI := hide (info37t h.fit)
  have HT1 := hide (tcs_one t)
  have hzl := h.arr.lt
  unfold T.v
  generalize t.cs = X at *
  clear h
  go_enter Tryz.func36, Tryz.ntmps36
  go_wp2_with (refine wpList_alloc 37 37 zeroT.cs rfl rfl (unhide HAL) ?_)
  intro w1 hA1 hb1 hs1
  have HA1 := hide hA1
  have HR1 := hide (range_below (unhide HRG) hb1 hzl)
  have Hb1 := hide hb1
  clear hA1 hb1 HRG
  go_wp2_with (first
    | refine wpList_loadPart 37 _ z 1 X _ rfl rfl rfl (unhide HR1) Tryz.underlying37 rfl (unhide HTI) ?_
    | refine wpList_storeAll 37 _ _ w.heap.size X zeroT.cs rfl rfl rfl rfl (unhide HA1) (by rw [unhide HTL]; rfl) (unhide HTI) (unhide HT1) ?_)
  intro w2 hA2 hg2 hs2
  have HA2 := hide hA2
  have Hb2 := hide ((unhide Hb1).grown hg2 (unhide Hb1).size (fun k hk => by simp at hk; omega))
  clear hA2 hg2
  go_wp2
  refine bodyPost_ret (v := .agg X.toArray) ?_ rfl ⟨rfl, unhide Hb2⟩
  exact results_arr Tryz.results36 rfl (unhide HA2) Tryz.underlying37 rfl (unhide HTI)
set_option maxHeartbeats 1600000 in
set_option maxRecDepth 100000 in
theorem tleft_walk (h : Sto F D w z q m p d x j t) : Calls Tryz.prog 37 #[.pointer (some ⟨z, 0, none⟩)] w fun e w' => e = .returned (.int .i64 (leftJ x.sz j)) ∧ Below w.heap.size w w' := by
  have c0 := h.arr.cell (i := 0) rfl
  have HL := hide (left_walk h.jour)
  clear h
  go_enter Tryz.func37, Tryz.ntmps37
  go_wp2_with fail
  refine (unhide HL).mono ?_
  rintro e w1 ⟨rfl, hb, _⟩
  have HB := hide hb
  clear hb
  go_wp2
  go_ret
  exact ⟨rfl, unhide HB⟩
end
end Go.Proofs.YtdfdalkcljfghaaGreat.Slot

namespace Go.Proofs.YtdfdalkcljfghaaGreat.Slot
open Go.RowKit

def keepF (d : DM) (x : MX) (j : JX) (next : T) (l : List C) : Int × DM × MX × JX :=
  if j.ready = true then
    if (appendJ d x j (putL l)).1 ≠ 92 then appendJ d x j (putL l)
    else beginJ (appendJ d x j (putL l)).2.1 (appendJ d x j (putL l)).2.2.1 (appendJ d x j (putL l)).2.2.2 (bytesT next)
  else beginJ d x j (bytesT next)
def doF (d : DM) (x : MX) (j : JX) (t : T) (l : List C) : Int × DM × MX × JX × T :=
  if (applyT t l).2 ≠ 0 then ((applyT t l).2, d, x, j, t)
  else if (keepF d x j (applyT t l).1 l).1 ≠ 0 then ((keepF d x j (applyT t l).1 l).1, (keepF d x j (applyT t l).1 l).2.1, (keepF d x j (applyT t l).1 l).2.2.1, (keepF d x j (applyT t l).1 l).2.2.2, t)
  else (0, (keepF d x j (applyT t l).1 l).2.1, (keepF d x j (applyT t l).1 l).2.2.1, (keepF d x j (applyT t l).1 l).2.2.2, (applyT t l).1)
theorem progJ_wait : ∀ (ss : List Sec) (d : DM) (x : MX) (k at_ : Nat), (progJ d x k at_ ss).2.1.wait.length ≤ d.wait.length + ss.length ∧ (progJ d x k at_ ss).2.2.ops.length ≤ x.ops.length + ss.length
  | [], _, _, _, _ => ⟨Nat.le_refl _, Nat.le_refl _⟩
  | s :: ss, d, x, k, at_ => by
    have h1 : (programM s d x (k : Int) (at_ : Int)).2.1.wait.length ≤ d.wait.length + 1 := opG_wait 2 (fun d i => program_wait d i s) d x k at_
    have h2 : (programM s d x (k : Int) (at_ : Int)).2.2.ops.length ≤ x.ops.length + 1 := opG_ops 2 _ d x k at_
    rw [progJ, List.length_cons]
    split
    · omega
    · have := progJ_wait ss (programM s d x (k : Int) (at_ : Int)).2.1 (programM s d x (k : Int) (at_ : Int)).2.2 k (at_ + 1)
      omega
theorem append_few (d : DM) (x : MX) (j : JX) (b : Body) : (appendJ d x j b).2.1.wait.length ≤ d.wait.length + 100 ∧ (appendJ d x j b).2.2.1.ops.length ≤ x.ops.length + 100 := by
  have hp : (putF 2 (j.last + 1) b).length ≤ 64 := by
    by_cases h : b.length ≤ 4000
    · rw [putF_length h]; exact sizeF_le _
    · rw [putF_none h]; simp
  have h1 := progJ_wait (putF 2 (j.last + 1) b) d x (j.bk j.inn) j.next
  have h2 := thenSync_few (progJ d x (j.bk j.inn) j.next (putF 2 (j.last + 1) b))
  unfold appendJ
  split
  · exact ⟨Nat.le_add_right _ _, Nat.le_add_right _ _⟩
  · split
    · exact ⟨Nat.le_add_right _ _, Nat.le_add_right _ _⟩
    · simp only
      unfold writeJ
      split
      · simp only; omega
      · simp only; omega
theorem CRowV.fits {N : Nat} {w : World} {v : Value} {l : List C} (h : CRowV N w v l) : ∀ c ∈ l, FitC c := by
  obtain ⟨_, _, _, _, _, _, _, hr⟩ := h
  exact hr.2.1
/-- What a call of the journal leaves. -/
def KeptJ (G : List Nat) (q m p : Nat) (d : DM) (x : MX) (j : JX) (w0 : World) (w : World) : Prop := ∃ F D, Jour F D w q m p d x j ∧ Turns G (q :: (F ++ D)) w0 w

section
variable {F D : List Nat} {w : World} {z q m p : Nat} {d : DM} {x : MX} {j : JX} {t : T}
/-- What the operations of a region yield whose last call turns the journal. -/
def KV (f : Nat → Value) (k : Nat) (B : Nat) (l : List UInt8) : Nat → Value → Unit → World → Prop := fun j v _ w => if j = k then RowV w.heap.size w v l ∧ Fresh B v else v = f j
theorem KV.eq {f : Nat → Value} {k B : Nat} {l : List UInt8} {j : Nat} {v : Value} {w : World} (hj : j ≠ k) (h : KV f k B l j v () w) : v = f j := by unfold KV at h; rwa [if_neg hj] at h
theorem KV.row {f : Nat → Value} {k B : Nat} {l : List UInt8} {v : Value} {w : World} (h : KV f k B l k v () w) : RowV w.heap.size w v l ∧ Fresh B v := by unfold KV at h; rwa [if_pos rfl] at h
theorem KV.put {f : Nat → Value} {k B : Nat} {l : List UInt8} {j : Nat} {v : Value} {w : World} (hj : j ≠ k) (h : v = f j) : KV f k B l j v () w := by unfold KV; rwa [if_neg hj]
theorem KV.grow {f : Nat → Value} {k B : Nat} {l : List UInt8} {w w' : World} (hb : Below w.heap.size w w') {L : Nat → Bool} : ∀ j u, L j = true → KV f k B l j u () w → KV f k B l j u () w' := fun j u _ h => by
  unfold KV at h ⊢
  split at h
  · rename_i e
    rw [if_pos e]
    exact ⟨(h.1.below hb).up hb.size, h.2⟩
  · rename_i e
    rw [if_neg e]
    exact h
theorem KV.but {f : Nat → Value} {k B : Nat} {l : List UInt8} {G : List Nat} {w w' : World} (hb : But G w w') (hG : ∀ k ∈ G, k < B) {L : Nat → Bool} : ∀ j u, L j = true → KV f k B l j u () w → KV f k B l j u () w' := fun j u _ h => by
  unfold KV at h ⊢
  split at h
  · rename_i e
    rw [if_pos e]
    exact ⟨RowV.fresh h.1 h.2 (Nat.le_refl _) hG w' hb, h.2⟩
  · rename_i e
    rw [if_neg e]
    exact h

set_option maxHeartbeats 6400000 in
set_option maxRecDepth 100000 in
theorem keep_walk (h : Sto F D w z q m p d x j t) (next : T) (hn : FitT next) (v : Value) (l : List C) (hr : CRowV w.heap.size w v l) (hlen : d.wait.length ≤ 100000) (hop : x.ops.length ≤ 100000) :
    Calls Tryz.prog 74 #[.pointer (some ⟨z, 0, none⟩), next.v, v] w fun e w' => e = .returned (.int .i64 (keepF d x j next l).1) ∧ KeptJ (q :: (F ++ D)) q m p (keepF d x j next l).2.1 (keepF d x j next l).2.2.1 (keepF d x j next l).2.2.2 w w' := by
  have HH := hide h
  have HG : Hid (∀ k ∈ q :: (F ++ D), k < w.heap.size) := hide fun k hk => h.jour.lt k hk
  have hzo := h.own
  have hzl := h.arr.lt
  have HC0 : Hid (∀ w', But (q :: (F ++ D)) w w' → w'.cell? ⟨z, 0, none⟩ = some (.pointer (some ⟨q, 0, none⟩))) := hide fun w' hb => (h.arr.same (hb.block z hzl hzo)).cell (i := 0) rfl
  have HZO := hide hzo
  have HNI := hide (info37t hn)
  have HBW := hide (tbytes_fresh next hn)
  have HRV := hide hr
  obtain ⟨va, vn, vc, ev, _⟩ := hr
  subst ev
  unfold T.v at HBW ⊢
  have HBEG : Hid (∀ (d1 : DM) (x1 : MX) (j1 : JX) (F1 D1 : List Nat) (w1 : World) (u : Value), Jour F1 D1 w1 q m p d1 x1 j1 → (∀ w', But (q :: (F1 ++ D1)) w1 w' → RowV w'.heap.size w' u (bytesT next)) → d1.wait.length ≤ 700000 → x1.ops.length ≤ 700000 →
      Calls Tryz.prog 102 #[.pointer (some ⟨q, 0, none⟩), u] w1 fun e w' => e = .returned (.int .i64 (beginJ d1 x1 j1 (bytesT next)).1) ∧ ∃ F' D', Jour F' D' w' q m p (beginJ d1 x1 j1 (bytesT next)).2.1 (beginJ d1 x1 j1 (bytesT next)).2.2.1 (beginJ d1 x1 j1 (bytesT next)).2.2.2 ∧ Turns (q :: (F1 ++ D1)) (q :: (F' ++ D')) w1 w') := hide fun d1 x1 j1 F1 D1 w1 u h1 h2 h3 h4 => begin_walk h1 u _ h2 h3 h4
  have HRD := hide (fun (w1 : World) (hb : Below w.heap.size w w1) => ready_walk (h.jour.below hb))
  have HAPP : Hid (∀ (w1 : World) (u : Value), Jour F D w1 q m p d x j → (∀ w', But (q :: (F ++ D)) w1 w' → RowV w'.heap.size w' u (putL l)) → Calls Tryz.prog 101 #[.pointer (some ⟨q, 0, none⟩), u] w1 fun e w' => e = .returned (.int .i64 (appendJ d x j (putL l)).1) ∧
      ∃ F' D', Jour F' D' w' q m p (appendJ d x j (putL l)).2.1 (appendJ d x j (putL l)).2.2.1 (appendJ d x j (putL l)).2.2.2 ∧ Turns (q :: (F ++ D)) (q :: (F' ++ D')) w1 w') := hide fun w1 u h1 h2 => append_walk h1 u _ h2 (by omega) (by omega)
  have hfew := append_few d x j (putL l)
  have HFEW : Hid ((appendJ d x j (putL l)).2.1.wait.length ≤ 700000 ∧ (appendJ d x j (putL l)).2.2.1.ops.length ≤ 700000) := hide (by omega)
  have HLEN : Hid (d.wait.length ≤ 700000 ∧ x.ops.length ≤ 700000) := hide (by omega)
  have HKF : Hid (keepF d x j next l = if j.ready = true then (if (appendJ d x j (putL l)).1 ≠ 92 then appendJ d x j (putL l) else beginJ (appendJ d x j (putL l)).2.1 (appendJ d x j (putL l)).2.2.1 (appendJ d x j (putL l)).2.2.2 (bytesT next)) else beginJ d x j (bytesT next)) := hide rfl
  have HPW := hide (fun (w1 : World) (hb : Below w.heap.size w w1) => put_fresh w1.heap.size (.slice va vn vc) l w1 (Nat.le_refl _) (((unhide HRV).below hb).up hb.size))
  generalize appendJ d x j (putL l) = A at *
  generalize putL l = PL at *
  obtain ⟨R, hR⟩ : ∃ R, R = keepF d x j next l := ⟨_, rfl⟩
  rw [← hR] at HKF ⊢
  clear hR hlen hop hfew h hzo
  generalize bytesT next = BT at *
  generalize next.cs = X at *
  go_enter Tryz.func74, Tryz.ntmps74
  go_wp2_with (refine wpList_box 37 _ X rfl rfl rfl ?_)
  intro w1 hA1 hb1 hs1
  have HX1 : Hid (∀ w', But (q :: (F ++ D)) w1 w' → Arr w' w.heap.size X) := hide fun w' hb => hA1.same (hb.block _ (by omega) fun e => by have := unhide HG _ e; omega)
  have HJ1 := hide ((unhide HH).below hb1).jour
  have Hb1 := hide hb1
  have hc1 := unhide HC0 w1 (But.of_below hb1)
  have HRD1 := hide (unhide HRD w1 hb1)
  clear hA1 hb1 HRD
  go_wp2_with fail
  refine (unhide HRD1).mono ?_
  rintro e w2 ⟨rfl, hw⟩
  subst hw
  clear HRD1
  cases hrd : j.ready with
  | true =>
    rw [hrd, if_pos rfl] at HKF
    go_wp2_with fail
    refine Flow.wp_region (KV (fun ix => match ix with | 0 => .pointer (some ⟨z, 0, none⟩) | 1 => .pointer (some ⟨z, 0, none⟩) | 2 => .pointer (some ⟨z, 0, none⟩) | 3 => .pointer (some ⟨q, 0, none⟩) | 4 => .slice va vn vc | 6 => .int .i64 A.1 | 7 => .int .i64 A.1 | _ => undef) 5 w2.heap.size PL) (Flow.two 6 (fun (_ : Unit) w' => Below w2.heap.size w2 w') (fun _ w' => ∃ F1 D1, Jour F1 D1 w' q m p A.2.1 A.2.2.1 A.2.2.2 ∧ Turns (q :: (F ++ D)) (q :: (F1 ++ D1)) w w' ∧ w.heap.size ∉ q :: (F1 ++ D1) ∧ Arr w' w.heap.size X)) () (by kernel_rfl) (by kernel_rfl) (Below.refl _ w2).drew ⟨?_, ?_, ?_, ?_, ?_, ?_, ?_, ?_, trivial⟩ ?_
    · exact Flow.move (Flow.goes_plain rfl) (Flow.two.upd (by decide)) (.inl rfl) fun a s w' hs hd => KV.put (by decide) (hs 0 (by kernel_rfl))
    · exact Flow.pure (Flow.goes_plain rfl) (Flow.two.upd (by decide)) fun a L s w' hC hL hn hs hd => ⟨_, op_nilT rfl (KV.eq (by decide) (hd 0 13 (by kernel_rfl))) w', KV.put (by decide) rfl⟩
    · exact Flow.pure (Flow.goes_plain rfl) (Flow.two.upd (by decide)) fun a L s w' hC hL hn hs hd => ⟨_, op_f102_0 rfl (KV.eq (by decide) (hd 1 14 (by kernel_rfl))) w', KV.put (by decide) rfl⟩
    · exact Flow.pure (Flow.goes_plain rfl) (Flow.two.upd (by decide)) fun a L s w' hC hL hn hs hd => ⟨_, op_load93 rfl (KV.eq (by decide) (hd 2 15 (by kernel_rfl))) (unhide HC0 w' (But.of_below ((unhide Hb1).trans ((hC.pre (hn.after 6 (by kernel_rfl))).mono (unhide Hb1).size)))), KV.put (by decide) rfl⟩
    · exact Flow.move (Flow.goes_plain rfl) (Flow.two.upd (by decide)) (.inl rfl) fun a s w' hs hd => KV.put (by decide) (hs 2 (by kernel_rfl))
    · refine Flow.call (Flow.goes_plain rfl) fun a L s0 w' hC hL hn hs hd => ?_
      have h6 := hn.after 6 (by kernel_rfl)
      have hb0 := (unhide Hb1).trans ((hC.pre h6).mono (unhide Hb1).size)
      refine ⟨22, _, op_call22T rfl (KV.eq (by decide) (hd 4 17 (by kernel_rfl))) rfl w', (unhide HPW w' hb0).mono ?_⟩
      rintro e w'' ⟨v, rfl, hV, hfr, hb⟩
      exact ⟨_, (), rfl, KV.grow hb, Flow.two.put (by decide) h6 ((hC.pre h6).trans (hb.mono (hC.pre h6).size)), hV, hfr.lower (hC.pre h6).size⟩
    · refine Flow.call (Flow.goes_plain rfl) fun a L s0 w' hC hL hn hs hd => ?_
      have hrow := KV.row (hd 5 18 (by kernel_rfl))
      have hb := hC.pre hL
      have hJ := (unhide HJ1).below hb
      have hlt : ∀ k ∈ q :: (F ++ D), k < w2.heap.size := fun k hk => (unhide HJ1).lt k hk
      refine ⟨101, _, op_call101T rfl (KV.eq (by decide) (hd 3 16 (by kernel_rfl))) rfl rfl w', (unhide HAPP w' _ hJ (RowV.fresh hrow.1 hrow.2 (Nat.le_refl _) hlt)).mono ?_⟩
      rintro e w'' ⟨rfl, F4, D4, hJ4, hT4⟩
      have hT := Turns.after hb hT4
      exact ⟨_, (), rfl, KV.but hT4.1 hlt, Flow.two.post ⟨F4, D4, hJ4, Turns.after (unhide Hb1) hT, fun e => by
        rcases hT.2 _ e with e2 | e2
        · have := unhide HG _ e2; omega
        · omega, unhide HX1 w'' hT.1⟩, KV.put (by decide) rfl⟩
    · exact Flow.move (Flow.goes_plain rfl) (Flow.two.upd (by decide)) (.inr rfl) fun a s w' hs hd => KV.put (by decide) (KV.eq (by decide) (hd 6 19 (by kernel_rfl)))
    · intro L _ w5 hC hL vals hv
      obtain ⟨F1, D1, hJ5, hT5, hX6, hX5⟩ := hC.end (hL 6 (by decide))
      have e7 : vals 7 = .int .i64 A.1 := KV.eq (by decide) (hv 7 _ 7 rfl rfl)
      simp only [Free.putAll, Act.put, List.setIfInBounds_toArray, List.set_cons_succ, List.set_cons_zero, e7]
      have HJ5 := hide hJ5
      have HT5 := hide hT5
      have HXA : Hid (∀ w', But (q :: (F1 ++ D1)) w5 w' → Arr w' w.heap.size X) := hide fun w' hb => hX5.same (hb.block _ hX5.lt hX6)
      clear hC hL hv e7 hJ5 hT5 hX5 HJ1 HX1 Hb1 hc1 HAPP HPW HRV
      generalize vals 0 = y0
      generalize vals 1 = y1
      generalize vals 2 = y2
      generalize vals 3 = y3
      generalize vals 4 = y4
      generalize vals 5 = y5
      generalize vals 6 = y6
      by_cases h92 : A.1 = 92
      · have h92' : (A.1 != 92) = false := by simpa using h92
        have HRE : Hid (R = beginJ A.2.1 A.2.2.1 A.2.2.2 BT) := by
          show _ = _
          rw [unhide HKF, if_neg (by simpa using h92)]
        clear h92
        go_wp2_with fail
        refine Flow.wp_region (KV (fun ix => match ix with | 0 => .pointer (some ⟨z, 0, none⟩) | 1 => .pointer (some ⟨z, 0, none⟩) | 2 => .pointer (some ⟨z, 0, none⟩) | 3 => .pointer (some ⟨q, 0, none⟩) | 4 => .agg X.toArray | 6 => .int .i64 (beginJ A.2.1 A.2.2.1 A.2.2.2 BT).1 | 7 => .int .i64 (beginJ A.2.1 A.2.2.1 A.2.2.2 BT).1 | _ => undef) 5 w5.heap.size BT) (Flow.two 6 (fun (_ : Unit) w' => Below w5.heap.size w5 w') (fun _ w' => KeptJ (q :: (F ++ D)) q m p (beginJ A.2.1 A.2.2.1 A.2.2.2 BT).2.1 (beginJ A.2.1 A.2.2.1 A.2.2.2 BT).2.2.1 (beginJ A.2.1 A.2.2.1 A.2.2.2 BT).2.2.2 w w')) () (by kernel_rfl) (by kernel_rfl) (Below.refl _ w5).drew ⟨?_, ?_, ?_, ?_, ?_, ?_, ?_, ?_, trivial⟩ ?_
        · exact Flow.move (Flow.goes_plain rfl) (Flow.two.upd (by decide)) (.inl rfl) fun a s w' hs hd => KV.put (by decide) (hs 0 (by kernel_rfl))
        · exact Flow.pure (Flow.goes_plain rfl) (Flow.two.upd (by decide)) fun a L s w' hC hL hn hs hd => ⟨_, op_nilT rfl (KV.eq (by decide) (hd 0 23 (by kernel_rfl))) w', KV.put (by decide) rfl⟩
        · exact Flow.pure (Flow.goes_plain rfl) (Flow.two.upd (by decide)) fun a L s w' hC hL hn hs hd => ⟨_, op_f102_0 rfl (KV.eq (by decide) (hd 1 24 (by kernel_rfl))) w', KV.put (by decide) rfl⟩
        · exact Flow.pure (Flow.goes_plain rfl) (Flow.two.upd (by decide)) fun a L s w' hC hL hn hs hd => ⟨_, op_load93 rfl (KV.eq (by decide) (hd 2 25 (by kernel_rfl))) (unhide HC0 w' (((unhide HT5).then (hC.pre (hn.after 6 (by kernel_rfl)))).1)), KV.put (by decide) rfl⟩
        · exact Flow.pure (Flow.goes_plain rfl) (Flow.two.upd (by decide)) fun a L s w' hC hL hn hs hd => ⟨_, op_loadV rfl (hs 4 (by kernel_rfl)) ((unhide HXA w' (But.of_below (hC.pre (hn.after 6 (by kernel_rfl))))).range) Tryz.underlying37 rfl (unhide HNI), KV.put (by decide) rfl⟩
        · refine Flow.call (Flow.goes_plain rfl) fun a L s0 w' hC hL hn hs hd => ⟨17, _, op_call17T rfl (KV.eq (by decide) (hd 4 27 (by kernel_rfl))) rfl w', (unhide HBW w').mono ?_⟩
          rintro e w'' ⟨v, rfl, hV, hfr, hb⟩
          have h6 := hn.after 6 (by kernel_rfl)
          exact ⟨_, (), rfl, KV.grow hb, Flow.two.put (by decide) h6 ((hC.pre h6).trans (hb.mono (hC.pre h6).size)), hV, hfr.lower (hC.pre h6).size⟩
        · refine Flow.call (Flow.goes_plain rfl) fun a L s0 w' hC hL hn hs hd => ?_
          have hrow := KV.row (hd 5 28 (by kernel_rfl))
          have hb := hC.pre hL
          have hJ := (unhide HJ5).below hb
          have hlt : ∀ k ∈ q :: (F1 ++ D1), k < w5.heap.size := fun k hk => (unhide HJ5).lt k hk
          refine ⟨102, _, op_call102T rfl (KV.eq (by decide) (hd 3 26 (by kernel_rfl))) rfl rfl w', (unhide HBEG _ _ _ _ _ w' _ hJ (RowV.fresh hrow.1 hrow.2 (Nat.le_refl _) hlt) (unhide HFEW).1 (unhide HFEW).2).mono ?_⟩
          rintro e w'' ⟨rfl, F4, D4, hJ4, hT4⟩
          exact ⟨_, (), rfl, KV.but hT4.1 hlt, Flow.two.post ⟨F4, D4, hJ4, ((unhide HT5).then hb).trans hT4⟩, KV.put (by decide) rfl⟩
        · exact Flow.move (Flow.goes_plain rfl) (Flow.two.upd (by decide)) (.inr rfl) fun a s w' hs hd => KV.put (by decide) (KV.eq (by decide) (hd 6 29 (by kernel_rfl)))
        · intro L _ w9 hC hL vals hv
          have hK := hC.end (hL 6 (by decide))
          have e7 : vals 7 = .int .i64 (beginJ A.2.1 A.2.2.1 A.2.2.2 BT).1 := KV.eq (by decide) (hv 7 _ 6 rfl rfl)
          simp only [Free.putAll, Act.put, List.setIfInBounds_toArray, List.set_cons_succ, List.set_cons_zero, e7]
          rw [← unhide HRE] at hK ⊢
          have HK := hide hK
          clear hC hL hv e7 hK
          generalize vals 0 = y0
          generalize vals 1 = y1
          generalize vals 2 = y2
          generalize vals 3 = y3
          generalize vals 4 = y4
          generalize vals 5 = y5
          generalize vals 6 = y6
          go_wp2
          go_ret
          exact ⟨rfl, unhide HK⟩
      · have h92' : (A.1 != 92) = true := by simpa using h92
        have HRE : Hid (R = A) := by
          show _ = _
          rw [unhide HKF, if_pos h92]
        clear h92
        have HK : Hid (KeptJ (q :: (F ++ D)) q m p R.2.1 R.2.2.1 R.2.2.2 w w5) := by
          rw [unhide HRE]
          exact hide ⟨F1, D1, unhide HJ5, unhide HT5⟩
        go_wp2
        go_ret
        exact ⟨by rw [unhide HRE]; rfl, unhide HK⟩
  | false =>
    rw [hrd, if_neg (by simp)] at HKF
    have HT1 : Hid (Turns (q :: (F ++ D)) (q :: (F ++ D)) w w2) := hide (Turns.of_below (unhide Hb1))
    have HXA : Hid (∀ w', But (q :: (F ++ D)) w2 w' → Arr w' w.heap.size X) := HX1
    go_wp2_with fail
    refine Flow.wp_region (KV (fun ix => match ix with | 0 => .pointer (some ⟨z, 0, none⟩) | 1 => .pointer (some ⟨z, 0, none⟩) | 2 => .pointer (some ⟨z, 0, none⟩) | 3 => .pointer (some ⟨q, 0, none⟩) | 4 => .agg X.toArray | 6 => .int .i64 (beginJ d x j BT).1 | 7 => .int .i64 (beginJ d x j BT).1 | _ => undef) 5 w2.heap.size BT) (Flow.two 6 (fun (_ : Unit) w' => Below w2.heap.size w2 w') (fun _ w' => KeptJ (q :: (F ++ D)) q m p (beginJ d x j BT).2.1 (beginJ d x j BT).2.2.1 (beginJ d x j BT).2.2.2 w w')) () (by kernel_rfl) (by kernel_rfl) (Below.refl _ w2).drew ⟨?_, ?_, ?_, ?_, ?_, ?_, ?_, ?_, trivial⟩ ?_
    · exact Flow.move (Flow.goes_plain rfl) (Flow.two.upd (by decide)) (.inl rfl) fun a s w' hs hd => KV.put (by decide) (hs 0 (by kernel_rfl))
    · exact Flow.pure (Flow.goes_plain rfl) (Flow.two.upd (by decide)) fun a L s w' hC hL hn hs hd => ⟨_, op_nilT rfl (KV.eq (by decide) (hd 0 23 (by kernel_rfl))) w', KV.put (by decide) rfl⟩
    · exact Flow.pure (Flow.goes_plain rfl) (Flow.two.upd (by decide)) fun a L s w' hC hL hn hs hd => ⟨_, op_f102_0 rfl (KV.eq (by decide) (hd 1 24 (by kernel_rfl))) w', KV.put (by decide) rfl⟩
    · exact Flow.pure (Flow.goes_plain rfl) (Flow.two.upd (by decide)) fun a L s w' hC hL hn hs hd => ⟨_, op_load93 rfl (KV.eq (by decide) (hd 2 25 (by kernel_rfl))) (unhide HC0 w' (((unhide HT1).then (hC.pre (hn.after 6 (by kernel_rfl)))).1)), KV.put (by decide) rfl⟩
    · exact Flow.pure (Flow.goes_plain rfl) (Flow.two.upd (by decide)) fun a L s w' hC hL hn hs hd => ⟨_, op_loadV rfl (hs 4 (by kernel_rfl)) ((unhide HXA w' (But.of_below (hC.pre (hn.after 6 (by kernel_rfl))))).range) Tryz.underlying37 rfl (unhide HNI), KV.put (by decide) rfl⟩
    · refine Flow.call (Flow.goes_plain rfl) fun a L s0 w' hC hL hn hs hd => ⟨17, _, op_call17T rfl (KV.eq (by decide) (hd 4 27 (by kernel_rfl))) rfl w', (unhide HBW w').mono ?_⟩
      rintro e w'' ⟨v, rfl, hV, hfr, hb⟩
      have h6 := hn.after 6 (by kernel_rfl)
      exact ⟨_, (), rfl, KV.grow hb, Flow.two.put (by decide) h6 ((hC.pre h6).trans (hb.mono (hC.pre h6).size)), hV, hfr.lower (hC.pre h6).size⟩
    · refine Flow.call (Flow.goes_plain rfl) fun a L s0 w' hC hL hn hs hd => ?_
      have hrow := KV.row (hd 5 28 (by kernel_rfl))
      have hb := hC.pre hL
      have hJ := (unhide HJ1).below hb
      have hlt : ∀ k ∈ q :: (F ++ D), k < w2.heap.size := fun k hk => (unhide HJ1).lt k hk
      refine ⟨102, _, op_call102T rfl (KV.eq (by decide) (hd 3 26 (by kernel_rfl))) rfl rfl w', (unhide HBEG _ _ _ _ _ w' _ hJ (RowV.fresh hrow.1 hrow.2 (Nat.le_refl _) hlt) (unhide HLEN).1 (unhide HLEN).2).mono ?_⟩
      rintro e w'' ⟨rfl, F4, D4, hJ4, hT4⟩
      exact ⟨_, (), rfl, KV.but hT4.1 hlt, Flow.two.post ⟨F4, D4, hJ4, ((unhide HT1).then hb).trans hT4⟩, KV.put (by decide) rfl⟩
    · exact Flow.move (Flow.goes_plain rfl) (Flow.two.upd (by decide)) (.inr rfl) fun a s w' hs hd => KV.put (by decide) (KV.eq (by decide) (hd 6 29 (by kernel_rfl)))
    · intro L _ w9 hC hL vals hv
      have hK := hC.end (hL 6 (by decide))
      have e7 : vals 7 = .int .i64 (beginJ d x j BT).1 := KV.eq (by decide) (hv 7 _ 6 rfl rfl)
      simp only [Free.putAll, Act.put, List.setIfInBounds_toArray, List.set_cons_succ, List.set_cons_zero, e7]
      rw [← unhide HKF] at hK ⊢
      have HK := hide hK
      clear hC hL hv e7 hK
      generalize vals 0 = y0
      generalize vals 1 = y1
      generalize vals 2 = y2
      generalize vals 3 = y3
      generalize vals 4 = y4
      generalize vals 5 = y5
      generalize vals 6 = y6
      go_wp2
      go_ret
      exact ⟨rfl, unhide HK⟩

set_option maxHeartbeats 3200000 in
set_option maxRecDepth 100000 in
theorem do_walk (h : Sto F D w z q m p d x j t) (v : Value) (l : List C) (hr : CRowV w.heap.size w v l) (hlen : d.wait.length ≤ 100000) (hop : x.ops.length ≤ 100000) :
    Calls Tryz.prog 29 #[.pointer (some ⟨z, 0, none⟩), v] w fun e w' => e = .returned (.int .i64 (doF d x j t l).1) ∧ ∃ F' D', Sto F' D' w' z q m p (doF d x j t l).2.1 (doF d x j t l).2.2.1 (doF d x j t l).2.2.2.1 (doF d x j t l).2.2.2.2 ∧ Turns (z :: q :: (F ++ D)) (z :: q :: (F' ++ D')) w w' := by
  have HH := hide h
  have HRG := hide (sto_range h.arr)
  have hzl := h.arr.lt
  have HAL := hide alloc37
  have HTL := hide (tcs_length h.fit)
  have HTI := hide (info37t h.fit)
  have HAW : Hid (Calls Tryz.prog 14 #[t.v, v] w fun e w' => e = .returned (.tuple #[(applyT t l).1.v, .int .i64 (applyT t l).2]) ∧ Below w.heap.size w w') := hide (apply_walk _ v t h.fit l w (Nat.le_refl _) hr)
  have HAF := hide (apply_fit h.fit hr.fits)
  have HRV := hide hr
  obtain ⟨va, vn, vc, ev, _⟩ := hr
  subst ev
  have HKW : Hid (∀ (w1 : World), Sto F D w1 z q m p d x j t → CRowV w1.heap.size w1 (.slice va vn vc) l → Calls Tryz.prog 74 #[.pointer (some ⟨z, 0, none⟩), (applyT t l).1.v, .slice va vn vc] w1 fun e w' => e = .returned (.int .i64 (keepF d x j (applyT t l).1 l).1) ∧ KeptJ (q :: (F ++ D)) q m p (keepF d x j (applyT t l).1 l).2.1 (keepF d x j (applyT t l).1 l).2.2.1 (keepF d x j (applyT t l).1 l).2.2.2 w1 w') := hide fun w1 h1 h2 => keep_walk h1 _ (unhide HAF) _ l h2 hlen hop
  have HDF : Hid (doF d x j t l = if (applyT t l).2 ≠ 0 then ((applyT t l).2, d, x, j, t)
    else if (keepF d x j (applyT t l).1 l).1 ≠ 0 then ((keepF d x j (applyT t l).1 l).1, (keepF d x j (applyT t l).1 l).2.1, (keepF d x j (applyT t l).1 l).2.2.1, (keepF d x j (applyT t l).1 l).2.2.2, t)
    else (0, (keepF d x j (applyT t l).1 l).2.1, (keepF d x j (applyT t l).1 l).2.2.1, (keepF d x j (applyT t l).1 l).2.2.2, (applyT t l).1)) := hide rfl
  obtain ⟨R, hR⟩ : ∃ R, R = doF d x j t l := ⟨_, rfl⟩
  rw [← hR] at HDF ⊢
  clear hR h hlen hop
  generalize applyT t l = A at *
  generalize keepF d x j A.1 l = K at *
  have HAL2 := hide (tcs_length (unhide HAF))
  have HAI := hide (info37t (unhide HAF))
  have HA1 := hide (tcs_one A.1)
  unfold T.v at HAW HKW
  obtain ⟨X, hX⟩ : ∃ X, X = t.cs := ⟨_, rfl⟩
  have HXE := hide hX
  obtain ⟨Y, hY⟩ : ∃ Y, Y = A.1.cs := ⟨_, rfl⟩
  have HYE := hide hY
  rw [← hX] at HAW HRG HTL HTI
  rw [← hY] at HAW HKW HAL2 HAI HA1
  clear hX hY
  go_enter Tryz.func29, Tryz.ntmps29
  go_wp2_with (refine wpList_loadPart 37 _ z 1 X _ rfl rfl rfl (unhide HRG) Tryz.underlying37 rfl (unhide HTI) ?_)
  refine (unhide HAW).mono ?_
  rintro e w1 ⟨rfl, hb1⟩
  have Hb1 := hide hb1
  clear hb1 HAW
  go_wp2_with (refine wpList_alloc 37 37 zeroT.cs rfl rfl (unhide HAL) ?_)
  intro w2 hA2 hb2 hs2
  have HA2 := hide hA2
  have Hb2 := hide ((unhide Hb1).trans (hb2.mono (unhide Hb1).size))
  have hs1 : w.heap.size ≤ w1.heap.size := (unhide Hb1).size
  clear hA2 hb2 Hb1
  generalize w1.heap.size = b at *
  go_wp2_with (refine wpList_storeAll 37 _ _ b Y zeroT.cs rfl rfl rfl rfl (unhide HA2) (by rw [unhide HAL2]; rfl) (unhide HAI) (unhide HA1) ?_)
  intro w3 hA3 hg3 hs3
  have HA3 := hide hA3
  have hb3 := (unhide Hb2).grown hg3 (unhide Hb2).size (fun k hk => by simp at hk; omega)
  have Hb3 := hide hb3
  have HS3 := hide ((unhide HH).below hb3)
  have HKW3 := hide (unhide HKW w3 ((unhide HH).below hb3) (((unhide HRV).below hb3).up hb3.size))
  clear hA3 hg3 hb3 HA2 Hb2 HKW
  by_cases h0 : A.2 = 0
  · have h0' : (A.2 != 0) = false := by simpa using h0
    rw [if_neg (by simpa using h0)] at HDF
    clear h0
    have HAK : Hid (∀ w', But (q :: (F ++ D)) w3 w' → Arr w' b Y) := hide fun w' hb => (unhide HA3).same (hb.block _ (by omega) fun e => by
      have := (unhide HH).lt b (List.mem_cons_of_mem _ e)
      omega)
    go_wp2_with (refine wpList_loadAll 37 _ b Y _ rfl rfl rfl (unhide HA3) Tryz.underlying37 rfl (unhide HAI) ?_)
    refine (unhide HKW3).mono ?_
    rintro e w4 ⟨rfl, F4, D4, hJ4, hT4⟩
    have HA4 := hide (unhide HAK w4 hT4.1)
    have hS4 := (unhide HS3).turn hT4 hJ4
    have HS4 := hide hS4.1
    have HT4 := hide ((Turns.of_below (unhide Hb3)).trans hS4.2)
    have hbn : b ∉ z :: q :: (F4 ++ D4) := fun e => by
      rcases hS4.2.2 b e with e2 | e2
      · have := (unhide HH).lt b e2; omega
      · omega
    have HBN := hide hbn
    clear hJ4 hT4 hS4 HAK HKW3 hbn
    by_cases h1 : K.1 = 0
    · have h1' : (K.1 != 0) = false := by simpa using h1
      rw [if_neg (by simpa using h1)] at HDF
      clear h1
      have HZA := hide (unhide HS4).arr
      have HXL : Hid ((Value.pointer (some ⟨q, 0, none⟩) :: t.cs).take 1 ++ (Y ++ (Value.pointer (some ⟨q, 0, none⟩) :: t.cs).drop (1 + Y.length)) = .pointer (some ⟨q, 0, none⟩) :: A.1.cs) := by
        show _ = _
        have h1 : Y.length = 75 := unhide HAL2
        have h2 : t.cs.length = 75 := tcs_length (unhide HS4).fit
        rw [h1, show 1 + 75 = 75 + 1 by rfl, List.drop_succ_cons, List.drop_of_length_le (by omega), List.append_nil, unhide HYE]
        rfl
      have hzl2 : ((Value.pointer (some ⟨q, 0, none⟩)) :: t.cs).length = 76 := by rw [List.length_cons, tcs_length (unhide HS4).fit]
      have HZL := hide hzl2
      clear hzl2
      generalize (Value.pointer (some ⟨q, 0, none⟩) :: t.cs) = Z0 at *
      go_wp2_with (first
        | refine wpList_loadAll 37 _ b Y _ rfl rfl rfl (unhide HA4) Tryz.underlying37 rfl (unhide HAI) ?_
        | refine wpList_storePart 37 _ _ z 1 Y Z0 rfl rfl rfl rfl (unhide HZA) (by rw [unhide HAL2, unhide HZL]; decide) (unhide HAI) (unhide HA1) ?_)
      intro w5 hA5 hg5 hs5
      rw [unhide HXL] at hA5
      have hS5 := (unhide HS4).set (unhide HAF) hA5 hg5
      have HS5 := hide hS5.1
      have HT5 := hide ((unhide HT4).trans hS5.2)
      clear hA5 hg5 hS5 HS4 HT4 HA4 HZA
      go_wp2
      go_ret
      refine ⟨by rw [unhide HDF]; rfl, ?_⟩
      rw [unhide HDF]
      exact ⟨F4, D4, unhide HS5, unhide HT5⟩
    · have h1' : (K.1 != 0) = true := by simpa using h1
      rw [if_pos h1] at HDF
      clear h1
      go_wp2
      go_ret
      refine ⟨by rw [unhide HDF]; rfl, ?_⟩
      rw [unhide HDF]
      exact ⟨F4, D4, unhide HS4, unhide HT4⟩
  · have h0' : (A.2 != 0) = true := by simpa using h0
    rw [if_pos h0] at HDF
    clear h0
    go_wp2
    go_ret
    refine ⟨by rw [unhide HDF]; rfl, ?_⟩
    rw [unhide HDF]
    exact ⟨F, D, unhide HS3, Turns.of_below (unhide Hb3)⟩
end
end Go.Proofs.YtdfdalkcljfghaaGreat.Slot
