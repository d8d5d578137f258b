/-
  What the document's own Sum answers: the same SHA-256.
-/
import Derived.Test.YtnfgakbfnmmhcaaDoorRefOps
namespace Go.Proofs.YtnfgakbfnmmhcaaDoor
open Go.RowKit

theorem row_one {w : World} {b : Nat} {c : BitVec 8} (h : w.cell? ⟨b, 0, none⟩ = some (.int .u8 ((c.toNat : Nat) : Int))) : Row w (some ⟨b, 0, none⟩) 1 [c] :=
  ⟨rfl, by decide, fun i hi => by
    obtain rfl : i = 0 := by omega
    exact ⟨b, 0, rfl, h⟩⟩

theorem owned_fresh (w : World) (base : Nat) (hb : base ≤ w.heap.size) : (w.alloc (.cells #[] 5)).ownsRow base 5 1 (.slice (some ⟨w.heap.size, 0, none⟩) 0 0) 0 [] :=
  World.ownsRow_lit w #[] 0 hb (by decide) rfl

theorem owned_alloc {w : World} {base e size g n cap : Nat} {xs : List Value} (h : w.ownsRow base e size (.slice (some ⟨g, 0, none⟩) n cap) n xs) (o : Obj) : (w.alloc o).ownsRow base e size (.slice (some ⟨g, 0, none⟩) n cap) n xs :=
  owned_keep h ((Below.refl _ _).alloc (Nat.le_refl _) _) (owned_lt h)

theorem byte32m (x : BitVec 32) (k : Nat) : (N32 x / 2 ^ (24 - 8 * (k % 4))).tmod 256 % 256 = ((((x >>> (8 * (3 - k % 4))).setWidth 8).toNat : Nat) : Int) := by
  have e : 24 - 8 * (k % 4) = 8 * (3 - k % 4) := by omega
  rw [e, Int.tmod_eq_emod_of_nonneg (Int.ediv_nonneg (N32_lo x) (Int.le_of_lt (Int.pow_pos (by decide)))), Int.emod_emod, byte32]

set_option maxRecDepth 100000 in
set_option maxHeartbeats 4000000 in
theorem ref_any (a : Option Addr) (len cap : Nat) (bs : List (BitVec 8)) (w : World) (hr : Row w a len bs) (hnil : a = none → cap = 0) (hlen : len ≤ 1500) :
    Calls Tryd.prog 12 #[.slice a len cap] w fun e w' => e = .returned (.agg (bytesV (Sha.sum bs)).toArray) ∧ Below w.heap.size w w' := by
  have Hr := hide hr
  have Hnil := hide hnil
  have Hl := hide hr.1
  clear hr hnil
  go_enter Tryd.func12, Tryd.ntmps12
  go_wp2_with (refine wpList_alloc 25 25 (bytesV zerosB) rfl rfl alloc25 ?_)
  intro w1 hA1 hb1 hs1
  have HR1 := hide hA1
  have Hb1 := hide hb1
  have hsz1 := hs1
  clear hA1 hb1
  have ho1 := owned_fresh w1 (w.heap.size + 1) (by omega)
  rw [hs1] at ho1
  have Ho1 := hide ho1
  have Hrow1 := hide (((unhide Hr).below (unhide Hb1)).alloc (.cells #[] 5))
  clear hsz1 ho1
  go_wp2_with (refine wpList_grow _ _ rfl rfl (w.heap.size + 1) (w.heap.size + 1) 0 0 [] a len cap bs rfl rfl (unhide Ho1) (unhide Hrow1) (unhide Hnil) (by omega) (by simp; omega) ?_)
  intro g2 cap2 w2 ho2 hg2 hor2
  have hb2 : Below (w.heap.size + 1) w1 w2 := ((Below.refl _ _).alloc (by omega) (.cells #[] 5)).grown hg2 (by simp; omega) (fun k hk => by simp at hk; omega)
  have Hb2 := hide ((unhide Hb1).trans (hb2.mono (by omega)))
  have HR2 := hide ((unhide HR1).keep hb2 (by omega))
  have Ho2 := hide ho2
  clear ho2 hg2 hor2 hb2 Ho1 Hrow1 HR1 Hb1 hs1
  have hsz2 : w.heap.size < w2.heap.size := (unhide HR2).lt
  go_wp2_with (refine wpList_grow _ _ rfl rfl (w.heap.size + 1) g2 len cap2 (bytesV bs) (some ⟨w2.heap.size, 0, none⟩) 1 1 [128#8] rfl rfl (owned_alloc (unhide Ho2) _) (row_one (by simp)) (fun h => by cases h) (by omega) (by simp; omega) ?_)
  intro g3 cap3 w3 ho3 hg3 hor3
  have hb3 : Below (w.heap.size + 1) w2 w3 := ((Below.refl _ _).alloc (by omega) (.cells #[.int .u8 128] 5)).grown hg3 (by simp; omega) (fun k hk => by simp at hk; have := owned_base (unhide Ho2); omega)
  have Hb3 := hide ((unhide Hb2).trans (hb3.mono (by omega)))
  have HR3 := hide ((unhide HR2).keep hb3 (by omega))
  have ho3' : w3.ownsRow (w.heap.size + 1) 5 1 (.slice (some ⟨g3, 0, none⟩) (len + 1) cap3) (len + 1) (bytesV (padTo bs 0)) := by
    have e : bytesV bs ++ bytesV [128#8] = bytesV (padTo bs 0) := by simp [bytesV, padTo]
    rw [← e]; exact ho3
  have Ho3 := hide ho3'
  clear ho3 ho3' hg3 hor3 hb3 Ho2 HR2 Hb2
  obtain ⟨z, hz⟩ : ∃ z, z = (119 - len % 64) % 64 := ⟨_, rfl⟩
  have Hz := hide hz
  have hz64 : z < 64 := by omega
  have hz56 : (len + 1 + z) % 64 = 56 := by omega
  have hzmin : ∀ j, j < z → (len + 1 + j) % 64 ≠ 56 := by intro j hj; omega
  have Hzmin := hide hzmin
  clear hz hzmin hsz2
  go_wp2_with fail
  go_loopw [3] (fun s wr => ∃ (j g c : Nat), j ≤ z ∧ s = .slice (some ⟨g, 0, none⟩) (len + 1 + j) c ∧ wr.ownsRow (w.heap.size + 1) 5 1 (.slice (some ⟨g, 0, none⟩) (len + 1 + j) c) (len + 1 + j) (bytesV (padTo bs j)) ∧ Arr wr w.heap.size (bytesV zerosB) ∧ Below w.heap.size w wr) (fun s _ => len + 1 + z - lenOf s)
  case atStart => exact ⟨0, g3, cap3, by omega, rfl, unhide Ho3, unhide HR3, unhide Hb3⟩
  case round =>
    obtain ⟨j, g, c, hj, rfl, ho, hR, hb⟩ := hrel
    clear Ho3 HR3 Hb3
    have Ho := hide ho
    have HR := hide hR
    have Hb := hide hb
    have hszr : w.heap.size < wr.heap.size := hR.lt
    clear ho hR hb
    by_cases hlt : j < z
    · have hne : (((len + 1 + j : Nat) : Int).tmod 64 != 56) = true := by
        have := unhide Hzmin j hlt
        rw [bne_iff_ne, Int.tmod_eq_emod_of_nonneg (by omega)]; omega
      have hne2 : (((len : Int) + 1 + (j : Int)) % 64 != 56) = true := by
        have := unhide Hzmin j hlt
        rw [bne_iff_ne]; omega
      go_wp2_with (refine wpList_grow _ _ rfl rfl (w.heap.size + 1) g (len + 1 + j) c (bytesV (padTo bs j)) (some ⟨wr.heap.size, 0, none⟩) 1 1 [0#8] rfl rfl (owned_alloc (unhide Ho) _) (row_one (by simp)) (fun h => by cases h) (by omega) (by simp; omega) ?_)
      intro g4 cap4 w4 ho4 hg4 hor4
      have hb4 : Below (w.heap.size + 1) wr w4 := ((Below.refl _ _).alloc (by omega) (.cells #[.int .u8 0] 5)).grown hg4 (by simp; omega) (fun k hk => by simp at hk; have := owned_base (unhide Ho); omega)
      have Hb4 := hide ((unhide Hb).trans (hb4.mono (by omega)))
      have HR4 := hide ((unhide HR).keep hb4 (by omega))
      have ho4' : w4.ownsRow (w.heap.size + 1) 5 1 (.slice (some ⟨g4, 0, none⟩) (len + 1 + (j + 1)) cap4) (len + 1 + (j + 1)) (bytesV (padTo bs (j + 1))) := by
        have e : bytesV (padTo bs j) ++ bytesV [0#8] = bytesV (padTo bs (j + 1)) := by rw [← padTo_succ]; simp [bytesV]
        rw [← e, show len + 1 + (j + 1) = len + 1 + j + 1 by omega]; exact ho4
      have Ho4 := hide ho4'
      clear ho4 ho4' hg4 hor4 hb4 Ho HR Hb hne hne2
      go_wp2
      go_roundw
      case rel => exact ⟨j + 1, g4, cap4, by omega, by rw [show len + 1 + (j + 1) = len + 1 + j + 1 by omega], unhide Ho4, unhide HR4, unhide Hb4⟩
      case measure => simp [lenOf]; omega
    · obtain rfl : j = z := by omega
      have heq : (((len + 1 + j : Nat) : Int).tmod 64 != 56) = false := by
        rw [Int.tmod_eq_emod_of_nonneg (by omega)]
        simp; omega
      have heq2 : (((len : Int) + 1 + (j : Int)) % 64 != 56) = false := by simp; omega
      have hN0 : numTo bs 0 = padTo bs j := by rw [numTo_zero, unhide Hl, unhide Hz]
      rw [← hN0] at Ho
      clear hN0
      go_wp2_with fail
      clear heq heq2
      go_loopw [3, 5, 6] (fun s wt i wr => ∃ (k g c : Nat), k ≤ 8 ∧ i = .int .i64 k ∧ wt = .int .u64 (weight k : Int) ∧ s = .slice (some ⟨g, 0, none⟩) (len + 1 + j + k) c ∧ wr.ownsRow (w.heap.size + 1) 5 1 (.slice (some ⟨g, 0, none⟩) (len + 1 + j + k) c) (len + 1 + j + k) (bytesV (numTo bs k)) ∧ Arr wr w.heap.size (bytesV zerosB) ∧ Below w.heap.size w wr) (fun _ _ i _ => 8 - (intOf i).toNat)
      case atStart => exact ⟨0, g, c, by omega, rfl, rfl, rfl, unhide Ho, unhide HR, unhide Hb⟩
      case round =>
        clear Ho HR Hb hszr
        obtain ⟨k, g, c, hk, rfl, rfl, rfl, ho, hR, hb⟩ := hrel
        have Ho := hide ho
        have HR := hide hR
        have Hb := hide hb
        have hszr : w.heap.size < wr.heap.size := hR.lt
        clear ho hR hb
        by_cases hlt8 : k < 8
        · have hwp : (0 : Int) < (weight k : Int) := by have := weight_pos k hlt8; omega
          have hwl : (weight k : Int) ≤ 72057594037927936 := by have := weight_le k; omega
          have Hwb : Hid (((len : Int) * 8 / (weight k : Int)).tmod 256 % 256 = (((BitVec.ofNat 8 ((bs.length * 8) >>> (8 * (7 - k)))).toNat : Nat) : Int)) := by
            show _ = _
            rw [← weight_byte (bs.length * 8) k hlt8, Int.tmod_eq_emod_of_nonneg (Int.ediv_nonneg (by omega) (by omega)), Int.emod_emod, unhide Hl, Int.natCast_mul]
            rfl
          have Hns := hide (numTo_succ bs k hlt8)
          have Hws := hide (weight_succ k)
          generalize weight k = wk at *
          go_wp2_with (refine wpList_grow _ _ rfl rfl (w.heap.size + 1) g (len + 1 + j + k) c (bytesV (numTo bs k)) (some ⟨wr.heap.size, 0, none⟩) 1 1 [BitVec.ofNat 8 ((bs.length * 8) >>> (8 * (7 - k)))] rfl rfl (owned_alloc (unhide Ho) _) (row_one (by rw [cell_new]; exact congrArg some (congrArg (Value.int .u8) (unhide Hwb)))) (fun h => by cases h) (by omega) (by simp; omega) ?_)
          intro g4 cap4 w4 ho4 hg4 hor4
          have hb4 : Below (w.heap.size + 1) wr w4 := ((Below.refl _ _).alloc (by omega) _).grown hg4 (by simp; omega) (fun k hk => by simp at hk; have := owned_base (unhide Ho); omega)
          have Hb4 := hide ((unhide Hb).trans (hb4.mono (by omega)))
          have HR4 := hide ((unhide HR).keep hb4 (by omega))
          have ho4' : w4.ownsRow (w.heap.size + 1) 5 1 (.slice (some ⟨g4, 0, none⟩) (len + 1 + j + (k + 1)) cap4) (len + 1 + j + (k + 1)) (bytesV (numTo bs (k + 1))) := by
            have e : bytesV (numTo bs k) ++ bytesV [BitVec.ofNat 8 ((bs.length * 8) >>> (8 * (7 - k)))] = bytesV (numTo bs (k + 1)) := by rw [← unhide Hns]; simp [bytesV]
            rw [← e, show len + 1 + j + (k + 1) = len + 1 + j + k + 1 by omega]; exact ho4
          have Ho4 := hide ho4'
          clear ho4 ho4' hg4 hor4 hb4 Ho HR Hb
          go_wp2
          go_roundw
          case rel =>
            refine ⟨k + 1, g4, cap4, by omega, by go_num, ?_, by rw [show len + 1 + j + (k + 1) = len + 1 + j + k + 1 by omega], unhide Ho4, unhide HR4, unhide Hb4⟩
            rw [← unhide Hws]
            go_num
          case measure => simp [intOf]; omega
        · obtain rfl : k = 8 := by omega
          have hS : Sha.whole bs = numTo bs 8 := (numTo_all bs).symm
          rw [← hS] at Ho
          clear hS
          have hSl : (Sha.whole bs).length = len + 1 + j + 8 := by rw [whole_length, unhide Hl, unhide Hz]; omega
          have HSl := hide hSl
          have HSm := hide (whole_mod bs)
          clear hSl
          obtain ⟨S, hS⟩ : ∃ S, S = Sha.whole bs := ⟨_, rfl⟩
          rw [← hS] at Ho HSl HSm
          have HS := hide hS
          clear hS
          obtain ⟨L, hL⟩ : ∃ L, L = len + 1 + j + 8 := ⟨_, rfl⟩
          rw [← hL] at Ho HSl ⊢
          have hL2 : L ≤ 1600 := by omega
          clear hL hz56 hz64 hj hlt hk hlt8 Hzmin
          have hgb := owned_base (unhide Ho)
          have hgl := owned_lt (unhide Ho)
          have Hrow := hide (owned_row (unhide Ho) (unhide HSl) (by omega))
          clear Ho
          go_wp2_with fail
          refine (first_any _).mono ?_
          rintro e w4 ⟨rfl, hb4⟩
          have HR4 := hide ((unhide HR).below hb4)
          have Hrow4 := hide ((unhide Hrow).below hb4)
          have Hb4 := hide ((unhide Hb).trans (hb4.mono (unhide Hb).size))
          have hg4 : g < w4.heap.size := Nat.lt_of_lt_of_le hgl hb4.size
          clear hb4 HR Hrow Hb hgl hszr
          go_wp2_with fail
          refine (rounds_any _).mono ?_
          rintro e w5 ⟨rfl, hb5⟩
          have HR5 := hide ((unhide HR4).below hb5)
          have Hrow5 := hide ((unhide Hrow4).below hb5)
          have Hb5 := hide ((unhide Hb4).trans (hb5.mono (unhide Hb4).size))
          have hg5 : g < w5.heap.size := Nat.lt_of_lt_of_le hg4 hb5.size
          clear hb5 HR4 Hrow4 Hb4 hg4
          obtain ⟨b7, hb7⟩ : ∃ b, b = w5.heap.size := ⟨_, rfl⟩
          rw [← hb7] at hg5
          go_wp2_with (refine wpList_alloc 44 44 (quadsV zeros8) rfl rfl alloc44 ?_)
          intro w6 hA6 hb6 hs6
          have HR6 := hide ((unhide HR5).below hb6)
          have Hrow6 := hide ((unhide Hrow5).below hb6)
          have Hb6 := hide ((unhide Hb5).trans (hb6.mono (unhide Hb5).size))
          rw [← hb7] at hA6 hs6 ⊢
          have HH6 := hide hA6
          clear hA6 hb6 HR5 Hrow5 Hb5 hb7
          go_wp2_with (refine wpList_alloc 46 46 (quadsV zeros32) rfl rfl alloc46 ?_)
          intro w7 hA7 hb7 hs7
          have hb7' : Below w6.heap.size w6 w7 := by rw [hs6]; exact hb7
          have HR7 := hide ((unhide HR6).below hb7')
          have Hrow7 := hide ((unhide Hrow6).below hb7')
          have HH7 := hide ((unhide HH6).below hb7')
          have Hb7 := hide ((unhide Hb6).trans (hb7'.mono (unhide Hb6).size))
          have HK7 := hide hA7
          clear hA7 hb7 hb7' HR6 Hrow6 HH6 Hb6 hs6 hs7
          go_wp2_with (refine wpList_storeAll 44 _ _ b7 (quadsV Sha.start) (quadsV zeros8) rfl rfl rfl rfl (unhide HH7) rfl info44 (quadsV_one _) ?_)
          intro w8 hA8 hg8 _
          have HR8 := hide ((unhide HR7).grown hg8 (by simp; omega))
          have Hrow8 := hide ((unhide Hrow7).other hg8 (fun ad e => by cases e; show g ≠ b7; omega))
          have HK8 := hide ((unhide HK7).grown hg8 (by simp))
          have Hb8 := hide ((unhide Hb7).grown hg8 (unhide Hb7).size (fun k hk => by simp at hk; omega))
          have HH8 := hide hA8
          clear hA8 hg8 HR7 Hrow7 HK7 Hb7 HH7
          go_wp2_with (refine wpList_storeAll 46 _ _ (b7 + 1) (quadsV Sha.K) (quadsV zeros32) rfl rfl rfl rfl (unhide HK8) rfl info46 (quadsV_one _) ?_)
          intro w9 hA9 hg9 _
          have HE9 : Hid (Env w w9 g L (b7 + 1) S) := ⟨(unhide Hrow8).other hg9 (fun ad e => by cases e; show g ≠ b7 + 1; omega), hA9, (unhide HR8).grown hg9 (by simp; omega), (unhide Hb8).grown hg9 (unhide Hb8).size (fun k hk => by simp at hk; omega)⟩
          have HH9 := hide ((unhide HH8).grown hg9 (by simp))
          clear hA9 hg9 HR8 Hrow8 HK8 Hb8 HH8
          go_wp2_with fail
          go_loopw [9] (fun i wr => ∃ q : Nat, 64 * q ≤ L ∧ i = .int .i64 ((64 * q : Nat) : Int) ∧ Arr wr b7 (quadsV (Sha.chain S q)) ∧ Env w wr g L (b7 + 1) S) (fun i _ => L - (intOf i).toNat)
          case atStart => exact ⟨0, by omega, rfl, unhide HH9, unhide HE9⟩
          case round =>
            obtain ⟨q, hq, rfl, hH, hE⟩ := hrel
            clear HH9 HE9
            have HH := hide hH
            have HE := hide hE
            have hbr : b7 + 1 < wr.heap.size := hE.roots.lt
            clear hH hE
            by_cases hlt3 : 64 * q < L
            · have hq64 : 64 * q + 64 ≤ L := by have h1 := unhide HSm; rw [unhide HSl] at h1; omega
              have Hbl := hide (blk_length S q (by rw [unhide HSl]; omega))
              have Hbg : Hid (∀ k, k < 64 → ((S.drop (64 * q)).take 64).getD k 0 = S.getD (64 * q + k) 0) := fun k hk => blk_get S q k hk
              have Hch : Hid (Sha.chain S (q + 1) = Sha.mix (Sha.chain S q) ((S.drop (64 * q)).take 64)) := rfl
              generalize (S.drop (64 * q)).take 64 = blk at *
              have Hcl := hide (Sha.chain_length S q)
              generalize Sha.chain S q = hs0 at *
              go_wp2_with (first
                | refine wpList_build 46 _ (quadsV zeros32) [] rfl rfl rfl built46z ?_
                | refine wpList_alloc 46 46 (quadsV zeros32) rfl rfl alloc46 ?_)
              intro w10 hA10 hb10 hs10
              obtain ⟨b10, hb10e⟩ : ∃ b, b = wr.heap.size := ⟨_, rfl⟩
              rw [← hb10e] at hA10 hs10 hbr ⊢
              have HE10 := hide ((unhide HE).keep hb10)
              have HH10 := hide ((unhide HH).below hb10)
              have HW10 := hide hA10
              clear hA10 hb10 HE HH hb10e
              go_wp2_with (refine wpList_storeAll 46 _ _ b10 (quadsV zeros32) (quadsV zeros32) rfl rfl rfl rfl (unhide HW10) rfl info46 (quadsV_one _) ?_)
              intro w11 hA11 hg11 _
              have hwb10 : w.heap.size < b10 := by omega
              have HE11 := hide ((unhide HE10).grown hg11 (by omega) (by omega) hwb10)
              have HH11 := hide ((unhide HH10).grown hg11 (by simp; omega))
              have hW11 : Arr w11 b10 (quadsV (wsAt blk 0)) := by rw [wsAt_low blk 0 (by omega), Sha.words_zero]; exact hA11
              have HW11 := hide hW11
              clear hA11 hg11 hW11 HE10 HH10 HW10 hs10
              go_wp2_with fail
              go_loopw [11] (fun i wr => ∃ t : Nat, t ≤ 64 ∧ i = .int .i64 t ∧ Arr wr b10 (quadsV (wsAt blk t)) ∧ Arr wr b7 (quadsV hs0) ∧ Env w wr g L (b7 + 1) S) (fun i _ => 64 - (intOf i).toNat)
              case atStart => exact ⟨0, by omega, rfl, unhide HW11, unhide HH11, unhide HE11⟩
              case round =>
                clear HW11 HH11 HE11
                obtain ⟨t, ht, rfl, hW, hH, hE⟩ := hrel
                have HH := hide hH
                have HE := hide hE
                clear hH hE
                by_cases hlt4 : t < 64
                · by_cases hlt16 : t < 16
                  · rw [wsAt_low blk t (by omega)] at hW
                    have HW := hide hW
                    clear hW
                    go_wp2_with fail
                    go_loopw [12] (fun i wr => ∃ k : Nat, k ≤ 4 ∧ i = .int .i64 k ∧ Arr wr b10 (quadsV (Sha.words blk (4 * t + k))) ∧ Arr wr b7 (quadsV hs0) ∧ Env w wr g L (b7 + 1) S) (fun i _ => 4 - (intOf i).toNat)
                    case atStart => exact ⟨0, by omega, rfl, unhide HW, unhide HH, unhide HE⟩
                    case round =>
                      clear HW HH HE
                      obtain ⟨k, hk, rfl, hW, hH, hE⟩ := hrel
                      have HH := hide hH
                      have HE := hide hE
                      clear hH hE
                      by_cases hltk : k < 4
                      · have hjn := words_join blk (4 * t + k) (by omega) (unhide Hbl)
                        have hst := Sha.words_step blk (4 * t + k) (by omega) (unhide Hbl)
                        rw [show (4 * t + k) / 4 = t by omega] at hjn hst
                        have hcw := hW.cell (quadsV_get (Sha.words blk (4 * t + k)) (i := t) (by rw [Sha.words_length]; omega))
                        have hfw := hW.free t
                        obtain ⟨sb, so, hse, hcs⟩ := (unhide HE).row.2.2 (64 * q + 4 * t + k) (by omega)
                        cases hse
                        rw [Nat.zero_add, show 64 * q + 4 * t + k = 64 * q + (4 * t + k) by omega, ← unhide Hbg (4 * t + k) (by omega), show 64 * q + (4 * t + k) = 64 * q + 4 * t + k by omega] at hcs
                        have Hjn := hide hjn
                        have Hst := hide hst
                        have HW := hide hW
                        clear hjn hst hW
                        generalize (Sha.words blk (4 * t + k)).getD t 0 = x at *
                        generalize blk.getD (4 * t + k) 0 = c' at *
                        have Hcw := hide hcw
                        have Hcs := hide hcs
                        clear hcw hcs hfw
                        go_wp2_with fail
                        have hcw := unhide Hcw
                        have hcs := unhide Hcs
                        have hxl := N32_lo x
                        have hxh := N32_hi x
                        have hch := c'.isLt
                        refine Free.wp_region_tail 17 (VP t b10 q k g L c x c') (fun w' => w' = wr.drew) (by kernel_rfl) (by decide) (by kernel_rfl) (by kernel_rfl) (by kernel_rfl) VP.stable rfl ⟨?_, ?_, ?_, ?_, ?_, ?_, ?_, ?_, ?_, ?_, ?_, ?_, ?_, ?_, ?_, ?_, ?_, trivial⟩ ?_
                        · exact Free.owed_move (Free.goes_plain rfl) (.inl rfl) fun a w' _ hs _ => hs 11 (by kernel_rfl)
                        · exact Free.owed_move (Free.goes_plain rfl) (.inl rfl) fun a w' _ hs _ => hs 11 (by kernel_rfl)
                        · exact Free.owed_pure (Free.goes_plain rfl) fun a w' hC hs hd => ⟨_, run_idx45 rfl (hs 10 (by kernel_rfl)) (hd 1 75 (by kernel_rfl)) hlt4 w', rfl⟩
                        · refine Free.owed_pure (Free.goes_plain rfl) fun a w' hC hs hd => ?_
                          subst hC
                          exact ⟨_, run_load32 rfl (hd 2 76 (by kernel_rfl)) hcw, rfl⟩
                        · exact Free.owed_pure (Free.goes_plain rfl) fun a w' hC hs hd => ⟨_, run_mul256 rfl (hd 3 77 (by kernel_rfl)) rfl w', rfl⟩
                        · exact Free.owed_move (Free.goes_plain rfl) (.inl rfl) fun a w' _ hs _ => hs 3 (by kernel_rfl)
                        · exact Free.owed_move (Free.goes_plain rfl) (.inl rfl) fun a w' _ hs _ => hs 9 (by kernel_rfl)
                        · exact Free.owed_move (Free.goes_plain rfl) (.inl rfl) fun a w' _ hs _ => hs 11 (by kernel_rfl)
                        · exact Free.owed_pure (Free.goes_plain rfl) fun a w' hC hs hd => ⟨_, run_mul4 rfl (hd 7 81 (by kernel_rfl)) rfl (by omega) w', rfl⟩
                        · exact Free.owed_pure (Free.goes_plain rfl) fun a w' hC hs hd => ⟨_, run_addi rfl (hd 6 80 (by kernel_rfl)) (hd 8 82 (by kernel_rfl)) (by omega) (by omega) w', rfl⟩
                        · exact Free.owed_move (Free.goes_plain rfl) (.inl rfl) fun a w' _ hs _ => hs 12 (by kernel_rfl)
                        · exact Free.owed_pure (Free.goes_plain rfl) fun a w' hC hs hd => ⟨_, run_addi rfl (hd 9 83 (by kernel_rfl)) (hd 10 84 (by kernel_rfl)) (by omega) (by omega) w', rfl⟩
                        · exact Free.owed_pure (Free.goes_plain rfl) fun a w' hC hs hd => ⟨_, run_idx22 rfl (hd 5 79 (by kernel_rfl)) (hd 11 85 (by kernel_rfl)) (by omega) w', rfl⟩
                        · refine Free.owed_pure (Free.goes_plain rfl) fun a w' hC hs hd => ?_
                          subst hC
                          exact ⟨_, run_load5 rfl (hd 12 86 (by kernel_rfl)) hcs, rfl⟩
                        · exact Free.owed_pure (Free.goes_plain rfl) fun a w' hC hs hd => ⟨_, run_conv5 rfl (hd 13 87 (by kernel_rfl)) w', rfl⟩
                        · exact Free.owed_pure (Free.goes_plain rfl) fun a w' hC hs hd => ⟨_, run_add64 rfl (hd 4 78 (by kernel_rfl)) (hd 14 88 (by kernel_rfl)) (by omega) (by omega) (by omega) (by omega) w', rfl⟩
                        · exact Free.owed_pure (Free.goes_plain rfl) fun a w' hC hs hd => ⟨_, run_idx45 rfl (hs 10 (by kernel_rfl)) (hd 0 74 (by kernel_rfl)) hlt4 w', rfl⟩
                        · rintro w3 rfl vals hv
                          have e15 : vals 15 = .int .u64 (256 * N32 x + ((c'.toNat : Nat) : Int)) := hv 15 _ 89 rfl rfl
                          have e16 : vals 16 = .pointer (some ⟨b10, t, none⟩) := hv 16 _ 90 rfl rfl
                          clear hv
                          rw [unhide Hjn] at e15
                          simp only [Free.putAll, List.take, List.drop, Act.put, List.setIfInBounds_toArray, List.set_cons_succ, List.set_cons_zero, e15, e16]
                          clear e15 e16
                          have hfw := (unhide HW).free t
                          go_wp2
                          go_roundw
                          case rel =>
                            refine ⟨k + 1, by omega, by go_num, ?_, (unhide HH).other _ _ (by simp; omega), ((unhide HE).set _ _ (by omega) (by omega) (by omega)).drew⟩
                            rw [show 4 * t + (k + 1) = 4 * t + k + 1 by omega, ← unhide Hst, ← quadsV_set]
                            exact (unhide HW).set _ _
                          case measure => simp [intOf]; omega
                      · obtain rfl : k = 4 := by omega
                        rw [← show wsAt blk (t + 1) = Sha.words blk (4 * t + 4) from wsAt_low blk (t + 1) (by omega)] at hW
                        have HW := hide hW
                        clear hW
                        go_wp2
                        go_roundw
                        case rel => exact ⟨t + 1, by omega, by go_num, unhide HW, unhide HH, unhide HE⟩
                        case measure => simp [intOf]; omega
                  · have Hh := hide (wsAt_high blk t (by omega))
                    have hwl := wsAt_length blk t
                    generalize wsAt blk t = v at *
                    have c15 := hW.cell (quadsV_get v (i := t - 15) (by omega))
                    have c2 := hW.cell (quadsV_get v (i := t - 2) (by omega))
                    have c16 := hW.cell (quadsV_get v (i := t - 16) (by omega))
                    have c7 := hW.cell (quadsV_get v (i := t - 7) (by omega))
                    have c0 := hW.cell (quadsV_get v (i := t) (by omega))
                    have f0 := hW.free t
                    have HW := hide hW
                    clear hW hwl
                    generalize v.getD (t - 15) 0 = x15 at *
                    generalize v.getD (t - 2) 0 = x2 at *
                    generalize v.getD (t - 16) 0 = x16 at *
                    generalize v.getD (t - 7) 0 = x7 at *
                    generalize v.getD t 0 = x0 at *
                    go_wp2_with fail
                    go_quiet (fail)
                    go_wp2_with fail
                    have hl16 := N32_lo x16
                    have hh16 := N32_hi x16
                    have hl7 := N32_lo x7
                    have hh7 := N32_hi x7
                    have hls0 := N32_lo (Sha.s0 x15)
                    have hhs0 := N32_hi (Sha.s0 x15)
                    have hls1 := N32_lo (Sha.s1 x2)
                    have hhs1 := N32_hi (Sha.s1 x2)
                    refine Free.wp_region_tail 30 (VQ t b10 x16 x15 x7 x2) (fun w' => Below wr.heap.size wr w') (by kernel_rfl) (by decide) (by kernel_rfl) (by kernel_rfl) (by kernel_rfl) VQ.stable (Below.drew (below_drewN (Below.refl _ _) _)) ⟨?_, ?_, ?_, ?_, ?_, ?_, ?_, ?_, ?_, ?_, ?_, ?_, ?_, ?_, ?_, ?_, ?_, ?_, ?_, ?_, ?_, ?_, ?_, ?_, ?_, ?_, ?_, ?_, ?_, ?_, trivial⟩ ?_
                    · exact Free.owed_move (Free.goes_plain rfl) (.inl rfl) fun a w' _ hs _ => hs 11 (by kernel_rfl)
                    · exact Free.owed_move (Free.goes_plain rfl) (.inl rfl) fun a w' _ hs _ => hs 11 (by kernel_rfl)
                    · exact Free.owed_pure (Free.goes_plain rfl) fun a w' hC hs hd => ⟨_, run_sub (k := 16) rfl (hd 1 100 (by kernel_rfl)) rfl (by omega) (by omega) w', rfl⟩
                    · exact Free.owed_pure (Free.goes_plain rfl) fun a w' hC hs hd => ⟨_, run_idx45 rfl (hs 10 (by kernel_rfl)) (hd 2 101 (by kernel_rfl)) (by omega) w', rfl⟩
                    · exact Free.owed_pure (Free.goes_plain rfl) fun a w' hC hs hd => ⟨_, run_load32 rfl (hd 3 102 (by kernel_rfl)) (kept_cell c16 hC), rfl⟩
                    · exact Free.owed_move (Free.goes_plain rfl) (.inl rfl) fun a w' _ hs _ => hs 13 (by kernel_rfl)
                    · refine Free.owed_call (Free.goes_plain rfl) fun a w' hC hs hd => ?_
                      refine ⟨20, _, run_call20 rfl rfl (hd 5 104 (by kernel_rfl)) rfl w', (right_k x15 7 (by decide) (by decide) w').mono ?_⟩
                      rintro e w4 ⟨rfl, rfl⟩
                      exact ⟨_, rfl, Below.refl _ _, hC, rfl⟩
                    · exact Free.owed_move (Free.goes_plain rfl) (.inl rfl) fun a w' _ hs _ => hs 13 (by kernel_rfl)
                    · refine Free.owed_call (Free.goes_plain rfl) fun a w' hC hs hd => ?_
                      refine ⟨20, _, run_call20 rfl rfl (hd 7 106 (by kernel_rfl)) rfl w', (right_k x15 18 (by decide) (by decide) w').mono ?_⟩
                      rintro e w4 ⟨rfl, rfl⟩
                      exact ⟨_, rfl, Below.refl _ _, hC, rfl⟩
                    · exact Free.owed_pure (Free.goes_plain rfl) fun a w' hC hs hd => ⟨_, run_xor64 rfl (hd 6 105 (by kernel_rfl)) (hd 8 107 (by kernel_rfl)) w', rfl⟩
                    · exact Free.owed_move (Free.goes_plain rfl) (.inl rfl) fun a w' _ hs _ => hs 13 (by kernel_rfl)
                    · exact Free.owed_pure (Free.goes_plain rfl) fun a w' hC hs hd => ⟨_, run_shr3 rfl (hd 10 109 (by kernel_rfl)) rfl w', rfl⟩
                    · exact Free.owed_pure (Free.goes_plain rfl) fun a w' hC hs hd => ⟨_, run_xor64 rfl (hd 9 108 (by kernel_rfl)) (hd 11 110 (by kernel_rfl)) w', rfl⟩
                    · exact Free.owed_pure (Free.goes_plain rfl) fun a w' hC hs hd => ⟨_, run_add64 rfl (hd 4 103 (by kernel_rfl)) (hd 12 111 (by kernel_rfl)) (by omega) (by omega) (by omega) (by omega) w', rfl⟩
                    · exact Free.owed_move (Free.goes_plain rfl) (.inl rfl) fun a w' _ hs _ => hs 11 (by kernel_rfl)
                    · exact Free.owed_pure (Free.goes_plain rfl) fun a w' hC hs hd => ⟨_, run_sub (k := 7) rfl (hd 14 113 (by kernel_rfl)) rfl (by omega) (by omega) w', rfl⟩
                    · exact Free.owed_pure (Free.goes_plain rfl) fun a w' hC hs hd => ⟨_, run_idx45 rfl (hs 10 (by kernel_rfl)) (hd 15 114 (by kernel_rfl)) (by omega) w', rfl⟩
                    · exact Free.owed_pure (Free.goes_plain rfl) fun a w' hC hs hd => ⟨_, run_load32 rfl (hd 16 115 (by kernel_rfl)) (kept_cell c7 hC), rfl⟩
                    · exact Free.owed_pure (Free.goes_plain rfl) fun a w' hC hs hd => ⟨_, run_add64 rfl (hd 13 112 (by kernel_rfl)) (hd 17 116 (by kernel_rfl)) (by omega) (by omega) (by omega) (by omega) w', rfl⟩
                    · exact Free.owed_move (Free.goes_plain rfl) (.inl rfl) fun a w' _ hs _ => hs 14 (by kernel_rfl)
                    · refine Free.owed_call (Free.goes_plain rfl) fun a w' hC hs hd => ?_
                      refine ⟨20, _, run_call20 rfl rfl (hd 19 118 (by kernel_rfl)) rfl w', (right_k x2 17 (by decide) (by decide) w').mono ?_⟩
                      rintro e w4 ⟨rfl, rfl⟩
                      exact ⟨_, rfl, Below.refl _ _, hC, rfl⟩
                    · exact Free.owed_move (Free.goes_plain rfl) (.inl rfl) fun a w' _ hs _ => hs 14 (by kernel_rfl)
                    · refine Free.owed_call (Free.goes_plain rfl) fun a w' hC hs hd => ?_
                      refine ⟨20, _, run_call20 rfl rfl (hd 21 120 (by kernel_rfl)) rfl w', (right_k x2 19 (by decide) (by decide) w').mono ?_⟩
                      rintro e w4 ⟨rfl, rfl⟩
                      exact ⟨_, rfl, Below.refl _ _, hC, rfl⟩
                    · exact Free.owed_pure (Free.goes_plain rfl) fun a w' hC hs hd => ⟨_, run_xor64 rfl (hd 20 119 (by kernel_rfl)) (hd 22 121 (by kernel_rfl)) w', rfl⟩
                    · exact Free.owed_move (Free.goes_plain rfl) (.inl rfl) fun a w' _ hs _ => hs 14 (by kernel_rfl)
                    · exact Free.owed_pure (Free.goes_plain rfl) fun a w' hC hs hd => ⟨_, run_shr10 rfl (hd 24 123 (by kernel_rfl)) rfl w', rfl⟩
                    · exact Free.owed_pure (Free.goes_plain rfl) fun a w' hC hs hd => ⟨_, run_xor64 rfl (hd 23 122 (by kernel_rfl)) (hd 25 124 (by kernel_rfl)) w', rfl⟩
                    · exact Free.owed_pure (Free.goes_plain rfl) fun a w' hC hs hd => ⟨_, run_add64 rfl (hd 18 117 (by kernel_rfl)) (hd 26 125 (by kernel_rfl)) (by omega) (by omega) (by omega) (by omega) w', rfl⟩
                    · exact Free.owed_pure (Free.goes_plain rfl) fun a w' hC hs hd => ⟨_, run_base rfl (hd 27 126 (by kernel_rfl)) rfl (by omega) (add4_N32 _ _ _ _) w', rfl⟩
                    · exact Free.owed_pure (Free.goes_plain rfl) fun a w' hC hs hd => ⟨_, run_idx45 rfl (hs 10 (by kernel_rfl)) (hd 0 99 (by kernel_rfl)) hlt4 w', rfl⟩
                    · intro w3 hC vals hv
                      have e28 : vals 28 = .int .u64 (N32 (x16 + Sha.s0 x15 + x7 + Sha.s1 x2)) := hv 28 _ 127 rfl rfl
                      have e29 : vals 29 = .pointer (some ⟨b10, t, none⟩) := hv 29 _ 128 rfl rfl
                      clear hv
                      simp only [Free.putAll, List.take, List.drop, Act.put, List.setIfInBounds_toArray, List.set_cons_succ, List.set_cons_zero, e28, e29]
                      clear e28 e29
                      have HE3 := hide ((unhide HE).keep hC)
                      have HH3 := hide ((unhide HH).below hC)
                      have HW3 := hide ((unhide HW).below hC)
                      have d0 := kept_cell c0 hC
                      have g0 := (unhide HW3).free t
                      clear c0 c2 c7 c15 c16 f0 hC HE HH HW hl16 hh16 hl7 hh7 hls0 hhs0 hls1 hhs1
                      go_wp2
                      go_roundw
                      case rel =>
                        refine ⟨t + 1, by omega, by go_num, ?_, (unhide HH3).other _ _ (by simp; omega), (unhide HE3).set _ _ (by omega) (by omega) (by omega)⟩
                        rw [unhide Hh, ← quadsV_set]
                        exact (unhide HW3).set _ _
                      case measure => simp [intOf]; omega
                · obtain rfl : t = 64 := by omega
                  rw [wsAt_all] at hW
                  have HW := hide hW
                  have Hspl := hide (Sha.spread_length blk)
                  clear hW
                  have HhL : Hid ((quadsV hs0).length = 8) := by show _ = _; rw [quadsV_length]; exact unhide Hcl
                  go_wp2_with (first
                    | refine wpList_loadAll 44 _ b7 (quadsV hs0) _ rfl rfl rfl (unhide HH) Tryd.underlying44 rfl (by rw [unhide HhL]; exact info44) ?_
                    | refine wpList_alloc 44 44 (quadsV zeros8) rfl rfl alloc44 ?_)
                  intro w12 hA12 hb12 hs12
                  obtain ⟨b15, hb15e⟩ : ∃ b, b = wr.heap.size := ⟨_, rfl⟩
                  have hbw := (unhide HW).lt
                  rw [← hb15e] at hA12 hs12 hbw ⊢
                  have HE12 := hide ((unhide HE).keep hb12)
                  have HH12 := hide ((unhide HH).below hb12)
                  have HW12 := hide ((unhide HW).below hb12)
                  have HV12 := hide hA12
                  clear hA12 hb12 HE HH HW hb15e hs12
                  go_wp2_with (refine wpList_storeAll 44 _ _ b15 (quadsV hs0) (quadsV zeros8) rfl rfl rfl rfl (unhide HV12) (by rw [unhide HhL]; rfl) (by rw [unhide HhL]; exact info44) (quadsV_one _) ?_)
                  intro w13 hA13 hg13 _
                  have HE13 := hide ((unhide HE12).grown hg13 (by omega) (by omega) (by omega))
                  have HH13 := hide ((unhide HH12).grown hg13 (by simp; omega))
                  have HW13 := hide ((unhide HW12).grown hg13 (by simp; omega))
                  have HV13 := hide hA13
                  clear hA13 hg13 HE12 HH12 HW12 HV12
                  have hls : ∃ x0 x1 x2 x3 x4 x5 x6 x7, hs0 = [x0, x1, x2, x3, x4, x5, x6, x7] := by
                    have := unhide Hcl
                    match hs0, this with
                    | [x0, x1, x2, x3, x4, x5, x6, x7], _ => exact ⟨x0, x1, x2, x3, x4, x5, x6, x7, rfl⟩
                  obtain ⟨y0, y1, y2, y3, y4, y5, y6, y7, hys⟩ := hls
                  have Hof : Hid (Sha.ofL hs0 = ⟨y0, y1, y2, y3, y4, y5, y6, y7⟩) := by show _ = _; rw [hys]; rfl
                  have hV13 := unhide HV13
                  rw [hys] at hV13
                  have HV13 := hide hV13
                  have Hys := hide hys
                  clear hV13 hys
                  obtain ⟨ws, hws⟩ : ∃ ws, ws = Sha.spread blk := ⟨_, rfl⟩
                  rw [← hws] at HW13 Hspl
                  have Hws := hide hws
                  clear hws
                  go_wp2_with fail
                  go_loopw [16] (fun i wr => ∃ t : Nat, t ≤ 64 ∧ i = .int .i64 t ∧ (∃ a b c d e f g h : BitVec 32, (⟨a, b, c, d, e, f, g, h⟩ : Sha.St) = Sha.run ws ⟨y0, y1, y2, y3, y4, y5, y6, y7⟩ t ∧ Arr wr b15 (quadsV [a, b, c, d, e, f, g, h])) ∧ Arr wr b10 (quadsV ws) ∧ Arr wr b7 (quadsV hs0) ∧ Env w wr g L (b7 + 1) S) (fun i _ => 64 - (intOf i).toNat)
                  case atStart => exact ⟨0, by omega, rfl, ⟨_, _, _, _, _, _, _, _, rfl, unhide HV13⟩, unhide HW13, unhide HH13, unhide HE13⟩
                  case round =>
                    clear HV13 HW13 HH13 HE13
                    obtain ⟨t, ht, rfl, ⟨a', b', c', d', e', f', g', h', hrun, hV⟩, hW, hH, hE⟩ := hrel
                    have Hrun := hide hrun
                    have HH := hide hH
                    have HE := hide hE
                    clear hrun hH hE
                    by_cases hlt6 : t < 64
                    · have v0 := hV.cell (quadsV_get _ (i := 0) (by simp))
                      have v1 := hV.cell (quadsV_get _ (i := 1) (by simp))
                      have v2 := hV.cell (quadsV_get _ (i := 2) (by simp))
                      have v3 := hV.cell (quadsV_get _ (i := 3) (by simp))
                      have v4 := hV.cell (quadsV_get _ (i := 4) (by simp))
                      have v5 := hV.cell (quadsV_get _ (i := 5) (by simp))
                      have v6 := hV.cell (quadsV_get _ (i := 6) (by simp))
                      have v7 := hV.cell (quadsV_get _ (i := 7) (by simp))
                      simp only [List.getD_cons_zero, List.getD_cons_succ] at v0 v1 v2 v3 v4 v5 v6 v7
                      have vk := (unhide HE).roots.cell (quadsV_get Sha.K (i := t) (by exact hlt6))
                      have vw := hW.cell (quadsV_get ws (i := t) (by rw [unhide Hspl]; exact hlt6))
                      have Hn : Hid (Sha.run ws ⟨y0, y1, y2, y3, y4, y5, y6, y7⟩ (t + 1) = Sha.round ⟨a', b', c', d', e', f', g', h'⟩ (Sha.K.getD t 0) (ws.getD t 0)) := by
                        show _ = _
                        rw [unhide Hrun]; rfl
                      generalize Sha.K.getD t 0 = kk at *
                      generalize ws.getD t 0 = xx at *
                      have HV := hide hV
                      have HW := hide hW
                      clear hV hW
                      go_wp2_with fail
                      rw [ch64w]
                      generalize hch : e' &&& f' ^^^ ~~~ e' &&& g' = ch
                      have Hch := hide hch
                      clear hch
                      go_quiet ((go_at_call 20; exact Calls.quiet_of_same (right_k _ _ (by decide) (by decide) _)))
                      have Ht1 := hide (t1_64 e' h' ch kk xx)
                      generalize IntKind.u64.wrap (IntKind.u64.wrap (IntKind.u64.wrap (IntKind.u64.wrap (N32 h' + bits .xor .u64 (bits .xor .u64 (N32 (Sha.rotr e' 6)) (N32 (Sha.rotr e' 11))) (N32 (Sha.rotr e' 25))) + N32 ch) + N32 kk) + N32 xx) = T1 at Ht1 ⊢
                      go_wp2_with fail
                      rw [maj64]
                      generalize hmaj : a' &&& b' ^^^ a' &&& c' ^^^ b' &&& c' = maj
                      have Hmaj := hide hmaj
                      clear hmaj
                      have hbm := N32_lo maj
                      have hbM := N32_hi maj
                      have hbx := N32_lo (Sha.rotr a' 2 ^^^ Sha.rotr a' 13 ^^^ Sha.rotr a' 22)
                      have hbX := N32_hi (Sha.rotr a' 2 ^^^ Sha.rotr a' 13 ^^^ Sha.rotr a' 22)
                      refine Free.wp_region_owes (VS b15 a' maj) (fun w' => Below wr.heap.size wr w') (by kernel_rfl) (by kernel_rfl) VS.stable (Below.drew (below_drewN (Below.refl _ _) _)) ⟨?_, ?_, ?_, ?_, ?_, ?_, ?_, ?_, ?_, ?_, ?_, ?_, ?_, ?_, trivial⟩ ?_
                      · exact Free.owed_pure (Free.goes_plain rfl) fun a w' hC hs hd => ⟨_, run_idx43 rfl (hs 15 (by kernel_rfl)) rfl w', rfl⟩
                      · exact Free.owed_pure (Free.goes_plain rfl) fun a w' hC hs hd => ⟨_, run_load32 rfl (hd 0 184 (by kernel_rfl)) (kept_cell v0 hC), rfl⟩
                      · refine Free.owed_call (Free.goes_plain rfl) fun a w' hC hs hd => ?_
                        refine ⟨20, _, run_call20 rfl rfl (hd 1 185 (by kernel_rfl)) rfl w', (right_k a' 2 (by decide) (by decide) w').mono ?_⟩
                        rintro e w4 ⟨rfl, rfl⟩
                        exact ⟨_, rfl, Below.refl _ _, hC, rfl⟩
                      · exact Free.owed_pure (Free.goes_plain rfl) fun a w' hC hs hd => ⟨_, run_idx43 rfl (hs 15 (by kernel_rfl)) rfl w', rfl⟩
                      · exact Free.owed_pure (Free.goes_plain rfl) fun a w' hC hs hd => ⟨_, run_load32 rfl (hd 3 187 (by kernel_rfl)) (kept_cell v0 hC), rfl⟩
                      · refine Free.owed_call (Free.goes_plain rfl) fun a w' hC hs hd => ?_
                        refine ⟨20, _, run_call20 rfl rfl (hd 4 188 (by kernel_rfl)) rfl w', (right_k a' 13 (by decide) (by decide) w').mono ?_⟩
                        rintro e w4 ⟨rfl, rfl⟩
                        exact ⟨_, rfl, Below.refl _ _, hC, rfl⟩
                      · exact Free.owed_pure (Free.goes_plain rfl) fun a w' hC hs hd => ⟨_, run_xor64 rfl (hd 2 186 (by kernel_rfl)) (hd 5 189 (by kernel_rfl)) w', rfl⟩
                      · exact Free.owed_pure (Free.goes_plain rfl) fun a w' hC hs hd => ⟨_, run_idx43 rfl (hs 15 (by kernel_rfl)) rfl w', rfl⟩
                      · exact Free.owed_pure (Free.goes_plain rfl) fun a w' hC hs hd => ⟨_, run_load32 rfl (hd 7 191 (by kernel_rfl)) (kept_cell v0 hC), rfl⟩
                      · refine Free.owed_call (Free.goes_plain rfl) fun a w' hC hs hd => ?_
                        refine ⟨20, _, run_call20 rfl rfl (hd 8 192 (by kernel_rfl)) rfl w', (right_k a' 22 (by decide) (by decide) w').mono ?_⟩
                        rintro e w4 ⟨rfl, rfl⟩
                        exact ⟨_, rfl, Below.refl _ _, hC, rfl⟩
                      · exact Free.owed_pure (Free.goes_plain rfl) fun a w' hC hs hd => ⟨_, run_xor64 rfl (hd 6 190 (by kernel_rfl)) (hd 9 193 (by kernel_rfl)) w', rfl⟩
                      · exact Free.owed_move (Free.goes_plain rfl) (.inl rfl) fun a w' _ hs _ => hs 20 (by kernel_rfl)
                      · exact Free.owed_pure (Free.goes_plain rfl) fun a w' hC hs hd => ⟨_, run_add64 rfl (hd 10 194 (by kernel_rfl)) (hd 11 195 (by kernel_rfl)) (by omega) (by omega) (by omega) (by omega) w', rfl⟩
                      · exact Free.owed_move (Free.goes_plain rfl) (.inr rfl) fun a w' _ _ hd => hd 12 196 (by kernel_rfl)
                      intro wq hCq vals hv
                      have e13 : vals 13 = .int .u64 (N32 (Sha.rotr a' 2 ^^^ Sha.rotr a' 13 ^^^ Sha.rotr a' 22) + N32 maj) := hv 13 _ 21 rfl rfl
                      clear hv
                      simp only [Free.putAll, Act.put, List.setIfInBounds_toArray, List.set_cons_succ, List.set_cons_zero, e13]
                      have Ht2 := hide (add_N32 (Sha.rotr a' 2 ^^^ Sha.rotr a' 13 ^^^ Sha.rotr a' 22) maj)
                      clear e13 hbm hbM hbx hbX
                      generalize N32 (Sha.rotr a' 2 ^^^ Sha.rotr a' 13 ^^^ Sha.rotr a' 22) + N32 maj = T2 at Ht2 ⊢
                      have u0 := kept_cell v0 hCq
                      have u1 := kept_cell v1 hCq
                      have u2 := kept_cell v2 hCq
                      have u3 := kept_cell v3 hCq
                      have u4 := kept_cell v4 hCq
                      have u5 := kept_cell v5 hCq
                      have u6 := kept_cell v6 hCq
                      have HVq := hide ((unhide HV).below hCq)
                      have HWq := hide ((unhide HW).below hCq)
                      have HHq := hide ((unhide HH).below hCq)
                      have HEq := hide ((unhide HE).keep hCq)
                      clear v0 v1 v2 v3 v4 v5 v6 v7 vk vw hCq HV HW HH HE
                      go_wp2_with (refine wpList_storeAll 44 _ _ b15 [_, _, _, _, _, _, _, _] (quadsV [a', b', c', d', e', f', g', h']) rfl rfl rfl rfl (unhide HVq) rfl info44 (by intro v hv; simp only [List.mem_cons, List.not_mem_nil, or_false] at hv; rcases hv with rfl | rfl | rfl | rfl | rfl | rfl | rfl | rfl <;> rfl) ?_)
                      intro w14 hA14 hg14 _
                      rw [fin64 T1 T2 _ _ (unhide Ht1) (unhide Ht2), fin64 (N32 d') T1 d' _ (mod_N32 d') (unhide Ht1)] at hA14
                      have HV14 := hide hA14
                      have HW14 := hide ((unhide HWq).grown hg14 (by simp; omega))
                      have HH14 := hide ((unhide HHq).grown hg14 (by simp; omega))
                      have HE14 := hide ((unhide HEq).grown hg14 (by omega) (by omega) (by omega))
                      clear hA14 hg14 HVq HWq HHq HEq u0 u1 u2 u3 u4 u5 u6
                      go_wp2
                      go_roundw
                      case rel =>
                        refine ⟨t + 1, by omega, by go_num, ⟨_, _, _, _, _, _, _, _, ?_, unhide HV14⟩, unhide HW14, unhide HH14, unhide HE14⟩
                        rw [unhide Hn, ← unhide Hch, ← unhide Hmaj]
                        rfl
                      case measure => simp [intOf]; omega
                    · obtain rfl : t = 64 := by omega
                      have Hfin : Hid (Sha.chain S (q + 1) = Sha.addTo hs0 [a', b', c', d', e', f', g', h'] 8) := by
                        show _ = _
                        have e1 : Sha.toL (⟨a', b', c', d', e', f', g', h'⟩ : Sha.St) = [a', b', c', d', e', f', g', h'] := rfl
                        rw [unhide Hch, ← e1, unhide Hrun, Sha.mix, unhide Hof, unhide Hws]
                      have HV := hide hV
                      clear hV hW
                      go_wp2_with fail
                      go_loopw [219] (fun i wr => ∃ n : Nat, n ≤ 8 ∧ i = .int .i64 n ∧ Arr wr b7 (quadsV (Sha.addTo hs0 [a', b', c', d', e', f', g', h'] n)) ∧ Arr wr b15 (quadsV [a', b', c', d', e', f', g', h']) ∧ Env w wr g L (b7 + 1) S) (fun i _ => 8 - (intOf i).toNat)
                      case atStart => exact ⟨0, by omega, rfl, unhide HH, unhide HV, unhide HE⟩
                      case round =>
                        clear HH HV HE
                        obtain ⟨n, hn, rfl, hA, hV, hE⟩ := hrel
                        have HE := hide hE
                        clear hE
                        by_cases hlt7 : n < 8
                        · have hal : (Sha.addTo hs0 [a', b', c', d', e', f', g', h'] n).length = 8 := by rw [Sha.addTo_length]; exact unhide Hcl
                          have Hs1 : Hid (Sha.addTo hs0 [a', b', c', d', e', f', g', h'] (n + 1) = (Sha.addTo hs0 [a', b', c', d', e', f', g', h'] n).set n ((Sha.addTo hs0 [a', b', c', d', e', f', g', h'] n).getD n 0 + [a', b', c', d', e', f', g', h'].getD n 0)) := rfl
                          have cx := hA.cell (quadsV_get _ (i := n) (by omega))
                          have cy := hV.cell (quadsV_get [a', b', c', d', e', f', g', h'] (i := n) (by simpa using hlt7))
                          have HA := hide hA
                          have HV := hide hV
                          clear hA hV hal
                          generalize Sha.addTo hs0 [a', b', c', d', e', f', g', h'] n = v at *
                          generalize v.getD n 0 = x at *
                          generalize [a', b', c', d', e', f', g', h'].getD n 0 = y at *
                          have Hcx := hide cx
                          have Hcy := hide cy
                          clear cx cy
                          go_wp2_with fail
                          have cx := unhide Hcx
                          have cy := unhide Hcy
                          have lx := N32_lo x
                          have hx := N32_hi x
                          have ly := N32_lo y
                          have hy := N32_hi y
                          refine Free.wp_region_tail 10 (VA b7 b15 n x y) (fun w' => Below wr.heap.size wr w') (by kernel_rfl) (by decide) (by kernel_rfl) (by kernel_rfl) (by kernel_rfl) VA.stable (Below.drew (Below.refl _ _)) ⟨?_, ?_, ?_, ?_, ?_, ?_, ?_, ?_, ?_, ?_, trivial⟩ ?_
                          · exact Free.owed_move (Free.goes_plain rfl) (.inl rfl) fun a w' _ hs _ => hs 22 (by kernel_rfl)
                          · exact Free.owed_move (Free.goes_plain rfl) (.inl rfl) fun a w' _ hs _ => hs 22 (by kernel_rfl)
                          · exact Free.owed_pure (Free.goes_plain rfl) fun a w' hC hs hd => ⟨_, run_idx43v rfl (hs 7 (by kernel_rfl)) (hd 1 223 (by kernel_rfl)) hlt7 w', rfl⟩
                          · exact Free.owed_pure (Free.goes_plain rfl) fun a w' hC hs hd => ⟨_, run_load32 rfl (hd 2 224 (by kernel_rfl)) (kept_cell cx hC), rfl⟩
                          · exact Free.owed_move (Free.goes_plain rfl) (.inl rfl) fun a w' _ hs _ => hs 22 (by kernel_rfl)
                          · exact Free.owed_pure (Free.goes_plain rfl) fun a w' hC hs hd => ⟨_, run_idx43v rfl (hs 15 (by kernel_rfl)) (hd 4 226 (by kernel_rfl)) hlt7 w', rfl⟩
                          · exact Free.owed_pure (Free.goes_plain rfl) fun a w' hC hs hd => ⟨_, run_load32 rfl (hd 5 227 (by kernel_rfl)) (kept_cell cy hC), rfl⟩
                          · exact Free.owed_pure (Free.goes_plain rfl) fun a w' hC hs hd => ⟨_, run_add64 rfl (hd 3 225 (by kernel_rfl)) (hd 6 228 (by kernel_rfl)) (by omega) (by omega) (by omega) (by omega) w', rfl⟩
                          · exact Free.owed_pure (Free.goes_plain rfl) fun a w' hC hs hd => ⟨_, run_base rfl (hd 7 229 (by kernel_rfl)) rfl (by omega) (add_N32 _ _) w', rfl⟩
                          · exact Free.owed_pure (Free.goes_plain rfl) fun a w' hC hs hd => ⟨_, run_idx43v rfl (hs 7 (by kernel_rfl)) (hd 0 222 (by kernel_rfl)) hlt7 w', rfl⟩
                          · intro w3 hC vals hv
                            have e8 : vals 8 = .int .u64 (N32 (x + y)) := hv 8 _ 230 rfl rfl
                            have e9 : vals 9 = .pointer (some ⟨b7, n, none⟩) := hv 9 _ 231 rfl rfl
                            clear hv
                            simp only [Free.putAll, List.take, List.drop, Act.put, List.setIfInBounds_toArray, List.set_cons_succ, List.set_cons_zero, e8, e9]
                            clear e8 e9
                            have HE3 := hide ((unhide HE).keep hC)
                            have HA3 := hide ((unhide HA).below hC)
                            have HV3 := hide ((unhide HV).below hC)
                            have d0 := kept_cell cx hC
                            have g0 := (unhide HA3).free n
                            clear cx cy Hcx Hcy hC HE HA HV lx hx ly hy
                            go_wp2
                            go_roundw
                            case rel =>
                              refine ⟨n + 1, by omega, by go_num, ?_, (unhide HV3).other _ _ (by simp; omega), (unhide HE3).set _ _ (by omega) (by omega) (by omega)⟩
                              rw [unhide Hs1, ← quadsV_set]
                              exact (unhide HA3).set _ _
                            case measure => simp [intOf]; omega
                        · obtain rfl : n = 8 := by omega
                          rw [← unhide Hfin] at hA
                          have HA := hide hA
                          clear hA hV
                          go_wp2
                          go_roundw
                          case rel => exact ⟨q + 1, by omega, by go_num, unhide HA, unhide HE⟩
                          case measure => simp [intOf]; omega
            · have hqL : 64 * q = L := by omega
              have Hsum : Hid (Sha.out (Sha.chain S q) = Sha.sum bs) := by
                show _ = _
                have e : q = (Sha.whole bs).length / 64 := by rw [← unhide HS, unhide HSl]; omega
                rw [Sha.sum, ← e, unhide HS]
              have Hcl := hide (Sha.chain_length S q)
              generalize Sha.chain S q = hs0 at *
              go_wp2_with (first
                | refine wpList_build 25 _ (bytesV zerosB) [] rfl rfl rfl built25 ?_
                | refine wpList_alloc 25 25 (bytesV zerosB) rfl rfl alloc25 ?_)
              intro w10 hA10 hb10 hs10
              obtain ⟨b23, hb23e⟩ : ∃ b, b = wr.heap.size := ⟨_, rfl⟩
              rw [← hb23e] at hA10 hs10 hbr ⊢
              have HE10 := hide ((unhide HE).keep hb10)
              have HH10 := hide ((unhide HH).below hb10)
              have HO10 := hide hA10
              clear hA10 hb10 HE HH hb23e hs10
              go_wp2_with (refine wpList_storeAll 25 _ _ b23 (bytesV zerosB) (bytesV zerosB) rfl rfl rfl rfl (unhide HO10) rfl info25 (bytesV_one _) ?_)
              intro w11 hA11 hg11 _
              have HE11 := hide ((unhide HE10).grown hg11 (by omega) (by omega) (by omega))
              have HH11 := hide ((unhide HH10).grown hg11 (by simp; omega))
              have HO11 := hide hA11
              clear hA11 hg11 HE10 HH10 HO10
              go_wp2_with fail
              go_loopw [234] (fun i wr => ∃ k : Nat, k ≤ 32 ∧ i = .int .i64 k ∧ Arr wr b23 (bytesV (outTo hs0 k)) ∧ Arr wr b7 (quadsV hs0) ∧ Env w wr g L (b7 + 1) S) (fun i _ => 32 - (intOf i).toNat)
              case atStart => exact ⟨0, by omega, rfl, unhide HO11, unhide HH11, unhide HE11⟩
              case round =>
                clear HO11 HH11 HE11
                obtain ⟨k, hk, rfl, hA, hH, hE⟩ := hrel
                have HE := hide hE
                clear hE
                by_cases hlt8 : k < 32
                · have hc := hA.cell (bytesV_get (outTo hs0 k) (i := k) (by rw [outTo_length]; omega))
                  have hf := hA.free k
                  have hq4 : k / 4 < 8 := by omega
                  have hcs := hH.cell (quadsV_get hs0 (i := k / 4) (by have := unhide Hcl; omega))
                  have Hst1 := hide (outTo_step hs0 k)
                  have hqq : (k : Int) / 4 = ((k / 4 : Nat) : Int) := by omega
                  have HA := hide hA
                  have HH := hide hH
                  clear hA hH
                  generalize (outTo hs0 k).getD k 0 = c' at *
                  generalize hs0.getD (k / 4) 0 = x at *
                  generalize k / 4 = q4 at *
                  go_wp2
                  rw [byte32m x k]
                  refine ⟨⟨k + 1, by omega, by go_num, ?_, (unhide HH).other _ _ (by simp; omega), (unhide HE).set _ _ (by omega) (by omega) (by omega)⟩, by simp [intOf]; omega⟩
                  rw [← unhide Hst1, ← bytesV_set]
                  exact (unhide HA).set _ _
                · obtain rfl : k = 32 := by omega
                  rw [outTo_all, unhide Hsum] at hA
                  have HA := hide hA
                  clear hA hH
                  have Hlen : Hid ((bytesV (Sha.sum bs)).length = 32) := by show _ = _; rw [bytesV_length, Sha.sum_length]
                  have Hone := hide (bytesV_one (Sha.sum bs))
                  generalize hrs : bytesV (Sha.sum bs) = rs at HA Hlen Hone
                  have Hrs := hide hrs
                  clear hrs
                  go_wp2_with (first
                    | refine wpList_loadAll 25 _ b23 rs _ rfl rfl rfl (unhide HA) Tryd.underlying25 rfl (by rw [unhide Hlen]; exact info25) ?_
                    | refine wpList_storeAll 25 _ _ w.heap.size rs (bytesV zerosB) rfl rfl rfl rfl (unhide HE).res (by rw [unhide Hlen]; rfl) (by rw [unhide Hlen]; exact info25) (unhide Hone) ?_)
                  intro w12 hA12 hg12 _
                  have Hb12 := hide ((unhide HE).below.grown hg12 (unhide HE).below.size (fun k hk => by simp at hk; omega))
                  have HA12 := hide hA12
                  clear hA12 hg12 HA HE
                  go_wp2
                  have hi : (Tryd.prog.info? 25).map (·.size) = some rs.length := by rw [unhide Hlen]; exact info25
                  refine bodyPost_ret (v := .agg rs.toArray) ?_ rfl ⟨by rw [unhide Hrs], unhide Hb12⟩
                  exact results_arr Tryd.results12 rfl (unhide HA12) Tryd.underlying25 rfl hi

end Go.Proofs.YtnfgakbfnmmhcaaDoor
