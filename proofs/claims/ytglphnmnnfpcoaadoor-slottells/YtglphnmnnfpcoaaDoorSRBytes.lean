/-
  What the document's Bytes answers.
-/
import Derived.Test.YtglphnmnnfpcoaaDoorSBytes
namespace Go.Proofs.YtglphnmnnfpcoaaDoor
open Go.RowKit

set_option maxHeartbeats 3200000 in
set_option maxRecDepth 100000 in
theorem rbytes_walk (s : S) (hf : Fit s) (w : World) : Calls Tryd.prog 19 #[s.v] w fun e w' => ∃ v, e = .returned v ∧ RowV w'.heap.size w' v (bytesS s) ∧ Below w.heap.size w w' := by
  have HW : Hid (∀ w : World, Calls Tryd.prog 15 #[.agg s.cs.toArray] w fun e w' => e = .returned (.bool (right s)) ∧ Below w.heap.size w w') := hide (rright_walk s hf)
  have HS := hide (info26s hf.dg)
  have HEm := hide Own.empty
  cases hr : right s with
  | false =>
    have Hx : Hid (bytesS s = []) := by
      show _ = _
      unfold bytesS
      rw [if_neg (by rw [hr]; simp)]
    rw [hr] at HW
    clear hf hr
    unfold S.v
    generalize s.cs = K at *
    generalize bytesS s = Bs at *
    go_enter Tryd.func19, Tryd.ntmps19
    go_wp2_with (refine wpList_box 26 _ K rfl rfl rfl ?_)
    intro w1 hA1 hb1 hs1
    have HA1 := hide hA1
    have Hb1 := hide hb1
    have Hs1 := hide hs1
    clear hA1 hb1 hs1
    have ho := unhide HEm w1
    have hbe : Below w1.heap.size w1 (w1.alloc (.cells #[] 5)) := (Below.refl _ _).alloc (Nat.le_refl _) _
    have HA2 := hide ((unhide HA1).below hbe)
    have Ho := hide ho
    have Hb2 := hide ((unhide Hb1).trans (hbe.mono (unhide Hb1).size))
    clear ho hbe
    go_wp2_with (refine wpList_loadAll 26 _ w.heap.size K _ rfl rfl rfl (unhide HA2) Tryd.underlying26 rfl (unhide HS) ?_)
    refine ((unhide HW) _).mono ?_
    rintro e w3 ⟨rfl, hb3⟩
    have Ho := hide ((unhide Ho).keepB hb3)
    have Hb3 := hide ((unhide Hb2).trans (hb3.mono (unhide Hb2).size))
    clear hb3
    go_wp2
    go_ret
    refine ⟨_, rfl, ?_, unhide Hb3⟩
    rw [unhide Hx]
    exact (unhide Ho).row (by simp)
  | true =>
    have hg := right_range hr
    obtain ⟨sn, hsn⟩ : ∃ n : Nat, s.st = (n : Int) := ⟨s.st.toNat, by omega⟩
    obtain ⟨tn, htn⟩ : ∃ n : Nat, s.tr = (n : Int) := ⟨s.tr.toNat, by omega⟩
    obtain ⟨zn, hzn⟩ : ∃ n : Nat, s.sz = (n : Int) := ⟨s.sz.toNat, by omega⟩
    have Hx : Hid (bytesS s = [] ++ [UInt8.ofNat sn, UInt8.ofNat tn] ++ fixedL s.ver 8 ++ fixedL zn 4 ++ s.dg) := by
      show _ = _
      unfold bytesS
      rw [if_pos hr, hsn, htn, hzn, Int.toNat_natCast, Int.toNat_natCast, Int.toNat_natCast]
      rfl
    have hver := hf.ver
    have hdg := hf.dg
    have H0 : Hid (s.cs[0]? = some (.int .i64 (sn : Int))) := by rw [← hsn]; exact hide rfl
    have H1 : Hid (s.cs[1]? = some (.int .i64 (tn : Int))) := by rw [← htn]; exact hide rfl
    have H2 : Hid (s.cs[2]? = some (.int .u64 (s.ver : Int))) := hide rfl
    have H3 : Hid (s.cs[3]? = some (.int .i64 (zn : Int))) := by rw [← hzn]; exact hide rfl
    have H4 : Hid (∀ j v, (bytesV s.dg)[j]? = some v → s.cs[4 + j]? = some v) := by
      show ∀ j v, _
      intro j v hj
      rw [← hj, S.cs, Nat.add_comm]
      rfl
    have hs5 : sn ≤ 4 := by omega
    have ht7 : tn ≤ 7 := by omega
    have hz6 : zn ≤ 65536 := by omega
    rw [hr] at HW
    clear hf hr hg hsn htn hzn
    unfold S.v
    generalize s.cs = K at *
    generalize s.ver = ver at *
    generalize bytesS s = Bs at *
    generalize s.dg = dg at *
    have cv1 : IntKind.u8.wrap (sn : Int) = (sn : Int) := by rw [IntKind.wrap_u8]; omega
    have cv2 : IntKind.u8.wrap (tn : Int) = (tn : Int) := by rw [IntKind.wrap_u8]; omega
    have cv3 : IntKind.u64.wrap (zn : Int) = (zn : Int) := by rw [IntKind.wrap_u64]; omega
    have Hz : Hid (zn < 18446744073709551616) := by show _ < _; omega
    have Hsb : Hid (((UInt8.ofNat sn).toNat : Nat) = sn) := by show _ = _; simp; omega
    have Htb : Hid (((UInt8.ofNat tn).toNat : Nat) = tn) := by show _ = _; simp; omega
    have Hv := hide hver
    have Hd := hide hdg
    clear hver hdg
    go_enter Tryd.func19, Tryd.ntmps19
    go_wp2_with (refine wpList_box 26 _ K rfl rfl rfl ?_)
    intro w1 hA1 hb1 hs1
    have HA1 := hide hA1
    have Hb1 := hide hb1
    have Hs1 : Hid (w.heap.size + 1 ≤ w1.heap.size) := by show _ ≤ _; omega
    clear hA1 hb1 hs1
    have ho := (unhide HEm w1).lower (unhide Hs1)
    have hbe : Below w1.heap.size w1 (w1.alloc (.cells #[] 5)) := (Below.refl _ _).alloc (Nat.le_refl _) _
    have HA2 := hide ((unhide HA1).below hbe)
    have Ho := hide ho
    have Hb2 := hide ((unhide Hb1).trans (hbe.mono (unhide Hb1).size))
    clear ho hbe HA1 Hb1
    go_wp2_with (refine wpList_loadAll 26 _ w.heap.size K _ rfl rfl rfl (unhide HA2) Tryd.underlying26 rfl (unhide HS) ?_)
    refine ((unhide HW) _).mono ?_
    rintro e w3 ⟨rfl, hb3⟩
    have Ho3 := hide ((unhide Ho).keepB hb3)
    have HA3 := hide ((unhide HA2).below hb3)
    have Hb3 := hide ((unhide Hb2).trans (hb3.mono (unhide Hb2).size))
    have Hlt3 : Hid (w.heap.size < w3.heap.size) := hide (unhide HA3).lt
    clear hb3 Hb2 HA2 Ho
    have d0 := (unhide HA3).cell (unhide H0)
    have d1 := (unhide HA3).cell (unhide H1)
    have hb4 : Below w3.heap.size w3 (w3.alloc (.cells #[.int .u8 (sn : Int), .int .u8 (tn : Int)] 5)) := (Below.refl _ _).alloc (Nat.le_refl _) _
    have Hn : Hid (∀ j, j < 2 → (w3.alloc (.cells #[.int .u8 (sn : Int), .int .u8 (tn : Int)] 5)).cell? ((⟨w3.heap.size, 0, none⟩ : Addr).add j) = some (.int .u8 ((([UInt8.ofNat sn, UInt8.ofNat tn].getD j 0).toNat : Nat)))) := by
      show ∀ j, _
      intro j hj
      rw [Addr.add_mid, Nat.zero_add, cell_fresh]
      have : j = 0 ∨ j = 1 := by omega
      rcases this with rfl | rfl
      · show some (Value.int .u8 (sn : Int)) = some (Value.int .u8 (((UInt8.ofNat sn).toNat : Nat) : Int))
        rw [unhide Hsb]
      · show some (Value.int .u8 (tn : Int)) = some (Value.int .u8 (((UInt8.ofNat tn).toNat : Nat) : Int))
        rw [unhide Htb]
    have Ho4 := hide ((unhide Ho3).keepB hb4)
    have HA4 := hide ((unhide HA3).below hb4)
    have Hb4 := hide ((unhide Hb3).trans (hb4.mono (unhide Hb3).size))
    have Hsz4 : Hid (w.heap.size + 1 ≤ (w3.alloc (.cells #[.int .u8 (sn : Int), .int .u8 (tn : Int)] 5)).heap.size) := by
      show _ ≤ _
      have := hb4.size
      have := unhide Hlt3
      omega
    clear hb4 Ho3 HA3 Hb3
    go_wp2_with (refine wpList_app rfl _ _ rfl (w.heap.size + 1) _ [] rfl (unhide Ho4) _ 2 2 rfl [UInt8.ofNat sn, UInt8.ofNat tn] rfl (unhide Hn) (by simp) (unhide Hsz4) ?_)
    intro v5 w5 ho5 hg5
    have Hbb := hide ((unhide Ho4).below hg5 (unhide Hsz4))
    have HA5 := hide ((unhide HA4).keep (unhide Hbb) (by omega))
    have Hb5 := hide ((unhide Hb4).trans ((unhide Hbb).mono (by omega)))
    have Ho5 := hide ho5
    have Hsz5 : Hid (w.heap.size + 1 ≤ w5.heap.size) := hide (Nat.le_trans (unhide Hsz4) hg5.size)
    clear ho5 hg5 Hbb HA4 Hb4 Ho4 Hn Hsz4 d0 d1
    have d2 := (unhide HA5).cell (unhide H2)
    go_wp2_with fail
    refine (rfix_walk ver (unhide Hv) 8 w5).mono ?_
    rintro e w6 ⟨v6, rfl, ho6, hb6⟩
    rw [sizeN8] at ho6
    have HR6 := hide (ho6.row (by rw [fixedL_length]; decide))
    have Ho6 := hide ((unhide Ho5).keepB hb6)
    have HA6 := hide ((unhide HA5).below hb6)
    have Hb6 := hide ((unhide Hb5).trans (hb6.mono (unhide Hb5).size))
    have Hsz6 : Hid (w.heap.size + 1 ≤ w6.heap.size) := hide (Nat.le_trans (unhide Hsz5) hb6.size)
    clear ho6 hb6 HA5 Hb5 Ho5 d2
    go_wp2_with (refine wpList_appRow rfl _ _ rfl (w.heap.size + 1) w6.heap.size _ _ rfl (unhide Ho6) _ rfl (fixedL ver 8) (unhide HR6) (by simp [fixedL_length]) (unhide Hsz6) ?_)
    intro v7 w7 ho7 hg7
    have Hbb := hide ((unhide Ho6).below hg7 (unhide Hsz6))
    have HA7 := hide ((unhide HA6).keep (unhide Hbb) (by omega))
    have Hb7 := hide ((unhide Hb6).trans ((unhide Hbb).mono (by omega)))
    have Ho7 := hide ho7
    have Hsz7 : Hid (w.heap.size + 1 ≤ w7.heap.size) := hide (Nat.le_trans (unhide Hsz6) hg7.size)
    clear ho7 hg7 Hbb HA6 Hb6 Ho6 HR6
    have d3 := (unhide HA7).cell (unhide H3)
    go_wp2_with fail
    refine (rfix_walk zn (unhide Hz) 4 w7).mono ?_
    rintro e w8 ⟨v8, rfl, ho8, hb8⟩
    rw [sizeN4] at ho8
    have HR8 := hide (ho8.row (by rw [fixedL_length]; decide))
    have Ho8 := hide ((unhide Ho7).keepB hb8)
    have HA8 := hide ((unhide HA7).below hb8)
    have Hb8 := hide ((unhide Hb7).trans (hb8.mono (unhide Hb7).size))
    have Hsz8 : Hid (w.heap.size + 1 ≤ w8.heap.size) := hide (Nat.le_trans (unhide Hsz7) hb8.size)
    clear ho8 hb8 HA7 Hb7 Ho7 d3
    go_wp2_with (refine wpList_appRow rfl _ _ rfl (w.heap.size + 1) w8.heap.size _ _ rfl (unhide Ho8) _ rfl (fixedL zn 4) (unhide HR8) (by simp [fixedL_length]) (unhide Hsz8) ?_)
    intro v9 w9 ho9 hg9
    have Hbb := hide ((unhide Ho8).below hg9 (unhide Hsz8))
    have HA9 := hide ((unhide HA8).keep (unhide Hbb) (by omega))
    have Hb9 := hide ((unhide Hb8).trans ((unhide Hbb).mono (by omega)))
    have Ho9 := hide ho9
    have Hsz9 : Hid (w.heap.size + 1 ≤ w9.heap.size) := hide (Nat.le_trans (unhide Hsz8) hg9.size)
    clear ho9 hg9 Hbb HA8 Hb8 Ho8 HR8
    have HRD : Hid (RowV w9.heap.size w9 (.slice (some ⟨w.heap.size, 4, none⟩) 32 32) dg) := hide (row_of ((unhide HA9).rangeMid 4 (bytesV dg) (unhide H4)) (unhide Hd) (unhide HA9).lt)
    have hsl := run_whole24 w.heap.size
    go_wp2_with (refine wpList_appRow rfl _ _ rfl (w.heap.size + 1) w9.heap.size _ _ rfl (unhide Ho9) _ rfl dg (unhide HRD) (by have := unhide Hd; simp [fixedL_length]; omega) (unhide Hsz9) ?_)
    intro v10 w10 ho10 hg10
    have Hb10 := hide ((unhide Hb9).trans (((unhide Ho9).below hg10 (unhide Hsz9)).mono (by omega)))
    have HR10 := hide (ho10.row (by have := unhide Hd; simp [fixedL_length]; omega))
    clear ho10 hg10
    go_wp2
    go_ret
    refine ⟨_, rfl, ?_, unhide Hb10⟩
    rw [unhide Hx]
    exact unhide HR10
end Go.Proofs.YtglphnmnnfpcoaaDoor
