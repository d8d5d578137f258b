/-
  The longest row of a bank, read: rowOf; which of two counts. rowOf: the longest row of a bank.
-/
import Derived.Test.YtdfdalkcljfghaaGreatJBods
namespace Go.Proofs.YtdfdalkcljfghaaGreat
open Go.RowKit

def zeroRow : List Value := [.int .u64 0, .int .u64 0, .slice none 0 0]
theorem alloc162 (w : World) : (Instr.alloc 162 true (.tuple #[])).run Tryz.prog w = .ok (.pointer (some ⟨w.heap.size, 0, none⟩)) (w.alloc (.cells zeroRow.toArray 162)) := by kernel_rfl
theorem info162 : (Tryz.prog.info? 162).map (·.size) = some 3 := by kernel_rfl
theorem row_nou8 (x y : Nat) (a : Option Addr) (n c : Nat) : ∀ v ∈ [Value.int .u64 (x : Int), .int .u64 (y : Int), .slice a n c], ∀ k : Int, v ≠ .int .u8 k := by
  intro v hv k
  simp only [List.mem_cons, List.not_mem_nil, or_false] at hv
  rcases hv with rfl | rfl | rfl <;> simp
theorem row_one (x y : Nat) (a : Option Addr) (n c : Nat) : ∀ v ∈ [Value.int .u64 (x : Int), .int .u64 (y : Int), .slice a n c], v.oneCell' = true := by
  intro v hv
  simp only [List.mem_cons, List.not_mem_nil, or_false] at hv
  rcases hv with rfl | rfl | rfl <;> rfl
theorem SecAt.rowV {w : World} {g : Nat} {ss : List Sec} (h : SecAt w g ss) {o n off : Nat} (hn : ss.length = n) (ho : o ≤ n) (hoff : n - o ≠ 0 → off = 64 * o) (hm : n ≤ 4096) : SRowV w.heap.size w (.slice (some ⟨g, off, none⟩) (n - o) (n - o)) (ss.drop o) :=
  ⟨_, n - o, n - o, rfl, Nat.le_refl _, by simp only [maxLen]; omega, by simp, by rw [List.length_drop]; omega, fun s hs => h.sec s (List.mem_of_mem_drop hs), fun i hi => ⟨g, off, rfl, h.lt, by
    have := h.row (o + i) (by omega)
    rw [hoff (by omega), show 64 * o + i * 64 = (o + i) * 64 by omega]
    have e : (ss.drop o).getD i [] = ss.getD (o + i) [] := by
      rw [List.getD_eq_getElem?_getD, List.getElem?_drop, ← List.getD_eq_getElem?_getD]
    rw [e]
    exact this⟩⟩
theorem getF_seq (l : List Sec) : (getF l).2.1 < 18446744073709551616 := by
  rcases getF_cases l with h | ⟨r, h1, h2, h3, h4, h5⟩
  · rw [h]; show 0 < _; omega
  · rw [h5]; exact seqF_lt _

set_option maxHeartbeats 1600000 in
set_option maxRecDepth 100000 in
theorem over_walk (x y n c x2 y2 n2 c2 : Nat) (a a2 : Option Addr) (w : World) : Calls Tryz.prog 82 #[.agg #[.int .u64 (x : Int), .int .u64 (y : Int), .slice a n c], .agg #[.int .u64 (x2 : Int), .int .u64 (y2 : Int), .slice a2 n2 c2]] w fun e w' =>
    e = .returned (.bool (decide (0 < n) && (!decide (0 < n2) || decide (x2 < x)))) ∧ Below w.heap.size w w' := by
  have HC := fun w' => hide (counts_walk x y n c a w')
  have HC2 := fun w' => hide (counts_walk x2 y2 n2 c2 a2 w')
  have hx : (decide (x2 < x)) = decide ((x2 : Int) < (x : Int)) := decide_eq_decide.2 (by omega)
  rw [hx]
  clear hx
  by_cases h0 : 0 < n
  · have e0 : decide (0 < n) = true := decide_eq_true h0
    rw [e0] at *
    by_cases h2 : 0 < n2
    · have e2 : decide (0 < n2) = true := decide_eq_true h2
      rw [e2] at *
      go_enter Tryz.func82, Tryz.ntmps82
      go_wp2_with (refine wpList_box 162 _ [.int .u64 (x : Int), .int .u64 (y : Int), .slice a n c] rfl rfl rfl ?_)
      intro w1 hA1 hb1 hs1
      have HA1 := hide hA1
      have HB1 := hide hb1
      clear hA1 hb1
      go_wp2_with (refine wpList_box 162 _ [.int .u64 (x2 : Int), .int .u64 (y2 : Int), .slice a2 n2 c2] rfl rfl rfl ?_)
      intro w2 hA2 hb2 hs2
      have HA2 := hide hA2
      have HA12 := hide ((unhide HA1).keep hb2 (by omega))
      have HB2 := hide ((unhide HB1).trans (hb2.mono (by omega)))
      clear hA2 hb2 HB1 HA1
      go_wp2_with (refine wpList_loadAll 162 _ _ [.int .u64 (x : Int), .int .u64 (y : Int), .slice a n c] _ rfl rfl rfl (unhide HA12) Tryz.underlying162 rfl info162 ?_)
      go_wp2_with fail
      refine (unhide (HC w2)).mono ?_
      rintro e w3 ⟨rfl, hb3⟩
      have HA3 := hide ((unhide HA12).below hb3)
      have HA32 := hide ((unhide HA2).below hb3)
      have HB3 := hide ((unhide HB2).trans (hb3.mono (unhide HB2).size))
      clear hb3 HB2 HA12 HA2
      have hq0 := (unhide HA32).cell (i := 0) rfl
      have hq1 := (unhide HA32).cell (i := 1) rfl
      have hq2 := (unhide HA32).cell (i := 2) rfl
      go_wp2_with fail
      refine (unhide (HC2 w3)).mono ?_
      rintro e w4 ⟨rfl, hb4⟩
      have hc1 := ((unhide HA3).below hb4).cell (i := 0) rfl
      have hc2 := ((unhide HA32).below hb4).cell (i := 0) rfl
      have HB4 := hide ((unhide HB3).trans (hb4.mono (unhide HB3).size))
      clear hb4 HB3 HA3 HA32
      go_wp2
      go_ret
      refine ⟨?_, unhide HB4⟩
      first | rfl | simp
    · have e2 : decide (0 < n2) = false := decide_eq_false h2
      rw [e2] at *
      go_enter Tryz.func82, Tryz.ntmps82
      go_wp2_with (refine wpList_box 162 _ [.int .u64 (x : Int), .int .u64 (y : Int), .slice a n c] rfl rfl rfl ?_)
      intro w1 hA1 hb1 hs1
      have HA1 := hide hA1
      have HB1 := hide hb1
      clear hA1 hb1
      go_wp2_with (refine wpList_box 162 _ [.int .u64 (x2 : Int), .int .u64 (y2 : Int), .slice a2 n2 c2] rfl rfl rfl ?_)
      intro w2 hA2 hb2 hs2
      have HA2 := hide hA2
      have HA12 := hide ((unhide HA1).keep hb2 (by omega))
      have HB2 := hide ((unhide HB1).trans (hb2.mono (by omega)))
      clear hA2 hb2 HB1 HA1
      go_wp2_with (refine wpList_loadAll 162 _ _ [.int .u64 (x : Int), .int .u64 (y : Int), .slice a n c] _ rfl rfl rfl (unhide HA12) Tryz.underlying162 rfl info162 ?_)
      go_wp2_with fail
      refine (unhide (HC w2)).mono ?_
      rintro e w3 ⟨rfl, hb3⟩
      have HA32 := hide ((unhide HA2).below hb3)
      have HB3 := hide ((unhide HB2).trans (hb3.mono (unhide HB2).size))
      clear hb3 HB2 HA12 HA2
      have hq0 := (unhide HA32).cell (i := 0) rfl
      have hq1 := (unhide HA32).cell (i := 1) rfl
      have hq2 := (unhide HA32).cell (i := 2) rfl
      go_wp2_with fail
      refine (unhide (HC2 w3)).mono ?_
      rintro e w4 ⟨rfl, hb4⟩
      have HB4 := hide ((unhide HB3).trans (hb4.mono (unhide HB3).size))
      clear hb4 HB3 HA32
      go_wp2
      go_ret
      refine ⟨?_, unhide HB4⟩
      first | rfl | simp
  · have e0 : decide (0 < n) = false := decide_eq_false h0
    rw [e0] at *
    go_enter Tryz.func82, Tryz.ntmps82
    go_wp2_with (refine wpList_box 162 _ [.int .u64 (x : Int), .int .u64 (y : Int), .slice a n c] rfl rfl rfl ?_)
    intro w1 hA1 hb1 hs1
    have HA1 := hide hA1
    have HB1 := hide hb1
    clear hA1 hb1
    go_wp2_with (refine wpList_box 162 _ [.int .u64 (x2 : Int), .int .u64 (y2 : Int), .slice a2 n2 c2] rfl rfl rfl ?_)
    intro w2 hA2 hb2 hs2
    have HA12 := hide ((unhide HA1).keep hb2 (by omega))
    have HB2 := hide ((unhide HB1).trans (hb2.mono (by omega)))
    clear hA2 hb2 HB1 HA1
    go_wp2_with (refine wpList_loadAll 162 _ _ [.int .u64 (x : Int), .int .u64 (y : Int), .slice a n c] _ rfl rfl rfl (unhide HA12) Tryz.underlying162 rfl info162 ?_)
    go_wp2_with fail
    refine (unhide (HC w2)).mono ?_
    rintro e w3 ⟨rfl, hb3⟩
    have HB3 := hide ((unhide HB2).trans (hb3.mono (unhide HB2).size))
    clear hb3 HB2 HA12
    go_wp2
    go_ret
    refine ⟨?_, unhide HB3⟩
    first | rfl | simp
end Go.Proofs.YtdfdalkcljfghaaGreat

namespace Go.Proofs.YtdfdalkcljfghaaGreat
open Go.RowKit

def lenS : Value → Nat
  | .slice _ n _ => n
  | _ => 0
theorem getF_body (l : List Sec) : (getF l).2.2.1.length ≤ 4000 := by
  rcases getF_cases l with h | ⟨r, h1, h2, h3, h4, h5⟩
  · rw [h]; show 0 ≤ _; omega
  · rw [h5]
    show (bodyF r).length ≤ 4000
    rcases Nat.lt_or_ge 4000 (bodyF r).length with hb | hb
    · rw [putF_none (by omega)] at h4
      have := congrArg List.length h4
      rw [List.length_take] at this
      simp at this; omega
    · exact hb
section
variable {F D : List Nat} {w w' : World} {m p : Nat} {d : DM} {x : MX}
set_option maxHeartbeats 6400000 in
set_option maxRecDepth 100000 in
theorem jrowOf_walk (h : PMap F D w m p d x) (k : Nat) (hk : k < x.sz.length) : Calls Tryz.prog 81 #[.pointer (some ⟨m, 0, none⟩), .int .i64 (k : Int)] w fun e w' =>
    ∃ bv, e = .returned (rowV (rowJ (bankL x.sz k d.now)).base (rowJ (bankL x.sz k d.now)).last bv) ∧ BodsV w.heap.size w' bv (rowJ (bankL x.sz k d.now)).bodies ∧ Below w.heap.size w w' := by
  have HM := hide h
  have hdl : d.now.length = d.kept.length := h.dev.ok.now
  have hL := bankL_len (K := d.now) hk (by rw [hdl]; exact h.fits)
  have hpart := bnd_part hk
  have hsum := h.map.sum
  have HSW : ∀ w', Below w.heap.size w w' → Hid (Calls Tryz.prog 114 #[.pointer (some ⟨m, 0, none⟩), .int .i64 (k : Int)] w' fun e w2 => e = .returned (.slice (some ⟨w'.heap.size, 0, none⟩) (x.sz.getD k 0) (x.sz.getD k 0)) ∧ SecAt w2 w'.heap.size (bankL x.sz k d.now) ∧ Below w'.heap.size w' w2) := fun w' hb => hide (sectors_walk (h.below hb) k hk)
  have hn : x.sz.getD k 0 ≤ 4096 := by omega
  clear h hsum hpart hdl
  generalize bankL x.sz k d.now = l at *
  generalize x.sz.getD k 0 = n at *
  have HLN := hide hL
  clear hL
  obtain ⟨b4, hb4⟩ : ∃ b4, b4 = w.heap.size := ⟨_, rfl⟩
  go_enter Tryz.func81, Tryz.ntmps81
  go_wp2_with (refine wpList_alloc 162 162 zeroRow rfl rfl alloc162 ?_)
  intro w1 hA1 hb1 hs1
  have HA1 := hide hA1
  have HB1 := hide hb1
  clear hA1 hb1
  go_wp2_with (refine wpList_alloc 162 162 zeroRow rfl rfl alloc162 ?_)
  intro w2 hA2 hb2 hs2
  have HA2 := hide hA2
  have HA12 := hide ((unhide HA1).keep hb2 (by omega))
  have HB2 := hide ((unhide HB1).trans (hb2.mono (by omega)))
  have H3 := HSW w2 (unhide HB2)
  have hz2 : w2.heap.size = w.heap.size + 2 := by omega
  rw [hz2] at H3
  clear hA2 hb2 HB1 HA1 HSW hs2
  go_wp2_with fail
  refine (unhide H3).mono ?_
  rintro e w3 ⟨rfl, hS3, hb3⟩
  have HS3 := hide hS3
  have HA3 := hide ((unhide HA2).keep hb3 (by omega))
  have HA13 := hide ((unhide HA12).keep hb3 (by omega))
  have HB3 := hide ((unhide HB2).trans (hb3.mono (by omega)))
  clear hS3 hb3 HA2 HA12 HB2 H3
  go_wp2
  go_loopw [6] (fun lv wr => ∃ (o off : Nat) (r : RW) (bv : Value), o ≤ n ∧ lv = .slice (some ⟨w.heap.size + 2, off, none⟩) (n - o) (n - o) ∧ (n - o ≠ 0 → off = 64 * o) ∧ rowJ l = scanR ((l.drop o).length + 1) r (l.drop o) ∧
      Arr wr (w.heap.size + 1) [.int .u64 (r.base : Int), .int .u64 (r.last : Int), bv] ∧ Arr wr w.heap.size zeroRow ∧ SecAt wr (w.heap.size + 2) l ∧ BodsV (w.heap.size + 3) wr bv r.bodies ∧ r.bodies.length ≤ o ∧ Below w.heap.size w wr) (fun lv _ => lenS lv)
  case atStart => exact ⟨0, 0, RW.none, .slice none 0 0, by omega, rfl, by omega, rfl, by first | exact unhide HA3 | simpa using unhide HA3, unhide HA13, unhide HS3, BodsV.nil _ _, Nat.le_refl _, unhide HB3⟩
  case round =>
    obtain ⟨o, off, r, bv, ho, rfl, hoff, hrow, hAr, hA4, hS, hBV, hbl, hB⟩ := hrel
    obtain ⟨ba, bc, rfl, hbc, _⟩ := hBV.slice
    have HAR := hide hAr
    have HA4 := hide hA4
    have HS := hide hS
    have HBV := hide hBV
    have HB := hide hB
    have HROW := hide hrow
    have HOFF := hide hoff
    have hsz : w.heap.size + 2 < wr.heap.size := hS.lt
    have HG := hide (get_walk wr.heap.size _ _ wr (Nat.le_refl _) (hS.rowV (unhide HLN) ho hoff hn))
    have hld : (l.drop o).length = n - o := by rw [List.length_drop, unhide HLN]
    have hgz := getF_size (l.drop o)
    rw [hld] at hgz
    have hgs := getF_seq (l.drop o)
    have HGB := hide (getF_body (l.drop o))
    have HST : Hid (((getF (l.drop o)).2.2.2 = 0 ∨ r.takes (getF (l.drop o)).1 (getF (l.drop o)).2.1 = false) → rowJ l = r) := hide fun e => hrow.trans (scan_stop e)
    have HSO : Hid (¬ ((getF (l.drop o)).2.2.2 = 0 ∨ r.takes (getF (l.drop o)).1 (getF (l.drop o)).2.1 = false) → rowJ l = scanR ((l.drop (o + (getF (l.drop o)).2.2.2)).length + 1) (r.put (getF (l.drop o)).2.1 (getF (l.drop o)).2.2.1) (l.drop (o + (getF (l.drop o)).2.2.2))) := hide fun e => by
      rw [← List.drop_drop]
      exact hrow.trans (scan_on e)
    clear hAr hA4 hS hBV hB hrow hoff HA3 HA13 HS3 HB3 hld
    generalize getF (l.drop o) = G at *
    obtain ⟨kd, sq, bd, z⟩ := G
    simp only at hgz hgs HGB HST HSO
    have HTK := fun w' => hide (takes_walk r _ ba bc rfl kd sq hgs w')
    have hkd := kd.toNat_lt
    generalize htk : r.takes kd sq = tk at *
    by_cases hz : z = 0
    · subst hz
      have HEND := hide ((unhide HST) (.inl rfl))
      clear HST HSO HTK htk
      go_wp2_with fail
      refine (unhide HG).mono ?_
      rintro e w2 ⟨⟨gv, rfl, hgv⟩, hb2⟩
      obtain ⟨ga, gc, rfl, _, _⟩ := owns_slice hgv
      have HBD := hide (hgv.lower (B' := w.heap.size + 3) (by omega))
      have HAR2 := hide ((unhide HAR).below hb2)
      have HA42 := hide ((unhide HA4).below hb2)
      have HS2 := hide ((unhide HS).below hb2)
      have HBV2 := hide ((unhide HBV).below hb2)
      have HB2 := hide ((unhide HB).trans (hb2.mono (unhide HB).size))
      clear hgv hb2 HG HAR HA4 HS HBV HB
      have hq0 := (unhide HAR2).cell (i := 0) rfl
      have hq1 := (unhide HAR2).cell (i := 1) rfl
      have hq2 := (unhide HAR2).cell (i := 2) rfl
      go_wp2_with (refine wpList_storeAll 162 _ _ w.heap.size [.int .u64 (r.base : Int), .int .u64 (r.last : Int), .slice ba r.bodies.length bc] zeroRow rfl rfl rfl rfl (unhide HA42) rfl info162 (row_one _ _ _ _ _) ?_)
      intro w5 hA5 hg5 hs5
      have HA5 := hide hA5
      have HBV5 := hide ((unhide HBV2).keep (w' := w5) fun k hk hk2 => hg5.block k hk2 (fun e => by simp at e; omega))
      have HB5 := hide ((unhide HB2).grown hg5 (by have := (unhide HB2).size; omega) (fun k hk => by simp at hk; omega))
      clear hA5 hg5
      go_wp2
      refine bodyPost_ret (v := rowV r.base r.last (.slice ba r.bodies.length bc)) ?_ rfl ?_
      · exact results_arr Tryz.results81 rfl (unhide HA5) Tryz.underlying162 rfl info162
      · rw [unhide HEND]
        exact ⟨_, rfl, (unhide HBV5).lower (by omega), unhide HB5⟩
    · have hzi : ((z : Int) == 0) = false := by simpa using hz
      cases tk with
      | false =>
        have HEND := hide ((unhide HST) (.inr rfl))
        clear HST HSO
        go_wp2_with fail
        refine (unhide HG).mono ?_
        rintro e w2 ⟨⟨gv, rfl, hgv⟩, hb2⟩
        obtain ⟨ga, gc, rfl, _, _⟩ := owns_slice hgv
        have HBD := hide (hgv.lower (B' := w.heap.size + 3) (by omega))
        have HAR2 := hide ((unhide HAR).below hb2)
        have HA42 := hide ((unhide HA4).below hb2)
        have HS2 := hide ((unhide HS).below hb2)
        have HBV2 := hide ((unhide HBV).below hb2)
        have HB2 := hide ((unhide HB).trans (hb2.mono (unhide HB).size))
        clear hgv hb2 HG HAR HA4 HS HBV HB
        have hq0 := (unhide HAR2).cell (i := 0) rfl
        have hq1 := (unhide HAR2).cell (i := 1) rfl
        have hq2 := (unhide HAR2).cell (i := 2) rfl
        go_wp2_with fail
        refine (unhide (HTK w2)).mono ?_
        rintro e w3 ⟨rfl, hb3⟩
        have HAR3 := hide ((unhide HAR2).below hb3)
        have HA43 := hide ((unhide HA42).below hb3)
        have HBV3 := hide ((unhide HBV2).below hb3)
        have HB3 := hide ((unhide HB2).trans (hb3.mono (unhide HB2).size))
        clear hb3 HAR2 HA42 HBV2 HB2 hq0 hq1 hq2
        have hq0 := (unhide HAR3).cell (i := 0) rfl
        have hq1 := (unhide HAR3).cell (i := 1) rfl
        have hq2 := (unhide HAR3).cell (i := 2) rfl
        go_wp2_with (refine wpList_storeAll 162 _ _ w.heap.size [.int .u64 (r.base : Int), .int .u64 (r.last : Int), .slice ba r.bodies.length bc] zeroRow rfl rfl rfl rfl (unhide HA43) rfl info162 (row_one _ _ _ _ _) ?_)
        intro w5 hA5 hg5 hs5
        have HA5 := hide hA5
        have HBV5 := hide ((unhide HBV3).keep (w' := w5) fun k hk hk2 => hg5.block k hk2 (fun e => by simp at e; omega))
        have HB5 := hide ((unhide HB3).grown hg5 (by have := (unhide HB3).size; omega) (fun k hk => by simp at hk; omega))
        clear hA5 hg5
        go_wp2
        refine bodyPost_ret (v := rowV r.base r.last (.slice ba r.bodies.length bc)) ?_ rfl ?_
        · exact results_arr Tryz.results81 rfl (unhide HA5) Tryz.underlying162 rfl info162
        · rw [unhide HEND]
          exact ⟨_, rfl, (unhide HBV5).lower (by omega), unhide HB5⟩
      | true =>
        have HON := hide ((unhide HSO) (by simp only [not_or]; exact ⟨hz, by simp⟩))
        clear HST HSO
        go_wp2_with fail
        refine (unhide HG).mono ?_
        rintro e w2 ⟨⟨gv, rfl, hgv⟩, hb2⟩
        obtain ⟨ga, gc, rfl, _, _⟩ := owns_slice hgv
        have HBD := hide (hgv.lower (B' := w.heap.size + 3) (by omega))
        have HAR2 := hide ((unhide HAR).below hb2)
        have HA42 := hide ((unhide HA4).below hb2)
        have HS2 := hide ((unhide HS).below hb2)
        have HBV2 := hide ((unhide HBV).below hb2)
        have HB2 := hide ((unhide HB).trans (hb2.mono (unhide HB).size))
        clear hgv hb2 HG HAR HA4 HS HBV HB
        have hq0 := (unhide HAR2).cell (i := 0) rfl
        have hq1 := (unhide HAR2).cell (i := 1) rfl
        have hq2 := (unhide HAR2).cell (i := 2) rfl
        go_wp2_with fail
        refine (unhide (HTK w2)).mono ?_
        rintro e w3 ⟨rfl, hb3⟩
        have HAR3 := hide ((unhide HAR2).below hb3)
        have HA43 := hide ((unhide HA42).below hb3)
        have HS3 := hide ((unhide HS2).below hb3)
        have HBV3 := hide ((unhide HBV2).below hb3)
        have HBD3 := hide ((unhide HBD).keepB hb3)
        have HB3 := hide ((unhide HB2).trans (hb3.mono (unhide HB2).size))
        clear hb3 HAR2 HA42 HS2 HBV2 HBD HB2 hq0 hq1 hq2
        have hq0 := (unhide HAR3).cell (i := 0) rfl
        have hq1 := (unhide HAR3).cell (i := 1) rfl
        have hq2 := (unhide HAR3).cell (i := 2) rfl
        have HCN := hide (counts_walk r.base r.last r.bodies.length bc ba w3)
        go_wp2_with fail
        refine (unhide HCN).mono ?_
        rintro e w4 ⟨rfl, hb4'⟩
        have HAR4 := hide ((unhide HAR3).below hb4')
        have HA44 := hide ((unhide HA43).below hb4')
        have HS4 := hide ((unhide HS3).below hb4')
        have HBV4 := hide ((unhide HBV3).below hb4')
        have HBD4 := hide ((unhide HBD3).keepB hb4')
        have HB4 := hide ((unhide HB3).trans (hb4'.mono (unhide HB3).size))
        have hz4 : w.heap.size + 2 < w4.heap.size := (unhide HS4).lt
        clear hb4' HAR3 HA43 HS3 HBV3 HBD3 HB3 hq0 hq1 hq2 HTK
        by_cases hb0 : r.bodies.length = 0
        · have hb0i : decide (0 < r.bodies.length) = false := decide_eq_false (by omega)
          rw [hb0i]
          have HPUT : Hid (r.put sq bd = ⟨sq, sq, r.bodies ++ [bd]⟩) := hide (by unfold RW.put; rw [if_pos hb0])
          clear hb0
          have hc0 := (unhide HAR4).cell (i := 0) rfl
          have hf0 := (unhide HAR4).free 0
          have hAu := (unhide HAR4).set 0 (.int .u64 (sq : Int))
          have hA4u := (unhide HA44).other ⟨w.heap.size + 1, 0, none⟩ (.int .u64 (sq : Int)) (by simp)
          have hSu := (unhide HS4).same (Below.heap_setCell w4 ⟨w.heap.size + 1, 0, none⟩ (.int .u64 (sq : Int)) _ (by simp)) (by rw [set_size]; exact Nat.le_refl _)
          have hBVu := (unhide HBV4).set (q := w.heap.size + 1) (i := 0) (u := .int .u64 (sq : Int)) (by omega)
          have hBDu : Own (w.heap.size + 3) (w4.setCell ⟨w.heap.size + 1, 0, none⟩ (.int .u64 (sq : Int))) (.slice ga bd.length gc) bd := owns_same (unhide HBD4) fun k hk => Below.heap_setCell _ _ _ _ (fun e => by have := ((unhide HBD4).lt k (by simpa using hk)).1; have : k = w.heap.size + 1 := e; omega)
          have hBu : Below w.heap.size w (w4.setCell ⟨w.heap.size + 1, 0, none⟩ (.int .u64 (sq : Int))) := (unhide HB4).setCell (by show w.heap.size ≤ w.heap.size + 1; omega) _
          have hzu : w.heap.size + 2 < (w4.setCell ⟨w.heap.size + 1, 0, none⟩ (.int .u64 (sq : Int))).heap.size := by rw [set_size]; exact hz4
          obtain ⟨u, hu⟩ : ∃ u, w4.setCell ⟨w.heap.size + 1, 0, none⟩ (.int .u64 (sq : Int)) = u := ⟨_, rfl⟩
          rw [hu] at hAu hA4u hSu hBVu hBDu hBu hzu
          have hc1 := hAu.cell (i := 1) rfl
          have hf1 := hAu.free 1
          have hAu2 := hAu.set 1 (.int .u64 (sq : Int))
          have hA4u2 := hA4u.other ⟨w.heap.size + 1, 1, none⟩ (.int .u64 (sq : Int)) (by simp)
          have hSu2 := hSu.same (Below.heap_setCell u ⟨w.heap.size + 1, 1, none⟩ (.int .u64 (sq : Int)) _ (by simp)) (by rw [set_size]; exact Nat.le_refl _)
          have hBVu2 := hBVu.set (q := w.heap.size + 1) (i := 1) (u := .int .u64 (sq : Int)) (by omega)
          have hBDu2 : Own (w.heap.size + 3) (u.setCell ⟨w.heap.size + 1, 1, none⟩ (.int .u64 (sq : Int))) (.slice ga bd.length gc) bd := owns_same hBDu fun k hk => Below.heap_setCell _ _ _ _ (fun e => by have := (hBDu.lt k (by simpa using hk)).1; have : k = w.heap.size + 1 := e; omega)
          have hBu2 : Below w.heap.size w (u.setCell ⟨w.heap.size + 1, 1, none⟩ (.int .u64 (sq : Int))) := hBu.setCell (by show w.heap.size ≤ w.heap.size + 1; omega) _
          have hzu2 : w.heap.size + 2 < (u.setCell ⟨w.heap.size + 1, 1, none⟩ (.int .u64 (sq : Int))).heap.size := by rw [set_size]; exact hzu
          obtain ⟨u2, hu2⟩ : ∃ u2, u.setCell ⟨w.heap.size + 1, 1, none⟩ (.int .u64 (sq : Int)) = u2 := ⟨_, rfl⟩
          rw [hu2] at hAu2 hA4u2 hSu2 hBVu2 hBDu2 hBu2 hzu2
          have hAu2' : Arr u2 (w.heap.size + 1) [.int .u64 (sq : Int), .int .u64 (sq : Int), .slice ba r.bodies.length bc] := hAu2
          have hc2 := hAu2'.cell (i := 2) rfl
          have HAU2 := hide hAu2'
          have HA4U2 := hide hA4u2
          have HSU2 := hide hSu2
          have HBVU2 := hide hBVu2
          have HBDU2 := hide hBDu2
          have HBU2 := hide hBu2
          clear hAu hA4u hSu hBVu hBDu hBu hzu hAu2 hAu2' hA4u2 hSu2 hBVu2 hBDu2 hBu2 HAR4 HA44 HS4 HBV4 HBD4 HB4 hz4
          go_wp2_with (refine wpList_one24 _ ga bd.length gc rfl rfl rfl ?_)
          intro w5 hO5 hb5 hs5
          have HO5 := hide hO5
          have HA5 := hide ((unhide HAU2).below hb5)
          have HA45 := hide ((unhide HA4U2).below hb5)
          have HS5 := hide ((unhide HSU2).below hb5)
          have HBD5 := hide ((unhide HBDU2).keepB hb5)
          have HB5 := hide ((unhide HBU2).trans (hb5.mono (unhide HBU2).size))
          have hBV5 := (unhide HBVU2).below hb5
          have hz5 : w.heap.size + 2 < w5.heap.size := (unhide HS5).lt
          clear hO5 hb5 hc2 HAU2 HA4U2 HSU2 HBDU2 HBVU2 HBU2 hc1 hf1 hu2 hc0 hf0 hu
          obtain ⟨vs, hv1, hv2, hv3⟩ := hBV5
          have HV1 := hide hv1
          have HV2 := hide hv2
          have HV3 := hide hv3
          clear hv1 hv2 hv3
          obtain ⟨i, i1, i2, i3, i4⟩ := full32
          have HI := hide (And.intro i1 (And.intro i2 (And.intro i3 i4)))
          clear i1 i2 i3 i4
          go_wp2_with (refine wpList_app1 rfl _ _ rfl Tryz.underlying94 (unhide HI).1 (unhide HI).2.1 (unhide HI).2.2.1 (unhide HI).2.2.2 rfl (by decide) (w.heap.size + 3) _ (.slice ba r.bodies.length bc) (.slice ga bd.length gc) r.bodies.length vs _ 1 rfl (unhide HV2) rfl (unhide HO5) rfl (by omega) (by omega) ?_)
          intro v6 w6 hO6 hg6
          have hk6 : Below (w.heap.size + 3) w5 w6 := owns_bel (unhide HV2) hg6 (by omega)
          have HBV6 := hide (bods_snoc (unhide HV1) (unhide HV2) (unhide HV3) (unhide HBD5) (unhide HGB) hO6 hg6)
          have hA6 := (unhide HA5).keep hk6 (by omega)
          have HA46 := hide ((unhide HA45).keep hk6 (by omega))
          have HS6 := hide ((unhide HS5).same (hk6.block _ (by omega)) hk6.size)
          have HB6 := hide ((unhide HB5).trans (hk6.mono (by omega)))
          have hc6 := hA6.cell (i := 2) rfl
          have hf6 := hA6.free 2
          have HA6 := hide hA6
          have hsl6 := (unhide HBV6).slice
          rw [List.length_append, List.length_singleton] at hsl6
          obtain ⟨va, vc, rfl, _, _⟩ := hsl6
          clear hO6 hg6 hk6 hA6 HBD5 HV1 HV2 HV3 HO5 HA5 HA45 HS5 HB5 HI
          have HA7 := hide ((unhide HA6).set 2 (.slice va (r.bodies.length + 1) vc))
          have HA47 := hide ((unhide HA46).other ⟨w.heap.size + 1, 2, none⟩ (.slice va (r.bodies.length + 1) vc) (by simp))
          have HS7 := hide ((unhide HS6).same (Below.heap_setCell w6 ⟨w.heap.size + 1, 2, none⟩ (.slice va (r.bodies.length + 1) vc) _ (by simp)) (by rw [set_size]; exact Nat.le_refl _))
          have HBV7 := hide ((unhide HBV6).set (q := w.heap.size + 1) (i := 2) (u := .slice va (r.bodies.length + 1) vc) (by omega))
          have HB7 : Hid (Below w.heap.size w (w6.setCell ⟨w.heap.size + 1, 2, none⟩ (.slice va (r.bodies.length + 1) vc))) := hide ((unhide HB6).setCell (by show w.heap.size ≤ w.heap.size + 1; omega) _)
          have hlb : (r.bodies ++ [bd]).length ≤ o + z := by simp; omega
          have HLB := hide hlb
          have hzo : z ≤ n - o := hgz
          by_cases hcap : n - o = z
          · have hd0 : n - (o + z) = 0 := by omega
            go_wp2
            go_roundw
            case rel => exact ⟨o + z, off, r.put sq bd, .slice va (r.bodies.length + 1) vc, by omega, by rw [hd0] <;> first | rfl | simp [hcap], by omega, unhide HON, by rw [unhide HPUT]; exact unhide HA7, unhide HA47, unhide HS7, by rw [unhide HPUT]; exact unhide HBV7, by rw [unhide HPUT]; exact unhide HLB, unhide HB7⟩
            case measure => simp [lenS]; omega
          · go_wp2
            go_roundw
            case rel => exact ⟨o + z, off + z * 64, r.put sq bd, .slice va (r.bodies.length + 1) vc, by omega, by rw [show n - (o + z) = n - o - z by omega] <;> first | rfl | simp, (fun _ => by have := unhide HOFF (by omega); omega), unhide HON, by rw [unhide HPUT]; exact unhide HA7, unhide HA47, unhide HS7, by rw [unhide HPUT]; exact unhide HBV7, by rw [unhide HPUT]; exact unhide HLB, unhide HB7⟩
            case measure => simp [lenS]; omega
        · have hb0i : decide (0 < r.bodies.length) = true := decide_eq_true (by omega)
          rw [hb0i]
          have HPUT : Hid (r.put sq bd = ⟨r.base, sq, r.bodies ++ [bd]⟩) := hide (by unfold RW.put; rw [if_neg hb0])
          have hAu := unhide HAR4
          have hA4u := unhide HA44
          have hSu := unhide HS4
          have hBVu := unhide HBV4
          have hBDu := unhide HBD4
          have hBu := unhide HB4
          have hzu := hz4
          generalize w4 = u at *
          have hc1 := hAu.cell (i := 1) rfl
          have hf1 := hAu.free 1
          have hAu2 := hAu.set 1 (.int .u64 (sq : Int))
          have hA4u2 := hA4u.other ⟨w.heap.size + 1, 1, none⟩ (.int .u64 (sq : Int)) (by simp)
          have hSu2 := hSu.same (Below.heap_setCell u ⟨w.heap.size + 1, 1, none⟩ (.int .u64 (sq : Int)) _ (by simp)) (by rw [set_size]; exact Nat.le_refl _)
          have hBVu2 := hBVu.set (q := w.heap.size + 1) (i := 1) (u := .int .u64 (sq : Int)) (by omega)
          have hBDu2 : Own (w.heap.size + 3) (u.setCell ⟨w.heap.size + 1, 1, none⟩ (.int .u64 (sq : Int))) (.slice ga bd.length gc) bd := owns_same hBDu fun k hk => Below.heap_setCell _ _ _ _ (fun e => by have := (hBDu.lt k (by simpa using hk)).1; have : k = w.heap.size + 1 := e; omega)
          have hBu2 : Below w.heap.size w (u.setCell ⟨w.heap.size + 1, 1, none⟩ (.int .u64 (sq : Int))) := hBu.setCell (by show w.heap.size ≤ w.heap.size + 1; omega) _
          have hzu2 : w.heap.size + 2 < (u.setCell ⟨w.heap.size + 1, 1, none⟩ (.int .u64 (sq : Int))).heap.size := by rw [set_size]; exact hzu
          obtain ⟨u2, hu2⟩ : ∃ u2, u.setCell ⟨w.heap.size + 1, 1, none⟩ (.int .u64 (sq : Int)) = u2 := ⟨_, rfl⟩
          rw [hu2] at hAu2 hA4u2 hSu2 hBVu2 hBDu2 hBu2 hzu2
          have hAu2' : Arr u2 (w.heap.size + 1) [.int .u64 (r.base : Int), .int .u64 (sq : Int), .slice ba r.bodies.length bc] := hAu2
          have hc2 := hAu2'.cell (i := 2) rfl
          have HAU2 := hide hAu2'
          have HA4U2 := hide hA4u2
          have HSU2 := hide hSu2
          have HBVU2 := hide hBVu2
          have HBDU2 := hide hBDu2
          have HBU2 := hide hBu2
          clear hAu hA4u hSu hBVu hBDu hBu hzu hAu2 hAu2' hA4u2 hSu2 hBVu2 hBDu2 hBu2 HAR4 HA44 HS4 HBV4 HBD4 HB4 hz4
          go_wp2_with (refine wpList_one24 _ ga bd.length gc rfl rfl rfl ?_)
          intro w5 hO5 hb5 hs5
          have HO5 := hide hO5
          have HA5 := hide ((unhide HAU2).below hb5)
          have HA45 := hide ((unhide HA4U2).below hb5)
          have HS5 := hide ((unhide HSU2).below hb5)
          have HBD5 := hide ((unhide HBDU2).keepB hb5)
          have HB5 := hide ((unhide HBU2).trans (hb5.mono (unhide HBU2).size))
          have hBV5 := (unhide HBVU2).below hb5
          have hz5 : w.heap.size + 2 < w5.heap.size := (unhide HS5).lt
          clear hO5 hb5 hc2 HAU2 HA4U2 HSU2 HBDU2 HBVU2 HBU2 hc1 hf1 hu2
          obtain ⟨vs, hv1, hv2, hv3⟩ := hBV5
          have HV1 := hide hv1
          have HV2 := hide hv2
          have HV3 := hide hv3
          clear hv1 hv2 hv3
          obtain ⟨i, i1, i2, i3, i4⟩ := full32
          have HI := hide (And.intro i1 (And.intro i2 (And.intro i3 i4)))
          clear i1 i2 i3 i4
          go_wp2_with (refine wpList_app1 rfl _ _ rfl Tryz.underlying94 (unhide HI).1 (unhide HI).2.1 (unhide HI).2.2.1 (unhide HI).2.2.2 rfl (by decide) (w.heap.size + 3) _ (.slice ba r.bodies.length bc) (.slice ga bd.length gc) r.bodies.length vs _ 1 rfl (unhide HV2) rfl (unhide HO5) rfl (by omega) (by omega) ?_)
          intro v6 w6 hO6 hg6
          have hk6 : Below (w.heap.size + 3) w5 w6 := owns_bel (unhide HV2) hg6 (by omega)
          have HBV6 := hide (bods_snoc (unhide HV1) (unhide HV2) (unhide HV3) (unhide HBD5) (unhide HGB) hO6 hg6)
          have hA6 := (unhide HA5).keep hk6 (by omega)
          have HA46 := hide ((unhide HA45).keep hk6 (by omega))
          have HS6 := hide ((unhide HS5).same (hk6.block _ (by omega)) hk6.size)
          have HB6 := hide ((unhide HB5).trans (hk6.mono (by omega)))
          have hc6 := hA6.cell (i := 2) rfl
          have hf6 := hA6.free 2
          have HA6 := hide hA6
          have hsl6 := (unhide HBV6).slice
          rw [List.length_append, List.length_singleton] at hsl6
          obtain ⟨va, vc, rfl, _, _⟩ := hsl6
          clear hO6 hg6 hk6 hA6 HBD5 HV1 HV2 HV3 HO5 HA5 HA45 HS5 HB5 HI
          have HA7 := hide ((unhide HA6).set 2 (.slice va (r.bodies.length + 1) vc))
          have HA47 := hide ((unhide HA46).other ⟨w.heap.size + 1, 2, none⟩ (.slice va (r.bodies.length + 1) vc) (by simp))
          have HS7 := hide ((unhide HS6).same (Below.heap_setCell w6 ⟨w.heap.size + 1, 2, none⟩ (.slice va (r.bodies.length + 1) vc) _ (by simp)) (by rw [set_size]; exact Nat.le_refl _))
          have HBV7 := hide ((unhide HBV6).set (q := w.heap.size + 1) (i := 2) (u := .slice va (r.bodies.length + 1) vc) (by omega))
          have HB7 : Hid (Below w.heap.size w (w6.setCell ⟨w.heap.size + 1, 2, none⟩ (.slice va (r.bodies.length + 1) vc))) := hide ((unhide HB6).setCell (by show w.heap.size ≤ w.heap.size + 1; omega) _)
          have hlb : (r.bodies ++ [bd]).length ≤ o + z := by simp; omega
          have HLB := hide hlb
          have hzo : z ≤ n - o := hgz
          by_cases hcap : n - o = z
          · have hd0 : n - (o + z) = 0 := by omega
            go_wp2
            go_roundw
            case rel => exact ⟨o + z, off, r.put sq bd, .slice va (r.bodies.length + 1) vc, by omega, by rw [hd0] <;> first | rfl | simp [hcap], by omega, unhide HON, by rw [unhide HPUT]; exact unhide HA7, unhide HA47, unhide HS7, by rw [unhide HPUT]; exact unhide HBV7, by rw [unhide HPUT]; exact unhide HLB, unhide HB7⟩
            case measure => simp [lenS]; omega
          · go_wp2
            go_roundw
            case rel => exact ⟨o + z, off + z * 64, r.put sq bd, .slice va (r.bodies.length + 1) vc, by omega, by rw [show n - (o + z) = n - o - z by omega] <;> first | rfl | simp, (fun _ => by have := unhide HOFF (by omega); omega), unhide HON, by rw [unhide HPUT]; exact unhide HA7, unhide HA47, unhide HS7, by rw [unhide HPUT]; exact unhide HBV7, by rw [unhide HPUT]; exact unhide HLB, unhide HB7⟩
            case measure => simp [lenS]; omega
end
end Go.Proofs.YtdfdalkcljfghaaGreat
