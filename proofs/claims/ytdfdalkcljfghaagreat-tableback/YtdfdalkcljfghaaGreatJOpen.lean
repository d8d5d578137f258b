/-
  journal.Open.
-/
import Derived.Test.YtdfdalkcljfghaaGreatJRowOf2
namespace Go.Proofs.YtdfdalkcljfghaaGreat
open Go.RowKit

theorem scan_last : ∀ (n : Nat) (r : RW) (l : List Sec), r.last < 18446744073709551616 → (scanR n r l).last < 18446744073709551616
  | 0, _, _, h => h
  | n + 1, r, l, h => by
    rw [scanR]
    split
    · exact h
    · exact scan_last n _ _ (getF_seq l)
theorem rowJ_last (l : List Sec) : (rowJ l).last < 18446744073709551616 := scan_last _ _ _ (by show 0 < _; omega)
theorem built29 (a b : Int) : Tryz.prog.built 29 [(0, .int .i64 a), (1, .int .i64 b)] = some #[.int .i64 a, .int .i64 b] := by kernel_rfl
theorem built165 (m : Nat) (a b : Int) : Tryz.prog.built 165 [(0, .pointer (some ⟨m, 0, none⟩)), (1, .agg #[.int .i64 a, .int .i64 b])] = some #[.pointer (some ⟨m, 0, none⟩), .int .i64 a, .int .i64 b, .int .i64 0, .int .u64 0, .int .i64 0, .bool false] := by kernel_rfl
section
variable {ρ : Operand → Value} {o : Oper}
theorem op_store3 {x y : Operand} {g k : Nat} {n : Int} {u : Value} {w : World} (ho : o.op = .store 3 x y) (h1 : ρ x = .pointer (some ⟨g, k, none⟩)) (h2 : ρ y = .int .i64 n) (hc : w.cell? ⟨g, k, none⟩ = some u) (hf : w.frozen? ⟨g, k, none⟩ = false) :
    (execOp ρ o).run Tryz.prog w = .ok .skip (w.setCell ⟨g, k, none⟩ (.int .i64 n)) := by
  unfold execOp
  rw [ho]
  go_simp
theorem op_store30 {x y : Operand} {g k : Nat} {n : Int} {u : Value} {w : World} (ho : o.op = .store 30 x y) (h1 : ρ x = .pointer (some ⟨g, k, none⟩)) (h2 : ρ y = .int .u64 n) (hc : w.cell? ⟨g, k, none⟩ = some u) (hf : w.frozen? ⟨g, k, none⟩ = false) :
    (execOp ρ o).run Tryz.prog w = .ok .skip (w.setCell ⟨g, k, none⟩ (.int .u64 n)) := by
  unfold execOp
  rw [ho]
  go_simp
end
section
variable {F D : List Nat} {w w' : World} {q m p : Nat} {d : DM} {x : MX}
/-- While the second bank's fields are set. -/
structure OpenC (F D : List Nat) (W : World) (q m p b9 : Nat) (d : DM) (x : MX) (a b last : Nat) (cs : List Value) (L : Nat → Bool) (w : World) : Prop where
  j : Jour F D w q m p d x ⟨a, b, if L 6 = true then 1 else 0, if L 9 = true then last else 0, 0, false⟩
  row : Arr w b9 cs
  below : Below W.heap.size W w
theorem OpenC.upd {W : World} {b9 a b last : Nat} {cs : List Value} {i : Nat} (h6 : 6 ≠ i) (h9 : 9 ≠ i) : ∀ (L : Nat → Bool) (_ : Unit) w, OpenC F D W q m p b9 d x a b last cs L w → OpenC F D W q m p b9 d x a b last cs (Flow.upd L i) w := fun L _ w h =>
  ⟨by rw [Flow.upd_ne h6, Flow.upd_ne h9]; exact h.j, h.row, h.below⟩
theorem Jour.to {j j' : JX} (h : Jour F D w q m p d x j) (e : j = j') : Jour F D w q m p d x j' := e ▸ h

set_option maxHeartbeats 6400000 in
set_option maxRecDepth 100000 in
theorem jopen_walk (h : PMap F D w m p d x) (a b : Nat) (ha : a < x.sz.length) (hb : b < x.sz.length) (hab : a ≠ b) : Calls Tryz.prog 44 #[.pointer (some ⟨m, 0, none⟩), .int .i64 (a : Int), .int .i64 (b : Int)] w fun e w' =>
    ∃ q bv, e = .returned (.tuple #[.pointer (some ⟨q, 0, none⟩), bv]) ∧ Jour F D w' q m p d x ⟨a, b, (openD2 d x.sz a b).1, (openD2 d x.sz a b).2.1, 0, false⟩ ∧ BodsV w.heap.size w' bv (openD2 d x.sz a b).2.2 ∧ Below w.heap.size w w' ∧ w.heap.size ≤ q := by
  have HM := hide h
  have H1 := hide (jrowOf_walk h a ha)
  have H2 : ∀ w', Below w.heap.size w w' → Hid _ := fun w' hw => hide (jrowOf_walk (h.below hw) b hb)
  have hl1 := rowJ_last (bankL x.sz a d.now)
  have hl2 := rowJ_last (bankL x.sz b d.now)
  have HAB := hide (And.intro ha (And.intro hb hab))
  unfold openD2 openL
  clear h ha hb hab
  generalize rowJ (bankL x.sz a d.now) = r1 at *
  generalize rowJ (bankL x.sz b d.now) = r2 at *
  have HL1 := hide hl1
  have HL2 := hide hl2
  clear hl1 hl2
  by_cases hov : r1.over r2 = true
  · rw [if_pos hov]
    have HOV : Hid ((decide (0 < r1.bodies.length) && (!decide (0 < r2.bodies.length) || decide (r2.base < r1.base))) = true) := hide hov
    clear hov
    go_enter Tryz.func44, Tryz.ntmps44
    go_wp2_with fail
    refine (unhide H1).mono ?_
    rintro e w1 ⟨v1, rfl, hV1, hb1⟩
    have H2' := H2 w1 hb1
    have HV1 := hide hV1
    have HB1 := hide hb1
    clear hV1 hb1 H1 H2
    go_wp2_with fail
    refine (unhide H2').mono ?_
    rintro e w2 ⟨v2, rfl, hV2, hb2⟩
    have HV2 := hide (hV2.lower (unhide HB1).size)
    have HV12 := hide ((unhide HV1).below hb2)
    have HB2 := hide ((unhide HB1).trans (hb2.mono (unhide HB1).size))
    obtain ⟨a1, c1, rfl, _, _⟩ := (unhide HV12).slice
    obtain ⟨a2, c2, rfl, _, _⟩ := (unhide HV2).slice
    obtain ⟨b8, hb8⟩ : ∃ b8, w2.heap.size = b8 := ⟨_, rfl⟩
    have HB8 := hide hb8
    have hwb : w.heap.size ≤ b8 := by rw [← hb8]; exact (unhide HB2).size
    unfold rowV
    clear hV2 hb2 H2' HV1 HB1
    go_wp2_with (refine wpList_alloc 162 162 zeroRow rfl rfl alloc162 ?_)
    intro w3 hA3 hb3 hs3
    have hA3' : Arr w3 b8 zeroRow := by first | exact hA3 | (rw [← hb8]; exact hA3)
    have hz3 : w3.heap.size = b8 + 1 := by omega
    have HX3 : Hid (Below b8 w2 w3) := hide (by first | exact hb3 | (rw [← hb8]; exact hb3))
    clear hA3 hb3 hs3
    go_wp2_with (refine wpList_alloc 162 162 zeroRow rfl rfl alloc162 ?_)
    intro w4 hA4 hb4 hs4
    have hA4' : Arr w4 (b8 + 1) zeroRow := by first | exact hA4 | (rw [← hz3]; exact hA4)
    have hz4 : w4.heap.size = b8 + 2 := by omega
    have HA4 := hide hA4'
    have HA34 := hide (hA3'.keep hb4 (by omega))
    have HX4 := hide ((unhide HX3).trans (hb4.mono (by omega)))
    clear hA4 hA4' hb4 hs4 hA3' HX3 hz3
    go_wp2_with (refine wpList_storeAll 162 _ _ b8 [.int .u64 (r1.base : Int), .int .u64 (r1.last : Int), .slice a1 r1.bodies.length c1] zeroRow rfl rfl rfl rfl (unhide HA34) rfl info162 (row_one _ _ _ _ _) ?_)
    intro w5 hA5 hg5 hs5
    have HA5 := hide hA5
    have HA45 := hide ((unhide HA4).grown hg5 (by simp))
    have HX5 := hide ((unhide HX4).grown hg5 (by have := (unhide HX4).size; omega) (fun k hk => by simp at hk; omega))
    have hz5 : w5.heap.size = b8 + 2 := by omega
    clear hA5 hg5 hs5 HA34 HA4 HX4 hz4
    go_wp2_with (refine wpList_storeAll 162 _ _ (b8 + 1) [.int .u64 (r2.base : Int), .int .u64 (r2.last : Int), .slice a2 r2.bodies.length c2] zeroRow rfl rfl rfl rfl (unhide HA45) rfl info162 (row_one _ _ _ _ _) ?_)
    intro w6 hA6 hg6 hs6
    have HA6 := hide hA6
    have HA56 := hide ((unhide HA5).grown hg6 (by simp))
    have HX6 := hide ((unhide HX5).grown hg6 (by have := (unhide HX5).size; omega) (fun k hk => by simp at hk; omega))
    have hz6 : w6.heap.size = b8 + 2 := by omega
    clear hA6 hg6 hs6 HA45 HA5 HX5 hz5
    go_wp2_with (first
      | refine wpList_build 29 _ [.int .i64 (a : Int), .int .i64 (b : Int)] _ rfl rfl rfl (built29 (a : Int) (b : Int)) ?_
      | refine wpList_build 165 _ (jourV m ⟨a, b, 0, 0, 0, false⟩) _ rfl rfl rfl (built165 m (a : Int) (b : Int)) ?_
      | refine wpList_box 165 _ (jourV m ⟨a, b, 0, 0, 0, false⟩) rfl rfl rfl ?_)
    intro w7 hA7 hb7 hs7
    have hA7' : Arr w7 (b8 + 2) (jourV m ⟨a, b, 0, 0, 0, false⟩) := by first | exact hA7 | (rw [← hz6]; exact hA7)
    have HA67 := hide ((unhide HA6).keep hb7 (by omega))
    have HA57 := hide ((unhide HA56).keep hb7 (by omega))
    have HX7 := hide ((unhide HX6).trans (hb7.mono (by omega)))
    have hbw7 : Below w.heap.size w w7 := (unhide HB2).trans ((unhide HX7).mono hwb)
    have HJ7 : Hid (Jour F D w7 (b8 + 2) m p d x ⟨a, b, 0, 0, 0, false⟩) := hide
      { map := (unhide HM).below hbw7, arr := hA7', own := fun e => by have := (unhide HM).lt _ e; omega, ok := ⟨(unhide HAB).1, (unhide HAB).2.1, (unhide HAB).2.2, by show 0 ≤ 1; omega⟩, last := by show 0 < _; omega, next := by show 0 ≤ _; omega }
    have hq80 := (unhide HA57).cell (i := 0) rfl
    have hq81 := (unhide HA57).cell (i := 1) rfl
    have hq82 := (unhide HA57).cell (i := 2) rfl
    have hq90 := (unhide HA67).cell (i := 0) rfl
    have hq91 := (unhide HA67).cell (i := 1) rfl
    have hq92 := (unhide HA67).cell (i := 2) rfl
    have HOW := hide (over_walk r1.base r1.last r1.bodies.length c1 r2.base r2.last r2.bodies.length c2 a1 a2 w7)
    rw [unhide HOV] at HOW
    clear hA7 hA7' hb7 hbw7 HA6 HA56 HX6 hz6
    go_wp2_with fail
    refine (unhide HOW).mono ?_
    rintro e w8 ⟨rfl, hb8'⟩
    have HJ8 := hide ((unhide HJ7).below hb8')
    have HA68 := hide ((unhide HA67).below hb8')
    have HA58 := hide ((unhide HA57).below hb8')
    have hz8 : w2.heap.size ≤ w7.heap.size := (unhide HX7).size
    have HX8 := hide ((unhide HX7).trans (hb8'.mono (by omega)))
    clear hb8' HJ7 HA67 HA57 HX7 hq80 hq81 hq82 hq90 hq91 hq92 HOW hz8 hs7
    have hc81 := (unhide HA58).cell (i := 1) rfl
    have hcq4 : w8.cell? ⟨b8 + 2, 4, none⟩ = some (.int .u64 0) := (unhide HJ8).arr.cell (i := 4) rfl
    have hfq4 := (unhide HJ8).arr.free 4
    have hJ9 := (unhide HJ8).field (j' := ⟨a, b, 0, r1.last, 0, false⟩) 4 (.int .u64 (r1.last : Int)) rfl ⟨(unhide HAB).1, (unhide HAB).2.1, (unhide HAB).2.2, by show 0 ≤ 1; omega⟩ (unhide HL1) (by show 0 ≤ _; omega)
    have hA59 := (unhide HA58).other ⟨b8 + 2, 4, none⟩ (.int .u64 (r1.last : Int)) (by simp)
    have hX9 : Below b8 w2 (w8.setCell ⟨b8 + 2, 4, none⟩ (.int .u64 (r1.last : Int))) := (unhide HX8).setCell (by show b8 ≤ b8 + 2; omega) _
    obtain ⟨w9, hw9⟩ : ∃ w9, w8.setCell ⟨b8 + 2, 4, none⟩ (.int .u64 (r1.last : Int)) = w9 := ⟨_, rfl⟩
    rw [hw9] at hJ9 hA59 hX9
    have HJ9 := hide hJ9.1
    have HX9 := hide hX9
    have hc82 := hA59.cell (i := 2) rfl
    clear hJ9 hA59 hX9 HJ8 HA58 HA68 HX8
    go_wp2_with fail
    refine Flow.wp_region (Flow.VV (fun ix => match ix with | 0 => .pointer (some ⟨b8 + 2, 0, none⟩) | 1 => .pointer (some ⟨b8, 2, none⟩) | 2 => .slice a1 r1.bodies.length c1 | 3 => .pointer (some ⟨b8 + 2, 0, none⟩) | 4 => .slice a1 r1.bodies.length c1 | _ => undef)) (fun _ (_ : Unit) w' => w' = w9.drew) () (by kernel_rfl) (by kernel_rfl) rfl ⟨?_, ?_, ?_, ?_, ?_, trivial⟩ ?_
    · exact Flow.move (Flow.goes_plain rfl) (fun _ _ _ h => h) (.inl rfl) fun a s w' hs hd => (hs 10 (by kernel_rfl))
    · exact Flow.pure (Flow.goes_plain rfl) (fun _ _ _ h => h) fun a L s w' hC hL hn hs hd => ⟨_, op_f162_2 rfl (hs 8 (by kernel_rfl)) w', rfl⟩
    · refine Flow.pure (Flow.goes_plain rfl) (fun _ _ _ h => h) fun a L s w' hC hL hn hs hd => ?_
      skip
      exact ⟨_, op_load94 rfl (hd 1 32 (by kernel_rfl)) (by rw [hC]; exact hc82), rfl⟩
    · exact Flow.move (Flow.goes_plain rfl) (fun _ _ _ h => h) (.inr rfl) fun a s w' hs hd => (hd 0 31 (by kernel_rfl))
    · exact Flow.move (Flow.goes_plain rfl) (fun _ _ _ h => h) (.inr rfl) fun a s w' hs hd => (hd 2 33 (by kernel_rfl))
    · intro L _ w10 hC hL vals hv
      have e3 : vals 3 = .pointer (some ⟨b8 + 2, 0, none⟩) := hv 3 _ 6 rfl rfl
      have e4 : vals 4 = .slice a1 r1.bodies.length c1 := hv 4 _ 7 rfl rfl
      simp only [Free.putAll, Act.put, List.setIfInBounds_toArray, List.set_cons_succ, List.set_cons_zero, e3, e4]
      have hC' : w10 = w9.drew := hC
      subst hC'
      clear hC hL hv e3 e4
      generalize vals 0 = t0 at *
      generalize vals 1 = t1 at *
      generalize vals 2 = t2 at *
      go_wp2_with fail
      refine ⟨rfl, .tuple #[.pointer (some ⟨b8 + 2, 0, none⟩), .slice a1 r1.bodies.length c1], by simp [results, Tryz.results44], ?_⟩
      have hX10 : Below b8 w2 w9.drew := (unhide HX9).drew
      exact ⟨_, _, rfl, (unhide HJ9).drew, (unhide HV12).below (by rw [unhide HB8]; exact hX10), (unhide HB2).trans (hX10.mono hwb), by omega⟩
  · rw [if_neg hov]
    have HOV : Hid ((decide (0 < r1.bodies.length) && (!decide (0 < r2.bodies.length) || decide (r2.base < r1.base))) = false) := hide (Bool.eq_false_iff.2 hov)
    clear hov
    go_enter Tryz.func44, Tryz.ntmps44
    go_wp2_with fail
    refine (unhide H1).mono ?_
    rintro e w1 ⟨v1, rfl, hV1, hb1⟩
    have H2' := H2 w1 hb1
    have HV1 := hide hV1
    have HB1 := hide hb1
    clear hV1 hb1 H1 H2
    go_wp2_with fail
    refine (unhide H2').mono ?_
    rintro e w2 ⟨v2, rfl, hV2, hb2⟩
    have HV2 := hide (hV2.lower (unhide HB1).size)
    have HV12 := hide ((unhide HV1).below hb2)
    have HB2 := hide ((unhide HB1).trans (hb2.mono (unhide HB1).size))
    obtain ⟨a1, c1, rfl, _, _⟩ := (unhide HV12).slice
    obtain ⟨a2, c2, rfl, _, _⟩ := (unhide HV2).slice
    obtain ⟨b8, hb8⟩ : ∃ b8, w2.heap.size = b8 := ⟨_, rfl⟩
    have HB8 := hide hb8
    have hwb : w.heap.size ≤ b8 := by rw [← hb8]; exact (unhide HB2).size
    unfold rowV
    clear hV2 hb2 H2' HV1 HB1
    go_wp2_with (refine wpList_alloc 162 162 zeroRow rfl rfl alloc162 ?_)
    intro w3 hA3 hb3 hs3
    have hA3' : Arr w3 b8 zeroRow := by first | exact hA3 | (rw [← hb8]; exact hA3)
    have hz3 : w3.heap.size = b8 + 1 := by omega
    have HX3 : Hid (Below b8 w2 w3) := hide (by first | exact hb3 | (rw [← hb8]; exact hb3))
    clear hA3 hb3 hs3
    go_wp2_with (refine wpList_alloc 162 162 zeroRow rfl rfl alloc162 ?_)
    intro w4 hA4 hb4 hs4
    have hA4' : Arr w4 (b8 + 1) zeroRow := by first | exact hA4 | (rw [← hz3]; exact hA4)
    have hz4 : w4.heap.size = b8 + 2 := by omega
    have HA4 := hide hA4'
    have HA34 := hide (hA3'.keep hb4 (by omega))
    have HX4 := hide ((unhide HX3).trans (hb4.mono (by omega)))
    clear hA4 hA4' hb4 hs4 hA3' HX3 hz3
    go_wp2_with (refine wpList_storeAll 162 _ _ b8 [.int .u64 (r1.base : Int), .int .u64 (r1.last : Int), .slice a1 r1.bodies.length c1] zeroRow rfl rfl rfl rfl (unhide HA34) rfl info162 (row_one _ _ _ _ _) ?_)
    intro w5 hA5 hg5 hs5
    have HA5 := hide hA5
    have HA45 := hide ((unhide HA4).grown hg5 (by simp))
    have HX5 := hide ((unhide HX4).grown hg5 (by have := (unhide HX4).size; omega) (fun k hk => by simp at hk; omega))
    have hz5 : w5.heap.size = b8 + 2 := by omega
    clear hA5 hg5 hs5 HA34 HA4 HX4 hz4
    go_wp2_with (refine wpList_storeAll 162 _ _ (b8 + 1) [.int .u64 (r2.base : Int), .int .u64 (r2.last : Int), .slice a2 r2.bodies.length c2] zeroRow rfl rfl rfl rfl (unhide HA45) rfl info162 (row_one _ _ _ _ _) ?_)
    intro w6 hA6 hg6 hs6
    have HA6 := hide hA6
    have HA56 := hide ((unhide HA5).grown hg6 (by simp))
    have HX6 := hide ((unhide HX5).grown hg6 (by have := (unhide HX5).size; omega) (fun k hk => by simp at hk; omega))
    have hz6 : w6.heap.size = b8 + 2 := by omega
    clear hA6 hg6 hs6 HA45 HA5 HX5 hz5
    go_wp2_with (first
      | refine wpList_build 29 _ [.int .i64 (a : Int), .int .i64 (b : Int)] _ rfl rfl rfl (built29 (a : Int) (b : Int)) ?_
      | refine wpList_build 165 _ (jourV m ⟨a, b, 0, 0, 0, false⟩) _ rfl rfl rfl (built165 m (a : Int) (b : Int)) ?_
      | refine wpList_box 165 _ (jourV m ⟨a, b, 0, 0, 0, false⟩) rfl rfl rfl ?_)
    intro w7 hA7 hb7 hs7
    have hA7' : Arr w7 (b8 + 2) (jourV m ⟨a, b, 0, 0, 0, false⟩) := by first | exact hA7 | (rw [← hz6]; exact hA7)
    have HA67 := hide ((unhide HA6).keep hb7 (by omega))
    have HA57 := hide ((unhide HA56).keep hb7 (by omega))
    have HX7 := hide ((unhide HX6).trans (hb7.mono (by omega)))
    have hbw7 : Below w.heap.size w w7 := (unhide HB2).trans ((unhide HX7).mono hwb)
    have HJ7 : Hid (Jour F D w7 (b8 + 2) m p d x ⟨a, b, 0, 0, 0, false⟩) := hide
      { map := (unhide HM).below hbw7, arr := hA7', own := fun e => by have := (unhide HM).lt _ e; omega, ok := ⟨(unhide HAB).1, (unhide HAB).2.1, (unhide HAB).2.2, by show 0 ≤ 1; omega⟩, last := by show 0 < _; omega, next := by show 0 ≤ _; omega }
    have hq80 := (unhide HA57).cell (i := 0) rfl
    have hq81 := (unhide HA57).cell (i := 1) rfl
    have hq82 := (unhide HA57).cell (i := 2) rfl
    have hq90 := (unhide HA67).cell (i := 0) rfl
    have hq91 := (unhide HA67).cell (i := 1) rfl
    have hq92 := (unhide HA67).cell (i := 2) rfl
    have HOW := hide (over_walk r1.base r1.last r1.bodies.length c1 r2.base r2.last r2.bodies.length c2 a1 a2 w7)
    rw [unhide HOV] at HOW
    clear hA7 hA7' hb7 hbw7 HA6 HA56 HX6 hz6
    go_wp2_with fail
    refine (unhide HOW).mono ?_
    rintro e w8 ⟨rfl, hb8'⟩
    have HJ8 := hide ((unhide HJ7).below hb8')
    have HA68 := hide ((unhide HA67).below hb8')
    have HA58 := hide ((unhide HA57).below hb8')
    have hz8 : w2.heap.size ≤ w7.heap.size := (unhide HX7).size
    have HX8 := hide ((unhide HX7).trans (hb8'.mono (by omega)))
    clear hb8' HJ7 HA67 HA57 HX7 hq80 hq81 hq82 hq90 hq91 hq92 HOW hz8 hs7
    go_wp2_with fail
    refine Flow.wp_region (Flow.VV (fun ix => match ix with | 0 => .pointer (some ⟨b8 + 2, 0, none⟩) | 1 => .pointer (some ⟨b8 + 2, 0, none⟩) | 2 => .pointer (some ⟨b8 + 1, 1, none⟩) | 3 => .int .u64 (r2.last : Int) | 4 => .pointer (some ⟨b8 + 2, 0, none⟩) | 5 => .pointer (some ⟨b8 + 2, 3, none⟩) | 6 => undef | 7 => .pointer (some ⟨b8 + 2, 0, none⟩) | 8 => .pointer (some ⟨b8 + 2, 4, none⟩) | 9 => undef | _ => undef)) (fun L (_ : Unit) w' => OpenC F D w (b8 + 2) m p (b8 + 1) d x a b r2.last [.int .u64 (r2.base : Int), .int .u64 (r2.last : Int), .slice a2 r2.bodies.length c2] L w' ∧ Below b8 w2 w') () (by kernel_rfl) (by kernel_rfl) ⟨⟨(unhide HJ8).drew.to rfl, (unhide HA68).drew, ((unhide HB2).trans ((unhide HX8).mono hwb)).drew⟩, (unhide HX8).drew⟩ ⟨?_, ?_, ?_, ?_, ?_, ?_, ?_, ?_, ?_, ?_, trivial⟩ ?_
    · exact Flow.move (Flow.goes_plain rfl) ((fun L s w' h => ⟨OpenC.upd (by decide) (by decide) L s w' h.1, h.2⟩)) (.inl rfl) fun a s w' hs hd => (hs 10 (by kernel_rfl))
    · exact Flow.move (Flow.goes_plain rfl) ((fun L s w' h => ⟨OpenC.upd (by decide) (by decide) L s w' h.1, h.2⟩)) (.inl rfl) fun a s w' hs hd => (hs 10 (by kernel_rfl))
    · exact Flow.pure (Flow.goes_plain rfl) ((fun L s w' h => ⟨OpenC.upd (by decide) (by decide) L s w' h.1, h.2⟩)) fun a L s w' hC hL hn hs hd => ⟨_, op_f162_1 rfl (hs 9 (by kernel_rfl)) w', rfl⟩
    · refine Flow.pure (Flow.goes_plain rfl) ((fun L s w' h => ⟨OpenC.upd (by decide) (by decide) L s w' h.1, h.2⟩)) fun a L s w' hC hL hn hs hd => ?_
      skip
      exact ⟨_, op_load30 rfl (hd 2 36 (by kernel_rfl)) (hC.1.row.cell (i := 1) rfl), rfl⟩
    · exact Flow.pure (Flow.goes_plain rfl) ((fun L s w' h => ⟨OpenC.upd (by decide) (by decide) L s w' h.1, h.2⟩)) fun a L s w' hC hL hn hs hd => ⟨_, op_nil rfl (hd 0 34 (by kernel_rfl)) w', rfl⟩
    · exact Flow.pure (Flow.goes_plain rfl) ((fun L s w' h => ⟨OpenC.upd (by decide) (by decide) L s w' h.1, h.2⟩)) fun a L s w' hC hL hn hs hd => ⟨_, op_f165_2 rfl (hd 4 38 (by kernel_rfl)) w', rfl⟩
    · refine Flow.store (Flow.goes_plain rfl) fun a' L s w' hC hL hn hs hd => ?_
      have hj := hC.1.j
      refine ⟨(), _, op_store3 rfl (hd 5 39 (by kernel_rfl)) rfl (hj.arr.cell (i := 3) rfl) (hj.arr.free 3), fun _ _ _ h => h, ⟨⟨?_, hC.1.row.other _ _ (by simp), hC.1.below.setCell (by show w.heap.size ≤ b8 + 2; omega) _⟩, hC.2.setCell (by show b8 ≤ b8 + 2; omega) _⟩, rfl⟩
      · rw [Flow.upd_eq, Flow.upd_ne (by decide), if_pos rfl]
        exact (hj.field (j' := ⟨a, b, 1, if L 9 = true then r2.last else 0, 0, false⟩) 3 (.int .i64 1) rfl ⟨(unhide HAB).1, (unhide HAB).2.1, (unhide HAB).2.2, by show 1 ≤ 1; omega⟩ hj.last hj.next).1
    · exact Flow.pure (Flow.goes_plain rfl) ((fun L s w' h => ⟨OpenC.upd (by decide) (by decide) L s w' h.1, h.2⟩)) fun a L s w' hC hL hn hs hd => ⟨_, op_nil rfl (hd 1 35 (by kernel_rfl)) w', rfl⟩
    · exact Flow.pure (Flow.goes_plain rfl) ((fun L s w' h => ⟨OpenC.upd (by decide) (by decide) L s w' h.1, h.2⟩)) fun a L s w' hC hL hn hs hd => ⟨_, op_f165_3 rfl (hd 7 40 (by kernel_rfl)) w', rfl⟩
    · refine Flow.store (Flow.goes_plain rfl) fun a' L s w' hC hL hn hs hd => ?_
      have hj := hC.1.j
      refine ⟨(), _, op_store30 rfl (hd 8 41 (by kernel_rfl)) (hd 3 37 (by kernel_rfl)) (hj.arr.cell (i := 4) rfl) (hj.arr.free 4), fun _ _ _ h => h, ⟨⟨?_, hC.1.row.other _ _ (by simp), hC.1.below.setCell (by show w.heap.size ≤ b8 + 2; omega) _⟩, hC.2.setCell (by show b8 ≤ b8 + 2; omega) _⟩, rfl⟩
      · rw [Flow.upd_eq, Flow.upd_ne (by decide), if_pos rfl]
        exact (hj.field (j' := ⟨a, b, if L 6 = true then 1 else 0, r2.last, 0, false⟩) 4 (.int .u64 (r2.last : Int)) rfl ⟨(unhide HAB).1, (unhide HAB).2.1, (unhide HAB).2.2, hj.ok.inn⟩ (unhide HL2) hj.next).1
    · intro L _ w9 hC hL vals hv
      simp only [Free.putAll, Act.put, List.setIfInBounds_toArray, List.set_cons_succ, List.set_cons_zero]
      have hJ9 : Jour F D w9 (b8 + 2) m p d x ⟨a, b, 1, r2.last, 0, false⟩ := hC.1.j.to (by rw [if_pos (hL 6 (by decide)), if_pos (hL 9 (by decide))])
      have HJ9 := hide hJ9
      have HX9 := hide hC.2
      have hc92 := hC.1.row.cell (i := 2) rfl
      clear hC hL hv hJ9 HJ8 HA58 HA68 HX8
      generalize vals 0 = s0 at *
      generalize vals 1 = s1 at *
      generalize vals 2 = s2 at *
      generalize vals 3 = s3 at *
      generalize vals 4 = s4 at *
      generalize vals 5 = s5 at *
      generalize vals 7 = s7 at *
      generalize vals 8 = s8 at *
      go_wp2_with fail
      refine Flow.wp_region (Flow.VV (fun ix => match ix with | 0 => .pointer (some ⟨b8 + 2, 0, none⟩) | 1 => .pointer (some ⟨b8 + 1, 2, none⟩) | 2 => .slice a2 r2.bodies.length c2 | 3 => .pointer (some ⟨b8 + 2, 0, none⟩) | 4 => .slice a2 r2.bodies.length c2 | _ => undef)) (fun _ (_ : Unit) w' => w' = w9.drew) () (by kernel_rfl) (by kernel_rfl) rfl ⟨?_, ?_, ?_, ?_, ?_, trivial⟩ ?_
      · exact Flow.move (Flow.goes_plain rfl) (fun _ _ _ h => h) (.inl rfl) fun a s w' hs hd => (hs 10 (by kernel_rfl))
      · exact Flow.pure (Flow.goes_plain rfl) (fun _ _ _ h => h) fun a L s w' hC hL hn hs hd => ⟨_, op_f162_2 rfl (hs 9 (by kernel_rfl)) w', rfl⟩
      · refine Flow.pure (Flow.goes_plain rfl) (fun _ _ _ h => h) fun a L s w' hC hL hn hs hd => ?_
        skip
        exact ⟨_, op_load94 rfl (hd 1 43 (by kernel_rfl)) (by rw [hC]; exact hc92), rfl⟩
      · exact Flow.move (Flow.goes_plain rfl) (fun _ _ _ h => h) (.inr rfl) fun a s w' hs hd => (hd 0 42 (by kernel_rfl))
      · exact Flow.move (Flow.goes_plain rfl) (fun _ _ _ h => h) (.inr rfl) fun a s w' hs hd => (hd 2 44 (by kernel_rfl))
      · intro L _ w10 hC hL vals hv
        have e3 : vals 3 = .pointer (some ⟨b8 + 2, 0, none⟩) := hv 3 _ 6 rfl rfl
        have e4 : vals 4 = .slice a2 r2.bodies.length c2 := hv 4 _ 7 rfl rfl
        simp only [Free.putAll, Act.put, List.setIfInBounds_toArray, List.set_cons_succ, List.set_cons_zero, e3, e4]
        have hC' : w10 = w9.drew := hC
        subst hC'
        clear hC hL hv e3 e4
        generalize vals 0 = t0 at *
        generalize vals 1 = t1 at *
        generalize vals 2 = t2 at *
        go_wp2_with fail
        refine ⟨rfl, .tuple #[.pointer (some ⟨b8 + 2, 0, none⟩), .slice a2 r2.bodies.length c2], by simp [results, Tryz.results44], ?_⟩
        have hX10 : Below b8 w2 w9.drew := (unhide HX9).drew
        exact ⟨_, _, rfl, (unhide HJ9).drew, (unhide HV2).below (by rw [unhide HB8]; exact hX10), (unhide HB2).trans (hX10.mono hwb), by omega⟩
end
end Go.Proofs.YtdfdalkcljfghaaGreat
