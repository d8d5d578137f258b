/-
  A journal in memory: what it is made of, what stands while other things turn; the calls that ask it.
-/
import Derived.Test.YtdfdalkcljfghaaGreatJOps
import Derived.Test.YtdfdalkcljfghaaGreatJMath
namespace Go.Proofs.YtdfdalkcljfghaaGreat
open Go.RowKit

def jourV (m : Nat) (j : JX) : List Value := [.pointer (some ⟨m, 0, none⟩), .int .i64 (j.a : Int), .int .i64 (j.b : Int), .int .i64 (j.inn : Int), .int .u64 (j.last : Int), .int .i64 (j.next : Int), .bool j.ready]
/-- A journal, its map and its device. -/
structure Jour (F D : List Nat) (w : World) (q m p : Nat) (d : DM) (x : MX) (j : JX) : Prop where
  map : PMap F D w m p d x
  arr : Arr w q (jourV m j)
  own : q ∉ F ++ D
  ok : j.Ok x.sz
  last : j.last < 18446744073709551616
  next : j.next ≤ 4096
section
variable {F D G : List Nat} {w w' : World} {q m p : Nat} {d : DM} {x : MX} {j : JX}
theorem Jour.below (h : Jour F D w q m p d x j) (hb : Below w.heap.size w w') : Jour F D w' q m p d x j := { h with map := h.map.below hb, arr := h.arr.below hb }
theorem Jour.drew (h : Jour F D w q m p d x j) : Jour F D w.drew q m p d x j := { h with map := h.map.drew, arr := h.arr.drew }
theorem Jour.lt (h : Jour F D w q m p d x j) : ∀ k ∈ q :: (F ++ D), k < w.heap.size := fun k hk => by
  rcases List.mem_cons.1 hk with rfl | hk
  · exact h.arr.lt
  · exact h.map.lt k hk
theorem Jour.but (h : Jour F D w q m p d x j) (hb : But G w w') (hd : ∀ k ∈ q :: (F ++ D), k ∉ G) : Jour F D w' q m p d x j :=
  { h with map := h.map.but hb fun k hk => hd k (List.mem_cons_of_mem _ hk), arr := h.arr.same (hb.block q h.arr.lt (hd q (List.mem_cons_self ..))) }
theorem Turns.cons {F F' : List Nat} {k : Nat} (h : Turns F F' w w') : Turns (k :: F) (k :: F') w w' :=
  ⟨⟨h.1.os, h.1.tape, h.1.output, h.1.size, fun i hi hn => h.1.block i hi fun e => hn (List.mem_cons_of_mem _ e)⟩, fun i hi => by
    rcases List.mem_cons.1 hi with rfl | hi
    · exact .inl (List.mem_cons_self ..)
    · rcases h.2 i hi with e | e
      · exact .inl (List.mem_cons_of_mem _ e)
      · exact .inr e⟩
/-- Its map turns. -/
theorem Jour.turn {F' D' : List Nat} {d' : DM} {x' : MX} (h : Jour F D w q m p d x j) (ht : Turns (F ++ D) (F' ++ D') w w') (hm : PMap F' D' w' m p d' x') (hs : x'.sz = x.sz) : Jour F' D' w' q m p d' x' j ∧ Turns (q :: (F ++ D)) (q :: (F' ++ D')) w w' := by
  have hq : q ∉ F' ++ D' := fun e => by
    rcases ht.2 q e with e | e
    · exact h.own e
    · have := h.arr.lt; omega
  exact ⟨{ map := hm, arr := h.arr.same (ht.1.block q h.arr.lt h.own), own := hq, ok := by rw [hs]; exact h.ok, last := h.last, next := h.next }, ht.cons⟩
/-- One of its fields is set. -/
theorem Jour.field {j' : JX} (h : Jour F D w q m p d x j) (i : Nat) (v : Value) (hv : (jourV m j).set i v = jourV m j') (hok : j'.Ok x.sz) (hl : j'.last < 18446744073709551616) (hn : j'.next ≤ 4096) :
    Jour F D (w.setCell ⟨q, i, none⟩ v) q m p d x j' ∧ Turns (q :: (F ++ D)) (q :: (F ++ D)) w (w.setCell ⟨q, i, none⟩ v) := by
  refine ⟨{ map := h.map.but (G := [q]) (But.of_grown (set_grown _ _ _ _) (by simp)) (fun k hk e => h.own ((List.mem_singleton.1 e) ▸ hk)), arr := by rw [← hv]; exact h.arr.set i v, own := h.own, ok := hok, last := hl, next := hn }, ?_⟩
  exact ⟨But.of_grown (set_grown _ _ _ _) (by simp), fun _ h => .inl h⟩
theorem Jour.bank (h : Jour F D w q m p d x j) {i : Nat} (hi : i ≤ 1) : w.cell? ⟨q, 1 + i, none⟩ = some (.int .i64 (j.bk i : Int)) := by
  rcases Nat.le_one_iff_eq_zero_or_eq_one.1 hi with rfl | rfl
  · exact h.arr.cell (i := 1) rfl
  · exact h.arr.cell (i := 2) rfl

set_option maxHeartbeats 800000 in
set_option maxRecDepth 100000 in
theorem ready_walk (h : Jour F D w q m p d x j) : Calls Tryz.prog 100 #[.pointer (some ⟨q, 0, none⟩)] w fun e w' => e = .returned (.bool j.ready) ∧ w' = w := by
  have hc := h.arr.cell (i := 6) rfl
  clear h
  go_enter Tryz.func100, Tryz.ntmps100
  go_wp2
  go_ret
  exact ⟨rfl, rfl⟩
theorem JX.Ok.room (h : j.Ok x.sz) (i : Nat) : sizeX x.sz (j.bk i : Int) = roomJ x.sz j i := size_some (h.bk i)
theorem roomJ_le (h : PMap F D w m p d x) (i : Nat) : roomJ x.sz j i ≤ 4096 := by
  have h1 := h.map.sum
  unfold roomJ
  by_cases hk : j.bk i < x.sz.length
  · have := bnd_part hk; omega
  · rw [List.getD_eq_getElem?_getD, List.getElem?_eq_none (by omega)]; exact Nat.zero_le _
set_option maxHeartbeats 800000 in
set_option maxRecDepth 100000 in
theorem room_walk (h : Jour F D w q m p d x j) (i : Nat) (hi : i ≤ 1) : Calls Tryz.prog 108 #[.pointer (some ⟨q, 0, none⟩), .int .i64 (i : Int)] w fun e w' => e = .returned (.int .i64 (roomJ x.sz j i : Int)) ∧ Below w.heap.size w w' ∧ w'.heap.size = w.heap.size := by
  have HH := hide h
  have HR : ∀ w', Below w.heap.size w w' → Hid (Calls Tryz.prog 78 #[.pointer (some ⟨m, 0, none⟩), .int .i64 (j.bk i : Int)] w' fun e w2 => e = .returned (.int .i64 (roomJ x.sz j i : Int)) ∧ Below w'.heap.size w' w2 ∧ w2.heap.size = w'.heap.size) := fun w' hb => by
    have := msize_walk (h.below hb).map.map (j.bk i : Int)
    rw [h.ok.room] at this
    exact hide this
  have hrl := roomJ_le (j := j) h.map i
  clear h
  generalize roomJ x.sz j i = r at *
  go_enter Tryz.func108, Tryz.ntmps108
  go_wp2_with fail
  refine Flow.wp_region (Flow.VV (fun ix => match ix with | 0 => .pointer (some ⟨q, 0, none⟩) | 1 => .pointer (some ⟨q, 0, none⟩) | 2 => .pointer (some ⟨q, 0, none⟩) | 3 => .pointer (some ⟨m, 0, none⟩) | 4 => .pointer (some ⟨q, 0, none⟩) | 5 => .int .i64 (i : Int) | 6 => .pointer (some ⟨q, 0, none⟩) | 7 => .pointer (some ⟨q, 1, none⟩) | 8 => .pointer (some ⟨q, 1 + i, none⟩) | 9 => .int .i64 (j.bk i : Int) | 10 => .int .i64 (r : Int) | 11 => .int .i64 (r : Int) | _ => undef)) (fun _ (_ : Unit) w' => Below w.heap.size w w' ∧ w'.heap.size = w.heap.size) () (by kernel_rfl) (by kernel_rfl) ⟨(Below.refl _ w).drew, rfl⟩ ⟨?_, ?_, ?_, ?_, ?_, ?_, ?_, ?_, ?_, ?_, ?_, ?_, trivial⟩ ?_
  · exact Flow.move (Flow.goes_plain rfl) (fun _ _ _ h => h) (.inl rfl) fun a s w' hs hd => (hs 0 (by kernel_rfl))
  · exact Flow.pure (Flow.goes_plain rfl) (fun _ _ _ h => h) fun a L s w' hC hL hn hs hd => ⟨_, op_nil rfl (hd 0 5 (by kernel_rfl)) w', rfl⟩
  · exact Flow.pure (Flow.goes_plain rfl) (fun _ _ _ h => h) fun a L s w' hC hL hn hs hd => ⟨_, op_f165_0 rfl (hd 1 6 (by kernel_rfl)) w', rfl⟩
  · refine Flow.pure (Flow.goes_plain rfl) (fun _ _ _ h => h) fun a L s w' hC hL hn hs hd => ?_
    skip
    exact ⟨_, op_load27 rfl (hd 2 7 (by kernel_rfl)) (((unhide HH).below hC.1).arr.cell (i := 0) rfl), rfl⟩
  · exact Flow.move (Flow.goes_plain rfl) (fun _ _ _ h => h) (.inl rfl) fun a s w' hs hd => (hs 0 (by kernel_rfl))
  · exact Flow.move (Flow.goes_plain rfl) (fun _ _ _ h => h) (.inl rfl) fun a s w' hs hd => (hs 1 (by kernel_rfl))
  · exact Flow.pure (Flow.goes_plain rfl) (fun _ _ _ h => h) fun a L s w' hC hL hn hs hd => ⟨_, op_nil rfl (hd 4 9 (by kernel_rfl)) w', rfl⟩
  · exact Flow.pure (Flow.goes_plain rfl) (fun _ _ _ h => h) fun a L s w' hC hL hn hs hd => ⟨_, op_f165_1 rfl (hd 6 11 (by kernel_rfl)) w', rfl⟩
  · refine Flow.pure (Flow.goes_plain rfl) (fun _ _ _ h => h) fun a L s w' hC hL hn hs hd => ?_
    skip
    exact ⟨_, op_idx29 rfl (hd 7 12 (by kernel_rfl)) (hd 5 10 (by kernel_rfl)) (by omega) w', rfl⟩
  · refine Flow.pure (Flow.goes_plain rfl) (fun _ _ _ h => h) fun a L s w' hC hL hn hs hd => ?_
    skip
    exact ⟨_, op_load3 rfl (hd 8 13 (by kernel_rfl)) (((unhide HH).below hC.1).bank hi), rfl⟩
  · refine Flow.call (Flow.goes_plain rfl) fun a L s0 w' hC hL hn hs hd => ⟨78, _, op_call78 rfl (hd 3 8 (by kernel_rfl)) (hd 9 14 (by kernel_rfl)) rfl w', (unhide (HR w' hC.1)).mono ?_⟩
    rintro e w'' ⟨rfl, hb, hs2⟩
    exact ⟨_, (), rfl, fun _ _ _ h => h, ⟨hC.1.trans (hb.mono hC.1.size), hs2.trans hC.2⟩, rfl⟩
  · exact Flow.move (Flow.goes_plain rfl) (fun _ _ _ h => h) (.inr rfl) fun a s w' hs hd => (hd 10 15 (by kernel_rfl))
  · intro L _ w2 hC hL vals hv
    have e11 : vals 11 = .int .i64 (r : Int) := hv 11 _ 4 rfl rfl
    simp only [Free.putAll, Act.put, List.setIfInBounds_toArray, List.set_cons_succ, List.set_cons_zero, e11]
    have HB := hide hC
    clear hC hL hv e11
    generalize vals 0 = t0 at *
    generalize vals 1 = t1 at *
    generalize vals 2 = t2 at *
    generalize vals 3 = t3 at *
    generalize vals 4 = t4 at *
    generalize vals 5 = t5 at *
    generalize vals 6 = t6 at *
    generalize vals 7 = t7 at *
    generalize vals 8 = t8 at *
    generalize vals 9 = t9 at *
    generalize vals 10 = t10 at *
    go_wp2
    go_ret
    exact ⟨rfl, unhide HB⟩
set_option maxHeartbeats 800000 in
set_option maxRecDepth 100000 in
theorem left_walk (h : Jour F D w q m p d x j) : Calls Tryz.prog 77 #[.pointer (some ⟨q, 0, none⟩)] w fun e w' => e = .returned (.int .i64 (leftJ x.sz j)) ∧ Below w.heap.size w w' ∧ w'.heap.size = w.heap.size := by
  have HH := hide h
  have hc6 := h.arr.cell (i := 6) rfl
  unfold leftJ
  cases hr : j.ready with
  | false =>
    rw [hr] at hc6
    rw [if_neg (by decide)]
    clear h
    go_enter Tryz.func77, Tryz.ntmps77
    go_wp2
    go_ret
    exact ⟨rfl, Below.refl _ _, rfl⟩
  | true =>
    rw [hr] at hc6
    rw [if_pos rfl]
    have HR : ∀ w', Below w.heap.size w w' → Hid (Calls Tryz.prog 108 #[.pointer (some ⟨q, 0, none⟩), .int .i64 (j.inn : Int)] w' fun e w2 => e = .returned (.int .i64 (roomJ x.sz j j.inn : Int)) ∧ Below w'.heap.size w' w2 ∧ w2.heap.size = w'.heap.size) := fun w' hb => hide (room_walk (h.below hb) j.inn h.ok.inn)
    have hrl := roomJ_le (j := j) h.map j.inn
    have hnl := h.next
    clear h hr
    generalize roomJ x.sz j j.inn = r at *
    obtain ⟨z, hz⟩ : ∃ z : Int, z = (r : Int) - (j.next : Int) := ⟨_, rfl⟩
    rw [← hz]
    go_enter Tryz.func77, Tryz.ntmps77
    go_wp2_with fail
    refine Flow.wp_region (Flow.VV (fun ix => match ix with | 0 => .pointer (some ⟨q, 0, none⟩) | 1 => .pointer (some ⟨q, 0, none⟩) | 2 => .pointer (some ⟨q, 0, none⟩) | 3 => .pointer (some ⟨q, 3, none⟩) | 4 => .int .i64 (j.inn : Int) | 5 => .int .i64 (r : Int) | 6 => .pointer (some ⟨q, 0, none⟩) | 7 => .pointer (some ⟨q, 0, none⟩) | 8 => .pointer (some ⟨q, 5, none⟩) | 9 => .int .i64 (j.next : Int) | 10 => .int .i64 z | 11 => .int .i64 z | _ => undef)) (fun _ (_ : Unit) w' => Below w.heap.size w w' ∧ w'.heap.size = w.heap.size) () (by kernel_rfl) (by kernel_rfl) ⟨(Below.refl _ w).drew, rfl⟩ ⟨?_, ?_, ?_, ?_, ?_, ?_, ?_, ?_, ?_, ?_, ?_, ?_, trivial⟩ ?_
    · exact Flow.move (Flow.goes_plain rfl) (fun _ _ _ h => h) (.inl rfl) fun a s w' hs hd => (hs 0 (by kernel_rfl))
    · exact Flow.move (Flow.goes_plain rfl) (fun _ _ _ h => h) (.inl rfl) fun a s w' hs hd => (hs 0 (by kernel_rfl))
    · exact Flow.pure (Flow.goes_plain rfl) (fun _ _ _ h => h) fun a L s w' hC hL hn hs hd => ⟨_, op_nil rfl (hd 1 9 (by kernel_rfl)) w', rfl⟩
    · exact Flow.pure (Flow.goes_plain rfl) (fun _ _ _ h => h) fun a L s w' hC hL hn hs hd => ⟨_, op_f165_2 rfl (hd 2 10 (by kernel_rfl)) w', rfl⟩
    · refine Flow.pure (Flow.goes_plain rfl) (fun _ _ _ h => h) fun a L s w' hC hL hn hs hd => ?_
      skip
      exact ⟨_, op_load3 rfl (hd 3 11 (by kernel_rfl)) (((unhide HH).below hC.1).arr.cell (i := 3) rfl), rfl⟩
    · refine Flow.call (Flow.goes_plain rfl) fun a L s0 w' hC hL hn hs hd => ⟨108, _, op_call108 rfl (hd 0 8 (by kernel_rfl)) (hd 4 12 (by kernel_rfl)) rfl w', (unhide (HR w' hC.1)).mono ?_⟩
      rintro e w'' ⟨rfl, hb, hs2⟩
      exact ⟨_, (), rfl, fun _ _ _ h => h, ⟨hC.1.trans (hb.mono hC.1.size), hs2.trans hC.2⟩, rfl⟩
    · exact Flow.move (Flow.goes_plain rfl) (fun _ _ _ h => h) (.inl rfl) fun a s w' hs hd => (hs 0 (by kernel_rfl))
    · exact Flow.pure (Flow.goes_plain rfl) (fun _ _ _ h => h) fun a L s w' hC hL hn hs hd => ⟨_, op_nil rfl (hd 6 14 (by kernel_rfl)) w', rfl⟩
    · exact Flow.pure (Flow.goes_plain rfl) (fun _ _ _ h => h) fun a L s w' hC hL hn hs hd => ⟨_, op_f165_4 rfl (hd 7 15 (by kernel_rfl)) w', rfl⟩
    · refine Flow.pure (Flow.goes_plain rfl) (fun _ _ _ h => h) fun a L s w' hC hL hn hs hd => ?_
      skip
      exact ⟨_, op_load3 rfl (hd 8 16 (by kernel_rfl)) (((unhide HH).below hC.1).arr.cell (i := 5) rfl), rfl⟩
    · refine Flow.pure (Flow.goes_plain rfl) (fun _ _ _ h => h) fun a L s w' hC hL hn hs hd => ?_
      skip
      exact ⟨_, op_sub3 rfl (hd 5 13 (by kernel_rfl)) (hd 9 17 (by kernel_rfl)) hz.symm (by omega) (by omega) w', rfl⟩
    · exact Flow.move (Flow.goes_plain rfl) (fun _ _ _ h => h) (.inr rfl) fun a s w' hs hd => (hd 10 18 (by kernel_rfl))
    · intro L _ w2 hC hL vals hv
      have e11 : vals 11 = .int .i64 z := hv 11 _ 2 rfl rfl
      simp only [Free.putAll, Act.put, List.setIfInBounds_toArray, List.set_cons_succ, List.set_cons_zero, e11]
      have HB := hide hC
      clear hC hL hv e11
      generalize vals 0 = t0 at *
      generalize vals 1 = t1 at *
      generalize vals 2 = t2 at *
      generalize vals 3 = t3 at *
      generalize vals 4 = t4 at *
      generalize vals 5 = t5 at *
      generalize vals 6 = t6 at *
      generalize vals 7 = t7 at *
      generalize vals 8 = t8 at *
      generalize vals 9 = t9 at *
      generalize vals 10 = t10 at *
      go_wp2
      go_ret
      exact ⟨rfl, unhide HB⟩
  

theorem run_min2 (a b : Int) (w : World) : (Builtin.min_ #[3, 3] 3 #[.int .i64 a, .int .i64 b]).run Tryz.prog w = .ok (.int .i64 (if b < a then b else a)) w := by
  simp [Builtin.min_, Builtin.min2]
set_option maxHeartbeats 800000 in
set_option maxRecDepth 100000 in
theorem fits_walk (h : Jour F D w q m p d x j) (n : Int) : Calls Tryz.prog 129 #[.pointer (some ⟨q, 0, none⟩), .int .i64 n] w fun e w' => e = .returned (.bool (fitsJ x.sz j n)) ∧ Below w.heap.size w w' ∧ w'.heap.size = w.heap.size := by
  have HS := fun w' => hide (size_walk8 n w')
  have h64 := sizeF_le n
  have HR0 := hide (room_walk h 0 (by omega))
  have HR1 : ∀ w', Below w.heap.size w w' → Hid (Calls Tryz.prog 108 #[.pointer (some ⟨q, 0, none⟩), .int .i64 1] w' fun e w2 => e = .returned (.int .i64 (roomJ x.sz j 1 : Int)) ∧ Below w'.heap.size w' w2 ∧ w2.heap.size = w'.heap.size) := fun w' hb => hide (room_walk (h.below hb) 1 (by omega))
  have hr0 := roomJ_le (j := j) h.map 0
  have hr1 := roomJ_le (j := j) h.map 1
  unfold fitsJ
  clear h
  generalize roomJ x.sz j 0 = r0 at *
  generalize roomJ x.sz j 1 = r1 at *
  generalize sizeF n = z at *
  have hm := fun w' => run_min2 (r0 : Int) (r1 : Int) w'
  obtain ⟨mn, hmn⟩ : ∃ mn : Int, mn = if (r1 : Int) < (r0 : Int) then (r1 : Int) else (r0 : Int) := ⟨_, rfl⟩
  rw [← hmn] at hm
  have E : Hid ((decide (0 < z) && decide (z ≤ min r0 r1)) = (decide ((0 : Int) < (z : Int)) && decide ((z : Int) ≤ mn))) := hide (by
    have e1 : (0 < z) ↔ ((0 : Int) < (z : Int)) := by omega
    have e2 : (z ≤ min r0 r1) ↔ ((z : Int) ≤ mn) := by
      rw [hmn]; split <;> omega
    rw [decide_eq_decide.2 e1, decide_eq_decide.2 e2])
  have hmb : mn ≤ 4096 := by rw [hmn]; split <;> omega
  have hma : 0 ≤ mn := by rw [hmn]; split <;> omega
  clear hmn
  by_cases h0 : 0 < z
  · have h1 : (0 : Int) < (z : Int) := by omega
    rw [decide_eq_true h1] at E
    go_enter Tryz.func129, Tryz.ntmps129
    go_wp2_with fail
    refine (unhide (HS w)).mono ?_
    rintro e w1 ⟨rfl, hw1⟩
    subst w1
    go_wp2_with fail
    refine (unhide HR0).mono ?_
    rintro e w2 ⟨rfl, hb2, hs2⟩
    have H1 := HR1 w2 hb2
    have HB2 := hide hb2
    clear hb2 HR0 HR1
    go_wp2_with fail
    refine (unhide H1).mono ?_
    rintro e w3 ⟨rfl, hb3, hs3⟩
    have HB3 := hide ((unhide HB2).trans (hb3.mono (unhide HB2).size))
    clear hb3 H1
    go_wp2
    go_ret
    exact ⟨by rw [unhide E]; simp, unhide HB3, hs3.trans hs2⟩
  · have h1 : ¬ (0 : Int) < (z : Int) := by omega
    rw [decide_eq_false h1] at E
    go_enter Tryz.func129, Tryz.ntmps129
    go_wp2_with fail
    refine (unhide (HS w)).mono ?_
    rintro e w1 ⟨rfl, hw1⟩
    subst w1
    go_wp2
    go_ret
    exact ⟨by rw [unhide E]; simp, Below.refl _ _, rfl⟩
end
end Go.Proofs.YtdfdalkcljfghaaGreat
