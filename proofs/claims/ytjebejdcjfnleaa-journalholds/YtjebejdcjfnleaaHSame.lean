/-
  Rows of texts and lists of such rows, apart from other things; bodies held against them.
-/
import Derived.Test.YtjebejdcjfnleaaHMath
import Derived.Test.YtjebejdcjfnleaaBanksWalk
namespace Go.Proofs.Ytjebejdcjfnleaa
open Go.RowKit

def strs (l : List Body) : List Value := l.map fun b => .string (tx b)
theorem strs_len (l : List Body) : (strs l).length = l.length := by simp [strs]
theorem strs_app (l m : List Body) : strs (l ++ m) = strs l ++ strs m := by simp [strs]
/-- A row of texts, in a block that is none of G. -/
def TextsV (G : List Nat) (w : World) (v : Value) (l : List Body) : Prop := w.ownsRow 0 9 1 v l.length (strs l) ∧ ∀ k ∈ v.ownBlock.toList, k ∉ G
/-- Rows of texts. -/
def ListsV (G : List Nat) (w : World) (v : Value) (ms : List (List Body)) : Prop := ∃ vs : List Value, vs.length = ms.length ∧ w.ownsRow 0 35 1 v ms.length vs ∧ (∀ k ∈ v.ownBlock.toList, k ∉ G) ∧ ∀ i, i < ms.length → TextsV G w (vs.getD i undef) (ms.getD i [])
section
variable {G G' : List Nat} {w w' : World} {v : Value} {l : List Body} {ms : List (List Body)}
theorem TextsV.lt (h : TextsV G w v l) : ∀ k ∈ v.ownBlock.toList, k < w.heap.size := fun k hk => (h.1.lt k (by simpa using hk)).2
theorem TextsV.below (h : TextsV G w v l) (hb : Below w.heap.size w w') : TextsV G w' v l := ⟨owns_below h.1 hb, h.2⟩
theorem TextsV.turn (h : TextsV G w v l) (ht : Turns G G' w w') : TextsV G' w' v l :=
  ⟨owns_same h.1 fun k hk => ht.1.block k (h.lt k hk) (h.2 k hk), ht.apart h.2 h.lt⟩
theorem TextsV.slice (h : TextsV G w v l) : ∃ a c, v = .slice a l.length c ∧ l.length ≤ c ∧ c ≤ maxLen := owns_slice h.1
theorem TextsV.at (h : TextsV G w v l) {i : Nat} (hi : i < l.length) : ∃ g c, v = .slice (some ⟨g, 0, none⟩) l.length c ∧ g < w.heap.size ∧ w.cell? ⟨g, i, none⟩ = some (.string (tx (l.getD i []))) := by
  obtain ⟨g, c, e, _, hg, _, hc⟩ := owns_at h.1 hi
  refine ⟨g, c, e, hg, ?_⟩
  rw [hc, strs, List.getElem?_map, List.getElem?_eq_getElem hi, List.getD_eq_getElem?_getD, List.getElem?_eq_getElem hi]
  rfl
theorem own_type {B e e2 n m : Nat} {u v : Value} {xs ys : List Value} (h : w.ownsRow B e 1 u n xs) (g : w.ownsRow 0 e2 1 v m ys) (hne : e ≠ e2) : ∀ k ∈ u.ownBlock.toList, k ∉ v.ownBlock.toList := by
  intro k hk hk2
  rcases h.2 with ⟨rfl, _⟩ | ⟨a, cap, cur, rfl, _, hh, _⟩
  · simp [Value.ownBlock] at hk
  · rcases g.2 with ⟨rfl, _⟩ | ⟨b, cap2, cur2, rfl, _, hh2, _⟩
    · simp [Value.ownBlock] at hk2
    · simp only [Value.ownBlock, Option.toList, List.mem_singleton] at hk hk2
      subst hk
      subst hk2
      rw [hh] at hh2
      cases hh2
      exact hne rfl
theorem But.of_own {u : Option Nat} (h : w.grownBy w' u) : But u.toList w w' :=
  ⟨h.os, h.tape, h.output, h.size, fun k hk hn => h.block k hk fun e => hn (by rw [← e]; simp)⟩
/-- Another row grows. -/
theorem TextsV.other {e n : Nat} {u : Value} {xs : List Value} (h : TextsV G w v l) (hu : w.ownsRow 0 e 1 u n xs) (hne : e ≠ 9) (hg : w.grownBy w' u.ownBlock) : TextsV G w' v l :=
  ⟨owns_same h.1 fun k hk => (But.of_own hg).block k (h.lt k hk) (own_type h.1 hu (fun e => hne e.symm) k hk), h.2⟩
theorem ListsV.below (h : ListsV G w v ms) (hb : Below w.heap.size w w') : ListsV G w' v ms := by
  obtain ⟨vs, h1, h2, h3, h4⟩ := h
  exact ⟨vs, h1, owns_below h2 hb, h3, fun i hi => (h4 i hi).below hb⟩
theorem ListsV.turn (h : ListsV G w v ms) (ht : Turns G G' w w') : ListsV G' w' v ms := by
  obtain ⟨vs, h1, h2, h3, h4⟩ := h
  have hlt : ∀ k ∈ v.ownBlock.toList, k < w.heap.size := fun k hk => (h2.lt k (by simpa using hk)).2
  exact ⟨vs, h1, owns_same h2 fun k hk => ht.1.block k (hlt k hk) (h3 k hk), ht.apart h3 hlt, fun i hi => (h4 i hi).turn ht⟩
theorem ListsV.slice (h : ListsV G w v ms) : ∃ a c, v = .slice a ms.length c ∧ ms.length ≤ c ∧ c ≤ maxLen := by
  obtain ⟨vs, h1, h2, h3, h4⟩ := h
  exact owns_slice h2
theorem ListsV.at (h : ListsV G w v ms) {i : Nat} (hi : i < ms.length) : ∃ g c u, v = .slice (some ⟨g, 0, none⟩) ms.length c ∧ g < w.heap.size ∧ w.cell? ⟨g, i, none⟩ = some u ∧ TextsV G w u (ms.getD i []) := by
  obtain ⟨vs, h1, h2, h3, h4⟩ := h
  obtain ⟨g, c, e, _, hg, _, hc⟩ := owns_at h2 hi
  refine ⟨g, c, vs.getD i undef, e, hg, ?_, h4 i hi⟩
  rw [hc, List.getElem?_eq_getElem (by omega), List.getD_eq_getElem?_getD, List.getElem?_eq_getElem (by omega)]
  rfl
theorem ListsV.nil (G : List Nat) (w : World) : ListsV G w (.slice none 0 0) [] := ⟨[], rfl, World.ownsRow_nil w 0 35 1, by simp [Value.ownBlock], fun i hi => by simp at hi⟩
theorem Jour.apart {F D : List Nat} {q m p : Nat} {d : DM} {x : MX} {j : JX} (h : Jour F D w q m p d x j) {u : Option Nat} (hg : w.grownBy w' u) (hu : ∀ k ∈ u.toList, k ∉ q :: (F ++ D)) : Jour F D w' q m p d x j :=
  h.but (But.of_own hg) fun k hk e => hu k e hk
end
section
variable {ρ : Operand → Value} {o : Oper}
theorem op_idx35 {x y : Operand} {g off n c k : Nat} (ho : o.op = .indexAddr 35 x y) (h1 : ρ x = .slice (some ⟨g, off, none⟩) n c) (h2 : ρ y = .int .i64 (k : Int)) (hk : k < n) (w : World) :
    (execOp ρ o).run Try.prog w = .ok (.value (.pointer (some ⟨g, off + k, none⟩))) w := by
  unfold execOp
  rw [ho]
  go_simp
end
theorem tx_same (a : List UInt8) : ((tx a).toList == (tx a).toList) = true := by simp

set_option maxHeartbeats 3200000 in
set_option maxRecDepth 100000 in
/-- Bodies held against a row of texts: if they are the same, it says so. -/
theorem same_walk {B : Nat} {G : List Nat} {w : World} {v u : Value} {bs ts : List Body} (hv : BodsV B w v bs) (hu : TextsV G w u ts) (hl : ts.length ≤ 1000000) : Calls Try.prog 15 #[v, u] w fun e w' =>
    ∃ r : Bool, e = .returned (.bool r) ∧ (bs = ts → r = true) ∧ Below w.heap.size w w' := by
  have HV := hide hv
  have HU := hide hu
  obtain ⟨a1, c1, rfl, _, _⟩ := hv.slice
  obtain ⟨a2, c2, rfl, _, _⟩ := hu.slice
  clear hv hu
  obtain ⟨n, hn⟩ : ∃ n, ts.length = n := ⟨_, rfl⟩
  obtain ⟨m, hm⟩ : ∃ m, bs.length = m := ⟨_, rfl⟩
  have HN := hide hn
  have HM := hide hm
  rw [hn] at hl
  rw [hn] at HU ⊢
  rw [hm] at HV ⊢
  clear hn hm
  by_cases hne : m = n
  · subst hne
    go_enter Try.func15, Try.ntmps15
    go_wp2
    go_loopw [13] (fun ci wr => ∃ k : Nat, k ≤ m ∧ ci = .int .i64 (k : Int) ∧ Below w.heap.size w wr) (fun ci _ => m - (intOf ci).toNat)
    case atStart => exact ⟨0, by omega, rfl, Below.refl _ _⟩
    case round =>
      obtain ⟨k, hk, rfl, hb⟩ := hrel
      by_cases hlt : k < m
      · obtain ⟨g1, gc1, u1, e1, _, hg1, hc1, _, hr1⟩ := ((unhide HV).below hb).at (i := k) (by rw [unhide HM]; exact hlt)
        obtain ⟨g2, gc2, e2, hg2, hc2⟩ := ((unhide HU).below hb).at (i := k) (by rw [unhide HN]; exact hlt)
        rw [unhide HM] at e1
        rw [unhide HN] at e2
        cases e1
        cases e2
        have HB := hide hb
        have HR1 := hide hr1
        have HC1 := hide hc1
        have HC2 := hide hc2
        have HEQ : Hid (bs = ts → bs.getD k [] = ts.getD k []) := hide fun e => by rw [e]
        clear hb hr1 hc1 hc2
        generalize bs.getD k [] = x1 at *
        generalize ts.getD k [] = x2 at *
        obtain ⟨rr, hrr⟩ : ∃ rr, (!((tx x1).toList == (tx x2).toList)) = rr := ⟨_, rfl⟩
        have HRR := hide hrr
        clear hrr
        go_wp2_with fail
        refine Flow.wp_region (Flow.VV (fun ix => match ix with | 0 => .slice (some ⟨g1, 0, none⟩) m c1 | 1 => .int .i64 (k : Int) | 2 => .pointer (some ⟨g1, 0 + k, none⟩) | 3 => u1 | 4 => .string (tx x1) | 5 => .slice (some ⟨g2, 0, none⟩) m c2 | 6 => .int .i64 (k : Int) | 7 => .pointer (some ⟨g2, 0 + k, none⟩) | 8 => .string (tx x2) | 9 => .bool rr | _ => undef)) (fun _ (_ : Unit) w' => w' = wr.drew) () (by kernel_rfl) (by kernel_rfl) rfl ⟨?_, ?_, ?_, ?_, ?_, ?_, ?_, ?_, ?_, ?_, trivial⟩ ?_
        · exact Flow.move (Flow.goes_plain rfl) (fun _ _ _ h => h) (.inl rfl) fun a s w' hs hd => (hs 0 (by kernel_rfl))
        · exact Flow.move (Flow.goes_plain rfl) (fun _ _ _ h => h) (.inl rfl) fun a s w' hs hd => (hs 5 (by kernel_rfl))
        · refine Flow.pure (Flow.goes_plain rfl) (fun _ _ _ h => h) fun a L s w' hC hL hn hs hd => ?_
          skip
          exact ⟨_, op_idx24 rfl (hd 0 16 (by kernel_rfl)) (hd 1 17 (by kernel_rfl)) hlt w', rfl⟩
        · refine Flow.pure (Flow.goes_plain rfl) (fun _ _ _ h => h) fun a L s w' hC hL hn hs hd => ?_
          skip
          exact ⟨_, op_load32 rfl (hd 2 18 (by kernel_rfl)) (by rw [hC, Nat.zero_add]; exact unhide HC1), rfl⟩
        · exact Flow.pure (Flow.goes_plain rfl) (fun _ _ _ h => h) fun a L s w' hC hL hn hs hd => ⟨_, op_text (N := wr.heap.size) rfl (hd 3 19 (by kernel_rfl)) (by rw [hC]; exact unhide HR1), rfl⟩
        · exact Flow.move (Flow.goes_plain rfl) (fun _ _ _ h => h) (.inl rfl) fun a s w' hs hd => (hs 1 (by kernel_rfl))
        · exact Flow.move (Flow.goes_plain rfl) (fun _ _ _ h => h) (.inl rfl) fun a s w' hs hd => (hs 5 (by kernel_rfl))
        · refine Flow.pure (Flow.goes_plain rfl) (fun _ _ _ h => h) fun a L s w' hC hL hn hs hd => ?_
          skip
          exact ⟨_, op_idx35 rfl (hd 5 21 (by kernel_rfl)) (hd 6 22 (by kernel_rfl)) hlt w', rfl⟩
        · refine Flow.pure (Flow.goes_plain rfl) (fun _ _ _ h => h) fun a L s w' hC hL hn hs hd => ?_
          skip
          exact ⟨_, op_load9 rfl (hd 7 23 (by kernel_rfl)) (by rw [hC, Nat.zero_add]; exact unhide HC2), rfl⟩
        · exact Flow.pure (Flow.goes_plain rfl) (fun _ _ _ h => h) fun a L s w' hC hL hn hs hd => ⟨_, op_neq9 rfl (hd 4 20 (by kernel_rfl)) (hd 8 24 (by kernel_rfl)) (unhide HRR) w', rfl⟩
        · intro L _ w2 hC hL vals hv
          have e9 : vals 9 = .bool rr := hv 9 _ 25 rfl rfl
          simp only [Free.putAll, Act.put, List.setIfInBounds_toArray, List.set_cons_succ, List.set_cons_zero, e9]
          have hC' : w2 = wr.drew := hC
          subst hC'
          have HB2 : Hid (Below w.heap.size w wr.drew) := hide (unhide HB).drew
          clear hC hL hv e9 HB
          generalize vals 0 = y0 at *
          generalize vals 1 = y1 at *
          generalize vals 2 = y2 at *
          generalize vals 3 = y3 at *
          generalize vals 4 = y4 at *
          generalize vals 5 = y5 at *
          generalize vals 6 = y6 at *
          generalize vals 7 = y7 at *
          generalize vals 8 = y8 at *
          cases rr with
          | true =>
            go_wp2
            go_ret
            refine ⟨false, rfl, fun e => ?_, unhide HB2⟩
            have h1 := unhide HEQ e
            have h2 := unhide HRR
            rw [h1, tx_same] at h2
            cases h2
          | false =>
            go_wp2
            go_roundw
            case rel => exact ⟨k + 1, by omega, by go_num, unhide HB2⟩
            case measure => simp [intOf]; omega
      · have hkm : k = m := by omega
        subst hkm
        go_wp2
        go_ret
        exact ⟨true, rfl, fun _ => rfl, hb⟩
  · have hni : ((m : Int) != (n : Int)) = true := by simp; omega
    go_enter Try.func15, Try.ntmps15
    go_wp2
    go_ret
    exact ⟨false, rfl, fun e => absurd (by rw [← unhide HM, ← unhide HN, e]) hne, Below.refl _ _⟩
end Go.Proofs.Ytjebejdcjfnleaa
