/-
  What the document's map tells; two lists of operations held against each other; whether parts can be.
-/
import Derived.Test.YtlgknllcnkainaaRMLoop
namespace Go.Proofs.Ytlgknllcnkainaa
open Go.RowKit

section
variable {N sc : Nat} {sa : Option Addr} {F D : List Nat} {w w' : World} {m p : Nat} {x : MX} {r : RM}
theorem RMapB.told {ov : Value} (h : RMapB N sa sc ov w m p x) : RMapB N sa sc (.slice none 0 0) (w.setCell ⟨m, 3, none⟩ (.slice none 0 0)) m p x.told := by
  have hm : N ≤ m := h.above m (by simp [opsF])
  refine { ob := { apart := by simp [Value.ownBlock], arr := h.ob.arr.set 3 _, ops := World.ownsRow_nil _ 0 39 4 }, few := h.few, sum := h.sum, row := h.row.below ((Below.refl N w).setCell (p := ⟨m, 3, none⟩) hm _), above := ?_ }
  intro k hk
  simp only [opsF, Value.ownBlock, Option.toList, List.mem_cons, List.not_mem_nil, or_false] at hk
  rw [hk]; exact hm
set_option maxHeartbeats 800000 in
set_option maxRecDepth 100000 in
theorem tell_walk (h : RMapF N sa sc F w m p x) :
    Calls Try.prog 32 #[.pointer (some ⟨m, 0, none⟩)] w fun e w' => ∃ ov F', e = .returned ov ∧ w'.ownsRow 0 39 4 ov x.ops.length (opsV x.ops) ∧ RMapF N sa sc F' w' m p x.told ∧ Turns F F' w w' ∧ w'.heap.size = w.heap.size ∧ ∀ k ∈ ov.ownBlock.toList, k ∈ F ∧ k ∉ F' := by
  obtain ⟨ov, rfl, h⟩ := h
  obtain ⟨a, c0, rfl, _, _⟩ := owns_slice h.ob.ops
  have HA := hide h.told
  have HN := hide h.ob.apart
  have HO := hide h.ob.ops
  have hc3 := h.ob.arr.cell (i := 3) rfl
  have hf3 := h.ob.arr.free 3
  clear h
  generalize x.ops.length = n at *
  go_enter Try.func32, Try.ntmps32
  go_wp2
  go_ret
  refine ⟨_, _, rfl, ?_, ⟨_, rfl, unhide HA⟩, ⟨But.of_grown (set_grown _ _ _ _) (by simp [opsF]), ?_⟩, set_size _ _ _, ?_⟩
  · exact owns_same (unhide HO) fun k hk => Below.heap_setCell _ _ _ _ (fun e => unhide HN ((show k = m from e) ▸ hk))
  · intro k hk
    simp only [opsF, Value.ownBlock, Option.toList, List.mem_cons, List.not_mem_nil, or_false] at hk ⊢
    exact .inl (.inl hk)
  · intro k hk
    refine ⟨by simp only [opsF, List.mem_cons]; exact .inr hk, ?_⟩
    simp only [opsF, Value.ownBlock, Option.toList, List.mem_cons, List.not_mem_nil, or_false]
    exact fun e => unhide HN (e ▸ hk)
theorem RPMap.as (h : RPMap N sa sc F D w m p r x) (b : Int) : RPMap N sa sc F D (w.setCell ⟨m, 2, none⟩ (.int .i64 b)) m p r (x.as b) ∧ Turns (F ++ D) (F ++ D) w (w.setCell ⟨m, 2, none⟩ (.int .i64 b)) := by
  obtain ⟨ov, hF, hB⟩ := h.map
  have hmF : m ∈ F := by rw [hF]; simp [opsF]
  have hm : N ≤ m := h.map.above m hmF
  refine h.turnM (F' := F) ⟨But.of_grown (set_grown _ _ _ _) hmF, fun _ h => .inl h⟩ ⟨ov, hF, ?_⟩ rfl
  exact { ob := { apart := hB.ob.apart, arr := hB.ob.arr.set 2 _, ops := owns_same hB.ob.ops fun k hk => Below.heap_setCell _ _ _ _ (fun e => hB.ob.apart ((show k = m from e) ▸ hk)) }, few := hB.few, sum := hB.sum, row := hB.row.below ((Below.refl N w).setCell (p := ⟨m, 2, none⟩) hm _), above := hB.above }
end

theorem ops_range {w : World} {v : Value} {l : List OpT} (h : w.ownsRow 0 39 4 v l.length (opsV l)) {j : Nat} (hj : j < l.length) : ∃ g c, v = .slice (some ⟨g, 0, none⟩) l.length c ∧ g < w.heap.size ∧ w.rangeAt g (j * 4) (opV (l.getD j (0, 0, 0, 0))) := by
  rcases h.2 with ⟨_, h0⟩ | ⟨g, cap, cur, rfl, _, hh, _, _⟩
  · omega
  · refine ⟨g, cap, rfl, (Array.getElem?_eq_some_iff.1 hh).1, fun i u hi => ?_⟩
    have := h.cells (g := g) rfl _ u (opsV_range hj i u hi)
    rw [Addr.add_mid, Nat.zero_add] at this
    exact this

set_option maxHeartbeats 800000 in
set_option maxRecDepth 100000 in
theorem same_walk (w : World) (v1 v2 : Value) (l : List OpT) (h1 : w.ownsRow 0 39 4 v1 l.length (opsV l)) (h2 : w.ownsRow 0 39 4 v2 l.length (opsV l)) (hlen : l.length ≤ 1000000) :
    Calls Try.prog 31 #[v1, v2] w fun e w' => e = .returned (.bool true) ∧ Below w.heap.size w w' := by
  obtain ⟨a1, c1, hv1, _, _⟩ := owns_slice h1
  obtain ⟨a2, c2, hv2, _, _⟩ := owns_slice h2
  have HX : Hid (∀ j, j < l.length → ∃ g1 g2 r, a1 = some ⟨g1, 0, none⟩ ∧ a2 = some ⟨g2, 0, none⟩ ∧ g1 < w.heap.size ∧ g2 < w.heap.size ∧ w.rangeAt g1 (j * 4) (opV r) ∧ w.rangeAt g2 (j * 4) (opV r)) := hide fun j hj => by
    obtain ⟨g1, k1, e1, q1, r1⟩ := ops_range h1 hj
    obtain ⟨g2, k2, e2, q2, r2⟩ := ops_range h2 hj
    rw [hv1] at e1
    rw [hv2] at e2
    simp only [Value.slice.injEq] at e1 e2
    exact ⟨g1, g2, _, e1.1, e2.1, q1, q2, r1, r2⟩
  subst hv1
  subst hv2
  clear h1 h2
  generalize l.length = n at *
  go_enter Try.func31, Try.ntmps31
  go_wp2
  go_loopw [13] (fun ci wr => ∃ j : Nat, j ≤ n ∧ ci = .int .i64 (j : Int) ∧ Below w.heap.size w wr) (fun ci _ => n - (intOf ci).toNat)
  case atStart => exact ⟨0, by omega, rfl, Below.refl _ _⟩
  case round =>
    obtain ⟨i0, hi0, rfl, hb⟩ := hrel
    have Hb := hide hb
    clear hb
    by_cases hlt : i0 < n
    · obtain ⟨g1, g2, r, rfl, rfl, hg1, hg2, hr1, hr2⟩ := unhide HX i0 hlt
      have HR1 : Hid (wr.rangeAt g1 (i0 * 4) (opV r)) := hide fun i u hi => ((unhide Hb).cell (p := ⟨g1, i0 * 4 + i, none⟩) hg1).trans (hr1 i u hi)
      have HR2 : Hid (wr.rangeAt g2 (i0 * 4) (opV r)) := hide fun i u hi => ((unhide Hb).cell (p := ⟨g2, i0 * 4 + i, none⟩) hg2).trans (hr2 i u hi)
      clear hg1 hg2 hr1 hr2 HX
      go_wp2_with fail
      refine Flow.wp_region (Flow.VV (fun j => match j with | 0 => .slice (some ⟨g1, 0, none⟩) n c1 | 1 => .int .i64 (i0 : Int) | 2 => .pointer (some ⟨g1, i0 * 4, none⟩) | 3 => .agg (opV r).toArray | 4 => .slice (some ⟨g2, 0, none⟩) n c2 | 5 => .int .i64 (i0 : Int) | 6 => .pointer (some ⟨g2, i0 * 4, none⟩) | 7 => .agg (opV r).toArray | 8 => .bool false | _ => undef)) (fun _ (_ : Unit) w' => w' = wr.drew) () (by kernel_rfl) (by kernel_rfl) rfl ⟨?_, ?_, ?_, ?_, ?_, ?_, ?_, ?_, ?_, trivial⟩ ?_
      · exact Flow.move (Flow.goes_plain rfl) (fun _ _ _ h => h) (.inl rfl) fun a s w' hs hd => (hs 0 (by kernel_rfl))
      · exact Flow.move (Flow.goes_plain rfl) (fun _ _ _ h => h) (.inl rfl) fun a s w' hs hd => (hs 5 (by kernel_rfl))
      · refine Flow.pure (Flow.goes_plain rfl) (fun _ _ _ h => h) fun a L s w' hC hL hn hs hd => ?_
        skip
        exact ⟨_, op_idx36 rfl (hd 0 16 (by kernel_rfl)) (hd 1 17 (by kernel_rfl)) hlt w', rfl⟩
      · refine Flow.pure (Flow.goes_plain rfl) (fun _ _ _ h => h) fun a L s w' hC hL hn hs hd => ?_
        skip
        exact ⟨_, op_load39 rfl (hd 2 18 (by kernel_rfl)) (by rw [hC]; exact unhide HR1), rfl⟩
      · exact Flow.move (Flow.goes_plain rfl) (fun _ _ _ h => h) (.inl rfl) fun a s w' hs hd => (hs 1 (by kernel_rfl))
      · exact Flow.move (Flow.goes_plain rfl) (fun _ _ _ h => h) (.inl rfl) fun a s w' hs hd => (hs 5 (by kernel_rfl))
      · refine Flow.pure (Flow.goes_plain rfl) (fun _ _ _ h => h) fun a L s w' hC hL hn hs hd => ?_
        skip
        exact ⟨_, op_idx36 rfl (hd 4 20 (by kernel_rfl)) (hd 5 21 (by kernel_rfl)) hlt w', rfl⟩
      · refine Flow.pure (Flow.goes_plain rfl) (fun _ _ _ h => h) fun a L s w' hC hL hn hs hd => ?_
        skip
        exact ⟨_, op_load39 rfl (hd 6 22 (by kernel_rfl)) (by rw [hC]; exact unhide HR2), rfl⟩
      · refine Flow.pure (Flow.goes_plain rfl) (fun _ _ _ h => h) fun a L s w' hC hL hn hs hd => ?_
        skip
        exact ⟨_, op_neq39 rfl (hd 3 19 (by kernel_rfl)) (hd 7 23 (by kernel_rfl)) (by simp) w', rfl⟩
      · intro L _ w4 hC hL vals hv
        have e8 : vals 8 = .bool false := hv 8 _ 24 rfl rfl
        simp only [Free.putAll, Act.put, List.setIfInBounds_toArray, List.set_cons_succ, List.set_cons_zero, e8]
        have Hb4 : Hid (Below w.heap.size w w4) := hide (by rw [hC]; exact (unhide Hb).drew)
        clear hv hL e8 hC HR1 HR2 Hb
        generalize vals 0 = x0 at *
        generalize vals 1 = x1 at *
        generalize vals 2 = x2 at *
        generalize vals 3 = x3 at *
        generalize vals 4 = x4 at *
        generalize vals 5 = x5 at *
        generalize vals 6 = x6 at *
        generalize vals 7 = x7 at *
        go_wp2
        go_roundw
        case rel => exact ⟨i0 + 1, by omega, by go_num, unhide Hb4⟩
        case measure => simp [intOf]; omega
    · obtain rfl : i0 = n := by omega
      clear HX
      go_wp2
      go_ret
      exact ⟨rfl, unhide Hb⟩

theorem right_end {n : Nat} {l : List Int} (h : ∀ z ∈ l, 1 ≤ z) : rightD n l = (decide (1 ≤ l.length) && decide (l.length ≤ 16) && decide (((bnd (l.map Int.toNat) l.length : Nat) : Int) ≤ (n : Int))) := by
  have e := bnd_map (l := l) (k := l.length) (fun z hz => h z (List.mem_of_mem_take hz))
  rw [List.take_length] at e
  have ha : l.all (fun z => decide (1 ≤ z)) = true := List.all_eq_true.2 fun z hz => decide_eq_true (h z hz)
  unfold rightD
  rw [e, ha, Bool.and_true]
set_option maxHeartbeats 1600000 in
set_option maxRecDepth 100000 in
theorem right_walk (w : World) (s : Nat) (hs : s ≤ 40) (a : Option Addr) (len cap : Nat) (l : List Int) (hR : IRow w.heap.size w a len l) (hlen : len ≤ 20) :
    Calls Try.prog 16 #[.int .i64 (s : Int), .slice a len cap] w fun e w' => e = .returned (.bool (rightD s l)) ∧ w' = w := by
  have HR := hide hR
  have HLL := hide hR.1
  clear hR
  go_enter Try.func16, Try.ntmps16
  go_wp2
  go_loopw [5, 10] (fun cs ci wr => ∃ k : Nat, k ≤ len ∧ ci = .int .i64 (k : Int) ∧ cs = .int .i64 ((bnd (l.map Int.toNat) k : Nat) : Int) ∧ wr = w ∧ Hid (∀ z ∈ l.take k, 1 ≤ z) ∧ bnd (l.map Int.toNat) k ≤ 40 * k) (fun _ ci _ => len - (intOf ci).toNat)
  case atStart => exact ⟨0, by omega, rfl, by rw [bnd_zero]; rfl, rfl, hide (by intro z hz; simp at hz), by rw [bnd_zero]; omega⟩
  case round =>
    obtain ⟨k, hk, rfl, rfl, hw, HZ, hbd⟩ := hrel
    subst hw
    by_cases hlt : k < len
    · obtain ⟨b, off, rfl, _, hcell⟩ := (unhide HR).2 k hlt
      have hkl : k < l.length := by rw [unhide HLL]; exact hlt
      by_cases hlow : l.getD k 0 < 1
      · have HF : Hid (rightD s l = false) := hide (right_low hkl hlow)
        clear HZ hkl
        generalize bnd (l.map Int.toNat) k = y at *
        generalize l.getD k 0 = z at *
        go_wp2
        go_ret
        exact ⟨by rw [unhide HF]; rfl, rfl⟩
      · by_cases hhigh : (s : Int) < l.getD k 0
        · have HF : Hid (rightD s l = false) := hide (right_high hkl (by omega))
          clear HZ hkl
          generalize bnd (l.map Int.toNat) k = y at *
          generalize l.getD k 0 = z at *
          go_wp2
          go_ret
          exact ⟨by rw [unhide HF]; rfl, rfl⟩
        · have hbs : bnd (l.map Int.toNat) (k + 1) = bnd (l.map Int.toNat) k + (l.getD k 0).toNat := by
            rw [bnd_succ (by rw [List.length_map]; exact hkl), map_getD]
          have HB2 : Hid (bnd (l.map Int.toNat) (k + 1) ≤ 40 * (k + 1)) := hide (by omega)
          have HE2 : Hid (((bnd (l.map Int.toNat) (k + 1) : Nat) : Int) = ((bnd (l.map Int.toNat) k : Nat) : Int) + l.getD k 0) := hide (by omega)
          have HZ2 : Hid (∀ z ∈ l.take (k + 1), 1 ≤ z) := hide (fun z hz => by
            rw [List.take_add_one, List.mem_append] at hz
            rcases hz with hz | hz
            · exact unhide HZ z hz
            · rw [List.getElem?_eq_getElem hkl] at hz
              simp at hz
              have : l.getD k 0 = z := by rw [List.getD_eq_getElem?_getD, List.getElem?_eq_getElem hkl]; exact hz.symm
              omega)
          clear HZ hkl hbs
          generalize bnd (l.map Int.toNat) k = y at *
          generalize l.getD k 0 = z at *
          go_wp2
          go_roundw
          case rel =>
            refine ⟨k + 1, by omega, by go_num, ?_, by first | rfl | trivial, HZ2, unhide HB2⟩
            rw [unhide HE2]
          case measure => simp [intOf]; omega
    · obtain rfl : k = len := by omega
      have hE : rightD s l = (decide (1 ≤ k) && decide (k ≤ 16) && decide (((bnd (l.map Int.toNat) k : Nat) : Int) ≤ (s : Int))) := by
        have h3 : ∀ z ∈ l, 1 ≤ z := by
          have := unhide HZ
          rw [← unhide HLL, List.take_length] at this
          exact this
        have := right_end (n := s) h3
        rw [unhide HLL] at this
        exact this
      have HE := hide hE
      clear hE HZ HR HLL
      generalize bnd (l.map Int.toNat) k = y at *
      by_cases c1 : 1 ≤ k
      · by_cases c2 : k ≤ 16
        · go_wp2
          go_ret
          refine ⟨?_, rfl⟩
          rw [unhide HE]
          simp [c1, c2]
        · go_wp2
          go_ret
          refine ⟨?_, rfl⟩
          rw [unhide HE]
          simp [c2]
      · go_wp2
        go_ret
        refine ⟨?_, rfl⟩
        rw [unhide HE]
        simp [c1]
end Go.Proofs.Ytlgknllcnkainaa
