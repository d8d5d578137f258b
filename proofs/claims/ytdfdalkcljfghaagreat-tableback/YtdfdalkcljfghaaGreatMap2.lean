/-
  The program's device in parts, in memory: what it is made of, what stands while other things turn; the calls that only ask it. The calls that ask the program's device in parts: sizes, places, sectors; those that turn little of it.
-/
import Derived.Test.YtdfdalkcljfghaaGreatSync
import Derived.Test.YtdfdalkcljfghaaGreatOps3
namespace Go.Proofs.YtdfdalkcljfghaaGreat
open Go.RowKit

def mapV (p bb cap : Nat) (ov : Value) (x : MX) : List Value :=
  [.pointer (some ⟨p, 0, none⟩), .slice (some ⟨bb, 0, none⟩) (x.sz.length + 1) cap, .int .i64 x.who, ov]
def mapF (m bb : Nat) (ov : Value) : List Nat := m :: bb :: ov.ownBlock.toList
/-- A map without its device, block by block. -/
structure MapB (bb cap : Nat) (ov : Value) (w : World) (m p : Nat) (x : MX) : Prop where
  nodup : (mapF m bb ov).Nodup
  few : x.sz.length ≤ 16
  sum : x.sz.sum ≤ 4096
  room : x.sz.length + 1 ≤ cap
  arr : Arr w m (mapV p bb cap ov x)
  bnd : ∀ k, k ≤ x.sz.length → w.cell? ⟨bb, k, none⟩ = some (.int .i64 ((bnd x.sz k : Nat) : Int))
  ops : w.ownsRow 0 155 4 ov x.ops.length (opsV x.ops)
def MapF (F : List Nat) (w : World) (m p : Nat) (x : MX) : Prop := ∃ bb cap ov, F = mapF m bb ov ∧ MapB bb cap ov w m p x

theorem cell_same {w w' : World} {b k : Nat} (h : w'.heap[b]? = w.heap[b]?) : w'.cell? ⟨b, k, none⟩ = w.cell? ⟨b, k, none⟩ := by
  simp only [World.cell?, h]
theorem MapB.lt {bb cap : Nat} {ov : Value} {w : World} {m p : Nat} {x : MX} (h : MapB bb cap ov w m p x) : ∀ k ∈ mapF m bb ov, k < w.heap.size := by
  intro k hk
  simp only [mapF, List.mem_cons] at hk
  rcases hk with rfl | rfl | hk
  · exact h.arr.lt
  · exact lt_of_cell (h.bnd 0 (Nat.zero_le _))
  · exact (h.ops.lt k (by simpa using hk)).2
theorem MapB.same {bb cap : Nat} {ov : Value} {w w' : World} {m p : Nat} {x : MX} (h : MapB bb cap ov w m p x) (hb : ∀ k ∈ mapF m bb ov, w'.heap[k]? = w.heap[k]?) : MapB bb cap ov w' m p x :=
  { h with
    arr := h.arr.same (hb _ (by simp [mapF])), bnd := fun k hk => (cell_same (hb bb (by simp [mapF]))).trans (h.bnd k hk),
    ops := owns_same h.ops (fun k hk => hb k (by simp only [mapF, List.mem_cons]; exact .inr (.inr hk))) }
section
variable {F G D : List Nat} {w w' : World} {m p : Nat} {x : MX} {d : DM}
theorem MapF.same (h : MapF F w m p x) (hb : ∀ k ∈ F, w'.heap[k]? = w.heap[k]?) : MapF F w' m p x := by
  obtain ⟨bb, cap, ov, rfl, h⟩ := h
  exact ⟨bb, cap, ov, rfl, h.same hb⟩
theorem MapF.lt (h : MapF F w m p x) : ∀ k ∈ F, k < w.heap.size := by
  obtain ⟨bb, cap, ov, rfl, h⟩ := h
  exact h.lt
theorem MapF.below (h : MapF F w m p x) (hb : Below w.heap.size w w') : MapF F w' m p x := h.same fun k hk => hb.block k (h.lt k hk)
theorem MapF.but (h : MapF F w m p x) (hb : But G w w') (hd : ∀ k ∈ F, k ∉ G) : MapF F w' m p x := h.same fun k hk => hb.block k (h.lt k hk) (hd k hk)
theorem MapF.few (h : MapF F w m p x) : x.sz.length ≤ 16 := by
  obtain ⟨bb, cap, ov, rfl, h⟩ := h
  exact h.few
theorem MapF.sum (h : MapF F w m p x) : x.sz.sum ≤ 4096 := by
  obtain ⟨bb, cap, ov, rfl, h⟩ := h
  exact h.sum
theorem MapF.mem (h : MapF F w m p x) : m ∈ F := by
  obtain ⟨bb, cap, ov, rfl, h⟩ := h
  simp [mapF]
/-- Its device's address. -/
theorem MapF.dev (h : MapF F w m p x) : w.cell? ⟨m, 0, none⟩ = some (.pointer (some ⟨p, 0, none⟩)) := by
  obtain ⟨bb, cap, ov, rfl, h⟩ := h
  exact h.arr.cell (i := 0) rfl
theorem MapF.drew (h : MapF F w m p x) : MapF F w.drew m p x := h.same fun _ _ => rfl

/-- A map and its device. -/
structure PMap (F D : List Nat) (w : World) (m p : Nat) (d : DM) (x : MX) : Prop where
  map : MapF F w m p x
  dev : Dev D w p d
  apart : ∀ k ∈ F, k ∉ D
  fits : x.sz.sum ≤ d.kept.length
theorem PMap.below (h : PMap F D w m p d x) (hb : Below w.heap.size w w') : PMap F D w' m p d x :=
  { h with map := h.map.below hb, dev := h.dev.below hb }
theorem PMap.drew (h : PMap F D w m p d x) : PMap F D w.drew m p d x := { h with map := h.map.drew, dev := h.dev.drew }
theorem PMap.lt (h : PMap F D w m p d x) : ∀ k ∈ F ++ D, k < w.heap.size := fun k hk => by
  rcases List.mem_append.1 hk with e | e
  · exact h.map.lt k e
  · exact h.dev.lt k e
theorem PMap.but (h : PMap F D w m p d x) (hb : But G w w') (hd : ∀ k ∈ F ++ D, k ∉ G) : PMap F D w' m p d x :=
  { h with map := h.map.but hb fun k hk => hd k (by simp [hk]), dev := h.dev.but hb fun k hk => hd k (by simp [hk]) }
theorem Turns.left {F D D' : List Nat} {w w' : World} (h : Turns D D' w w') : Turns (F ++ D) (F ++ D') w w' :=
  ⟨⟨h.1.os, h.1.tape, h.1.output, h.1.size, fun k hk hn => h.1.block k hk fun e => hn (by simp [e])⟩, fun k hk => by
    rcases List.mem_append.1 hk with e | e
    · exact .inl (by simp [e])
    · rcases h.2 k e with e | e
      · exact .inl (by simp [e])
      · exact .inr e⟩
theorem Turns.right {F F' D : List Nat} {w w' : World} (h : Turns F F' w w') : Turns (F ++ D) (F' ++ D) w w' :=
  ⟨⟨h.1.os, h.1.tape, h.1.output, h.1.size, fun k hk hn => h.1.block k hk fun e => hn (by simp [e])⟩, fun k hk => by
    rcases List.mem_append.1 hk with e | e
    · rcases h.2 k e with e | e
      · exact .inl (by simp [e])
      · exact .inr e
    · exact .inl (by simp [e])⟩
/-- Its device turns. -/
theorem PMap.turnD {D' : List Nat} {d' : DM} (h : PMap F D w m p d x) (ht : Turns D D' w w') (hd : Dev D' w' p d') (hk : d'.kept.length = d.kept.length) : PMap F D' w' m p d' x ∧ Turns (F ++ D) (F ++ D') w w' :=
  ⟨{ map := h.map.but ht.1 h.apart, dev := hd, apart := ht.apart h.apart h.map.lt, fits := by rw [hk]; exact h.fits }, ht.left⟩
/-- It turns, and not its device. -/
theorem PMap.turnM {F' : List Nat} {x' : MX} (h : PMap F D w m p d x) (ht : Turns F F' w w') (hm : MapF F' w' m p x') (hs : x'.sz = x.sz) : PMap F' D w' m p d x' ∧ Turns (F ++ D) (F' ++ D) w w' :=
  ⟨{ map := hm, dev := h.dev.but ht.1 (fun k hk e => h.apart k e hk), apart := fun k hk e => ht.apart (G := D) (fun k hk e => h.apart k e hk) h.dev.lt k e hk, fits := by rw [hs]; exact h.fits }, ht.right⟩

set_option maxHeartbeats 800000 in
set_option maxRecDepth 100000 in
theorem parts_walk (h : MapF F w m p x) : Calls Tryz.prog 135 #[.pointer (some ⟨m, 0, none⟩)] w fun e w' => e = .returned (.int .i64 (x.sz.length : Int)) ∧ w' = w := by
  obtain ⟨bb, cap, ov, rfl, h⟩ := h
  have hc1 := h.arr.cell (i := 1) rfl
  have hn := h.few
  clear h
  generalize x.sz.length = n at *
  go_enter Tryz.func135, Tryz.ntmps135
  go_wp2
  go_ret
  exact ⟨by go_num, rfl⟩
set_option maxHeartbeats 800000 in
set_option maxRecDepth 100000 in
theorem device_walk (h : MapF F w m p x) : Calls Tryz.prog 31 #[.pointer (some ⟨m, 0, none⟩)] w fun e w' => e = .returned (.pointer (some ⟨p, 0, none⟩)) ∧ w' = w := by
  have hc0 := h.dev
  clear h
  go_enter Tryz.func31, Tryz.ntmps31
  go_wp2
  go_ret
  exact ⟨rfl, rfl⟩
set_option maxHeartbeats 800000 in
set_option maxRecDepth 100000 in
theorem mhas_walk (h : MapF F w m p x) (i : Int) : Calls Tryz.prog 109 #[.pointer (some ⟨m, 0, none⟩), .int .i64 i] w fun e w' => e = .returned (.bool (hasD x.sz.length i)) ∧ w' = w := by
  have HP := hide (parts_walk h)
  clear h
  by_cases h0 : 0 ≤ i
  · have E : Hid (hasD x.sz.length i = decide (i < (x.sz.length : Int))) := hide (by simp [hasD, h0])
    generalize x.sz.length = n at *
    go_enter Tryz.func109, Tryz.ntmps109
    go_wp2_with fail
    refine (unhide HP).mono ?_
    rintro e w1 ⟨rfl, hw1⟩
    subst w1
    clear HP
    go_wp2
    go_ret
    exact ⟨by rw [unhide E]; rfl, rfl⟩
  · have E : Hid (hasD x.sz.length i = false) := hide (by simp [hasD, h0])
    clear HP
    generalize x.sz.length = n at *
    go_enter Tryz.func109, Tryz.ntmps109
    go_wp2
    go_ret
    exact ⟨by rw [unhide E]; rfl, rfl⟩
end
end Go.Proofs.YtdfdalkcljfghaaGreat

namespace Go.Proofs.YtdfdalkcljfghaaGreat
open Go.RowKit

section
variable {F D : List Nat} {w : World} {m p : Nat} {x : MX} {d : DM}

set_option maxHeartbeats 800000 in
set_option maxRecDepth 100000 in
theorem msize_walk (h : MapF F w m p x) (i : Int) : Calls Tryz.prog 78 #[.pointer (some ⟨m, 0, none⟩), .int .i64 i] w fun e w' => e = .returned (.int .i64 (sizeX x.sz i : Int)) ∧ Below w.heap.size w w' ∧ w'.heap.size = w.heap.size := by
  have HH := hide (mhas_walk h i)
  cases hb : hasD x.sz.length i with
  | false =>
    have E : Hid (sizeX x.sz i = 0) := hide (by simp [sizeX, hb])
    rw [hb] at HH
    clear h hb
    go_enter Tryz.func78, Tryz.ntmps78
    go_wp2_with fail
    refine (unhide HH).mono ?_
    rintro e w1 ⟨rfl, hw1⟩
    subst w1
    clear HH
    go_wp2
    go_ret
    exact ⟨by rw [unhide E]; rfl, Below.refl _ _, rfl⟩
  | true =>
    obtain ⟨k, rfl, hk⟩ := hasD_nat hb
    have E : Hid (sizeX x.sz (k : Int) = x.sz.getD k 0) := hide (size_some hk)
    have hs1 : bnd x.sz (k + 1) = bnd x.sz k + x.sz.getD k 0 := bnd_succ hk
    have hs2 : bnd x.sz (k + 1) ≤ 4096 := Nat.le_trans (bnd_le _ _) h.sum
    have hfew := h.few
    rw [hb] at HH
    obtain ⟨bb, cap, ov, rfl, h⟩ := h
    have hc1 := h.arr.cell (i := 1) rfl
    have hb0 := h.bnd k (by omega)
    have hb1 := h.bnd (k + 1) (by omega)
    clear h hb
    rw [unhide E]
    generalize x.sz.getD k 0 = z at *
    generalize bnd x.sz (k + 1) = y1 at *
    generalize bnd x.sz k = y0 at *
    generalize x.sz.length = n at *
    go_enter Tryz.func78, Tryz.ntmps78
    go_wp2_with fail
    refine (unhide HH).mono ?_
    rintro e w1 ⟨rfl, hw1⟩
    subst w1
    clear HH
    go_wp2_with fail
    refine Flow.wp_region (Flow.VV (fun j => match j with | 0 => .pointer (some ⟨m, 0, none⟩) | 1 => .pointer (some ⟨m, 0, none⟩) | 2 => .pointer (some ⟨m, 1, none⟩) | 3 => .slice (some ⟨bb, 0, none⟩) (n + 1) cap | 4 => .int .i64 (k : Int) | 5 => .int .i64 ((k + 1 : Nat) : Int) | 6 => .pointer (some ⟨bb, k + 1, none⟩) | 7 => .int .i64 (y1 : Int) | 8 => .pointer (some ⟨m, 0, none⟩) | 9 => .pointer (some ⟨m, 0, none⟩) | 10 => .pointer (some ⟨m, 1, none⟩) | 11 => .slice (some ⟨bb, 0, none⟩) (n + 1) cap | 12 => .int .i64 (k : Int) | 13 => .pointer (some ⟨bb, k, none⟩) | 14 => .int .i64 (y0 : Int) | 15 => .int .i64 (z : Int) | 16 => .int .i64 (z : Int) | _ => undef)) (fun _ (_ : Unit) w' => w' = w.drew) () (by kernel_rfl) (by kernel_rfl) rfl ⟨?_, ?_, ?_, ?_, ?_, ?_, ?_, ?_, ?_, ?_, ?_, ?_, ?_, ?_, ?_, ?_, ?_, trivial⟩ ?_
    · exact Flow.move (Flow.goes_plain rfl) (fun _ _ _ h => h) (.inl rfl) fun a s w' hs hd => (hs 0 (by kernel_rfl))
    · refine Flow.pure (Flow.goes_plain rfl) (fun _ _ _ h => h) fun a L s w' hC hL hn hs hd => ?_
      skip
      exact ⟨_, op_nil rfl (hd 0 9 (by kernel_rfl)) w', rfl⟩
    · refine Flow.pure (Flow.goes_plain rfl) (fun _ _ _ h => h) fun a L s w' hC hL hn hs hd => ?_
      skip
      exact ⟨_, op_f146_1 rfl (hd 1 10 (by kernel_rfl)) w', rfl⟩
    · refine Flow.pure (Flow.goes_plain rfl) (fun _ _ _ h => h) fun a L s w' hC hL hn hs hd => ?_
      skip
      exact ⟨_, op_load63 rfl (hd 2 11 (by kernel_rfl)) (by rw [hC]; exact hc1), rfl⟩
    · exact Flow.move (Flow.goes_plain rfl) (fun _ _ _ h => h) (.inl rfl) fun a s w' hs hd => (hs 1 (by kernel_rfl))
    · refine Flow.pure (Flow.goes_plain rfl) (fun _ _ _ h => h) fun a L s w' hC hL hn hs hd => ?_
      skip
      exact ⟨_, op_add3 rfl (hd 4 13 (by kernel_rfl)) rfl (by omega) (by omega) (by omega) w', rfl⟩
    · refine Flow.pure (Flow.goes_plain rfl) (fun _ _ _ h => h) fun a L s w' hC hL hn hs hd => ?_
      skip
      exact ⟨_, op_idx63 rfl (hd 3 12 (by kernel_rfl)) (hd 5 14 (by kernel_rfl)) (by omega) w', rfl⟩
    · refine Flow.pure (Flow.goes_plain rfl) (fun _ _ _ h => h) fun a L s w' hC hL hn hs hd => ?_
      skip
      exact ⟨_, op_load3 rfl (hd 6 15 (by kernel_rfl)) (by rw [hC]; exact hb1), rfl⟩
    · exact Flow.move (Flow.goes_plain rfl) (fun _ _ _ h => h) (.inl rfl) fun a s w' hs hd => (hs 0 (by kernel_rfl))
    · refine Flow.pure (Flow.goes_plain rfl) (fun _ _ _ h => h) fun a L s w' hC hL hn hs hd => ?_
      skip
      exact ⟨_, op_nil rfl (hd 8 17 (by kernel_rfl)) w', rfl⟩
    · refine Flow.pure (Flow.goes_plain rfl) (fun _ _ _ h => h) fun a L s w' hC hL hn hs hd => ?_
      skip
      exact ⟨_, op_f146_1 rfl (hd 9 18 (by kernel_rfl)) w', rfl⟩
    · refine Flow.pure (Flow.goes_plain rfl) (fun _ _ _ h => h) fun a L s w' hC hL hn hs hd => ?_
      skip
      exact ⟨_, op_load63 rfl (hd 10 19 (by kernel_rfl)) (by rw [hC]; exact hc1), rfl⟩
    · exact Flow.move (Flow.goes_plain rfl) (fun _ _ _ h => h) (.inl rfl) fun a s w' hs hd => (hs 1 (by kernel_rfl))
    · refine Flow.pure (Flow.goes_plain rfl) (fun _ _ _ h => h) fun a L s w' hC hL hn hs hd => ?_
      skip
      exact ⟨_, op_idx63 rfl (hd 11 20 (by kernel_rfl)) (hd 12 21 (by kernel_rfl)) (by omega) w', rfl⟩
    · refine Flow.pure (Flow.goes_plain rfl) (fun _ _ _ h => h) fun a L s w' hC hL hn hs hd => ?_
      skip
      exact ⟨_, op_load3 rfl (hd 13 22 (by kernel_rfl)) (by rw [hC]; exact hb0), rfl⟩
    · refine Flow.pure (Flow.goes_plain rfl) (fun _ _ _ h => h) fun a L s w' hC hL hn hs hd => ?_
      skip
      exact ⟨_, op_sub3 rfl (hd 7 16 (by kernel_rfl)) (hd 14 23 (by kernel_rfl)) (by omega) (by omega) (by omega) w', rfl⟩
    · exact Flow.move (Flow.goes_plain rfl) (fun _ _ _ h => h) (.inr rfl) fun a s w' hs hd => (hd 15 24 (by kernel_rfl))
    · intro L _ w4 hC hL vals hv
      have e16 : vals 16 = .int .i64 (z : Int) := hv 16 _ 4 rfl rfl
      simp only [Free.putAll, Act.put, List.setIfInBounds_toArray, List.set_cons_succ, List.set_cons_zero, e16]
      subst w4
      clear hv hL e16
      generalize vals 0 = x0 at *
      generalize vals 1 = x1 at *
      generalize vals 2 = x2 at *
      generalize vals 3 = x3 at *
      generalize vals 4 = x4 at *
      generalize vals 5 = x5 at *
      generalize vals 6 = x6 at *
      generalize vals 7 = x7 at *
      generalize vals 8 = x8 at *
      generalize vals 9 = x9 at *
      generalize vals 10 = x10 at *
      generalize vals 11 = x11 at *
      generalize vals 12 = x12 at *
      generalize vals 13 = x13 at *
      generalize vals 14 = x14 at *
      generalize vals 15 = x15 at *
      go_wp2
      go_ret
      exact ⟨rfl, (Below.refl _ w).drew, rfl⟩

set_option maxHeartbeats 800000 in
set_option maxRecDepth 100000 in
theorem place_walk (h : MapF F w m p x) (i j : Int) (hj : -9223372036854775808 ≤ j ∧ j ≤ 9223372036854775807) : Calls Tryz.prog 110 #[.pointer (some ⟨m, 0, none⟩), .int .i64 i, .int .i64 j] w fun e w' => e = .returned (.tuple #[.int .i64 (placeX x.sz i j).1, .int .i64 (placeX x.sz i j).2]) ∧ Below w.heap.size w w' ∧ w'.heap.size = w.heap.size := by
  have HH := hide (mhas_walk h i)
  have HS := hide (msize_walk h i)
  cases hb : hasD x.sz.length i with
  | false =>
    have E : Hid (placeX x.sz i j = (0, 71)) := hide (by unfold placeX; rw [if_pos hb])
    rw [hb] at HH
    rw [unhide E]
    clear h hb HS
    go_enter Tryz.func110, Tryz.ntmps110
    go_wp2_with fail
    refine (unhide HH).mono ?_
    rintro e w1 ⟨rfl, hw1⟩
    subst w1
    clear HH
    go_wp2
    go_ret2
    exact ⟨rfl, Below.refl _ _, rfl⟩
  | true =>
    obtain ⟨k, rfl, hk⟩ := hasD_nat hb
    rw [size_some hk] at HS
    have hfew := h.few
    by_cases h1 : j < 0
    · have E : Hid (placeX x.sz (k : Int) j = (0, 61)) := hide (by
        unfold placeX; rw [if_neg (by rw [hb]; decide), if_pos (by simp [hasD]; omega)])
      rw [hb] at HH
      rw [unhide E]
      clear h hb HS
      go_enter Tryz.func110, Tryz.ntmps110
      go_wp2_with fail
      refine (unhide HH).mono ?_
      rintro e w1 ⟨rfl, hw1⟩
      subst w1
      clear HH
      go_wp2
      go_ret2
      exact ⟨rfl, Below.refl _ _, rfl⟩
    · by_cases h2 : ((x.sz.getD k 0 : Nat) : Int) ≤ j
      · have E : Hid (placeX x.sz (k : Int) j = (0, 61)) := hide (by
          unfold placeX; rw [if_neg (by rw [hb]; decide), if_pos (by unfold hasD; rw [Int.toNat_natCast, decide_eq_false (p := j < _) (by omega)]; simp)])
        rw [hb] at HH
        rw [unhide E]
        clear h hb
        generalize x.sz.getD k 0 = z at *
        go_enter Tryz.func110, Tryz.ntmps110
        go_wp2_with fail
        refine (unhide HH).mono ?_
        rintro e w1 ⟨rfl, hw1⟩
        subst w1
        clear HH
        go_wp2_with fail
        refine (unhide HS).mono ?_
        rintro e w1 ⟨rfl, hb1, hs1⟩
        have HB := hide hb1
        clear HS hb1
        go_wp2
        go_ret2
        exact ⟨rfl, unhide HB, hs1⟩
      · obtain ⟨l, rfl⟩ : ∃ l : Nat, j = (l : Int) := ⟨j.toNat, by omega⟩
        have E : Hid (placeX x.sz (k : Int) (l : Int) = (((bnd x.sz k + l : Nat) : Int), 0)) := hide (place_some hk (by omega))
        have hs2 : bnd x.sz k + x.sz.getD k 0 ≤ 4096 := Nat.le_trans (bnd_part hk) h.sum
        rw [hb] at HH
        rw [unhide E]
        have HX : ∀ w1, Below w.heap.size w w1 → Hid (∃ bb cap, w1.cell? ⟨m, 1, none⟩ = some (.slice (some ⟨bb, 0, none⟩) (x.sz.length + 1) cap) ∧ w1.cell? ⟨bb, k, none⟩ = some (.int .i64 ((bnd x.sz k : Nat) : Int))) := fun w1 hb1 => by
          obtain ⟨bb, cap, ov, rfl, hB⟩ := h.below hb1
          exact hide ⟨bb, cap, hB.arr.cell (i := 1) rfl, hB.bnd k (by omega)⟩
        clear h hb
        generalize x.sz.getD k 0 = z at *
        generalize bnd x.sz k = y0 at *
        generalize x.sz.length = n at *
        go_enter Tryz.func110, Tryz.ntmps110
        go_wp2_with fail
        refine (unhide HH).mono ?_
        rintro e w1 ⟨rfl, hw1⟩
        subst w1
        clear HH
        go_wp2_with fail
        refine (unhide HS).mono ?_
        rintro e w1 ⟨rfl, hb1, hs1⟩
        have HB := hide hb1
        obtain ⟨bb, cap, hc1, hc2⟩ := unhide (HX w1 hb1)
        clear HS hb1 HX
        go_wp2
        go_ret2
        refine ⟨?_, unhide HB, hs1⟩
        first | rfl | (congr 4; omega) | (simp; omega)

set_option maxHeartbeats 800000 in
set_option maxRecDepth 100000 in
theorem mread_walk (h : PMap F D w m p d x) (i j : Int) (hj : -9223372036854775808 ≤ j ∧ j ≤ 9223372036854775807) : Calls Tryz.prog 79 #[.pointer (some ⟨m, 0, none⟩), .int .i64 i, .int .i64 j] w fun e w' => e = .returned (.tuple #[secV (readM d x.sz i j).1, .int .i64 (readM d x.sz i j).2]) ∧ Below w.heap.size w w' := by
  have HM := hide h
  obtain ⟨q1, q2, hq⟩ : ∃ q1 q2, placeX x.sz i j = (q1, q2) := ⟨_, _, rfl⟩
  by_cases h0 : q2 = 0
  · subst h0
    rw [show readM d x.sz i j = readD d q1 by unfold readM readG; rw [hq]; simp]
    have HL : Hid ((readD d q1).1.length = 64) := hide (by
      unfold readD
      split
      · rename_i hh
        exact getD_mem64 h.dev.ok.nowS (by rw [h.dev.ok.now]; exact (hasD_true hh).2)
      · exact zeroS_len)
    have HPL : ∀ w1, Below w.heap.size w w1 → Hid (Calls Tryz.prog 110 #[.pointer (some ⟨m, 0, none⟩), .int .i64 i, .int .i64 j] w1 fun e w' => e = .returned (.tuple #[.int .i64 q1, .int .i64 0]) ∧ Below w1.heap.size w1 w' ∧ w'.heap.size = w1.heap.size) := fun w1 hb1 => by
      have := place_walk (h.map.below hb1) i j hj
      rw [hq] at this
      exact hide this
    have HR : ∀ w1, Below w.heap.size w w1 → Hid (Calls Tryz.prog 111 #[.pointer (some ⟨p, 0, none⟩), .int .i64 q1] w1 fun e w' => e = .returned (.tuple #[secV (readD d q1).1, .int .i64 (readD d q1).2]) ∧ Below w1.heap.size w1 w') := fun w1 hb1 => hide (read_walk (h.dev.below hb1) q1)
    clear h hq
    generalize (readD d q1).1 = sec at *
    generalize (readD d q1).2 = e2 at *
    go_enter Tryz.func79, Tryz.ntmps79
    go_wp2_with (refine wpList_alloc 136 136 (bytesV zeroS) rfl rfl alloc136 ?_)
    intro w1 hA1 hb1 hs1
    have HA1 := hide hA1
    have Hb1 := hide hb1
    have HP1 := HPL w1 hb1
    clear hA1 hb1 HPL
    go_wp2_with fail
    refine (unhide HP1).mono ?_
    rintro e w2 ⟨rfl, hb2, hs2⟩
    have Hb2 := hide ((unhide Hb1).trans (hb2.mono (by omega)))
    have HA2 := hide ((unhide HA1).keep hb2 (by omega))
    have hc0 := ((unhide HM).map.below (unhide Hb2)).dev
    have HR2 := HR w2 (unhide Hb2)
    clear HP1 hb2 HA1 Hb1 HR HM
    go_wp2_with fail
    refine (unhide HR2).mono ?_
    rintro e w3 ⟨rfl, hb3⟩
    have Hb3 := hide ((unhide Hb2).trans (hb3.mono (by omega)))
    have HA3 := hide ((unhide HA2).keep hb3 (by omega))
    have hs3 := hb3.size
    clear hb3 HA2 Hb2 HR2 hc0
    go_wp2_with (refine wpList_storeAll 136 _ _ w.heap.size (bytesV sec) (bytesV zeroS) rfl rfl rfl rfl (unhide HA3) (by rw [bytesV_length, bytesV_length, unhide HL]; rfl) (info136s (unhide HL)) (bytesV_one _) ?_)
    intro w4 hA4 hg4 hs4
    have HA4 := hide hA4
    have Hb4 := hide ((unhide Hb3).grown hg4 (by omega) (fun k hk => by simp at hk; omega))
    clear hA4 hg4
    go_wp2
    refine bodyPost_ret (v := .tuple #[secV sec, .int .i64 e2]) ?_ rfl ⟨rfl, unhide Hb4⟩
    exact results_two Tryz.results79 rfl rfl (unhide HA4) Tryz.underlying136 rfl (info136s (unhide HL))
  · rw [show readM d x.sz i j = (zeroS, q2) by unfold readM readG; rw [hq]; simp [h0]]
    have HPL : ∀ w1, Below w.heap.size w w1 → Hid (Calls Tryz.prog 110 #[.pointer (some ⟨m, 0, none⟩), .int .i64 i, .int .i64 j] w1 fun e w' => e = .returned (.tuple #[.int .i64 q1, .int .i64 q2]) ∧ Below w1.heap.size w1 w' ∧ w'.heap.size = w1.heap.size) := fun w1 hb1 => by
      have := place_walk (h.map.below hb1) i j hj
      rw [hq] at this
      exact hide this
    clear h hq HM
    go_enter Tryz.func79, Tryz.ntmps79
    go_wp2_with (refine wpList_alloc 136 136 (bytesV zeroS) rfl rfl alloc136 ?_)
    intro w1 hA1 hb1 hs1
    have HA1 := hide hA1
    have Hb1 := hide hb1
    have HP1 := HPL w1 hb1
    clear hA1 hb1 HPL
    go_wp2_with fail
    refine (unhide HP1).mono ?_
    rintro e w2 ⟨rfl, hb2, hs2⟩
    have Hb2 := hide ((unhide Hb1).trans (hb2.mono (by omega)))
    have HA2 := hide ((unhide HA1).keep hb2 (by omega))
    clear HP1 hb2 HA1 Hb1
    go_wp2_with (first
        | refine wpList_build 136 _ (bytesV zeroS) [] rfl rfl rfl built136 ?_
        | refine wpList_storeAll 136 _ _ w.heap.size (bytesV zeroS) (bytesV zeroS) rfl rfl rfl rfl (unhide HA2) rfl (info136s zeroS_len) (bytesV_one _) ?_)
    intro w4 hA4 hg4 hs4
    have HA4 := hide hA4
    have Hb4 := hide ((unhide Hb2).grown hg4 (by omega) (fun k hk => by simp at hk; omega))
    clear hA4 hg4
    go_wp2
    refine bodyPost_ret (v := .tuple #[secV zeroS, .int .i64 q2]) ?_ rfl ⟨rfl, unhide Hb4⟩
    exact results_two Tryz.results79 rfl rfl (unhide HA4) Tryz.underlying136 rfl (info136s zeroS_len)

set_option maxHeartbeats 800000 in
set_option maxRecDepth 100000 in
theorem msync_walk (h : PMap F D w m p d x) (hlen : d.wait.length ≤ 1000000) :
    Calls Tryz.prog 147 #[.pointer (some ⟨m, 0, none⟩)] w fun e w' => e = .returned (.int .i64 (syncD d).1) ∧ ∃ D', PMap F D' w' m p (syncD d).2 x ∧ Turns (F ++ D) (F ++ D') w w' := by
  have HM := hide h
  have hc0 := h.map.dev
  have HS := hide (sync_walk h.dev hlen)
  have HL := hide (sync_len d)
  clear h
  generalize syncD d = sd at *
  obtain ⟨e1, d1⟩ := sd
  go_enter Tryz.func147, Tryz.ntmps147
  go_wp2_with fail
  refine (unhide HS).mono ?_
  rintro e w1 ⟨rfl, D', hD, hT⟩
  have HQ := hide ((unhide HM).turnD hT hD (unhide HL))
  clear hD hT HS hc0 HM
  go_wp2
  go_ret
  exact ⟨rfl, D', (unhide HQ).1, (unhide HQ).2⟩

theorem MapB.as {bb cap : Nat} {ov : Value} (h : MapB bb cap ov w m p x) (b : Int) : MapB bb cap ov (w.setCell ⟨m, 2, none⟩ (.int .i64 b)) m p (x.as b) := by
  have hn := h.nodup
  simp only [mapF, List.nodup_cons, List.mem_cons, not_or] at hn
  refine { h with arr := ?_, bnd := fun k hk => ?_, ops := ?_ }
  · exact h.arr.set 2 _
  · exact (cell_same (Below.heap_setCell _ _ _ _ (fun e => hn.1.1 e.symm))).trans (h.bnd k hk)
  · exact owns_same h.ops fun k hk => Below.heap_setCell _ _ _ _ (fun e => hn.1.2 ((show k = m from e) ▸ hk))
theorem MapB.told {bb cap : Nat} {ov : Value} (h : MapB bb cap ov w m p x) : MapB bb cap (.slice none 0 0) (w.setCell ⟨m, 3, none⟩ (.slice none 0 0)) m p x.told := by
  have hn := h.nodup
  simp only [mapF, List.nodup_cons, List.mem_cons, not_or] at hn
  refine { h with nodup := ?_, arr := ?_, bnd := fun k hk => ?_, ops := ?_ }
  · simp only [mapF, Value.ownBlock, Option.toList, List.nodup_cons, List.mem_cons, not_or]
    exact ⟨⟨hn.1.1, by simp⟩, by simp, by simp⟩
  · exact h.arr.set 3 _
  · exact (cell_same (Below.heap_setCell _ _ _ _ (fun e => hn.1.1 e.symm))).trans (h.bnd k hk)
  · exact World.ownsRow_nil _ 0 155 4
set_option maxHeartbeats 800000 in
set_option maxRecDepth 100000 in
/-- 'Ops': what was done; the map has none of it then, nor the block in which it lies. -/
theorem ops_walk (h : MapF F w m p x) :
    Calls Tryz.prog 40 #[.pointer (some ⟨m, 0, none⟩)] w fun e w' => ∃ ov F', e = .returned ov ∧ w'.ownsRow 0 155 4 ov x.ops.length (opsV x.ops) ∧ MapF F' w' m p x.told ∧ Turns F F' w w' ∧ w'.heap.size = w.heap.size ∧ ∀ k ∈ ov.ownBlock.toList, k ∈ F ∧ k ∉ F' := by
  have HMem := hide h.mem
  obtain ⟨bb, cap, ov, rfl, h⟩ := h
  obtain ⟨a, c0, rfl, _, _⟩ := owns_slice h.ops
  have HA := hide h.told
  have HN := hide h.nodup
  have HO := hide h.ops
  have hc3 := h.arr.cell (i := 3) rfl
  have hf3 := h.arr.free 3
  clear h
  generalize x.ops.length = n at *
  go_enter Tryz.func40, Tryz.ntmps40
  go_wp2
  go_ret
  have hn := unhide HN
  simp only [mapF, List.nodup_cons, List.mem_cons, not_or] at hn
  refine ⟨_, _, rfl, ?_, ⟨bb, cap, _, rfl, unhide HA⟩, ⟨But.of_grown (set_grown _ _ _ _) (unhide HMem), ?_⟩, set_size _ _ _, ?_⟩
  · exact owns_same (unhide HO) fun k hk => Below.heap_setCell _ _ _ _ (fun e => hn.1.2 ((show k = m from e) ▸ hk))
  · intro k hk
    simp only [mapF, Value.ownBlock, Option.toList, List.mem_cons, List.not_mem_nil, or_false] at hk ⊢
    rcases hk with e | e
    · exact .inl (.inl e)
    · exact .inl (.inr (.inl e))
  · intro k hk
    refine ⟨by simp only [mapF, List.mem_cons]; exact .inr (.inr hk), ?_⟩
    simp only [mapF, Value.ownBlock, Option.toList, List.mem_cons, List.not_mem_nil, or_false, not_or]
    exact ⟨fun e => hn.1.2 (e ▸ hk), fun e => hn.2.1 (e ▸ hk)⟩
end
end Go.Proofs.YtdfdalkcljfghaaGreat
