/-
  The document's device in parts, in memory; its places and sectors; Erase and Program.
-/
import Derived.Test.YtlgknllcnkainaaMNew
import Derived.Test.YtlgknllcnkainaaRef4
namespace Go.Proofs.Ytlgknllcnkainaa
open Go.RowKit

/-- Sizes of parts, in a slice below block N. -/
def SRow (N : Nat) (w : World) (sa : Option Addr) (sz : List Nat) : Prop := ∀ i, i < sz.length → ∃ b off, sa = some ⟨b, off, none⟩ ∧ b < N ∧ w.cell? ⟨b, off + i, none⟩ = some (.int .i64 ((sz.getD i 0 : Nat) : Int))
theorem SRow.below {N : Nat} {w w' : World} {sa : Option Addr} {sz : List Nat} (h : SRow N w sa sz) (hb : Below N w w') : SRow N w' sa sz := fun i hi => by
  obtain ⟨b, off, ha, hl, hc⟩ := h i hi
  exact ⟨b, off, ha, hl, (hb.cell (p := ⟨b, off + i, none⟩) hl).trans hc⟩
/-- The document's map without its device. -/
structure RMapB (N : Nat) (sa : Option Addr) (sc : Nat) (ov : Value) (w : World) (m p : Nat) (x : MX) : Prop where
  ob : OpsB (.pointer (some ⟨p, 0, none⟩)) (.slice sa x.sz.length sc) ov w m x.who x.ops
  few : x.sz.length ≤ 16
  sum : x.sz.sum ≤ 4096
  row : SRow N w sa x.sz
  above : ∀ k ∈ opsF m ov, N ≤ k
def RMapF (N : Nat) (sa : Option Addr) (sc : Nat) (F : List Nat) (w : World) (m p : Nat) (x : MX) : Prop := ∃ ov, F = opsF m ov ∧ RMapB N sa sc ov w m p x
section
variable {N sc : Nat} {sa : Option Addr} {F G D : List Nat} {w w' : World} {m p : Nat} {x : MX} {r : RM}
theorem RMapF.lt (h : RMapF N sa sc F w m p x) : ∀ k ∈ F, k < w.heap.size := by
  obtain ⟨ov, rfl, h⟩ := h
  exact h.ob.lt
theorem RMapF.above (h : RMapF N sa sc F w m p x) : ∀ k ∈ F, N ≤ k := by
  obtain ⟨ov, rfl, h⟩ := h
  exact h.above
theorem RMapF.same (h : RMapF N sa sc F w m p x) (hn : Below N w w') (hb : ∀ k ∈ F, w'.heap[k]? = w.heap[k]?) : RMapF N sa sc F w' m p x := by
  obtain ⟨ov, rfl, h⟩ := h
  exact ⟨ov, rfl, { h with ob := h.ob.same hb, row := h.row.below hn }⟩
theorem RMapF.few (h : RMapF N sa sc F w m p x) : x.sz.length ≤ 16 := by
  obtain ⟨ov, rfl, h⟩ := h
  exact h.few
theorem RMapF.sum (h : RMapF N sa sc F w m p x) : x.sz.sum ≤ 4096 := by
  obtain ⟨ov, rfl, h⟩ := h
  exact h.sum
theorem RMapF.dev (h : RMapF N sa sc F w m p x) : w.cell? ⟨m, 0, none⟩ = some (.pointer (some ⟨p, 0, none⟩)) := by
  obtain ⟨ov, rfl, h⟩ := h
  exact h.ob.arr.cell (i := 0) rfl
theorem RMapF.sizes (h : RMapF N sa sc F w m p x) : w.cell? ⟨m, 1, none⟩ = some (.slice sa x.sz.length sc) := by
  obtain ⟨ov, rfl, h⟩ := h
  exact h.ob.arr.cell (i := 1) rfl
theorem RMapF.row (h : RMapF N sa sc F w m p x) : SRow N w sa x.sz := by
  obtain ⟨ov, rfl, h⟩ := h
  exact h.row

/-- The document's map and its device. -/
structure RPMap (N : Nat) (sa : Option Addr) (sc : Nat) (F D : List Nat) (w : World) (m p : Nat) (r : RM) (x : MX) : Prop where
  map : RMapF N sa sc F w m p x
  dev : Ref D w p r
  apart : ∀ k ∈ F, k ∉ D
  fits : x.sz.sum ≤ r.kept.length
  aboveD : ∀ k ∈ D, N ≤ k
  size : N ≤ w.heap.size
theorem RPMap.lt (h : RPMap N sa sc F D w m p r x) : ∀ k ∈ F ++ D, k < w.heap.size := fun k hk => by
  rcases List.mem_append.1 hk with e | e
  · exact h.map.lt k e
  · exact h.dev.lt k e
theorem RPMap.above (h : RPMap N sa sc F D w m p r x) : ∀ k ∈ F ++ D, N ≤ k := fun k hk => by
  rcases List.mem_append.1 hk with e | e
  · exact h.map.above k e
  · exact h.aboveD k e
theorem RPMap.below (h : RPMap N sa sc F D w m p r x) (hb : Below w.heap.size w w') : RPMap N sa sc F D w' m p r x :=
  { h with map := h.map.same (hb.mono h.size) fun k hk => hb.block k (h.map.lt k hk), dev := h.dev.below hb, size := Nat.le_trans h.size hb.size }
theorem RPMap.but (h : RPMap N sa sc F D w m p r x) (hb : But G w w') (hd : ∀ k ∈ F ++ D, k ∉ G) (hG : ∀ k ∈ G, N ≤ k) : RPMap N sa sc F D w' m p r x :=
  { h with map := h.map.same (hb.below hG h.size) fun k hk => hb.block k (h.map.lt k hk) (hd k (by simp [hk])), dev := h.dev.but hb fun k hk => hd k (by simp [hk]), size := Nat.le_trans h.size hb.size }
theorem RPMap.turnD {D' : List Nat} {r' : RM} (h : RPMap N sa sc F D w m p r x) (ht : Turns D D' w w') (hd : Ref D' w' p r') (hk : r'.kept.length = r.kept.length) : RPMap N sa sc F D' w' m p r' x ∧ Turns (F ++ D) (F ++ D') w w' :=
  ⟨{ map := h.map.same (ht.1.below h.aboveD h.size) fun k hk => ht.1.block k (h.map.lt k hk) (h.apart k hk), dev := hd, apart := ht.apart h.apart h.map.lt, fits := by rw [hk]; exact h.fits,
     aboveD := fun k hk => by
       rcases ht.2 k hk with e | e
       · exact h.aboveD k e
       · exact Nat.le_trans h.size e
     size := Nat.le_trans h.size ht.1.size }, ht.left⟩
theorem RPMap.turnM {F' : List Nat} {x' : MX} (h : RPMap N sa sc F D w m p r x) (ht : Turns F F' w w') (hm : RMapF N sa sc F' w' m p x') (hs : x'.sz = x.sz) : RPMap N sa sc F' D w' m p r x' ∧ Turns (F ++ D) (F' ++ D) w w' :=
  ⟨{ map := hm, dev := h.dev.but ht.1 (fun k hk e => h.apart k e hk), apart := fun k hk e => ht.apart (G := D) (fun k hk e => h.apart k e hk) h.dev.lt k e hk, fits := by rw [hs]; exact h.fits, aboveD := h.aboveD, size := Nat.le_trans h.size ht.1.size }, ht.right⟩
theorem RMapB.more {ov v : Value} {o : OpT} (h : RMapB N sa sc ov w m p x) (hN : N ≤ w.heap.size) (ho : OpsB (.pointer (some ⟨p, 0, none⟩)) (.slice sa x.sz.length sc) v w' m x.who (x.ops ++ [o])) (ht : Turns (opsF m ov) (opsF m v) w w') :
    RMapB N sa sc v w' m p { x with ops := x.ops ++ [o] } := by
  refine { h with ob := ho, row := h.row.below (ht.1.below h.above hN), above := ?_ }
  intro k hk
  rcases ht.2 k hk with e | e
  · exact h.above k e
  · exact Nat.le_trans hN e

set_option maxHeartbeats 800000 in
set_option maxRecDepth 100000 in
theorem rplace_walk (h : RMapF N sa sc F w m p x) (i j : Int) (hj : -9223372036854775808 ≤ j ∧ j ≤ 9223372036854775807) : Calls Try.prog 48 #[.pointer (some ⟨m, 0, none⟩), .int .i64 i, .int .i64 j] w fun e w' => e = .returned (.tuple #[.int .i64 (placeX x.sz i j).1, .int .i64 (placeX x.sz i j).2]) ∧ w' = w := by
  have hfew := h.few
  have hc1 := h.sizes
  by_cases h0 : i < 0
  · rw [show placeX x.sz i j = (0, 71) by unfold placeX; rw [if_pos (by simp [hasD]; omega)]]
    clear h hc1
    go_enter Try.func48, Try.ntmps48
    go_wp2
    go_ret2
    exact ⟨rfl, rfl⟩
  obtain ⟨k, rfl⟩ : ∃ k : Nat, i = (k : Int) := ⟨i.toNat, by omega⟩
  by_cases h1 : x.sz.length ≤ k
  · rw [show placeX x.sz (k : Int) j = (0, 71) by unfold placeX; rw [if_pos (by unfold hasD; rw [decide_eq_false (p := (k : Int) < _) (by omega)]; simp)]]
    clear h
    generalize x.sz.length = n at *
    go_enter Try.func48, Try.ntmps48
    go_wp2
    go_ret2
    exact ⟨rfl, rfl⟩
  have hk : k < x.sz.length := by omega
  have hb : hasD x.sz.length (k : Int) = true := by simp [hasD]; omega
  have HROW := hide h.row
  have HSUM := hide h.sum
  obtain ⟨b, off, rfl, _, hcell⟩ := h.row k hk
  by_cases h2 : j < 0
  · rw [show placeX x.sz (k : Int) j = (0, 61) by unfold placeX; rw [if_neg (by rw [hb]; decide), if_pos (by simp [hasD]; omega)]]
    clear h hcell HROW hb
    generalize x.sz.length = n at *
    go_enter Try.func48, Try.ntmps48
    go_wp2
    go_ret2
    exact ⟨rfl, rfl⟩
  obtain ⟨l, rfl⟩ : ∃ l : Nat, j = (l : Int) := ⟨j.toNat, by omega⟩
  by_cases h3 : x.sz.getD k 0 ≤ l
  · rw [show placeX x.sz (k : Int) (l : Int) = (0, 61) by unfold placeX; rw [if_neg (by rw [hb]; decide), if_pos (by unfold hasD; rw [Int.toNat_natCast, decide_eq_false (p := (l : Int) < _) (by omega)]; simp)]]
    clear h HROW hb
    generalize x.sz.getD k 0 = z at *
    generalize x.sz.length = n at *
    go_enter Try.func48, Try.ntmps48
    go_wp2
    go_ret2
    exact ⟨rfl, rfl⟩
  rw [place_some hk (by omega)]
  have HK := hide hk
  have hlz : l < x.sz.getD k 0 := by omega
  have HB : Hid (∀ a, a ≤ k → bnd x.sz a + x.sz.getD k 0 ≤ 4096) := hide fun a ha => Nat.le_trans (Nat.le_trans (Nat.add_le_add_right (bnd_mono _ ha) _) (bnd_part hk)) (unhide HSUM)
  clear h hb h3 h2 h1 h0
  generalize x.sz.getD k 0 = z at *
  have hz : z ≤ 4096 := by have := unhide HB 0 (by omega); omega
  generalize hnn : x.sz.length = n at *
  have HNN := hide hnn
  clear hnn
  go_enter Try.func48, Try.ntmps48
  go_wp2
  clear hcell
  go_loopw [8, 9] (fun cn ck wr => ∃ a : Nat, a ≤ k ∧ ck = .int .i64 (a : Int) ∧ cn = .int .i64 ((bnd x.sz a + l : Nat) : Int) ∧ wr = w) (fun _ ck _ => k - (intOf ck).toNat)
  case atStart => exact ⟨0, by omega, rfl, by rw [bnd_zero, Nat.zero_add], rfl⟩
  case round =>
    obtain ⟨a, ha, rfl, rfl, hw⟩ := hrel
    subst hw
    by_cases hlt : a < k
    · obtain ⟨b', off', e', _, hcell⟩ := unhide HROW a (by have := unhide HNN; omega)
      cases e'
      have hbs : bnd x.sz (a + 1) = bnd x.sz a + x.sz.getD a 0 := bnd_succ (by have := unhide HNN; omega)
      have hbl := unhide HB (a + 1) (by omega)
      have HBS : Hid (((bnd x.sz a + l : Nat) : Int) + ((x.sz.getD a 0 : Nat) : Int) = ((bnd x.sz (a + 1) + l : Nat) : Int)) := hide (by omega)
      have hr1 : bnd x.sz a + l + x.sz.getD a 0 ≤ 8192 := by omega
      clear hbs hbl
      generalize bnd x.sz a + l = y at *
      generalize x.sz.getD a 0 = y2 at *
      go_wp2
      go_roundw
      case rel => exact ⟨a + 1, by omega, by go_num, by rw [← unhide HBS], by first | rfl | trivial⟩
      case measure => simp [intOf]; omega
    · obtain rfl : a = k := by omega
      obtain ⟨y, hy⟩ : ∃ y, y = bnd x.sz a + l := ⟨_, rfl⟩
      rw [← hy]
      have HY := hide hy
      clear hy
      go_wp2
      go_ret2
      exact ⟨by rw [← unhide HY]; rfl, rfl⟩

set_option maxHeartbeats 800000 in
set_option maxRecDepth 100000 in
theorem rmread_walk (h : RPMap N sa sc F D w m p r x) (i j : Int) (hj : -9223372036854775808 ≤ j ∧ j ≤ 9223372036854775807) (hlen : r.done.length ≤ 1000000) : Calls Try.prog 30 #[.pointer (some ⟨m, 0, none⟩), .int .i64 i, .int .i64 j] w fun e w' => e = .returned (.tuple #[secV (readG readR r x.sz i j).1, .int .i64 (readG readR r x.sz i j).2]) ∧ Below w.heap.size w w' := by
  have HM := hide h
  obtain ⟨q1, q2, hq⟩ : ∃ q1 q2, placeX x.sz i j = (q1, q2) := ⟨_, _, rfl⟩
  have HPL : ∀ w1, Below w.heap.size w w1 → Hid (Calls Try.prog 48 #[.pointer (some ⟨m, 0, none⟩), .int .i64 i, .int .i64 j] w1 fun e w' => e = .returned (.tuple #[.int .i64 q1, .int .i64 q2]) ∧ w' = w1) := fun w1 hb1 => by
    have := rplace_walk (h.below hb1).map i j hj
    rw [hq] at this
    exact hide this
  by_cases h0 : q2 = 0
  · subst h0
    rw [show readG readR r x.sz i j = readR r q1 by unfold readG; rw [hq]; simp]
    have HL : Hid ((readR r q1).1.length = 64) := hide (by
      unfold readR
      split
      · rename_i hh
        exact lastOf_64 _ _ _ (getD_mem64 h.dev.ok.keptS (hasD_true hh).2) (fun y hy => (h.dev.ok.doneS y hy).2)
      · exact zeroS_len)
    have HR : ∀ w1, Below w.heap.size w w1 → Hid (Calls Try.prog 52 #[.pointer (some ⟨p, 0, none⟩), .int .i64 q1] w1 fun e w' => e = .returned (.tuple #[secV (readR r q1).1, .int .i64 (readR r q1).2]) ∧ Below w1.heap.size w1 w') := fun w1 hb1 => hide (rread_walk (h.dev.below hb1) q1 hlen)
    clear h hq
    generalize (readR r q1).1 = sec at *
    generalize (readR r q1).2 = e2 at *
    go_enter Try.func30, Try.ntmps30
    go_wp2_with (refine wpList_alloc 30 30 (bytesV zeroS) rfl rfl alloc30 ?_)
    intro w1 hA1 hb1 hs1
    have HA1 := hide hA1
    have Hb1 := hide hb1
    have HP1 := HPL w1 hb1
    have hc0 := ((unhide HM).below hb1).map.dev
    have HR2 := HR w1 hb1
    clear hA1 hb1 HPL HR HM
    go_wp2_with fail
    refine (unhide HP1).mono ?_
    rintro e w2 ⟨rfl, hw2⟩
    subst w2
    clear HP1
    go_wp2_with fail
    refine (unhide HR2).mono ?_
    rintro e w3 ⟨rfl, hb3⟩
    have Hb3 := hide ((unhide Hb1).trans (hb3.mono (by omega)))
    have HA3 := hide ((unhide HA1).keep hb3 (by omega))
    have hs3 := hb3.size
    clear hb3 HA1 Hb1 HR2 hc0
    go_wp2_with (refine wpList_storeAll 30 _ _ w.heap.size (bytesV sec) (bytesV zeroS) rfl rfl rfl rfl (unhide HA3) (by rw [bytesV_length, bytesV_length, unhide HL]; rfl) (info30s (unhide HL)) (bytesV_one _) ?_)
    intro w4 hA4 hg4 hs4
    have HA4 := hide hA4
    have Hb4 := hide ((unhide Hb3).grown hg4 (by omega) (fun k hk => by simp at hk; omega))
    clear hA4 hg4
    go_wp2
    refine bodyPost_ret (v := .tuple #[secV sec, .int .i64 e2]) ?_ rfl ⟨rfl, unhide Hb4⟩
    exact results_two Try.results30 rfl rfl (unhide HA4) Try.underlying30 rfl (info30s (unhide HL))
  · rw [show readG readR r x.sz i j = (zeroS, q2) by unfold readG; rw [hq]; simp [h0]]
    clear h hq HM
    go_enter Try.func30, Try.ntmps30
    go_wp2_with (refine wpList_alloc 30 30 (bytesV zeroS) rfl rfl alloc30 ?_)
    intro w1 hA1 hb1 hs1
    have HA1 := hide hA1
    have Hb1 := hide hb1
    have HP1 := HPL w1 hb1
    clear hA1 hb1 HPL
    go_wp2_with fail
    refine (unhide HP1).mono ?_
    rintro e w2 ⟨rfl, hw2⟩
    subst w2
    clear HP1
    go_wp2_with (first
        | refine wpList_build 30 _ (bytesV zeroS) [] rfl rfl rfl built30 ?_
        | refine wpList_storeAll 30 _ _ w.heap.size (bytesV zeroS) (bytesV zeroS) rfl rfl rfl rfl (unhide HA1) rfl (info30s zeroS_len) (bytesV_one _) ?_)
    intro w4 hA4 hg4 hs4
    have HA4 := hide hA4
    have Hb4 := hide ((unhide Hb1).grown hg4 (by omega) (fun k hk => by simp at hk; omega))
    clear hA4 hg4
    go_wp2
    refine bodyPost_ret (v := .tuple #[secV zeroS, .int .i64 q2]) ?_ rfl ⟨rfl, unhide Hb4⟩
    exact results_two Try.results30 rfl rfl (unhide HA4) Try.underlying30 rfl (info30s zeroS_len)
end
end Go.Proofs.Ytlgknllcnkainaa
