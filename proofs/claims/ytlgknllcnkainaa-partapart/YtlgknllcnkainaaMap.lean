/-
  The program's device in parts, in memory: what it is made of, what stands while other things turn; the calls that only ask it.
-/
import Derived.Test.YtlgknllcnkainaaSync
import Derived.Test.YtlgknllcnkainaaOps3
namespace Go.Proofs.Ytlgknllcnkainaa
open Go.RowKit

def mapV (p bb cap : Nat) (ov : Value) (x : MX) : List Value :=
  [.pointer (some ⟨p, 0, none⟩), .slice (some ⟨bb, 0, none⟩) (x.sz.length + 1) cap, .int .i64 x.who, ov]
def mapF (m bb : Nat) (ov : Value) : List Nat := m :: bb :: ov.ownBlock.toList
/-- A map without its device, block by block. -/
structure MapB (bb cap : Nat) (ov : Value) (w : World) (m p : Nat) (x : MX) : Prop where
  nodup : (mapF m bb ov).Nodup
  few : x.sz.length ≤ 16
  sum : x.sz.sum ≤ 4096
  room : x.sz.length + 1 ≤ cap
  arr : Arr w m (mapV p bb cap ov x)
  bnd : ∀ k, k ≤ x.sz.length → w.cell? ⟨bb, k, none⟩ = some (.int .i64 ((bnd x.sz k : Nat) : Int))
  ops : w.ownsRow 0 39 4 ov x.ops.length (opsV x.ops)
def MapF (F : List Nat) (w : World) (m p : Nat) (x : MX) : Prop := ∃ bb cap ov, F = mapF m bb ov ∧ MapB bb cap ov w m p x

theorem cell_same {w w' : World} {b k : Nat} (h : w'.heap[b]? = w.heap[b]?) : w'.cell? ⟨b, k, none⟩ = w.cell? ⟨b, k, none⟩ := by
  simp only [World.cell?, h]
theorem MapB.lt {bb cap : Nat} {ov : Value} {w : World} {m p : Nat} {x : MX} (h : MapB bb cap ov w m p x) : ∀ k ∈ mapF m bb ov, k < w.heap.size := by
  intro k hk
  simp only [mapF, List.mem_cons] at hk
  rcases hk with rfl | rfl | hk
  · exact h.arr.lt
  · exact lt_of_cell (h.bnd 0 (Nat.zero_le _))
  · exact (h.ops.lt k (by simpa using hk)).2
theorem MapB.same {bb cap : Nat} {ov : Value} {w w' : World} {m p : Nat} {x : MX} (h : MapB bb cap ov w m p x) (hb : ∀ k ∈ mapF m bb ov, w'.heap[k]? = w.heap[k]?) : MapB bb cap ov w' m p x :=
  { h with
    arr := h.arr.same (hb _ (by simp [mapF])), bnd := fun k hk => (cell_same (hb bb (by simp [mapF]))).trans (h.bnd k hk),
    ops := owns_same h.ops (fun k hk => hb k (by simp only [mapF, List.mem_cons]; exact .inr (.inr hk))) }
section
variable {F G D : List Nat} {w w' : World} {m p : Nat} {x : MX} {d : DM}
theorem MapF.same (h : MapF F w m p x) (hb : ∀ k ∈ F, w'.heap[k]? = w.heap[k]?) : MapF F w' m p x := by
  obtain ⟨bb, cap, ov, rfl, h⟩ := h
  exact ⟨bb, cap, ov, rfl, h.same hb⟩
theorem MapF.lt (h : MapF F w m p x) : ∀ k ∈ F, k < w.heap.size := by
  obtain ⟨bb, cap, ov, rfl, h⟩ := h
  exact h.lt
theorem MapF.below (h : MapF F w m p x) (hb : Below w.heap.size w w') : MapF F w' m p x := h.same fun k hk => hb.block k (h.lt k hk)
theorem MapF.but (h : MapF F w m p x) (hb : But G w w') (hd : ∀ k ∈ F, k ∉ G) : MapF F w' m p x := h.same fun k hk => hb.block k (h.lt k hk) (hd k hk)
theorem MapF.few (h : MapF F w m p x) : x.sz.length ≤ 16 := by
  obtain ⟨bb, cap, ov, rfl, h⟩ := h
  exact h.few
theorem MapF.sum (h : MapF F w m p x) : x.sz.sum ≤ 4096 := by
  obtain ⟨bb, cap, ov, rfl, h⟩ := h
  exact h.sum
theorem MapF.mem (h : MapF F w m p x) : m ∈ F := by
  obtain ⟨bb, cap, ov, rfl, h⟩ := h
  simp [mapF]
/-- Its device's address. -/
theorem MapF.dev (h : MapF F w m p x) : w.cell? ⟨m, 0, none⟩ = some (.pointer (some ⟨p, 0, none⟩)) := by
  obtain ⟨bb, cap, ov, rfl, h⟩ := h
  exact h.arr.cell (i := 0) rfl
theorem MapF.drew (h : MapF F w m p x) : MapF F w.drew m p x := h.same fun _ _ => rfl

/-- A map and its device. -/
structure PMap (F D : List Nat) (w : World) (m p : Nat) (d : DM) (x : MX) : Prop where
  map : MapF F w m p x
  dev : Dev D w p d
  apart : ∀ k ∈ F, k ∉ D
  fits : x.sz.sum ≤ d.kept.length
theorem PMap.below (h : PMap F D w m p d x) (hb : Below w.heap.size w w') : PMap F D w' m p d x :=
  { h with map := h.map.below hb, dev := h.dev.below hb }
theorem PMap.drew (h : PMap F D w m p d x) : PMap F D w.drew m p d x := { h with map := h.map.drew, dev := h.dev.drew }
theorem PMap.lt (h : PMap F D w m p d x) : ∀ k ∈ F ++ D, k < w.heap.size := fun k hk => by
  rcases List.mem_append.1 hk with e | e
  · exact h.map.lt k e
  · exact h.dev.lt k e
theorem PMap.but (h : PMap F D w m p d x) (hb : But G w w') (hd : ∀ k ∈ F ++ D, k ∉ G) : PMap F D w' m p d x :=
  { h with map := h.map.but hb fun k hk => hd k (by simp [hk]), dev := h.dev.but hb fun k hk => hd k (by simp [hk]) }
theorem Turns.left {F D D' : List Nat} {w w' : World} (h : Turns D D' w w') : Turns (F ++ D) (F ++ D') w w' :=
  ⟨⟨h.1.os, h.1.tape, h.1.output, h.1.size, fun k hk hn => h.1.block k hk fun e => hn (by simp [e])⟩, fun k hk => by
    rcases List.mem_append.1 hk with e | e
    · exact .inl (by simp [e])
    · rcases h.2 k e with e | e
      · exact .inl (by simp [e])
      · exact .inr e⟩
theorem Turns.right {F F' D : List Nat} {w w' : World} (h : Turns F F' w w') : Turns (F ++ D) (F' ++ D) w w' :=
  ⟨⟨h.1.os, h.1.tape, h.1.output, h.1.size, fun k hk hn => h.1.block k hk fun e => hn (by simp [e])⟩, fun k hk => by
    rcases List.mem_append.1 hk with e | e
    · rcases h.2 k e with e | e
      · exact .inl (by simp [e])
      · exact .inr e
    · exact .inl (by simp [e])⟩
/-- Its device turns. -/
theorem PMap.turnD {D' : List Nat} {d' : DM} (h : PMap F D w m p d x) (ht : Turns D D' w w') (hd : Dev D' w' p d') (hk : d'.kept.length = d.kept.length) : PMap F D' w' m p d' x ∧ Turns (F ++ D) (F ++ D') w w' :=
  ⟨{ map := h.map.but ht.1 h.apart, dev := hd, apart := ht.apart h.apart h.map.lt, fits := by rw [hk]; exact h.fits }, ht.left⟩
/-- It turns, and not its device. -/
theorem PMap.turnM {F' : List Nat} {x' : MX} (h : PMap F D w m p d x) (ht : Turns F F' w w') (hm : MapF F' w' m p x') (hs : x'.sz = x.sz) : PMap F' D w' m p d x' ∧ Turns (F ++ D) (F' ++ D) w w' :=
  ⟨{ map := hm, dev := h.dev.but ht.1 (fun k hk e => h.apart k e hk), apart := fun k hk e => ht.apart (G := D) (fun k hk e => h.apart k e hk) h.dev.lt k e hk, fits := by rw [hs]; exact h.fits }, ht.right⟩

set_option maxHeartbeats 800000 in
set_option maxRecDepth 100000 in
theorem parts_walk (h : MapF F w m p x) : Calls Try.prog 33 #[.pointer (some ⟨m, 0, none⟩)] w fun e w' => e = .returned (.int .i64 (x.sz.length : Int)) ∧ w' = w := by
  obtain ⟨bb, cap, ov, rfl, h⟩ := h
  have hc1 := h.arr.cell (i := 1) rfl
  have hn := h.few
  clear h
  generalize x.sz.length = n at *
  go_enter Try.func33, Try.ntmps33
  go_wp2
  go_ret
  exact ⟨by go_num, rfl⟩
set_option maxHeartbeats 800000 in
set_option maxRecDepth 100000 in
theorem device_walk (h : MapF F w m p x) : Calls Try.prog 36 #[.pointer (some ⟨m, 0, none⟩)] w fun e w' => e = .returned (.pointer (some ⟨p, 0, none⟩)) ∧ w' = w := by
  have hc0 := h.dev
  clear h
  go_enter Try.func36, Try.ntmps36
  go_wp2
  go_ret
  exact ⟨rfl, rfl⟩
set_option maxHeartbeats 800000 in
set_option maxRecDepth 100000 in
theorem mhas_walk (h : MapF F w m p x) (i : Int) : Calls Try.prog 45 #[.pointer (some ⟨m, 0, none⟩), .int .i64 i] w fun e w' => e = .returned (.bool (hasD x.sz.length i)) ∧ w' = w := by
  have HP := hide (parts_walk h)
  clear h
  by_cases h0 : 0 ≤ i
  · have E : Hid (hasD x.sz.length i = decide (i < (x.sz.length : Int))) := hide (by simp [hasD, h0])
    generalize x.sz.length = n at *
    go_enter Try.func45, Try.ntmps45
    go_wp2_with fail
    refine (unhide HP).mono ?_
    rintro e w1 ⟨rfl, hw1⟩
    subst w1
    clear HP
    go_wp2
    go_ret
    exact ⟨by rw [unhide E]; rfl, rfl⟩
  · have E : Hid (hasD x.sz.length i = false) := hide (by simp [hasD, h0])
    clear HP
    generalize x.sz.length = n at *
    go_enter Try.func45, Try.ntmps45
    go_wp2
    go_ret
    exact ⟨by rw [unhide E]; rfl, rfl⟩
end
end Go.Proofs.Ytlgknllcnkainaa
