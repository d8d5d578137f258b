/-
  slices.Chunk: what it hands to a loop's body; frame.cut: a row of bytes in sectors. frame.cut: a row of bytes in sectors. frame.Put: the sectors of a frame; what no one else holds.
-/
import Derived.RangeFuncNested
import Derived.RangeFuncBound
import Derived.RangeFuncCalls
import Derived.RangeFuncLeaves
import Derived.RangeFuncBox
import Derived.Shelf.Abstract
import Derived.Shelf.RegionOpen
import Derived.WalkKit
import Derived.OwnWalkIn
import Derived.TacticsInMore
import Derived.LoopNIn
import Derived.LoopIn
import Derived.RegionIn
import Derived.BigRegionIn
import Derived.Test.YtdfdalkcljfghaaGreatSOps
namespace Go.Proofs.YtdfdalkcljfghaaGreat
open Go.RowKit Go.Shelf
attribute [local go_sem] Oper.semAt_some

/-- The places at which a row of so many bytes is cut. -/
abbrev Cuts (len : Nat) := { k : Nat // 63 * k < len }
def chunkV (b off len : Nat) (x : Cuts len) : Array Value := #[.slice (some ⟨b, off + 63 * x.1, none⟩) (min 63 (len - 63 * x.1)) (min 63 (len - 63 * x.1))]

set_option maxRecDepth 100000 in
set_option maxHeartbeats 2000000 in
theorem chunk1_in (F : Fence) (n : Nat) (h35 : F.fn 159) (hro : F.round = none) (hn : 1 ≤ n) (l Bs Bn b off len cap : Nat) (hlen : len ≤ 100000) (hcap : len ≤ cap) (Kp : World → World → Prop)
    (hKc : ∀ W W', Kp W W' → W'.heap[Bs]? = W.heap[Bs]? ∧ W'.heap[Bn]? = W.heap[Bn]?) (J Jx : List (Cuts len) → World → Prop)
    (hY : ∀ pre x W, J pre W → pre.length < (len + 62) / 63 → YieldAt F (n - 1) Tryz.prog l (chunkV b off len x) W fun e W' =>
      (e = .returned (.bool true) ∧ J (pre ++ [x]) W' ∧ Kp W W') ∨ (e = .returned (.bool false) ∧ Jx (pre ++ [x]) W'))
    (hJd : ∀ pre W, J pre W → J pre W.drew)
    (W : World) (hBs : Boxed W Bs 46 (.slice (some ⟨b, off, none⟩) len cap)) (hBn : Boxed W Bn 3 (.int .i64 63)) (h0 : J [] W) :
    CallsIn F n Tryz.prog 159 #[.func (.yield l) #[] #[], .pointer (some ⟨Bs, 0, none⟩), .pointer (some ⟨Bn, 0, none⟩)] W fun e W' => (∃ v, e = .returned v) ∧
      ((∃ ys : List (Cuts len), ys.map (·.1) = List.range ((len + 62) / 63) ∧ J ys W') ∨ (∃ pre, True ∧ Jx pre W')) := by
  refine callsIn_of_wp Tryz.func159 rfl h35 ?_ hro
  simp only [Tryz.ntmps159, List.size_toArray, List.length_cons, List.length_nil, Nat.reduceAdd, Nat.reduceSub, Array.replicate_succ, Array.replicate_zero, List.push_toArray, List.append_toArray, List.nil_append, List.cons_append]
  gi_wp2
  gi_loopw [4] (fun i wr => ∃ (k : Nat) (pre : List (Cuts len)), k ≤ (len + 62) / 63 ∧ i = .int .i64 ((63 * k : Nat) : Int) ∧ pre.map (·.1) = List.range k ∧ J pre wr ∧ Boxed wr Bs 46 (.slice (some ⟨b, off, none⟩) len cap) ∧ Boxed wr Bn 3 (.int .i64 63))
    (fun i _ => len + 63 - (intOf i).toNat)
  case atStart => exact ⟨0, [], by omega, rfl, rfl, h0, hBs, hBn⟩
  case round =>
    obtain ⟨k, pre, hk, rfl, hpre, hJs, hBs', hBn'⟩ := hrel
    have hc1 := hBs'.cell
    have hc2 := hBn'.cell
    have hpl : pre.length = k := by have := congrArg List.length hpre; simpa using this
    by_cases hlt : 63 * k < len
    · obtain ⟨fn, tmps, assign, body, hy, hR⟩ := hY pre ⟨k, hlt⟩ wr.drew (hJd _ _ hJs) (by omega)
      have hne : ¬ (cap = 63 * k) := by omega
      obtain ⟨e, he⟩ : ∃ e : Nat, e = min 63 (len - 63 * k) := ⟨_, rfl⟩
      have hif : (if ((len - 63 * k : Nat) : Int) < 63 then ((len - 63 * k : Nat) : Int) else 63) = (e : Int) := by split <;> omega
      dsimp only [chunkV] at hy
      rw [← he] at hy
      have he1 : 63 * k + e ≤ len := by omega
      have he2 : 1 ≤ e := by omega
      clear he
      gi_wp2
      gi_region
      all_goals clear hif
      all_goals gi_wp2
      all_goals
        refine hR.mono ?_
        rintro z W3 (⟨rfl, hJ3, hk3⟩ | ⟨rfl, hJx3⟩)
        · have hBs3 : Boxed W3 Bs 46 (.slice (some ⟨b, off, none⟩) len cap) := (hKc _ _ hk3).1.trans hBs'
          have hBn3 : Boxed W3 Bn 3 (.int .i64 63) := (hKc _ _ hk3).2.trans hBn'
          have hc3 := hBn3.cell
          clear hc1 hc2 hR hy
          gi_wp2
          go_roundw
          case rel => exact ⟨k + 1, pre ++ [⟨k, hlt⟩], by omega, by simp; omega, by rw [List.map_append, hpre, List.range_succ]; rfl, hJ3, hBs3, hBn3⟩
          case measure => simp [intOf]; omega
        · clear hc1 hc2 hR hy
          gi_wp2
          refine bodyPost_ret (results_none rfl _ _ _) rfl ?_
          exact ⟨⟨_, rfl⟩, .inr ⟨_, trivial, hJx3⟩⟩
    · have hk2 : k = (len + 62) / 63 := by omega
      gi_wp2
      go_end0
      exact ⟨⟨_, rfl⟩, .inl ⟨pre, by rw [hpre, hk2], hJs⟩⟩

set_option maxHeartbeats 1000000 in
theorem chunk_in (F : Fence) (n : Nat) (h23 : F.fn 152) (hro : F.round = none) (a : Option Addr) (len cap : Nat) (w : World) :
    CallsIn F n Tryz.prog 152 #[.slice a len cap, .int .i64 63] w fun e w' => e = .returned (.func (.func 159) #[] #[.pointer (some ⟨w.heap.size, 0, none⟩), .pointer (some ⟨w.heap.size + 1, 0, none⟩)]) ∧ w' = (w.alloc (.cells #[.slice a len cap] 46)).alloc (.cells #[.int .i64 63] 3) := by
  refine callsIn_of_wp Tryz.func152 rfl h23 ?_ hro
  simp only [Tryz.ntmps152, List.size_toArray, List.length_cons, List.length_nil, Nat.reduceAdd, Nat.reduceSub, Array.replicate_succ, Array.replicate_zero, List.push_toArray, List.append_toArray, List.nil_append, List.cons_append]
  gi_wp2
  go_ret
  exact ⟨rfl, rfl⟩

theorem chunk_stops (F : Fence) (n : Nat) (h35 : F.fn 159) (hro : F.round = none) (hn : 1 ≤ n) (Bs Bn b off len cap : Nat) (hlen : len ≤ 100000) (hcap : len ≤ cap) (Kp : World → World → Prop)
    (hKc : ∀ W W', Kp W W' → W'.heap[Bs]? = W.heap[Bs]? ∧ W'.heap[Bn]? = W.heap[Bn]?) (w : World) (hBs : Boxed w Bs 46 (.slice (some ⟨b, off, none⟩) len cap)) (hBn : Boxed w Bn 3 (.int .i64 63)) :
    SeqStopsK F n Tryz.prog 159 #[.pointer (some ⟨Bs, 0, none⟩), .pointer (some ⟨Bn, 0, none⟩)] (chunkV b off len) Kp (fun ys => ys.map (·.1) = List.range ((len + 62) / 63)) (fun _ => True) ((len + 62) / 63) w := fun l J Jx W hW hJ _ hY h0 =>
  chunk1_in F n h35 hro hn l Bs Bn b off len cap hlen hcap Kp hKc J Jx hY (fun pre W h => hJ pre W W.drew none h ⟨rfl, rfl, rfl, Nat.le_refl _, fun _ _ _ => rfl⟩ (fun r e => by cases e)) W
    ((hW.block Bs hBs.lt).trans hBs) ((hW.block Bn hBn.lt).trans hBn) h0
end Go.Proofs.YtdfdalkcljfghaaGreat

namespace Go.Proofs.YtdfdalkcljfghaaGreat
open Go.RowKit Go.Shelf
attribute [local go_sem] Oper.semAt_some

/-- What a round leaves as it was. -/
def CutK (n0 Bs Bn : Nat) (W W' : World) : Prop := Below n0 W W' ∧ W'.heap[Bs]? = W.heap[Bs]? ∧ W'.heap[Bn]? = W.heap[Bn]?


/-- What a round owes behind its append. -/
theorem cut_close {w W W6 W7 : World} {v v' : Value} {ss ts : List Sec} (hz : w.heap.size + 3 ≤ W.heap.size) (hV : Boxed W w.heap.size 131 v) (hO : SOwn (w.heap.size + 3) W v ss)
    (hb : Below W.heap.size W W6) (hO' : SOwn (w.heap.size + 3) W7 v' ts) (hg : W6.grownBy W7 v.ownBlock) :
    Boxed W7 w.heap.size 131 v ∧ Boxed (W7.setCell ⟨w.heap.size, 0, none⟩ v') w.heap.size 131 v' ∧ SOwn (w.heap.size + 3) (W7.setCell ⟨w.heap.size, 0, none⟩ v') v' ts ∧
      KeepsFrom (w.heap.size + 3) W (W7.setCell ⟨w.heap.size, 0, none⟩ v') ∧ CutK w.heap.size (w.heap.size + 1) (w.heap.size + 2) W (W7.setCell ⟨w.heap.size, 0, none⟩ v') ∧ w.heap.size + 3 ≤ (W7.setCell ⟨w.heap.size, 0, none⟩ v').heap.size := by
  have hO6 := hO.keepB hb
  have hblk : ∀ k, v.ownBlock = some k → w.heap.size + 3 ≤ k := fun k hk => by
    rcases hO.1.2 with ⟨rfl, _⟩ | ⟨g, cap, cur, rfl, h1, _⟩
    · simp [Value.ownBlock] at hk
    · obtain rfl : g = k := by simpa [Value.ownBlock] using hk
      exact h1
  have hsz6 := hb.size
  have hV6 : Boxed W6 w.heap.size 131 v := (hb.block _ (by omega)).trans hV
  have hV7 : Boxed W7 w.heap.size 131 v := hV6.kept hg (fun e => by have := hblk _ e.symm; omega)
  have hsz7 := hg.size
  have hB7 : Below w.heap.size W W7 := (hb.mono (by omega)).grown hg (by omega) (fun k hk => by have := hblk k hk; omega)
  refine ⟨hV7, hV7.set v', ⟨hO'.1.kept (grownBy_setCell' W7 _ v') ?_, hO'.2⟩, ?_, ⟨hB7.setCell (p := ⟨w.heap.size, 0, none⟩) (Nat.le_refl _) v', ?_, ?_⟩, by simp [World.setCell]; omega⟩
  · rcases hO'.1.2 with ⟨rfl, _⟩ | ⟨g, cap, cur, rfl, h1, _⟩
    · exact .inl rfl
    · refine .inr fun e => ?_
      obtain rfl : g = w.heap.size := by simpa [Value.ownBlock] using e
      omega
  · have k1 : KeepsFrom (w.heap.size + 3) W W6 := ⟨hb.size, fun k o _ hk _ => (hb.block k (Array.getElem?_eq_some_iff.1 hk).1).trans hk⟩
    have k2 : KeepsFrom (w.heap.size + 3) W6 W7 := (KeepsOthers.of_grownBy hg fun j o ej hj => by
      rcases hO6.1.2 with ⟨rfl, _⟩ | ⟨g, cap, cur, rfl, _, hgb, _⟩
      · simp [Value.ownBlock] at ej
      · obtain rfl : g = j := by simpa [Value.ownBlock] using ej
        rw [hgb] at hj; cases hj; rfl).from _
    exact (k1.trans k2).trans ((KeepsOthers.setCell W7 _ v').from _)
  · rw [(grownBy_setCell' W7 w.heap.size v').block _ (by omega) (fun e => by have := Option.some.inj e; omega), hg.block _ (by omega) (fun e => by have := hblk _ e.symm; omega), hb.block _ (by omega)]
  · rw [(grownBy_setCell' W7 w.heap.size v').block _ (by omega) (fun e => by have := Option.some.inj e; omega), hg.block _ (by omega) (fun e => by have := hblk _ e.symm; omega), hb.block _ (by omega)]
theorem cut_sec {p : List UInt8} (h : p.length ≤ 63) {bs : List Value} (hbs : bs = bytesV blankS) : (bytesV p ++ bs.drop p.length).set 63 (.int .u8 0) = bytesV (secF p) := by
  subst hbs
  have e : (bytesV blankS).drop p.length = bytesV (List.replicate (64 - p.length) 255) := by
    show (List.map _ blankS).drop p.length = _
    unfold blankS
    rw [List.map_replicate, List.drop_replicate]
    simp [bytesV]
  rw [e, ← bytesV_app]
  have e2 : (Value.int .u8 0) = .int .u8 (((0 : UInt8).toNat : Nat) : Int) := rfl
  rw [e2, bytesV_set]
  congr 1
  unfold secF
  rw [List.set_append_right _ _ h]
  congr 1
  apply List.ext_getElem?
  intro i
  rw [List.getElem?_set]
  by_cases h1 : 63 - p.length = i
  · subst h1
    rw [if_pos rfl, List.getElem?_append_right (by simp)]
    simp
    omega
  · rw [if_neg h1, List.getElem?_replicate]
    by_cases h2 : i < 63 - p.length
    · rw [if_pos (by omega), List.getElem?_append_left (by simpa using h2), List.getElem?_replicate, if_pos h2]
    · rw [if_neg (by omega), List.getElem?_eq_none (by simp; omega)]
theorem cut_all {len : Nat} {r : List UInt8} (hlen : r.length = len) {ys : List (Cuts len)} (h : ys.map (·.1) = List.range ((len + 62) / 63)) : ys.map (fun x => secF (piece r x.1)) = cutF r := by
  unfold cutF cutN
  rw [hlen, ← h, List.map_map]
  rfl

set_option maxRecDepth 100000 in
set_option maxHeartbeats 2000000 in
theorem cut_walk (N : Nat) (v : Value) (r : List UInt8) (w : World) (hN : N ≤ w.heap.size) (hr : RowV N w v r) (h0 : 0 < r.length) (hl : r.length ≤ 100000) :
    Calls Tryz.prog 144 #[v] w fun e w' => ∃ v', e = .returned v' ∧ SOwn w.heap.size w' v' (cutF r) ∧ Below w.heap.size w w' := by
  obtain ⟨a, len, cap, rfl, q1, q2, q3, hrow⟩ := hr
  have hlen : r.length = len := hrow.1
  obtain ⟨b, off, rfl, hbN, _⟩ := hrow.2.2 0 (by omega)
  have hcells : ∀ i, i < len → w.cell? ⟨b, off + i, none⟩ = some (.int .u8 (((r.getD i 0).toNat : Nat) : Int)) := fun i hi => by
    obtain ⟨b', off', e, _, hc⟩ := hrow.2.2 i hi
    cases e
    exact hc
  have HC := hide hcells
  have HLEN := hide hlen
  have hlb : len ≤ 100000 := by omega
  clear hcells hrow q3 h0 hl hlen
  obtain ⟨W0, hW0⟩ : ∃ W0, ((w.alloc (.cells #[.slice none 0 0] 131)).alloc (.cells #[.slice (some ⟨b, off, none⟩) len cap] 46)).alloc (.cells #[.int .i64 63] 3) = W0 := ⟨_, rfl⟩
  have hs0 : W0.heap.size = w.heap.size + 3 := by rw [← hW0]; simp
  have bL : Boxed W0 w.heap.size 131 (.slice none 0 0) := by
    rw [← hW0]
    exact ((Boxed.new w 131 (.slice none 0 0)).alloc _).alloc _
  have bS : Boxed W0 (w.heap.size + 1) 46 (.slice (some ⟨b, off, none⟩) len cap) := by
    rw [← hW0]
    have := Boxed.new (w.alloc (.cells #[.slice none 0 0] 131)) 46 (.slice (some ⟨b, off, none⟩) len cap)
    rw [World.size_alloc] at this
    exact this.alloc _
  have bN : Boxed W0 (w.heap.size + 2) 3 (.int .i64 63) := by
    rw [← hW0]
    have := Boxed.new ((w.alloc (.cells #[.slice none 0 0] 131)).alloc (.cells #[.slice (some ⟨b, off, none⟩) len cap] 46)) 3 (.int .i64 63)
    rw [World.size_alloc, World.size_alloc] at this
    exact this
  have hB0 : Below w.heap.size w W0 := by
    rw [← hW0]
    exact (((Below.refl _ w).alloc (Nat.le_refl _) _).alloc (by simp) _).alloc (by simp; omega) _
  refine (callsIn_wide (n := 3)).1 ?_
  refine callsIn_of_wp_marks Tryz.func144 rfl trivial ?_ rfl
  simp only [Tryz.ntmps144, List.size_toArray, List.length_cons, List.length_nil, Nat.reduceAdd, Nat.reduceSub, Array.replicate_succ, Array.replicate_zero, List.push_toArray, List.append_toArray, List.nil_append, List.cons_append]
  gi_wp2_with (refine ⟨trivial, ?_⟩; gi_at_call 152; refine (chunk_in Fence.wide _ trivial rfl _ _ _ _).mono ?_; rintro e w' ⟨rfl, rfl⟩)
  first | rw [hW0] | skip
  refine wpIn_rangeFunc_ownG (F := Fence.wide) (n := 3) rfl (by omega) (gf := 159) (lb := #[.pointer (some ⟨w.heap.size + 1, 0, none⟩), .pointer (some ⟨w.heap.size + 1 + 1, 0, none⟩)]) rfl trivial (enters_of Tryz.func159 (by kernel_rfl) rfl)
    (chunk_stops Fence.wide 2 trivial rfl (by omega) (w.heap.size + 1) (w.heap.size + 2) b off len cap hlb q1 (CutK w.heap.size (w.heap.size + 1) (w.heap.size + 2)) (fun _ _ h => h.2) W0 bS bN)
    (fun h k => ⟨h.1.trans k.1, k.2.1.trans h.2.1, k.2.2.trans h.2.2⟩)
    (fun W l o o' hl h hc hw => ⟨belowK_b (w := W0) (by omega) W l o o' hl h hc hw, (grownBy_putObj' W l o').block _ (by have := (Array.getElem?_eq_some_iff.1 h).1; omega) (fun e => by cases e; omega), (grownBy_putObj' W l o').block _ (by have := (Array.getElem?_eq_some_iff.1 h).1; omega) (fun e => by cases e; omega)⟩)
    (Below.refl _ _) (fun _ => rfl)
    (fun pre W => (∃ v, Boxed W w.heap.size 131 v ∧ W.ownsRow (w.heap.size + 3) 136 64 v pre.length (secsV (pre.map fun x => secF (piece r x.1))) ∧ True) ∧ (Below w.heap.size w W ∧ w.heap.size + 3 ≤ W.heap.size))
    (fun _ _ _ => False)
    (OwnFrom.and (_root_.Go.Own.from (holdsRow_own (w.heap.size + 3) w.heap.size 131 136 64 (fun pre : List (Cuts len) => pre.length) (fun pre => secsV (pre.map fun x => secF (piece r x.1))) (fun _ _ => True)) _) (OwnFrom.and (ownFrom_below (Nat.le_refl _) (by omega)) (fun _ _ _ _ hs hg _ => Nat.le_trans hs hg.size)))
    (fun _ _ _ _ _ hs _ _ => hs)
    ⟨⟨_, bL, World.ownsRow_nil _ _ _ _, trivial⟩, hB0, by omega⟩
    (fun x => { tmps := #[.slice (some ⟨b, off, none⟩) len cap, undef, .slice none 0 0, .pointer (some ⟨w.heap.size, 0, none⟩), .slice (some ⟨b, off + 63 * x.1, none⟩) (min 63 (len - 63 * x.1)) (min 63 (len - 63 * x.1)), undef, .slice (some ⟨b, off, none⟩) len cap, .func (.func 159) #[] #[.pointer (some ⟨w.heap.size + 1, 0, none⟩), .pointer (some ⟨w.heap.size + 1 + 1, 0, none⟩)], .slice (some ⟨b, off + 63 * x.1, none⟩) (min 63 (len - 63 * x.1)) (min 63 (len - 63 * x.1)), undef, undef, undef, undef, undef, undef, undef, undef, undef, undef], defers := [] }) ?assign ?body ?done ?stop
  case assign =>
    intro l x W K hK
    dsimp only [chunkV]
    gi_wp2
    exact hK
  case body =>
    rintro l pre x W ⟨⟨v, hv, hrow, _⟩, hB, hz⟩ hlt
    obtain ⟨p, hp⟩ : ∃ p, p = piece r x.1 := ⟨_, rfl⟩
    have hpl : min 63 (len - 63 * x.1) = p.length := by rw [hp, piece_length, unhide HLEN]
    have hp63 : p.length ≤ 63 := by rw [hp]; exact piece_le _ _
    have hrg : W.rangeAt b (off + 63 * x.1) (bytesV p) := fun j u hj => by
      have hj1 : j < p.length := by have := (List.getElem?_eq_some_iff.1 hj).1; rwa [bytesV_length] at this
      rw [bytesV_get p hj1] at hj
      cases hj
      have hx := x.2
      have hc := (hB.cell (p := ⟨b, off + (63 * x.1 + j), none⟩) (by show b < w.heap.size; omega)).trans (unhide HC (63 * x.1 + j) (by omega))
      rw [← Nat.add_assoc] at hc
      rw [hc, hp, piece, List.getD_eq_getElem?_getD, List.getD_eq_getElem?_getD, List.getElem?_take_of_lt (by omega), List.getElem?_drop]
    have hSO : SOwn (w.heap.size + 3) W v (pre.map fun x => secF (piece r x.1)) := ⟨by rw [List.length_map]; exact hrow, fun s hs => by
      obtain ⟨y, _, rfl⟩ := List.mem_map.1 hs
      exact secF_length (piece_le _ _)⟩
    obtain ⟨va, vc, rfl, _, _⟩ := owns_slice hrow
    obtain ⟨ss, hss⟩ : ∃ ss : List Sec, ss = pre.map fun x => secF (piece r x.1) := ⟨_, rfl⟩
    rw [← hss] at hSO
    have HSSL : Hid (ss.length = pre.length) := hide (by rw [hss, List.length_map])
    have HSS := hide hss
    have HV := hide hv
    have HSO := hide hSO
    have HB := hide hB
    have HRG := hide hrg
    have HP := hide hp
    have hpre : pre.length ≤ 2000 := by omega
    have HBL := hide (blank_walk W)
    obtain ⟨bs, hbs⟩ : ∃ bs, bs = bytesV blankS := ⟨_, rfl⟩
    have Hbs := hide hbs
    have hbl : bs.length = 64 := by rw [hbs, bytesV_length, blankS_len]
    have HBSL := hide hbl
    have HBONE : Hid (∀ v ∈ bs, v.oneCell' = true) := hide (by rw [hbs]; exact bytesV_one _)
    unfold secV at HBL
    rw [← hbs] at HBL
    rw [hpl]
    clear hv hSO hB hrg hp hbs hrow hbl hpl hss
    gi_wp2_with (first
      | (refine ⟨trivial, ?_⟩; gi_at_call 118; refine (CallsIn.inRound l (callsIn_wide.2 (unhide HBL))).mono ?_; rintro e W1 ⟨rfl, hb1⟩)
      | refine wpListIn_alloc33 rfl rfl ?_)
    intro W2 hA2 hb2 hs2
    have HB2 : Hid (Below W.heap.size W W2) := hide (hb1.trans (hb2.mono hb1.size))
    have HA2 := hide hA2
    have hW1 := hb1.size
    clear hA2 hb2 hb1 HBL
    gi_wp2_with (refine wpListIn_store33 rfl rfl rfl rfl (unhide HA2) (by rw [bytesV_length, zeroS_len]) (unhide HBSL) (unhide HBONE) ?_)
    intro W3 hA3 hg3 hs3
    have HB3 : Hid (Below W.heap.size W W3) := hide ((unhide HB2).grown hg3 (unhide HB2).size (fun k hk => by cases hk; exact hW1))
    have HA3 := hide hA3
    have HRG3 := hide (range_below (unhide HRG) ((unhide HB3).mono (Nat.le_trans (by omega) hz)) (show b < w.heap.size by omega))
    clear hA3 hg3 HA2 HB2
    gi_wp2_with (refine wpListIn_copy27 rfl rfl rfl rfl (unhide HA3) (unhide HRG3) (by omega) (by rw [unhide HBSL]; omega) ?_)
    intro W4 hA4 hg4 hs4
    have hb4 : Below W.heap.size W W4 := (unhide HB3).grown hg4 (unhide HB3).size (fun k hk => by cases hk; exact hW1)
    have HSEC := hide (cut_sec hp63 (unhide Hbs))
    obtain ⟨sec, hsec⟩ : ∃ sec, sec = secF p := ⟨_, rfl⟩
    have hsl : sec.length = 64 := by rw [hsec]; exact secF_length hp63
    have HSL := hide hsl
    obtain ⟨c4, hc4⟩ : ∃ c4, c4 = bytesV p ++ List.drop p.length bs := ⟨_, rfl⟩
    rw [← hc4] at hA4 HSEC
    have hcl : c4.length = 64 := by rw [hc4, List.length_append, List.length_drop, unhide HBSL, bytesV_length]; omega
    obtain ⟨u63, hc63⟩ : ∃ u, W4.cell? ⟨W1.heap.size, 63, none⟩ = some u := ⟨_, hA4.cell (List.getElem?_eq_getElem (show 63 < c4.length by omega))⟩
    have hf63 := hA4.free 63
    have hb5 : Below W.heap.size W (W4.setCell ⟨W1.heap.size, 63, none⟩ (.int .u8 0)) := hb4.setCell (p := ⟨W1.heap.size, 63, none⟩) hW1 _
    have hA5 := hA4.set 63 (.int .u8 0)
    rw [unhide HSEC, ← hsec] at hA5
    have hV5 : Boxed (W4.setCell ⟨W1.heap.size, 63, none⟩ (.int .u8 0)) w.heap.size 131 (.slice va pre.length vc) := (hb5.block _ (by omega)).trans (unhide HV)
    have hcv := hV5.cell
    have HB5 := hide hb5
    have HA5 := hide hA5
    have HSV : Hid (sec = secF (piece r x.1)) := hide (by rw [hsec, unhide HP])
    obtain ⟨sv, hsv⟩ : ∃ sv, sv = bytesV sec := ⟨_, rfl⟩
    have HSVV := hide hsv
    have hs5 : (W4.setCell ⟨W1.heap.size, 63, none⟩ (.int .u8 0)).heap.size = W1.heap.size + 1 := by rw [set_size, hs4]
    have HA5' : Hid (Arr (W4.setCell ⟨W1.heap.size, 63, none⟩ (.int .u8 0)) W1.heap.size sv) := hide (by rw [hsv]; exact hA5)
    have HSVL : Hid (sv.length = 64) := hide (by rw [hsv, bytesV_length, hsl])
    have HSVA : Hid (Value.agg sv.toArray = .agg (bytesV sec).toArray) := hide (by rw [hsv])
    clear hA4 hg4 hb4 hc4 hsec hcl hb5 hA5 hV5 hsl hsv HA3 HRG3 HB3
    gi_wp2_with (first
      | refine wpListIn_load33 rfl rfl rfl (unhide HA5').range (unhide HSVL) ?_
      | refine wpListIn_slice24 (s := sec) rfl rfl (unhide HSVA) (unhide HSL) ?_)
    intro W6 hA6 hb6 hs6
    have hb6' : Below W.heap.size W W6 := (unhide HB5).trans (hb6.mono (by have := (unhide HB5).size; rw [hs5] at this; exact this))
    have HB6 := hide hb6'
    have HO6 := hide ((unhide HSO).keepB hb6')
    have HC6 : Hid (∀ j u, (secsV [sec])[j]? = some u → W6.cell? ⟨W1.heap.size + 1, 0 + j, none⟩ = some u) := hide (fun j u hj => by
      rw [Nat.zero_add]
      exact hA6.cell (by simpa [secsV] using hj))
    have hv6 : Boxed W6 w.heap.size 131 (.slice va pre.length vc) := (hb6'.block _ (show w.heap.size < W.heap.size by omega)).trans (unhide HV)
    have hcv6 := hv6.cell
    have hs6' : w.heap.size + 3 ≤ W6.heap.size := by have := hb6'.size; omega
    clear hA6 hb6 hb6' hv6 HA5 HA5' HB5 hcv hc63 hf63
    gi_wp2_with (refine wpListIn_app24 (B := w.heap.size + 3) (ts := [sec]) rfl rfl rfl rfl rfl (unhide HO6) (fun s hs => by obtain rfl := List.mem_singleton.1 hs; exact unhide HSL) rfl (unhide HC6) (by rw [unhide HSSL]; simp; omega) hs6' ?_)
    intro v7 W7 hO7 hg7
    obtain ⟨k1, k2, k3, k4, k5, k6⟩ := cut_close hz (unhide HV) (unhide HSO) (unhide HB6) hO7 hg7
    have hl7 : (ss ++ [sec]).length = pre.length + 1 := by rw [List.length_append, unhide HSSL]; rfl
    have hO71 := hO7.1
    rw [hl7] at hO71
    obtain ⟨g7, cap7, rfl⟩ := ownsRow_succ hO71
    have hc7 := k1.cell
    have hf7 := k1.frozen
    have K2 := hide k2
    have K3 := hide k3
    have K4 := hide k4
    have K5 := hide k5
    have HPOST : Hid (ownPostG W0.heap.size (CutK w.heap.size (w.heap.size + 1) (w.heap.size + 2)) (fun (pre : List (Cuts len)) W => (∃ v, Boxed W w.heap.size 131 v ∧ W.ownsRow (w.heap.size + 3) 136 64 v pre.length (secsV (pre.map fun x => secF (piece r x.1))) ∧ True) ∧ (Below w.heap.size w W ∧ w.heap.size + 3 ≤ W.heap.size)) (fun _ _ _ => False) (pre ++ [x]) W .normal { tmps := #[], defers := [] } (W7.setCell ⟨w.heap.size, 0, none⟩ (.slice (some ⟨g7, 0, none⟩) (pre.length + 1) cap7))) := hide (by
      rw [hs0]
      refine ⟨k4, k5, ⟨_, k2, ?_, trivial⟩, (unhide HB).trans k5.1, k6⟩
      have h9 := k3.1
      rw [hl7] at h9
      have e9 : List.map (fun x : Cuts len => secF (piece r x.1)) (pre ++ [x]) = ss ++ [sec] := by rw [List.map_append, unhide HSS, unhide HSV]; rfl
      rw [e9, List.length_append]
      exact h9)
    clear k2 k3 k4 k5 hO7 hg7 hO71 hl7 K2 K3 K4 K5 HO6 HC6
    gi_wp2
    exact unhide HPOST
  case done =>
    rintro D ys W hD hys ⟨⟨v, hv, hrow, _⟩, hB, hz⟩ hK
    have hso : SOwn (w.heap.size + 3) W v (ys.map fun x => secF (piece r x.1)) := ⟨by rw [List.length_map]; exact hrow, fun s hs => by
      obtain ⟨y, _, rfl⟩ := List.mem_map.1 hs
      exact secF_length (piece_le _ _)⟩
    rw [cut_all (unhide HLEN) hys] at hso
    obtain ⟨va, vc, rfl, _, _⟩ := owns_slice hrow
    have hcv := hv.cell
    have HSO := hide hso
    have HB := hide hB
    clear hrow hso hv hB
    gi_wp2
    refine ⟨by simp, .inl ⟨_, _, rfl, run_takeDeferred hK, ?_⟩⟩
    exact ⟨_, results_tmp rfl _ _ _, _, rfl, SOwn.lower ⟨ownsRow_putObj (unhide HSO).1 _ hK rfl, (unhide HSO).2⟩ (by omega), (unhide HB).trans (belowK_b (w := w) (Nat.le_refl _) W D _ _ (by omega) hK rfl rfl)⟩
  case stop =>
    rintro D c pre W _ _ h _
    exact h.elim
end Go.Proofs.YtdfdalkcljfghaaGreat

namespace Go.Proofs.YtdfdalkcljfghaaGreat
open Go.RowKit

set_option maxRecDepth 100000 in
set_option maxHeartbeats 1000000 in
theorem put_sectors (N : Nat) (k : UInt8) (s : Nat) (hs : s < 18446744073709551616) (v : Value) (b : List UInt8) (w : World) (hN : N ≤ w.heap.size) (hr : RowV N w v b) :
    Calls Tryz.prog 126 #[.int .u8 ((k.toNat : Nat) : Int), .int .u64 (s : Int), v] w fun e w' => ∃ v', e = .returned v' ∧ SOwn w.heap.size w' v' (putF k s b) ∧ Below w.heap.size w w' := by
  by_cases hb : b.length ≤ 4000
  · have H1 := hide (rowOf_walk N k s hs v b w hN hr hb)
    have HE := hide (putF_cut hb k s)
    obtain ⟨a, len, cap, rfl, q1, q2, q3, hrow⟩ := hr
    have hlen : b.length = len := hrow.1
    have hl4 : len ≤ 4000 := by omega
    have hrl : (rowF k s b).length = 17 + len := by rw [rowF_length, hlen]
    generalize rowF k s b = r at *
    generalize putF k s b = l at *
    have hk := k.toNat_lt
    clear hrow hlen hb
    go_enter Tryz.func126, Tryz.ntmps126
    go_wp2_with fail
    refine (unhide H1).mono ?_
    rintro e w1 ⟨v1, rfl, hO1, hb1⟩
    have H2 := hide (cut_walk w1.heap.size v1 r w1 (Nat.le_refl _) (hO1.row (by omega)) (by omega) (by omega))
    have Hb1 := hide hb1
    clear hO1 hb1 H1
    go_wp2_with fail
    refine (unhide H2).mono ?_
    rintro e w2 ⟨v2, rfl, hO2, hb2⟩
    have hz := (unhide Hb1).size
    have HO2 := hide (hO2.lower hz)
    have Hb2 := hide ((unhide Hb1).trans (hb2.mono hz))
    clear hO2 hb2 H2 Hb1
    go_wp2_with fail
    go_ret
    exact ⟨_, rfl, by rw [unhide HE]; exact unhide HO2, unhide Hb2⟩
  · have HE := hide (putF_none hb k s)
    obtain ⟨a, len, cap, rfl, q1, q2, q3, hrow⟩ := hr
    have hlen : b.length = len := hrow.1
    have hl4 : 4000 < len := by omega
    have hl5 : len ≤ 140737488351232 := hrow.2.1
    clear hrow hlen hb
    go_enter Tryz.func126, Tryz.ntmps126
    go_wp2
    go_ret
    exact ⟨_, rfl, by rw [unhide HE]; exact SOwn.nil _ _, Below.refl _ _⟩
end Go.Proofs.YtdfdalkcljfghaaGreat
