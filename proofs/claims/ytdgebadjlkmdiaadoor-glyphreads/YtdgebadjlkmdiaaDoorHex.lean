/-
  strconv.AppendInt to sixteen: the number's digits behind what the slice holds.
-/
import Derived.Test.YtdgebadjlkmdiaaDoorOwn
namespace Go.Proofs.YtdgebadjlkmdiaaDoor
open Go.RowKit

/-- What the library's variables hold, as far as every statement needs it. -/
structure Env (w : World) : Prop where
  es : ∃ tp p, w.cell? ⟨6, 0, none⟩ = some (.iface tp p)
  er : ∃ tp p, w.cell? ⟨7, 0, none⟩ = some (.iface tp p)
  db : w.cell? ⟨9, 15, none⟩ = some (.int .u8 4)
  sz : 10 ≤ w.heap.size

theorem cell_below {B : Nat} {w w' : World} (h : Below B w w') {b i : Nat} (hb : b < B) : w'.cell? ⟨b, i, none⟩ = w.cell? ⟨b, i, none⟩ := by
  simp only [World.cell?, h.block b hb]

theorem Env.below {B : Nat} {w w' : World} (h : Env w) (hb : Below B w w') (hB : 10 ≤ B) : Env w' := by
  have c : ∀ b i, b < 10 → w'.cell? ⟨b, i, none⟩ = w.cell? ⟨b, i, none⟩ := fun b i hlt => cell_below hb (by omega)
  refine ⟨?_, ?_, ?_, Nat.le_trans h.sz hb.size⟩
  · rw [c 6 0 (by decide)]; exact h.es
  · rw [c 7 0 (by decide)]; exact h.er
  · rw [c 9 15 (by decide)]; exact h.db

set_option maxHeartbeats 4000000 in
set_option maxRecDepth 1000000 in
theorem tz64_walk (w : World) (hE : Env w) : Calls Tryd.prog 75 #[.int .u64 16] w fun e w' => e = .returned (.int .i64 4) ∧ w' = w := by
  have hx : (IntKind.u64.wrap (bits BinOp.and IntKind.u64 16 (IntKind.u64.wrap (-16)) * 285870213051353865) / 288230376151711744).toNat = 15 := by decide +kernel
  have hdb := hE.db
  go_enter Tryd.func75, Tryd.ntmps75
  go_wp2
  go_ret
  exact ⟨rfl, rfl⟩

set_option maxHeartbeats 4000000 in
set_option maxRecDepth 1000000 in
theorem tz_walk (w : World) (hE : Env w) : Calls Tryd.prog 66 #[.int .u64 16] w fun e w' => e = .returned (.int .i64 4) ∧ w' = w := by
  go_enter Tryd.func66, Tryd.ntmps66
  go_wp2_with (go_at_call 75; refine (tz64_walk _ hE).mono ?_; rintro e w' ⟨rfl, rfl⟩)
  go_ret
  exact ⟨rfl, rfl⟩

theorem hexd_at (n : Nat) (h : n < 16) (hq : _) : (⟨#[48, 49, 50, 51, 52, 53, 54, 55, 56, 57, 97, 98, 99, 100, 101, 102, 103, 104, 105, 106, 107, 108, 109, 110, 111, 112, 113, 114, 115, 116, 117, 118, 119, 120, 121, 122]⟩ : ByteArray)[n]'hq = hexd n := by
  match n with
  | 0 | 1 | 2 | 3 | 4 | 5 | 6 | 7 | 8 | 9 | 10 | 11 | 12 | 13 | 14 | 15 => rfl
  | n + 16 => omega

theorem set_drop {α : Type} : ∀ (cs : List α) (j : Nat) (x : α), j < cs.length → (cs.set j x).drop j = x :: cs.drop (j + 1)
  | [], j, x, h => by simp at h
  | c :: cs, 0, x, _ => by simp
  | c :: cs, j + 1, x, h => by
    simp only [List.set_cons_succ, List.drop_succ_cons]
    exact set_drop cs j x (by simpa using h)
theorem and15 (x : Nat) (h : x < 4294967296) : bits .and .u64 (x : Int) 15 = ((x % 16 : Nat) : Int) := by
  have h1 := bits_and_u64_nat x 15 (by omega) (by omega)
  have h2 := Nat.and_two_pow_sub_one_eq_mod x 4
  rw [show (2 : Nat) ^ 4 - 1 = 15 from rfl, show (2 : Nat) ^ 4 = 16 from rfl] at h2
  rw [h2] at h1
  exact h1

theorem slice_tail (b i : Nat) (h1 : 1 ≤ i) (h2 : i ≤ 65) (w : World) :
    (Instr.sliceAt 101 (.pointer (some ⟨b, 0, none⟩)) (some (.int .i64 ((i : Int) - 1))) none none).run Tryd.prog w = .ok (.slice (some ⟨b, i - 1, none⟩) (66 - i) (66 - i)) w := by
  have hal : Tryd.prog.arrayLen 101 = 65 := by kernel_rfl
  have hel : Tryd.prog.elem 101 = 5 := by kernel_rfl
  have ht : Tryd.prog.underlying 101 = some (.array (Tryd.prog.arrayLen 101) (Tryd.prog.elem 101)) := by rw [hal, hel]; exact Tryd.underlying101
  have hi : ((i : Int) - 1).toNat = i - 1 := by omega
  rw [run_sliceAt_array_l w 101 ⟨b, 0, none⟩ ht .i64 _ (by omega) (by rw [hal]; omega), hal, hel, hi]
  have hne : ¬ 65 = i - 1 := by omega
  have hs : (sizeOf 5).run Tryd.prog w = .ok 1 w := Tryd.sizeOf5 w
  rw [hs]
  simp only [Result.andThen, slicedAt, if_neg hne, Addr.add_lit]
  rw [show 65 - (i - 1) = 66 - i by omega]
  simp

set_option maxHeartbeats 8000000 in
set_option maxRecDepth 1000000 in
theorem bits_walk (B : Nat) (v : Value) (l : List UInt8) (u : Nat) (hu : u < 4294967296) (w : World) (hE : Env w) (hown : Own B w v l) (hB : B ≤ w.heap.size) (hlim : l.length + 16 ≤ 140737488355328) :
    Calls Tryd.prog 54 #[v, .int .u64 (u : Int), .int .i64 16, .bool false, .bool true] w fun e w' => ∃ v', e = .returned (.tuple #[v', .string ⟨#[]⟩]) ∧ Own B w' v' (l ++ hexL u) ∧ w.grownBy w' v.ownBlock := by
  have hv : v.oneCell' = true := by
    rcases hown.2 with ⟨e, _⟩ | ⟨g, cap, cur, e, _⟩ <;> rw [e] <;> rfl
  go_enter Tryd.func54, Tryd.ntmps54
  go_wp2_with (first | (go_at_call 66; refine (tz_walk _ (hE.below ((Below.refl _ w).alloc (Nat.le_refl _) _) hE.sz)).mono ?_; rintro e w' ⟨rfl, rfl⟩) | go_in)
  go_loopw [1, 13] (fun cu ci wr => ∃ (x i k : Nat) (ds : List UInt8) (cs : List Value), cu = .int .u64 (x : Int) ∧ ci = .int .i64 (i : Int) ∧ i + ds.length = 65 ∧ ds.length + k = 7 ∧ Hid (x < 16 ^ (k + 1)) ∧ hexL u = hexL x ++ ds ∧ Arr wr w.heap.size cs ∧ cs.length = 65 ∧ cs.drop i = Lib.byteCells ds ∧ Below w.heap.size w wr) (fun cu _ _ => (Lib.intOf cu).toNat)
  case atStart =>
    refine ⟨u, 65, 7, [], Tryd.zeroCells101.toList, rfl, rfl, rfl, rfl, ?_, by simp, ⟨_, _, heap_alloc_new w _, rfl⟩, ?_, ?_, (Below.refl _ w).alloc (Nat.le_refl _) _⟩
    · exact hide (by omega)
    · decide +kernel
    · rw [List.drop_of_length_le (by decide +kernel)]
      rfl
  case round =>
    obtain ⟨x, i, k, ds, cs, rfl, rfl, hi, hk, hx, hhex, hA, hcl, hcd, hbw⟩ := hrel
    have hx32 : x < 4294967296 := by
      have h1 := unhide hx
      have h2 : 16 ^ (k + 1) ≤ 16 ^ 8 := Nat.pow_le_pow_right (by decide) (by omega)
      exact Nat.lt_of_lt_of_le h1 h2
    have hcell := hA.cell (i := i - 1) (v := cs[i - 1]'(by omega)) (List.getElem?_eq_getElem _)
    have hfree := hA.free (i - 1)
    by_cases hge : 16 ≤ x
    · have hand := and15 x hx32
      have hk1 : 1 ≤ k := by
        cases k with
        | zero => have := unhide hx; simp at this; omega
        | succ k => omega
      go_wp2
      refine ⟨⟨x / 16, i - 1, k - 1, hexd (x % 16) :: ds, _, ?_, ?_, ?_, ?_, ?_, ?_, hA.set _ _, ?_, ?_, ?_⟩, ?_⟩
      · congr 1
      · congr 1; omega
      · simp; omega
      · simp; omega
      · refine hide ?_
        have h1 := unhide hx
        obtain ⟨j, rfl⟩ : ∃ j, k = j + 1 := ⟨k - 1, by omega⟩
        rw [Nat.add_sub_cancel, Nat.div_lt_iff_lt_mul (by decide)]
        rw [Nat.pow_succ] at h1
        exact h1
      · rw [hhex, hexL_step hge, List.append_assoc]
        rfl
      · rw [List.length_set]; exact hcl
      · rw [set_drop cs _ _ (by omega), show i - 1 + 1 = i by omega, hcd, hexd_at _ (by omega)]
        rfl
      · exact hbw.setCell (by simp) _
      · simp only [Lib.intOf]
        omega
    · have hhex2 : hexL u = hexd x :: ds := by rw [hhex, hexL_small (by omega)]; rfl
      have hdx := hexd_at x (by omega)
      have hsl := slice_tail w.heap.size i (by omega) (by omega)
      have hA2 := hA.set (i - 1) (.int .u8 ((hexd x).toNat : Nat))
      have hbw2 : Below w.heap.size w (wr.setCell ⟨w.heap.size, i - 1, none⟩ (.int .u8 ((hexd x).toNat : Nat))) := hbw.setCell (by simp) _
      have hown2 := hown.keepB hbw2
      have hset : (cs.set (i - 1) (.int .u8 ((hexd x).toNat : Nat))).drop (i - 1) = Lib.byteCells (hexd x :: ds) := by
        rw [set_drop cs _ _ (by omega), show i - 1 + 1 = i by omega, hcd]
        rfl
      have hHex2 := hide hhex2
      clear hhex hhex2
      go_wp2_with (refine wpList_app rfl _ _ rfl B v l rfl hown2 ⟨w.heap.size, i - 1, none⟩ (66 - i) (66 - i) rfl (hexd x :: ds) ?_ ?_ ?_ ?_ ?_)
      · first | omega | (simp; omega)
      · intro j hj
        refine hA2.cell ?_
        have hlt : j < (hexd x :: ds).length := by simp; omega
        rw [← List.getElem?_drop, hset, Lib.byteCells, List.getElem?_map, List.getElem?_eq_getElem hlt]
        rfl
      · first | omega | (simp; omega)
      · have := hbw.size; omega
      · intro v' w' hO hG
        go_wp2_with fail
        go_ret2
        rw [← unhide hHex2] at hO
        exact ⟨v', rfl, hO, grown_trans hbw2 hG⟩

set_option maxHeartbeats 8000000 in
set_option maxRecDepth 1000000 in
theorem appendUint_walk (B : Nat) (v : Value) (l : List UInt8) (u : Nat) (hu : u < 4294967296) (w : World) (hE : Env w) (hown : Own B w v l) (hB : B ≤ w.heap.size) (hlim : l.length + 16 ≤ 140737488355328) :
    Calls Tryd.prog 45 #[v, .int .u64 (u : Int), .int .i64 16] w fun e w' => ∃ v', e = .returned v' ∧ Own B w' v' (l ++ hexL u) ∧ w.grownBy w' v.ownBlock := by
  have hOwn := hide hown
  clear hown
  go_enter Tryd.func45, Tryd.ntmps45
  go_wp2_with (go_at_call 54; refine (bits_walk B v l u hu w hE (unhide hOwn) hB hlim).mono ?_; rintro e w' ⟨v', rfl, h1, h2⟩)
  go_ret
  exact ⟨v', rfl, h1, h2⟩

set_option maxHeartbeats 8000000 in
set_option maxRecDepth 1000000 in
theorem appendInt0_walk (B : Nat) (v : Value) (l : List UInt8) (u : Nat) (hu : u < 4294967296) (w : World) (hE : Env w) (hown : Own B w v l) (hB : B ≤ w.heap.size) (hlim : l.length + 16 ≤ 140737488355328) :
    Calls Tryd.prog 38 #[v, .int .i64 (u : Int), .int .i64 16] w fun e w' => ∃ v', e = .returned v' ∧ Own B w' v' (l ++ hexL u) ∧ w.grownBy w' v.ownBlock := by
  have hOwn := hide hown
  clear hown
  go_enter Tryd.func38, Tryd.ntmps38
  go_wp2_with (go_at_call 45; refine (appendUint_walk B v l u hu w hE (unhide hOwn) hB hlim).mono ?_; rintro e w' ⟨v', rfl, h1, h2⟩)
  go_ret
  exact ⟨v', rfl, h1, h2⟩

set_option maxHeartbeats 8000000 in
set_option maxRecDepth 1000000 in
theorem appendInt_walk (B : Nat) (v : Value) (l : List UInt8) (u : Nat) (hu : u < 4294967296) (w : World) (hE : Env w) (hown : Own B w v l) (hB : B ≤ w.heap.size) (hlim : l.length + 16 ≤ 140737488355328) :
    Calls Tryd.prog 30 #[v, .int .i64 (u : Int), .int .i64 16] w fun e w' => ∃ v', e = .returned v' ∧ Own B w' v' (l ++ hexL u) ∧ w.grownBy w' v.ownBlock := by
  have hOwn := hide hown
  clear hown
  go_enter Tryd.func30, Tryd.ntmps30
  go_wp2_with (go_at_call 38; refine (appendInt0_walk B v l u hu w hE (unhide hOwn) hB hlim).mono ?_; rintro e w' ⟨v', rfl, h1, h2⟩)
  go_ret
  exact ⟨v', rfl, h1, h2⟩
end Go.Proofs.YtdgebadjlkmdiaaDoor
