/-
  What stands in a bank, read: its sectors; whether a row counts, takes a frame, outranks another one.
-/
import Derived.Test.YtjebejdcjfnleaaJAppend
namespace Go.Proofs.Ytjebejdcjfnleaa
open Go.RowKit

def someSec (l : List Sec) (n k : Nat) : List Sec := l.take k ++ List.replicate (n - k) zeroS
theorem someSec_len {l : List Sec} {n k : Nat} (hl : l.length = n) (h : k ≤ n) : (someSec l n k).length = n := by simp [someSec]; omega
theorem someSec_64 {l : List Sec} (hs : ∀ s ∈ l, s.length = 64) (n k : Nat) : ∀ s ∈ someSec l n k, s.length = 64 := by
  intro s h
  rcases List.mem_append.1 h with h | h
  · exact hs s (List.mem_of_mem_take h)
  · rw [(List.mem_replicate.1 h).2]; exact zeroS_len
theorem someSec_step {l : List Sec} {n k : Nat} (hl : l.length = n) (h : k < n) : (someSec l n k).set k (l.getD k []) = someSec l n (k + 1) := by
  unfold someSec
  have e : (l.take k).length = k := by rw [List.length_take]; omega
  rw [List.set_append_right _ _ (by omega), e, Nat.sub_self, show n - k = (n - (k + 1)) + 1 by omega, List.replicate_succ, List.set_cons_zero, take_snoc [] l k (by omega), List.append_assoc]
  rfl
section
variable {F D : List Nat} {w w' : World} {m p : Nat} {d : DM} {x : MX}
set_option maxHeartbeats 1600000 in
set_option maxRecDepth 100000 in
theorem sectors_walk (h : PMap F D w m p d x) (k : Nat) (hk : k < x.sz.length) : Calls Try.prog 30 #[.pointer (some ⟨m, 0, none⟩), .int .i64 (k : Int)] w fun e w' =>
    e = .returned (.slice (some ⟨w.heap.size, 0, none⟩) (x.sz.getD k 0) (x.sz.getD k 0)) ∧ SecAt w' w.heap.size (bankL x.sz k d.now) ∧ Below w.heap.size w w' := by
  have HM := hide h
  have hdl : d.now.length = d.kept.length := h.dev.ok.now
  have hL := bankL_len (K := d.now) hk (by rw [hdl]; exact h.fits)
  have hS : ∀ s ∈ bankL x.sz k d.now, s.length = 64 := bankL_sec h.dev.ok.nowS
  have hpart := bnd_part hk
  have hsum := h.map.sum
  have HSZ := hide (msize_walk h.map (k : Int))
  rw [size_some hk] at HSZ
  have HRD : ∀ (w' : World) (i : Nat), Below w.heap.size w w' → i < x.sz.getD k 0 → Hid (Calls Try.prog 43 #[.pointer (some ⟨m, 0, none⟩), .int .i64 (k : Int), .int .i64 (i : Int)] w' fun e w2 => e = .returned (.tuple #[secV ((bankL x.sz k d.now).getD i []), .int .i64 0]) ∧ Below w'.heap.size w' w2) := fun w' i hb hi => by
    have := mread_walk (h.below hb) (k : Int) (i : Int) (by omega)
    rw [read_part h.fits hk hi] at this
    rw [bankL_get hi]
    exact hide this
  have hn : x.sz.getD k 0 ≤ 4096 := by omega
  clear h hsum hpart hdl
  generalize bankL x.sz k d.now = l at *
  generalize x.sz.getD k 0 = n at *
  have HLN := hide hL
  have HS := hide hS
  clear hL hS
  go_enter Try.func30, Try.ntmps30
  go_wp2_with fail
  refine (unhide HSZ).mono ?_
  rintro e w1 ⟨rfl, hb1, hs1⟩
  have HB1 := hide hb1
  clear hb1 HSZ
  go_wp2_with (refine wpList_make52 _ _ n hn rfl rfl rfl rfl ?_)
  intro w2 hA2 hb2 hs2
  have HA2 := hide hA2
  have HB2 := hide ((unhide HB1).trans (hb2.mono (by omega)))
  clear hA2 hb2 HB1 hs1
  go_wp2
  go_loopw [13] (fun ci wr => ∃ k : Nat, k ≤ n ∧ ci = .int .i64 (k : Int) ∧ Arr wr w.heap.size (secsV (someSec l n k)) ∧ Below w.heap.size w wr) (fun ci _ => n - (intOf ci).toNat)
  case atStart => exact ⟨0, by omega, rfl, by simpa [someSec] using unhide HA2, unhide HB2⟩
  case round =>
    obtain ⟨i, hi, rfl, hA, hb⟩ := hrel
    clear HA2 HB2
    have HA := hide hA
    have HB := hide hb
    clear hA hb
    by_cases hlt : i < n
    · have H1 := HRD wr i (unhide HB) hlt
      have hsl : (l.getD i []).length = 64 := by
        rw [List.getD_eq_getElem?_getD, List.getElem?_eq_getElem (by rw [unhide HLN]; exact hlt)]
        exact unhide HS _ (List.getElem_mem _)
      have HST := hide (someSec_step (l := l) (unhide HLN) hlt)
      generalize l.getD i [] = s at *
      have HSL := hide hsl
      clear hsl HRD
      go_wp2_with fail
      refine (unhide H1).mono ?_
      rintro e w2 ⟨rfl, hb2⟩
      have hA2 := (unhide HA).below hb2
      have HTH := hide (hA2.secThere (someSec_64 (unhide HS) n i) (i := i) (by rw [someSec_len (unhide HLN) hi]; exact hlt))
      have HSE := hide (hA2.secSet (someSec_64 (unhide HS) n i) (i := i) (by rw [someSec_len (unhide HLN) hi]; exact hlt) (unhide HSL))
      have HB2 := hide ((unhide HB).trans (hb2.mono (unhide HB).size))
      clear hA2 hb2 HA HB H1
      go_wp2_with (refine wpList_store_mid rfl 75 _ _ rfl w.heap.size (i * 64) (bytesV s).toArray rfl rfl (by simpa [bytesV_length, unhide HSL] using unhide HTH) (by simpa [bytesV_length, unhide HSL] using info75) (all_oneCell_toArray (bytesV_one _)) ?_)
      go_wp2_with fail
      go_roundw
      case rel =>
        refine ⟨i + 1, by omega, by go_num, ?_, ?_⟩
        · rw [← unhide HST]
          simpa using unhide HSE
        · exact (unhide HB2).grown (setCells_grown _ _ _ _) (unhide HB2).size (fun j hj => by simp at hj; omega)
      case measure => simp [intOf]; omega
    · obtain rfl : i = n := by omega
      go_wp2_with fail
      go_ret
      refine ⟨rfl, ?_, unhide HB⟩
      have hA := unhide HA
      have e : someSec l i i = l := by simp [someSec, ← unhide HLN]
      rw [e] at hA
      exact ⟨hA.lt, fun i hi => hA.sec (unhide HS) hi, unhide HS⟩
end

/-- A row as a value. -/
def rowV (x y : Nat) (v : Value) : Value := .agg #[.int .u64 (x : Int), .int .u64 (y : Int), v]
set_option maxHeartbeats 800000 in
set_option maxRecDepth 100000 in
theorem counts_walk (x y n c : Nat) (a : Option Addr) (w : World) : Calls Try.prog 33 #[.agg #[.int .u64 (x : Int), .int .u64 (y : Int), .slice a n c]] w fun e w' => e = .returned (.bool (decide (0 < n))) ∧ Below w.heap.size w w' := by
  go_enter Try.func33, Try.ntmps33
  go_wp2_with (refine wpList_box 54 _ [.int .u64 (x : Int), .int .u64 (y : Int), .slice a n c] rfl rfl rfl ?_)
  intro w1 hA hb hs
  have hc2 := hA.cell (i := 2) rfl
  have HB := hide hb
  clear hA hb
  go_wp2
  go_ret
  refine ⟨?_, unhide HB⟩
  have : ((0 : Int) < (n : Int)) ↔ (0 < n) := by omega
  first | rfl | (congr 2; exact decide_eq_decide.2 this) | simp
set_option maxHeartbeats 1600000 in
set_option maxRecDepth 100000 in
theorem takes_walk (r : RW) (v : Value) (a : Option Addr) (c : Nat) (hv : v = .slice a r.bodies.length c) (k : UInt8) (s : Nat) (hs64 : s < 18446744073709551616) (w : World) : Calls Try.prog 32 #[.agg #[.int .u64 (r.base : Int), .int .u64 (r.last : Int), v], .int .u8 ((k.toNat : Nat) : Int), .int .u64 (s : Int)] w fun e w' =>
    e = .returned (.bool (r.takes k s)) ∧ Below w.heap.size w w' := by
  subst hv
  have HC := fun w' => hide (counts_walk r.base r.last r.bodies.length c a w')
  have HT : Hid (r.takes k s = if r.bodies.length = 0 then decide (((k.toNat : Nat) : Int) = 1) else decide (((k.toNat : Nat) : Int) = 2) && decide (s = r.last + 1)) := hide (by
    have e1 : (k = 1) ↔ (((k.toNat : Nat) : Int) = 1) := ⟨fun h => by rw [h]; rfl, fun h => UInt8.toNat_inj.1 (by simp; omega)⟩
    have e2 : (k = 2) ↔ (((k.toNat : Nat) : Int) = 2) := ⟨fun h => by rw [h]; rfl, fun h => UInt8.toNat_inj.1 (by simp; omega)⟩
    unfold RW.takes
    rw [decide_eq_decide.2 e1, decide_eq_decide.2 e2])
  generalize r.takes k s = out at *
  generalize r.bodies.length = n at *
  generalize r.base = x at *
  generalize r.last = y at *
  generalize k.toNat = kn at *
  by_cases h0 : n = 0
  · subst h0
    rw [if_pos rfl] at HT
    clear hs64
    go_enter Try.func32, Try.ntmps32
    go_wp2_with (refine wpList_box 54 _ [.int .u64 (x : Int), .int .u64 (y : Int), .slice a 0 c] rfl rfl rfl ?_)
    intro w1 hA1 hb1 hs1
    have HA1 := hide hA1
    have HB1 := hide hb1
    clear hA1 hb1
    go_wp2_with (refine wpList_loadAll 54 _ w.heap.size [.int .u64 (x : Int), .int .u64 (y : Int), .slice a 0 c] _ rfl rfl rfl (unhide HA1) Try.underlying54 rfl (by kernel_rfl) ?_)
    go_wp2_with fail
    refine (unhide (HC w1)).mono ?_
    rintro e w2 ⟨rfl, hb2⟩
    have HB2 := hide ((unhide HB1).trans (hb2.mono (unhide HB1).size))
    clear hb2 HB1
    go_wp2
    go_ret
    refine ⟨?_, unhide HB2⟩
    rw [unhide HT]
    first | rfl | (congr 2)
  · rw [if_neg h0] at HT
    have hn0 : 0 < n := by omega
    by_cases hk : ((kn : Nat) : Int) = 2
    · obtain rfl : kn = 2 := by omega
      have HT2 : Hid (out = decide (s = y + 1)) := hide (by rw [unhide HT]; simp)
      by_cases hs0 : s = 0
      · subst hs0
        have HT3 : Hid (out = false) := hide (by rw [unhide HT2]; simp)
        clear HT hs64
        go_enter Try.func32, Try.ntmps32
        go_wp2_with (refine wpList_box 54 _ [.int .u64 (x : Int), .int .u64 (y : Int), .slice a n c] rfl rfl rfl ?_)
        intro w1 hA1 hb1 hs1
        have HA1 := hide hA1
        have HB1 := hide hb1
        clear hA1 hb1
        go_wp2_with (refine wpList_loadAll 54 _ w.heap.size [.int .u64 (x : Int), .int .u64 (y : Int), .slice a n c] _ rfl rfl rfl (unhide HA1) Try.underlying54 rfl (by kernel_rfl) ?_)
        go_wp2_with fail
        refine (unhide (HC w1)).mono ?_
        rintro e w2 ⟨rfl, hb2⟩
        have HB2 := hide ((unhide HB1).trans (hb2.mono (unhide HB1).size))
        clear hb2 HB1
        go_wp2
        go_ret
        refine ⟨?_, unhide HB2⟩
        rw [unhide HT3]
        rfl
      · have hs1 : 1 ≤ s := by omega
        obtain ⟨t, rfl⟩ : ∃ t, s = t + 1 := ⟨s - 1, by omega⟩
        have hne : (((t + 1 : Nat) : Int) != 0) = true := by simp; omega
        have hwr : IntKind.u64.wrap (((t + 1 : Nat) : Int) - 1) = (t : Int) := by rw [IntKind.wrap_u64]; omega
        have hwr2 : ((t + 1 : Nat) : Int) - 1 = (t : Int) := by omega
        have hwt : IntKind.u64.wrap (t : Int) = (t : Int) := by rw [IntKind.wrap_u64]; omega
        have HT3 : Hid (out = decide ((t : Int) = (y : Int))) := hide (by
          rw [unhide HT2]; exact decide_eq_decide.2 (by omega))
        obtain ⟨z, hz⟩ : ∃ z : Int, z = ((t + 1 : Nat) : Int) := ⟨_, rfl⟩
        rw [← hz] at hne hwr hwr2 ⊢
        clear HT hs64 hs0 hs1 HT2 hz hk
        go_enter Try.func32, Try.ntmps32
        go_wp2_with (refine wpList_box 54 _ [.int .u64 (x : Int), .int .u64 (y : Int), .slice a n c] rfl rfl rfl ?_)
        intro w1 hA1 hb1 hs1
        have HA1 := hide hA1
        have HB1 := hide hb1
        clear hA1 hb1
        go_wp2_with (refine wpList_loadAll 54 _ w.heap.size [.int .u64 (x : Int), .int .u64 (y : Int), .slice a n c] _ rfl rfl rfl (unhide HA1) Try.underlying54 rfl (by kernel_rfl) ?_)
        go_wp2_with fail
        refine (unhide (HC w1)).mono ?_
        rintro e w2 ⟨rfl, hb2⟩
        have hc1 := ((unhide HA1).below hb2).cell (i := 1) rfl
        have HB2 := hide ((unhide HB1).trans (hb2.mono (unhide HB1).size))
        clear hb2 HB1 HA1
        go_wp2
        go_ret
        refine ⟨?_, unhide HB2⟩
        rw [unhide HT3]
        first | rfl | (congr 2) | simp
    · have hkf : (((kn : Nat) : Int) == 2) = false := by simpa using hk
      have HT3 : Hid (out = false) := hide (by rw [unhide HT, decide_eq_false hk]; simp)
      clear HT hs64
      go_enter Try.func32, Try.ntmps32
      go_wp2_with (refine wpList_box 54 _ [.int .u64 (x : Int), .int .u64 (y : Int), .slice a n c] rfl rfl rfl ?_)
      intro w1 hA1 hb1 hs1
      have HA1 := hide hA1
      have HB1 := hide hb1
      clear hA1 hb1
      go_wp2_with (refine wpList_loadAll 54 _ w.heap.size [.int .u64 (x : Int), .int .u64 (y : Int), .slice a n c] _ rfl rfl rfl (unhide HA1) Try.underlying54 rfl (by kernel_rfl) ?_)
      go_wp2_with fail
      refine (unhide (HC w1)).mono ?_
      rintro e w2 ⟨rfl, hb2⟩
      have HB2 := hide ((unhide HB1).trans (hb2.mono (unhide HB1).size))
      clear hb2 HB1
      go_wp2
      go_ret
      refine ⟨?_, unhide HB2⟩
      rw [unhide HT3]
      rfl
end Go.Proofs.Ytjebejdcjfnleaa
