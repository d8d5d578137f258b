/-
  What stands in a bank, read: its sectors; whether a row counts, takes a frame, outranks another one. Slices of values of one cell each: what is owned, appended to, read; slices of bodies.
-/
import Derived.Test.YtdfdalkcljfghaaGreatJAppend
namespace Go.Proofs.YtdfdalkcljfghaaGreat
open Go.RowKit

def someSec (l : List Sec) (n k : Nat) : List Sec := l.take k ++ List.replicate (n - k) zeroS
theorem someSec_len {l : List Sec} {n k : Nat} (hl : l.length = n) (h : k ≤ n) : (someSec l n k).length = n := by simp [someSec]; omega
theorem someSec_64 {l : List Sec} (hs : ∀ s ∈ l, s.length = 64) (n k : Nat) : ∀ s ∈ someSec l n k, s.length = 64 := by
  intro s h
  rcases List.mem_append.1 h with h | h
  · exact hs s (List.mem_of_mem_take h)
  · rw [(List.mem_replicate.1 h).2]; exact zeroS_len
theorem someSec_step {l : List Sec} {n k : Nat} (hl : l.length = n) (h : k < n) : (someSec l n k).set k (l.getD k []) = someSec l n (k + 1) := by
  unfold someSec
  have e : (l.take k).length = k := by rw [List.length_take]; omega
  rw [List.set_append_right _ _ (by omega), e, Nat.sub_self, show n - k = (n - (k + 1)) + 1 by omega, List.replicate_succ, List.set_cons_zero, take_snoc [] l k (by omega), List.append_assoc]
  rfl
section
variable {F D : List Nat} {w w' : World} {m p : Nat} {d : DM} {x : MX}
set_option maxHeartbeats 1600000 in
set_option maxRecDepth 100000 in
theorem sectors_walk (h : PMap F D w m p d x) (k : Nat) (hk : k < x.sz.length) : Calls Tryz.prog 114 #[.pointer (some ⟨m, 0, none⟩), .int .i64 (k : Int)] w fun e w' =>
    e = .returned (.slice (some ⟨w.heap.size, 0, none⟩) (x.sz.getD k 0) (x.sz.getD k 0)) ∧ SecAt w' w.heap.size (bankL x.sz k d.now) ∧ Below w.heap.size w w' := by
  have HM := hide h
  have hdl : d.now.length = d.kept.length := h.dev.ok.now
  have hL := bankL_len (K := d.now) hk (by rw [hdl]; exact h.fits)
  have hS : ∀ s ∈ bankL x.sz k d.now, s.length = 64 := bankL_sec h.dev.ok.nowS
  have hpart := bnd_part hk
  have hsum := h.map.sum
  have HSZ := hide (msize_walk h.map (k : Int))
  rw [size_some hk] at HSZ
  have HRD : ∀ (w' : World) (i : Nat), Below w.heap.size w w' → i < x.sz.getD k 0 → Hid (Calls Tryz.prog 79 #[.pointer (some ⟨m, 0, none⟩), .int .i64 (k : Int), .int .i64 (i : Int)] w' fun e w2 => e = .returned (.tuple #[secV ((bankL x.sz k d.now).getD i []), .int .i64 0]) ∧ Below w'.heap.size w' w2) := fun w' i hb hi => by
    have := mread_walk (h.below hb) (k : Int) (i : Int) (by omega)
    rw [read_part h.fits hk hi] at this
    rw [bankL_get hi]
    exact hide this
  have hn : x.sz.getD k 0 ≤ 4096 := by omega
  clear h hsum hpart hdl
  generalize bankL x.sz k d.now = l at *
  generalize x.sz.getD k 0 = n at *
  have HLN := hide hL
  have HS := hide hS
  clear hL hS
  go_enter Tryz.func114, Tryz.ntmps114
  go_wp2_with fail
  refine (unhide HSZ).mono ?_
  rintro e w1 ⟨rfl, hb1, hs1⟩
  have HB1 := hide hb1
  clear hb1 HSZ
  go_wp2_with (refine wpList_make52 _ _ n hn rfl rfl rfl rfl ?_)
  intro w2 hA2 hb2 hs2
  have HA2 := hide hA2
  have HB2 := hide ((unhide HB1).trans (hb2.mono (by omega)))
  clear hA2 hb2 HB1 hs1
  go_wp2
  go_loopw [13] (fun ci wr => ∃ k : Nat, k ≤ n ∧ ci = .int .i64 (k : Int) ∧ Arr wr w.heap.size (secsV (someSec l n k)) ∧ Below w.heap.size w wr) (fun ci _ => n - (intOf ci).toNat)
  case atStart => exact ⟨0, by omega, rfl, by simpa [someSec] using unhide HA2, unhide HB2⟩
  case round =>
    obtain ⟨i, hi, rfl, hA, hb⟩ := hrel
    clear HA2 HB2
    have HA := hide hA
    have HB := hide hb
    clear hA hb
    by_cases hlt : i < n
    · have H1 := HRD wr i (unhide HB) hlt
      have hsl : (l.getD i []).length = 64 := by
        rw [List.getD_eq_getElem?_getD, List.getElem?_eq_getElem (by rw [unhide HLN]; exact hlt)]
        exact unhide HS _ (List.getElem_mem _)
      have HST := hide (someSec_step (l := l) (unhide HLN) hlt)
      generalize l.getD i [] = s at *
      have HSL := hide hsl
      clear hsl HRD
      go_wp2_with fail
      refine (unhide H1).mono ?_
      rintro e w2 ⟨rfl, hb2⟩
      have hA2 := (unhide HA).below hb2
      have HTH := hide (hA2.secThere (someSec_64 (unhide HS) n i) (i := i) (by rw [someSec_len (unhide HLN) hi]; exact hlt))
      have HSE := hide (hA2.secSet (someSec_64 (unhide HS) n i) (i := i) (by rw [someSec_len (unhide HLN) hi]; exact hlt) (unhide HSL))
      have HB2 := hide ((unhide HB).trans (hb2.mono (unhide HB).size))
      clear hA2 hb2 HA HB H1
      go_wp2_with (refine wpList_store_mid rfl 136 _ _ rfl w.heap.size (i * 64) (bytesV s).toArray rfl rfl (by simpa [bytesV_length, unhide HSL] using unhide HTH) (by simpa [bytesV_length, unhide HSL] using info136) (all_oneCell_toArray (bytesV_one _)) ?_)
      go_wp2_with fail
      go_roundw
      case rel =>
        refine ⟨i + 1, by omega, by go_num, ?_, ?_⟩
        · rw [← unhide HST]
          simpa using unhide HSE
        · exact (unhide HB2).grown (setCells_grown _ _ _ _) (unhide HB2).size (fun j hj => by simp at hj; omega)
      case measure => simp [intOf]; omega
    · obtain rfl : i = n := by omega
      go_wp2_with fail
      go_ret
      refine ⟨rfl, ?_, unhide HB⟩
      have hA := unhide HA
      have e : someSec l i i = l := by simp [someSec, ← unhide HLN]
      rw [e] at hA
      exact ⟨hA.lt, fun i hi => hA.sec (unhide HS) hi, unhide HS⟩
end

/-- A row as a value. -/
def rowV (x y : Nat) (v : Value) : Value := .agg #[.int .u64 (x : Int), .int .u64 (y : Int), v]
set_option maxHeartbeats 800000 in
set_option maxRecDepth 100000 in
theorem counts_walk (x y n c : Nat) (a : Option Addr) (w : World) : Calls Tryz.prog 117 #[.agg #[.int .u64 (x : Int), .int .u64 (y : Int), .slice a n c]] w fun e w' => e = .returned (.bool (decide (0 < n))) ∧ Below w.heap.size w w' := by
  go_enter Tryz.func117, Tryz.ntmps117
  go_wp2_with (refine wpList_box 162 _ [.int .u64 (x : Int), .int .u64 (y : Int), .slice a n c] rfl rfl rfl ?_)
  intro w1 hA hb hs
  have hc2 := hA.cell (i := 2) rfl
  have HB := hide hb
  clear hA hb
  go_wp2
  go_ret
  refine ⟨?_, unhide HB⟩
  have : ((0 : Int) < (n : Int)) ↔ (0 < n) := by omega
  first | rfl | (congr 2; exact decide_eq_decide.2 this) | simp
set_option maxHeartbeats 1600000 in
set_option maxRecDepth 100000 in
theorem takes_walk (r : RW) (v : Value) (a : Option Addr) (c : Nat) (hv : v = .slice a r.bodies.length c) (k : UInt8) (s : Nat) (hs64 : s < 18446744073709551616) (w : World) : Calls Tryz.prog 116 #[.agg #[.int .u64 (r.base : Int), .int .u64 (r.last : Int), v], .int .u8 ((k.toNat : Nat) : Int), .int .u64 (s : Int)] w fun e w' =>
    e = .returned (.bool (r.takes k s)) ∧ Below w.heap.size w w' := by
  subst hv
  have HC := fun w' => hide (counts_walk r.base r.last r.bodies.length c a w')
  have HT : Hid (r.takes k s = if r.bodies.length = 0 then decide (((k.toNat : Nat) : Int) = 1) else decide (((k.toNat : Nat) : Int) = 2) && decide (s = r.last + 1)) := hide (by
    have e1 : (k = 1) ↔ (((k.toNat : Nat) : Int) = 1) := ⟨fun h => by rw [h]; rfl, fun h => UInt8.toNat_inj.1 (by simp; omega)⟩
    have e2 : (k = 2) ↔ (((k.toNat : Nat) : Int) = 2) := ⟨fun h => by rw [h]; rfl, fun h => UInt8.toNat_inj.1 (by simp; omega)⟩
    unfold RW.takes
    rw [decide_eq_decide.2 e1, decide_eq_decide.2 e2])
  generalize r.takes k s = out at *
  generalize r.bodies.length = n at *
  generalize r.base = x at *
  generalize r.last = y at *
  generalize k.toNat = kn at *
  by_cases h0 : n = 0
  · subst h0
    rw [if_pos rfl] at HT
    clear hs64
    go_enter Tryz.func116, Tryz.ntmps116
    go_wp2_with (refine wpList_box 162 _ [.int .u64 (x : Int), .int .u64 (y : Int), .slice a 0 c] rfl rfl rfl ?_)
    intro w1 hA1 hb1 hs1
    have HA1 := hide hA1
    have HB1 := hide hb1
    clear hA1 hb1
    go_wp2_with (refine wpList_loadAll 162 _ w.heap.size [.int .u64 (x : Int), .int .u64 (y : Int), .slice a 0 c] _ rfl rfl rfl (unhide HA1) Tryz.underlying162 rfl (by kernel_rfl) ?_)
    go_wp2_with fail
    refine (unhide (HC w1)).mono ?_
    rintro e w2 ⟨rfl, hb2⟩
    have HB2 := hide ((unhide HB1).trans (hb2.mono (unhide HB1).size))
    clear hb2 HB1
    go_wp2
    go_ret
    refine ⟨?_, unhide HB2⟩
    rw [unhide HT]
    first | rfl | (congr 2)
  · rw [if_neg h0] at HT
    have hn0 : 0 < n := by omega
    by_cases hk : ((kn : Nat) : Int) = 2
    · obtain rfl : kn = 2 := by omega
      have HT2 : Hid (out = decide (s = y + 1)) := hide (by rw [unhide HT]; simp)
      by_cases hs0 : s = 0
      · subst hs0
        have HT3 : Hid (out = false) := hide (by rw [unhide HT2]; simp)
        clear HT hs64
        go_enter Tryz.func116, Tryz.ntmps116
        go_wp2_with (refine wpList_box 162 _ [.int .u64 (x : Int), .int .u64 (y : Int), .slice a n c] rfl rfl rfl ?_)
        intro w1 hA1 hb1 hs1
        have HA1 := hide hA1
        have HB1 := hide hb1
        clear hA1 hb1
        go_wp2_with (refine wpList_loadAll 162 _ w.heap.size [.int .u64 (x : Int), .int .u64 (y : Int), .slice a n c] _ rfl rfl rfl (unhide HA1) Tryz.underlying162 rfl (by kernel_rfl) ?_)
        go_wp2_with fail
        refine (unhide (HC w1)).mono ?_
        rintro e w2 ⟨rfl, hb2⟩
        have HB2 := hide ((unhide HB1).trans (hb2.mono (unhide HB1).size))
        clear hb2 HB1
        go_wp2
        go_ret
        refine ⟨?_, unhide HB2⟩
        rw [unhide HT3]
        rfl
      · have hs1 : 1 ≤ s := by omega
        obtain ⟨t, rfl⟩ : ∃ t, s = t + 1 := ⟨s - 1, by omega⟩
        have hne : (((t + 1 : Nat) : Int) != 0) = true := by simp; omega
        have hwr : IntKind.u64.wrap (((t + 1 : Nat) : Int) - 1) = (t : Int) := by rw [IntKind.wrap_u64]; omega
        have hwr2 : ((t + 1 : Nat) : Int) - 1 = (t : Int) := by omega
        have hwt : IntKind.u64.wrap (t : Int) = (t : Int) := by rw [IntKind.wrap_u64]; omega
        have HT3 : Hid (out = decide ((t : Int) = (y : Int))) := hide (by
          rw [unhide HT2]; exact decide_eq_decide.2 (by omega))
        obtain ⟨z, hz⟩ : ∃ z : Int, z = ((t + 1 : Nat) : Int) := ⟨_, rfl⟩
        rw [← hz] at hne hwr hwr2 ⊢
        clear HT hs64 hs0 hs1 HT2 hz hk
        go_enter Tryz.func116, Tryz.ntmps116
        go_wp2_with (refine wpList_box 162 _ [.int .u64 (x : Int), .int .u64 (y : Int), .slice a n c] rfl rfl rfl ?_)
        intro w1 hA1 hb1 hs1
        have HA1 := hide hA1
        have HB1 := hide hb1
        clear hA1 hb1
        go_wp2_with (refine wpList_loadAll 162 _ w.heap.size [.int .u64 (x : Int), .int .u64 (y : Int), .slice a n c] _ rfl rfl rfl (unhide HA1) Tryz.underlying162 rfl (by kernel_rfl) ?_)
        go_wp2_with fail
        refine (unhide (HC w1)).mono ?_
        rintro e w2 ⟨rfl, hb2⟩
        have hc1 := ((unhide HA1).below hb2).cell (i := 1) rfl
        have HB2 := hide ((unhide HB1).trans (hb2.mono (unhide HB1).size))
        clear hb2 HB1 HA1
        go_wp2
        go_ret
        refine ⟨?_, unhide HB2⟩
        rw [unhide HT3]
        first | rfl | (congr 2) | simp
    · have hkf : (((kn : Nat) : Int) == 2) = false := by simpa using hk
      have HT3 : Hid (out = false) := hide (by rw [unhide HT, decide_eq_false hk]; simp)
      clear HT hs64
      go_enter Tryz.func116, Tryz.ntmps116
      go_wp2_with (refine wpList_box 162 _ [.int .u64 (x : Int), .int .u64 (y : Int), .slice a n c] rfl rfl rfl ?_)
      intro w1 hA1 hb1 hs1
      have HA1 := hide hA1
      have HB1 := hide hb1
      clear hA1 hb1
      go_wp2_with (refine wpList_loadAll 162 _ w.heap.size [.int .u64 (x : Int), .int .u64 (y : Int), .slice a n c] _ rfl rfl rfl (unhide HA1) Tryz.underlying162 rfl (by kernel_rfl) ?_)
      go_wp2_with fail
      refine (unhide (HC w1)).mono ?_
      rintro e w2 ⟨rfl, hb2⟩
      have HB2 := hide ((unhide HB1).trans (hb2.mono (unhide HB1).size))
      clear hb2 HB1
      go_wp2
      go_ret
      refine ⟨?_, unhide HB2⟩
      rw [unhide HT3]
      rfl
end Go.Proofs.YtdfdalkcljfghaaGreat

namespace Go.Proofs.YtdfdalkcljfghaaGreat
open Go.RowKit

theorem full32 : ∃ i, Tryz.prog.info? 46 = some i ∧ i.zero = some (.slice none 0 0) ∧ i.size = 1 ∧ i.bytes = 24 := infoOf (by kernel_rfl)
theorem full9 : ∃ i, Tryz.prog.info? 9 = some i ∧ i.zero = some (.string ⟨#[]⟩) ∧ i.size = 1 ∧ i.bytes = 16 := infoOf (by kernel_rfl)
theorem full35 : ∃ i, Tryz.prog.info? 138 = some i ∧ i.zero = some (.slice none 0 0) ∧ i.size = 1 ∧ i.bytes = 24 := infoOf (by kernel_rfl)

section
variable {w w' : World} {B e n : Nat} {v : Value} {xs : List Value}
theorem owns_keep (h : w.ownsRow B e 1 v n xs) (hb : ∀ k, k < w.heap.size → w'.heap[k]? = w.heap[k]?) : w'.ownsRow B e 1 v n xs := owns_same h fun k hk => hb k (h.lt k (by simpa using hk)).2
theorem owns_below (h : w.ownsRow B e 1 v n xs) (hb : Below w.heap.size w w') : w'.ownsRow B e 1 v n xs := owns_keep h hb.block
theorem owns_lower {B' : Nat} (h : w.ownsRow B e 1 v n xs) (hb : B' ≤ B) : w.ownsRow B' e 1 v n xs := by
  refine ⟨h.1, ?_⟩
  rcases h.2 with h1 | ⟨g', cap, cur, e, hb', hh, hr⟩
  · exact Or.inl h1
  · exact Or.inr ⟨g', cap, cur, e, by omega, hh, hr⟩
theorem owns_at (h : w.ownsRow B e 1 v n xs) {i : Nat} (hi : i < n) : ∃ g cap, v = .slice (some ⟨g, 0, none⟩) n cap ∧ B ≤ g ∧ g < w.heap.size ∧ n ≤ cap ∧ w.cell? ⟨g, i, none⟩ = xs[i]? := by
  rcases h.2 with ⟨rfl, h0⟩ | ⟨g, cap, cur, rfl, hb, hh, hcap, hmax, hcur, htk⟩
  · omega
  · refine ⟨g, cap, rfl, hb, (Array.getElem?_eq_some_iff.1 hh).1, hcap, ?_⟩
    rw [cell_of_row w g i cur e _ hh, ← Array.getElem?_toList, ← htk, List.getElem?_take_of_lt (by omega)]
theorem owns_bel (h : w.ownsRow B e 1 v n xs) (hg : w.grownBy w' v.ownBlock) (hB : B ≤ w.heap.size) : Below B w w' :=
  ⟨hg.os, hg.tape, hg.output, hg.size, fun k hk => hg.block k (by omega) fun e => by have := (h.lt k e.symm).1; omega⟩
end

/-! ### slices with one element, or none -/
section
variable {ops : Array Oper} {rest : List Oper} {o : Oper} {a : Act} {w : World} {Q : Exit → Act → World → Prop}
theorem run_one24 (w : World) (ad : Option Addr) (n c : Nat) : (Instr.buildSlice 94 1 #[(0, .slice ad n c)]).run Tryz.prog w = .ok (.slice (some ⟨w.heap.size, 0, none⟩) 1 1) (w.alloc (.cells #[.slice ad n c] 46)) := by
  obtain ⟨i, i1, i2, i3, i4⟩ := full32
  exact run_buildSlice (P := Tryz.prog) w 94 46 1 #[(0, .slice ad n c)] #[.slice ad n c] i _ Tryz.underlying94 i1 i2 (by rw [i3]; decide) (by rw [i3]; decide) (by rw [i3]; kernel_rfl)
theorem run_one35 (w : World) (s : ByteArray) : (Instr.buildSlice 138 1 #[(0, .string s)]).run Tryz.prog w = .ok (.slice (some ⟨w.heap.size, 0, none⟩) 1 1) (w.alloc (.cells #[.string s] 9)) := by
  obtain ⟨i, i1, i2, i3, i4⟩ := full9
  exact run_buildSlice (P := Tryz.prog) w 138 9 1 #[(0, .string s)] #[.string s] i _ Tryz.underlying138 i1 i2 (by rw [i3]; decide) (by rw [i3]; decide) (by rw [i3]; kernel_rfl)
theorem owns_one (w : World) (e : TypeId) (u : Value) : (w.alloc (.cells #[u] e)).ownsRow w.heap.size e 1 (.slice (some ⟨w.heap.size, 0, none⟩) 1 1) 1 [u] :=
  ⟨rfl, .inr ⟨w.heap.size, 1, #[u], rfl, Nat.le_refl _, heap_alloc_new w _, Nat.le_refl _, by decide, rfl, rfl⟩⟩
theorem owns_none (w : World) (e : TypeId) : (w.alloc (.cells #[] e)).ownsRow w.heap.size e 1 (.slice (some ⟨w.heap.size, 0, none⟩) 0 0) 0 [] :=
  ⟨rfl, .inr ⟨w.heap.size, 0, #[], rfl, Nat.le_refl _, heap_alloc_new w _, Nat.le_refl _, Nat.zero_le _, rfl, rfl⟩⟩
theorem wpList_one24 (x : Operand) (ad : Option Addr) (n c : Nat) (ho : o.op = .buildSlice 94 1 #[(0, x)]) (hg : o.guard = none) (hx : a.eval x = .slice ad n c)
    (h : ∀ w', w'.ownsRow w.heap.size 46 1 (.slice (some ⟨w.heap.size, 0, none⟩) 1 1) 1 [.slice ad n c] → Below w.heap.size w w' → w'.heap.size = w.heap.size + 1 → wpList Tryz.prog ops Q rest (a.put o.dst (.slice (some ⟨w.heap.size, 0, none⟩) 1 1)) w') :
    wpList Tryz.prog ops Q (o :: rest) a w := by
  refine wpList_plain hg fun K hK => ?_
  have r : (execOp a.eval o).run Tryz.prog w = .ok (.value (.slice (some ⟨w.heap.size, 0, none⟩) 1 1)) (w.alloc (.cells #[.slice ad n c] 46)) := by
    unfold execOp
    simp only [ho, List.map_toArray, List.map_cons, List.map_nil, hx, Sem.run_bind, run_one24, Result.andThen_ok, Sem.run_pure]
  unfold Oper.wp
  rw [r, Oper.upon_value]
  exact hK _ _ (h _ (owns_one w 46 _) ((Below.refl _ _).alloc (Nat.le_refl _) _) (by simp))
theorem wpList_one35 (x : Operand) (s : ByteArray) (ho : o.op = .buildSlice 138 1 #[(0, x)]) (hg : o.guard = none) (hx : a.eval x = .string s)
    (h : ∀ w', w'.ownsRow w.heap.size 9 1 (.slice (some ⟨w.heap.size, 0, none⟩) 1 1) 1 [.string s] → Below w.heap.size w w' → w'.heap.size = w.heap.size + 1 → wpList Tryz.prog ops Q rest (a.put o.dst (.slice (some ⟨w.heap.size, 0, none⟩) 1 1)) w') :
    wpList Tryz.prog ops Q (o :: rest) a w := by
  refine wpList_plain hg fun K hK => ?_
  have r : (execOp a.eval o).run Tryz.prog w = .ok (.value (.slice (some ⟨w.heap.size, 0, none⟩) 1 1)) (w.alloc (.cells #[.string s] 9)) := by
    unfold execOp
    simp only [ho, List.map_toArray, List.map_cons, List.map_nil, hx, Sem.run_bind, run_one35, Result.andThen_ok, Sem.run_pure]
  unfold Oper.wp
  rw [r, Oper.upon_value]
  exact hK _ _ (h _ (owns_one w 9 _) ((Below.refl _ _).alloc (Nat.le_refl _) _) (by simp))
/-- 'append(l, x)' of one element: of bodies, of texts, of lists. -/
theorem wpList_app1 {t e : TypeId} {i : TypeInfo} {z : Value} {by_ : Nat} (hgd : o.guard = none) (s x : Operand) (ho : o.op = .call { callee := .builtin .append, args := #[s, x], argTypes := #[t, t] })
    (ht : Tryz.prog.underlying t = some (.slice e)) (hi : Tryz.prog.info? e = some i) (hz : i.zero = some z) (hs1 : i.size = 1) (hby : i.bytes = by_) (hzc : z.cells.size = 1) (hb : by_ ≤ 24)
    (B B2 : Nat) (v u : Value) (n : Nat) (xs : List Value) (g c : Nat) (hs : a.eval s = v) (hown : w.ownsRow B e 1 v n xs) (hx : a.eval x = .slice (some ⟨g, 0, none⟩) 1 c)
    (hn : w.ownsRow B2 e 1 (.slice (some ⟨g, 0, none⟩) 1 c) 1 [u]) (hu : u.oneCell' = true) (hlen : n ≤ 1000000) (hB : B ≤ w.heap.size)
    (h : ∀ v' w', w'.ownsRow B e 1 v' (n + 1) (xs ++ [u]) → w.grownBy w' v.ownBlock → wpList Tryz.prog ops Q rest (a.put o.dst v') w') : wpList Tryz.prog ops Q (o :: rest) a w := by
  refine wpList_append_own w hgd s x t ho B e i z 1 by_ ht hi hz hs1 hby hzc (by decide) v n xs hs hown ⟨g, 0, none⟩ 1 c [u] hx rfl (fun j y hj => ?_) (fun y hy => by rw [List.mem_singleton.1 hy]; exact hu) (by simp only [maxLen]; omega) ?_ hB fun v' w' h2 h3 _ => h v' w' h2 h3
  · obtain ⟨rfl, rfl⟩ : j = 0 ∧ y = u := by
      cases j with
      | zero => simp at hj; exact ⟨rfl, hj.symm⟩
      | succ j => simp at hj
    obtain ⟨g2, cap, e2, _, _, _, hc⟩ := owns_at hn (i := 0) (by omega)
    cases e2
    rw [Addr.add_mid]
    exact hc
  · have h1 : n + 1 ≤ 2000000 := by omega
    exact Nat.le_trans (Nat.mul_le_mul h1 hb) (show 2000000 * 24 ≤ 140737488355328 by decide)
end

/-! ### bodies -/
def BodsV (B : Nat) (w : World) (v : Value) (bs : List Body) : Prop := ∃ vs : List Value, vs.length = bs.length ∧ w.ownsRow B 46 1 v bs.length vs ∧ ∀ i, i < bs.length → Own B w (vs.getD i undef) (bs.getD i []) ∧ (bs.getD i []).length ≤ 4000
section
variable {w w' : World} {B : Nat} {v : Value} {bs : List Body}
theorem BodsV.nil (B : Nat) (w : World) : BodsV B w (.slice none 0 0) [] := ⟨[], rfl, World.ownsRow_nil w B 46 1, fun i hi => by simp at hi⟩
theorem BodsV.keep (h : BodsV B w v bs) (hb : ∀ k, B ≤ k → k < w.heap.size → w'.heap[k]? = w.heap[k]?) : BodsV B w' v bs := by
  obtain ⟨vs, h1, h2, h3⟩ := h
  refine ⟨vs, h1, owns_same h2 fun k hk => ?_, fun i hi => ⟨owns_same (h3 i hi).1 fun k hk => ?_, (h3 i hi).2⟩⟩
  · have := h2.lt k (by simpa using hk)
    exact hb k this.1 this.2
  · have := (h3 i hi).1.lt k (by simpa using hk)
    exact hb k this.1 this.2
theorem BodsV.below (h : BodsV B w v bs) (hb : Below w.heap.size w w') : BodsV B w' v bs := h.keep fun k _ hk => hb.block k hk
theorem BodsV.lower {B' : Nat} (h : BodsV B w v bs) (hb : B' ≤ B) : BodsV B' w v bs := by
  obtain ⟨vs, h1, h2, h3⟩ := h
  exact ⟨vs, h1, owns_lower h2 hb, fun i hi => ⟨(h3 i hi).1.lower hb, (h3 i hi).2⟩⟩
theorem BodsV.slice (h : BodsV B w v bs) : ∃ a cap, v = .slice a bs.length cap ∧ bs.length ≤ cap ∧ cap ≤ maxLen := by
  obtain ⟨vs, h1, h2, h3⟩ := h
  exact owns_slice h2
theorem BodsV.at (h : BodsV B w v bs) {i : Nat} (hi : i < bs.length) : ∃ g cap u, v = .slice (some ⟨g, 0, none⟩) bs.length cap ∧ B ≤ g ∧ g < w.heap.size ∧ w.cell? ⟨g, i, none⟩ = some u ∧ Own B w u (bs.getD i []) ∧ RowV w.heap.size w u (bs.getD i []) := by
  obtain ⟨vs, h1, h2, h3⟩ := h
  obtain ⟨g, cap, rfl, hb, hg, _, hc⟩ := owns_at h2 hi
  refine ⟨g, cap, vs.getD i undef, rfl, hb, hg, ?_, (h3 i hi).1, (h3 i hi).1.row (by have := (h3 i hi).2; omega)⟩
  rw [hc, List.getElem?_eq_getElem (by omega), List.getD_eq_getElem?_getD, List.getElem?_eq_getElem (by omega)]
  rfl
theorem BodsV.few (h : BodsV B w v bs) : ∀ b ∈ bs, b.length ≤ 4000 := fun b hb => by
  obtain ⟨vs, h1, h2, h3⟩ := h
  obtain ⟨i, hi, rfl⟩ := List.mem_iff_getElem.1 hb
  have := (h3 i hi).2
  rw [List.getD_eq_getElem?_getD, List.getElem?_eq_getElem hi] at this
  exact this
/-- Another block is set. -/
theorem BodsV.set (h : BodsV B w v bs) {q i : Nat} {u : Value} (hq : q < B) : BodsV B (w.setCell ⟨q, i, none⟩ u) v bs :=
  h.keep fun k hk _ => Below.heap_setCell _ _ _ _ (fun e => by have : k = q := e; omega)
theorem bods_snoc {vs : List Value} {v' u : Value} {b : Body} (h1 : vs.length = bs.length) (h2 : w.ownsRow B 46 1 v bs.length vs) (h3 : ∀ i, i < bs.length → Own B w (vs.getD i undef) (bs.getD i []) ∧ (bs.getD i []).length ≤ 4000)
    (hu : Own B w u b) (hb : b.length ≤ 4000) (ho : w'.ownsRow B 46 1 v' (bs.length + 1) (vs ++ [u])) (hg : w.grownBy w' v.ownBlock) : BodsV B w' v' (bs ++ [b]) := by
  have stay : ∀ {y : Value} {l : List UInt8}, Own B w y l → Own B w' y l := fun {y l} h => by
    refine owns_same h fun k hk => ?_
    have hk' : y.ownBlock = some k := by simpa using hk
    obtain ⟨_, hlt, C, hC⟩ := h.block hk'
    refine hg.block k hlt fun e => ?_
    rcases h2.2 with ⟨rfl, _⟩ | ⟨g, cap, cur, rfl, _, hh, _⟩
    · simp [Value.ownBlock] at e
    · simp only [Value.ownBlock, Option.some.injEq] at e
      subst e
      rw [hh] at hC
      cases hC
  refine ⟨vs ++ [u], by simp [h1], by simpa using ho, fun i hi => ?_⟩
  by_cases hi2 : i < bs.length
  · have e1 : (vs ++ [u]).getD i undef = vs.getD i undef := by
      rw [List.getD_eq_getElem?_getD, List.getElem?_append_left (by omega), ← List.getD_eq_getElem?_getD]
    have e2 : (bs ++ [b]).getD i [] = bs.getD i [] := by
      rw [List.getD_eq_getElem?_getD, List.getElem?_append_left hi2, ← List.getD_eq_getElem?_getD]
    rw [e1, e2]
    exact ⟨stay (h3 i hi2).1, (h3 i hi2).2⟩
  · obtain rfl : i = bs.length := by simp at hi; omega
    have e1 : (vs ++ [u]).getD bs.length undef = u := by
      rw [List.getD_eq_getElem?_getD, List.getElem?_append_right (by omega), h1]; simp
    have e2 : (bs ++ [b]).getD bs.length [] = b := by
      rw [List.getD_eq_getElem?_getD, List.getElem?_append_right (by omega)]; simp
    rw [e1, e2]
    exact ⟨stay hu, hb⟩
end
end Go.Proofs.YtdfdalkcljfghaaGreat
