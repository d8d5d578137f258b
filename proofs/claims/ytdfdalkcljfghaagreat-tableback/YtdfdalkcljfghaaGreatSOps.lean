/-
  Slices of sectors; sectors' bytes joined, the statements' way and the program's. Single operations on sectors, each by itself; in a plain row of operations, and in one inside a loop's body over a function.
-/
import Derived.Test.YtdfdalkcljfghaaGreatFRow
import Derived.OwnWalkIn
import Derived.TacticsInMore
import Derived.Great.BuildSlice
import Derived.Laws.CopyRow
namespace Go.Proofs.YtdfdalkcljfghaaGreat
open Go.RowKit

/-- A slice of sectors, below block N. -/
def SRow (N : Nat) (w : World) (a : Option Addr) (len : Nat) (ss : List Sec) : Prop :=
  ss.length = len ∧ (∀ s ∈ ss, s.length = 64) ∧ ∀ i, i < len → ∃ b off, a = some ⟨b, off, none⟩ ∧ b < N ∧ w.rangeAt b (off + i * 64) (bytesV (ss.getD i []))
def SRowV (N : Nat) (w : World) (v : Value) (ss : List Sec) : Prop :=
  ∃ a len cap, v = .slice a len cap ∧ len ≤ cap ∧ cap ≤ maxLen ∧ (a = none → cap = 0) ∧ SRow N w a len ss
theorem range_below {N : Nat} {w w' : World} {b o : Nat} {vs : List Value} (h : w.rangeAt b o vs) (hb : Below N w w') (hl : b < N) : w'.rangeAt b o vs := fun j v hj =>
  (hb.cell (p := ⟨b, o + j, none⟩) hl).trans (h j v hj)
theorem SRow.below {N : Nat} {w w' : World} {a : Option Addr} {len : Nat} {ss : List Sec} (h : SRow N w a len ss) (hb : Below N w w') : SRow N w' a len ss :=
  ⟨h.1, h.2.1, fun i hi => by
    obtain ⟨b, off, ha, hl, hc⟩ := h.2.2 i hi
    exact ⟨b, off, ha, hl, range_below hc hb hl⟩⟩
theorem SRow.up {N M : Nat} {w : World} {a : Option Addr} {len : Nat} {ss : List Sec} (h : SRow N w a len ss) (hb : N ≤ M) : SRow M w a len ss :=
  ⟨h.1, h.2.1, fun i hi => by
    obtain ⟨b, off, ha, hl, hc⟩ := h.2.2 i hi
    exact ⟨b, off, ha, by omega, hc⟩⟩
theorem SRow.take {N : Nat} {w : World} {a : Option Addr} {len : Nat} {ss : List Sec} (h : SRow N w a len ss) (n : Nat) (hn : n ≤ len) : SRow N w a n (ss.take n) :=
  ⟨by have := h.1; rw [List.length_take]; omega, fun s hs => h.2.1 s (List.mem_of_mem_take hs), fun i hi => by
    obtain ⟨b, off, ha, hl, hc⟩ := h.2.2 i (by omega)
    refine ⟨b, off, ha, hl, ?_⟩
    rw [List.getD_eq_getElem?_getD, List.getElem?_take_of_lt hi, ← List.getD_eq_getElem?_getD]
    exact hc⟩
theorem SRowV.below {N : Nat} {w w' : World} {v : Value} {ss : List Sec} (h : SRowV N w v ss) (hb : Below N w w') : SRowV N w' v ss := by
  obtain ⟨a, len, cap, rfl, h1, h2, h3, hr⟩ := h
  exact ⟨a, len, cap, rfl, h1, h2, h3, hr.below hb⟩
theorem SRowV.up {N M : Nat} {w : World} {v : Value} {ss : List Sec} (h : SRowV N w v ss) (hb : N ≤ M) : SRowV M w v ss := by
  obtain ⟨a, len, cap, rfl, h1, h2, h3, hr⟩ := h
  exact ⟨a, len, cap, rfl, h1, h2, h3, hr.up hb⟩
theorem SRowV.nil (N : Nat) (w : World) : SRowV N w (.slice none 0 0) [] := ⟨none, 0, 0, rfl, Nat.le_refl _, Nat.zero_le _, fun _ => rfl, rfl, by simp, fun i hi => by omega⟩

/-- v is a slice of sectors that the call owns, and it holds ss. -/
def SOwn (B : Nat) (w : World) (v : Value) (ss : List Sec) : Prop := w.ownsRow B 136 64 v ss.length (secsV ss) ∧ ∀ s ∈ ss, s.length = 64
theorem SOwn.nil (B : Nat) (w : World) : SOwn B w (.slice none 0 0) [] := ⟨World.ownsRow_nil w B 136 64, by simp⟩
theorem SOwn.row {B : Nat} {w : World} {v : Value} {ss : List Sec} (h : SOwn B w v ss) : SRowV w.heap.size w v ss := by
  rcases h.1.2 with ⟨e, h0⟩ | ⟨g, cap, cur, e, hb, hh, hcap, hmax, hcur, htk⟩
  · obtain rfl : ss = [] := List.length_eq_zero_iff.1 h0
    rw [e]
    exact SRowV.nil _ _
  · refine ⟨_, _, cap, e, hcap, hmax, by simp, rfl, h.2, fun i hi => ⟨g, 0, rfl, (Array.getElem?_eq_some_iff.1 hh).1, fun j u hj => ?_⟩⟩
    have h1 := secsV_range h.2 hi j u hj
    rw [Nat.zero_add, cell_of_row w g _ cur 136 _ hh, ← Array.getElem?_toList]
    have h2 : i * 64 + j < (secsV ss).length := (List.getElem?_eq_some_iff.1 h1).1
    have h3 : (cur.toList.take (ss.length * 64))[i * 64 + j]? = cur.toList[i * 64 + j]? := by
      rw [List.getElem?_take]
      rw [secsV_length h.2] at h2
      simp [h2]
    rw [← h3, htk, h1]
theorem SOwn.keep {B : Nat} {w w' : World} {v : Value} {ss : List Sec} (h : SOwn B w v ss) (hb : ∀ k, k < w.heap.size → w'.heap[k]? = w.heap[k]?) : SOwn B w' v ss := by
  refine ⟨⟨h.1.1, ?_⟩, h.2⟩
  rcases h.1.2 with h1 | ⟨g', cap, cur, e, hb', hh, hr⟩
  · exact Or.inl h1
  · exact Or.inr ⟨g', cap, cur, e, hb', by rw [hb g' (Array.getElem?_eq_some_iff.1 hh).1]; exact hh, hr⟩
theorem SOwn.keepB {B : Nat} {w w' : World} {v : Value} {ss : List Sec} (h : SOwn B w v ss) (hb : Below w.heap.size w w') : SOwn B w' v ss := h.keep hb.block
theorem SOwn.lower {B B' : Nat} {w : World} {v : Value} {ss : List Sec} (h : SOwn B w v ss) (hb : B' ≤ B) : SOwn B' w v ss := by
  refine ⟨⟨h.1.1, ?_⟩, h.2⟩
  rcases h.1.2 with h1 | ⟨g', cap, cur, e, hb', hh, hr⟩
  · exact Or.inl h1
  · exact Or.inr ⟨g', cap, cur, e, by omega, hh, hr⟩
theorem alloc136z (w : World) : (Instr.alloc 136 true (.tuple #[])).run Tryz.prog w = .ok (.pointer (some ⟨w.heap.size, 0, none⟩)) (w.alloc (.cells (bytesV zeroS).toArray 136)) := alloc136 w

theorem flat_snoc {ss : List Sec} {k : Nat} (h : k < ss.length) : (ss.take (k + 1)).flatten = (ss.take k).flatten ++ ss.getD k [] := by
  rw [take_snoc [] ss k h]; simp
theorem joined_snoc {ss : List Sec} {k : Nat} (h : k < ss.length) : joinedF (ss.take (k + 1)) = joinedF (ss.take k) ++ (ss.getD k []).take 63 := by
  rw [take_snoc [] ss k h]; simp [joinedF]
theorem flat_le : ∀ {l : List Sec}, (∀ s ∈ l, s.length = 64) → ∀ k, (l.take k).flatten.length ≤ 64 * l.length := fun {l} hs k => by
  rw [flat_length (fun s h => hs s (List.mem_of_mem_take h)), List.length_take]; omega

theorem arr_row {w : World} {g : Nat} {s : Sec} (h : Arr w g (bytesV s)) (hs : s.length = 64) {n : Nat} (hn : n ≤ 64) : RowV w.heap.size w (.slice (some ⟨g, 0, none⟩) n 64) (s.take n) := by
  refine ⟨_, _, _, rfl, hn, by decide, by simp, by rw [List.length_take]; omega, by omega, fun i hi => ⟨g, 0, rfl, h.lt, ?_⟩⟩
  rw [Nat.zero_add, h.cell (bytesV_get s (i := i) (by omega)), List.getD_eq_getElem?_getD, List.getD_eq_getElem?_getD, List.getElem?_take_of_lt hi]

set_option maxHeartbeats 1600000 in
set_option maxRecDepth 100000 in
theorem joined_walk (N : Nat) (v : Value) (ss : List Sec) (w : World) (hN : N ≤ w.heap.size) (hr : SRowV N w v ss) (hl : ss.length ≤ 100000) :
    Calls Tryz.prog 140 #[v] w fun e w' => ∃ v', e = .returned v' ∧ Own w.heap.size w' v' (joinedF ss) ∧ Below w.heap.size w w' := by
  obtain ⟨a, len, cap, rfl, q1, q2, q3, hrow⟩ := hr
  have HROW := hide hrow
  have hlen := hrow.1
  have HS := hide hrow.2.1
  have hlb : len ≤ 100000 := by omega
  have HLEN := hide hlen
  clear hrow hlen hl
  have HE := hide (Own.nil w.heap.size w)
  go_enter Tryz.func140, Tryz.ntmps140
  go_wp2_with fail
  go_loopw [3, 8] (fun co ci wr => ∃ k : Nat, k ≤ len ∧ ci = .int .i64 (k : Int) ∧ Own w.heap.size wr co (joinedF (ss.take k)) ∧ Below w.heap.size w wr) (fun _ ci _ => len - (intOf ci).toNat)
  case atStart => exact ⟨0, by omega, rfl, by simpa [joinedF] using unhide HE, Below.refl _ _⟩
  case round =>
    obtain ⟨k, hk, rfl, hO, hb⟩ := hrel
    by_cases hlt : k < len
    · obtain ⟨b, off, rfl, hbN, hrange⟩ := ((unhide HROW).below (hb.mono hN)).2.2 k hlt
      have hsk : (ss.getD k []).length = 64 := unhide HS _ (by
        rw [List.getD_eq_getElem?_getD, List.getElem?_eq_getElem (by rw [unhide HLEN]; exact hlt)]
        exact List.getElem_mem _)
      have HST := hide (joined_snoc (ss := ss) (k := k) (by rw [unhide HLEN]; exact hlt))
      have hfl : (joinedF (ss.take k)).length ≤ 64 * len := by
        rw [joinedF_length (fun s h => unhide HS s (List.mem_of_mem_take h)), List.length_take, unhide HLEN]; omega
      generalize ss.getD k [] = s at *
      generalize joinedF (ss.take k) = acc at *
      have HSK := hide hsk
      obtain ⟨cs, hcs⟩ : ∃ cs, cs = bytesV s := ⟨_, rfl⟩
      rw [← hcs] at hrange
      have HCS := hide hcs
      have hcl : cs.length = 64 := by rw [hcs, bytesV_length, hsk]
      have HCL := hide hcl
      have HONE : Hid (∀ v ∈ cs, v.oneCell' = true) := hide (by rw [hcs]; exact bytesV_one s)
      have HRG := hide hrange
      have HO := hide hO
      have Hb := hide hb
      have hfl2 : acc.length ≤ 6400000 := by omega
      clear hsk hcs hrange hO hb hcl hfl
      go_wp2_with (first
        | refine wpList_load_mid rfl 136 _ rfl b (off + k * 64) rfl cs _ (unhide HRG) Tryz.underlying136 rfl (by rw [unhide HCL]; exact info136) ?_
        | refine wpList_alloc 136 136 (bytesV zeroS) rfl rfl alloc136 ?_)
      intro w1 hA1 hb1 hs1
      have HA1 := hide hA1
      have Hb1 := hide hb1
      clear hA1 hb1 HRG
      go_wp2_with (refine wpList_storeAll 136 _ _ wr.heap.size cs (bytesV zeroS) rfl rfl rfl rfl (unhide HA1) (by rw [unhide HCL]; rfl) (by rw [unhide HCL]; exact info136) (unhide HONE) ?_)
      intro w2 hA2 hg2 hs2
      have hb2 : Below wr.heap.size wr w2 := (unhide Hb1).grown hg2 (by omega) (fun k hk => by simp at hk; omega)
      rw [unhide HCS] at hA2
      have HR2 := hide (arr_row hA2 (unhide HSK) (n := 63) (by omega))
      have HO2 := hide ((unhide HO).keepB hb2)
      have Hb2 := hide ((unhide Hb).trans (hb2.mono (unhide Hb).size))
      have HTL : Hid ((s.take 63).length = 63) := hide (by rw [List.length_take, unhide HSK]; omega)
      clear hA2 hg2 hb2 HA1 Hb1 HO Hb
      go_wp2_with (refine wpList_appRow rfl _ _ rfl w.heap.size w2.heap.size _ acc rfl (unhide HO2) _ rfl (s.take 63) (unhide HR2) ?_ ?_ ?_)
      · rw [unhide HTL]; omega
      · exact (unhide Hb2).size
      intro v3 w3 hO3 hG3
      have HO3 := hide hO3
      have Hb3 := hide ((unhide Hb2).trans ((unhide HO2).below hG3 (unhide Hb2).size))
      clear hO3 hG3 HO2 Hb2
      go_wp2
      go_roundw
      case rel =>
        refine ⟨k + 1, by omega, by go_num, ?_, unhide Hb3⟩
        rw [unhide HST]
        exact unhide HO3
      case measure => simp [intOf]; omega
    · obtain rfl : k = len := by omega
      rw [List.take_of_length_le (by rw [unhide HLEN]; exact Nat.le_refl _)] at hO
      have HO := hide hO
      have Hb := hide hb
      clear hO hb
      go_wp2
      go_ret
      exact ⟨_, rfl, unhide HO, unhide Hb⟩
end Go.Proofs.YtdfdalkcljfghaaGreat

namespace Go.Proofs.YtdfdalkcljfghaaGreat
open Go.RowKit

section
variable {P : Program} {ops : Array Oper} {rest : List Oper} {o : Oper} {a : Act} {w w' : World} {v : Value} {Q : Exit → Act → World → Prop}
/-- An operation that yields a value. -/
theorem wpList_val (hg : o.guard = none) (r : (execOp a.eval o).run P w = .ok (.value v) w') (h : wpList P ops Q rest (a.put o.dst v) w') : wpList P ops Q (o :: rest) a w := by
  refine wpList_plain hg fun K hK => ?_
  unfold Oper.wp
  rw [r, Oper.upon_value]
  exact hK _ _ h
theorem wpList_skp (hg : o.guard = none) (r : (execOp a.eval o).run P w = .ok .skip w') (h : wpList P ops Q rest (a.put o.dst undef) w') : wpList P ops Q (o :: rest) a w := by
  refine wpList_plain hg fun K hK => ?_
  unfold Oper.wp
  rw [r]
  exact hK _ _ h
theorem wpListIn_val {F : Fence} {n : Nat} (hg : o.guard = none) (ha : o.about P w a.eval = none) (hd : ∀ c, o.op ≠ .defer c) (r : (execOp a.eval o).run P w = .ok (.value v) w') (h : wpListIn F n P ops Q rest (a.put o.dst v) w') : wpListIn F n P ops Q (o :: rest) a w := by
  refine wpListIn_plain hg fun K hK => ?_
  unfold Oper.wpIn
  refine ⟨fun f hf => (by rw [ha] at hf; cases hf), ?_⟩
  rw [Oper.semAt_plain F _ _ hd, r]
  exact hK _ _ h
theorem wpListIn_skp {F : Fence} {n : Nat} (hg : o.guard = none) (ha : o.about P w a.eval = none) (hd : ∀ c, o.op ≠ .defer c) (r : (execOp a.eval o).run P w = .ok .skip w') (h : wpListIn F n P ops Q rest (a.put o.dst undef) w') : wpListIn F n P ops Q (o :: rest) a w := by
  refine wpListIn_plain hg fun K hK => ?_
  unfold Oper.wpIn
  refine ⟨fun f hf => (by rw [ha] at hf; cases hf), ?_⟩
  rw [Oper.semAt_plain F _ _ hd, r]
  exact hK _ _ h
end

theorem fold_set8 (off : Nat) : ∀ (vs : List Value) (k : Nat) (pre cs post : List Value), pre.length = off + k → cs.length = vs.length →
    (vs.zipIdx k).foldl (fun (cs : Array Value) x => cs.setIfInBounds (off + x.2) x.1) (pre ++ (cs ++ post)).toArray = (pre ++ (vs ++ post)).toArray
  | [], _, pre, cs, post, _, hl => by
    obtain rfl : cs = [] := List.eq_nil_of_length_eq_zero (by simpa using hl)
    rfl
  | v :: vs, k, pre, [], post, _, hl => by simp at hl
  | v :: vs, k, pre, c :: cs, post, hp, hl => by
    rw [List.zipIdx_cons, List.foldl_cons, List.setIfInBounds_toArray]
    have e : (pre ++ (c :: cs ++ post)).set (off + k) v = (pre ++ [v]) ++ (cs ++ post) := by
      rw [List.set_append_right _ v (by omega), hp, Nat.sub_self]
      simp
    have ih := fold_set8 off vs (k + 1) (pre ++ [v]) cs post (by simp [hp]; omega) (by simpa using hl)
    rw [e, ih]
    simp
theorem run_copy_wide8 (w : World) (dT sT ty elem : TypeId) (g o dLen dCap : Nat) (a : Addr) (sLen sCap m : Nat) (cur cs : List Value)
    (hu : Tryz.prog.underlying dT = some (.slice elem)) (hs : (Tryz.prog.info? elem).map (·.size) = some m) (hA : Arr w g cur) (hn : cs.length = Nat.min sLen dLen * m)
    (hsrc : ∀ j v, cs[j]? = some v → w.cell? (a.add j) = some v) (hfit : o + cs.length ≤ cur.length) (h1 : ∀ v ∈ cs, v.oneCell' = true) :
    ∃ w', (Builtin.copy_ #[dT, sT] ty #[.slice (some ⟨g, o, none⟩) dLen dCap, .slice (some a) sLen sCap]).run Tryz.prog w = .ok (goInt (Nat.min sLen dLen)) w' ∧
      Arr w' g (cur.take o ++ (cs ++ cur.drop (o + cs.length))) ∧ w.grownBy w' (some g) ∧ w'.heap.size = w.heap.size := by
  obtain ⟨C, t, hg, rfl⟩ := hA
  have hl := run_loadCells_list (P := Tryz.prog) w a cs hsrc
  have hst := run_storeCells_at Tryz.prog g o t cs 0 C w hg (by simpa using hfit) h1
  refine ⟨w.setRow g (C.toList.take o ++ cs ++ C.toList.drop (o + cs.length)).toArray, ?_, ⟨_, t, setRow_heap w g C _ t _ hg, by simp⟩, ⟨rfl, rfl, rfl, by simp, fun k _ hk => setRow_other w g k _ (fun e => hk (by simp [e]))⟩, by simp⟩
  cases hq : Tryz.prog.info? elem with
  | none => simp [hq] at hs
  | some i =>
    have hi : i.size = m := by simpa [hq] using hs
    simp only [Nat.add_zero] at hst
    simp [Builtin.copy_, run_underlying hu, Builtin.lenOf, Builtin.firstCells, sizeOf, typeInfo, hq, hi, ← hn, hl, hst]

section
variable {ρ : Operand → Value} {o : Oper}
theorem op_copy328 {x y : Operand} {g off g2 o2 n n2 c2 : Nat} {cur : List Value} {bs : List UInt8} {w : World} (h1 : ρ x = .slice (some ⟨g, off, none⟩) n c2) (h2 : ρ y = .slice (some ⟨g2, o2, none⟩) bs.length n2)
    (hA : Arr w g cur) (hr : w.rangeAt g2 o2 (bytesV bs)) (hle : bs.length ≤ n) (hfit : off + bs.length ≤ cur.length) :
    ∃ w', (∀ o : Oper, o.op = .call { callee := .builtin .copy, args := #[x, y], argTypes := #[46, 46] } → (execOp ρ o).run Tryz.prog w = .ok (.value (.int .i64 (bs.length : Int))) w') ∧
      Arr w' g (cur.take off ++ (bytesV bs ++ cur.drop (off + bs.length))) ∧ w.grownBy w' (some g) ∧ w'.heap.size = w.heap.size := by
  obtain ⟨w', hr', q1, q2, q3⟩ := run_copy_wide8 w 46 46 3 5 g off n c2 ⟨g2, o2, none⟩ bs.length n2 1 cur (bytesV bs) Tryz.underlying46 (by kernel_rfl) hA (by rw [bytesV_length, Nat.mul_one]; exact (Nat.min_eq_left hle).symm)
    (fun j v hj => by rw [Addr.add_mid]; exact hr j v hj) (by rw [bytesV_length]; exact hfit) (bytesV_one bs)
  rw [bytesV_length] at q1
  refine ⟨w', fun o ho => ?_, q1, q2, q3⟩
  have e : ∀ ty, (Builtin.copy_ #[46, 46] ty #[.slice (some ⟨g, off, none⟩) n c2, .slice (some ⟨g2, o2, none⟩) bs.length n2]).run Tryz.prog w = .ok (.int .i64 (bs.length : Int)) w' := fun ty => by
    have e2 : Nat.min bs.length n = bs.length := Nat.min_eq_left hle
    rw [e2] at hr'
    exact hr'
  unfold execOp
  rw [ho]
  simp only [resolve, invoke, builtin, Sem.run_bind, Sem.run_pure, Result.andThen_ok, List.map_toArray, List.map_cons, List.map_nil, h1, h2, e]
theorem op_alloc33 (ho : o.op = .alloc 136) (w : World) : ∃ w', (execOp ρ o).run Tryz.prog w = .ok (.value (.pointer (some ⟨w.heap.size, 0, none⟩))) w' ∧ Arr w' w.heap.size (bytesV zeroS) ∧ Below w.heap.size w w' ∧ w'.heap.size = w.heap.size + 1 := by
  refine ⟨w.alloc (.cells (bytesV zeroS).toArray 136), ?_, ⟨_, _, heap_alloc_new w _, rfl⟩, (Below.refl _ _).alloc (Nat.le_refl _) _, by simp⟩
  unfold execOp
  simp only [ho, Sem.run_bind, alloc136 w, Result.andThen, Sem.run_pure]
theorem op_store758 {x y : Operand} {g : Nat} {cs ds : List Value} {w : World} (ho : o.op = .store 136 x y) (h1 : ρ x = .pointer (some ⟨g, 0, none⟩)) (h2 : ρ y = .agg cs.toArray) (hA : Arr w g ds) (hd : ds.length = 64) (hc : cs.length = 64) (hone : ∀ v ∈ cs, v.oneCell' = true) :
    ∃ w', (execOp ρ o).run Tryz.prog w = .ok .skip w' ∧ Arr w' g cs ∧ w.grownBy w' (some g) ∧ w'.heap.size = w.heap.size := by
  have hr := run_storeAt_mid (P := Tryz.prog) w g 0 136 cs.toArray (by have := hA.there; rw [hd] at this; simpa [hc] using this) (by simpa [hc] using info136) (all_oneCell_toArray hone)
  refine ⟨w.setCells g 0 cs, ?_, hA.sets cs (by rw [hd, hc]), setCells_grown _ _ _ _, by rw [setCells_size]⟩
  unfold execOp
  simp only [ho, h1, h2, Sem.run_bind, hr, Result.andThen_ok, Sem.run_pure]
theorem op_load758 {x : Operand} {g k : Nat} {cs : List Value} {w : World} (ho : o.op = .load 136 x) (h1 : ρ x = .pointer (some ⟨g, k, none⟩)) (hA : w.rangeAt g k cs) (hc : cs.length = 64) :
    (execOp ρ o).run Tryz.prog w = .ok (.value (.agg cs.toArray)) w := by
  have hr := run_loadAt_mid (P := Tryz.prog) w g k 136 cs _ hA Tryz.underlying136 rfl (by rw [hc]; exact info136)
  unfold execOp
  simp only [ho, h1, Sem.run_bind, hr, Result.andThen_ok, Sem.run_pure]
theorem op_slice131 {x : Operand} {s : Sec} (ho : o.op = .buildSlice 131 1 #[(0, x)]) (h1 : ρ x = .agg (bytesV s).toArray) (hs : s.length = 64) (w : World) :
    (execOp ρ o).run Tryz.prog w = .ok (.value (.slice (some ⟨w.heap.size, 0, none⟩) 1 1)) (w.alloc (.cells (bytesV s).toArray 136)) := by
  obtain ⟨i, i1, i2, i3, i4⟩ := full26
  have hl : (bytesV s).length = 64 := by rw [bytesV_length, hs]
  have hf : Instr.fill (fun j => some (j * i.size, i.size)) ((Array.range (1 * i.size)).map ((secV zeroS).cells[· % (secV zeroS).cells.size]!)) [(0, .agg (bytesV s).toArray)] = some (bytesV s).toArray := by
    rw [i3]
    have e : ((Array.range (1 * 64)).map ((secV zeroS).cells[· % (secV zeroS).cells.size]!)) = (bytesV zeroS).toArray := by kernel_rfl
    rw [e]
    simp [Instr.fill, Value.cells, hl]
    refine ⟨by decide +kernel, ?_⟩
    have h := fold_set8 0 (bytesV s) 0 [] (bytesV zeroS) [] rfl (by rw [hl]; decide +kernel)
    simpa using h
  have hr := run_buildSlice (P := Tryz.prog) w 131 136 1 #[(0, .agg (bytesV s).toArray)] (bytesV s).toArray i _ Tryz.underlying131 i1 i2 (by rw [i3]; decide) (by rw [i3]; decide) hf
  unfold execOp
  rw [ho]
  simp only [List.map_toArray, List.map_cons, List.map_nil, h1, Sem.run_bind, hr, Result.andThen_ok, Sem.run_pure]
theorem secsV_app : ∀ (a b : List Sec), secsV (a ++ b) = secsV a ++ secsV b
  | [], b => rfl
  | x :: a, b => by rw [List.cons_append, secsV, secsV, secsV_app a b, List.append_assoc]
/-- 'append(l, m..)' of sectors. -/
theorem op_app131 {x y : Operand} {B g off m c : Nat} {v : Value} {ss ts : List Sec} {w : World} (h1 : ρ x = v) (h2 : ρ y = .slice (some ⟨g, off, none⟩) m c) (hown : SOwn B w v ss) (hts : ∀ s ∈ ts, s.length = 64) (hm : ts.length = m)
    (hc : ∀ j u, (secsV ts)[j]? = some u → w.cell? ⟨g, off + j, none⟩ = some u) (hlen : ss.length + ts.length ≤ 1000000) (hB : B ≤ w.heap.size) :
    ∃ v' w', (∀ o : Oper, o.op = .call { callee := .builtin .append, args := #[x, y], argTypes := #[131, 131] } → o.type = 131 → (execOp ρ o).run Tryz.prog w = .ok (.value v') w') ∧ SOwn B w' v' (ss ++ ts) ∧ w.grownBy w' v.ownBlock := by
  obtain ⟨i, i1, i2, i3, i4⟩ := full26
  subst hm
  obtain ⟨v', w', hr, q1, q2, _⟩ := run_append_own (P := Tryz.prog) w B 131 131 136 i _ 64 64 Tryz.underlying131 i1 i2 i3 i4 (by kernel_rfl) (by decide) v ss.length (secsV ss) hown.1 ⟨g, off, none⟩ ts.length c (secsV ts) (secsV_length hts) (fun j u hj => by
    rw [Addr.add_mid]; exact hc j u hj) (secsV_one ts) (by simp only [maxLen]; omega) (by omega) hB
  refine ⟨v', w', ?_, ⟨?_, ?_⟩, q2⟩
  · intro o ho hty
    unfold execOp
    rw [ho]
    simp only [hty, resolve, invoke, builtin, Sem.run_bind, Sem.run_pure, Result.andThen_ok, List.map_toArray, List.map_cons, List.map_nil, h1, h2, hr]
  · rw [List.length_append, secsV_app]
    exact q1
  · intro s hs
    rcases List.mem_append.1 hs with h | h
    · exact hown.2 s h
    · exact hts s h
end

section
variable {ops : Array Oper} {rest : List Oper} {o : Oper} {a : Act} {w : World} {Q : Exit → Act → World → Prop}
theorem wpList_alloc33 (ho : o.op = .alloc 136) (hg : o.guard = none) (h : ∀ w', Arr w' w.heap.size (bytesV zeroS) → Below w.heap.size w w' → w'.heap.size = w.heap.size + 1 → wpList Tryz.prog ops Q rest (a.put o.dst (.pointer (some ⟨w.heap.size, 0, none⟩))) w') : wpList Tryz.prog ops Q (o :: rest) a w := by
  obtain ⟨w', hr, h1, h2, h3⟩ := op_alloc33 (ρ := a.eval) ho w
  exact wpList_val hg hr (h w' h1 h2 h3)
theorem wpListIn_alloc33 {F : Fence} {n : Nat} (ho : o.op = .alloc 136) (hg : o.guard = none) (h : ∀ w', Arr w' w.heap.size (bytesV zeroS) → Below w.heap.size w w' → w'.heap.size = w.heap.size + 1 → wpListIn F n Tryz.prog ops Q rest (a.put o.dst (.pointer (some ⟨w.heap.size, 0, none⟩))) w') : wpListIn F n Tryz.prog ops Q (o :: rest) a w := by
  obtain ⟨w', hr, h1, h2, h3⟩ := op_alloc33 (ρ := a.eval) ho w
  exact wpListIn_val hg (by simp [Oper.about, ho]) (by rw [ho]; intro c hc; cases hc) hr (h w' h1 h2 h3)
theorem wpList_store33 {x y : Operand} {g : Nat} {cs ds : List Value} (ho : o.op = .store 136 x y) (hg : o.guard = none) (h1 : a.eval x = .pointer (some ⟨g, 0, none⟩)) (h2 : a.eval y = .agg cs.toArray) (hA : Arr w g ds) (hd : ds.length = 64) (hc : cs.length = 64) (hone : ∀ v ∈ cs, v.oneCell' = true) (h : ∀ w', Arr w' g cs → w.grownBy w' (some g) → w'.heap.size = w.heap.size → wpList Tryz.prog ops Q rest (a.put o.dst undef) w') : wpList Tryz.prog ops Q (o :: rest) a w := by
  obtain ⟨w', hr, q1, q2, q3⟩ := op_store758 (ρ := a.eval) ho h1 h2 hA hd hc hone
  exact wpList_skp hg hr (h w' q1 q2 q3)
theorem wpListIn_store33 {F : Fence} {n : Nat} {x y : Operand} {g : Nat} {cs ds : List Value} (ho : o.op = .store 136 x y) (hg : o.guard = none) (h1 : a.eval x = .pointer (some ⟨g, 0, none⟩)) (h2 : a.eval y = .agg cs.toArray) (hA : Arr w g ds) (hd : ds.length = 64) (hc : cs.length = 64) (hone : ∀ v ∈ cs, v.oneCell' = true) (h : ∀ w', Arr w' g cs → w.grownBy w' (some g) → w'.heap.size = w.heap.size → wpListIn F n Tryz.prog ops Q rest (a.put o.dst undef) w') : wpListIn F n Tryz.prog ops Q (o :: rest) a w := by
  obtain ⟨w', hr, q1, q2, q3⟩ := op_store758 (ρ := a.eval) ho h1 h2 hA hd hc hone
  exact wpListIn_skp hg (by simp [Oper.about, ho]) (by rw [ho]; intro c hc; cases hc) hr (h w' q1 q2 q3)
theorem wpList_load33 {x : Operand} {g k : Nat} {cs : List Value} (ho : o.op = .load 136 x) (hg : o.guard = none) (h1 : a.eval x = .pointer (some ⟨g, k, none⟩)) (hA : w.rangeAt g k cs) (hc : cs.length = 64) (h : wpList Tryz.prog ops Q rest (a.put o.dst (.agg cs.toArray)) w) : wpList Tryz.prog ops Q (o :: rest) a w := by
  exact wpList_val hg (op_load758 (ρ := a.eval) ho h1 hA hc) h
theorem wpListIn_load33 {F : Fence} {n : Nat} {x : Operand} {g k : Nat} {cs : List Value} (ho : o.op = .load 136 x) (hg : o.guard = none) (h1 : a.eval x = .pointer (some ⟨g, k, none⟩)) (hA : w.rangeAt g k cs) (hc : cs.length = 64) (h : wpListIn F n Tryz.prog ops Q rest (a.put o.dst (.agg cs.toArray)) w) : wpListIn F n Tryz.prog ops Q (o :: rest) a w := by
  exact wpListIn_val hg (by simp [Oper.about, ho]) (by rw [ho]; intro c hc; cases hc) (op_load758 (ρ := a.eval) ho h1 hA hc) h
theorem wpList_slice24 {x : Operand} {s : Sec} (ho : o.op = .buildSlice 131 1 #[(0, x)]) (hg : o.guard = none) (h1 : a.eval x = .agg (bytesV s).toArray) (hs : s.length = 64) (h : ∀ w', Arr w' w.heap.size (bytesV s) → Below w.heap.size w w' → w'.heap.size = w.heap.size + 1 → wpList Tryz.prog ops Q rest (a.put o.dst (.slice (some ⟨w.heap.size, 0, none⟩) 1 1)) w') : wpList Tryz.prog ops Q (o :: rest) a w := by
  exact wpList_val hg (op_slice131 (ρ := a.eval) ho h1 hs w) (h _ ⟨_, _, heap_alloc_new w _, rfl⟩ ((Below.refl _ _).alloc (Nat.le_refl _) _) (by simp))
theorem wpListIn_slice24 {F : Fence} {n : Nat} {x : Operand} {s : Sec} (ho : o.op = .buildSlice 131 1 #[(0, x)]) (hg : o.guard = none) (h1 : a.eval x = .agg (bytesV s).toArray) (hs : s.length = 64) (h : ∀ w', Arr w' w.heap.size (bytesV s) → Below w.heap.size w w' → w'.heap.size = w.heap.size + 1 → wpListIn F n Tryz.prog ops Q rest (a.put o.dst (.slice (some ⟨w.heap.size, 0, none⟩) 1 1)) w') : wpListIn F n Tryz.prog ops Q (o :: rest) a w := by
  exact wpListIn_val hg (by simp [Oper.about, ho]) (by rw [ho]; intro c hc; cases hc) (op_slice131 (ρ := a.eval) ho h1 hs w) (h _ ⟨_, _, heap_alloc_new w _, rfl⟩ ((Below.refl _ _).alloc (Nat.le_refl _) _) (by simp))
theorem wpList_app24 {x y : Operand} {B g off m c : Nat} {v : Value} {ss ts : List Sec} (ho : o.op = .call { callee := .builtin .append, args := #[x, y], argTypes := #[131, 131] }) (hty : o.type = 131) (hg : o.guard = none) (h1 : a.eval x = v) (h2 : a.eval y = .slice (some ⟨g, off, none⟩) m c) (hown : SOwn B w v ss) (hts : ∀ s ∈ ts, s.length = 64) (hm : ts.length = m) (hc : ∀ j u, (secsV ts)[j]? = some u → w.cell? ⟨g, off + j, none⟩ = some u) (hlen : ss.length + ts.length ≤ 1000000) (hB : B ≤ w.heap.size) (h : ∀ v' w', SOwn B w' v' (ss ++ ts) → w.grownBy w' v.ownBlock → wpList Tryz.prog ops Q rest (a.put o.dst v') w') : wpList Tryz.prog ops Q (o :: rest) a w := by
  obtain ⟨v', w', hr, q1, q2⟩ := op_app131 (ρ := a.eval) h1 h2 hown hts hm hc hlen hB
  exact wpList_val hg (hr o ho hty) (h v' w' q1 q2)
theorem wpListIn_app24 {F : Fence} {n : Nat} {x y : Operand} {B g off m c : Nat} {v : Value} {ss ts : List Sec} (ho : o.op = .call { callee := .builtin .append, args := #[x, y], argTypes := #[131, 131] }) (hty : o.type = 131) (hg : o.guard = none) (h1 : a.eval x = v) (h2 : a.eval y = .slice (some ⟨g, off, none⟩) m c) (hown : SOwn B w v ss) (hts : ∀ s ∈ ts, s.length = 64) (hm : ts.length = m) (hc : ∀ j u, (secsV ts)[j]? = some u → w.cell? ⟨g, off + j, none⟩ = some u) (hlen : ss.length + ts.length ≤ 1000000) (hB : B ≤ w.heap.size) (h : ∀ v' w', SOwn B w' v' (ss ++ ts) → w.grownBy w' v.ownBlock → wpListIn F n Tryz.prog ops Q rest (a.put o.dst v') w') : wpListIn F n Tryz.prog ops Q (o :: rest) a w := by
  obtain ⟨v', w', hr, q1, q2⟩ := op_app131 (ρ := a.eval) h1 h2 hown hts hm hc hlen hB
  exact wpListIn_val hg (by simp [Oper.about, ho, resolve, Target.leads, Sem.run_pure]) (by rw [ho]; intro c hc; cases hc) (hr o ho hty) (h v' w' q1 q2)
theorem wpList_copy27 {x y : Operand} {g off g2 o2 n1 n2 c2 : Nat} {cur : List Value} {bs : List UInt8} (ho : o.op = .call { callee := .builtin .copy, args := #[x, y], argTypes := #[46, 46] }) (hg : o.guard = none) (h1 : a.eval x = .slice (some ⟨g, off, none⟩) n1 c2) (h2 : a.eval y = .slice (some ⟨g2, o2, none⟩) bs.length n2) (hA : Arr w g cur) (hr : w.rangeAt g2 o2 (bytesV bs)) (hle : bs.length ≤ n1) (hfit : off + bs.length ≤ cur.length) (h : ∀ w', Arr w' g (cur.take off ++ (bytesV bs ++ cur.drop (off + bs.length))) → w.grownBy w' (some g) → w'.heap.size = w.heap.size → wpList Tryz.prog ops Q rest (a.put o.dst (.int .i64 (bs.length : Int))) w') : wpList Tryz.prog ops Q (o :: rest) a w := by
  obtain ⟨w', hr', q1, q2, q3⟩ := op_copy328 (ρ := a.eval) h1 h2 hA hr hle hfit
  exact wpList_val hg (hr' o ho) (h w' q1 q2 q3)
theorem wpListIn_copy27 {F : Fence} {n : Nat} {x y : Operand} {g off g2 o2 n1 n2 c2 : Nat} {cur : List Value} {bs : List UInt8} (ho : o.op = .call { callee := .builtin .copy, args := #[x, y], argTypes := #[46, 46] }) (hg : o.guard = none) (h1 : a.eval x = .slice (some ⟨g, off, none⟩) n1 c2) (h2 : a.eval y = .slice (some ⟨g2, o2, none⟩) bs.length n2) (hA : Arr w g cur) (hr : w.rangeAt g2 o2 (bytesV bs)) (hle : bs.length ≤ n1) (hfit : off + bs.length ≤ cur.length) (h : ∀ w', Arr w' g (cur.take off ++ (bytesV bs ++ cur.drop (off + bs.length))) → w.grownBy w' (some g) → w'.heap.size = w.heap.size → wpListIn F n Tryz.prog ops Q rest (a.put o.dst (.int .i64 (bs.length : Int))) w') : wpListIn F n Tryz.prog ops Q (o :: rest) a w := by
  obtain ⟨w', hr', q1, q2, q3⟩ := op_copy328 (ρ := a.eval) h1 h2 hA hr hle hfit
  exact wpListIn_val hg (by simp [Oper.about, ho, resolve, Target.leads, Sem.run_pure]) (by rw [ho]; intro c hc; cases hc) (hr' o ho) (h w' q1 q2 q3)
end
end Go.Proofs.YtdfdalkcljfghaaGreat
