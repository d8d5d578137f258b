/-
  Slices of sectors; sectors' bytes joined, the statements' way and the program's.
-/
import Derived.Test.YtjebejdcjfnleaaFRow
namespace Go.Proofs.Ytjebejdcjfnleaa
open Go.RowKit

/-- A slice of sectors, below block N. -/
def SRow (N : Nat) (w : World) (a : Option Addr) (len : Nat) (ss : List Sec) : Prop :=
  ss.length = len ∧ (∀ s ∈ ss, s.length = 64) ∧ ∀ i, i < len → ∃ b off, a = some ⟨b, off, none⟩ ∧ b < N ∧ w.rangeAt b (off + i * 64) (bytesV (ss.getD i []))
def SRowV (N : Nat) (w : World) (v : Value) (ss : List Sec) : Prop :=
  ∃ a len cap, v = .slice a len cap ∧ len ≤ cap ∧ cap ≤ maxLen ∧ (a = none → cap = 0) ∧ SRow N w a len ss
theorem range_below {N : Nat} {w w' : World} {b o : Nat} {vs : List Value} (h : w.rangeAt b o vs) (hb : Below N w w') (hl : b < N) : w'.rangeAt b o vs := fun j v hj =>
  (hb.cell (p := ⟨b, o + j, none⟩) hl).trans (h j v hj)
theorem SRow.below {N : Nat} {w w' : World} {a : Option Addr} {len : Nat} {ss : List Sec} (h : SRow N w a len ss) (hb : Below N w w') : SRow N w' a len ss :=
  ⟨h.1, h.2.1, fun i hi => by
    obtain ⟨b, off, ha, hl, hc⟩ := h.2.2 i hi
    exact ⟨b, off, ha, hl, range_below hc hb hl⟩⟩
theorem SRow.up {N M : Nat} {w : World} {a : Option Addr} {len : Nat} {ss : List Sec} (h : SRow N w a len ss) (hb : N ≤ M) : SRow M w a len ss :=
  ⟨h.1, h.2.1, fun i hi => by
    obtain ⟨b, off, ha, hl, hc⟩ := h.2.2 i hi
    exact ⟨b, off, ha, by omega, hc⟩⟩
theorem SRow.take {N : Nat} {w : World} {a : Option Addr} {len : Nat} {ss : List Sec} (h : SRow N w a len ss) (n : Nat) (hn : n ≤ len) : SRow N w a n (ss.take n) :=
  ⟨by have := h.1; rw [List.length_take]; omega, fun s hs => h.2.1 s (List.mem_of_mem_take hs), fun i hi => by
    obtain ⟨b, off, ha, hl, hc⟩ := h.2.2 i (by omega)
    refine ⟨b, off, ha, hl, ?_⟩
    rw [List.getD_eq_getElem?_getD, List.getElem?_take_of_lt hi, ← List.getD_eq_getElem?_getD]
    exact hc⟩
theorem SRowV.below {N : Nat} {w w' : World} {v : Value} {ss : List Sec} (h : SRowV N w v ss) (hb : Below N w w') : SRowV N w' v ss := by
  obtain ⟨a, len, cap, rfl, h1, h2, h3, hr⟩ := h
  exact ⟨a, len, cap, rfl, h1, h2, h3, hr.below hb⟩
theorem SRowV.up {N M : Nat} {w : World} {v : Value} {ss : List Sec} (h : SRowV N w v ss) (hb : N ≤ M) : SRowV M w v ss := by
  obtain ⟨a, len, cap, rfl, h1, h2, h3, hr⟩ := h
  exact ⟨a, len, cap, rfl, h1, h2, h3, hr.up hb⟩
theorem SRowV.nil (N : Nat) (w : World) : SRowV N w (.slice none 0 0) [] := ⟨none, 0, 0, rfl, Nat.le_refl _, Nat.zero_le _, fun _ => rfl, rfl, by simp, fun i hi => by omega⟩

/-- v is a slice of sectors that the call owns, and it holds ss. -/
def SOwn (B : Nat) (w : World) (v : Value) (ss : List Sec) : Prop := w.ownsRow B 75 64 v ss.length (secsV ss) ∧ ∀ s ∈ ss, s.length = 64
theorem SOwn.nil (B : Nat) (w : World) : SOwn B w (.slice none 0 0) [] := ⟨World.ownsRow_nil w B 75 64, by simp⟩
theorem SOwn.row {B : Nat} {w : World} {v : Value} {ss : List Sec} (h : SOwn B w v ss) : SRowV w.heap.size w v ss := by
  rcases h.1.2 with ⟨e, h0⟩ | ⟨g, cap, cur, e, hb, hh, hcap, hmax, hcur, htk⟩
  · obtain rfl : ss = [] := List.length_eq_zero_iff.1 h0
    rw [e]
    exact SRowV.nil _ _
  · refine ⟨_, _, cap, e, hcap, hmax, by simp, rfl, h.2, fun i hi => ⟨g, 0, rfl, (Array.getElem?_eq_some_iff.1 hh).1, fun j u hj => ?_⟩⟩
    have h1 := secsV_range h.2 hi j u hj
    rw [Nat.zero_add, cell_of_row w g _ cur 75 _ hh, ← Array.getElem?_toList]
    have h2 : i * 64 + j < (secsV ss).length := (List.getElem?_eq_some_iff.1 h1).1
    have h3 : (cur.toList.take (ss.length * 64))[i * 64 + j]? = cur.toList[i * 64 + j]? := by
      rw [List.getElem?_take]
      rw [secsV_length h.2] at h2
      simp [h2]
    rw [← h3, htk, h1]
theorem SOwn.keep {B : Nat} {w w' : World} {v : Value} {ss : List Sec} (h : SOwn B w v ss) (hb : ∀ k, k < w.heap.size → w'.heap[k]? = w.heap[k]?) : SOwn B w' v ss := by
  refine ⟨⟨h.1.1, ?_⟩, h.2⟩
  rcases h.1.2 with h1 | ⟨g', cap, cur, e, hb', hh, hr⟩
  · exact Or.inl h1
  · exact Or.inr ⟨g', cap, cur, e, hb', by rw [hb g' (Array.getElem?_eq_some_iff.1 hh).1]; exact hh, hr⟩
theorem SOwn.keepB {B : Nat} {w w' : World} {v : Value} {ss : List Sec} (h : SOwn B w v ss) (hb : Below w.heap.size w w') : SOwn B w' v ss := h.keep hb.block
theorem SOwn.lower {B B' : Nat} {w : World} {v : Value} {ss : List Sec} (h : SOwn B w v ss) (hb : B' ≤ B) : SOwn B' w v ss := by
  refine ⟨⟨h.1.1, ?_⟩, h.2⟩
  rcases h.1.2 with h1 | ⟨g', cap, cur, e, hb', hh, hr⟩
  · exact Or.inl h1
  · exact Or.inr ⟨g', cap, cur, e, by omega, hh, hr⟩
theorem alloc75z (w : World) : (Instr.alloc 75 true (.tuple #[])).run Try.prog w = .ok (.pointer (some ⟨w.heap.size, 0, none⟩)) (w.alloc (.cells (bytesV zeroS).toArray 75)) := alloc75 w

theorem flat_snoc {ss : List Sec} {k : Nat} (h : k < ss.length) : (ss.take (k + 1)).flatten = (ss.take k).flatten ++ ss.getD k [] := by
  rw [take_snoc [] ss k h]; simp
theorem joined_snoc {ss : List Sec} {k : Nat} (h : k < ss.length) : joinedF (ss.take (k + 1)) = joinedF (ss.take k) ++ (ss.getD k []).take 63 := by
  rw [take_snoc [] ss k h]; simp [joinedF]
theorem flat_le : ∀ {l : List Sec}, (∀ s ∈ l, s.length = 64) → ∀ k, (l.take k).flatten.length ≤ 64 * l.length := fun {l} hs k => by
  rw [flat_length (fun s h => hs s (List.mem_of_mem_take h)), List.length_take]; omega

theorem arr_row {w : World} {g : Nat} {s : Sec} (h : Arr w g (bytesV s)) (hs : s.length = 64) {n : Nat} (hn : n ≤ 64) : RowV w.heap.size w (.slice (some ⟨g, 0, none⟩) n 64) (s.take n) := by
  refine ⟨_, _, _, rfl, hn, by decide, by simp, by rw [List.length_take]; omega, by omega, fun i hi => ⟨g, 0, rfl, h.lt, ?_⟩⟩
  rw [Nat.zero_add, h.cell (bytesV_get s (i := i) (by omega)), List.getD_eq_getElem?_getD, List.getD_eq_getElem?_getD, List.getElem?_take_of_lt hi]

set_option maxHeartbeats 1600000 in
set_option maxRecDepth 100000 in
theorem joined_walk (N : Nat) (v : Value) (ss : List Sec) (w : World) (hN : N ≤ w.heap.size) (hr : SRowV N w v ss) (hl : ss.length ≤ 100000) :
    Calls Try.prog 46 #[v] w fun e w' => ∃ v', e = .returned v' ∧ Own w.heap.size w' v' (joinedF ss) ∧ Below w.heap.size w w' := by
  obtain ⟨a, len, cap, rfl, q1, q2, q3, hrow⟩ := hr
  have HROW := hide hrow
  have hlen := hrow.1
  have HS := hide hrow.2.1
  have hlb : len ≤ 100000 := by omega
  have HLEN := hide hlen
  clear hrow hlen hl
  have HE := hide (Own.nil w.heap.size w)
  go_enter Try.func46, Try.ntmps46
  go_wp2_with fail
  go_loopw [3, 8] (fun co ci wr => ∃ k : Nat, k ≤ len ∧ ci = .int .i64 (k : Int) ∧ Own w.heap.size wr co (joinedF (ss.take k)) ∧ Below w.heap.size w wr) (fun _ ci _ => len - (intOf ci).toNat)
  case atStart => exact ⟨0, by omega, rfl, by simpa [joinedF] using unhide HE, Below.refl _ _⟩
  case round =>
    obtain ⟨k, hk, rfl, hO, hb⟩ := hrel
    by_cases hlt : k < len
    · obtain ⟨b, off, rfl, hbN, hrange⟩ := ((unhide HROW).below (hb.mono hN)).2.2 k hlt
      have hsk : (ss.getD k []).length = 64 := unhide HS _ (by
        rw [List.getD_eq_getElem?_getD, List.getElem?_eq_getElem (by rw [unhide HLEN]; exact hlt)]
        exact List.getElem_mem _)
      have HST := hide (joined_snoc (ss := ss) (k := k) (by rw [unhide HLEN]; exact hlt))
      have hfl : (joinedF (ss.take k)).length ≤ 64 * len := by
        rw [joinedF_length (fun s h => unhide HS s (List.mem_of_mem_take h)), List.length_take, unhide HLEN]; omega
      generalize ss.getD k [] = s at *
      generalize joinedF (ss.take k) = acc at *
      have HSK := hide hsk
      obtain ⟨cs, hcs⟩ : ∃ cs, cs = bytesV s := ⟨_, rfl⟩
      rw [← hcs] at hrange
      have HCS := hide hcs
      have hcl : cs.length = 64 := by rw [hcs, bytesV_length, hsk]
      have HCL := hide hcl
      have HONE : Hid (∀ v ∈ cs, v.oneCell' = true) := hide (by rw [hcs]; exact bytesV_one s)
      have HRG := hide hrange
      have HO := hide hO
      have Hb := hide hb
      have hfl2 : acc.length ≤ 6400000 := by omega
      clear hsk hcs hrange hO hb hcl hfl
      go_wp2_with (first
        | refine wpList_load_mid rfl 75 _ rfl b (off + k * 64) rfl cs _ (unhide HRG) Try.underlying75 rfl (by rw [unhide HCL]; exact info75) ?_
        | refine wpList_alloc 75 75 (bytesV zeroS) rfl rfl alloc75 ?_)
      intro w1 hA1 hb1 hs1
      have HA1 := hide hA1
      have Hb1 := hide hb1
      clear hA1 hb1 HRG
      go_wp2_with (refine wpList_storeAll 75 _ _ wr.heap.size cs (bytesV zeroS) rfl rfl rfl rfl (unhide HA1) (by rw [unhide HCL]; rfl) (by rw [unhide HCL]; exact info75) (unhide HONE) ?_)
      intro w2 hA2 hg2 hs2
      have hb2 : Below wr.heap.size wr w2 := (unhide Hb1).grown hg2 (by omega) (fun k hk => by simp at hk; omega)
      rw [unhide HCS] at hA2
      have HR2 := hide (arr_row hA2 (unhide HSK) (n := 63) (by omega))
      have HO2 := hide ((unhide HO).keepB hb2)
      have Hb2 := hide ((unhide Hb).trans (hb2.mono (unhide Hb).size))
      have HTL : Hid ((s.take 63).length = 63) := hide (by rw [List.length_take, unhide HSK]; omega)
      clear hA2 hg2 hb2 HA1 Hb1 HO Hb
      go_wp2_with (refine wpList_appRow rfl _ _ rfl w.heap.size w2.heap.size _ acc rfl (unhide HO2) _ rfl (s.take 63) (unhide HR2) ?_ ?_ ?_)
      · rw [unhide HTL]; omega
      · exact (unhide Hb2).size
      intro v3 w3 hO3 hG3
      have HO3 := hide hO3
      have Hb3 := hide ((unhide Hb2).trans ((unhide HO2).below hG3 (unhide Hb2).size))
      clear hO3 hG3 HO2 Hb2
      go_wp2
      go_roundw
      case rel =>
        refine ⟨k + 1, by omega, by go_num, ?_, unhide Hb3⟩
        rw [unhide HST]
        exact unhide HO3
      case measure => simp [intOf]; omega
    · obtain rfl : k = len := by omega
      rw [List.take_of_length_le (by rw [unhide HLEN]; exact Nat.le_refl _)] at hO
      have HO := hide hO
      have Hb := hide hb
      clear hO hb
      go_wp2
      go_ret
      exact ⟨_, rfl, unhide HO, unhide Hb⟩
end Go.Proofs.Ytjebejdcjfnleaa
