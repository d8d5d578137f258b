/-
  What slot.statusOf and slot.words answer; slices of texts of the call's own.
-/
import Derived.Test.YtglphnmnnfpcoaaDoorSWord
import Derived.Great.BuildSlice
import Derived.Lib.MapLaws
import Derived.Lib.TrimAscii
namespace Go.Proofs.YtglphnmnnfpcoaaDoor
open Go.RowKit

theorem full9 : ∃ i, Tryd.prog.info? 9 = some i ∧ i.zero = some (.string ⟨#[]⟩) ∧ i.size = 1 ∧ i.bytes = 16 := infoOf (by kernel_rfl)
theorem owns_same {w w' : World} {B e n m : Nat} {v : Value} {xs : List Value} (h : w.ownsRow B e m v n xs) (hb : ∀ k ∈ v.ownBlock.toList, w'.heap[k]? = w.heap[k]?) : w'.ownsRow B e m v n xs := by
  refine ⟨h.1, ?_⟩
  rcases h.2 with hn | ⟨g, cap, cur, rfl, h1, hgg, rest⟩
  · exact .inl hn
  · exact .inr ⟨g, cap, cur, rfl, h1, by rw [hb g (by simp [Value.ownBlock])]; exact hgg, rest⟩
theorem owns_slice {w : World} {B e n m : Nat} {v : Value} {xs : List Value} (h : w.ownsRow B e m v n xs) : ∃ a cap, v = .slice a n cap ∧ n ≤ cap ∧ cap ≤ maxLen := by
  rcases h.2 with ⟨rfl, rfl⟩ | ⟨g, cap, cur, rfl, _, _, h1, h2, _⟩
  · exact ⟨none, 0, rfl, Nat.le_refl _, Nat.zero_le _⟩
  · exact ⟨_, cap, rfl, h1, h2⟩
section
variable {w w' : World} {B e n : Nat} {v : Value} {xs : List Value}
theorem owns_keep (h : w.ownsRow B e 1 v n xs) (hb : ∀ k, k < w.heap.size → w'.heap[k]? = w.heap[k]?) : w'.ownsRow B e 1 v n xs := owns_same h fun k hk => hb k (h.lt k (by simpa using hk)).2
theorem owns_below (h : w.ownsRow B e 1 v n xs) (hb : Below w.heap.size w w') : w'.ownsRow B e 1 v n xs := owns_keep h hb.block
theorem owns_lower {B' : Nat} (h : w.ownsRow B e 1 v n xs) (hb : B' ≤ B) : w.ownsRow B' e 1 v n xs := by
  refine ⟨h.1, ?_⟩
  rcases h.2 with h1 | ⟨g', cap, cur, e, hb', hh, hr⟩
  · exact Or.inl h1
  · exact Or.inr ⟨g', cap, cur, e, by omega, hh, hr⟩
theorem owns_at (h : w.ownsRow B e 1 v n xs) {i : Nat} (hi : i < n) : ∃ g cap, v = .slice (some ⟨g, 0, none⟩) n cap ∧ B ≤ g ∧ g < w.heap.size ∧ n ≤ cap ∧ w.cell? ⟨g, i, none⟩ = xs[i]? := by
  rcases h.2 with ⟨rfl, h0⟩ | ⟨g, cap, cur, rfl, hb, hh, hcap, hmax, hcur, htk⟩
  · omega
  · refine ⟨g, cap, rfl, hb, (Array.getElem?_eq_some_iff.1 hh).1, hcap, ?_⟩
    rw [cell_of_row w g i cur e _ hh, ← Array.getElem?_toList, ← htk, List.getElem?_take_of_lt (by omega)]
theorem owns_bel (h : w.ownsRow B e 1 v n xs) (hg : w.grownBy w' v.ownBlock) (hB : B ≤ w.heap.size) : Below B w w' :=
  ⟨hg.os, hg.tape, hg.output, hg.size, fun k hk => hg.block k (by omega) fun e => by have := (h.lt k e.symm).1; omega⟩
end

section
variable {ops : Array Oper} {rest : List Oper} {o : Oper} {a : Act} {w : World} {Q : Exit → Act → World → Prop}
theorem run_one55 (w : World) (s : ByteArray) : (Instr.buildSlice 55 1 #[(0, .string s)]).run Tryd.prog w = .ok (.slice (some ⟨w.heap.size, 0, none⟩) 1 1) (w.alloc (.cells #[.string s] 9)) := by
  obtain ⟨i, i1, i2, i3, i4⟩ := full9
  exact run_buildSlice (P := Tryd.prog) w 55 9 1 #[(0, .string s)] #[.string s] i _ Tryd.underlying55 i1 i2 (by rw [i3]; decide) (by rw [i3]; decide) (by rw [i3]; kernel_rfl)
theorem owns_one (w : World) (e : TypeId) (u : Value) : (w.alloc (.cells #[u] e)).ownsRow w.heap.size e 1 (.slice (some ⟨w.heap.size, 0, none⟩) 1 1) 1 [u] :=
  ⟨rfl, .inr ⟨w.heap.size, 1, #[u], rfl, Nat.le_refl _, heap_alloc_new w _, Nat.le_refl _, by decide, rfl, rfl⟩⟩
theorem wpList_one55 (x : Operand) (s : ByteArray) (ho : o.op = .buildSlice 55 1 #[(0, x)]) (hg : o.guard = none) (hx : a.eval x = .string s)
    (h : ∀ w', w'.ownsRow w.heap.size 9 1 (.slice (some ⟨w.heap.size, 0, none⟩) 1 1) 1 [.string s] → Below w.heap.size w w' → w'.heap.size = w.heap.size + 1 → wpList Tryd.prog ops Q rest (a.put o.dst (.slice (some ⟨w.heap.size, 0, none⟩) 1 1)) w') :
    wpList Tryd.prog ops Q (o :: rest) a w := by
  refine wpList_plain hg fun K hK => ?_
  have r : (execOp a.eval o).run Tryd.prog w = .ok (.value (.slice (some ⟨w.heap.size, 0, none⟩) 1 1)) (w.alloc (.cells #[.string s] 9)) := by
    unfold execOp
    simp only [ho, List.map_toArray, List.map_cons, List.map_nil, hx, Sem.run_bind, run_one55, Result.andThen_ok, Sem.run_pure]
  unfold Oper.wp
  rw [r, Oper.upon_value]
  exact hK _ _ (h _ (owns_one w 9 _) ((Below.refl _ _).alloc (Nat.le_refl _) _) (by simp))
/-- 'append(l, x)' of one element: of bodies, of texts, of lists. -/
theorem wpList_app1 {t e : TypeId} {i : TypeInfo} {z : Value} {by_ : Nat} (hgd : o.guard = none) (s x : Operand) (ho : o.op = .call { callee := .builtin .append, args := #[s, x], argTypes := #[t, t] })
    (ht : Tryd.prog.underlying t = some (.slice e)) (hi : Tryd.prog.info? e = some i) (hz : i.zero = some z) (hs1 : i.size = 1) (hby : i.bytes = by_) (hzc : z.cells.size = 1) (hb : by_ ≤ 24)
    (B B2 : Nat) (v u : Value) (n : Nat) (xs : List Value) (g c : Nat) (hs : a.eval s = v) (hown : w.ownsRow B e 1 v n xs) (hx : a.eval x = .slice (some ⟨g, 0, none⟩) 1 c)
    (hn : w.ownsRow B2 e 1 (.slice (some ⟨g, 0, none⟩) 1 c) 1 [u]) (hu : u.oneCell' = true) (hlen : n ≤ 1000000) (hB : B ≤ w.heap.size)
    (h : ∀ v' w', w'.ownsRow B e 1 v' (n + 1) (xs ++ [u]) → w.grownBy w' v.ownBlock → wpList Tryd.prog ops Q rest (a.put o.dst v') w') : wpList Tryd.prog ops Q (o :: rest) a w := by
  refine wpList_append_own w hgd s x t ho B e i z 1 by_ ht hi hz hs1 hby hzc (by decide) v n xs hs hown ⟨g, 0, none⟩ 1 c [u] hx rfl (fun j y hj => ?_) (fun y hy => by rw [List.mem_singleton.1 hy]; exact hu) (by simp only [maxLen]; omega) ?_ hB fun v' w' h2 h3 _ => h v' w' h2 h3
  · obtain ⟨rfl, rfl⟩ : j = 0 ∧ y = u := by
      cases j with
      | zero => simp at hj; exact ⟨rfl, hj.symm⟩
      | succ j => simp at hj
    obtain ⟨g2, cap, e2, _, _, _, hc⟩ := owns_at hn (i := 0) (by omega)
    cases e2
    rw [Addr.add_mid]
    exact hc
  · have h1 : n + 1 ≤ 2000000 := by omega
    exact Nat.le_trans (Nat.mul_le_mul h1 hb) (show 2000000 * 24 ≤ 140737488355328 by decide)
end


def texV (l : List (List UInt8)) : List Value := l.map fun t => .string (tx t)
theorem texV_length (l : List (List UInt8)) : (texV l).length = l.length := by simp [texV]
theorem texV_get (l : List (List UInt8)) {i : Nat} (h : i < l.length) : (texV l)[i]? = some (.string (tx (l.getD i []))) := by
  rw [texV, List.getElem?_map, List.getD_eq_getElem?_getD, List.getElem?_eq_getElem h]; rfl
/-- v is a slice of texts that the call owns. -/
def Txs (B : Nat) (w : World) (v : Value) (l : List (List UInt8)) : Prop := w.ownsRow B 9 1 v l.length (texV l)
theorem Txs.nil (B : Nat) (w : World) : Txs B w (.slice none 0 0) [] := World.ownsRow_nil w B 9 1
theorem Txs.snoc {B : Nat} {w : World} {v : Value} {l : List (List UInt8)} {t : List UInt8} (h : w.ownsRow B 9 1 v (l.length + 1) (texV l ++ [.string (tx t)])) : Txs B w v (l ++ [t]) := by
  unfold Txs
  rw [List.length_append, texV, List.map_append]
  exact h

theorem decode_low (l : List UInt8) (h : l ≠ []) (hr : (Lib.decodeL l).1 = 32) : (Lib.decodeL l).2 = 1 ∧ l.take 1 = [32] := by
  have hp := List.length_pos_iff.2 h
  have hN := Lib.decodeL_N l
  rcases Lib.decodeN_shape l.length (l.getD 0 0).toNat (l.getD 1 0).toNat (l.getD 2 0).toNat (l.getD 3 0).toNat with ⟨c, e⟩ | ⟨c1, c2, c3, cv, e⟩ | ⟨c1, c2, c3, c4, cv, cs, e⟩ | ⟨c1, c2, c3, c4, c5, cv, cw, e⟩ | e
  · rw [e] at hN
    rw [hN] at hr
    refine ⟨by rw [hN], ?_⟩
    rw [Lib.takeA l hp]
    have h32 : (l.getD 0 0) = 32 := UInt8.toNat_inj.1 hr
    rw [h32]
  all_goals (rw [e] at hN; rw [hN] at hr; dsimp only at hr; omega)
theorem ne32 {c : UInt8} (h : c.toNat ≠ 32) : c ≠ 32 := fun e => h (by rw [e]; rfl)
theorem decode_high (l : List UInt8) (h : l ≠ []) (hr : (Lib.decodeL l).1 ≠ 32) : ∀ c ∈ l.take (Lib.decodeL l).2, c ≠ 32 := by
  have hp := List.length_pos_iff.2 h
  have hN := Lib.decodeL_N l
  rcases Lib.decodeN_shape l.length (l.getD 0 0).toNat (l.getD 1 0).toNat (l.getD 2 0).toNat (l.getD 3 0).toNat with ⟨c, e⟩ | ⟨c1, c2, c3, cv, e⟩ | ⟨c1, c2, c3, c4, cv, cs, e⟩ | ⟨c1, c2, c3, c4, c5, cv, cw, e⟩ | e
  · rw [e] at hN
    rw [hN] at hr ⊢
    rw [Lib.takeA l hp]
    intro c hc
    rw [List.mem_singleton.1 hc]
    exact ne32 hr
  · rw [e] at hN
    rw [hN]
    rw [Lib.takeB l c2]
    intro c hc
    simp only [List.mem_cons, List.not_mem_nil, or_false] at hc
    rcases hc with rfl | rfl
    · exact ne32 (by omega)
    · exact ne32 (by omega)
  · rw [e] at hN
    rw [hN]
    rw [Lib.takeC l c2]
    intro c hc
    simp only [List.mem_cons, List.not_mem_nil, or_false] at hc
    rcases hc with rfl | rfl | rfl
    · exact ne32 (by omega)
    · exact ne32 (by omega)
    · exact ne32 (by omega)
  · rw [e] at hN
    rw [hN]
    rw [Lib.takeD l c2]
    intro c hc
    simp only [List.mem_cons, List.not_mem_nil, or_false] at hc
    rcases hc with rfl | rfl | rfl | rfl
    · exact ne32 (by omega)
    · exact ne32 (by omega)
    · exact ne32 (by omega)
    · exact ne32 (by omega)
  · rw [e] at hN
    rw [hN]
    rw [Lib.takeA l hp]
    intro c hc
    rw [List.mem_singleton.1 hc]
    refine ne32 fun h32 => ?_
    cases l with
    | nil => exact h rfl
    | cons b t =>
      have hb : b.toNat = 32 := h32
      have := Lib.decodeL_ascii b t (by omega)
      rw [this] at hN
      simp only [Prod.mk.injEq] at hN
      omega
theorem rune_at (s : ByteArray) (pos : Nat) : Utf8.decode s pos = Lib.decodeL (s.data.toList.drop pos) := (Lib.decodeL_drop s pos).symm
theorem rest_ne (t : List UInt8) (pos : Nat) (h : pos < t.length) : t.drop pos ≠ [] := by
  intro e
  have := congrArg List.length e
  rw [List.length_drop] at this
  simp at this
  omega
theorem width (t : List UInt8) (pos : Nat) (h : pos < t.length) : 1 ≤ (Utf8.decode (tx t) pos).2 ∧ pos + (Utf8.decode (tx t) pos).2 ≤ t.length := by
  rw [rune_at, tx_list]
  have h1 := Lib.decodeL_width (t.drop pos)
  have h2 := Lib.decodeL_le _ (rest_ne t pos h)
  rw [List.length_drop] at h2
  omega
theorem tx_cut (t : List UInt8) (a b : Nat) : (tx t).extract a b = tx ((t.take b).drop a) := by
  apply ByteArray.ext
  rw [ByteArray.data_extract]
  apply Array.ext'
  rw [Array.toList_extract, List.extract_eq_take_drop]
  show (t.drop a).take (b - a) = (t.take b).drop a
  rw [List.drop_take]
/-- A step of the cutting. -/
theorem split_step {t : List UInt8} {ws : List (List UInt8)} {frm pos : Nat} (hf : frm ≤ pos) (hp : pos < t.length) (h : split t = ws ++ splitF ((t.take pos).drop frm) (t.drop pos)) :
    ((Utf8.decode (tx t) pos).1 = 32 → split t = (ws ++ [(t.take pos).drop frm]) ++ splitF ((t.take (pos + (Utf8.decode (tx t) pos).2)).drop (pos + 1)) (t.drop (pos + (Utf8.decode (tx t) pos).2)) ∧ (Utf8.decode (tx t) pos).2 = 1) ∧
    ((Utf8.decode (tx t) pos).1 ≠ 32 → split t = ws ++ splitF ((t.take (pos + (Utf8.decode (tx t) pos).2)).drop frm) (t.drop (pos + (Utf8.decode (tx t) pos).2))) := by
  have hne := rest_ne t pos hp
  have hd : t.drop pos = (t.drop pos).take (Utf8.decode (tx t) pos).2 ++ t.drop (pos + (Utf8.decode (tx t) pos).2) := by
    rw [← List.drop_drop, List.take_append_drop]
  have ht : ∀ k, t.take (pos + k) = t.take pos ++ (t.drop pos).take k := fun k => List.take_add
  have hw := width t pos hp
  constructor
  · intro hr
    have hr2 := hr
    rw [rune_at, tx_list] at hr2
    obtain ⟨k1, k2⟩ := decode_low _ hne hr2
    have hk : (Utf8.decode (tx t) pos).2 = 1 := by rw [rune_at, tx_list]; exact k1
    refine ⟨?_, hk⟩
    rw [hk, k2] at hd
    rw [h, hk]
    rw [show splitF ((t.take pos).drop frm) (t.drop pos) = ((t.take pos).drop frm) :: splitF [] (t.drop (pos + 1)) by
      rw [hd, List.singleton_append, splitF, if_pos rfl]]
    have e : (t.take (pos + 1)).drop (pos + 1) = [] := List.drop_of_length_le (by rw [List.length_take]; omega)
    rw [e, List.append_assoc, List.singleton_append]
  · intro hr
    have hr2 := hr
    rw [rune_at, tx_list] at hr2
    have hh := decode_high _ hne hr2
    rw [show (Lib.decodeL (t.drop pos)).2 = (Utf8.decode (tx t) pos).2 by rw [rune_at, tx_list]] at hh
    rw [h]
    congr 1
    rw [hd, splitF_plain _ _ _ hh, ht, List.drop_append_of_le_length (by rw [List.length_take]; omega)]

theorem ag9 (w : World) : (isAgg 9).run Tryd.prog w = .ok false w := by kernel_rfl
theorem sz9 (w : World) : (Go.sizeOf 9).run Tryd.prog w = .ok 1 w := by kernel_rfl
theorem stF_at {l : List UInt8} {k : Nat} (hk : k < 5) (h : wordsB.getD k [] = l) : stF l = (k : Int) := by
  have : k = 0 ∨ k = 1 ∨ k = 2 ∨ k = 3 ∨ k = 4 := by omega
  rcases this with rfl | rfl | rfl | rfl | rfl <;> subst h <;> decide +kernel
theorem stF_none {l : List UInt8} (h : ∀ k, k < 5 → wordsB.getD k [] ≠ l) : stF l = -1 := by
  unfold stF
  rw [if_neg (fun e => h 0 (by omega) e.symm), if_neg (fun e => h 1 (by omega) e.symm), if_neg (fun e => h 2 (by omega) e.symm), if_neg (fun e => h 3 (by omega) e.symm), if_neg (fun e => h 4 (by omega) e.symm)]
theorem wordsV_at {k : Nat} (hk : k < 5) : wordsV[k]? = some (.string (tx (wordsB.getD k []))) := by
  rw [wordsV, List.getElem?_map, List.getD_eq_getElem?_getD, List.getElem?_eq_getElem (show k < wordsB.length from hk)]; rfl

set_option maxHeartbeats 1600000 in
set_option maxRecDepth 100000 in
theorem status_walk (l : List UInt8) (w : World) (hT : Tabs w) : Calls Tryd.prog 54 #[.string (tx l)] w fun e w' => e = .returned (.int .i64 (stF l)) ∧ w' = w := by
  have HS := hide hT.sts
  have HL : Hid (wordsV.length = 5) := hide rfl
  have HI := hide info61
  clear hT
  obtain ⟨V, hV⟩ : ∃ V, V = wordsV := ⟨_, rfl⟩
  have HV := hide hV
  rw [← hV] at HS HL HI
  clear hV
  go_enter Tryd.func54, Tryd.ntmps54
  go_wp2_with (refine wpList_load_mid rfl 61 _ rfl 0 0 rfl V _ (unhide HS) Tryd.underlying61 rfl (unhide HI) ?_)
  go_loopw [6] (fun i wr => ∃ k : Nat, k ≤ 5 ∧ i = .int .i64 (k : Int) ∧ wr = w ∧ ∀ j, j < k → wordsB.getD j [] ≠ l) (fun i _ => 5 - (intOf i).toNat)
  case atStart => exact ⟨0, by omega, rfl, rfl, fun j hj => by omega⟩
  case round =>
    obtain ⟨k, hk, rfl, hw, hno⟩ := hrel
    subst wr
    have Hno := hide hno
    clear hno
    by_cases hlt : k < 5
    · have hi := H.run_index Tryd.underlying61 ag9 sz9 V k _ (unhide HL) (by rw [unhide HV]; exact wordsV_at hlt) w
      have he := tx_beq l (wordsB.getD k [])
      by_cases hm : wordsB.getD k [] = l
      · have Hst := hide (stF_at hlt hm)
        rw [decide_eq_true hm.symm] at he
        clear hm Hno
        generalize wordsB.getD k [] = x at *
        go_wp2
        go_ret
        refine ⟨?_, rfl⟩
        rw [unhide Hst]
        rfl
      · have Hn2 : Hid (∀ j, j < k + 1 → wordsB.getD j [] ≠ l) := by
          show ∀ j, _
          intro j hj
          by_cases e : j = k
          · rw [e]; exact hm
          · exact unhide Hno j (by omega)
        rw [decide_eq_false (fun e => hm e.symm)] at he
        clear hm Hno
        generalize wordsB.getD k [] = x at *
        go_wp2
        go_roundw
        case rel => exact ⟨k + 1, by omega, by go_num, by simp, unhide Hn2⟩
        case measure => simp [intOf]; omega
    · obtain rfl : k = 5 := by omega
      have Hst := hide (stF_none (unhide Hno))
      clear hlt Hno
      go_wp2
      go_ret
      refine ⟨?_, rfl⟩
      rw [unhide Hst]
      rfl

/-- What slot.words tells of a text. -/
def WordsOf (t : List UInt8) (ws : List (List UInt8)) : Prop := 1 ≤ ws.length ∧ ws.length ≤ 7 ∧ ((split t).length ≤ 6 → ws = split t) ∧ ∀ x ∈ ws, x.length ≤ t.length
theorem splitF_len : ∀ (t cur : List UInt8), 1 ≤ (splitF cur t).length := fun t cur => by
  have := splitF_ne t cur
  cases h : splitF cur t with
  | nil => exact absurd h this
  | cons a b => simp
theorem cut_len (t : List UInt8) (a b : Nat) : ((t.take b).drop a).length ≤ t.length := by
  rw [List.length_drop, List.length_take]; omega

set_option maxHeartbeats 3200000 in
set_option maxRecDepth 100000 in
theorem words_walk (t : List UInt8) (ht : t.length ≤ 1000000) (w : World) : Calls Tryd.prog 36 #[.string (tx t)] w fun e w' => ∃ v ws, e = .returned v ∧ Txs w.heap.size w' v ws ∧ WordsOf t ws ∧ Below w.heap.size w w' := by
  have hsz : (tx t).size = t.length := tx_size t
  obtain ⟨i9, j1, j2, j3, j4⟩ := full9
  go_enter Tryd.func36, Tryd.ntmps36
  go_wp2
  go_loopw [3, 4] (fun v f wr => ∃ (pos frm : Nat) (ws : List (List UInt8)), f = .int .i64 (frm : Int) ∧ frm ≤ pos ∧ pos ≤ t.length ∧ wr.heap[w.heap.size]? = some (.stringIter (tx t) pos) ∧ Txs (w.heap.size + 1) wr v ws ∧ Below w.heap.size w wr ∧ ws.length ≤ 6 ∧ split t = ws ++ splitF ((t.take pos).drop frm) (t.drop pos) ∧ ∀ x ∈ ws, x.length ≤ t.length) (fun _ _ wr => t.length - wr.iterPos w.heap.size)
  case atStart => exact ⟨0, 0, [], rfl, by omega, by omega, World.iter_heap w (tx t) 0, Txs.nil _ _, (Below.refl _ w).alloc (Nat.le_refl _) _, by simp, by simp [split], by simp⟩
  case round =>
    obtain ⟨pos, frm, ws, rfl, hfp, hps, hit, hown, hb, hl6, hsp, hlen⟩ := hrel
    have hlt : w.heap.size < wr.heap.size := (Array.getElem?_eq_some_iff.1 hit).1
    obtain ⟨a, cap, rfl, hcap, hmax⟩ := owns_slice hown
    by_cases hp : pos < t.length
    · have hnx : ∀ ty, (Instr.next (.pointer (some ⟨w.heap.size, 0, none⟩)) true ty).run Tryd.prog wr = _ := fun ty => Lib.run_next_any_at wr w.heap.size (tx t) pos ty hit (by rw [hsz]; exact hp)
      have hwd := width t pos hp
      have hit2 := Lib.iterAt_heap wr w.heap.size (tx t) pos (pos + (Utf8.decode (tx t) pos).2) hit
      have hbw2 := Lib.below_iterAt hb (k := w.heap.size) (by omega) (tx t) (pos + (Utf8.decode (tx t) pos).2)
      have hst := split_step hfp hp hsp
      have hown2 : Txs (w.heap.size + 1) (wr.iterAt w.heap.size (tx t) (pos + (Utf8.decode (tx t) pos).2)) (.slice a ws.length cap) ws := owns_same hown fun k hk => by
        have := (World.ownsRow.lt hown k (by simpa using hk)).1
        exact Lib.iterAt_other _ _ _ _ _ (by omega)
      have hsz2 : (wr.iterAt w.heap.size (tx t) (pos + (Utf8.decode (tx t) pos).2)).heap.size = wr.heap.size := Lib.iterAt_size ..
      generalize hW : wr.iterAt w.heap.size (tx t) (pos + (Utf8.decode (tx t) pos).2) = W at *
      generalize hR : (Utf8.decode (tx t) pos).1 = r at *
      generalize hK : (Utf8.decode (tx t) pos).2 = k at *
      have Hown2 := hide hown2
      have Hb2 := hide hbw2
      have Hit2 := hide hit2
      have HW := hide hW
      have HR := hide hR
      have HK := hide hK
      have Hlen := hide hlen
      have Hmax := hide hmax
      have Hit := hide hit
      clear hown2 hbw2 hit2 hown hb hit hR hK hlen hmax hcap
      by_cases h6 : ws.length = 6
      · have hgt : (5 : Int) < (ws.length : Int) := by omega
        have Hres : Hid (WordsOf t ws) := by
          refine ⟨by omega, by omega, fun h => ?_, unhide Hlen⟩
          exfalso
          rw [hsp, List.length_append] at h
          have := splitF_len (t.drop pos) ((t.take pos).drop frm)
          omega
        have Hsz2 := hide hsz2
        clear hsp hst h6 hsz2
        generalize hN : ws.length = n at *
        have HN := hide hN
        clear hN
        go_wp2
        go_ret
        refine ⟨_, ws, rfl, ?_, unhide Hres, unhide Hb2⟩
        have h := owns_lower (unhide Hown2) (show w.heap.size ≤ w.heap.size + 1 by omega)
        unfold Txs
        rw [unhide HN] at h ⊢
        exact h
      · have hgt : ¬ (5 : Int) < (ws.length : Int) := by omega
        by_cases hr : r = 32
        · obtain ⟨hs1, hk1⟩ := hst.1 hr
          subst hk1
          subst hr
          have Hs1 := hide hs1
          clear hs1 hst hsp
          have hcutl := cut_len t frm pos
          have hcut := tx_cut t frm pos
          have Hcutl := hide hcutl
          clear hcutl
          generalize hP : (t.take pos).drop frm = P at *
          clear hP
          generalize hN : ws.length = n at *
          have HN := hide hN
          have hn6 : n ≤ 6 := hl6
          have Hsz2 := hide hsz2
          clear hN h6 hsz2
          go_wp2_with (refine wpList_one55 _ (tx P) rfl rfl rfl ?_)
          intro w2 ho2 hb2 hs2
          have hown3 := owns_below (unhide Hown2) (hb2.mono (by have := unhide Hsz2; omega))
          rw [unhide HN] at hown3
          have Hown3 := hide hown3
          have Ho2 := hide ho2
          have Hb3 := hide ((unhide Hb2).trans (hb2.mono (by have := unhide Hsz2; omega)))
          have Hit3 : Hid (w2.heap[w.heap.size]? = some (.stringIter (tx t) (pos + 1))) := by
            show _ = _
            rw [hb2.block w.heap.size (by have := unhide Hsz2; omega)]
            exact unhide Hit2
          have Hsz3 : Hid (w.heap.size + 1 ≤ w2.heap.size) := by show _ ≤ _; have := unhide Hsz2; omega
          clear hown3 ho2 hb2 hs2 Hown2 Hb2 Hit2
          go_wp2_with (refine wpList_app1 rfl _ _ rfl Tryd.underlying55 j1 j2 j3 j4 rfl (by decide) (w.heap.size + 1) _ _ (.string (tx P)) n (texV ws) _ _ rfl (unhide Hown3) rfl (unhide Ho2) rfl (by omega) (unhide Hsz3) ?_)
          intro v' w3 hown4 hg4
          have Hown4 := hide hown4
          have Hb4 := hide ((unhide Hb3).trans ((owns_bel (unhide Hown3) hg4 (unhide Hsz3)).mono (by omega)))
          have Hit4 : Hid (w3.heap[w.heap.size]? = some (.stringIter (tx t) (pos + 1))) := by
            show _ = _
            rw [(owns_bel (unhide Hown3) hg4 (unhide Hsz3)).block w.heap.size (by omega)]
            exact unhide Hit3
          clear hown4 hg4 Hown3 Hb3 Hit3 Ho2
          go_wp2
          go_roundw
          case rel =>
            refine ⟨pos + 1, pos + 1, ws ++ [P], by go_num, by omega, by omega, unhide Hit4, ?_, unhide Hb4, ?_, unhide Hs1, ?_⟩
            · have h := unhide Hown4
              rw [← unhide HN] at h
              exact Txs.snoc h
            · have := unhide HN
              simp
              omega
            · intro x hx
              rcases List.mem_append.1 hx with h | h
              · exact unhide Hlen x h
              · rw [List.mem_singleton.1 h]; exact unhide Hcutl
          case measure =>
            have h1 := unhide Hit4
            have h2 := unhide Hit
            simp only [World.iterPos, h1, h2]
            omega
        · have hne : ((r : Int) == 32) = false := by
            have : ¬ (r : Int) = 32 := by omega
            simpa using this
          have Hs2 := hide (hst.2 hr)
          have Hsz2 := hide hsz2
          clear hst hsp hr hsz2 h6
          go_wp2
          go_roundw
          case rel => exact ⟨pos + k, frm, ws, rfl, by omega, by omega, unhide Hit2, unhide Hown2, unhide Hb2, hl6, unhide Hs2, unhide Hlen⟩
          case measure =>
            have h1 := unhide Hit2
            have h2 := unhide Hit
            simp only [World.iterPos, h1, h2]
            omega
    · have hnx : ∀ ty, (Instr.next (.pointer (some ⟨w.heap.size, 0, none⟩)) true ty).run Tryd.prog wr = _ := fun ty => Lib.run_next_end_at wr w.heap.size (tx t) pos ty hit (by rw [hsz]; exact hp)
      obtain rfl : pos = t.length := by omega
      rw [List.drop_length, List.take_length, splitF] at hsp
      have hcut := tx_cut t frm t.length
      rw [List.take_length] at hcut
      have hcutl := cut_len t frm t.length
      rw [List.take_length] at hcutl
      generalize hP : t.drop frm = P at *
      clear hP
      have Hres : Hid (WordsOf t (ws ++ [P])) := by
        refine ⟨by simp, by simp; omega, fun _ => hsp.symm, fun x hx => ?_⟩
        rcases List.mem_append.1 hx with h | h
        · exact hlen x h
        · rw [List.mem_singleton.1 h]; exact hcutl
      have Hown := hide hown
      have Hb := hide hb
      have Hlt : Hid (w.heap.size + 1 ≤ wr.heap.size) := hide hlt
      clear hsp hcutl hlen hown hb hit hlt hcap hmax
      generalize hN : ws.length = n at *
      have HN := hide hN
      have hn6 : n ≤ 6 := hl6
      clear hN
      go_wp2_with (refine wpList_one55 _ (tx P) rfl rfl rfl ?_)
      intro w2 ho2 hb2 hs2
      have hown3 := owns_below (unhide Hown) hb2
      rw [unhide HN] at hown3
      have Hown3 := hide hown3
      have Ho2 := hide ho2
      have Hb3 := hide ((unhide Hb).trans (hb2.mono (by have := unhide Hlt; omega)))
      have Hsz3 : Hid (w.heap.size + 1 ≤ w2.heap.size) := by show _ ≤ _; have := unhide Hlt; omega
      clear hown3 ho2 hb2 hs2 Hown Hb
      go_wp2_with (refine wpList_app1 rfl _ _ rfl Tryd.underlying55 j1 j2 j3 j4 rfl (by decide) (w.heap.size + 1) _ _ (.string (tx P)) n (texV ws) _ _ rfl (unhide Hown3) rfl (unhide Ho2) rfl (by omega) (unhide Hsz3) ?_)
      intro v' w3 hown4 hg4
      have Hb4 := hide ((unhide Hb3).trans ((owns_bel (unhide Hown3) hg4 (unhide Hsz3)).mono (by omega)))
      have Hown4 := hide hown4
      clear hown4 hg4 Hown3 Hb3 Ho2
      go_wp2
      go_ret
      refine ⟨_, ws ++ [P], rfl, ?_, unhide Hres, unhide Hb4⟩
      have h := owns_lower (unhide Hown4) (show w.heap.size ≤ w.heap.size + 1 by omega)
      rw [← unhide HN] at h
      exact Txs.snoc h
end Go.Proofs.YtglphnmnnfpcoaaDoor
