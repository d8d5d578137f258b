/-
  What becomes of a Digest's cells as bytes are written: plain facts on lists.
-/
import Derived.Test.YtnfgakbfnmmhcaaDoorDig
namespace Go.Proofs.YtnfgakbfnmmhcaaDoor
open Go.RowKit

/-- Some bytes laid into the tail. -/
def lay (tail x : List (BitVec 8)) (r : Nat) : List (BitVec 8) := tail.take r ++ x ++ tail.drop (r + x.length)

theorem lay_length {tail x : List (BitVec 8)} {r : Nat} (ht : tail.length = 64) (hr : r + x.length ≤ 64) : (lay tail x r).length = 64 := by
  simp [lay]; omega

theorem Holds.part {st : List (BitVec 32)} {tail m x : List (BitVec 8)} (h : Holds st tail m) (hx : m.length % 64 + x.length < 64) : Holds st (lay tail x (m.length % 64)) (m ++ x) := by
  have hq : (m ++ x).length / 64 = m.length / 64 := by rw [List.length_append]; omega
  refine ⟨?_, lay_length h.len (by omega), ?_⟩
  · rw [hq, Sha.chain_append _ _ _ (by omega)]; exact h.st
  · have hr : (m ++ x).length % 64 = m.length % 64 + x.length := by rw [List.length_append]; omega
    have hl : (tail.take (m.length % 64)).length = m.length % 64 := by rw [List.length_take, h.len]; omega
    rw [hq, hr, List.drop_append_of_le_length (by omega), ← h.pre, lay, List.take_append_of_le_length (by simp [hl, List.length_append])]
    rw [List.take_of_length_le (by rw [List.length_append, hl]; omega)]

theorem Holds.full {st : List (BitVec 32)} {tail m x : List (BitVec 8)} (h : Holds st tail m) (hx : m.length % 64 + x.length = 64) : Holds (Sha.mix st (lay tail x (m.length % 64))) (lay tail x (m.length % 64)) (m ++ x) := by
  have hq : (m ++ x).length / 64 = m.length / 64 + 1 := by rw [List.length_append]; omega
  have hr : (m ++ x).length % 64 = 0 := by rw [List.length_append]; omega
  refine ⟨?_, lay_length h.len (by omega), ?_⟩
  · rw [hq, Sha.chain, Sha.chain_append _ _ _ (by omega), ← h.st]
    congr 1
    rw [List.drop_append_of_le_length (by omega), ← h.pre, lay, List.drop_of_length_le (by rw [h.len]; omega), List.append_nil]
    have e : (tail.take (m.length % 64) ++ x).take 64 = tail.take (m.length % 64) ++ x := List.take_of_length_le (by rw [List.length_append, List.length_take, h.len]; omega)
    exact e.symm
  · rw [hr, hq, List.take_zero, List.drop_of_length_le (by rw [List.length_append]; omega)]

/-- Laid into the cells. -/
theorem digV_lay {st : List (BitVec 32)} {tail m x : List (BitVec 8)} (h : Holds st tail m) (r n : Nat) (hr : r + x.length ≤ 64) :
    (digV st tail n).take (8 + r) ++ bytesV x ++ (digV st tail n).drop (8 + r + (bytesV x).length) = digV st (lay tail x r) n := by
  have hs : (wordsV st).length = 8 := by rw [wordsV_length, h.stlen]
  have ht : (bytesV tail).length = 64 := by rw [bytesV_length, h.len]
  have hx : (bytesV x).length = x.length := bytesV_length x
  have e1 : (digV st tail n).take (8 + r) = wordsV st ++ (bytesV tail).take r := by
    rw [digV, List.take_append, hs, List.take_of_length_le (by omega), show 8 + r - 8 = r by omega, List.take_append_of_le_length (by omega)]
  have e2 : (digV st tail n).drop (8 + r + (bytesV x).length) = (bytesV tail).drop (r + x.length) ++ [.int .u64 (n : Int)] := by
    rw [digV, List.drop_append, hs, hx, List.drop_of_length_le (by omega), show 8 + r + x.length - 8 = r + x.length by omega, List.drop_append_of_le_length (by omega)]
    rfl
  rw [e1, e2, digV, lay]
  simp only [bytesV, List.map_append, List.map_take, List.map_drop, List.append_assoc]

theorem digV_setLen {st : List (BitVec 32)} {tail m : List (BitVec 8)} (h : Holds st tail m) (n n' : Nat) : (digV st tail n).set 72 (.int .u64 (n' : Int)) = digV st tail n' := by
  rw [digV, List.set_append_right 72 _ (by rw [wordsV_length, h.stlen]; omega), wordsV_length, h.stlen, List.set_append_right _ _ (by rw [bytesV_length, h.len]; omega), bytesV_length, h.len]
  rfl

theorem digV_setLen' {st : List (BitVec 32)} {tail : List (BitVec 8)} (hs : st.length = 8) (ht : tail.length = 64) (n n' : Nat) : (digV st tail n).set 72 (.int .u64 (n' : Int)) = digV st tail n' := by
  rw [digV, List.set_append_right 72 _ (by rw [wordsV_length, hs]; omega), wordsV_length, hs, List.set_append_right _ _ (by rw [bytesV_length, ht]; omega), bytesV_length, ht]
  rfl

theorem digV_at72 {st : List (BitVec 32)} {tail : List (BitVec 8)} (hs : st.length = 8) (ht : tail.length = 64) (n : Nat) : (digV st tail n)[72]? = some (.int .u64 (n : Int)) := by
  rw [digV, List.getElem?_append_right (by rw [wordsV_length, hs]; omega), List.getElem?_append_right (by rw [wordsV_length, bytesV_length, hs, ht]; omega)]
  rw [wordsV_length, bytesV_length, hs, ht]; rfl

theorem Row.other {w w' : World} {a : Option Addr} {len c : Nat} {bs : List (BitVec 8)} (h : Row w a len bs) (hg : w.grownBy w' (some c)) (hne : ∀ ad, a = some ad → ad.block ≠ c) : Row w' a len bs :=
  ⟨h.1, h.2.1, fun i hi => by
    obtain ⟨b, off, ha, hc⟩ := h.2.2 i hi
    exact ⟨b, off, ha, hg.cell hc (by have := hne _ ha; simpa using this)⟩⟩

/-- Cells that follow one another, cut out of a block. -/
theorem Arr.mid {w : World} {b : Nat} {p cs q : List Value} (h : Arr w b (p ++ (cs ++ q))) : w.rangeAt b p.length cs := fun j v hj => by
  refine h.cell ?_
  rw [List.getElem?_append_right (by omega), Nat.add_sub_cancel_left, List.getElem?_append_left (List.getElem?_eq_some_iff.1 hj).1]
  exact hj

theorem setCells_mid (b : Nat) : ∀ (vs : List Value) (o : Nat) (w : World) (pre cs q : List Value), pre.length = o → cs.length = vs.length → Arr w b (pre ++ (cs ++ q)) → Arr (w.setCells b o vs) b (pre ++ (vs ++ q))
  | [], o, w, pre, cs, q, hp, hl, h => by
    obtain rfl : cs = [] := List.eq_nil_of_length_eq_zero (by simpa using hl)
    exact h
  | v :: vs, o, w, pre, [], q, hp, hl, h => by simp at hl
  | v :: vs, o, w, pre, c :: cs, q, hp, hl, h => by
    show Arr ((w.setCell ⟨b, o, none⟩ v).setCells b (o + 1) vs) b (pre ++ (v :: vs ++ q))
    have h1 := h.set o v
    have e : (pre ++ (c :: cs ++ q)).set o v = (pre ++ [v]) ++ (cs ++ q) := by
      rw [List.set_append_right o v (by omega), hp, Nat.sub_self]
      simp
    rw [e] at h1
    have := setCells_mid b vs (o + 1) _ (pre ++ [v]) cs q (by simp [hp]) (by simpa using hl) h1
    simpa using this

theorem below_grownBy {w w' : World} (h : Below w.heap.size w w') (row : Option Nat) : w.grownBy w' row := ⟨h.os, h.tape, h.output, h.size, fun k hk _ => h.block k hk⟩

section
variable {P : Program} {ops : Array Oper} {rest : List Oper} {a : Act} {w : World} {Q : Exit → Act → World → Prop}

/-- Cells laid into the beginning of a block. -/
theorem wpList_storeHead {o : Oper} (t : TypeId) (x y : Operand) (b : Nat) (cs ds q : List Value) (ho : o.op = .store t x y) (hg : o.guard = none) (hx : a.eval x = .pointer (some ⟨b, 0, none⟩)) (hy : a.eval y = .agg cs.toArray)
    (hA : Arr w b (ds ++ q)) (hl : ds.length = cs.length) (hi : (P.info? t).map (·.size) = some cs.length) (hone : ∀ v ∈ cs, v.oneCell' = true)
    (h : ∀ w', Arr w' b (cs ++ q) → w.grownBy w' (some b) → w'.heap.size = w.heap.size → wpList P ops Q rest (a.put o.dst undef) w') : wpList P ops Q (o :: rest) a w := by
  refine wpList_store_mid hg t x y ho b 0 cs.toArray hx hy ?_ ?_ (all_oneCell_toArray hone) ?_
  · intro j hj
    have := hA.there j (by simp at hj ⊢; omega)
    exact this
  · simpa using hi
  · exact h _ (setCells_mid b cs 0 w [] ds q rfl hl hA) (setCells_grown _ _ _ _) (by rw [setCells_size])

/-- 'copy' of bytes into a block of its own. -/
theorem wpList_copyInto {o : Oper} (d s : Operand) (ho : o.op = .call { callee := .builtin .copy, args := #[d, s], argTypes := #[22, 22] }) (hgd : o.guard = none)
    (g off dLen dCap : Nat) (ad : Addr) (sLen sCap n : Nat) (cur cs : List Value) (hd : a.eval d = .slice (some ⟨g, off, none⟩) dLen dCap) (hs : a.eval s = .slice (some ad) sLen sCap)
    (hA : Arr w g cur) (hn : n = Nat.min sLen dLen) (hcn : cs.length = n) (hsrc : ∀ j v, cs[j]? = some v → w.cell? (ad.add j) = some v) (hfit : off + cs.length ≤ cur.length) (h1 : ∀ v ∈ cs, v.oneCell' = true)
    (h : ∀ w', Arr w' g (cur.take off ++ cs ++ cur.drop (off + cs.length)) → w.grownBy w' (some g) → w'.heap.size = w.heap.size → wpList Tryd.prog ops Q rest (a.put o.dst (.int .i64 (n : Int))) w') :
    wpList Tryd.prog ops Q (o :: rest) a w := by
  obtain ⟨C, e, hb, rfl⟩ := hA
  have hr := run_copy_row (P := Tryd.prog) w 22 22 o.type 5 g off dLen dCap ad sLen sCap C e cs Tryd.underlying22 (by kernel_rfl) hb (hcn.trans hn) hsrc (by simpa using hfit) h1
  refine wpList_plain hgd fun K hK => ?_
  have r : (execOp a.eval o).run Tryd.prog w =   .ok (.value (.int .i64 (n : Int))) (w.setRow g (C.toList.take off ++ cs ++ C.toList.drop (off + cs.length)).toArray) := by
    unfold execOp
    simp only [ho, resolve, invoke, builtin, Sem.run_bind, Sem.run_pure, Result.andThen_ok, List.map_toArray, List.map_cons, List.map_nil, hd, hs, hr, hcn]
    rfl
  unfold Oper.wp
  rw [r, Oper.upon_value]
  refine hK _ _ (h _ ⟨_, e, setRow_heap w g _ _ e _ hb, rfl⟩ ?_ ?_)
  · refine ⟨rfl, rfl, rfl, ?_, fun k hk hne => ?_⟩
    · simp [World.setRow]
    · simp only [World.setRow, Array.getElem?_modify]
      rw [if_neg (fun e => hne (by rw [e]))]
  · simp [World.setRow]
end

end Go.Proofs.YtnfgakbfnmmhcaaDoor
