/-
  Single operations on sectors, each by itself; in a plain row of operations, and in one inside a loop's body over a function.
-/
import Derived.OwnWalkIn
import Derived.TacticsInMore
import Derived.Great.BuildSlice
import Derived.Laws.CopyRow
import Derived.Test.YtjebejdcjfnleaaSecs
namespace Go.Proofs.Ytjebejdcjfnleaa
open Go.RowKit

section
variable {P : Program} {ops : Array Oper} {rest : List Oper} {o : Oper} {a : Act} {w w' : World} {v : Value} {Q : Exit → Act → World → Prop}
/-- An operation that yields a value. -/
theorem wpList_val (hg : o.guard = none) (r : (execOp a.eval o).run P w = .ok (.value v) w') (h : wpList P ops Q rest (a.put o.dst v) w') : wpList P ops Q (o :: rest) a w := by
  refine wpList_plain hg fun K hK => ?_
  unfold Oper.wp
  rw [r, Oper.upon_value]
  exact hK _ _ h
theorem wpList_skp (hg : o.guard = none) (r : (execOp a.eval o).run P w = .ok .skip w') (h : wpList P ops Q rest (a.put o.dst undef) w') : wpList P ops Q (o :: rest) a w := by
  refine wpList_plain hg fun K hK => ?_
  unfold Oper.wp
  rw [r]
  exact hK _ _ h
theorem wpListIn_val {F : Fence} {n : Nat} (hg : o.guard = none) (ha : o.about P w a.eval = none) (hd : ∀ c, o.op ≠ .defer c) (r : (execOp a.eval o).run P w = .ok (.value v) w') (h : wpListIn F n P ops Q rest (a.put o.dst v) w') : wpListIn F n P ops Q (o :: rest) a w := by
  refine wpListIn_plain hg fun K hK => ?_
  unfold Oper.wpIn
  refine ⟨fun f hf => (by rw [ha] at hf; cases hf), ?_⟩
  rw [Oper.semAt_plain F _ _ hd, r]
  exact hK _ _ h
theorem wpListIn_skp {F : Fence} {n : Nat} (hg : o.guard = none) (ha : o.about P w a.eval = none) (hd : ∀ c, o.op ≠ .defer c) (r : (execOp a.eval o).run P w = .ok .skip w') (h : wpListIn F n P ops Q rest (a.put o.dst undef) w') : wpListIn F n P ops Q (o :: rest) a w := by
  refine wpListIn_plain hg fun K hK => ?_
  unfold Oper.wpIn
  refine ⟨fun f hf => (by rw [ha] at hf; cases hf), ?_⟩
  rw [Oper.semAt_plain F _ _ hd, r]
  exact hK _ _ h
end

theorem fold_set8 (off : Nat) : ∀ (vs : List Value) (k : Nat) (pre cs post : List Value), pre.length = off + k → cs.length = vs.length →
    (vs.zipIdx k).foldl (fun (cs : Array Value) x => cs.setIfInBounds (off + x.2) x.1) (pre ++ (cs ++ post)).toArray = (pre ++ (vs ++ post)).toArray
  | [], _, pre, cs, post, _, hl => by
    obtain rfl : cs = [] := List.eq_nil_of_length_eq_zero (by simpa using hl)
    rfl
  | v :: vs, k, pre, [], post, _, hl => by simp at hl
  | v :: vs, k, pre, c :: cs, post, hp, hl => by
    rw [List.zipIdx_cons, List.foldl_cons, List.setIfInBounds_toArray]
    have e : (pre ++ (c :: cs ++ post)).set (off + k) v = (pre ++ [v]) ++ (cs ++ post) := by
      rw [List.set_append_right _ v (by omega), hp, Nat.sub_self]
      simp
    have ih := fold_set8 off vs (k + 1) (pre ++ [v]) cs post (by simp [hp]; omega) (by simpa using hl)
    rw [e, ih]
    simp
theorem run_copy_wide8 (w : World) (dT sT ty elem : TypeId) (g o dLen dCap : Nat) (a : Addr) (sLen sCap m : Nat) (cur cs : List Value)
    (hu : Try.prog.underlying dT = some (.slice elem)) (hs : (Try.prog.info? elem).map (·.size) = some m) (hA : Arr w g cur) (hn : cs.length = Nat.min sLen dLen * m)
    (hsrc : ∀ j v, cs[j]? = some v → w.cell? (a.add j) = some v) (hfit : o + cs.length ≤ cur.length) (h1 : ∀ v ∈ cs, v.oneCell' = true) :
    ∃ w', (Builtin.copy_ #[dT, sT] ty #[.slice (some ⟨g, o, none⟩) dLen dCap, .slice (some a) sLen sCap]).run Try.prog w = .ok (goInt (Nat.min sLen dLen)) w' ∧
      Arr w' g (cur.take o ++ (cs ++ cur.drop (o + cs.length))) ∧ w.grownBy w' (some g) ∧ w'.heap.size = w.heap.size := by
  obtain ⟨C, t, hg, rfl⟩ := hA
  have hl := run_loadCells_list (P := Try.prog) w a cs hsrc
  have hst := run_storeCells_at Try.prog g o t cs 0 C w hg (by simpa using hfit) h1
  refine ⟨w.setRow g (C.toList.take o ++ cs ++ C.toList.drop (o + cs.length)).toArray, ?_, ⟨_, t, setRow_heap w g C _ t _ hg, by simp⟩, ⟨rfl, rfl, rfl, by simp, fun k _ hk => setRow_other w g k _ (fun e => hk (by simp [e]))⟩, by simp⟩
  cases hq : Try.prog.info? elem with
  | none => simp [hq] at hs
  | some i =>
    have hi : i.size = m := by simpa [hq] using hs
    simp only [Nat.add_zero] at hst
    simp [Builtin.copy_, run_underlying hu, Builtin.lenOf, Builtin.firstCells, sizeOf, typeInfo, hq, hi, ← hn, hl, hst]

section
variable {ρ : Operand → Value} {o : Oper}
theorem op_copy328 {x y : Operand} {g off g2 o2 n n2 c2 : Nat} {cur : List Value} {bs : List UInt8} {w : World} (h1 : ρ x = .slice (some ⟨g, off, none⟩) n c2) (h2 : ρ y = .slice (some ⟨g2, o2, none⟩) bs.length n2)
    (hA : Arr w g cur) (hr : w.rangeAt g2 o2 (bytesV bs)) (hle : bs.length ≤ n) (hfit : off + bs.length ≤ cur.length) :
    ∃ w', (∀ o : Oper, o.op = .call { callee := .builtin .copy, args := #[x, y], argTypes := #[32, 32] } → (execOp ρ o).run Try.prog w = .ok (.value (.int .i64 (bs.length : Int))) w') ∧
      Arr w' g (cur.take off ++ (bytesV bs ++ cur.drop (off + bs.length))) ∧ w.grownBy w' (some g) ∧ w'.heap.size = w.heap.size := by
  obtain ⟨w', hr', q1, q2, q3⟩ := run_copy_wide8 w 32 32 3 5 g off n c2 ⟨g2, o2, none⟩ bs.length n2 1 cur (bytesV bs) Try.underlying32 (by kernel_rfl) hA (by rw [bytesV_length, Nat.mul_one]; exact (Nat.min_eq_left hle).symm)
    (fun j v hj => by rw [Addr.add_mid]; exact hr j v hj) (by rw [bytesV_length]; exact hfit) (bytesV_one bs)
  rw [bytesV_length] at q1
  refine ⟨w', fun o ho => ?_, q1, q2, q3⟩
  have e : ∀ ty, (Builtin.copy_ #[32, 32] ty #[.slice (some ⟨g, off, none⟩) n c2, .slice (some ⟨g2, o2, none⟩) bs.length n2]).run Try.prog w = .ok (.int .i64 (bs.length : Int)) w' := fun ty => by
    have e2 : Nat.min bs.length n = bs.length := Nat.min_eq_left hle
    rw [e2] at hr'
    exact hr'
  unfold execOp
  rw [ho]
  simp only [resolve, invoke, builtin, Sem.run_bind, Sem.run_pure, Result.andThen_ok, List.map_toArray, List.map_cons, List.map_nil, h1, h2, e]
theorem op_alloc33 (ho : o.op = .alloc 75) (w : World) : ∃ w', (execOp ρ o).run Try.prog w = .ok (.value (.pointer (some ⟨w.heap.size, 0, none⟩))) w' ∧ Arr w' w.heap.size (bytesV zeroS) ∧ Below w.heap.size w w' ∧ w'.heap.size = w.heap.size + 1 := by
  refine ⟨w.alloc (.cells (bytesV zeroS).toArray 75), ?_, ⟨_, _, heap_alloc_new w _, rfl⟩, (Below.refl _ _).alloc (Nat.le_refl _) _, by simp⟩
  unfold execOp
  simp only [ho, Sem.run_bind, alloc75 w, Result.andThen, Sem.run_pure]
theorem op_store758 {x y : Operand} {g : Nat} {cs ds : List Value} {w : World} (ho : o.op = .store 75 x y) (h1 : ρ x = .pointer (some ⟨g, 0, none⟩)) (h2 : ρ y = .agg cs.toArray) (hA : Arr w g ds) (hd : ds.length = 64) (hc : cs.length = 64) (hone : ∀ v ∈ cs, v.oneCell' = true) :
    ∃ w', (execOp ρ o).run Try.prog w = .ok .skip w' ∧ Arr w' g cs ∧ w.grownBy w' (some g) ∧ w'.heap.size = w.heap.size := by
  have hr := run_storeAt_mid (P := Try.prog) w g 0 75 cs.toArray (by have := hA.there; rw [hd] at this; simpa [hc] using this) (by simpa [hc] using info75) (all_oneCell_toArray hone)
  refine ⟨w.setCells g 0 cs, ?_, hA.sets cs (by rw [hd, hc]), setCells_grown _ _ _ _, by rw [setCells_size]⟩
  unfold execOp
  simp only [ho, h1, h2, Sem.run_bind, hr, Result.andThen_ok, Sem.run_pure]
theorem op_load758 {x : Operand} {g k : Nat} {cs : List Value} {w : World} (ho : o.op = .load 75 x) (h1 : ρ x = .pointer (some ⟨g, k, none⟩)) (hA : w.rangeAt g k cs) (hc : cs.length = 64) :
    (execOp ρ o).run Try.prog w = .ok (.value (.agg cs.toArray)) w := by
  have hr := run_loadAt_mid (P := Try.prog) w g k 75 cs _ hA Try.underlying75 rfl (by rw [hc]; exact info75)
  unfold execOp
  simp only [ho, h1, Sem.run_bind, hr, Result.andThen_ok, Sem.run_pure]
theorem op_slice63 {x : Operand} {s : Sec} (ho : o.op = .buildSlice 63 1 #[(0, x)]) (h1 : ρ x = .agg (bytesV s).toArray) (hs : s.length = 64) (w : World) :
    (execOp ρ o).run Try.prog w = .ok (.value (.slice (some ⟨w.heap.size, 0, none⟩) 1 1)) (w.alloc (.cells (bytesV s).toArray 75)) := by
  obtain ⟨i, i1, i2, i3, i4⟩ := full26
  have hl : (bytesV s).length = 64 := by rw [bytesV_length, hs]
  have hf : Instr.fill (fun j => some (j * i.size, i.size)) ((Array.range (1 * i.size)).map ((secV zeroS).cells[· % (secV zeroS).cells.size]!)) [(0, .agg (bytesV s).toArray)] = some (bytesV s).toArray := by
    rw [i3]
    have e : ((Array.range (1 * 64)).map ((secV zeroS).cells[· % (secV zeroS).cells.size]!)) = (bytesV zeroS).toArray := by kernel_rfl
    rw [e]
    simp [Instr.fill, Value.cells, hl]
    refine ⟨by decide +kernel, ?_⟩
    have h := fold_set8 0 (bytesV s) 0 [] (bytesV zeroS) [] rfl (by rw [hl]; decide +kernel)
    simpa using h
  have hr := run_buildSlice (P := Try.prog) w 63 75 1 #[(0, .agg (bytesV s).toArray)] (bytesV s).toArray i _ Try.underlying63 i1 i2 (by rw [i3]; decide) (by rw [i3]; decide) hf
  unfold execOp
  rw [ho]
  simp only [List.map_toArray, List.map_cons, List.map_nil, h1, Sem.run_bind, hr, Result.andThen_ok, Sem.run_pure]
theorem secsV_app : ∀ (a b : List Sec), secsV (a ++ b) = secsV a ++ secsV b
  | [], b => rfl
  | x :: a, b => by rw [List.cons_append, secsV, secsV, secsV_app a b, List.append_assoc]
/-- 'append(l, m..)' of sectors. -/
theorem op_app63 {x y : Operand} {B g off m c : Nat} {v : Value} {ss ts : List Sec} {w : World} (h1 : ρ x = v) (h2 : ρ y = .slice (some ⟨g, off, none⟩) m c) (hown : SOwn B w v ss) (hts : ∀ s ∈ ts, s.length = 64) (hm : ts.length = m)
    (hc : ∀ j u, (secsV ts)[j]? = some u → w.cell? ⟨g, off + j, none⟩ = some u) (hlen : ss.length + ts.length ≤ 1000000) (hB : B ≤ w.heap.size) :
    ∃ v' w', (∀ o : Oper, o.op = .call { callee := .builtin .append, args := #[x, y], argTypes := #[63, 63] } → o.type = 63 → (execOp ρ o).run Try.prog w = .ok (.value v') w') ∧ SOwn B w' v' (ss ++ ts) ∧ w.grownBy w' v.ownBlock := by
  obtain ⟨i, i1, i2, i3, i4⟩ := full26
  subst hm
  obtain ⟨v', w', hr, q1, q2, _⟩ := run_append_own (P := Try.prog) w B 63 63 75 i _ 64 64 Try.underlying63 i1 i2 i3 i4 (by kernel_rfl) (by decide) v ss.length (secsV ss) hown.1 ⟨g, off, none⟩ ts.length c (secsV ts) (secsV_length hts) (fun j u hj => by
    rw [Addr.add_mid]; exact hc j u hj) (secsV_one ts) (by simp only [maxLen]; omega) (by omega) hB
  refine ⟨v', w', ?_, ⟨?_, ?_⟩, q2⟩
  · intro o ho hty
    unfold execOp
    rw [ho]
    simp only [hty, resolve, invoke, builtin, Sem.run_bind, Sem.run_pure, Result.andThen_ok, List.map_toArray, List.map_cons, List.map_nil, h1, h2, hr]
  · rw [List.length_append, secsV_app]
    exact q1
  · intro s hs
    rcases List.mem_append.1 hs with h | h
    · exact hown.2 s h
    · exact hts s h
end

section
variable {ops : Array Oper} {rest : List Oper} {o : Oper} {a : Act} {w : World} {Q : Exit → Act → World → Prop}
theorem wpList_alloc33 (ho : o.op = .alloc 75) (hg : o.guard = none) (h : ∀ w', Arr w' w.heap.size (bytesV zeroS) → Below w.heap.size w w' → w'.heap.size = w.heap.size + 1 → wpList Try.prog ops Q rest (a.put o.dst (.pointer (some ⟨w.heap.size, 0, none⟩))) w') : wpList Try.prog ops Q (o :: rest) a w := by
  obtain ⟨w', hr, h1, h2, h3⟩ := op_alloc33 (ρ := a.eval) ho w
  exact wpList_val hg hr (h w' h1 h2 h3)
theorem wpListIn_alloc33 {F : Fence} {n : Nat} (ho : o.op = .alloc 75) (hg : o.guard = none) (h : ∀ w', Arr w' w.heap.size (bytesV zeroS) → Below w.heap.size w w' → w'.heap.size = w.heap.size + 1 → wpListIn F n Try.prog ops Q rest (a.put o.dst (.pointer (some ⟨w.heap.size, 0, none⟩))) w') : wpListIn F n Try.prog ops Q (o :: rest) a w := by
  obtain ⟨w', hr, h1, h2, h3⟩ := op_alloc33 (ρ := a.eval) ho w
  exact wpListIn_val hg (by simp [Oper.about, ho]) (by rw [ho]; intro c hc; cases hc) hr (h w' h1 h2 h3)
theorem wpList_store33 {x y : Operand} {g : Nat} {cs ds : List Value} (ho : o.op = .store 75 x y) (hg : o.guard = none) (h1 : a.eval x = .pointer (some ⟨g, 0, none⟩)) (h2 : a.eval y = .agg cs.toArray) (hA : Arr w g ds) (hd : ds.length = 64) (hc : cs.length = 64) (hone : ∀ v ∈ cs, v.oneCell' = true) (h : ∀ w', Arr w' g cs → w.grownBy w' (some g) → w'.heap.size = w.heap.size → wpList Try.prog ops Q rest (a.put o.dst undef) w') : wpList Try.prog ops Q (o :: rest) a w := by
  obtain ⟨w', hr, q1, q2, q3⟩ := op_store758 (ρ := a.eval) ho h1 h2 hA hd hc hone
  exact wpList_skp hg hr (h w' q1 q2 q3)
theorem wpListIn_store33 {F : Fence} {n : Nat} {x y : Operand} {g : Nat} {cs ds : List Value} (ho : o.op = .store 75 x y) (hg : o.guard = none) (h1 : a.eval x = .pointer (some ⟨g, 0, none⟩)) (h2 : a.eval y = .agg cs.toArray) (hA : Arr w g ds) (hd : ds.length = 64) (hc : cs.length = 64) (hone : ∀ v ∈ cs, v.oneCell' = true) (h : ∀ w', Arr w' g cs → w.grownBy w' (some g) → w'.heap.size = w.heap.size → wpListIn F n Try.prog ops Q rest (a.put o.dst undef) w') : wpListIn F n Try.prog ops Q (o :: rest) a w := by
  obtain ⟨w', hr, q1, q2, q3⟩ := op_store758 (ρ := a.eval) ho h1 h2 hA hd hc hone
  exact wpListIn_skp hg (by simp [Oper.about, ho]) (by rw [ho]; intro c hc; cases hc) hr (h w' q1 q2 q3)
theorem wpList_load33 {x : Operand} {g k : Nat} {cs : List Value} (ho : o.op = .load 75 x) (hg : o.guard = none) (h1 : a.eval x = .pointer (some ⟨g, k, none⟩)) (hA : w.rangeAt g k cs) (hc : cs.length = 64) (h : wpList Try.prog ops Q rest (a.put o.dst (.agg cs.toArray)) w) : wpList Try.prog ops Q (o :: rest) a w := by
  exact wpList_val hg (op_load758 (ρ := a.eval) ho h1 hA hc) h
theorem wpListIn_load33 {F : Fence} {n : Nat} {x : Operand} {g k : Nat} {cs : List Value} (ho : o.op = .load 75 x) (hg : o.guard = none) (h1 : a.eval x = .pointer (some ⟨g, k, none⟩)) (hA : w.rangeAt g k cs) (hc : cs.length = 64) (h : wpListIn F n Try.prog ops Q rest (a.put o.dst (.agg cs.toArray)) w) : wpListIn F n Try.prog ops Q (o :: rest) a w := by
  exact wpListIn_val hg (by simp [Oper.about, ho]) (by rw [ho]; intro c hc; cases hc) (op_load758 (ρ := a.eval) ho h1 hA hc) h
theorem wpList_slice24 {x : Operand} {s : Sec} (ho : o.op = .buildSlice 63 1 #[(0, x)]) (hg : o.guard = none) (h1 : a.eval x = .agg (bytesV s).toArray) (hs : s.length = 64) (h : ∀ w', Arr w' w.heap.size (bytesV s) → Below w.heap.size w w' → w'.heap.size = w.heap.size + 1 → wpList Try.prog ops Q rest (a.put o.dst (.slice (some ⟨w.heap.size, 0, none⟩) 1 1)) w') : wpList Try.prog ops Q (o :: rest) a w := by
  exact wpList_val hg (op_slice63 (ρ := a.eval) ho h1 hs w) (h _ ⟨_, _, heap_alloc_new w _, rfl⟩ ((Below.refl _ _).alloc (Nat.le_refl _) _) (by simp))
theorem wpListIn_slice24 {F : Fence} {n : Nat} {x : Operand} {s : Sec} (ho : o.op = .buildSlice 63 1 #[(0, x)]) (hg : o.guard = none) (h1 : a.eval x = .agg (bytesV s).toArray) (hs : s.length = 64) (h : ∀ w', Arr w' w.heap.size (bytesV s) → Below w.heap.size w w' → w'.heap.size = w.heap.size + 1 → wpListIn F n Try.prog ops Q rest (a.put o.dst (.slice (some ⟨w.heap.size, 0, none⟩) 1 1)) w') : wpListIn F n Try.prog ops Q (o :: rest) a w := by
  exact wpListIn_val hg (by simp [Oper.about, ho]) (by rw [ho]; intro c hc; cases hc) (op_slice63 (ρ := a.eval) ho h1 hs w) (h _ ⟨_, _, heap_alloc_new w _, rfl⟩ ((Below.refl _ _).alloc (Nat.le_refl _) _) (by simp))
theorem wpList_app24 {x y : Operand} {B g off m c : Nat} {v : Value} {ss ts : List Sec} (ho : o.op = .call { callee := .builtin .append, args := #[x, y], argTypes := #[63, 63] }) (hty : o.type = 63) (hg : o.guard = none) (h1 : a.eval x = v) (h2 : a.eval y = .slice (some ⟨g, off, none⟩) m c) (hown : SOwn B w v ss) (hts : ∀ s ∈ ts, s.length = 64) (hm : ts.length = m) (hc : ∀ j u, (secsV ts)[j]? = some u → w.cell? ⟨g, off + j, none⟩ = some u) (hlen : ss.length + ts.length ≤ 1000000) (hB : B ≤ w.heap.size) (h : ∀ v' w', SOwn B w' v' (ss ++ ts) → w.grownBy w' v.ownBlock → wpList Try.prog ops Q rest (a.put o.dst v') w') : wpList Try.prog ops Q (o :: rest) a w := by
  obtain ⟨v', w', hr, q1, q2⟩ := op_app63 (ρ := a.eval) h1 h2 hown hts hm hc hlen hB
  exact wpList_val hg (hr o ho hty) (h v' w' q1 q2)
theorem wpListIn_app24 {F : Fence} {n : Nat} {x y : Operand} {B g off m c : Nat} {v : Value} {ss ts : List Sec} (ho : o.op = .call { callee := .builtin .append, args := #[x, y], argTypes := #[63, 63] }) (hty : o.type = 63) (hg : o.guard = none) (h1 : a.eval x = v) (h2 : a.eval y = .slice (some ⟨g, off, none⟩) m c) (hown : SOwn B w v ss) (hts : ∀ s ∈ ts, s.length = 64) (hm : ts.length = m) (hc : ∀ j u, (secsV ts)[j]? = some u → w.cell? ⟨g, off + j, none⟩ = some u) (hlen : ss.length + ts.length ≤ 1000000) (hB : B ≤ w.heap.size) (h : ∀ v' w', SOwn B w' v' (ss ++ ts) → w.grownBy w' v.ownBlock → wpListIn F n Try.prog ops Q rest (a.put o.dst v') w') : wpListIn F n Try.prog ops Q (o :: rest) a w := by
  obtain ⟨v', w', hr, q1, q2⟩ := op_app63 (ρ := a.eval) h1 h2 hown hts hm hc hlen hB
  exact wpListIn_val hg (by simp [Oper.about, ho, resolve, Target.leads, Sem.run_pure]) (by rw [ho]; intro c hc; cases hc) (hr o ho hty) (h v' w' q1 q2)
theorem wpList_copy27 {x y : Operand} {g off g2 o2 n1 n2 c2 : Nat} {cur : List Value} {bs : List UInt8} (ho : o.op = .call { callee := .builtin .copy, args := #[x, y], argTypes := #[32, 32] }) (hg : o.guard = none) (h1 : a.eval x = .slice (some ⟨g, off, none⟩) n1 c2) (h2 : a.eval y = .slice (some ⟨g2, o2, none⟩) bs.length n2) (hA : Arr w g cur) (hr : w.rangeAt g2 o2 (bytesV bs)) (hle : bs.length ≤ n1) (hfit : off + bs.length ≤ cur.length) (h : ∀ w', Arr w' g (cur.take off ++ (bytesV bs ++ cur.drop (off + bs.length))) → w.grownBy w' (some g) → w'.heap.size = w.heap.size → wpList Try.prog ops Q rest (a.put o.dst (.int .i64 (bs.length : Int))) w') : wpList Try.prog ops Q (o :: rest) a w := by
  obtain ⟨w', hr', q1, q2, q3⟩ := op_copy328 (ρ := a.eval) h1 h2 hA hr hle hfit
  exact wpList_val hg (hr' o ho) (h w' q1 q2 q3)
theorem wpListIn_copy27 {F : Fence} {n : Nat} {x y : Operand} {g off g2 o2 n1 n2 c2 : Nat} {cur : List Value} {bs : List UInt8} (ho : o.op = .call { callee := .builtin .copy, args := #[x, y], argTypes := #[32, 32] }) (hg : o.guard = none) (h1 : a.eval x = .slice (some ⟨g, off, none⟩) n1 c2) (h2 : a.eval y = .slice (some ⟨g2, o2, none⟩) bs.length n2) (hA : Arr w g cur) (hr : w.rangeAt g2 o2 (bytesV bs)) (hle : bs.length ≤ n1) (hfit : off + bs.length ≤ cur.length) (h : ∀ w', Arr w' g (cur.take off ++ (bytesV bs ++ cur.drop (off + bs.length))) → w.grownBy w' (some g) → w'.heap.size = w.heap.size → wpListIn F n Try.prog ops Q rest (a.put o.dst (.int .i64 (bs.length : Int))) w') : wpListIn F n Try.prog ops Q (o :: rest) a w := by
  obtain ⟨w', hr', q1, q2, q3⟩ := op_copy328 (ρ := a.eval) h1 h2 hA hr hle hfit
  exact wpListIn_val hg (by simp [Oper.about, ho, resolve, Target.leads, Sem.run_pure]) (by rw [ho]; intro c hc; cases hc) (hr' o ho) (h w' q1 q2 q3)
end
end Go.Proofs.Ytjebejdcjfnleaa
