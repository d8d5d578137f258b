/-
  Words of 32 bits as the walk has them: what each operation yields; and what digest.turn answers.
-/
import Derived.Test.YtnfgakbfnmmhcaaDoorRow
namespace Go.Proofs.YtnfgakbfnmmhcaaDoor
open Go.RowKit

theorem bits_and32 (a b : BitVec 32) : bits .and .u32 (N32 a) (N32 b) = N32 (a &&& b) := by
  show IntKind.u32.wrap ((BitVec.ofInt 32 (N32 a) &&& BitVec.ofInt 32 (N32 b)).toNat : Int) = _
  rw [ofInt_N32, ofInt_N32, IntKind.wrap_u32']
  have := (a &&& b).isLt
  unfold N32
  omega
theorem bits_or32 (a b : BitVec 32) : bits .or .u32 (N32 a) (N32 b) = N32 (a ||| b) := by
  show IntKind.u32.wrap ((BitVec.ofInt 32 (N32 a) ||| BitVec.ofInt 32 (N32 b)).toNat : Int) = _
  rw [ofInt_N32, ofInt_N32, IntKind.wrap_u32']
  have := (a ||| b).isLt
  unfold N32
  omega
theorem not_N32 (x : BitVec 32) : bits .xor .u32 IntKind.u32.max (N32 x) = N32 (~~~ x) := by
  have h : IntKind.u32.max = N32 (BitVec.allOnes 32) := by decide
  rw [h, bits_xor32, BitVec.allOnes_xor]
theorem add_N32 (a b : BitVec 32) : (N32 a + N32 b) % 4294967296 = N32 (a + b) := by
  unfold N32
  rw [BitVec.toNat_add]
  omega
theorem shl_N32 (x : BitVec 32) (s : Nat) : N32 x * 2 ^ s % 4294967296 = N32 (x <<< s) := by
  unfold N32
  rw [BitVec.toNat_shiftLeft, Nat.shiftLeft_eq, Int.natCast_emod, Int.natCast_mul, Int.natCast_pow]
  rfl
theorem shr_N32 (x : BitVec 32) (s : Nat) : N32 x / 2 ^ s = N32 (x >>> s) := by
  unfold N32
  rw [BitVec.toNat_ushiftRight, Nat.shiftRight_eq_div_pow, Int.natCast_ediv, Int.natCast_pow]
  rfl

/-- What RotateLeft32 makes of a turn to the right. -/
theorem and31 (n : Nat) (h1 : 1 ≤ n) (h2 : n ≤ 31) : bits .and .u64 (IntKind.u64.wrap (-(n : Int))) 31 = ((32 - n : Nat) : Int) := by
  have : ∀ i : Fin 32, 1 ≤ i.val → bits .and .u64 (IntKind.u64.wrap (-(i.val : Int))) 31 = ((32 - i.val : Nat) : Int) := by decide +kernel
  exact this ⟨n, by omega⟩ h1

theorem rotl_any (x : BitVec 32) (k : Int) (s : Nat) (h1 : 1 ≤ s) (h2 : s ≤ 31) (hm : bits .and .u64 (IntKind.u64.wrap k) 31 = (s : Int)) (w : World) :
    Calls Tryd.prog 27 #[.int .u32 (N32 x), .int .i64 k] w fun e w' => e = .returned (.int .u32 (N32 ((x <<< s) ||| (x >>> (32 - s))))) ∧ w' = w := by
  have hl := shl_N32 x s
  have hr := shr_N32 x (32 - s)
  have ho := bits_or32 (x <<< s) (x >>> (32 - s))
  go_enter Tryd.func27, Tryd.ntmps27
  go_wp2
  go_ret
  exact ⟨rfl, rfl⟩

theorem turn_any (x : BitVec 32) (k : Int) (n : Nat) (hk : k = (n : Int)) (h1 : 1 ≤ n) (h2 : n ≤ 31) (w : World) :
    Calls Tryd.prog 25 #[.int .u32 (N32 x), .int .i64 k] w fun e w' => e = .returned (.int .u32 (N32 (Sha.rotr x n))) ∧ w' = w := by
  subst hk
  have Ha := hide (and31 n h1 h2)
  go_enter Tryd.func25, Tryd.ntmps25
  go_wp2_with fail
  refine (rotl_any x _ (32 - n) (by omega) (by omega) (by exact unhide Ha) _).mono ?_
  rintro e w' ⟨rfl, rfl⟩
  go_wp2
  go_ret
  refine ⟨?_, rfl⟩
  rw [Sha.rotr, show 32 - (32 - n) = n by omega]
  rfl

theorem turn_k (x : BitVec 32) (k : Int) (h1 : 1 ≤ k) (h2 : k ≤ 31) (w : World) :
    Calls Tryd.prog 25 #[.int .u32 (N32 x), .int .i64 k] w fun e w' => e = .returned (.int .u32 (N32 (Sha.rotr x k.toNat))) ∧ w' = w :=
  turn_any x k k.toNat (by omega) (by omega) (by omega) w

/-- Bytes, and words, as cells. -/
def bytesV (l : List (BitVec 8)) : List Value := l.map fun c => .int .u8 ((c.toNat : Nat) : Int)
def wordsV (l : List (BitVec 32)) : List Value := l.map fun x => .int .u32 (N32 x)

theorem bytesV_length (l : List (BitVec 8)) : (bytesV l).length = l.length := by simp [bytesV]
theorem wordsV_length (l : List (BitVec 32)) : (wordsV l).length = l.length := by simp [wordsV]
theorem bytesV_get (l : List (BitVec 8)) {i : Nat} (h : i < l.length) : (bytesV l)[i]? = some (.int .u8 (((l.getD i 0).toNat : Nat) : Int)) := by
  rw [bytesV, List.getElem?_map, List.getD_eq_getElem?_getD, List.getElem?_eq_getElem h]; rfl
theorem wordsV_get (l : List (BitVec 32)) {i : Nat} (h : i < l.length) : (wordsV l)[i]? = some (.int .u32 (N32 (l.getD i 0))) := by
  rw [wordsV, List.getElem?_map, List.getD_eq_getElem?_getD, List.getElem?_eq_getElem h]; rfl
theorem bytesV_set (l : List (BitVec 8)) (i : Nat) (c : BitVec 8) : (bytesV l).set i (.int .u8 ((c.toNat : Nat) : Int)) = bytesV (l.set i c) := by
  rw [bytesV, bytesV, List.map_set]
theorem wordsV_set (l : List (BitVec 32)) (i : Nat) (x : BitVec 32) : (wordsV l).set i (.int .u32 (N32 x)) = wordsV (l.set i x) := by
  rw [wordsV, wordsV, List.map_set]
theorem bytesV_one (l : List (BitVec 8)) : ∀ v ∈ bytesV l, v.oneCell' = true := by
  intro v hv
  obtain ⟨c, _, rfl⟩ := List.mem_map.1 hv
  rfl
theorem wordsV_one (l : List (BitVec 32)) : ∀ v ∈ wordsV l, v.oneCell' = true := by
  intro v hv
  obtain ⟨c, _, rfl⟩ := List.mem_map.1 hv
  rfl

section
variable {P : Program} {ops : Array Oper} {rest : List Oper} {a : Act} {w : World} {Q : Exit → Act → World → Prop}

/-- A parameter that is an array, laid into a block of its own. -/
theorem wpList_box {o : Oper} (t : TypeId) (x : Operand) (cs : List Value) (ho : o.op = .box t x) (hg : o.guard = none) (hx : a.eval x = .agg cs.toArray)
    (h : ∀ w', Arr w' w.heap.size cs → Below w.heap.size w w' → w'.heap.size = w.heap.size + 1 → wpList P ops Q rest (a.put o.dst (.pointer (some ⟨w.heap.size, 0, none⟩))) w') :
    wpList P ops Q (o :: rest) a w := by
  refine wpList_plain hg fun K hK => ?_
  have r : (execOp a.eval o).run P w = .ok (.value (.pointer (some ⟨w.heap.size, 0, none⟩))) (w.alloc (.cells cs.toArray t)) := by
    unfold execOp
    simp only [ho, hx]
    rfl
  unfold Oper.wp
  rw [r, Oper.upon_value]
  exact hK _ _ (h _ ⟨cs.toArray, t, heap_alloc_new w _, rfl⟩ ((Below.refl _ _).alloc (Nat.le_refl _) _) (by simp))

/-- A variable made: noughts. -/
theorem wpList_alloc {o : Oper} (t e : TypeId) (zs : List Value) (ho : o.op = .alloc t) (hg : o.guard = none)
    (hal : ∀ w : World, (Instr.alloc t true (.tuple #[])).run P w = .ok (.pointer (some ⟨w.heap.size, 0, none⟩)) (w.alloc (.cells zs.toArray e)))
    (h : ∀ w', Arr w' w.heap.size zs → Below w.heap.size w w' → w'.heap.size = w.heap.size + 1 → wpList P ops Q rest (a.put o.dst (.pointer (some ⟨w.heap.size, 0, none⟩))) w') :
    wpList P ops Q (o :: rest) a w := by
  refine wpList_plain hg fun K hK => ?_
  have r : (execOp a.eval o).run P w = .ok (.value (.pointer (some ⟨w.heap.size, 0, none⟩))) (w.alloc (.cells zs.toArray e)) := by
    unfold execOp
    simp only [ho, Sem.run_bind, hal w, Result.andThen, Sem.run_pure]
  unfold Oper.wp
  rw [r, Oper.upon_value]
  exact hK _ _ (h _ ⟨zs.toArray, e, heap_alloc_new w _, rfl⟩ ((Below.refl _ _).alloc (Nat.le_refl _) _) (by simp))

/-- An array in a block of its own read whole. -/
theorem wpList_loadAll {o : Oper} (t : TypeId) (x : Operand) (b : Nat) (cs : List Value) (td : TypeDesc) (ho : o.op = .load t x) (hg : o.guard = none) (hx : a.eval x = .pointer (some ⟨b, 0, none⟩))
    (hA : Arr w b cs) (hu : P.underlying t = some td) (hd : td.isRow = true) (hi : (P.info? t).map (·.size) = some cs.length)
    (h : wpList P ops Q rest (a.put o.dst (.agg cs.toArray)) w) : wpList P ops Q (o :: rest) a w :=
  wpList_load_mid hg t x ho b 0 hx cs td hA.range hu hd hi h

/-- An array laid whole into a block of its own. -/
theorem wpList_storeAll {o : Oper} (t : TypeId) (x y : Operand) (b : Nat) (cs ds : List Value) (ho : o.op = .store t x y) (hg : o.guard = none) (hx : a.eval x = .pointer (some ⟨b, 0, none⟩)) (hy : a.eval y = .agg cs.toArray)
    (hA : Arr w b ds) (hl : ds.length = cs.length) (hi : (P.info? t).map (·.size) = some cs.length) (hone : ∀ v ∈ cs, v.oneCell' = true)
    (h : ∀ w', Arr w' b cs → w.grownBy w' (some b) → w'.heap.size = w.heap.size → wpList P ops Q rest (a.put o.dst undef) w') : wpList P ops Q (o :: rest) a w := by
  refine wpList_store_mid hg t x y ho b 0 cs.toArray hx hy ?_ ?_ (all_oneCell_toArray hone) ?_
  · have := hA.there
    rw [hl] at this
    simpa using this
  · simpa using hi
  · exact h _ (hA.sets cs hl) (setCells_grown _ _ _ _) (by rw [setCells_size])
/-- A result that is an array in a block of its own. -/
theorem results_arr {fn : Func} {p : Tmp} {ty : TypeId} {tmps : Array Value} {g : Nat} {cs : List Value} {td : TypeDesc} (h : fn.results = #[.cell p ty]) (hp : tmps.getD p undef = .pointer (some ⟨g, 0, none⟩)) (hA : Arr w g cs)
    (hu : P.underlying ty = some td) (hd : td.isRow = true) (hi : (P.info? ty).map (·.size) = some cs.length) : (results fn tmps).run P w = .ok (.agg cs.toArray) w := by
  have hl := run_loadVar_mid (P := P) w g 0 ty cs td hA.range hu hd hi
  have hp' : tmps[p]?.getD undef = .pointer (some ⟨g, 0, none⟩) := by simpa using hp
  simp [results, h, hp', asAddr, hl]
end

end Go.Proofs.YtnfgakbfnmmhcaaDoor
