/-
  What digest.Text answers: two digits of each byte. (Bytes of this part of the program as words of eight bits.)
-/
import Derived.Test.YtglphnmnnfpcoaaDoorBase
import Derived.Test.YtglphnmnnfpcoaaDoorTail
namespace Go.Proofs.YtglphnmnnfpcoaaDoor.H.Sha
def hex (n : Nat) : BitVec 8 := [48#8, 49#8, 50#8, 51#8, 52#8, 53#8, 54#8, 55#8, 56#8, 57#8, 97#8, 98#8, 99#8, 100#8, 101#8, 102#8].getD n 0
def text (h : List (BitVec 8)) : List (BitVec 8) := h.flatMap fun c => [hex (c.toNat / 16), hex (c.toNat % 16)]

/-- The number that a digit stands for. -/
def dig (c : BitVec 8) : Option Nat := if 48 ≤ c.toNat ∧ c.toNat ≤ 57 then some (c.toNat - 48) else if 97 ≤ c.toNat ∧ c.toNat ≤ 102 then some (c.toNat - 87) else none

theorem dig_hex {n : Nat} (h : n < 16) : dig (hex n) = some n := by
  have : ∀ i : Fin 16, dig (hex i.val) = some i.val := by decide +kernel
  exact this ⟨n, h⟩
theorem hex_dig {c : BitVec 8} {a : Nat} (h : dig c = some a) : a < 16 ∧ hex a = c := by
  have : ∀ i : Fin 256, (match dig (BitVec.ofNat 8 i.val) with | some a => decide (a < 16) && hex a == BitVec.ofNat 8 i.val | none => true) = true := by decide +kernel
  have e : BitVec.ofNat 8 c.toNat = c := by simp
  have := this ⟨c.toNat, c.isLt⟩
  simp only [e, h, Bool.and_eq_true, decide_eq_true_eq, beq_iff_eq] at this
  exact this

theorem text_length (h : List (BitVec 8)) : (text h).length = 2 * h.length := by
  induction h with
  | nil => rfl
  | cons c h ih => rw [text, List.flatMap_cons, List.length_append, List.length_cons]; unfold text at ih; rw [ih]; simp; omega
theorem text_snoc (h : List (BitVec 8)) (c : BitVec 8) : text (h ++ [c]) = text h ++ [hex (c.toNat / 16), hex (c.toNat % 16)] := by simp [text]
theorem text_cons (c : BitVec 8) (h : List (BitVec 8)) : text (c :: h) = hex (c.toNat / 16) :: hex (c.toNat % 16) :: text h := by simp [text]

theorem text_get (h : List (BitVec 8)) : ∀ k, k < h.length → (text h)[2 * k]? = some (hex ((h.getD k 0).toNat / 16)) ∧ (text h)[2 * k + 1]? = some (hex ((h.getD k 0).toNat % 16)) := by
  induction h with
  | nil => intro k hk; simp at hk
  | cons c h ih =>
    intro k hk
    rw [text_cons]
    cases k with
    | zero => simp
    | succ k =>
      have := ih k (by simpa using hk)
      rw [show 2 * (k + 1) = 2 * k + 1 + 1 by omega]
      simpa using this

theorem text_inj : ∀ (g h : List (BitVec 8)), text g = text h → g = h
  | [], [], _ => rfl
  | [], c :: h, e => by rw [text_cons] at e; simp [text] at e
  | c :: g, [], e => by rw [text_cons] at e; simp [text] at e
  | c :: g, d :: h, e => by
    rw [text_cons, text_cons] at e
    simp only [List.cons.injEq] at e
    obtain ⟨e1, e2, e3⟩ := e
    have hc := c.isLt
    have hd := d.isLt
    have h1 := congrArg dig e1
    have h2 := congrArg dig e2
    rw [dig_hex (by omega), dig_hex (by omega)] at h1 h2
    simp at h1 h2
    have : c = d := BitVec.eq_of_toNat_eq (by omega)
    rw [this, text_inj g h e3]

end Go.Proofs.YtglphnmnnfpcoaaDoor.H.Sha
namespace Go.Proofs.YtglphnmnnfpcoaaDoor.H
open Go.RowKit

/-- A slice of bytes: its length is the list's; its cells hold the list's bytes. -/
def Row (w : World) (a : Option Addr) (len : Nat) (bs : List (BitVec 8)) : Prop :=
  bs.length = len ∧ len ≤ 140737488351232 ∧ ∀ i, i < len → ∃ b off, a = some ⟨b, off, none⟩ ∧ w.cell? ⟨b, off + i, none⟩ = some (.int .u8 (((bs.getD i 0).toNat : Nat) : Int))

theorem take_snoc (bs : List (BitVec 8)) (k : Nat) (h : k < bs.length) : bs.take (k + 1) = bs.take k ++ [bs.getD k 0] := by
  rw [List.take_succ_eq_append_getElem h, List.getD_eq_getElem?_getD, List.getElem?_eq_getElem h]
  rfl

theorem cell_new (w : World) (C : Array Value) (e : TypeId) (fr : Nat × Nat) (i : Nat) : (w.alloc (.cells C e fr)).cell? ⟨w.heap.size, i, none⟩ = C[i]? := by
  have h : (w.alloc (.cells C e fr)).heap[w.heap.size]? = some (.cells C e fr) := by
    show (w.heap.push (.cells C e fr))[w.heap.size]? = _
    simp
  unfold World.cell?
  rw [h]
  rfl

theorem lt_of_cell {w : World} {b off : Nat} {v : Value} (h : w.cell? ⟨b, off, none⟩ = some v) : b < w.heap.size := by
  rcases Nat.lt_or_ge b w.heap.size with h' | h'
  · exact h'
  · simp [World.cell?, Array.getElem?_eq_none h'] at h

theorem kept_cell {w w' : World} {b i : Nat} {v : Value} (h : w.cell? ⟨b, i, none⟩ = some v) (hb : Below w.heap.size w w') : w'.cell? ⟨b, i, none⟩ = some v :=
  (hb.cell (p := ⟨b, i, none⟩) (lt_of_cell h)).trans h

def bytesV (l : List (BitVec 8)) : List Value := l.map fun c => .int .u8 ((c.toNat : Nat) : Int)
theorem bytesV_length (l : List (BitVec 8)) : (bytesV l).length = l.length := by simp [bytesV]
theorem bytesV_get (l : List (BitVec 8)) {i : Nat} (h : i < l.length) : (bytesV l)[i]? = some (.int .u8 (((l.getD i 0).toNat : Nat) : Int)) := by
  rw [bytesV, List.getElem?_map, List.getD_eq_getElem?_getD, List.getElem?_eq_getElem h]; rfl
theorem bytesV_set (l : List (BitVec 8)) (i : Nat) (c : BitVec 8) : (bytesV l).set i (.int .u8 ((c.toNat : Nat) : Int)) = bytesV (l.set i c) := by
  rw [bytesV, bytesV, List.map_set]
theorem bytesV_one (l : List (BitVec 8)) : ∀ v ∈ bytesV l, v.oneCell' = true := by
  intro v hv
  obtain ⟨c, _, rfl⟩ := List.mem_map.1 hv
  rfl
/-- Block b holds just these cells of type e, none of them frozen. -/
def ArrT (w : World) (b : Nat) (e : TypeId) (cs : List Value) : Prop := w.heap[b]? = some (.cells cs.toArray e (0, 0))

theorem ArrT.arr {w : World} {b : Nat} {e : TypeId} {cs : List Value} (h : ArrT w b e cs) : Arr w b cs := ⟨_, e, h, rfl⟩
theorem ArrT.set {w : World} {b : Nat} {e : TypeId} {cs : List Value} (h : ArrT w b e cs) (i : Nat) (v : Value) : ArrT (w.setCell ⟨b, i, none⟩ v) b e (cs.set i v) := by
  have := heap_setCell_same w b i _ e v h
  unfold ArrT
  rw [this, List.setIfInBounds_toArray]
theorem ArrT.below {w w' : World} {b B : Nat} {e : TypeId} {cs : List Value} (h : ArrT w b e cs) (hb : Below B w w') (hlt : b < B) : ArrT w' b e cs := by
  unfold ArrT
  rw [hb.block b hlt]; exact h

theorem Arr.row {w : World} {b : Nat} {bs : List (BitVec 8)} {rest : List Value} (h : Arr w b (bytesV bs ++ rest)) (hl : bs.length ≤ 140737488351232) : Row w (some ⟨b, 0, none⟩) bs.length bs := by
  refine ⟨rfl, hl, fun i hi => ⟨b, 0, rfl, ?_⟩⟩
  rw [Nat.zero_add]
  refine h.cell ?_
  rw [List.getElem?_append_left (by rw [bytesV_length]; exact hi)]
  exact bytesV_get bs hi

theorem info5 : ∃ i, Tryd.prog.info? 5 = some i ∧ i.zero = some (.int .u8 0) ∧ i.size = 1 ∧ i.bytes = 1 := by
  have h0 : (Tryd.prog.info? 5).isSome = true := by kernel_rfl
  have h1 : (Tryd.prog.info? 5).bind (·.zero) = some (.int .u8 0) := by kernel_rfl
  have h2 : (Tryd.prog.info? 5).map (·.size) = some 1 := by kernel_rfl
  have h3 : (Tryd.prog.info? 5).map (·.bytes) = some 1 := by kernel_rfl
  obtain ⟨i, hi⟩ := Option.isSome_iff_exists.1 h0
  rw [hi] at h1 h2 h3
  exact ⟨i, hi, by simpa using h1, by simpa using h2, by simpa using h3⟩

section
variable {ops : Array Oper} {rest : List Oper} {a : Act} {w : World} {Q : Exit → Act → World → Prop}

/-- 'make([]byte, l, c)'. -/
theorem wpList_make {o : Oper} (x y : Operand) (kl kc : IntKind) (l c : Nat) (ho : o.op = .makeSlice 34 x y) (hg : o.guard = none) (hx : a.eval x = .int kl (l : Int)) (hy : a.eval y = .int kc (c : Int)) (hlc : l ≤ c) (hc : c ≤ 1000000)
    (h : ∀ w', ArrT w' w.heap.size 5 (bytesV (List.replicate c 0#8)) → Below w.heap.size w w' → w'.heap.size = w.heap.size + 1 → wpList Tryd.prog ops Q rest (a.put o.dst (.slice (some ⟨w.heap.size, 0, none⟩) l c)) w') :
    wpList Tryd.prog ops Q (o :: rest) a w := by
  obtain ⟨i, hi, hz, hs, hb⟩ := info5
  have hr := run_make (P := Tryd.prog) w 34 5 i _ Tryd.underlying34 hi hz kl kc l c (by omega) (by omega) (by rw [hb]; omega) (by omega)
  refine wpList_plain hg fun K hK => ?_
  have e : madeCells (Value.int .u8 0).cells (c * 1) = (bytesV (List.replicate c 0#8)).toArray := by
    apply Array.ext
    · rw [size_madeCells]; simp [bytesV]
    · intro j h1 h2
      simp [madeCells, Value.cells, bytesV, Nat.mod_one]
  rw [hs, Int.toNat_natCast, Int.toNat_natCast, e] at hr
  have r : (execOp a.eval o).run Tryd.prog w = .ok (.value (.slice (some ⟨w.heap.size, 0, none⟩) l c)) (w.alloc (.cells (bytesV (List.replicate c 0#8)).toArray 5)) := by
    unfold execOp
    simp only [ho, hx, hy, Sem.run_bind, hr, Result.andThen, Sem.run_pure]
  unfold Oper.wp
  rw [r, Oper.upon_value]
  exact hK _ _ (h _ (heap_alloc_new w _) ((Below.refl _ _).alloc (Nat.le_refl _) _) (by simp))

/-- 'append(s, x...)' of bytes where there is room. -/
theorem wpList_appendRoom {o : Oper} (s x : Operand) (ho : o.op = .call { callee := .builtin .append, args := #[s, x], argTypes := #[34, 34] }) (hgd : o.guard = none)
    (g n cap : Nat) (cs : List Value) (ad : Addr) (m c : Nat) (news : List Value) (hs : a.eval s = .slice (some ⟨g, 0, none⟩) n cap) (hx : a.eval x = .slice (some ad) m c)
    (hA : ArrT w g 5 cs) (hl : news.length = m) (hnews : ∀ j u, news[j]? = some u → w.cell? (ad.add j) = some u) (h1 : ∀ u ∈ news, u.oneCell' = true) (hroom : n + m ≤ cap) (hfit : n + m ≤ cs.length)
    (h : ∀ w', ArrT w' g 5 (cs.take n ++ news ++ cs.drop (n + m)) → w.grownBy w' (some g) → w'.heap.size = w.heap.size → wpList Tryd.prog ops Q rest (a.put o.dst (.slice (some ⟨g, 0, none⟩) (n + m) cap)) w') :
    wpList Tryd.prog ops Q (o :: rest) a w := by
  obtain ⟨i, hi, _, hsz, _⟩ := info5
  have hr := run_append_room (P := Tryd.prog) w 34 o.type 5 i Tryd.underlying34 hi g n cap cs.toArray hA ad m c news (by rw [hsz, hl, Nat.mul_one]) hnews h1 hroom (by rw [hsz, hl]; simpa using hfit)
  rw [hsz, Nat.mul_one, hl] at hr
  refine wpList_plain hgd fun K hK => ?_
  have r : (execOp a.eval o).run Tryd.prog w = .ok (.value (.slice (some ⟨g, 0, none⟩) (n + m) cap)) (w.setRow g (cs.take n ++ news ++ cs.drop (n + m)).toArray) := by
    unfold execOp
    simp only [ho, resolve, invoke, builtin, Sem.run_bind, Sem.run_pure, Result.andThen_ok, List.map_toArray, List.map_cons, List.map_nil, hs, hx, hr]
  unfold Oper.wp
  rw [r, Oper.upon_value]
  refine hK _ _ (h _ (setRow_heap w g _ _ 5 _ hA) ?_ ?_)
  · refine ⟨rfl, rfl, rfl, ?_, fun k hk hne => ?_⟩
    · simp [World.setRow]
    · simp only [World.setRow, Array.getElem?_modify]
      rw [if_neg (fun e => hne (by rw [e]))]
  · simp [World.setRow]
end

def zerosB : List (BitVec 8) := List.replicate 32 0#8
theorem alloc24 (w : World) : (Instr.alloc 24 true (.tuple #[])).run Tryd.prog w = .ok (.pointer (some ⟨w.heap.size, 0, none⟩)) (w.alloc (.cells (bytesV zerosB).toArray 24)) := by kernel_rfl
theorem info24 : (Tryd.prog.info? 24).map (·.size) = some 32 := by kernel_rfl

/-- An element of an array that is a value. -/
theorem run_index {t e : TypeId} {n : Nat} (hu : Tryd.prog.underlying t = some (.array n e)) (hag : ∀ w : World, (isAgg e).run Tryd.prog w = .ok false w) (hsz : ∀ w : World, (Go.sizeOf e).run Tryd.prog w = .ok 1 w)
    (cs : List Value) (k : Nat) (v : Value) (hl : cs.length = n) (hv : cs[k]? = some v) (w : World) : (Instr.index t (.agg cs.toArray) (.int .i64 (k : Int))).run Tryd.prog w = .ok v w := by
  have h0 : (0 : Int) ≤ (k : Int) := Int.natCast_nonneg _
  have hk : k < n := by rw [← hl]; exact (List.getElem?_eq_some_iff.1 hv).1
  simp [Instr.index, run_underlying hu, part, hag, hsz, h0, hv, asIntOf, hk]

theorem ag5 (w : World) : (isAgg 5).run Tryd.prog w = .ok false w := by kernel_rfl
theorem sz5 (w : World) : (Go.sizeOf 5).run Tryd.prog w = .ok 1 w := by kernel_rfl
/-- Bytes as a string. -/
def str (l : List (BitVec 8)) : ByteArray := ⟨(l.map UInt8.ofBitVec).toArray⟩

theorem str_push (s l : List (BitVec 8)) : (l.map fun c => ((c.toNat : Nat) : Int)).foldl (fun r n => r.push (UInt8.ofNat n.toNat)) (str s) = str (s ++ l) := by
  induction l generalizing s with
  | nil => simp
  | cons c l ih =>
    have e : (str s).push (UInt8.ofNat (((c.toNat : Nat) : Int)).toNat) = str (s ++ [c]) := by
      unfold str
      have : UInt8.ofNat (((c.toNat : Nat) : Int)).toNat = UInt8.ofBitVec c := by
        rw [Int.toNat_natCast]
        apply UInt8.eq_of_toBitVec_eq
        simp [UInt8.ofNat]
      rw [this]
      simp [ByteArray.push]
    simp only [List.map_cons, List.foldl_cons, e]
    rw [ih]
    simp

theorem run_toString {w : World} {b n cap : Nat} {bs : List (BitVec 8)} (h : Row w (some ⟨b, 0, none⟩) n bs) : (convert 34 9 (.slice (some ⟨b, 0, none⟩) n cap)).run Tryd.prog w = .ok (.string (str bs)) w := by
  rw [run_convert_bytes_string w 34 9 5 _ _ _ Tryd.underlying34 Tryd.underlying5 Tryd.underlying9]
  have hl : (loadCells ⟨b, 0, none⟩ n).run Tryd.prog w = .ok ((bs.map fun c => ((c.toNat : Nat) : Int)).map (Value.int .u8)).toArray w := by
    have e : (bs.map fun c => ((c.toNat : Nat) : Int)).map (Value.int .u8) = bytesV bs := by simp [bytesV]
    rw [e]
    have hn : n = (bytesV bs).length := by rw [bytesV_length, h.1]
    rw [hn]
    refine run_loadCells_list (P := Tryd.prog) w ⟨b, 0, none⟩ (bytesV bs) (fun j v hj => ?_)
    have hjl : j < n := by rw [hn]; exact (List.getElem?_eq_some_iff.1 hj).1
    rw [bytesV_get bs (by rw [h.1]; exact hjl)] at hj
    obtain ⟨b', off', he, hc⟩ := h.2.2 j hjl
    cases he
    rw [Addr.add_mid, hc, ← hj]
  rw [run_bytesToString w _ _ _ _ hl]
  have := str_push [] bs
  rw [List.nil_append] at this
  rw [← this]
  rfl

theorem run_shr4 {ρ : Operand → Value} {o : Oper} {t : Nat} {c : BitVec 8} (ho : o.op = .binOp .shr 5 (.tmp t) (.const (.int .u64 4)) 78) (h : ρ (.tmp t) = .int .u8 ((c.toNat : Nat) : Int)) (h' : ρ (.const (.int .u64 4)) = .int .u64 4) (w : World) :
    (execOp ρ o).run Tryd.prog w = .ok (.value (.int .u8 ((c.toNat / 16 : Nat) : Int))) w := by
  unfold execOp
  rw [ho]
  go_simp
theorem and15 (c : BitVec 8) : bits .and .u8 ((c.toNat : Nat) : Int) 15 = ((c.toNat % 16 : Nat) : Int) := by
  have : ∀ i : Fin 256, bits .and .u8 (i.val : Int) 15 = ((i.val % 16 : Nat) : Int) := by decide +kernel
  exact this ⟨c.toNat, c.isLt⟩
theorem run_and15 {ρ : Operand → Value} {o : Oper} {t : Nat} {c : BitVec 8} (ho : o.op = .binOp .and 5 (.tmp t) (.const (.int .u8 15)) 5) (h : ρ (.tmp t) = .int .u8 ((c.toNat : Nat) : Int)) (h' : ρ (.const (.int .u8 15)) = .int .u8 15) (w : World) :
    (execOp ρ o).run Tryd.prog w = .ok (.value (.int .u8 ((c.toNat % 16 : Nat) : Int))) w := by
  have := and15 c
  unfold execOp
  rw [ho]
  go_simp

def digitsS : ByteArray := ⟨#[48, 49, 50, 51, 52, 53, 54, 55, 56, 57, 97, 98, 99, 100, 101, 102]⟩
theorem run_digits {ρ : Operand → Value} {o : Oper} {t k : Nat} (ho : o.op = .index 9 (.const (.string digitsS)) (.tmp t)) (h : ρ (.tmp t) = .int .u8 (k : Int)) (h' : ρ (.const (.string digitsS)) = .string digitsS) (hk : k < 16) (w : World) :
    (execOp ρ o).run Tryd.prog w = .ok (.value (.int .u8 (((Sha.hex k).toNat : Nat) : Int))) w := by
  have hr : (Instr.index 9 (.string digitsS) (.int .u8 (k : Int))).run Tryd.prog w = .ok (.int .u8 (((Sha.hex k).toNat : Nat) : Int)) w := by
    have key : ∀ i : Fin 16, (digitsS[i.val]'(by have := i.isLt; exact this)).toNat = (Sha.hex i.val).toNat := by decide +kernel
    have hs : digitsS.size = 16 := rfl
    rw [run_index_string w 9 digitsS .u8 k Tryd.underlying9, dif_pos ⟨by omega, by rw [hs]; omega⟩]
    have := key ⟨k, hk⟩
    simp only [Int.toNat_natCast]
    exact congrArg (fun n : Nat => Result.ok (Value.int .u8 (n : Int)) w) this
  unfold execOp
  simp only [ho, h, h', Sem.run_bind, hr, Result.andThen, Sem.run_pure]
theorem run_build2 {ρ : Operand → Value} {o : Oper} {t u : Nat} {x y : Int} (ho : o.op = .buildSlice 34 2 #[(0, .tmp t), (1, .tmp u)]) (h : ρ (.tmp t) = .int .u8 x) (h' : ρ (.tmp u) = .int .u8 y) (w : World) :
    (execOp ρ o).run Tryd.prog w = .ok (.value (.slice (some ⟨w.heap.size, 0, none⟩) 2 2)) (w.alloc (.cells #[.int .u8 x, .int .u8 y] 5)) := by
  unfold execOp
  rw [ho]
  go_simp

/-- What the operations of the region yield. -/
def VT (g k : Nat) (c : BitVec 8) : Nat → Value → World → Prop
  | 0, v, _ => v = .slice (some ⟨g, 0, none⟩) (2 * k) 64
  | 1, v, _ => v = .int .u8 ((c.toNat : Nat) : Int)
  | 2, v, _ => v = .int .u8 ((c.toNat / 16 : Nat) : Int)
  | 3, v, _ => v = .int .u8 (((Sha.hex (c.toNat / 16)).toNat : Nat) : Int)
  | 4, v, _ => v = .int .u8 ((c.toNat : Nat) : Int)
  | 5, v, _ => v = .int .u8 ((c.toNat % 16 : Nat) : Int)
  | 6, v, _ => v = .int .u8 (((Sha.hex (c.toNat % 16)).toNat : Nat) : Int)
  | 7, v, w => ∃ b, v = .slice (some ⟨b, 0, none⟩) 2 2 ∧ w.cell? ⟨b, 0, none⟩ = some (.int .u8 (((Sha.hex (c.toNat / 16)).toNat : Nat) : Int)) ∧ w.cell? ⟨b, 1, none⟩ = some (.int .u8 (((Sha.hex (c.toNat % 16)).toNat : Nat) : Int))
  | _, _, _ => True

theorem VT.stable {g k : Nat} {c : BitVec 8} (j : Nat) (v : Value) (w w' : World) (h : VT g k c j v w) (hb : Below w.heap.size w w') : VT g k c j v w' := by
  unfold VT at *
  split at h
  all_goals first | exact h | skip
  all_goals obtain ⟨b, hv, hc0, hc1⟩ := h
  all_goals exact ⟨b, hv, kept_cell hc0 hb, kept_cell hc1 hb⟩

theorem text_length (h : List (BitVec 8)) : (Sha.text h).length = 2 * h.length := by
  induction h with
  | nil => rfl
  | cons c h ih => rw [Sha.text, List.flatMap_cons, List.length_append, List.length_cons]; unfold Sha.text at ih; rw [ih]; simp; omega
theorem text_snoc (h : List (BitVec 8)) (c : BitVec 8) : Sha.text (h ++ [c]) = Sha.text h ++ [Sha.hex (c.toNat / 16), Sha.hex (c.toNat % 16)] := by
  simp [Sha.text]

set_option maxRecDepth 100000 in
set_option maxHeartbeats 400000 in
theorem text_any (h : List (BitVec 8)) (hh : h.length = 32) (w : World) :
    Calls Tryd.prog 45 #[.agg (bytesV h).toArray] w fun e w' => e = .returned (.string (str (Sha.text h))) ∧ Below w.heap.size w w' := by
  have Hh := hide hh
  have HL : Hid ((bytesV h).length = 32) := by show _ = _; rw [bytesV_length, hh]
  clear hh
  obtain ⟨cs, hcs⟩ : ∃ cs, cs = bytesV h := ⟨_, rfl⟩
  rw [← hcs]
  rw [← hcs] at HL
  have Hcs := hide hcs
  clear hcs
  go_enter Tryd.func45, Tryd.ntmps45
  go_wp2_with (refine wpList_box 24 _ cs rfl rfl rfl ?_)
  intro w1 hA1 hb1 hs1
  have HA1 := hide hA1
  have Hb1 := hide hb1
  clear hA1 hb1
  go_wp2_with (refine wpList_make _ _ _ _ 0 64 rfl rfl rfl rfl (by decide) (by decide) ?_)
  intro w2 hA2 hb2 hs2
  have HB2 := hide ((unhide HA1).keep hb2 (by omega))
  have Hb2 := hide ((unhide Hb1).trans (hb2.mono (by omega)))
  have HA2 := hide hA2
  clear hA2 hb2 HA1 Hb1 hs1
  go_wp2_with (refine wpList_loadAll 24 _ w.heap.size cs _ rfl rfl rfl (unhide HB2) Tryd.underlying24 rfl (by rw [unhide HL]; exact info24) ?_)
  go_loopw [3, 8] (fun s i wr => ∃ k : Nat, k ≤ 32 ∧ i = .int .i64 k ∧ s = .slice (some ⟨w.heap.size + 1, 0, none⟩) (2 * k) 64 ∧ ArrT wr (w.heap.size + 1) 5 (bytesV (Sha.text (h.take k) ++ List.replicate (64 - 2 * k) 0#8)) ∧ Below w.heap.size w wr) (fun _ i _ => 32 - (intOf i).toNat)
  case atStart => exact ⟨0, by omega, rfl, rfl, unhide HA2, unhide Hb2⟩
  case round =>
    obtain ⟨k, hk, rfl, rfl, hA, hb⟩ := hrel
    have HA := hide hA
    have Hb := hide hb
    clear hA hb HA2 Hb2 HB2
    by_cases hlt : k < 32
    · have hi := run_index Tryd.underlying24 ag5 sz5 cs k _ (by rw [unhide HL]) (by rw [unhide Hcs]; exact bytesV_get h (by have := unhide Hh; omega))
      have hts := take_snoc h k (by have := unhide Hh; omega)
      have Hts := hide hts
      clear hts
      generalize h.getD k 0 = c at *
      go_wp2_with fail
      have hh16 : c.toNat / 16 < 16 := by have := c.isLt; omega
      have hl16 : c.toNat % 16 < 16 := by omega
      refine Free.wp_region_tail 8 (VT (w.heap.size + 1) k c) (fun w' => Below wr.heap.size wr w') (by kernel_rfl) (by decide) (by kernel_rfl) (by kernel_rfl) (by kernel_rfl) VT.stable (Below.drew (Below.refl _ _)) ⟨?_, ?_, ?_, ?_, ?_, ?_, ?_, ?_, trivial⟩ ?_
      · exact Free.owed_move (Free.goes_plain rfl) (.inl rfl) fun a w' _ hs _ => hs 3 (by kernel_rfl)
      · exact Free.owed_move (Free.goes_plain rfl) (.inl rfl) fun a w' _ hs _ => hs 5 (by kernel_rfl)
      · exact Free.owed_pure (Free.goes_plain rfl) fun a w' hC hs hd => ⟨_, run_shr4 rfl (hd 1 12 (by kernel_rfl)) rfl w', rfl⟩
      · exact Free.owed_pure (Free.goes_plain rfl) fun a w' hC hs hd => ⟨_, run_digits rfl (hd 2 13 (by kernel_rfl)) rfl hh16 w', rfl⟩
      · exact Free.owed_move (Free.goes_plain rfl) (.inl rfl) fun a w' _ hs _ => hs 5 (by kernel_rfl)
      · exact Free.owed_pure (Free.goes_plain rfl) fun a w' hC hs hd => ⟨_, run_and15 rfl (hd 4 15 (by kernel_rfl)) rfl w', rfl⟩
      · exact Free.owed_pure (Free.goes_plain rfl) fun a w' hC hs hd => ⟨_, run_digits rfl (hd 5 16 (by kernel_rfl)) rfl hl16 w', rfl⟩
      · refine Free.owed_value (Free.goes_plain rfl) fun a w' hC hs hd => ?_
        exact ⟨_, _, run_build2 rfl (hd 3 14 (by kernel_rfl)) (hd 6 17 (by kernel_rfl)) w', (Below.refl _ _).alloc (Nat.le_refl _) _, hC.alloc hC.size _, w'.heap.size, rfl, cell_new w' _ _ _ 0, cell_new w' _ _ _ 1⟩
      · intro w3 hC vals hv
        have e0 : vals 0 = .slice (some ⟨w.heap.size + 1, 0, none⟩) (2 * k) 64 := hv 0 _ 11 rfl rfl
        obtain ⟨b, e7, hc0, hc1⟩ : ∃ b, vals 7 = .slice (some ⟨b, 0, none⟩) 2 2 ∧ w3.cell? ⟨b, 0, none⟩ = some (.int .u8 (((Sha.hex (c.toNat / 16)).toNat : Nat) : Int)) ∧ w3.cell? ⟨b, 1, none⟩ = some (.int .u8 (((Sha.hex (c.toNat % 16)).toNat : Nat) : Int)) := hv 7 _ 18 rfl rfl
        clear hv
        simp only [Free.putAll, List.take, List.drop, Act.put, List.setIfInBounds_toArray, List.set_cons_succ, List.set_cons_zero, e0, e7]
        clear e0 e7
        have HA3 := hide ((unhide HA).below hC (unhide HA).arr.lt)
        have Hb3 := hide ((unhide Hb).trans (hC.mono (unhide Hb).size))
        have Hnews : Hid (∀ j u, (bytesV [Sha.hex (c.toNat / 16), Sha.hex (c.toNat % 16)])[j]? = some u → w3.cell? ((⟨b, 0, none⟩ : Addr).add j) = some u) := by
          show ∀ j u, _
          intro j u hj
          rw [Addr.add_mid, Nat.zero_add]
          match j, hj with
          | 0, hj => rw [hc0, ← hj]; rfl
          | 1, hj => rw [hc1, ← hj]; rfl
          | j + 2, hj => simp [bytesV] at hj
        clear hc0 hc1 hC HA Hb
        have Hfit : Hid (2 * k + 2 ≤ (bytesV (Sha.text (h.take k) ++ List.replicate (64 - 2 * k) 0#8)).length) := by
          show _ ≤ _
          rw [bytesV_length, List.length_append, text_length, List.length_replicate, List.length_take]; have := unhide Hh; omega
        go_wp2_with (refine wpList_appendRoom _ _ rfl rfl (w.heap.size + 1) (2 * k) 64 (bytesV (Sha.text (h.take k) ++ List.replicate (64 - 2 * k) 0#8)) ⟨b, 0, none⟩ 2 2 (bytesV [Sha.hex (c.toNat / 16), Sha.hex (c.toNat % 16)]) rfl rfl (unhide HA3) rfl (unhide Hnews) (bytesV_one _) (by omega) (unhide Hfit) ?_)
        intro w4 hA4 hg4 hs4
        have Hb4 := hide ((unhide Hb3).grown hg4 (unhide Hb3).size (fun k hk => by simp at hk; omega))
        have HA4 := hide hA4
        clear hA4 hg4 hs4 HA3 Hb3
        go_wp2
        go_roundw
        case rel =>
          refine ⟨k + 1, by omega, by go_num, by rw [show 2 * (k + 1) = 2 * k + 2 by omega], ?_, unhide Hb4⟩
          have hA4 := unhide HA4
          rw [← List.append_assoc] at hA4
          rw [unhide Hts, text_snoc]
          have hl : (Sha.text (h.take k)).length = 2 * k := by rw [text_length, List.length_take]; have := unhide Hh; omega
          have e : (bytesV (Sha.text (h.take k) ++ List.replicate (64 - 2 * k) 0#8)).take (2 * k) ++ bytesV [Sha.hex (c.toNat / 16), Sha.hex (c.toNat % 16)] ++ (bytesV (Sha.text (h.take k) ++ List.replicate (64 - 2 * k) 0#8)).drop (2 * k + 2) = bytesV (Sha.text (h.take k) ++ [Sha.hex (c.toNat / 16), Sha.hex (c.toNat % 16)] ++ List.replicate (64 - 2 * (k + 1)) 0#8) := by
            unfold bytesV
            rw [← List.map_take, ← List.map_drop, ← List.map_append, ← List.map_append]
            congr 2
            · rw [List.take_append_of_le_length (by omega), List.take_of_length_le (by omega)]
            · rw [List.drop_append, List.drop_of_length_le (by omega), List.nil_append, List.drop_replicate, hl]
              congr 1
              omega
          rw [← e]
          exact hA4
        case measure => simp [intOf]; omega
    · obtain rfl : k = 32 := by omega
      have hA := (unhide HA).arr
      rw [List.take_of_length_le (by have := unhide Hh; omega)] at hA
      have hrow := Arr.row (rest := []) (by simpa using hA) (by rw [text_length, unhide Hh]; decide)
      rw [text_length, unhide Hh] at hrow
      have hcv := run_toString (cap := 64) hrow
      clear hA hrow
      go_wp2
      go_ret
      exact ⟨rfl, unhide Hb⟩

end Go.Proofs.YtglphnmnnfpcoaaDoor.H
