/-
  What digest.bytesOf, digest.ending and digest.hashOf answer.
-/
import Derived.Test.YtnfgakbfnmmhcaaDoorMix
namespace Go.Proofs.YtnfgakbfnmmhcaaDoor
open Go.RowKit

/-- Block b holds just these cells of type e, none of them frozen. -/
def ArrT (w : World) (b : Nat) (e : TypeId) (cs : List Value) : Prop := w.heap[b]? = some (.cells cs.toArray e (0, 0))

theorem ArrT.arr {w : World} {b : Nat} {e : TypeId} {cs : List Value} (h : ArrT w b e cs) : Arr w b cs := ⟨_, e, h, rfl⟩
theorem ArrT.set {w : World} {b : Nat} {e : TypeId} {cs : List Value} (h : ArrT w b e cs) (i : Nat) (v : Value) : ArrT (w.setCell ⟨b, i, none⟩ v) b e (cs.set i v) := by
  have := heap_setCell_same w b i _ e v h
  unfold ArrT
  rw [this, List.setIfInBounds_toArray]
theorem ArrT.below {w w' : World} {b B : Nat} {e : TypeId} {cs : List Value} (h : ArrT w b e cs) (hb : Below B w w') (hlt : b < B) : ArrT w' b e cs := by
  unfold ArrT
  rw [hb.block b hlt]; exact h

theorem Arr.row {w : World} {b : Nat} {bs : List (BitVec 8)} {rest : List Value} (h : Arr w b (bytesV bs ++ rest)) (hl : bs.length ≤ 140737488351232) : Row w (some ⟨b, 0, none⟩) bs.length bs := by
  refine ⟨rfl, hl, fun i hi => ⟨b, 0, rfl, ?_⟩⟩
  rw [Nat.zero_add]
  refine h.cell ?_
  rw [List.getElem?_append_left (by rw [bytesV_length]; exact hi)]
  exact bytesV_get bs hi

theorem info5 : ∃ i, Tryd.prog.info? 5 = some i ∧ i.zero = some (.int .u8 0) ∧ i.size = 1 ∧ i.bytes = 1 := by
  have h0 : (Tryd.prog.info? 5).isSome = true := by kernel_rfl
  have h1 : (Tryd.prog.info? 5).bind (·.zero) = some (.int .u8 0) := by kernel_rfl
  have h2 : (Tryd.prog.info? 5).map (·.size) = some 1 := by kernel_rfl
  have h3 : (Tryd.prog.info? 5).map (·.bytes) = some 1 := by kernel_rfl
  obtain ⟨i, hi⟩ := Option.isSome_iff_exists.1 h0
  rw [hi] at h1 h2 h3
  exact ⟨i, hi, by simpa using h1, by simpa using h2, by simpa using h3⟩

section
variable {ops : Array Oper} {rest : List Oper} {a : Act} {w : World} {Q : Exit → Act → World → Prop}

/-- 'make([]byte, l, c)'. -/
theorem wpList_make {o : Oper} (x y : Operand) (kl kc : IntKind) (l c : Nat) (ho : o.op = .makeSlice 22 x y) (hg : o.guard = none) (hx : a.eval x = .int kl (l : Int)) (hy : a.eval y = .int kc (c : Int)) (hlc : l ≤ c) (hc : c ≤ 1000000)
    (h : ∀ w', ArrT w' w.heap.size 5 (bytesV (List.replicate c 0#8)) → Below w.heap.size w w' → w'.heap.size = w.heap.size + 1 → wpList Tryd.prog ops Q rest (a.put o.dst (.slice (some ⟨w.heap.size, 0, none⟩) l c)) w') :
    wpList Tryd.prog ops Q (o :: rest) a w := by
  obtain ⟨i, hi, hz, hs, hb⟩ := info5
  have hr := run_make (P := Tryd.prog) w 22 5 i _ Tryd.underlying22 hi hz kl kc l c (by omega) (by omega) (by rw [hb]; omega) (by omega)
  refine wpList_plain hg fun K hK => ?_
  have e : madeCells (Value.int .u8 0).cells (c * 1) = (bytesV (List.replicate c 0#8)).toArray := by
    apply Array.ext
    · rw [size_madeCells]; simp [bytesV]
    · intro j h1 h2
      simp [madeCells, Value.cells, bytesV, Nat.mod_one]
  rw [hs, Int.toNat_natCast, Int.toNat_natCast, e] at hr
  have r : (execOp a.eval o).run Tryd.prog w = .ok (.value (.slice (some ⟨w.heap.size, 0, none⟩) l c)) (w.alloc (.cells (bytesV (List.replicate c 0#8)).toArray 5)) := by
    unfold execOp
    simp only [ho, hx, hy, Sem.run_bind, hr, Result.andThen, Sem.run_pure]
  unfold Oper.wp
  rw [r, Oper.upon_value]
  exact hK _ _ (h _ (heap_alloc_new w _) ((Below.refl _ _).alloc (Nat.le_refl _) _) (by simp))

/-- 'append(s, x...)' of bytes where there is room. -/
theorem wpList_appendRoom {o : Oper} (s x : Operand) (ho : o.op = .call { callee := .builtin .append, args := #[s, x], argTypes := #[22, 22] }) (hgd : o.guard = none)
    (g n cap : Nat) (cs : List Value) (ad : Addr) (m c : Nat) (news : List Value) (hs : a.eval s = .slice (some ⟨g, 0, none⟩) n cap) (hx : a.eval x = .slice (some ad) m c)
    (hA : ArrT w g 5 cs) (hl : news.length = m) (hnews : ∀ j u, news[j]? = some u → w.cell? (ad.add j) = some u) (h1 : ∀ u ∈ news, u.oneCell' = true) (hroom : n + m ≤ cap) (hfit : n + m ≤ cs.length)
    (h : ∀ w', ArrT w' g 5 (cs.take n ++ news ++ cs.drop (n + m)) → w.grownBy w' (some g) → w'.heap.size = w.heap.size → wpList Tryd.prog ops Q rest (a.put o.dst (.slice (some ⟨g, 0, none⟩) (n + m) cap)) w') :
    wpList Tryd.prog ops Q (o :: rest) a w := by
  obtain ⟨i, hi, _, hsz, _⟩ := info5
  have hr := run_append_room (P := Tryd.prog) w 22 o.type 5 i Tryd.underlying22 hi g n cap cs.toArray hA ad m c news (by rw [hsz, hl, Nat.mul_one]) hnews h1 hroom (by rw [hsz, hl]; simpa using hfit)
  rw [hsz, Nat.mul_one, hl] at hr
  refine wpList_plain hgd fun K hK => ?_
  have r : (execOp a.eval o).run Tryd.prog w = .ok (.value (.slice (some ⟨g, 0, none⟩) (n + m) cap)) (w.setRow g (cs.take n ++ news ++ cs.drop (n + m)).toArray) := by
    unfold execOp
    simp only [ho, resolve, invoke, builtin, Sem.run_bind, Sem.run_pure, Result.andThen_ok, List.map_toArray, List.map_cons, List.map_nil, hs, hx, hr]
  unfold Oper.wp
  rw [r, Oper.upon_value]
  refine hK _ _ (h _ (setRow_heap w g _ _ 5 _ hA) ?_ ?_)
  · refine ⟨rfl, rfl, rfl, ?_, fun k hk hne => ?_⟩
    · simp [World.setRow]
    · simp only [World.setRow, Array.getElem?_modify]
      rw [if_neg (fun e => hne (by rw [e]))]
  · simp [World.setRow]
end

/-- The first i of eight bytes, and noughts. -/
def beTo (n i : Nat) : List (BitVec 8) := (List.range 8).map fun j => if j < i then BitVec.ofNat 8 (n >>> (8 * (7 - j))) else 0#8
theorem beTo_all (n : Nat) : beTo n 8 = Sha.be8 n := by
  unfold beTo Sha.be8
  apply List.map_congr_left
  intro j hj
  rw [if_pos (by simpa using hj)]
theorem beTo_length (n i : Nat) : (beTo n i).length = 8 := by simp [beTo]
theorem beTo_step (n i : Nat) : (beTo n i).set i (BitVec.ofNat 8 (n >>> (8 * (7 - i)))) = beTo n (i + 1) := by
  apply Sha.range_map_set
  · rw [if_pos (by omega)]
  · intro j _ hne
    by_cases h : j < i
    · rw [if_pos h, if_pos (by omega)]
    · rw [if_neg h, if_neg (by omega)]

theorem byte_of (n s : Nat) : (n : Int) / 2 ^ s % 256 = (((BitVec.ofNat 8 (n >>> s)).toNat : Nat) : Int) := by
  rw [BitVec.toNat_ofNat, Nat.shiftRight_eq_div_pow, Int.natCast_emod, Int.natCast_ediv, Int.natCast_pow]
  rfl

theorem bytesOf_any (n : Nat) (w : World) :
    Calls Tryd.prog 26 #[.int .u64 (n : Int)] w fun e w' => ∃ b, e = .returned (.slice (some ⟨b, 0, none⟩) 8 8) ∧ Arr w' b (bytesV (Sha.be8 n)) ∧ Below w.heap.size w w' ∧ w.heap.size ≤ b ∧ w'.heap.size = w.heap.size + 1 := by
  go_enter Tryd.func26, Tryd.ntmps26
  go_wp2_with (refine wpList_make _ _ _ _ 8 8 rfl rfl rfl rfl (by decide) (by decide) ?_)
  intro w1 hA1 hb1 hs1
  have HA1 := hide hA1.arr
  have Hb1 := hide hb1
  clear hA1 hb1
  go_wp2_with fail
  go_loopw [8] (fun i wr => ∃ k : Nat, k ≤ 8 ∧ i = .int .i64 k ∧ Arr wr w.heap.size (bytesV (beTo n k)) ∧ Below w.heap.size w wr ∧ wr.heap.size = w.heap.size + 1) (fun i _ => 8 - (intOf i).toNat)
  case atStart => exact ⟨0, by omega, rfl, unhide HA1, unhide Hb1, hs1⟩
  case round =>
    obtain ⟨k, hk, rfl, hA, hb, hs⟩ := hrel
    clear HA1 Hb1 hs1
    have Hb := hide hb
    have Hs := hide hs
    by_cases hlt : k < 8
    · have hc := hA.cell (bytesV_get (beTo n k) (i := k) (by rw [beTo_length]; omega))
      have hf := hA.free k
      have HA := hide hA
      clear hA hb hs
      generalize (beTo n k).getD k 0 = x at *
      go_wp2
      rw [byte_of]
      refine ⟨⟨k + 1, by omega, by go_num, ?_, (unhide Hb).setCell (Nat.le_refl _) _, by simpa using unhide Hs⟩, by simp [intOf]; omega⟩
      rw [← beTo_step, ← bytesV_set]
      exact (unhide HA).set _ _
    · obtain rfl : k = 8 := by omega
      rw [beTo_all] at hA
      have HA := hide hA
      clear hA hb hs
      go_wp2
      go_ret
      exact ⟨_, rfl, unhide HA, unhide Hb, Nat.le_refl _, unhide Hs⟩

theorem ending_list (n z : Nat) (hz : z = (119 - n % 64) % 64) :
    ((bytesV (List.replicate (1 + z + 8) 0#8)).set 0 (.int .u8 128)).take (1 + z) ++ bytesV (Sha.be8 (n * 8)) ++ ((bytesV (List.replicate (1 + z + 8) 0#8)).set 0 (.int .u8 128)).drop (1 + z + 8) = bytesV (Sha.ending n) ++ [] := by
  have e : (bytesV (List.replicate (1 + z + 8) 0#8)).set 0 (.int .u8 128) = bytesV (128#8 :: List.replicate (z + 8) 0#8) := by
    rw [show (1 + z + 8) = (z + 8) + 1 by omega, List.replicate_succ]
    rfl
  have e2 : (128#8 :: List.replicate (z + 8) 0#8).take (1 + z) = 128#8 :: List.replicate z 0#8 := by
    rw [show 1 + z = z + 1 by omega, List.take_succ_cons, List.take_replicate, show min z (z + 8) = z by omega]
  rw [e, List.drop_of_length_le (by rw [bytesV_length]; simp; omega)]
  unfold bytesV
  rw [← List.map_take, e2, ← List.map_append, List.append_nil, List.append_nil, Sha.ending, ← hz]
  rfl

theorem ending_any (n : Nat) (hn : n < 1152921504606846976) (w : World) :
    Calls Tryd.prog 22 #[.int .u64 (n : Int)] w fun e w' => ∃ b len cap, e = .returned (.slice (some ⟨b, 0, none⟩) len cap) ∧ len ≤ cap ∧ Row w' (some ⟨b, 0, none⟩) len (Sha.ending n) ∧ w.heap.size ≤ b ∧ Below w.heap.size w w' := by
  obtain ⟨z, hz⟩ : ∃ z : Nat, z = (119 - n % 64) % 64 := ⟨_, rfl⟩
  have Hz := hide hz
  have hz1 : (119 - (n : Int) % 64) % 64 = (z : Int) := by omega
  have hz2 : z < 64 := by omega
  clear hz
  go_enter Tryd.func22, Tryd.ntmps22
  go_wp2_with (first | refine wpList_make _ _ _ _ (1 + z) (1 + z + 8) rfl rfl rfl rfl (by omega) (by omega) ?_)
  intro w1 hA1 hb1 hs1
  have HA1 := hide hA1
  have Hb1 := hide hb1
  clear hb1
  have hc := hA1.arr.cell (bytesV_get (List.replicate (1 + z + 8) 0#8) (i := 0) (by simp))
  have hf := hA1.arr.free 0
  clear hA1
  go_wp2_with fail
  have hA2 := (unhide HA1).set 0 (.int .u8 128)
  have Hb2 := hide ((unhide Hb1).setCell (p := ⟨w.heap.size, 0, none⟩) (Nat.le_refl _) (.int .u8 128))
  have hs2 : (w1.setCell ⟨w.heap.size, 0, none⟩ (.int .u8 128)).heap.size = w.heap.size + 1 := by simpa using hs1
  have HA2 := hide hA2
  clear hA2 hc hf HA1 Hb1 hs1
  generalize w1.setCell ⟨w.heap.size, 0, none⟩ (.int .u8 128) = w2 at *
  refine (bytesOf_any (n * 8) _).mono ?_
  rintro e w3 ⟨b, rfl, hA3, hb3, hlb, hs3⟩
  have HA4 := hide ((unhide HA2).below hb3 (by omega))
  have HA3 := hide hA3
  have Hb3 := hide ((unhide Hb2).trans (hb3.mono (by omega)))
  clear hA3 hb3 HA2 Hb2
  go_wp2_with (refine wpList_appendRoom _ _ rfl rfl w.heap.size (1 + z) (1 + z + 8) _ ⟨b, 0, none⟩ 8 8 (bytesV (Sha.be8 (n * 8))) rfl rfl (unhide HA4) (by rw [bytesV_length]; rfl) (fun j u hj => by rw [Addr.add_mid, Nat.zero_add]; exact (unhide HA3).cell hj) (bytesV_one _) (by omega) (by rw [List.length_set, bytesV_length]; simp) ?_)
  intro w4 hA5 hg5 hs5
  have hR : Arr w4 w.heap.size (bytesV (Sha.ending n) ++ []) := by
    rw [← ending_list n z (unhide Hz), List.append_assoc]
    exact hA5.arr
  have hR2 := hR.row (by rw [Sha.ending_length]; omega)
  rw [Sha.ending_length, ← unhide Hz] at hR2
  have HR := hide hR2
  have Hb5 := hide ((unhide Hb3).grown hg5 (unhide Hb3).size (fun k hk => by simp at hk; omega))
  clear hA5 hg5 hs5 hR hR2 HA3 HA4 Hb3
  go_wp2
  go_ret
  refine ⟨_, _, _, rfl, by omega, ?_, Nat.le_refl _, unhide Hb5⟩
  rw [show 1 + z + 8 = 9 + z by omega]
  exact unhide HR

def zerosB : List (BitVec 8) := List.replicate 32 0#8
theorem alloc25 (w : World) : (Instr.alloc 25 true (.tuple #[])).run Tryd.prog w = .ok (.pointer (some ⟨w.heap.size, 0, none⟩)) (w.alloc (.cells (bytesV zerosB).toArray 25)) := by kernel_rfl

/-- The first i of the 32 bytes, and noughts. -/
def outTo (st : List (BitVec 32)) (i : Nat) : List (BitVec 8) := (List.range 32).map fun j => if j < i then (st.getD (j / 4) 0 >>> (8 * (3 - j % 4))).setWidth 8 else 0#8
theorem outTo_all (st : List (BitVec 32)) : outTo st 32 = Sha.out st := by
  unfold outTo Sha.out
  apply List.map_congr_left
  intro j hj
  rw [if_pos (by simpa using hj)]
theorem outTo_length (st : List (BitVec 32)) (i : Nat) : (outTo st i).length = 32 := by simp [outTo]
theorem outTo_step (st : List (BitVec 32)) (i : Nat) : (outTo st i).set i ((st.getD (i / 4) 0 >>> (8 * (3 - i % 4))).setWidth 8) = outTo st (i + 1) := by
  apply Sha.range_map_set
  · rw [if_pos (by omega)]
  · intro j _ hne
    by_cases h : j < i
    · rw [if_pos h, if_pos (by omega)]
    · rw [if_neg h, if_neg (by omega)]
theorem byte32 (x : BitVec 32) (s : Nat) : N32 x / 2 ^ s % 256 = ((((x >>> s).setWidth 8).toNat : Nat) : Int) := by
  rw [shr_N32]
  unfold N32
  rw [BitVec.toNat_setWidth]
  omega

set_option maxRecDepth 100000 in
theorem hashOf_any (st : List (BitVec 32)) (hst : st.length = 8) (w : World) :
    Calls Tryd.prog 23 #[.agg (wordsV st).toArray] w fun e w' => e = .returned (.agg (bytesV (Sha.out st)).toArray) ∧ Below w.heap.size w w' := by
  have Hst := hide hst
  clear hst
  obtain ⟨ss, hss⟩ : ∃ ss, ss = wordsV st := ⟨_, rfl⟩
  rw [← hss]
  have Hss := hide hss
  clear hss
  go_enter Tryd.func23, Tryd.ntmps23
  go_wp2_with (refine wpList_box 50 _ ss rfl rfl rfl ?_)
  intro w1 hA1 hb1 hs1
  have HA1 := hide hA1
  have Hb1 := hide hb1
  clear hA1 hb1
  go_wp2_with (refine wpList_alloc 25 25 (bytesV zerosB) rfl rfl alloc25 ?_)
  intro w2 hA2 hb2 hs2
  have HB2 := hide ((unhide HA1).keep hb2 (by omega))
  have Hb2 := hide ((unhide Hb1).trans (hb2.mono (by omega)))
  have HA2 := hide hA2
  clear hA2 hb2 HA1 Hb1
  go_wp2_with (refine wpList_alloc 25 25 (bytesV zerosB) rfl rfl alloc25 ?_)
  intro w3 hA3 hb3 hs3
  have hB3 := (unhide HB2).keep hb3 (by omega)
  rw [unhide Hss] at hB3
  have HB3 := hide hB3
  have HC3 := hide ((unhide HA2).keep hb3 (by omega))
  have Hb3 := hide ((unhide Hb2).trans (hb3.mono (by omega)))
  have HA3 := hide hA3
  clear hA3 hb3 hB3 HB2 HA2 Hb2 hs1 hs2 hs3
  go_wp2_with fail
  go_loopw [5] (fun i wr => ∃ k : Nat, k ≤ 32 ∧ i = .int .i64 k ∧ Arr wr (w.heap.size + 1 + 1) (bytesV (outTo st k)) ∧ Arr wr (w.heap.size + 1) (bytesV zerosB) ∧ Arr wr w.heap.size (wordsV st) ∧ Below w.heap.size w wr) (fun i _ => 32 - (intOf i).toNat)
  case atStart => exact ⟨0, by omega, rfl, unhide HA3, unhide HC3, unhide HB3, unhide Hb3⟩
  case round =>
    obtain ⟨k, hk, rfl, hA, hZ, hS, hb⟩ := hrel
    clear HA3 HC3 HB3 Hb3
    have HZ := hide hZ
    have Hb := hide hb
    have HS := hide hS
    clear hZ hb
    by_cases hlt : k < 32
    · have hc := hA.cell (bytesV_get (outTo st k) (i := k) (by rw [outTo_length]; omega))
      have hf := hA.free k
      have hq4 : k / 4 < 8 := by omega
      have hcs := hS.cell (wordsV_get st (i := k / 4) (by have := unhide Hst; omega))
      have Hst1 := hide (outTo_step st k)
      have hq : (k : Int) / 4 = ((k / 4 : Nat) : Int) := by omega
      have HA := hide hA
      clear hA hS
      generalize (outTo st k).getD k 0 = c at *
      generalize st.getD (k / 4) 0 = x at *
      generalize k / 4 = q at *
      go_wp2
      rw [byte32]
      refine ⟨⟨k + 1, by omega, by go_num, ?_, (unhide HZ).other _ _ (by simp), (unhide HS).other _ _ (by simp; omega), (unhide Hb).setCell (by simp; omega) _⟩, by simp [intOf]; omega⟩
      rw [← unhide Hst1, ← bytesV_set]
      exact (unhide HA).set _ _
    · obtain rfl : k = 32 := by omega
      rw [outTo_all] at hA
      have HA := hide hA
      clear hA hS
      have Hlen : Hid ((bytesV (Sha.out st)).length = 32) := by show _ = _; rw [bytesV_length, Sha.out_length]
      have Hone := hide (bytesV_one (Sha.out st))
      generalize hrs : bytesV (Sha.out st) = rs at HA Hlen Hone
      have Hrs := hide hrs
      clear hrs
      go_wp2_with (first
        | refine wpList_loadAll 25 _ (w.heap.size + 1 + 1) rs _ rfl rfl rfl (unhide HA) Tryd.underlying25 rfl (by rw [unhide Hlen]; exact info25) ?_
        | refine wpList_storeAll 25 _ _ (w.heap.size + 1) rs (bytesV zerosB) rfl rfl rfl rfl (unhide HZ) (by rw [unhide Hlen]; rfl) (by rw [unhide Hlen]; exact info25) (unhide Hone) ?_)
      intro w5 hA5 hg5 _
      have Hb5 := hide ((unhide Hb).grown hg5 (unhide Hb).size (fun k hk => by simp at hk; omega))
      have HA5 := hide hA5
      clear hA5 hg5 HA HZ Hb
      go_wp2
      have hi : (Tryd.prog.info? 25).map (·.size) = some rs.length := by rw [unhide Hlen]; exact info25
      refine bodyPost_ret (v := .agg rs.toArray) ?_ rfl ⟨by rw [unhide Hrs], unhide Hb5⟩
      exact results_arr Tryd.results23 rfl (unhide HA5) Tryd.underlying25 rfl hi

end Go.Proofs.YtnfgakbfnmmhcaaDoor
