/-
  What mac.turned and mac.fill answer.
-/
import Derived.Test.YtnfgakbfnmmhcaaDoorEq
import Derived.Test.YtnfgakbfnmmhcaaDoorWMath
import Derived.Test.YtnfgakbfnmmhcaaDoorMacMath
namespace Go.Proofs.YtnfgakbfnmmhcaaDoor
open Go.RowKit

theorem xor8 (a b : BitVec 8) : bits .xor .u8 ((a.toNat : Nat) : Int) ((b.toNat : Nat) : Int) = (((a ^^^ b).toNat : Nat) : Int) := by
  show IntKind.u8.wrap ((BitVec.ofInt 8 ((a.toNat : Nat) : Int) ^^^ BitVec.ofInt 8 ((b.toNat : Nat) : Int)).toNat : Int) = _
  have h : ∀ c : BitVec 8, BitVec.ofInt 8 ((c.toNat : Nat) : Int) = c := fun c => by simp
  rw [h, h]
  have := (a ^^^ b).isLt
  rw [IntKind.wrap_u8']
  omega

def zeros64 : List (BitVec 8) := List.replicate 64 0#8
theorem alloc35 (w : World) : (Instr.alloc 35 true (.tuple #[])).run Tryd.prog w = .ok (.pointer (some ⟨w.heap.size, 0, none⟩)) (w.alloc (.cells (bytesV zeros64).toArray 35)) := by kernel_rfl

theorem ArrT.grown {w w' : World} {b : Nat} {e : TypeId} {cs : List Value} {row : Option Nat} (h : ArrT w b e cs) (hg : w.grownBy w' row) (hne : some b ≠ row) : ArrT w' b e cs := by
  have hlt : b < w.heap.size := (Array.getElem?_eq_some_iff.1 h).1
  unfold ArrT
  rw [hg.block b hlt hne]
  exact h

set_option maxRecDepth 100000 in
set_option maxHeartbeats 400000 in
theorem turned_any (blk : List (BitVec 8)) (x : BitVec 8) (y : Int) (hy : y = ((x.toNat : Nat) : Int)) (cs : List Value) (hcs : cs = bytesV blk) (hl : blk.length = 64) (w : World) :
    Calls Tryd.prog 16 #[.agg cs.toArray, .int .u8 y] w fun e w' => ∃ b, e = .returned (.slice (some ⟨b, 0, none⟩) 64 64) ∧ Row w' (some ⟨b, 0, none⟩) 64 (Mac.turned blk x) ∧ w.heap.size ≤ b ∧ b < w'.heap.size ∧ Below w.heap.size w w' := by
  have Hcs := hide hcs
  have Hlc : Hid (cs.length = 64) := by show _ = _; rw [hcs, bytesV_length, hl]
  have Hl := hide hl
  have Hy := hide hy
  clear hcs hl hy
  go_enter Tryd.func16, Tryd.ntmps16
  go_wp2_with (refine wpList_box 35 _ cs rfl rfl rfl ?_)
  intro w1 hA1 hb1 hs1
  have HA1 := hide hA1
  have Hb1 := hide hb1
  clear hA1 hb1
  go_wp2_with (refine wpList_make _ _ .i64 .i64 64 64 rfl rfl rfl rfl (by decide) (by decide) ?_)
  intro w2 hA2' hb2 hs2
  have hA2 : ArrT w2 (w.heap.size + 1) 5 (bytesV (List.replicate 64 0#8)) := hA2'
  clear hA2'
  have HB2 := hide ((unhide HA1).keep hb2 (by omega))
  have HA2 := hide hA2
  have Hb2 := hide ((unhide Hb1).trans (hb2.mono (by omega)))
  clear hA2 hb2 HA1 Hb1
  go_wp2_with (refine wpList_loadAll 35 _ w.heap.size cs _ rfl rfl rfl (unhide HB2) Tryd.underlying35 rfl (by rw [unhide Hlc]; exact info35) ?_)
  go_loopw [10] (fun i wr => ∃ k : Nat, k ≤ 64 ∧ i = .int .i64 k ∧ ArrT wr (w.heap.size + 1) 5 (bytesV (Mac.turnedTo blk x k)) ∧ Below w.heap.size w wr ∧ wr.heap.size = w.heap.size + 2) (fun i _ => 64 - (intOf i).toNat)
  case atStart => exact ⟨0, by omega, rfl, by rw [Mac.turnedTo_zero, unhide Hl]; exact unhide HA2, unhide Hb2, by omega⟩
  case round =>
    obtain ⟨k, hk, rfl, hA, hb, hs⟩ := hrel
    clear HA2 Hb2 HB2
    have HA := hide hA
    have Hb := hide hb
    by_cases hlt : k < 64
    · have hcell := hA.arr.cell (bytesV_get (Mac.turnedTo blk x k) (i := k) (by rw [Mac.turnedTo_length _ _ _ (by rw [unhide Hl]; omega), unhide Hl]; exact hlt))
      have hfree := hA.arr.free k
      have hi := run_index Tryd.underlying35 ag5 sz5 cs k _ (unhide Hlc) (by rw [unhide Hcs]; exact bytesV_get blk (by rw [unhide Hl]; exact hlt))
      have hx := xor8 (blk.getD k 0) x
      rw [← unhide Hy] at hx
      have Hstep := hide (Mac.turnedTo_step blk x k (by rw [unhide Hl]; exact hlt))
      have hset := hA.set k (.int .u8 (((blk.getD k 0 ^^^ x).toNat : Nat) : Int))
      have Hset := hide hset
      clear hA hb hset
      generalize blk.getD k 0 = c at *
      go_wp2
      go_roundw
      case rel =>
        refine ⟨k + 1, by omega, by go_num, ?_, ?_, ?_⟩
        · rw [← unhide Hstep, ← bytesV_set, ← BitVec.toNat_xor]; exact unhide Hset
        · exact (unhide Hb).setCell (by simp) _
        · simpa using hs
      case measure => simp [intOf]; omega
    · obtain rfl : k = 64 := by omega
      have hrow := Arr.row (rest := []) (by rw [List.append_nil]; exact hA.arr) (by rw [Mac.turnedTo_length _ _ _ (by rw [unhide Hl]; exact hk), unhide Hl]; decide)
      have e : Mac.turnedTo blk x 64 = Mac.turned blk x := by rw [← unhide Hl, Mac.turnedTo_all]
      rw [e, Mac.turned_length, unhide Hl] at hrow
      have Hrow := hide hrow
      clear hA hb hrow e HA
      go_wp2
      go_ret
      exact ⟨_, rfl, unhide Hrow, by omega, by omega, unhide Hb⟩

theorem fill_list (bs : List (BitVec 8)) : bytesV bs ++ (bytesV zeros64).drop bs.length = bytesV (bs ++ List.replicate (64 - bs.length) 0#8) := by
  unfold bytesV zeros64
  rw [List.map_append, ← List.map_drop, List.drop_replicate]

section
variable {ops : Array Oper} {rest : List Oper} {a : Act} {w : World} {Q : Exit → Act → World → Prop}

/-- 'copy' of all bytes of a slice, or none, into a block of its own. -/
theorem wpList_copyRow {o : Oper} (d s : Operand) (ho : o.op = .call { callee := .builtin .copy, args := #[d, s], argTypes := #[22, 22] }) (hgd : o.guard = none)
    (g off dLen dCap : Nat) (aS : Option Addr) (m c : Nat) (bs : List (BitVec 8)) (cur : List Value) (hd : a.eval d = .slice (some ⟨g, off, none⟩) dLen dCap) (hs : a.eval s = .slice aS m c)
    (hA : Arr w g cur) (hr : Row w aS m bs) (hmd : m ≤ dLen) (hfit : off + m ≤ cur.length)
    (h : ∀ w', Arr w' g (cur.take off ++ bytesV bs ++ cur.drop (off + bs.length)) → w.grownBy w' (some g) → w'.heap.size = w.heap.size → wpList Tryd.prog ops Q rest (a.put o.dst (.int .i64 (m : Int))) w') :
    wpList Tryd.prog ops Q (o :: rest) a w := by
  by_cases h0 : m = 0
  · subst h0
    obtain rfl : bs = [] := List.eq_nil_of_length_eq_zero hr.1
    have hr := run_copy_none (P := Tryd.prog) w 22 22 o.type 5 (some ⟨g, off, none⟩) aS dLen dCap 0 c Tryd.underlying22 (by kernel_rfl) (Nat.zero_min _)
    refine wpList_plain hgd fun K hK => ?_
    have r : (execOp a.eval o).run Tryd.prog w = .ok (.value (.int .i64 ((0 : Nat) : Int))) w := by
      unfold execOp
      simp only [ho, resolve, invoke, builtin, Sem.run_bind, Sem.run_pure, Result.andThen_ok, List.map_toArray, List.map_cons, List.map_nil, hd, hs, hr]
      rfl
    unfold Oper.wp
    rw [r, Oper.upon_value]
    refine hK _ _ (h _ ?_ (World.grownBy.refl _ _) rfl)
    simp [bytesV, List.take_append_drop]
    exact hA
  · obtain ⟨b, off', ha, _⟩ := hr.2.2 0 (by omega)
    refine wpList_copyInto d s ho hgd g off dLen dCap ⟨b, off', none⟩ m c m cur (bytesV bs) hd (by rw [hs, ha]) hA (Nat.min_eq_left hmd).symm (by rw [bytesV_length, hr.1]) ?_ (by rw [bytesV_length, hr.1]; exact hfit) (bytesV_one _) ?_
    · intro j u hj
      have hjm : j < m := by have := (List.getElem?_eq_some_iff.1 hj).1; rw [bytesV_length, hr.1] at this; exact this
      rw [bytesV_get bs (by rw [hr.1]; exact hjm)] at hj
      obtain ⟨b2, off2, ha2, hc⟩ := hr.2.2 j hjm
      rw [ha] at ha2
      cases ha2
      rw [Addr.add_mid, hc, ← hj]
    · intro w' hA' hg' hs'
      rw [bytesV_length] at hA'
      exact h w' hA' hg' hs'
end

theorem sum_new (W : World) (b : Nat) (hb : b = W.heap.size) (ss : List Sl) (m : List (BitVec 8)) (C : Array Value) (n : Nat) (hm : (ss.map (·.bs)).flatten = m) (hn : ss.length = n) (hC : C = (ss.map fun s => Value.slice s.a s.len s.cap).toArray) (hT : Tabs W) (h : ∀ s ∈ ss, s.Ok W)
    (hl : m.length < 1152921504606840000) (hn2 : n ≤ 1000) :
    Calls Tryd.prog 10 #[.slice (some ⟨b, 0, none⟩) n n] (W.alloc (.cells C 22)) fun e w' => e = .returned (.agg (bytesV (Sha.sum m)).toArray) ∧ Below W.heap.size W w' := by
  subst hb
  exact sum_fresh W ss m C n hm hn hC hT h hl hn2

set_option maxRecDepth 100000 in
set_option maxHeartbeats 400000 in
theorem fill_any (a : Option Addr) (len cap : Nat) (key : List (BitVec 8)) (w : World) (hT : Tabs w) (hr : Row w a len key) (hlc : len ≤ cap) (hm : len < 1152921504606840000) :
    Calls Tryd.prog 13 #[.slice a len cap] w fun e w' => e = .returned (.agg (bytesV (Mac.block key)).toArray) ∧ Below w.heap.size w w' := by
  have HT := hide hT
  have Hr := hide hr
  have Hl := hide hr.1
  have hsz := hT.size
  clear hT hr
  have hz64 : Hid ((bytesV zeros64).length = 64) := by show _ = _; rfl
  have hbl : Hid ((bytesV (Mac.block key)).length = 64) := by show _ = _; rw [bytesV_length, Mac.block_length]
  go_enter Tryd.func13, Tryd.ntmps13
  go_wp2_with (refine wpList_alloc 35 35 (bytesV zeros64) rfl rfl alloc35 ?_)
  intro w1 hA1 hb1 hs1
  have HA1 := hide hA1
  have Hb1 := hide hb1
  clear hA1 hb1
  go_wp2_with (refine wpList_alloc 35 35 (bytesV zeros64) rfl rfl alloc35 ?_)
  intro w2 hA2 hb2 hs2
  have HR2 := hide ((unhide HA1).keep hb2 (by omega))
  have HB2 := hide hA2
  have Hb2 := hide ((unhide Hb1).trans (hb2.mono (by omega)))
  clear hA2 hb2 HA1 Hb1
  have Hr2 := hide ((unhide Hr).below (unhide Hb2))
  by_cases hlt : 64 < len
  · have Hk : Hid (Mac.key key = Sha.sum key) := by show _ = _; unfold Mac.key; rw [if_pos (by rw [unhide Hl]; exact hlt)]
    go_wp2_with fail
    refine (sum_new w2 _ hs2.symm [⟨a, len, cap, key⟩] key _ 1 (by simp) rfl rfl ((unhide HT).below (unhide Hb2) hsz) (fun s hs => by obtain rfl := List.mem_singleton.1 hs; exact ⟨unhide Hr2, hlc⟩) (by rw [unhide Hl]; exact hm) (by decide)).mono ?_
    rintro e w3 ⟨rfl, hb3⟩
    have HR3 := hide ((unhide HR2).below hb3)
    have HB3 := hide ((unhide HB2).below hb3)
    have hs3 : w.heap.size + 1 + 1 ≤ w3.heap.size := by rw [← hs2]; exact hb3.size
    have Hb3 := hide ((unhide Hb2).trans (hb3.mono (unhide Hb2).size))
    have Hsl : Hid ((bytesV (Sha.sum key)).length = 32) := by show _ = _; rw [bytesV_length, Sha.sum_length]
    have Hso := hide (bytesV_one (Sha.sum key))
    have Hss := hide (Sha.sum_length key)
    generalize Sha.sum key = ks at *
    clear hb3 HR2 HB2 Hb2 Hr2 hs1 hs2
    go_wp2_with (refine wpList_alloc 25 25 (bytesV zerosB) rfl rfl alloc25 ?_)
    intro w4 hA4 hb4 hs4
    have HR4 := hide ((unhide HR3).below hb4)
    have HB4 := hide ((unhide HB3).below hb4)
    have Hb4 := hide ((unhide Hb3).trans (hb4.mono (unhide Hb3).size))
    have HA4 := hide hA4
    clear hA4 hb4 HR3 HB3 Hb3
    go_wp2_with (refine wpList_storeAll 25 _ _ w3.heap.size (bytesV ks) (bytesV zerosB) rfl rfl rfl rfl (unhide HA4) (by rw [unhide Hsl]; rfl) (by rw [unhide Hsl]; exact info25) (unhide Hso) ?_)
    intro w5 hA5 hg5 hs5
    have HR5 := hide ((unhide HR4).grown hg5 (by simp; omega))
    have HB5 := hide ((unhide HB4).grown hg5 (by simp; omega))
    have Hb5 := hide ((unhide Hb4).grown hg5 (unhide Hb4).size (fun k hk => by simp at hk; omega))
    have Hrow5 : Hid (Row w5 (some ⟨w3.heap.size, 0, none⟩) 32 ks) := by
      have := Arr.row (rest := []) (by rw [List.append_nil]; exact hA5) (by rw [unhide Hss]; decide)
      rw [unhide Hss] at this
      exact this
    clear hA5 hg5 HR4 HB4 Hb4 HA4
    go_wp2_with (refine wpList_copyRow _ _ rfl rfl (w.heap.size + 1) 0 64 64 (some ⟨w3.heap.size, 0, none⟩) 32 32 ks (bytesV zeros64) rfl rfl (unhide HB5) (unhide Hrow5) (by decide) (by rw [unhide hz64]; decide) ?_)
    intro w6 hA6' hg6 hs6
    have hA6 : Arr w6 (w.heap.size + 1) (bytesV (Mac.block key)) := by
      have e : bytesV (Mac.block key) = bytesV ks ++ (bytesV zeros64).drop ks.length := by
        unfold Mac.block
        rw [unhide Hk, fill_list]
      rw [e]; exact hA6'
    have HR6 := hide ((unhide HR5).grown hg6 (by simp))
    have Hb6 := hide ((unhide Hb5).grown hg6 (unhide Hb5).size (fun k hk => by simp at hk; omega))
    have HA6 := hide hA6
    clear hA6' hA6 hg6 hs6 hs5 hs4 HR5 HB5 Hb5 Hrow5 hs3
    have Hone := hide (bytesV_one (Mac.block key))
    obtain ⟨rs, hrs⟩ : ∃ rs, rs = bytesV (Mac.block key) := ⟨_, rfl⟩
    rw [← hrs] at HA6 Hone hbl
    have Hrs := hide hrs
    clear hrs
    go_wp2_with (first
      | refine wpList_loadAll 35 _ (w.heap.size + 1) rs _ rfl rfl rfl (unhide HA6) Tryd.underlying35 rfl (by rw [unhide hbl]; exact info35) ?_
      | refine wpList_storeAll 35 _ _ w.heap.size rs (bytesV zeros64) rfl rfl rfl rfl (unhide HR6) (by rw [unhide hbl]; rfl) (by rw [unhide hbl]; exact info35) (unhide Hone) ?_)
    intro w7 hA7 hg7 hs7
    have Hb7 := hide ((unhide Hb6).grown hg7 (unhide Hb6).size (fun k hk => by simp at hk; omega))
    have HA7 := hide hA7
    clear hA7 hg7 hs7 HR6 Hb6 HA6
    go_wp2
    have hi : (Tryd.prog.info? 35).map (·.size) = some rs.length := by rw [unhide hbl]; exact info35
    refine bodyPost_ret (v := .agg rs.toArray) ?_ rfl ⟨by rw [unhide Hrs], unhide Hb7⟩
    exact results_arr Tryd.results13 rfl (unhide HA7) Tryd.underlying35 rfl hi
  · have Hk : Hid (Mac.key key = key) := by show _ = _; unfold Mac.key; rw [if_neg (by rw [unhide Hl]; exact hlt)]
    go_wp2_with (refine wpList_copyRow _ _ rfl rfl (w.heap.size + 1) 0 64 64 a len cap key (bytesV zeros64) rfl rfl (unhide HB2) (unhide Hr2) (by omega) (by rw [unhide hz64]; omega) ?_)
    intro w6 hA6' hg6 hs6
    have hA6 : Arr w6 (w.heap.size + 1) (bytesV (Mac.block key)) := by
      have e : bytesV (Mac.block key) = bytesV key ++ (bytesV zeros64).drop key.length := by
        unfold Mac.block
        rw [unhide Hk, fill_list]
      rw [e]; exact hA6'
    have HR6 := hide ((unhide HR2).grown hg6 (by simp))
    have Hb6 := hide ((unhide Hb2).grown hg6 (unhide Hb2).size (fun k hk => by simp at hk; omega))
    have HA6 := hide hA6
    clear hA6' hA6 hg6 hs6 HR2 HB2 Hb2 Hr2 hs1 hs2
    have Hone := hide (bytesV_one (Mac.block key))
    obtain ⟨rs, hrs⟩ : ∃ rs, rs = bytesV (Mac.block key) := ⟨_, rfl⟩
    rw [← hrs] at HA6 Hone hbl
    have Hrs := hide hrs
    clear hrs
    go_wp2_with (first
      | refine wpList_loadAll 35 _ (w.heap.size + 1) rs _ rfl rfl rfl (unhide HA6) Tryd.underlying35 rfl (by rw [unhide hbl]; exact info35) ?_
      | refine wpList_storeAll 35 _ _ w.heap.size rs (bytesV zeros64) rfl rfl rfl rfl (unhide HR6) (by rw [unhide hbl]; rfl) (by rw [unhide hbl]; exact info35) (unhide Hone) ?_)
    intro w7 hA7 hg7 hs7
    have Hb7 := hide ((unhide Hb6).grown hg7 (unhide Hb6).size (fun k hk => by simp at hk; omega))
    have HA7 := hide hA7
    clear hA7 hg7 hs7 HR6 Hb6 HA6
    go_wp2
    have hi : (Tryd.prog.info? 35).map (·.size) = some rs.length := by rw [unhide hbl]; exact info35
    refine bodyPost_ret (v := .agg rs.toArray) ?_ rfl ⟨by rw [unhide Hrs], unhide Hb7⟩
    exact results_arr Tryd.results13 rfl (unhide HA7) Tryd.underlying35 rfl hi

end Go.Proofs.YtnfgakbfnmmhcaaDoor
