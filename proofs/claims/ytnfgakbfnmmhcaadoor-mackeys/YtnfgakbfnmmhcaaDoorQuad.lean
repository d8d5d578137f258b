/-
  Words of 32 bits in numbers of 64, as the document's own Sum has them.
-/
import Derived.Test.YtnfgakbfnmmhcaaDoorEq
import Derived.Deep.AppendLies
import Derived.OwnWalk
namespace Go.Proofs.YtnfgakbfnmmhcaaDoor
open Go.RowKit

theorem ofInt64_N32 (x : BitVec 32) : BitVec.ofInt 64 (N32 x) = x.setWidth 64 := by
  apply BitVec.eq_of_toNat_eq
  unfold N32
  rw [BitVec.toNat_setWidth]
  simp

theorem wrap64u (z : Int) : IntKind.u64.wrap z = z % 18446744073709551616 := by
  simp [IntKind.wrap, IntKind.signed, IntKind.bits]

theorem nat64 (x : BitVec 64) (y : BitVec 32) (h : x = y.setWidth 64) : IntKind.u64.wrap ((x.toNat : Nat) : Int) = N32 y := by
  subst h
  unfold N32
  rw [wrap64u, BitVec.toNat_setWidth]
  have := y.isLt
  omega

theorem xor64 (a b : BitVec 32) : bits .xor .u64 (N32 a) (N32 b) = N32 (a ^^^ b) := by
  show IntKind.u64.wrap ((BitVec.ofInt 64 (N32 a) ^^^ BitVec.ofInt 64 (N32 b)).toNat : Int) = _
  rw [ofInt64_N32, ofInt64_N32]
  exact nat64 _ _ (by rw [BitVec.setWidth_xor])
theorem and64 (a b : BitVec 32) : bits .and .u64 (N32 a) (N32 b) = N32 (a &&& b) := by
  show IntKind.u64.wrap ((BitVec.ofInt 64 (N32 a) &&& BitVec.ofInt 64 (N32 b)).toNat : Int) = _
  rw [ofInt64_N32, ofInt64_N32]
  exact nat64 _ _ (by rw [BitVec.setWidth_and])
theorem not64 (a : BitVec 32) : 4294967295 - N32 a = N32 (~~~ a) := by
  unfold N32
  rw [BitVec.toNat_not]
  have := a.isLt
  omega

theorem rot64 (a : BitVec 32) (n : Nat) (h1 : 1 ≤ n) (h2 : n ≤ 31) : (bits .or .u64 (N32 a / 2 ^ n) (IntKind.u64.wrap (N32 a * 2 ^ (32 - n)))).tmod 4294967296 = N32 (Sha.rotr a n) := by
  have e1 : N32 a / 2 ^ n = (((a.setWidth 64 >>> n).toNat : Nat) : Int) := by
    unfold N32
    rw [BitVec.toNat_ushiftRight, Nat.shiftRight_eq_div_pow, Int.natCast_ediv, Int.natCast_pow, BitVec.toNat_setWidth, Nat.mod_eq_of_lt (by have := a.isLt; omega)]
    rfl
  have e2 : N32 a * 2 ^ (32 - n) % 18446744073709551616 = (((a.setWidth 64 <<< (32 - n)).toNat : Nat) : Int) := by
    unfold N32
    rw [BitVec.toNat_shiftLeft, Nat.shiftLeft_eq, Int.natCast_emod, Int.natCast_mul, Int.natCast_pow, BitVec.toNat_setWidth, Nat.mod_eq_of_lt (by have := a.isLt; omega)]
    rfl
  have e3 : ∀ x y : BitVec 64, bits .or .u64 ((x.toNat : Nat) : Int) ((y.toNat : Nat) : Int) = (((x ||| y).toNat : Nat) : Int) := fun x y => by
    show IntKind.u64.wrap ((BitVec.ofInt 64 ((x.toNat : Nat) : Int) ||| BitVec.ofInt 64 ((y.toNat : Nat) : Int)).toNat : Int) = _
    have h : ∀ z : BitVec 64, BitVec.ofInt 64 ((z.toNat : Nat) : Int) = z := fun z => by simp
    rw [h, h, wrap64u]
    have := (x ||| y).isLt
    omega
  rw [wrap64u, e1, e2, e3, Int.tmod_eq_emod_of_nonneg (by omega)]
  have e4 : Sha.rotr a n = (a.setWidth 64 >>> n ||| a.setWidth 64 <<< (32 - n)).setWidth 32 := by
    unfold Sha.rotr
    apply BitVec.eq_of_getLsbD_eq
    intro i hi
    simp only [BitVec.getLsbD_or, BitVec.getLsbD_shiftLeft, BitVec.getLsbD_ushiftRight, BitVec.getLsbD_setWidth, hi, decide_true, Bool.true_and]
    rw [Bool.or_comm]
    congr 1
    · have : n + i < 64 := by omega
      simp [this]
    · have h64 : i < 64 := by omega
      have h64' : i - (32 - n) < 64 := by omega
      simp [h64, h64']
  rw [e4]
  unfold N32
  rw [BitVec.toNat_setWidth]
  omega

theorem right_k (a : BitVec 32) (k : Int) (h1 : 1 ≤ k) (h2 : k ≤ 31) (w : World) :
    Calls Tryd.prog 20 #[.int .u64 (N32 a), .int .u64 k] w fun e w' => e = .returned (.int .u64 (N32 (Sha.rotr a k.toNat))) ∧ w' = w := by
  obtain ⟨n, rfl⟩ := Int.eq_ofNat_of_zero_le (show 0 ≤ k by omega)
  have hr := rot64 a n (by omega) (by omega)
  have Hr := hide hr
  clear hr
  go_enter Tryd.func20, Tryd.ntmps20
  go_wp2
  go_ret
  exact ⟨by rw [Int.toNat_natCast, ← unhide Hr]; rfl, rfl⟩

def quadsV (l : List (BitVec 32)) : List Value := l.map fun x => .int .u64 (N32 x)
theorem quadsV_length (l : List (BitVec 32)) : (quadsV l).length = l.length := by simp [quadsV]
theorem quadsV_get (l : List (BitVec 32)) {i : Nat} (h : i < l.length) : (quadsV l)[i]? = some (.int .u64 (N32 (l.getD i 0))) := by
  rw [quadsV, List.getElem?_map, List.getD_eq_getElem?_getD, List.getElem?_eq_getElem h]; rfl
theorem quadsV_set (l : List (BitVec 32)) (i : Nat) (x : BitVec 32) : (quadsV l).set i (.int .u64 (N32 x)) = quadsV (l.set i x) := by
  rw [quadsV, quadsV, List.map_set]
theorem quadsV_one (l : List (BitVec 32)) : ∀ v ∈ quadsV l, v.oneCell' = true := by
  intro v hv
  obtain ⟨c, _, rfl⟩ := List.mem_map.1 hv
  rfl

theorem owned_base {w : World} {base e size g n cap : Nat} {xs : List Value} (h : w.ownsRow base e size (.slice (some ⟨g, 0, none⟩) n cap) n xs) : base ≤ g := by
  rcases h.2 with ⟨h, _⟩ | ⟨g', cap', _, h, hg, _⟩
  · simp at h
  · simp at h; omega
theorem owned_cap {w : World} {base e size g n cap : Nat} {xs : List Value} (h : w.ownsRow base e size (.slice (some ⟨g, 0, none⟩) n cap) n xs) : n ≤ cap := by
  rcases h.2 with ⟨h, _⟩ | ⟨g', cap', _, h, _, _, hc, _⟩
  · simp at h
  · simp at h; omega
theorem owned_lt {w : World} {base e size g n cap : Nat} {xs : List Value} (h : w.ownsRow base e size (.slice (some ⟨g, 0, none⟩) n cap) n xs) : g < w.heap.size := by
  rcases h.2 with ⟨h, _⟩ | ⟨g', cap', cur, h, _, hh, _⟩
  · simp at h
  · simp at h
    obtain ⟨rfl, _⟩ := h
    exact (Array.getElem?_eq_some_iff.1 hh).1
theorem owned_row {w : World} {base g n cap : Nat} {bs : List (BitVec 8)} (h : w.ownsRow base 5 1 (.slice (some ⟨g, 0, none⟩) n cap) n (bytesV bs)) (hl : bs.length = n) (hn : n ≤ 140737488351232) : Row w (some ⟨g, 0, none⟩) n bs := by
  rcases h.2 with ⟨h, _⟩ | ⟨g', cap', cur, h, _, hh, _, _, hcs, ht⟩
  · simp at h
  · simp at h
    obtain ⟨rfl, rfl⟩ := h
    refine ⟨hl, hn, fun i hi => ⟨g, 0, rfl, ?_⟩⟩
    rw [Nat.zero_add, cell_of_row w g i cur 5 _ hh, ← Array.getElem?_toList]
    have := bytesV_get bs (i := i) (by omega)
    rw [← ht, List.getElem?_take_of_lt (by omega)] at this
    exact this
theorem owned_keep {w w' : World} {base e size g n cap B : Nat} {xs : List Value} (h : w.ownsRow base e size (.slice (some ⟨g, 0, none⟩) n cap) n xs) (hb : Below B w w') (hg : g < B) : w'.ownsRow base e size (.slice (some ⟨g, 0, none⟩) n cap) n xs := by
  obtain ⟨h1, h2⟩ := h
  refine ⟨h1, ?_⟩
  rcases h2 with h2 | ⟨g', cap', cur, hv, hg', hh, r⟩
  · exact .inl h2
  · refine .inr ⟨g', cap', cur, hv, hg', ?_, r⟩
    simp at hv
    obtain ⟨rfl, rfl⟩ := hv
    rw [hb.block g hg]; exact hh

section
variable {ops : Array Oper} {rest : List Oper} {a : Act} {w : World} {Q : Exit → Act → World → Prop}

/-- 'append(s, x...)' of bytes onto a slice that the call itself made, whatever the room. -/
theorem wpList_grow {o : Oper} (s x : Operand) (ho : o.op = .call { callee := .builtin .append, args := #[s, x], argTypes := #[22, 22] }) (hgd : o.guard = none)
    (base g n cap : Nat) (xs : List Value) (aS : Option Addr) (m c : Nat) (bs : List (BitVec 8)) (hs : a.eval s = .slice (some ⟨g, 0, none⟩) n cap) (hx : a.eval x = .slice aS m c)
    (hown : w.ownsRow base 5 1 (.slice (some ⟨g, 0, none⟩) n cap) n xs) (hr : Row w aS m bs) (hnil : aS = none → c = 0) (hm : n + m ≤ 1000000) (hbase : base ≤ w.heap.size)
    (h : ∀ g' cap' w', w'.ownsRow base 5 1 (.slice (some ⟨g', 0, none⟩) (n + m) cap') (n + m) (xs ++ bytesV bs) → w.grownBy w' (some g) → (g' = g ∨ w.heap.size ≤ g') → wpList Tryd.prog ops Q rest (a.put o.dst (.slice (some ⟨g', 0, none⟩) (n + m) cap')) w') :
    wpList Tryd.prog ops Q (o :: rest) a w := by
  obtain ⟨i, hi, hz, hsz, hby⟩ := info5
  have hcell : ∀ ad, aS = some ad → ∀ j u, (bytesV bs)[j]? = some u → w.cell? (ad.add j) = some u := by
    intro ad had j u hj
    have hjm : j < m := by have := (List.getElem?_eq_some_iff.1 hj).1; rw [bytesV_length, hr.1] at this; exact this
    rw [bytesV_get bs (by rw [hr.1]; exact hjm)] at hj
    obtain ⟨b, off, ha, hc⟩ := hr.2.2 j hjm
    rw [had] at ha
    cases ha
    rw [Addr.add_mid, hc, ← hj]
  by_cases h0 : m = 0
  · subst h0
    obtain rfl : bs = [] := List.eq_nil_of_length_eq_zero hr.1
    refine wpList_append_fits_any w hgd s x 22 ho base 5 i 1 Tryd.underlying22 hi hsz g n cap xs hs hown aS 0 c [] hx rfl (fun e => ⟨rfl, hnil e⟩) (fun ad had j u hj => by simp at hj) (by simp) (by have := owned_cap hown; omega) ?_
    intro w' ho' hg'
    have := h g cap w' ho' hg' (.inl rfl)
    exact this
  · obtain ⟨b, off, ha, _⟩ := hr.2.2 0 (by omega)
    refine wpList_append_lies w hgd s x 22 ho base 5 i (.int .u8 0) 1 1 Tryd.underlying22 hi hz hsz hby rfl (by decide) _ n xs hs hown ⟨b, off, none⟩ m c (bytesV bs) (by rw [hx, ha]) (by rw [bytesV_length, hr.1]; omega) (hcell _ ha) (bytesV_one _) (by omega) (by unfold maxLen; omega) (by omega) hbase w.heap.size rfl ?_
    intro g' cap' w' ho' hg' hor _
    refine h g' cap' w' ho' hg' ?_
    rcases hor with hor | hor
    · simp [Value.ownBlock] at hor
      exact .inl hor.symm
    · exact .inr (by omega)
end

theorem alloc44 (w : World) : (Instr.alloc 44 true (.tuple #[])).run Tryd.prog w = .ok (.pointer (some ⟨w.heap.size, 0, none⟩)) (w.alloc (.cells (quadsV zeros8).toArray 44)) := by kernel_rfl
theorem alloc46 (w : World) : (Instr.alloc 46 true (.tuple #[])).run Tryd.prog w = .ok (.pointer (some ⟨w.heap.size, 0, none⟩)) (w.alloc (.cells (quadsV zeros32).toArray 46)) := by kernel_rfl
theorem info44 : (Tryd.prog.info? 44).map (·.size) = some 8 := by kernel_rfl
theorem info46 : (Tryd.prog.info? 46).map (·.size) = some 64 := by kernel_rfl
def startP : List (Nat × Value) := (List.range 8).map fun j => (j, Value.int .u64 (N32 (Sha.start.getD j 0)))
def rootsP : List (Nat × Value) := (List.range 64).map fun j => (j, Value.int .u64 (N32 (Sha.K.getD j 0)))
theorem built44 : Tryd.prog.built 44 startP = some (quadsV Sha.start).toArray := by kernel_rfl
theorem built46 : Tryd.prog.built 46 rootsP = some (quadsV Sha.K).toArray := by kernel_rfl
theorem built46z : Tryd.prog.built 46 [] = some (quadsV zeros32).toArray := by kernel_rfl

theorem first_any (w : World) : Calls Tryd.prog 18 #[] w fun e w' => e = .returned (.agg (quadsV Sha.start).toArray) ∧ Below w.heap.size w w' := by
  go_enter Tryd.func18, Tryd.ntmps18
  go_wp2_with (refine wpList_alloc 44 44 (quadsV zeros8) rfl rfl alloc44 ?_)
  intro w1 hA1 hb1 hs1
  have HA1 := hide hA1
  have Hb1 := hide hb1
  clear hA1 hb1
  go_wp2_with (first
    | refine wpList_build 44 _ (quadsV Sha.start) startP rfl rfl rfl built44 ?_
    | refine wpList_storeAll 44 _ _ w.heap.size (quadsV Sha.start) (quadsV zeros8) rfl rfl rfl rfl (unhide HA1) rfl info44 (quadsV_one _) ?_)
  intro w2 hA2 hg2 _
  have Hb2 := hide ((unhide Hb1).grown hg2 (unhide Hb1).size (fun k hk => by simp at hk; omega))
  have HA2 := hide hA2
  clear hA2 hg2
  go_wp2
  refine bodyPost_ret (v := .agg (quadsV Sha.start).toArray) ?_ rfl ⟨rfl, unhide Hb2⟩
  exact results_arr Tryd.results18 rfl (unhide HA2) Tryd.underlying44 rfl info44

theorem rounds_any (w : World) : Calls Tryd.prog 19 #[] w fun e w' => e = .returned (.agg (quadsV Sha.K).toArray) ∧ Below w.heap.size w w' := by
  go_enter Tryd.func19, Tryd.ntmps19
  go_wp2_with (refine wpList_alloc 46 46 (quadsV zeros32) rfl rfl alloc46 ?_)
  intro w1 hA1 hb1 hs1
  have HA1 := hide hA1
  have Hb1 := hide hb1
  clear hA1 hb1
  go_wp2_with (first
    | refine wpList_build 46 _ (quadsV Sha.K) rootsP rfl rfl rfl built46 ?_
    | refine wpList_storeAll 46 _ _ w.heap.size (quadsV Sha.K) (quadsV zeros32) rfl rfl rfl rfl (unhide HA1) rfl info46 (quadsV_one _) ?_)
  intro w2 hA2 hg2 _
  have Hb2 := hide ((unhide Hb1).grown hg2 (unhide Hb1).size (fun k hk => by simp at hk; omega))
  have HA2 := hide hA2
  clear hA2 hg2
  go_wp2
  refine bodyPost_ret (v := .agg (quadsV Sha.K).toArray) ?_ rfl ⟨rfl, unhide Hb2⟩
  exact results_arr Tryd.results19 rfl (unhide HA2) Tryd.underlying46 rfl info46

end Go.Proofs.YtnfgakbfnmmhcaaDoor
