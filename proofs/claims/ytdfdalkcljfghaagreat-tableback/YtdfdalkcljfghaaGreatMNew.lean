/-
  A new map of parts; slices of numbers that come in, or are made of a few.
-/
import Derived.Test.YtdfdalkcljfghaaGreatMLoop
import Derived.Test.YtdfdalkcljfghaaGreatNew
namespace Go.Proofs.YtdfdalkcljfghaaGreat
open Go.RowKit

/-- A slice of numbers, below block N. -/
def IRow (N : Nat) (w : World) (a : Option Addr) (len : Nat) (l : List Int) : Prop :=
  l.length = len ∧ ∀ i, i < len → ∃ b off, a = some ⟨b, off, none⟩ ∧ b < N ∧ w.cell? ⟨b, off + i, none⟩ = some (.int .i64 (l.getD i 0))
theorem IRow.below {N : Nat} {w w' : World} {a : Option Addr} {len : Nat} {l : List Int} (h : IRow N w a len l) (hb : Below N w w') : IRow N w' a len l :=
  ⟨h.1, fun i hi => by
    obtain ⟨b, off, ha, hl, hc⟩ := h.2 i hi
    exact ⟨b, off, ha, hl, (hb.cell (p := ⟨b, off + i, none⟩) hl).trans hc⟩⟩
theorem IRow.up {N M : Nat} {w : World} {a : Option Addr} {len : Nat} {l : List Int} (h : IRow N w a len l) (hb : N ≤ M) : IRow M w a len l :=
  ⟨h.1, fun i hi => by
    obtain ⟨b, off, ha, hl, hc⟩ := h.2 i hi
    exact ⟨b, off, ha, by omega, hc⟩⟩
theorem IRow.arr {w : World} {b : Nat} {l : List Int} (h : Arr w b (l.map fun z => .int .i64 z)) : IRow (b + 1) w (some ⟨b, 0, none⟩) l.length l :=
  ⟨rfl, fun i hi => ⟨b, 0, rfl, by omega, by
    rw [Nat.zero_add]
    refine h.cell ?_
    rw [List.getElem?_map, List.getD_eq_getElem?_getD, List.getElem?_eq_getElem hi]; rfl⟩⟩

section
variable {ops : Array Oper} {rest : List Oper} {a : Act} {w : World} {Q : Exit → Act → World → Prop}
theorem run_slice41 (w : World) (zs : List Int) (vals : Array (Nat × Value)) (n : Nat) (hn : 1 ≤ n ∧ n ≤ 3) (hl : zs.length = n)
    (hf : Instr.fill (fun j => some (j * 1, 1)) ((Array.range (n * 1)).map ((Value.int .i64 0).cells[· % (Value.int .i64 0).cells.size]!)) vals.toList = some (zs.map fun z => Value.int .i64 z).toArray) :
    (Instr.buildSlice 63 n vals).run Tryz.prog w = .ok (.slice (some ⟨w.heap.size, 0, none⟩) n n) (w.alloc (.cells (zs.map fun z => Value.int .i64 z).toArray 3)) := by
  obtain ⟨i, i1, i2, i3, i4⟩ := full3
  exact run_buildSlice (P := Tryz.prog) w 63 3 n vals (zs.map fun z => Value.int .i64 z).toArray i _ Tryz.underlying63 i1 i2 (by rw [i3]; omega) (by rw [i3]; omega) (by rw [i3]; exact hf)
theorem sliced (w : World) (zs : List Int) (hl : zs.length ≤ 3) : (w.alloc (.cells (zs.map fun z => Value.int .i64 z).toArray 3)).ownsRow w.heap.size 3 1 (.slice (some ⟨w.heap.size, 0, none⟩) zs.length zs.length) zs.length (zs.map fun z => .int .i64 z) := by
  refine ⟨by simp, .inr ⟨w.heap.size, zs.length, _, rfl, Nat.le_refl _, heap_alloc_new w _, Nat.le_refl _, by simp only [maxLen]; omega, by simp, ?_⟩⟩
  rw [Nat.mul_one]
  exact List.take_of_length_le (by simp)
theorem wpList_slice1 {o : Oper} (x : Operand) (z : Int) (ho : o.op = .buildSlice 63 1 #[(0, x)]) (hg : o.guard = none) (hx : a.eval x = .int .i64 z)
    (h : ∀ w', w'.ownsRow w.heap.size 3 1 (.slice (some ⟨w.heap.size, 0, none⟩) 1 1) 1 [.int .i64 z] → Arr w' w.heap.size [.int .i64 z] → Below w.heap.size w w' → w'.heap.size = w.heap.size + 1 → wpList Tryz.prog ops Q rest (a.put o.dst (.slice (some ⟨w.heap.size, 0, none⟩) 1 1)) w') :
    wpList Tryz.prog ops Q (o :: rest) a w := by
  refine wpList_plain hg fun K hK => ?_
  have r : (execOp a.eval o).run Tryz.prog w = .ok (.value (.slice (some ⟨w.heap.size, 0, none⟩) 1 1)) (w.alloc (.cells ([z].map fun z => Value.int .i64 z).toArray 3)) := by
    unfold execOp
    simp only [ho, List.map_toArray, List.map_cons, List.map_nil, hx, Sem.run_bind, run_slice41 w [z] #[(0, .int .i64 z)] 1 (by decide) rfl (by kernel_rfl), Result.andThen_ok, Sem.run_pure]
  unfold Oper.wp
  rw [r, Oper.upon_value]
  exact hK _ _ (h _ (sliced w [z] (by simp)) ⟨_, _, heap_alloc_new w _, rfl⟩ ((Below.refl _ _).alloc (Nat.le_refl _) _) (by simp))
theorem wpList_slice2 {o : Oper} (x y : Operand) (z u : Int) (ho : o.op = .buildSlice 63 2 #[(0, x), (1, y)]) (hg : o.guard = none) (hx : a.eval x = .int .i64 z) (hy : a.eval y = .int .i64 u)
    (h : ∀ w', Arr w' w.heap.size [.int .i64 z, .int .i64 u] → Below w.heap.size w w' → w'.heap.size = w.heap.size + 1 → wpList Tryz.prog ops Q rest (a.put o.dst (.slice (some ⟨w.heap.size, 0, none⟩) 2 2)) w') :
    wpList Tryz.prog ops Q (o :: rest) a w := by
  refine wpList_plain hg fun K hK => ?_
  have r : (execOp a.eval o).run Tryz.prog w = .ok (.value (.slice (some ⟨w.heap.size, 0, none⟩) 2 2)) (w.alloc (.cells ([z, u].map fun z => Value.int .i64 z).toArray 3)) := by
    unfold execOp
    simp only [ho, List.map_toArray, List.map_cons, List.map_nil, hx, hy, Sem.run_bind, run_slice41 w [z, u] #[(0, .int .i64 z), (1, .int .i64 u)] 2 (by decide) rfl (by kernel_rfl), Result.andThen_ok, Sem.run_pure]
  unfold Oper.wp
  rw [r, Oper.upon_value]
  exact hK _ _ (h _ ⟨_, _, heap_alloc_new w _, rfl⟩ ((Below.refl _ _).alloc (Nat.le_refl _) _) (by simp))
end
section
variable {ρ : Operand → Value} {o : Oper}
theorem op_slice3 {x y v : Operand} {z u t : Int} (ho : o.op = .buildSlice 63 3 #[(0, x), (1, y), (2, v)]) (hx : ρ x = .int .i64 z) (hy : ρ y = .int .i64 u) (hv : ρ v = .int .i64 t) (w : World) :
    (execOp ρ o).run Tryz.prog w = .ok (.value (.slice (some ⟨w.heap.size, 0, none⟩) 3 3)) (w.alloc (.cells ([z, u, t].map fun z => Value.int .i64 z).toArray 3)) := by
  unfold execOp
  simp only [ho, List.map_toArray, List.map_cons, List.map_nil, hx, hy, hv, Sem.run_bind, run_slice41 w [z, u, t] #[(0, .int .i64 z), (1, .int .i64 u), (2, .int .i64 t)] 3 (by decide) rfl (by kernel_rfl), Result.andThen_ok, Sem.run_pure]
end

/-- Where parts begin, as cells. -/
def bndsV (sz : List Nat) (k : Nat) : List Value := (List.range (k + 1)).map fun j => .int .i64 ((bnd sz j : Nat) : Int)
theorem bndsV_succ (sz : List Nat) (k : Nat) : bndsV sz (k + 1) = bndsV sz k ++ [.int .i64 ((bnd sz (k + 1) : Nat) : Int)] := by
  rw [bndsV, List.range_succ, List.map_append]; rfl
theorem bndsV_get (sz : List Nat) {k j : Nat} (h : j ≤ k) : (bndsV sz k)[j]? = some (.int .i64 ((bnd sz j : Nat) : Int)) := by
  rw [bndsV, List.getElem?_map, List.getElem?_range (by omega)]; rfl

theorem bnd_map {l : List Int} {k : Nat} (h : ∀ z ∈ l.take k, 1 ≤ z) : ((bnd (l.map Int.toNat) k : Nat) : Int) = (l.take k).sum := by
  rw [← toNat_sum h, bnd, List.map_take]
theorem map_getD (l : List Int) (k : Nat) : (l.map Int.toNat).getD k 0 = (l.getD k 0).toNat := by
  rw [List.getD_eq_getElem?_getD, List.getD_eq_getElem?_getD, List.getElem?_map]
  cases l[k]? <;> rfl
theorem getD_memI {l : List Int} {k : Nat} (hk : k < l.length) : l.getD k 0 ∈ l := by
  rw [List.getD_eq_getElem?_getD, List.getElem?_eq_getElem hk]; exact List.getElem_mem hk
theorem right_few {n : Nat} {l : List Int} (h : l.length < 1 ∨ 16 < l.length) : rightD n l = false := by
  cases hr : rightD n l with
  | false => rfl
  | true =>
    have := rightD_iff.1 hr
    omega
theorem right_low {n : Nat} {l : List Int} {k : Nat} (hk : k < l.length) (h : l.getD k 0 < 1) : rightD n l = false := by
  cases hr : rightD n l with
  | false => rfl
  | true =>
    have := (rightD_iff.1 hr).2.2.1 _ (getD_memI hk)
    omega
theorem right_high {n : Nat} {l : List Int} {k : Nat} (hk : k < l.length) (h : (n : Int) - ((bnd (l.map Int.toNat) k : Nat) : Int) < l.getD k 0) : rightD n l = false := by
  cases hr : rightD n l with
  | false => rfl
  | true =>
    have h1 := rightD_iff.1 hr
    have h2 := bnd_map (l := l) (k := k) (fun z hz => h1.2.2.1 z (List.mem_of_mem_take hz))
    have h3 := sum_take_succ hk
    have h4 := sum_take_le h1.2.2.1 (k + 1)
    omega
theorem right_true {n : Nat} {l : List Int} (h1 : 1 ≤ l.length) (h2 : l.length ≤ 16) (h3 : ∀ z ∈ l, 1 ≤ z) (h4 : bnd (l.map Int.toNat) l.length ≤ n) : rightD n l = true := by
  have h5 := bnd_map (l := l) (k := l.length) (fun z hz => h3 z (List.mem_of_mem_take hz))
  rw [List.take_length] at h5
  exact rightD_iff.2 ⟨h1, h2, h3, by omega⟩

theorem built146 (p g n c : Nat) : Tryz.prog.built 146 [(0, .pointer (some ⟨p, 0, none⟩)), (1, .slice (some ⟨g, 0, none⟩) n c)] = some #[.pointer (some ⟨p, 0, none⟩), .slice (some ⟨g, 0, none⟩) n c, .int .i64 0, .slice none 0 0] := by kernel_rfl

/-- What a new map is. -/
def NewP (D : List Nat) (w : World) (p : Nat) (d : DM) (l : List Int) (e : Ending) (w' : World) : Prop :=
  if rightD d.kept.length l = true then ∃ m F, e = .returned (.tuple #[.pointer (some ⟨m, 0, none⟩), .int .i64 0]) ∧ PMap F D w' m p d ⟨l.map Int.toNat, 0, []⟩ ∧ (∀ k ∈ F, w.heap.size ≤ k) ∧ Below w.heap.size w w'
  else e = .returned (.tuple #[.pointer none, .int .i64 71]) ∧ Below w.heap.size w w'
section
variable {D : List Nat} {w : World} {p : Nat} {d : DM}
set_option maxHeartbeats 1600000 in
set_option maxRecDepth 100000 in
theorem mnew_walk (h : Dev D w p d) (a : Option Addr) (len cap : Nat) (l : List Int) (hR : IRow w.heap.size w a len l) (hlen : len ≤ 1000000) :
    Calls Tryz.prog 47 #[.pointer (some ⟨p, 0, none⟩), .slice a len cap] w (NewP D w p d l) := by
  have HD := hide h
  have HR := hide hR
  have hll := hR.1
  have hfew := h.ok.few
  clear h hR
  by_cases h1 : len < 1
  · have HF : Hid (¬ rightD d.kept.length l = true) := hide (by rw [right_few (.inl (by omega))]; decide)
    clear hll hfew
    go_enter Tryz.func47, Tryz.ntmps47
    go_wp2
    go_ret2
    unfold NewP
    rw [if_neg (unhide HF)]
    exact ⟨rfl, Below.refl _ _⟩
  by_cases h2 : 16 < len
  · have HF : Hid (¬ rightD d.kept.length l = true) := hide (by rw [right_few (.inr (by omega))]; decide)
    clear hll hfew
    go_enter Tryz.func47, Tryz.ntmps47
    go_wp2
    go_ret2
    unfold NewP
    rw [if_neg (unhide HF)]
    exact ⟨rfl, Below.refl _ _⟩
  have HLL := hide hll
  clear hll
  go_enter Tryz.func47, Tryz.ntmps47
  go_wp2_with (refine wpList_slice1 _ 0 rfl rfl rfl ?_)
  intro w1 hO1 _ hb1 hs1
  have HO1 := hide hO1
  have Hb1 := hide hb1
  clear hO1 hb1
  go_wp2
  go_loopw [6, 7, 22] (fun ce cb ci wr => ∃ (k : Nat) (v : Value), k ≤ len ∧ ci = .int .i64 (k : Int) ∧ ce = .int .i64 ((bnd (l.map Int.toNat) k : Nat) : Int) ∧ cb = v ∧ wr.ownsRow w.heap.size 3 1 v (k + 1) (bndsV (l.map Int.toNat) k) ∧ Below w.heap.size w wr ∧
    Hid (∀ z ∈ l.take k, 1 ≤ z) ∧ bnd (l.map Int.toNat) k ≤ d.kept.length) (fun _ _ ci _ => len - (intOf ci).toNat)
  case atStart =>
    refine ⟨0, _, by omega, rfl, by rw [bnd_zero]; rfl, rfl, ?_, unhide Hb1, hide (by intro z hz; simp at hz), by rw [bnd_zero]; omega⟩
    have e : bndsV (l.map Int.toNat) 0 = [.int .i64 0] := by simp [bndsV, bnd_zero]
    rw [e]; exact unhide HO1
  case round =>
    obtain ⟨k, v, hk, rfl, rfl, hcb, hO, hb, HZ, hbd⟩ := hrel
    have hcb2 := hcb.symm
    subst hcb2
    have HO := hide hO
    have Hb := hide hb
    have HDr := hide ((unhide HD).below hb)
    clear HO1 Hb1 hO hb
    by_cases hlt : k < len
    · obtain ⟨b, off, rfl, _, hcell⟩ := ((unhide HR).below (unhide Hb)).2 k hlt
      have hkl : k < l.length := by rw [unhide HLL]; exact hlt
      by_cases hlow : l.getD k 0 < 1
      · have HF : Hid (¬ rightD d.kept.length l = true) := hide (by rw [right_low hkl hlow]; decide)
        clear hbd HZ hkl
        generalize bnd (l.map Int.toNat) k = y at *
        generalize l.getD k 0 = z at *
        go_wp2
        go_ret2
        unfold NewP
        rw [if_neg (unhide HF)]
        exact ⟨rfl, unhide Hb⟩
      · by_cases hhigh : (d.kept.length : Int) - ((bnd (l.map Int.toNat) k : Nat) : Int) < l.getD k 0
        · have HF : Hid (¬ rightD d.kept.length l = true) := hide (by rw [right_high hkl hhigh]; decide)
          have HSZ := hide (size_walk (unhide HDr))
          clear HZ hkl HDr
          generalize bnd (l.map Int.toNat) k = y at *
          generalize l.getD k 0 = z at *
          go_wp2_with fail
          refine (unhide HSZ).mono ?_
          rintro e w2 ⟨rfl, hw2⟩
          subst w2
          clear HSZ
          go_wp2
          go_ret2
          unfold NewP
          rw [if_neg (unhide HF)]
          exact ⟨rfl, unhide Hb⟩
        · have HSZ := hide (size_walk (unhide HDr))
          have hbs : bnd (l.map Int.toNat) (k + 1) = bnd (l.map Int.toNat) k + (l.getD k 0).toNat := by
            rw [bnd_succ (by rw [List.length_map]; exact hkl), map_getD]
          have HBS := hide hbs
          have HB2 : Hid (bnd (l.map Int.toNat) (k + 1) ≤ d.kept.length) := hide (by omega)
          have HE2 : Hid (((bnd (l.map Int.toNat) k : Nat) : Int) + l.getD k 0 = ((bnd (l.map Int.toNat) (k + 1) : Nat) : Int)) := hide (by omega)
          have HV2 := hide (bndsV_succ (l.map Int.toNat) k)
          have HZ2 : Hid (∀ z ∈ l.take (k + 1), 1 ≤ z) := hide (fun z hz => by
            rw [List.take_add_one, List.mem_append] at hz
            rcases hz with hz | hz
            · exact unhide HZ z hz
            · rw [List.getElem?_eq_getElem hkl] at hz
              simp at hz
              have : l.getD k 0 = z := by rw [List.getD_eq_getElem?_getD, List.getElem?_eq_getElem hkl]; exact hz.symm
              omega)
          clear HZ hkl HDr hbs HBS
          obtain ⟨y2, hy2⟩ : ∃ y2, y2 = bnd (l.map Int.toNat) (k + 1) := ⟨_, rfl⟩
          rw [← hy2] at HB2 HE2 HV2
          have HY2 := hide hy2
          clear hy2
          generalize bnd (l.map Int.toNat) k = y at *
          generalize l.getD k 0 = z at *
          go_wp2_with fail
          refine (unhide HSZ).mono ?_
          rintro e w2 ⟨rfl, hw2⟩
          subst w2
          clear HSZ
          go_wp2_with (refine wpList_slice1 _ ((y : Int) + z) rfl rfl rfl ?_)
          intro w3 _ hA3 hb3 hs3
          have HA3 := hide hA3
          have Hb3 := hide ((unhide Hb).trans (hb3.mono (unhide Hb).size))
          have HO3 := hide (owns_same (unhide HO) (w' := w3) fun j hj => hb3.block j ((unhide HO).lt j (by simpa using hj)).2)
          clear hA3 hb3 HO Hb
          generalize wr.heap.size = q at *
          obtain ⟨i, i1, i2, i3, i4⟩ := full3
          have HI := hide (And.intro i1 (And.intro i2 (And.intro i3 i4)))
          clear i1 i2 i3 i4
          go_wp2_with (refine wpList_append_own w3 rfl _ _ 63 rfl w.heap.size 3 i (.int .i64 0) 1 8 Tryz.underlying63 (unhide HI).1 (unhide HI).2.1 (unhide HI).2.2.1 (unhide HI).2.2.2 (by decide) (by decide) v (k + 1) (bndsV (l.map Int.toNat) k) rfl (unhide HO3) ⟨q, 0, none⟩ 1 1 [.int .i64 ((y : Int) + z)] rfl rfl (fun j u hj => by
              rw [Addr.add_mid, Nat.zero_add]; exact (unhide HA3).cell hj) (fun u hu => by simp at hu; rw [hu]; rfl) (by simp only [maxLen]; omega) (by omega) (unhide Hb3).size ?_)
          intro v4 w4 hO4 hg4 _
          have Hb4 : Hid (Below w.heap.size w w4) := hide ((unhide Hb3).trans ⟨hg4.os, hg4.tape, hg4.output, hg4.size, fun j hj => hg4.block j (Nat.lt_of_lt_of_le hj (unhide Hb3).size) (fun e => by have := ((unhide HO3).lt j e.symm).1; omega)⟩)
          have HO4 : Hid (w4.ownsRow w.heap.size 3 1 v4 (k + 1 + 1) (bndsV (l.map Int.toNat) (k + 1))) := hide (by
            rw [unhide HV2, ← unhide HE2]; exact hO4)
          clear hO4 hg4 HO3 Hb3 HA3 HI
          go_wp2
          go_roundw
          case rel =>
            refine ⟨k + 1, v4, by omega, by go_num, ?_, rfl, unhide HO4, unhide Hb4, HZ2, by rw [← unhide HY2]; exact unhide HB2⟩
            rw [← unhide HY2, ← unhide HE2]
          case measure => simp [intOf]; omega
    · obtain rfl : k = len := by omega
      have HT : Hid (rightD d.kept.length l = true) := hide (right_true (by rw [unhide HLL]; omega) (by rw [unhide HLL]; omega) (by
        have := unhide HZ
        rw [← unhide HLL, List.take_length] at this
        exact this) (by rw [unhide HLL]; exact hbd))
      have HSM : Hid ((l.map Int.toNat).sum ≤ d.kept.length) := hide (by
        rw [← bnd_all, List.length_map, unhide HLL]; exact hbd)
      have HBC : Hid (∀ g cp, v = .slice (some ⟨g, 0, none⟩) (k + 1) cp → ∀ j, j ≤ k → wr.cell? ⟨g, j, none⟩ = some (.int .i64 ((bnd (l.map Int.toNat) j : Nat) : Int))) := hide fun g cp hv j hj => by
        have := (unhide HO).cells (g := g) (by rw [hv]; rfl) j _ (bndsV_get _ hj)
        rw [Addr.add_mid, Nat.zero_add] at this
        exact this
      obtain ⟨g, cp, hv, hcp, hgb, hgl⟩ : ∃ g cp, v = .slice (some ⟨g, 0, none⟩) (k + 1) cp ∧ k + 1 ≤ cp ∧ w.heap.size ≤ g ∧ g < wr.heap.size := by
        rcases (unhide HO).2 with ⟨_, h0⟩ | ⟨g, cp, cur, hv, hbg, hh, hn, _⟩
        · omega
        · exact ⟨g, cp, hv, hn, hbg, (Array.getElem?_eq_some_iff.1 hh).1⟩
      subst hv
      have HBC2 := hide (unhide HBC g cp rfl)
      have HG := hide (And.intro hcp (And.intro hgb hgl))
      clear HO HBC HZ hbd hcp hgb hgl
      generalize bnd (l.map Int.toNat) k = y at *
      go_wp2_with (first
        | refine wpList_build 146 _ [.pointer (some ⟨p, 0, none⟩), .slice (some ⟨g, 0, none⟩) (k + 1) cp, .int .i64 0, .slice none 0 0] _ rfl rfl rfl (built146 p g (k + 1) cp) ?_
        | refine wpList_box 146 _ [.pointer (some ⟨p, 0, none⟩), .slice (some ⟨g, 0, none⟩) (k + 1) cp, .int .i64 0, .slice none 0 0] rfl rfl rfl ?_)
      intro w2 hA2 hb2 hs2
      have HA2 := hide hA2
      have HB2 := hide hb2
      clear hA2 hb2
      go_wp2
      go_ret2
      unfold NewP
      rw [if_pos (unhide HT)]
      have hws := (unhide Hb).size
      have hdl := (unhide HD).lt
      refine ⟨wr.heap.size, mapF wr.heap.size g (.slice none 0 0), rfl, { map := ⟨g, cp, _, rfl, ?_⟩, dev := (unhide HDr).below (unhide HB2), apart := ?_, fits := unhide HSM }, ?_, (unhide Hb).trans ((unhide HB2).mono hws)⟩
      · refine { nodup := ?_, few := ?_, sum := Nat.le_trans (unhide HSM) hfew, room := ?_, arr := ?_, bnd := ?_, ops := World.ownsRow_nil _ 0 155 4 }
        · simp only [mapF, Value.ownBlock, Option.toList, List.nodup_cons, List.mem_cons, List.not_mem_nil, or_false, not_false_eq_true]
          have := (unhide HG).2.2
          exact ⟨by omega, by simp⟩
        · show (l.map Int.toNat).length ≤ 16
          rw [List.length_map, unhide HLL]; omega
        · show (l.map Int.toNat).length + 1 ≤ cp
          rw [List.length_map, unhide HLL]; exact (unhide HG).1
        · show Arr w2 wr.heap.size (mapV p g cp (.slice none 0 0) ⟨l.map Int.toNat, 0, []⟩)
          unfold mapV
          rw [List.length_map, unhide HLL]
          exact unhide HA2
        · intro j hj
          have hj2 : j ≤ k := by
            have : j ≤ (l.map Int.toNat).length := hj
            rw [List.length_map, unhide HLL] at this
            exact this
          exact ((unhide HB2).cell (p := ⟨g, j, none⟩) (unhide HG).2.2).trans (unhide HBC2 j hj2)
      · intro j hj hjd
        have := hdl j hjd
        simp only [mapF, Value.ownBlock, Option.toList, List.mem_cons, List.not_mem_nil, or_false] at hj
        have := (unhide HG).2.1
        omega
      · intro j hj
        simp only [mapF, Value.ownBlock, Option.toList, List.mem_cons, List.not_mem_nil, or_false] at hj
        have := (unhide HG).2.1
        omega
end
end Go.Proofs.YtdfdalkcljfghaaGreat
