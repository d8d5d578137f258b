/-
  A new device.
-/
import Derived.Test.YtdfdalkcljfghaaGreatSync
namespace Go.Proofs.YtdfdalkcljfghaaGreat
open Go.RowKit

theorem secsV_zero : ∀ n, secsV (List.replicate n zeroS) = List.replicate (n * 64) (.int .u8 0)
  | 0 => rfl
  | n + 1 => by
    rw [List.replicate_succ, secsV, secsV_zero n, show bytesV zeroS = List.replicate 64 (.int .u8 0) from rfl, List.replicate_append_replicate, show 64 + n * 64 = (n + 1) * 64 by omega]
theorem made_same (z : Array Value) (v : Value) (n : Nat) (hz : 0 < z.size) (h : ∀ i (hi : i < z.size), z[i] = v) : (madeCells z n).toList = List.replicate n v := by
  apply List.eq_replicate_of_mem ?_ |>.trans
  · rw [Array.length_toList, size_madeCells]
  · intro b hb
    simp only [madeCells, Array.toList_map, List.mem_map] at hb
    obtain ⟨a, _, rfl⟩ := hb
    have hlt : a % z.size < z.size := Nat.mod_lt _ hz
    rw [getElem!_pos z _ hlt]
    exact h _ hlt
theorem make52 (w : World) (n : Nat) (hn : n ≤ 4096) : ∃ C : Array Value, (Instr.makeSlice 131 (.int .i64 (n : Int)) (.int .i64 (n : Int))).run Tryz.prog w = .ok (.slice (some ⟨w.heap.size, 0, none⟩) n n) (w.alloc (.cells C 136)) ∧ C.toList = secsV (List.replicate n zeroS) := by
  obtain ⟨i, i1, i2, i3, i4⟩ := full26
  have hr := run_makeSlice (P := Tryz.prog) w 131 136 i _ Tryz.underlying131 i1 i2 .i64 .i64 (n : Int) (n : Int) (by omega) (by omega) (by rw [i3, Int.toNat_natCast]; omega) (by rw [i4]; omega) (by omega)
  simp only [Int.toNat_natCast, i3] at hr
  refine ⟨_, hr, ?_⟩
  rw [secsV_zero]
  refine made_same _ _ _ (by decide +kernel) ?_
  intro j hj
  have hs : (secV zeroS).cells.size = 64 := by decide +kernel
  have he : (secV zeroS).cells = Array.replicate 64 (.int .u8 0) := by kernel_rfl
  simp [he]
theorem make53 (w : World) (n : Nat) (hn : n ≤ 4096) : ∃ C : Array Value, (Instr.makeSlice 63 (.int .i64 (n : Int)) (.int .i64 (n : Int))).run Tryz.prog w = .ok (.slice (some ⟨w.heap.size, 0, none⟩) n n) (w.alloc (.cells C 3)) ∧ C.toList = intsV (List.replicate n 0) := by
  obtain ⟨i, i1, i2, i3, i4⟩ := full3
  have hr := run_makeSlice (P := Tryz.prog) w 63 3 i _ Tryz.underlying63 i1 i2 .i64 .i64 (n : Int) (n : Int) (by omega) (by omega) (by rw [i3, Int.toNat_natCast]; omega) (by rw [i4]; omega) (by omega)
  simp only [Int.toNat_natCast, i3] at hr
  refine ⟨_, hr, ?_⟩
  rw [made_same _ (.int .i64 0) _ (by decide +kernel), Nat.mul_one]
  · simp [intsV]
  · intro j hj
    have he : (Value.int .i64 0).cells = #[.int .i64 0] := by kernel_rfl
    simp [he]
section
variable {ρ : Operand → Value} {o : Oper}
theorem op_make131 {x y : Operand} {n : Nat} (h1 : ρ x = .int .i64 (n : Int)) (h2 : ρ y = .int .i64 (n : Int)) (hn : n ≤ 4096) (w : World) :
    ∃ C : Array Value, (∀ o : Oper, o.op = .makeSlice 131 x y → (execOp ρ o).run Tryz.prog w = .ok (.value (.slice (some ⟨w.heap.size, 0, none⟩) n n)) (w.alloc (.cells C 136))) ∧ C.toList = secsV (List.replicate n zeroS) := by
  obtain ⟨C, hr, hC⟩ := make52 w n hn
  refine ⟨C, fun o ho => ?_, hC⟩
  unfold execOp
  rw [ho]
  simp only [h1, h2, Sem.run_bind, hr, Result.andThen_ok, Sem.run_pure]
theorem op_make63 {x y : Operand} {n : Nat} (h1 : ρ x = .int .i64 (n : Int)) (h2 : ρ y = .int .i64 (n : Int)) (hn : n ≤ 4096) (w : World) :
    ∃ C : Array Value, (∀ o : Oper, o.op = .makeSlice 63 x y → (execOp ρ o).run Tryz.prog w = .ok (.value (.slice (some ⟨w.heap.size, 0, none⟩) n n)) (w.alloc (.cells C 3))) ∧ C.toList = intsV (List.replicate n 0) := by
  obtain ⟨C, hr, hC⟩ := make53 w n hn
  refine ⟨C, fun o ho => ?_, hC⟩
  unfold execOp
  rw [ho]
  simp only [h1, h2, Sem.run_bind, hr, Result.andThen_ok, Sem.run_pure]
theorem op_box {t : TypeId} {x : Operand} {cs : List Value} (ho : o.op = .box t x) (h1 : ρ x = .agg cs.toArray) (w : World) :
    (execOp ρ o).run Tryz.prog w = .ok (.value (.pointer (some ⟨w.heap.size, 0, none⟩))) (w.alloc (.cells cs.toArray t)) := by
  unfold execOp
  simp only [ho, h1]
  rfl
end
section
variable {P : Program} {ops : Array Oper} {rest : List Oper} {a : Act} {w : World} {Q : Exit → Act → World → Prop}
theorem wpList_make52 {o : Oper} (x y : Operand) (n : Nat) (hn : n ≤ 4096) (ho : o.op = .makeSlice 131 x y) (hg : o.guard = none) (hx : a.eval x = .int .i64 (n : Int)) (hy : a.eval y = .int .i64 (n : Int))
    (h : ∀ w', Arr w' w.heap.size (secsV (List.replicate n zeroS)) → Below w.heap.size w w' → w'.heap.size = w.heap.size + 1 → wpList Tryz.prog ops Q rest (a.put o.dst (.slice (some ⟨w.heap.size, 0, none⟩) n n)) w') :
    wpList Tryz.prog ops Q (o :: rest) a w := by
  refine wpList_plain hg fun K hK => ?_
  obtain ⟨C, r, hC⟩ := op_make131 (ρ := a.eval) hx hy hn w
  unfold Oper.wp
  rw [r _ ho, Oper.upon_value]
  exact hK _ _ (h _ ⟨C, 136, heap_alloc_new w _, hC⟩ ((Below.refl _ _).alloc (Nat.le_refl _) _) (by simp))
end

/-- So many of them are blank. -/
def someBlank (n k : Nat) : List Sec := List.replicate k blankS ++ List.replicate (n - k) zeroS
theorem someBlank_len {n k : Nat} (h : k ≤ n) : (someBlank n k).length = n := by simp [someBlank]; omega
theorem someBlank_64 (n k : Nat) : ∀ s ∈ someBlank n k, s.length = 64 := by
  intro s hs
  rcases List.mem_append.1 hs with h | h
  · rw [(List.mem_replicate.1 h).2]; exact blankS_len
  · rw [(List.mem_replicate.1 h).2]; exact zeroS_len
theorem someBlank_step {n k : Nat} (h : k < n) : (someBlank n k).set k blankS = someBlank n (k + 1) := by
  unfold someBlank
  rw [List.set_append_right k _ (by simp), List.length_replicate, Nat.sub_self]
  obtain ⟨m, hm⟩ : ∃ m, n - k = m + 1 := ⟨n - k - 1, by omega⟩
  rw [hm, List.replicate_succ, List.set_cons_zero, show n - (k + 1) = m by omega, List.replicate_succ']
  simp

set_option maxHeartbeats 800000 in
set_option maxRecDepth 100000 in
theorem blanks_walk (n : Nat) (hn : n ≤ 4096) (w : World) : Calls Tryz.prog 86 #[.int .i64 (n : Int)] w fun e w' => ∃ b, e = .returned (.slice (some ⟨b, 0, none⟩) n n) ∧ Arr w' b (secsV (List.replicate n blankS)) ∧ w.heap.size ≤ b ∧ Below w.heap.size w w' := by
  go_enter Tryz.func86, Tryz.ntmps86
  go_wp2_with (refine wpList_make52 _ _ n hn rfl rfl rfl rfl ?_)
  intro w1 hA1 hb1 hs1
  have HA1 := hide hA1
  have Hb1 := hide hb1
  clear hA1 hb1
  go_wp2
  go_loopw [9] (fun ci wr => ∃ k : Nat, k ≤ n ∧ ci = .int .i64 (k : Int) ∧ Arr wr w.heap.size (secsV (someBlank n k)) ∧ Below w.heap.size w wr) (fun ci _ => n - (intOf ci).toNat)
  case atStart => exact ⟨0, by omega, rfl, by simpa [someBlank] using unhide HA1, unhide Hb1⟩
  case round =>
    obtain ⟨k, hk, rfl, hA, hb⟩ := hrel
    clear HA1 Hb1
    have HA := hide hA
    have Hb := hide hb
    clear hA hb
    by_cases hlt : k < n
    · go_wp2_with fail
      refine (blank_walk wr).mono ?_
      rintro e w2 ⟨rfl, hb2⟩
      have hA2 := (unhide HA).below hb2
      have HTH := hide (hA2.secThere (someBlank_64 n k) (i := k) (by rw [someBlank_len hk]; exact hlt))
      have HSE := hide (hA2.secSet (someBlank_64 n k) (i := k) (by rw [someBlank_len hk]; exact hlt) blankS_len)
      have Hb2 := hide ((unhide Hb).trans (hb2.mono (unhide Hb).size))
      have HS2 := hide (Nat.le_trans (unhide Hb).size hb2.size)
      clear hA2 hb2 HA Hb
      have HL : Hid (blankS.length = 64) := hide blankS_len
      obtain ⟨bs, hbs⟩ : ∃ bs : Sec, bs = blankS := ⟨_, rfl⟩
      rw [← hbs] at HSE HL ⊢
      have HBS := hide hbs
      clear hbs
      go_wp2_with (refine wpList_store_mid rfl 136 _ _ rfl w.heap.size (k * 64) (bytesV bs).toArray rfl rfl (by simpa [bytesV_length, unhide HL] using unhide HTH) (by simpa [bytesV_length, unhide HL] using info136) (all_oneCell_toArray (bytesV_one _)) ?_)
      go_wp2_with fail
      go_roundw
      case rel =>
        refine ⟨k + 1, by omega, by go_num, ?_, ?_⟩
        · rw [← someBlank_step hlt, ← unhide HBS]
          simpa using unhide HSE
        · exact (unhide Hb2).grown (setCells_grown _ _ _ _) (unhide HS2) (fun j hj => by simp at hj; omega)
      case measure => simp [intOf]; omega
    · obtain rfl : k = n := by omega
      go_wp2_with fail
      go_ret
      refine ⟨_, rfl, ?_, Nat.le_refl _, unhide Hb⟩
      have := unhide HA
      simpa [someBlank] using this

/-- The blocks of a new device. -/
structure Four where
  k : Nat
  n : Nat
  w : Nat
  p : Nat
def newF (d : DM) (g : Nat → Value) (j : Nat) (s : Four) : Value :=
  if j = 1 then .slice (some ⟨s.k, 0, none⟩) d.kept.length d.kept.length else if j = 3 then .slice (some ⟨s.n, 0, none⟩) d.kept.length d.kept.length
  else if j = 5 then .slice (some ⟨s.w, 0, none⟩) d.kept.length d.kept.length else if j = 8 then .agg (devV s.k s.n s.w (.slice none 0 0) d).toArray
  else if j = 9 ∨ j = 10 then .pointer (some ⟨s.p, 0, none⟩) else g j
structure NewC (W : World) (d : DM) (L : Nat → Bool) (s : Four) (u : World) : Prop where
  below : Below W.heap.size W u
  k : L 1 = true → W.heap.size ≤ s.k ∧ Arr u s.k (secsV d.kept)
  n : L 3 = true → W.heap.size ≤ s.n ∧ Arr u s.n (secsV d.now) ∧ (L 1 = true → s.k ≠ s.n)
  w : L 5 = true → W.heap.size ≤ s.w ∧ Arr u s.w (intsV d.wear) ∧ (L 1 = true → s.k ≠ s.w) ∧ (L 3 = true → s.n ≠ s.w)
  p : L 9 = true → W.heap.size ≤ s.p ∧ Arr u s.p (devV s.k s.n s.w (.slice none 0 0) d) ∧ s.p ≠ s.k ∧ s.p ≠ s.n ∧ s.p ≠ s.w
section
variable {W : World} {d : DM} {L : Nat → Bool} {s : Four} {w w' : World}
theorem NewC.upd {i : Nat} (h1 : 1 ≠ i) (h3 : 3 ≠ i) (h5 : 5 ≠ i) (h9 : 9 ≠ i) : ∀ L s w, NewC W d L s w → NewC W d (Flow.upd L i) s w := fun L s w h =>
  ⟨h.below, by rw [Flow.upd_ne h1]; exact h.k, by rw [Flow.upd_ne h3, Flow.upd_ne h1]; exact h.n, by rw [Flow.upd_ne h5, Flow.upd_ne h3, Flow.upd_ne h1]; exact h.w, by rw [Flow.upd_ne h9]; exact h.p⟩
theorem NewC.one (h : NewC W d L s w) (hb : Below w.heap.size w w') (h9 : L 9 = false) {b : Nat} (hlt : w.heap.size ≤ b) (hA : Arr w' b (secsV d.kept)) : NewC W d (Flow.upd L 1) { s with k := b } w' :=
  ⟨h.below.trans (hb.mono h.below.size), fun _ => ⟨Nat.le_trans h.below.size hlt, hA⟩,
   fun e => by
    rw [Flow.upd_ne (by decide)] at e
    have := h.n e
    exact ⟨this.1, this.2.1.below hb, fun _ => by have := this.2.1.lt; show b ≠ s.n; omega⟩,
   fun e => by
    rw [Flow.upd_ne (by decide)] at e
    have := h.w e
    exact ⟨this.1, this.2.1.below hb, fun _ => by have := this.2.1.lt; show b ≠ s.w; omega, fun e2 => this.2.2.2 (by rw [Flow.upd_ne (by decide)] at e2; exact e2)⟩,
   fun e => by
    rw [Flow.upd_ne (by decide), h9] at e
    cases e⟩
theorem NewC.two (h : NewC W d L s w) (hb : Below w.heap.size w w') (h9 : L 9 = false) {b : Nat} (hlt : w.heap.size ≤ b) (hA : Arr w' b (secsV d.now)) : NewC W d (Flow.upd L 3) { s with n := b } w' :=
  ⟨h.below.trans (hb.mono h.below.size), fun e => by
    rw [Flow.upd_ne (by decide)] at e
    have := h.k e
    exact ⟨this.1, this.2.below hb⟩,
   fun _ => ⟨Nat.le_trans h.below.size hlt, hA, fun e => by
    rw [Flow.upd_ne (by decide)] at e
    have := (h.k e).2.lt
    show s.k ≠ b; omega⟩,
   fun e => by
    rw [Flow.upd_ne (by decide)] at e
    have := h.w e
    exact ⟨this.1, this.2.1.below hb, fun e2 => this.2.2.1 (by rw [Flow.upd_ne (by decide)] at e2; exact e2), fun _ => by have := this.2.1.lt; show b ≠ s.w; omega⟩,
   fun e => by
    rw [Flow.upd_ne (by decide), h9] at e
    cases e⟩
theorem NewC.three (h : NewC W d L s w) (hb : Below w.heap.size w w') (h9 : L 9 = false) {b : Nat} (hlt : w.heap.size ≤ b) (hA : Arr w' b (intsV d.wear)) : NewC W d (Flow.upd L 5) { s with w := b } w' :=
  ⟨h.below.trans (hb.mono h.below.size), fun e => by
    rw [Flow.upd_ne (by decide)] at e
    have := h.k e
    exact ⟨this.1, this.2.below hb⟩,
   fun e => by
    rw [Flow.upd_ne (by decide)] at e
    have := h.n e
    exact ⟨this.1, this.2.1.below hb, fun e2 => this.2.2 (by rw [Flow.upd_ne (by decide)] at e2; exact e2)⟩,
   fun _ => ⟨Nat.le_trans h.below.size hlt, hA, fun e => by
    rw [Flow.upd_ne (by decide)] at e
    have := (h.k e).2.lt
    show s.k ≠ b; omega, fun e => by
    rw [Flow.upd_ne (by decide)] at e
    have := (h.n e).2.1.lt
    show s.n ≠ b; omega⟩,
   fun e => by
    rw [Flow.upd_ne (by decide), h9] at e
    cases e⟩
theorem NewC.four (h : NewC W d L s w) (hb : Below w.heap.size w w') (h1 : L 1 = true) (h3 : L 3 = true) (h5 : L 5 = true) {b : Nat} (hlt : w.heap.size ≤ b) (hA : Arr w' b (devV s.k s.n s.w (.slice none 0 0) d)) : NewC W d (Flow.upd L 9) { s with p := b } w' :=
  ⟨h.below.trans (hb.mono h.below.size), fun _ => ⟨(h.k h1).1, (h.k h1).2.below hb⟩,
   fun _ => ⟨(h.n h3).1, (h.n h3).2.1.below hb, fun _ => (h.n h3).2.2 h1⟩,
   fun _ => ⟨(h.w h5).1, (h.w h5).2.1.below hb, fun _ => (h.w h5).2.2.1 h1, fun _ => (h.w h5).2.2.2 h3⟩,
   fun _ => ⟨Nat.le_trans h.below.size hlt, hA, by
    have := (h.k h1).2.lt
    show b ≠ s.k; omega, by
    have := (h.n h3).2.1.lt
    show b ≠ s.n; omega, by
    have := (h.w h5).2.1.lt
    show b ≠ s.w; omega⟩⟩
theorem newF_one {g : Nat → Value} (b : Nat) (h1 : L 1 = false) (h8 : L 8 = false) (_h9 : L 9 = false) (_h10 : L 10 = false) : ∀ j u, L j = true → u = newF d g j s → u = newF d g j { s with k := b } := fun j u hj e => by
  have n1 : j ≠ 1 := fun e => by rw [e, h1] at hj; cases hj
  have n8 : j ≠ 8 := fun e => by rw [e, h8] at hj; cases hj
  rw [e]; simp [newF, n1, n8]
theorem newF_two {g : Nat → Value} (b : Nat) (h1 : L 3 = false) (h8 : L 8 = false) : ∀ j u, L j = true → u = newF d g j s → u = newF d g j { s with n := b } := fun j u hj e => by
  have n1 : j ≠ 3 := fun e => by rw [e, h1] at hj; cases hj
  have n8 : j ≠ 8 := fun e => by rw [e, h8] at hj; cases hj
  rw [e]; simp [newF, n1, n8]
theorem newF_three {g : Nat → Value} (b : Nat) (h1 : L 5 = false) (h8 : L 8 = false) : ∀ j u, L j = true → u = newF d g j s → u = newF d g j { s with w := b } := fun j u hj e => by
  have n1 : j ≠ 5 := fun e => by rw [e, h1] at hj; cases hj
  have n8 : j ≠ 8 := fun e => by rw [e, h8] at hj; cases hj
  rw [e]; simp [newF, n1, n8]
theorem newF_four {g : Nat → Value} (b : Nat) (h1 : L 9 = false) (h8 : L 10 = false) : ∀ j u, L j = true → u = newF d g j s → u = newF d g j { s with p := b } := fun j u hj e => by
  have n1 : j ≠ 9 := fun e => by rw [e, h1] at hj; cases hj
  have n8 : j ≠ 10 := fun e => by rw [e, h8] at hj; cases hj
  rw [e]; simp [newF, n1, n8]
end
theorem built149 (k n w c m : Nat) : Tryz.prog.built 149 [(0, .slice (some ⟨k, 0, none⟩) c c), (1, .slice (some ⟨n, 0, none⟩) c c), (3, .slice (some ⟨w, 0, none⟩) c c), (4, .int .i64 (m : Int)), (5, .int .i64 (-1))] =
    some [.slice (some ⟨k, 0, none⟩) c c, .slice (some ⟨n, 0, none⟩) c c, .slice none 0 0, .slice (some ⟨w, 0, none⟩) c c, .int .i64 (m : Int), .int .i64 (-1), .bool false].toArray := by kernel_rfl
theorem op_build149 {ρ : Operand → Value} {o : Oper} {x1 x2 x3 x4 x5 : Operand} {k n w c m : Nat} (ho : o.op = .build 149 #[(0, x1), (1, x2), (3, x3), (4, x4), (5, x5)]) (h1 : ρ x1 = .slice (some ⟨k, 0, none⟩) c c) (h2 : ρ x2 = .slice (some ⟨n, 0, none⟩) c c) (h3 : ρ x3 = .slice (some ⟨w, 0, none⟩) c c)
    (h4 : ρ x4 = .int .i64 (m : Int)) (h5 : ρ x5 = .int .i64 (-1)) (W : World) :
    (execOp ρ o).run Tryz.prog W = .ok (.value (.agg [.slice (some ⟨k, 0, none⟩) c c, .slice (some ⟨n, 0, none⟩) c c, .slice none 0 0, .slice (some ⟨w, 0, none⟩) c c, .int .i64 (m : Int), .int .i64 (-1), .bool false].toArray)) W := by
  have hb := built149 k n w c m
  unfold execOp
  rw [ho]
  simp only [List.map_toArray, List.map_cons, List.map_nil, h1, h2, h3, h4, h5, Sem.run_bind, run_build W 149 _ _ hb, Result.andThen, Sem.run_pure]

theorem newD_kept (s v : Int) : (newD s v).kept.length = clampD s 4096 := by simp [newD]

set_option maxHeartbeats 1600000 in
set_option maxRecDepth 100000 in
theorem new_walk (sx wx : Int) (w : World) : Calls Tryz.prog 48 #[.int .i64 sx, .int .i64 wx] w fun e w' => ∃ F p, e = .returned (.pointer (some ⟨p, 0, none⟩)) ∧ Dev F w' p (newD sx wx) ∧ (∀ k ∈ F, w.heap.size ≤ k) ∧ Below w.heap.size w w' := by
  have hw1 : Calls Tryz.prog 85 #[.int .i64 sx, .int .i64 4096] w fun e w'' => e = .returned (.int .i64 ((clampD sx 4096 : Nat) : Int)) ∧ w'' = w := by
    have := within_walk sx 4096 w
    rw [show ((4096 : Nat) : Int) = 4096 by simp] at this
    exact this
  have HW2 : Hid (∀ w', Calls Tryz.prog 85 #[.int .i64 wx, .int .i64 100000] w' fun e w'' => e = .returned (.int .i64 ((clampD wx 100000 : Nat) : Int)) ∧ w'' = w') := hide (fun w' => by
    have := within_walk wx 100000 w'
    rw [show ((100000 : Nat) : Int) = 100000 by simp] at this
    exact this)
  have HW1 := hide hw1
  clear hw1
  have hcn := clampD_le sx 4096
  have HD0 := hide (newD_kept sx wx)
  have HOK := hide (newD_ok sx wx)
  have HKE : Hid ((newD sx wx).kept = List.replicate (clampD sx 4096) blankS ∧ (newD sx wx).now = List.replicate (clampD sx 4096) blankS ∧ (newD sx wx).wear = List.replicate (clampD sx 4096) 0 ∧ (newD sx wx).wait = [] ∧ (newD sx wx).most = clampD wx 100000 ∧ (newD sx wx).budget = -1 ∧ (newD sx wx).down = false) := hide ⟨rfl, rfl, rfl, rfl, rfl, rfl, rfl⟩
  generalize newD sx wx = d at *
  generalize clampD sx 4096 = n at *
  generalize clampD wx 100000 = m at *
  go_enter Tryz.func48, Tryz.ntmps48
  go_wp2_with fail
  refine (unhide HW1).mono ?_
  rintro e w1 ⟨rfl, hw1⟩
  subst w1
  clear HW1
  go_wp2_with fail
  refine Flow.wp_region (fun j v s _ => v = newF d (fun j => match j with | 0 => .int .i64 (n : Int) | 1 => undef | 2 => .int .i64 (n : Int) | 3 => undef | 4 => .int .i64 (n : Int) | 5 => undef | 6 => .int .i64 wx | 7 => .int .i64 (m : Int) | 8 => undef | 9 => undef | 10 => undef | _ => undef) j s) (NewC w d) ⟨0, 0, 0, 0⟩ (by kernel_rfl) (by kernel_rfl) ⟨(Below.refl _ w).drew, (fun e => by cases e), (fun e => by cases e), (fun e => by cases e), (fun e => by cases e)⟩ ⟨?_, ?_, ?_, ?_, ?_, ?_, ?_, ?_, ?_, ?_, ?_, trivial⟩ ?_
  · exact Flow.move (Flow.goes_plain rfl) (NewC.upd (by decide) (by decide) (by decide) (by decide)) (.inl rfl) fun a s w' hs hd => (hs 5 (by kernel_rfl))
  · refine Flow.call (Flow.goes_plain rfl) fun a L s w' hC hL hn hs hd => ⟨86, _, op_call86 rfl (hd 0 8 (by kernel_rfl)) rfl w', (blanks_walk n hcn w').mono ?_⟩
    rintro e w'' ⟨b, rfl, hA, hlt, hb⟩
    refine ⟨_, { s with k := b }, rfl, newF_one b hL (hn.after 8 (by kernel_rfl)) (hn.after 9 (by kernel_rfl)) (hn.after 10 (by kernel_rfl)), hC.one hb (hn.after 9 (by kernel_rfl)) hlt (by rw [(unhide HKE).1]; exact hA), ?_⟩
    show _ = Value.slice _ d.kept.length d.kept.length
    rw [unhide HD0]
  · exact Flow.move (Flow.goes_plain rfl) (NewC.upd (by decide) (by decide) (by decide) (by decide)) (.inl rfl) fun a s w' hs hd => (hs 5 (by kernel_rfl))
  · refine Flow.call (Flow.goes_plain rfl) fun a L s w' hC hL hn hs hd => ⟨86, _, op_call86 rfl (hd 2 10 (by kernel_rfl)) rfl w', (blanks_walk n hcn w').mono ?_⟩
    rintro e w'' ⟨b, rfl, hA, hlt, hb⟩
    refine ⟨_, { s with n := b }, rfl, newF_two b hL (hn.after 8 (by kernel_rfl)), hC.two hb (hn.after 9 (by kernel_rfl)) hlt (by rw [(unhide HKE).2.1]; exact hA), ?_⟩
    show _ = Value.slice _ d.kept.length d.kept.length
    rw [unhide HD0]
  · exact Flow.move (Flow.goes_plain rfl) (NewC.upd (by decide) (by decide) (by decide) (by decide)) (.inl rfl) fun a s w' hs hd => (hs 5 (by kernel_rfl))
  · refine Flow.value (Flow.goes_plain rfl) fun a L s w' hC hL hn hs hd => ?_
    obtain ⟨C, hr, hCC⟩ := op_make63 (ρ := a.eval) (hd 4 12 (by kernel_rfl)) (hd 4 12 (by kernel_rfl)) hcn w'
    refine ⟨_, { s with w := w'.heap.size }, _, hr _ rfl, newF_three _ hL (hn.after 8 (by kernel_rfl)), hC.three ((Below.refl _ _).alloc (Nat.le_refl _) _) (hn.after 9 (by kernel_rfl)) (Nat.le_refl _) ⟨C, 3, heap_alloc_new w' _, by rw [(unhide HKE).2.2.1]; exact hCC⟩, ?_⟩
    show _ = Value.slice _ d.kept.length d.kept.length
    rw [unhide HD0]
  · exact Flow.move (Flow.goes_plain rfl) (NewC.upd (by decide) (by decide) (by decide) (by decide)) (.inl rfl) fun a s w' hs hd => (hs 1 (by kernel_rfl))
  · refine Flow.call (Flow.goes_plain rfl) fun a L s w' hC hL hn hs hd => ⟨85, #[.int .i64 wx, .int .i64 100000], op_call85 (v0 := .int .i64 wx) (v1 := .int .i64 100000) rfl (hd 6 14 (by kernel_rfl)) rfl rfl w', (unhide HW2 w').mono ?_⟩
    rintro e w'' ⟨rfl, hw''⟩
    subst w''
    exact ⟨_, s, rfl, fun _ _ _ h => h, NewC.upd (by decide) (by decide) (by decide) (by decide) _ _ _ hC, rfl⟩
  · refine Flow.pure (Flow.goes_plain rfl) (NewC.upd (by decide) (by decide) (by decide) (by decide)) fun a L s w' hC hL hn hs hd => ?_
    refine ⟨_, op_build149 rfl (hd 1 9 (by kernel_rfl)) (hd 3 11 (by kernel_rfl)) (hd 5 13 (by kernel_rfl)) (hd 7 15 (by kernel_rfl)) rfl w', ?_⟩
    show _ = Value.agg (devV s.k s.n s.w (.slice none 0 0) d).toArray
    unfold devV
    rw [(unhide HKE).2.2.2.2.1, (unhide HKE).2.2.2.2.2.1, (unhide HKE).2.2.2.2.2.2]
  · refine Flow.value (Flow.goes_plain rfl) fun a L s w' hC hL hn hs hd => ?_
    refine ⟨_, { s with p := w'.heap.size }, _, op_box rfl (hd 8 16 (by kernel_rfl)) w', newF_four _ hL (hn.after 10 (by kernel_rfl)), hC.four ((Below.refl _ _).alloc (Nat.le_refl _) _) (hn.done 1 (by kernel_rfl)) (hn.done 3 (by kernel_rfl)) (hn.done 5 (by kernel_rfl)) (Nat.le_refl _) ⟨_, 149, heap_alloc_new w' _, rfl⟩, rfl⟩
  · exact Flow.move (Flow.goes_plain rfl) (NewC.upd (by decide) (by decide) (by decide) (by decide)) (.inr rfl) fun a s w' hs hd => (hd 9 17 (by kernel_rfl))
  · intro L g w4 hC hL vals hv
    have e10 : vals 10 = .pointer (some ⟨g.p, 0, none⟩) := hv 10 _ 4 rfl rfl
    simp only [Free.putAll, Act.put, List.setIfInBounds_toArray, List.set_cons_succ, List.set_cons_zero, e10]
    clear hv e10
    generalize vals 0 = y0 at *
    generalize vals 1 = y1 at *
    generalize vals 2 = y2 at *
    generalize vals 3 = y3 at *
    generalize vals 4 = y4 at *
    generalize vals 5 = y5 at *
    generalize vals 6 = y6 at *
    generalize vals 7 = y7 at *
    generalize vals 8 = y8 at *
    generalize vals 9 = y9 at *
    go_wp2_with fail
    go_ret
    have hk := hC.k (hL 1 (by decide))
    have hn := hC.n (hL 3 (by decide))
    have hw := hC.w (hL 5 (by decide))
    have hp := hC.p (hL 9 (by decide))
    refine ⟨_, g.p, rfl, ⟨g.k, g.n, g.w, .slice none 0 0, rfl, ⟨unhide HOK, ?_, hp.2.1, hk.2, hn.2.1, hw.2.1, ?_⟩⟩, ?_, hC.below⟩
    · have n1 := hn.2.2 (hL 1 (by decide))
      have n2 := hw.2.2.1 (hL 1 (by decide))
      have n3 := hw.2.2.2 (hL 3 (by decide))
      simp [devF, Value.ownBlock, hp.2.2.1, hp.2.2.2.1, hp.2.2.2.2, n1, n2, n3]
    · rw [(unhide HKE).2.2.2.1]
      exact World.ownsRow_nil _ _ _ _
    · intro k hk'
      simp only [devF, List.mem_cons, Value.ownBlock, Option.toList_none, List.not_mem_nil, or_false] at hk'
      rcases hk' with rfl | rfl | rfl | rfl
      · exact hp.1
      · exact hk.1
      · exact hn.1
      · exact hw.1
end Go.Proofs.YtdfdalkcljfghaaGreat
