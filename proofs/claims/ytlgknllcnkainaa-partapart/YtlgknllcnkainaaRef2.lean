/-
  Erase, Program and Sync of the document's device.
-/
import Derived.Test.YtlgknllcnkainaaRef
namespace Go.Proofs.Ytlgknllcnkainaa
open Go.RowKit

theorem RefB.wearSet {bk bw : Nat} {wv : Value} {w : World} {p : Nat} {r : RM} (h : RefB bk bw wv w p r) {k : Nat} (hk : r.wear.getD k 0 < r.most) : RefB bk bw wv (w.setCell ⟨bw, k, none⟩ (.int .i64 ((r.wear.getD k 0 + 1 : Nat) : Int))) p (wornR r k) := by
  obtain ⟨n1, n2, n3, n7, n8, n9, _⟩ := nodupR h.nodup
  exact { ok := { h.ok with wear := by show (r.wear.set k _).length = r.kept.length; rw [List.length_set]; exact h.ok.wear
                            wearM := set_mem h.ok.wearM _ _ hk }
          low := h.low, nodup := h.nodup, dev := h.dev.other _ _ n2, kept := h.kept.other _ _ n3, wear := by
            have := h.wear.set k (.int .i64 ((r.wear.getD k 0 + 1 : Nat) : Int))
            rw [intsV_set] at this
            exact this
          done := owns_same h.done fun j hj => Below.heap_setCell _ _ _ _ (n9 j hj).symm }
theorem RefB.keptSet {bk bw : Nat} {wv : Value} {w : World} {p : Nat} {r : RM} (h : RefB bk bw wv w p r) {k : Nat} (hk : k < r.kept.length) {s : Sec} (hs : s.length = 64) : RefB bk bw wv (w.setCells bk (k * 64) (bytesV s)) p { r with kept := r.kept.set k s } := by
  obtain ⟨n1, n2, n3, n7, n8, n9, _⟩ := nodupR h.nodup
  have hb := setCells_but bk (k * 64) (bytesV s) w
  have e : refV bk bw wv { r with kept := r.kept.set k s } = refV bk bw wv r := by simp [refV]
  have el : (r.kept.set k s).length = r.kept.length := List.length_set
  refine { ok := { h.ok with wear := h.ok.wear.trans el.symm, keptS := set_mem h.ok.keptS _ _ hs, doneS := ?_, few := by show (r.kept.set k s).length ≤ _; rw [el]; exact h.ok.few }, low := h.low, nodup := h.nodup, dev := by rw [e]; exact h.dev.same (hb _ n1), kept := h.kept.secSet h.ok.keptS hk hs, wear := h.wear.same (hb _ n3.symm), done := owns_same h.done fun j hj => hb j (n8 j hj).symm }
  intro x hx
  have := h.ok.doneS x hx
  show x.1 < (r.kept.set k s).length ∧ _
  rw [el]; exact this
theorem RefB.noDone {bk bw : Nat} {wv : Value} {w : World} {p : Nat} {r : RM} (h : RefB bk bw wv w p r) :
    RefB bk bw (.slice none 0 0) (w.setCell ⟨p, 3, none⟩ (.slice none 0 0)) p { r with done := [] } ∧ Turns (refF p bk bw wv) (refF p bk bw (.slice none 0 0)) w (w.setCell ⟨p, 3, none⟩ (.slice none 0 0)) := by
  obtain ⟨n1, n2, n3, n7, n8, n9, _⟩ := nodupR h.nodup
  refine ⟨{ ok := { h.ok with doneS := fun x hx => by cases hx }, low := h.low, nodup := ?_, dev := h.dev.set 3 _, kept := h.kept.other _ _ n1.symm, wear := h.wear.other _ _ n2.symm, done := World.ownsRow_nil _ _ _ _ }, But.of_grown (set_grown _ _ _ _) (by simp [refF]), ?_⟩
  · simp [refF, Value.ownBlock, n1, n2, n3]
  · intro k hk
    simp only [refF, List.mem_cons, Value.ownBlock, Option.toList_none, List.not_mem_nil, or_false] at hk ⊢
    rcases hk with e | e | e
    · exact .inl (.inl e)
    · exact .inl (.inr (.inl e))
    · exact .inl (.inr (.inr (.inl e)))
theorem RefB.more {bk bw : Nat} {wv v : Value} {w w1 : World} {p : Nat} {r : RM} (h : RefB bk bw wv w p r) {x : Nat × Sec} (hr : x.1 < r.kept.length ∧ x.2.length = 64) (hown : w1.ownsRow 0 99 65 v (r.done ++ [x]).length (donesV (r.done ++ [x])))
    (hb : But wv.ownBlock.toList w w1) (hf : ∀ k ∈ v.ownBlock.toList, k ∈ wv.ownBlock.toList ∨ w.heap.size ≤ k) :
    RefB bk bw v (w1.setCell ⟨p, 3, none⟩ v) p { r with done := r.done ++ [x] } ∧ Turns (refF p bk bw wv) (refF p bk bw v) w (w1.setCell ⟨p, 3, none⟩ v) := by
  have hlt := h.lt
  obtain ⟨n1, n2, n3, n7, n8, n10, _⟩ := nodupR h.nodup
  have hp := hlt p (by simp [refF])
  have hk := hlt bk (by simp [refF])
  have hw := hlt bw (by simp [refF])
  have fr : ∀ x, x < w.heap.size → (∀ j ∈ wv.ownBlock.toList, x ≠ j) → ∀ j ∈ v.ownBlock.toList, x ≠ j := fun x hx hne j hj e => by
    subst e
    rcases hf _ hj with e1 | e1
    · exact hne _ e1 rfl
    · omega
  have same : ∀ x, x < w.heap.size → (∀ j ∈ wv.ownBlock.toList, x ≠ j) → w1.heap[x]? = w.heap[x]? := fun x hx hne => hb.block x hx fun e => hne x e rfl
  have nd : v.ownBlock.toList.Nodup := by cases v.ownBlock <;> simp
  have g7 := fr p hp n7
  have g8 := fr bk hk n8
  have g10 := fr bw hw n10
  refine ⟨{ ok := { h.ok with doneS := ?_ }, low := h.low, nodup := ?_, dev := (h.dev.same (same p hp n7)).set 3 v, kept := (h.kept.same (same bk hk n8)).other _ _ n1.symm, wear := (h.wear.same (same bw hw n10)).other _ _ n2.symm, done := owns_same hown fun j hj => Below.heap_setCell _ _ _ _ (g7 j hj).symm }, ?_, ?_⟩
  · intro y hy
    rcases List.mem_append.1 hy with h1 | h1
    · exact h.ok.doneS y h1
    · simp at h1; subst h1; exact hr
  · simp only [refF, List.nodup_cons, List.mem_cons, not_or]
    exact ⟨⟨n1, n2, fun e => g7 _ e rfl⟩, ⟨n3, fun e => g8 _ e rfl⟩, fun e => g10 _ e rfl, nd⟩
  · have b1 : But (refF p bk bw wv) w w1 := ⟨hb.os, hb.tape, hb.output, hb.size, fun k hk hn => hb.block k hk fun e => hn (by simp only [refF, List.mem_cons]; exact .inr (.inr (.inr e)))⟩
    exact b1.trans (But.of_grown (F := [p]) (set_grown _ _ _ _) (by simp)) fun k hk => .inl (by simp at hk; subst hk; simp [refF])
  · intro k hk
    simp only [refF, List.mem_cons] at hk ⊢
    rcases hk with e | e | e | e
    · exact .inl (.inl e)
    · exact .inl (.inr (.inl e))
    · exact .inl (.inr (.inr (.inl e)))
    · rcases hf k e with e1 | e1
      · exact .inl (.inr (.inr (.inr e1)))
      · exact .inr e1

section
variable {F : List Nat} {w : World} {p : Nat} {r : RM}

set_option maxHeartbeats 1600000 in
set_option maxRecDepth 100000 in
theorem rerase_walk (h : Ref F w p r) (i : Int) (hlen : r.done.length ≤ 1000000) :
    Calls Try.prog 50 #[.pointer (some ⟨p, 0, none⟩), .int .i64 i] w fun e w' => e = .returned (.int .i64 (eraseR r i).1) ∧ ∃ F', Ref F' w' p (eraseR r i).2 ∧ Turns F F' w w' := by
  have HO := hide (in_walk h i)
  have HD := hide h
  have hc6 : w.cell? ⟨p, 6, none⟩ = some (.bool r.down) := by
    obtain ⟨bk, bw, wv, rfl, hB⟩ := h
    exact hB.dev.cell (i := 6) rfl
  cases hh : hasD r.kept.length i with
  | false =>
    have E : Hid (eraseR r i = (61, r)) := hide (by unfold eraseR; rw [if_pos hh])
    rw [unhide E]
    rw [hh] at HO
    clear h
    go_enter Try.func50, Try.ntmps50
    go_wp2_with fail
    refine (unhide HO).mono ?_
    rintro e w1 ⟨rfl, hw1⟩
    subst w1
    clear HO
    go_wp2_with fail
    go_ret
    exact ⟨rfl, F, unhide HD, Turns.refl _ _⟩
  | true =>
  rw [hh] at HO
  have hhn : ¬ hasD r.kept.length i = false := by rw [hh]; decide
  obtain ⟨k, rfl, hk⟩ := hasD_nat hh
  cases hdn : r.down with
  | true =>
    have E : Hid (eraseR r (k : Int) = (62, r)) := hide (by unfold eraseR; rw [if_neg hhn, if_pos hdn])
    rw [unhide E]
    rw [hdn] at hc6
    clear h
    go_enter Try.func50, Try.ntmps50
    go_wp2_with fail
    refine (unhide HO).mono ?_
    rintro e w1 ⟨rfl, hw1⟩
    subst w1
    clear HO
    go_wp2_with fail
    go_ret
    exact ⟨rfl, F, unhide HD, Turns.refl _ _⟩
  | false =>
  rw [hdn] at hc6
  have hdd : ¬ r.down = true := by rw [hdn]; decide
  have HDW := hide h.drew
  obtain ⟨bk, bw, wv, hF, hB⟩ := h
  have hc1 := hB.dev.cell (i := 1) rfl
  have hc2 := hB.dev.cell (i := 2) rfl
  have hcw := hB.wear.cell (intsV_get r.wear (i := k) (by rw [hB.ok.wear]; exact hk))
  have hwl : r.wear.getD k 0 ≤ r.most := by
    rw [List.getD_eq_getElem?_getD, List.getElem?_eq_getElem (by rw [hB.ok.wear]; exact hk)]
    exact hB.ok.wearM _ (List.getElem_mem _)
  have hwm : Hid (r.wear.getD k 0 ≤ 100000) := hide (by have h1 := hB.ok.most; omega)
  clear hF hB
  by_cases hw : r.wear.getD k 0 = r.most
  · have E : Hid (eraseR r (k : Int) = (64, r)) := hide (by unfold eraseR; rw [if_neg hhn, if_neg hdd, if_pos (by simpa using hw)])
    rw [unhide E]
    go_enter Try.func50, Try.ntmps50
    go_wp2_with fail
    refine (unhide HO).mono ?_
    rintro e w1 ⟨rfl, hw1⟩
    subst w1
    clear HO
    go_wp2_with fail
    refine Flow.wp_region (Flow.VV (fun j => match j with | 0 => .pointer (some ⟨p, 0, none⟩) | 1 => .pointer (some ⟨p, 0, none⟩) | 2 => .pointer (some ⟨p, 1, none⟩) | 3 => .slice (some ⟨bw, 0, none⟩) r.kept.length r.kept.length | 4 => .int .i64 (k : Int) | 5 => .pointer (some ⟨bw, k, none⟩) | 6 => .int .i64 ((r.wear.getD k 0 : Nat) : Int) | 7 => .pointer (some ⟨p, 0, none⟩) | 8 => .pointer (some ⟨p, 0, none⟩) | 9 => .pointer (some ⟨p, 2, none⟩) | 10 => .int .i64 (r.most : Int) | 11 => .bool true | _ => undef)) (fun _ (_ : Unit) w' => w' = w.drew) () (by kernel_rfl) (by kernel_rfl) rfl ⟨?_, ?_, ?_, ?_, ?_, ?_, ?_, ?_, ?_, ?_, ?_, ?_, trivial⟩ ?_
    · exact Flow.move (Flow.goes_plain rfl) (fun _ _ _ h => h) (.inl rfl) fun a s w' hs hd => (hs 0 (by kernel_rfl))
    · refine Flow.pure (Flow.goes_plain rfl) (fun _ _ _ h => h) fun a L s w' hC hL hn hs hd => ?_
      skip
      exact ⟨_, op_nil rfl (hd 0 13 (by kernel_rfl)) w', rfl⟩
    · refine Flow.pure (Flow.goes_plain rfl) (fun _ _ _ h => h) fun a L s w' hC hL hn hs hd => ?_
      skip
      exact ⟨_, op_f92_1 rfl (hd 1 14 (by kernel_rfl)) w', rfl⟩
    · refine Flow.pure (Flow.goes_plain rfl) (fun _ _ _ h => h) fun a L s w' hC hL hn hs hd => ?_
      skip
      exact ⟨_, op_load41 rfl (hd 2 15 (by kernel_rfl)) (by rw [hC]; exact hc1), rfl⟩
    · exact Flow.move (Flow.goes_plain rfl) (fun _ _ _ h => h) (.inl rfl) fun a s w' hs hd => (hs 1 (by kernel_rfl))
    · refine Flow.pure (Flow.goes_plain rfl) (fun _ _ _ h => h) fun a L s w' hC hL hn hs hd => ?_
      skip
      exact ⟨_, op_idx41 rfl (hd 3 16 (by kernel_rfl)) (hd 4 17 (by kernel_rfl)) hk w', rfl⟩
    · refine Flow.pure (Flow.goes_plain rfl) (fun _ _ _ h => h) fun a L s w' hC hL hn hs hd => ?_
      skip
      exact ⟨_, op_load3 rfl (hd 5 18 (by kernel_rfl)) (by rw [hC]; exact hcw), rfl⟩
    · exact Flow.move (Flow.goes_plain rfl) (fun _ _ _ h => h) (.inl rfl) fun a s w' hs hd => (hs 0 (by kernel_rfl))
    · refine Flow.pure (Flow.goes_plain rfl) (fun _ _ _ h => h) fun a L s w' hC hL hn hs hd => ?_
      skip
      exact ⟨_, op_nil rfl (hd 7 20 (by kernel_rfl)) w', rfl⟩
    · refine Flow.pure (Flow.goes_plain rfl) (fun _ _ _ h => h) fun a L s w' hC hL hn hs hd => ?_
      skip
      exact ⟨_, op_f92_2 rfl (hd 8 21 (by kernel_rfl)) w', rfl⟩
    · refine Flow.pure (Flow.goes_plain rfl) (fun _ _ _ h => h) fun a L s w' hC hL hn hs hd => ?_
      skip
      exact ⟨_, op_load3 rfl (hd 9 22 (by kernel_rfl)) (by rw [hC]; exact hc2), rfl⟩
    · refine Flow.pure (Flow.goes_plain rfl) (fun _ _ _ h => h) fun a L s w' hC hL hn hs hd => ?_
      skip
      exact ⟨_, op_eql3 rfl (hd 6 19 (by kernel_rfl)) (hd 10 23 (by kernel_rfl)) (by rw [beq_iff_eq]; omega) w', rfl⟩
    · intro L _ w4 hC hL vals hv
      have e11 : vals 11 = .bool true := hv 11 _ 24 rfl rfl
      simp only [Free.putAll, Act.put, List.setIfInBounds_toArray, List.set_cons_succ, List.set_cons_zero, e11]
      subst w4
      clear hv hL e11
      generalize vals 0 = x0 at *
      generalize vals 1 = x1 at *
      generalize vals 2 = x2 at *
      generalize vals 3 = x3 at *
      generalize vals 4 = x4 at *
      generalize vals 5 = x5 at *
      generalize vals 6 = x6 at *
      generalize vals 7 = x7 at *
      generalize vals 8 = x8 at *
      generalize vals 9 = x9 at *
      generalize vals 10 = x10 at *
      go_wp2_with fail
      go_ret
      exact ⟨rfl, F, unhide HDW, Turns.of_below (Below.refl _ w).drew⟩
  · obtain ⟨e1, r1, hst⟩ : ∃ e1 r1, spendR r = (e1, r1) := ⟨_, _, rfl⟩
    have hlt : r.wear.getD k 0 < r.most := by omega
    have HST := hide (spend_walk (unhide HDW))
    rw [hst] at HST
    have hwe : r1.wear = r.wear := by rw [← spend_wear r, hst]
    have hmo : r1.most = r.most := by
      have : (spendR r).2.most = r.most := by unfold spendR; split <;> rfl
      rw [hst] at this
      exact this
    have hke : r1.kept = r.kept := by rw [← spend_kept r, hst]
    have hwa : r1.done = r.done := by rw [← spend_done r, hst]
    cases e1 with
    | true =>
      have E : Hid (eraseR r (k : Int) = (0, doneR (wornR r1 k) k blankS)) := hide (by
        unfold eraseR; rw [if_neg hhn, if_neg hdd, if_neg (by simpa using hw), if_neg (by rw [hst]; simp), hst]; rfl)
      rw [unhide E]
      have HK := hide hk
      have HW := hide (And.intro hwe (And.intro hmo (And.intro hke hwa)))
      clear hst hwe hmo hke hwa E
      go_enter Try.func50, Try.ntmps50
      go_wp2_with fail
      refine (unhide HO).mono ?_
      rintro e w1 ⟨rfl, hw1⟩
      subst w1
      clear HO
      go_wp2_with fail
      refine Flow.wp_region (Flow.VV (fun j => match j with | 0 => .pointer (some ⟨p, 0, none⟩) | 1 => .pointer (some ⟨p, 0, none⟩) | 2 => .pointer (some ⟨p, 1, none⟩) | 3 => .slice (some ⟨bw, 0, none⟩) r.kept.length r.kept.length | 4 => .int .i64 (k : Int) | 5 => .pointer (some ⟨bw, k, none⟩) | 6 => .int .i64 ((r.wear.getD k 0 : Nat) : Int) | 7 => .pointer (some ⟨p, 0, none⟩) | 8 => .pointer (some ⟨p, 0, none⟩) | 9 => .pointer (some ⟨p, 2, none⟩) | 10 => .int .i64 (r.most : Int) | 11 => .bool false | _ => undef)) (fun _ (_ : Unit) w' => w' = w.drew) () (by kernel_rfl) (by kernel_rfl) rfl ⟨?_, ?_, ?_, ?_, ?_, ?_, ?_, ?_, ?_, ?_, ?_, ?_, trivial⟩ ?_
      · exact Flow.move (Flow.goes_plain rfl) (fun _ _ _ h => h) (.inl rfl) fun a s w' hs hd => (hs 0 (by kernel_rfl))
      · refine Flow.pure (Flow.goes_plain rfl) (fun _ _ _ h => h) fun a L s w' hC hL hn hs hd => ?_
        skip
        exact ⟨_, op_nil rfl (hd 0 13 (by kernel_rfl)) w', rfl⟩
      · refine Flow.pure (Flow.goes_plain rfl) (fun _ _ _ h => h) fun a L s w' hC hL hn hs hd => ?_
        skip
        exact ⟨_, op_f92_1 rfl (hd 1 14 (by kernel_rfl)) w', rfl⟩
      · refine Flow.pure (Flow.goes_plain rfl) (fun _ _ _ h => h) fun a L s w' hC hL hn hs hd => ?_
        skip
        exact ⟨_, op_load41 rfl (hd 2 15 (by kernel_rfl)) (by rw [hC]; exact hc1), rfl⟩
      · exact Flow.move (Flow.goes_plain rfl) (fun _ _ _ h => h) (.inl rfl) fun a s w' hs hd => (hs 1 (by kernel_rfl))
      · refine Flow.pure (Flow.goes_plain rfl) (fun _ _ _ h => h) fun a L s w' hC hL hn hs hd => ?_
        skip
        exact ⟨_, op_idx41 rfl (hd 3 16 (by kernel_rfl)) (hd 4 17 (by kernel_rfl)) hk w', rfl⟩
      · refine Flow.pure (Flow.goes_plain rfl) (fun _ _ _ h => h) fun a L s w' hC hL hn hs hd => ?_
        skip
        exact ⟨_, op_load3 rfl (hd 5 18 (by kernel_rfl)) (by rw [hC]; exact hcw), rfl⟩
      · exact Flow.move (Flow.goes_plain rfl) (fun _ _ _ h => h) (.inl rfl) fun a s w' hs hd => (hs 0 (by kernel_rfl))
      · refine Flow.pure (Flow.goes_plain rfl) (fun _ _ _ h => h) fun a L s w' hC hL hn hs hd => ?_
        skip
        exact ⟨_, op_nil rfl (hd 7 20 (by kernel_rfl)) w', rfl⟩
      · refine Flow.pure (Flow.goes_plain rfl) (fun _ _ _ h => h) fun a L s w' hC hL hn hs hd => ?_
        skip
        exact ⟨_, op_f92_2 rfl (hd 8 21 (by kernel_rfl)) w', rfl⟩
      · refine Flow.pure (Flow.goes_plain rfl) (fun _ _ _ h => h) fun a L s w' hC hL hn hs hd => ?_
        skip
        exact ⟨_, op_load3 rfl (hd 9 22 (by kernel_rfl)) (by rw [hC]; exact hc2), rfl⟩
      · refine Flow.pure (Flow.goes_plain rfl) (fun _ _ _ h => h) fun a L s w' hC hL hn hs hd => ?_
        skip
        exact ⟨_, op_eql3 rfl (hd 6 19 (by kernel_rfl)) (hd 10 23 (by kernel_rfl)) (by rw [beq_eq_false_iff_ne]; omega) w', rfl⟩
      · intro L _ w4 hC hL vals hv
        have e11 : vals 11 = .bool false := hv 11 _ 24 rfl rfl
        simp only [Free.putAll, Act.put, List.setIfInBounds_toArray, List.set_cons_succ, List.set_cons_zero, e11]
        subst w4
        clear hv hL e11
        generalize vals 0 = x0 at *
        generalize vals 1 = x1 at *
        generalize vals 2 = x2 at *
        generalize vals 3 = x3 at *
        generalize vals 4 = x4 at *
        generalize vals 5 = x5 at *
        generalize vals 6 = x6 at *
        generalize vals 7 = x7 at *
        generalize vals 8 = x8 at *
        generalize vals 9 = x9 at *
        generalize vals 10 = x10 at *
        go_wp2_with fail
        refine (unhide HST).mono ?_
        rintro e w2 ⟨rfl, hD2, hB2, hs2⟩
        have HB2 := hide hB2
        obtain ⟨bk2, bw2, wv2, hF, hB⟩ := hD2
        obtain ⟨g1, g2, g3, g4⟩ := unhide HW
        have hc1 := hB.dev.cell (i := 1) rfl
        have hcw := hB.wear.cell (intsV_get r1.wear (i := k) (by rw [hB.ok.wear, g3]; exact hk))
        have hfw := hB.wear.free k
        rw [g3] at hc1
        have hset := hB.wearSet (k := k) (by rw [g1, g2]; exact hlt)
        rw [g1] at hset hcw
        have HK1 : Hid (k < r1.kept.length) := hide (by rw [g3]; exact hk)
        have HL1 : Hid (r1.done.length ≤ 1000000) := hide (by rw [g4]; exact hlen)
        have HSET := hide hset
        have HMEM : Hid (bw2 ∈ F) := hide (by rw [hF]; simp [refF])
        have HF := hide hF
        clear hset hB hB2 hF HST hw hlt HD HDW g1 g2 g3 g4 hwl
        have hwm2 := unhide hwm
        generalize r.wear.getD k 0 = c at *
        generalize r.kept.length = n at *
        go_wp2_with fail
        have HB3 : Hid (But F w (w2.setCell ⟨bw2, k, none⟩ (.int .i64 ((c + 1 : Nat) : Int)))) := hide ((unhide HB2).undrew.trans (But.of_grown (F := F) (set_grown _ _ _ _) (unhide HMEM)) (fun _ h => .inl h))
        have ec : ((c + 1 : Nat) : Int) = (c : Int) + 1 := by omega
        rw [ec] at HB3 HSET
        clear HB2 HMEM hc1 hcw hfw ec
        generalize w2.setCell ⟨bw2, k, none⟩ (.int .i64 ((c : Int) + 1)) = w4 at *
        have hc3 := (unhide HSET).dev.cell (i := 3) rfl
        have hd0 : (wornR r1 k).done = r1.done := rfl
        refine Flow.wp_region (appV w4.drew (k, blankS) 8 9 (fun j => match j with | 0 => .pointer (some ⟨p, 0, none⟩) | 1 => .pointer (some ⟨p, 0, none⟩) | 2 => .pointer (some ⟨p, 0, none⟩) | 3 => .pointer (some ⟨p, 3, none⟩) | 4 => wv2 | 5 => .int .i64 (k : Int) | 6 => secV blankS | 7 => .agg (doneV (k, blankS)).toArray | 8 => undef | 9 => undef | 10 => .pointer (some ⟨p, 0, none⟩) | 11 => .pointer (some ⟨p, 3, none⟩) | 12 => undef | _ => undef)) (appC w4.drew 9 12 (fun v w' => w'.ownsRow 0 99 65 v (r1.done ++ [(k, blankS)]).length (donesV (r1.done ++ [(k, blankS)])) ∧ But wv2.ownBlock.toList w4 w' ∧ ∀ j ∈ v.ownBlock.toList, j ∈ wv2.ownBlock.toList ∨ w4.heap.size ≤ j) (fun w' => ∃ v w1, (w1.ownsRow 0 99 65 v (r1.done ++ [(k, blankS)]).length (donesV (r1.done ++ [(k, blankS)])) ∧ But wv2.ownBlock.toList w4 w1 ∧ ∀ j ∈ v.ownBlock.toList, j ∈ wv2.ownBlock.toList ∨ w4.heap.size ≤ j) ∧ w' = w1.setCell ⟨p, 3, none⟩ v)) none (by kernel_rfl) (by kernel_rfl) ⟨rfl, rfl, Below.refl _ _⟩ ⟨?_, ?_, ?_, ?_, ?_, ?_, ?_, ?_, ?_, ?_, ?_, ?_, ?_, trivial⟩ ?_
        · exact Flow.move (Flow.goes_plain rfl) (appC.upd (by decide) (by decide)) (.inl rfl) fun a s w' hs hd => (hs 0 (by kernel_rfl))
        · exact Flow.move (Flow.goes_plain rfl) (appC.upd (by decide) (by decide)) (.inl rfl) fun a s w' hs hd => (hs 0 (by kernel_rfl))
        · refine Flow.pure (Flow.goes_plain rfl) (appC.upd (by decide) (by decide)) fun a L s w' hC hL hn hs hd => ?_
          skip
          exact ⟨_, op_nil rfl (hd 1 38 (by kernel_rfl)) w', rfl⟩
        · refine Flow.pure (Flow.goes_plain rfl) (appC.upd (by decide) (by decide)) fun a L s w' hC hL hn hs hd => ?_
          skip
          exact ⟨_, op_f92_3 rfl (hd 2 39 (by kernel_rfl)) w', rfl⟩
        · refine Flow.pure (Flow.goes_plain rfl) (appC.upd (by decide) (by decide)) fun a L s w' hC hL hn hs hd => ?_
          have hA := hC.pre (hn.after 9 (by kernel_rfl))
          exact ⟨_, op_load90 rfl (hd 3 40 (by kernel_rfl)) ((hA.2.cell (p := ⟨p, 3, none⟩) (unhide HSET).dev.lt).trans hc3), rfl⟩
        · exact Flow.move (Flow.goes_plain rfl) (appC.upd (by decide) (by decide)) (.inl rfl) fun a s w' hs hd => (hs 1 (by kernel_rfl))
        · refine Flow.call (Flow.goes_plain rfl) fun a L s0 w' hC hL hn hs hd => ⟨47, #[], op_call47 rfl rfl w', (rblank_walk w').mono ?_⟩
          rintro e w'' ⟨rfl, hb⟩
          obtain ⟨e0, hb0⟩ := hC.pre (hn.after 9 (by kernel_rfl))
          subst s0
          exact ⟨_, none, rfl, appV.grow hb, appC.put (by decide) (by decide) hC hb, rfl⟩
        · refine Flow.pure (Flow.goes_plain rfl) (appC.upd (by decide) (by decide)) fun a L s w' hC hL hn hs hd => ?_
          have hA := hC.pre (hn.after 9 (by kernel_rfl))
          exact ⟨_, op_build99 rfl (hd 5 42 (by kernel_rfl)) (hd 6 43 (by kernel_rfl)) blankS_len w', rfl⟩
        · refine Flow.value (Flow.goes_plain rfl) fun a L s0 w' hC hL hn hs hd => ?_
          obtain ⟨e0, hb0⟩ := hC.pre (hn.after 9 (by kernel_rfl))
          subst s0
          have hb8 : Below w'.heap.size w' (w'.alloc (.cells (doneV (k, blankS)).toArray 99)) := (Below.refl _ _).alloc (Nat.le_refl _) _
          exact ⟨_, none, _, op_slice90 rfl (hd 7 44 (by kernel_rfl)) blankS_len w', appV.grow hb8, appC.put (by decide) (by decide) hC hb8, fun _ => ⟨_, rfl, hb0.size, ⟨_, _, heap_alloc_new w' _, rfl⟩⟩⟩
        · refine Flow.value (Flow.goes_plain rfl) fun a L s0 w' hC hL hn hs hd => ?_
          obtain ⟨e0, hb0⟩ := hC.pre hL
          subst s0
          obtain ⟨b, hb1, hb2, hb3⟩ := (hd 8 45 (by kernel_rfl)) rfl
          have hwo : w'.ownsRow 0 99 65 wv2 r1.done.length (donesV r1.done) := owns_same (unhide HSET).done fun j hj => hb0.block j ((unhide HSET).lt j (by simp only [refF, List.mem_cons]; exact .inr (.inr (.inr hj))))
          obtain ⟨v', w9, hr9, q1, q2, q3⟩ := op_app90 (v := wv2) (hd 4 41 (by kernel_rfl)) hb1 hwo hb3 blankS_len (unhide HL1)
          refine ⟨v', some v', w9, hr9 _ rfl rfl, appV.app v', ?_, rfl⟩
          refine ⟨Flow.upd_eq, ?_⟩
          rw [Flow.upd_ne (by decide), hn.after 12 (by kernel_rfl)]
          refine ⟨q1, ⟨q2.os.trans hb0.os, q2.tape.trans hb0.tape, q2.output.trans hb0.output, Nat.le_trans hb0.size q2.size, fun j hj hne => ?_⟩, fun j hj => ?_⟩
          · rw [q2.block j (Nat.lt_of_lt_of_le hj hb0.size) (fun e => hne (by rw [← e]; simp)), hb0.block j hj]
            rfl
          · rcases q3 j hj with e1 | e1
            · exact .inl e1
            · exact .inr (Nat.le_trans hb0.size e1)
        · refine Flow.pure (Flow.goes_plain rfl) (appC.upd (by decide) (by decide)) fun a L s w' hC hL hn hs hd => ?_
          skip
          exact ⟨_, op_nil rfl (hd 0 37 (by kernel_rfl)) w', rfl⟩
        · refine Flow.pure (Flow.goes_plain rfl) (appC.upd (by decide) (by decide)) fun a L s w' hC hL hn hs hd => ?_
          skip
          exact ⟨_, op_f92_3 rfl (hd 10 47 (by kernel_rfl)) w', rfl⟩
        · refine Flow.store (Flow.goes_plain rfl) fun a L s0 w' hC hL hn hs hd => ?_
          obtain ⟨v, e0, hB⟩ := hC.mid (hn.done 9 (by kernel_rfl)) hL
          subst s0
          have e9 := (hd 9 46 (by kernel_rfl))
          have e9 : a.eval (.tmp 46) = v := (Option.some.inj e9).symm
          have hpd := (unhide HSET).dev.same (hB.2.1.block p (unhide HSET).dev.lt fun e => (nodupR (unhide HSET).nodup).2.2.2.1 p e rfl)
          obtain ⟨ad9, cap9, hv9, _, _⟩ := owns_slice hB.1
          rw [hv9] at e9
          refine ⟨some v, w'.setCell ⟨p, 3, none⟩ v, ?_, appV.set v, ⟨?_, ?_⟩, rfl⟩
          · rw [hv9]
            exact op_store90 rfl (hd 11 48 (by kernel_rfl)) e9 (hpd.cell (i := 3) rfl) (hpd.free 3)
          · rw [Flow.upd_ne (by decide)]; exact hn.done 9 (by kernel_rfl)
          · rw [Flow.upd_eq]
            exact ⟨v, w', hB, rfl⟩
        · intro L s0 w5 hC hL vals hv
          obtain ⟨v, w6, ⟨q1, q2, q3⟩, rfl⟩ := hC.end (hL 12 (by decide))
          have hfin := (unhide HSET).more (x := (k, blankS)) ⟨unhide HK1, blankS_len⟩ q1 q2 q3
          have HFN := hide hfin
          clear hC hL hv q1 q2 q3 hfin
          simp only [Free.putAll, Act.put, List.setIfInBounds_toArray, List.set_cons_succ, List.set_cons_zero]
          generalize vals 0 = y0 at *
          generalize vals 1 = y1 at *
          generalize vals 2 = y2 at *
          generalize vals 3 = y3 at *
          generalize vals 4 = y4 at *
          generalize vals 5 = y5 at *
          generalize vals 6 = y6 at *
          generalize vals 7 = y7 at *
          generalize vals 8 = y8 at *
          generalize vals 9 = y9 at *
          generalize vals 10 = y10 at *
          generalize vals 11 = y11 at *
          generalize w6.setCell ⟨p, 3, none⟩ v = w7 at *
          go_wp2_with fail
          go_ret
          refine ⟨rfl, _, ⟨bk2, bw2, v, rfl, (unhide HFN).1⟩, ?_⟩
          rw [unhide HF] at HB3 ⊢
          exact Turns.trans ⟨unhide HB3, fun _ h => .inl h⟩ (unhide HFN).2
    | false =>
      have E : Hid (eraseR r (k : Int) = (62, r1)) := hide (by
        unfold eraseR; rw [if_neg hhn, if_neg hdd, if_neg (by simpa using hw), if_pos (by rw [hst]), hst])
      rw [unhide E]
      clear hst hwe hmo hke hwa E
      go_enter Try.func50, Try.ntmps50
      go_wp2_with fail
      refine (unhide HO).mono ?_
      rintro e w1 ⟨rfl, hw1⟩
      subst w1
      clear HO
      go_wp2_with fail
      refine Flow.wp_region (Flow.VV (fun j => match j with | 0 => .pointer (some ⟨p, 0, none⟩) | 1 => .pointer (some ⟨p, 0, none⟩) | 2 => .pointer (some ⟨p, 1, none⟩) | 3 => .slice (some ⟨bw, 0, none⟩) r.kept.length r.kept.length | 4 => .int .i64 (k : Int) | 5 => .pointer (some ⟨bw, k, none⟩) | 6 => .int .i64 ((r.wear.getD k 0 : Nat) : Int) | 7 => .pointer (some ⟨p, 0, none⟩) | 8 => .pointer (some ⟨p, 0, none⟩) | 9 => .pointer (some ⟨p, 2, none⟩) | 10 => .int .i64 (r.most : Int) | 11 => .bool false | _ => undef)) (fun _ (_ : Unit) w' => w' = w.drew) () (by kernel_rfl) (by kernel_rfl) rfl ⟨?_, ?_, ?_, ?_, ?_, ?_, ?_, ?_, ?_, ?_, ?_, ?_, trivial⟩ ?_
      · exact Flow.move (Flow.goes_plain rfl) (fun _ _ _ h => h) (.inl rfl) fun a s w' hs hd => (hs 0 (by kernel_rfl))
      · refine Flow.pure (Flow.goes_plain rfl) (fun _ _ _ h => h) fun a L s w' hC hL hn hs hd => ?_
        skip
        exact ⟨_, op_nil rfl (hd 0 13 (by kernel_rfl)) w', rfl⟩
      · refine Flow.pure (Flow.goes_plain rfl) (fun _ _ _ h => h) fun a L s w' hC hL hn hs hd => ?_
        skip
        exact ⟨_, op_f92_1 rfl (hd 1 14 (by kernel_rfl)) w', rfl⟩
      · refine Flow.pure (Flow.goes_plain rfl) (fun _ _ _ h => h) fun a L s w' hC hL hn hs hd => ?_
        skip
        exact ⟨_, op_load41 rfl (hd 2 15 (by kernel_rfl)) (by rw [hC]; exact hc1), rfl⟩
      · exact Flow.move (Flow.goes_plain rfl) (fun _ _ _ h => h) (.inl rfl) fun a s w' hs hd => (hs 1 (by kernel_rfl))
      · refine Flow.pure (Flow.goes_plain rfl) (fun _ _ _ h => h) fun a L s w' hC hL hn hs hd => ?_
        skip
        exact ⟨_, op_idx41 rfl (hd 3 16 (by kernel_rfl)) (hd 4 17 (by kernel_rfl)) hk w', rfl⟩
      · refine Flow.pure (Flow.goes_plain rfl) (fun _ _ _ h => h) fun a L s w' hC hL hn hs hd => ?_
        skip
        exact ⟨_, op_load3 rfl (hd 5 18 (by kernel_rfl)) (by rw [hC]; exact hcw), rfl⟩
      · exact Flow.move (Flow.goes_plain rfl) (fun _ _ _ h => h) (.inl rfl) fun a s w' hs hd => (hs 0 (by kernel_rfl))
      · refine Flow.pure (Flow.goes_plain rfl) (fun _ _ _ h => h) fun a L s w' hC hL hn hs hd => ?_
        skip
        exact ⟨_, op_nil rfl (hd 7 20 (by kernel_rfl)) w', rfl⟩
      · refine Flow.pure (Flow.goes_plain rfl) (fun _ _ _ h => h) fun a L s w' hC hL hn hs hd => ?_
        skip
        exact ⟨_, op_f92_2 rfl (hd 8 21 (by kernel_rfl)) w', rfl⟩
      · refine Flow.pure (Flow.goes_plain rfl) (fun _ _ _ h => h) fun a L s w' hC hL hn hs hd => ?_
        skip
        exact ⟨_, op_load3 rfl (hd 9 22 (by kernel_rfl)) (by rw [hC]; exact hc2), rfl⟩
      · refine Flow.pure (Flow.goes_plain rfl) (fun _ _ _ h => h) fun a L s w' hC hL hn hs hd => ?_
        skip
        exact ⟨_, op_eql3 rfl (hd 6 19 (by kernel_rfl)) (hd 10 23 (by kernel_rfl)) (by rw [beq_eq_false_iff_ne]; omega) w', rfl⟩
      · intro L _ w4 hC hL vals hv
        have e11 : vals 11 = .bool false := hv 11 _ 24 rfl rfl
        simp only [Free.putAll, Act.put, List.setIfInBounds_toArray, List.set_cons_succ, List.set_cons_zero, e11]
        subst w4
        clear hv hL e11
        generalize vals 0 = x0 at *
        generalize vals 1 = x1 at *
        generalize vals 2 = x2 at *
        generalize vals 3 = x3 at *
        generalize vals 4 = x4 at *
        generalize vals 5 = x5 at *
        generalize vals 6 = x6 at *
        generalize vals 7 = x7 at *
        generalize vals 8 = x8 at *
        generalize vals 9 = x9 at *
        generalize vals 10 = x10 at *
        go_wp2_with fail
        refine (unhide HST).mono ?_
        rintro e w2 ⟨rfl, hD2, hB2, hs2⟩
        have HD2 := hide hD2
        have HB2 := hide hB2
        clear hD2 hB2 HST
        go_wp2_with fail
        go_ret
        exact ⟨rfl, F, unhide HD2, ⟨(unhide HB2).undrew, fun _ h => .inl h⟩⟩
end
end Go.Proofs.Ytlgknllcnkainaa
