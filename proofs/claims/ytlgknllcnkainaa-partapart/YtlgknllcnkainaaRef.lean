/-
  The document's device in memory; its calls that turn it by little; a sector read.
-/
import Derived.Test.YtlgknllcnkainaaSync
namespace Go.Proofs.Ytlgknllcnkainaa
open Go.RowKit

def refV (bk bw : Nat) (wv : Value) (r : RM) : List Value :=
  [.slice (some ⟨bk, 0, none⟩) r.kept.length r.kept.length, .slice (some ⟨bw, 0, none⟩) r.kept.length r.kept.length, .int .i64 (r.most : Int), wv, .bool r.limited, .int .i64 r.budget, .bool r.down]
def refF (p bk bw : Nat) (wv : Value) : List Nat := p :: bk :: bw :: wv.ownBlock.toList
theorem nodupR {a b c : Nat} {l : List Nat} (h : (a :: b :: c :: l).Nodup) : a ≠ b ∧ a ≠ c ∧ b ≠ c ∧ (∀ k ∈ l, a ≠ k) ∧ (∀ k ∈ l, b ≠ k) ∧ (∀ k ∈ l, c ≠ k) ∧ l.Nodup := by
  simp only [List.nodup_cons, List.mem_cons, not_or] at h
  obtain ⟨⟨h1, h2, h4⟩, ⟨h5, h7⟩, h8, h9⟩ := h
  exact ⟨h1, h2, h5, fun k hk e => h4 (e ▸ hk), fun k hk e => h7 (e ▸ hk), fun k hk e => h8 (e ▸ hk), h9⟩

structure RefB (bk bw : Nat) (wv : Value) (w : World) (p : Nat) (r : RM) : Prop where
  ok : r.Ok
  low : -9223372036854775808 ≤ r.budget
  nodup : (refF p bk bw wv).Nodup
  dev : Arr w p (refV bk bw wv r)
  kept : Arr w bk (secsV r.kept)
  wear : Arr w bw (intsV r.wear)
  done : w.ownsRow 0 99 65 wv r.done.length (donesV r.done)
def Ref (F : List Nat) (w : World) (p : Nat) (r : RM) : Prop := ∃ bk bw wv, F = refF p bk bw wv ∧ RefB bk bw wv w p r

theorem RefB.same {bk bw : Nat} {wv : Value} {w w' : World} {p : Nat} {r : RM} (h : RefB bk bw wv w p r) (hb : ∀ k ∈ refF p bk bw wv, w'.heap[k]? = w.heap[k]?) : RefB bk bw wv w' p r :=
  { h with
    dev := h.dev.same (hb _ (by simp [refF])), kept := h.kept.same (hb _ (by simp [refF])), wear := h.wear.same (hb _ (by simp [refF])),
    done := owns_same h.done (fun k hk => hb k (by simp only [refF, List.mem_cons]; exact .inr (.inr (.inr hk)))) }
theorem RefB.lt {bk bw : Nat} {wv : Value} {w : World} {p : Nat} {r : RM} (h : RefB bk bw wv w p r) : ∀ k ∈ refF p bk bw wv, k < w.heap.size := by
  intro k hk
  simp only [refF, List.mem_cons] at hk
  rcases hk with rfl | rfl | rfl | hk
  · exact h.dev.lt
  · exact h.kept.lt
  · exact h.wear.lt
  · exact (h.done.lt k (by simpa using hk)).2
theorem Ref.same {F : List Nat} {w w' : World} {p : Nat} {r : RM} (h : Ref F w p r) (hb : ∀ k ∈ F, w'.heap[k]? = w.heap[k]?) : Ref F w' p r := by
  obtain ⟨bk, bw, wv, rfl, h⟩ := h
  exact ⟨bk, bw, wv, rfl, h.same hb⟩
theorem Ref.lt {F : List Nat} {w : World} {p : Nat} {r : RM} (h : Ref F w p r) : ∀ k ∈ F, k < w.heap.size := by
  obtain ⟨bk, bw, wv, rfl, h⟩ := h
  exact h.lt
theorem Ref.ok {F : List Nat} {w : World} {p : Nat} {r : RM} (h : Ref F w p r) : r.Ok := by
  obtain ⟨bk, bw, wv, rfl, h⟩ := h
  exact h.ok
theorem Ref.below {F : List Nat} {w w' : World} {p : Nat} {r : RM} (h : Ref F w p r) (hb : Below w.heap.size w w') : Ref F w' p r := h.same fun k hk => hb.block k (h.lt k hk)
theorem Ref.but {F G : List Nat} {w w' : World} {p : Nat} {r : RM} (h : Ref F w p r) (hb : But G w w') (hd : ∀ k ∈ F, k ∉ G) : Ref F w' p r := h.same fun k hk => hb.block k (h.lt k hk) (hd k hk)
theorem Ref.mem {F : List Nat} {w : World} {p : Nat} {r : RM} (h : Ref F w p r) : p ∈ F := by
  obtain ⟨bk, bw, wv, rfl, h⟩ := h
  simp [refF]
theorem Ref.drew {F : List Nat} {w : World} {p : Nat} {r : RM} (h : Ref F w p r) : Ref F w.drew p r := h.same fun _ _ => rfl

theorem RefB.field {bk bw : Nat} {wv : Value} {w : World} {p : Nat} {r r' : RM} (h : RefB bk bw wv w p r) (i : Nat) (v : Value) (hv : (refV bk bw wv r).set i v = refV bk bw wv r')
    (e1 : r'.kept = r.kept) (e3 : r'.wear = r.wear) (e4 : r'.done = r.done) (ok : r'.Ok) (lo : -9223372036854775808 ≤ r'.budget) : RefB bk bw wv (w.setCell ⟨p, i, none⟩ v) p r' := by
  obtain ⟨n1, n2, n3, n7, n8, n9, _⟩ := nodupR h.nodup
  exact { ok := ok, low := lo, nodup := h.nodup, dev := by rw [← hv]; exact h.dev.set i v, kept := by rw [e1]; exact h.kept.other _ _ n1.symm, wear := by rw [e3]; exact h.wear.other _ _ n2.symm, done := by rw [e4]; exact owns_same h.done fun k hk => Below.heap_setCell _ _ _ _ (n7 k hk).symm }

section
variable {F : List Nat} {w : World} {p : Nat} {r : RM}

set_option maxHeartbeats 800000 in
set_option maxRecDepth 100000 in
theorem in_walk (h : Ref F w p r) (i : Int) : Calls Try.prog 57 #[.pointer (some ⟨p, 0, none⟩), .int .i64 i] w fun e w' => e = .returned (.bool (hasD r.kept.length i)) ∧ w' = w := by
  obtain ⟨bk, bw, wv, rfl, h⟩ := h
  have hc0 := h.dev.cell (i := 0) rfl
  by_cases h0 : 0 ≤ i
  · have E : Hid (hasD r.kept.length i = decide (i < (r.kept.length : Int))) := hide (by simp [hasD, h0])
    clear h
    generalize r.kept.length = n at *
    go_enter Try.func57, Try.ntmps57
    go_wp2
    go_ret
    exact ⟨by rw [unhide E]; rfl, rfl⟩
  · have E : Hid (hasD r.kept.length i = false) := hide (by simp [hasD, h0])
    clear h hc0
    generalize r.kept.length = n at *
    go_enter Try.func57, Try.ntmps57
    go_wp2
    go_ret
    exact ⟨by rw [unhide E]; rfl, rfl⟩

theorem RM.Ok.spend (h : r.Ok) : (spendR r).2.Ok := by
  unfold spendR
  split
  · exact { h with }
  · rename_i hn
    have h1 := h.low
    have h2 := h.high
    refine { h with low := ?_, high := ?_ }
    · intro e
      have e' : r.limited = true := e
      have := h1 e'
      show 0 ≤ (if r.limited = true then r.budget - 1 else r.budget)
      rw [if_pos e']
      have : r.budget ≠ 0 := fun e0 => hn ⟨e', e0⟩
      omega
    · show (if r.limited = true then r.budget - 1 else r.budget) ≤ _
      split <;> omega

set_option maxHeartbeats 800000 in
set_option maxRecDepth 100000 in
theorem spend_walk (h : Ref F w p r) : Calls Try.prog 51 #[.pointer (some ⟨p, 0, none⟩)] w fun e w' => e = .returned (.bool (spendR r).1) ∧ Ref F w' p (spendR r).2 ∧ But F w w' ∧ w'.heap.size = w.heap.size := by
  have HM := hide h.mem
  obtain ⟨bk, bw, wv, rfl, h⟩ := h
  have hc4 := h.dev.cell (i := 4) rfl
  have hc5 := h.dev.cell (i := 5) rfl
  have hc6 := h.dev.cell (i := 6) rfl
  have hf5 := h.dev.free 5
  have hf6 := h.dev.free 6
  have hhigh := h.ok.high
  have hlo := h.low
  have hok := h.ok.spend
  cases hl : r.limited with
  | false =>
    have e1 : spendR r = (true, r) := by
      have e2 : (if r.limited = true then r.budget - 1 else r.budget) = r.budget := by rw [hl]; simp
      unfold spendR
      rw [if_neg (by rw [hl]; simp), e2]
    rw [e1]
    have H1 := hide h
    clear h hok e1
    rw [hl] at hc4
    go_enter Try.func51, Try.ntmps51
    go_wp2
    go_ret
    exact ⟨rfl, ⟨bk, bw, wv, rfl, unhide H1⟩, But.refl _ _, rfl⟩
  | true =>
    rw [hl] at hc4
    have hlow := h.ok.low hl
    by_cases h0 : r.budget = 0
    · have e1 : spendR r = (false, { r with down := true }) := by unfold spendR; rw [if_pos ⟨hl, h0⟩]
      rw [e1] at hok ⊢
      have H1 := hide (h.field 6 (.bool true) (r' := { r with down := true }) rfl rfl rfl rfl hok hlo)
      clear h hok e1
      rw [h0] at hc5
      go_enter Try.func51, Try.ntmps51
      go_wp2
      go_ret
      exact ⟨rfl, ⟨bk, bw, wv, rfl, unhide H1⟩, But.of_grown (set_grown _ _ _ _) (unhide HM), set_size _ _ _⟩
    · have e1 : spendR r = (true, { r with budget := r.budget - 1 }) := by unfold spendR; rw [if_neg (fun e => h0 e.2), if_pos hl]
      rw [e1] at hok ⊢
      have H1 := hide (h.field 5 (.int .i64 (r.budget - 1)) (r' := { r with budget := r.budget - 1 }) rfl rfl rfl rfl hok (by show _ ≤ r.budget - 1; omega))
      clear h hok e1
      obtain ⟨bu, hbu⟩ : ∃ bu, bu = r.budget := ⟨_, rfl⟩
      rw [← hbu] at hc5 h0 hlow hhigh H1 hlo
      have HBU := hide hbu
      clear hbu
      go_enter Try.func51, Try.ntmps51
      go_wp2
      go_ret
      refine ⟨rfl, ⟨bk, bw, wv, rfl, ?_⟩, But.of_grown (set_grown _ _ _ _) (unhide HM), set_size _ _ _⟩
      rw [← unhide HBU]
      exact unhide H1

theorem RM.Ok.limit (h : r.Ok) (s : Int) (hs : s ≤ 9223372036854775807) : (limitR r s).Ok :=
  { h with low := fun e => by simpa [limitR] using e, high := hs }

set_option maxHeartbeats 800000 in
set_option maxRecDepth 100000 in
theorem limit_walk (h : Ref F w p r) (s : Int) (hs : -9223372036854775808 ≤ s ∧ s ≤ 9223372036854775807) : Calls Try.prog 25 #[.pointer (some ⟨p, 0, none⟩), .int .i64 s] w fun e w' => e = .returned (.tuple #[]) ∧ Ref F w' p (limitR r s) ∧ But F w w' ∧ w'.heap.size = w.heap.size := by
  have HM := hide h.mem
  obtain ⟨bk, bw, wv, rfl, h⟩ := h
  have hc4 := h.dev.cell (i := 4) rfl
  have hf4 := h.dev.free 4
  have hA1 := h.dev.set 4 (.bool (decide (0 ≤ s)))
  have hc5 := hA1.cell (i := 5) rfl
  have hf5 := hA1.free 5
  have hA2 := hA1.set 5 (.int .i64 s)
  obtain ⟨n1, n2, n3, n7, n8, n9, _⟩ := nodupR h.nodup
  have H2 : Hid (RefB bk bw wv ((w.setCell ⟨p, 4, none⟩ (.bool (decide (0 ≤ s)))).setCell ⟨p, 5, none⟩ (.int .i64 s)) p (limitR r s)) := hide
    { ok := h.ok.limit s hs.2, low := hs.1, nodup := h.nodup, dev := hA2, kept := (h.kept.other _ _ n1.symm).other _ _ n1.symm, wear := (h.wear.other _ _ n2.symm).other _ _ n2.symm, done := owns_same h.done fun k hk => (Below.heap_setCell _ _ _ _ (n7 k hk).symm).trans (Below.heap_setCell _ _ _ _ (n7 k hk).symm) }
  clear h hA1 hA2
  go_enter Try.func25, Try.ntmps25
  go_wp2
  refine ⟨rfl, .tuple #[], by simp [results, Try.results25], ?_⟩
  exact ⟨rfl, ⟨bk, bw, wv, rfl, unhide H2⟩, (But.of_grown (set_grown _ _ _ _) (unhide HM)).trans (But.of_grown (set_grown _ _ _ _) (unhide HM)) (fun _ h => .inl h), by rw [set_size, set_size]⟩

theorem lastOf_take (s : Sec) (i : Nat) (l : List (Nat × Sec)) {j : Nat} (hj : j < l.length) : lastOf s i (l.take (j + 1)) = if (l.getD j (0, [])).1 = i then (l.getD j (0, [])).2 else lastOf s i (l.take j) := by
  rw [List.take_succ_eq_append_getElem hj, lastOf, List.foldl_append, List.getD_eq_getElem?_getD, List.getElem?_eq_getElem hj]
  rfl
theorem lastOf_64 (i : Nat) : ∀ (l : List (Nat × Sec)) (s : Sec), s.length = 64 → (∀ x ∈ l, x.2.length = 64) → (lastOf s i l).length = 64
  | [], s, hs, _ => hs
  | x :: l, s, hs, hl => by
    show (lastOf (if x.1 = i then x.2 else s) i l).length = 64
    refine lastOf_64 i l _ ?_ (fun y hy => hl y (by simp [hy]))
    split
    · exact hl x (by simp)
    · exact hs

set_option maxHeartbeats 1600000 in
set_option maxRecDepth 100000 in
theorem rread_walk (h : Ref F w p r) (i : Int) (hlen : r.done.length ≤ 1000000) : Calls Try.prog 52 #[.pointer (some ⟨p, 0, none⟩), .int .i64 i] w fun e w' => e = .returned (.tuple #[secV (readR r i).1, .int .i64 (readR r i).2]) ∧ Below w.heap.size w w' := by
  have HD := hide h
  cases hb : hasD r.kept.length i with
  | false =>
    rw [show readR r i = (zeroS, 61) by simp [readR, hb]]
    clear h
    go_enter Try.func52, Try.ntmps52
    go_wp2_with (refine wpList_alloc 30 30 (bytesV zeroS) rfl rfl alloc30 ?_)
    intro w1 hA1 hb1 hs1
    have HA1 := hide hA1
    have Hb1 := hide hb1
    clear hA1 hb1
    go_wp2_with fail
    refine (in_walk ((unhide HD).below (unhide Hb1)) i).mono ?_
    rw [hb]
    rintro e w2 ⟨rfl, hw2⟩
    subst w2
    go_wp2_with (first
        | refine wpList_build 30 _ (bytesV zeroS) [] rfl rfl rfl built30 ?_
        | refine wpList_storeAll 30 _ _ w.heap.size (bytesV zeroS) (bytesV zeroS) rfl rfl rfl rfl (unhide HA1) rfl (info30s zeroS_len) (bytesV_one _) ?_)
    intro w2 hA2 hg2 hs2
    have HA2 := hide hA2
    have Hb2 := hide ((unhide Hb1).grown hg2 (by omega) (fun k hk => by simp at hk; omega))
    clear hA2 hg2
    go_wp2
    refine bodyPost_ret (v := .tuple #[secV zeroS, .int .i64 61]) ?_ rfl ⟨rfl, unhide Hb2⟩
    exact results_two Try.results52 rfl rfl (unhide HA2) Try.underlying30 rfl (info30s zeroS_len)
  | true =>
    obtain ⟨k, rfl, hk⟩ := hasD_nat hb
    rw [show readR r (k : Int) = (lastOf (r.kept.getD k []) k r.done, 0) by simp [readR, hb]]
    have HS64 := hide (getD_mem64 h.ok.keptS (i := k) hk)
    have HB := hide hb
    obtain ⟨bk, bw, wv, hF, hd⟩ := h
    obtain ⟨ad, cap, hwv, hcap, _⟩ := owns_slice hd.done
    subst hwv
    have HRB := hide hd
    have HXX : Hid (∀ w', Below w.heap.size w w' → w'.rangeAt bk (k * 64) (bytesV (r.kept.getD k []))) := hide (fun w' hb' => (hd.kept.below hb').sec hd.ok.keptS hk)
    clear hF hd hb
    generalize r.kept.getD k [] = s0 at *
    have HLL : Hid (∀ j, (lastOf s0 k (r.done.take j)).length = 64) := hide (fun j => lastOf_64 k _ _ (unhide HS64) (fun x hx => ((unhide HRB).ok.doneS x (List.mem_of_mem_take hx)).2))
    go_enter Try.func52, Try.ntmps52
    go_wp2_with (refine wpList_alloc 30 30 (bytesV zeroS) rfl rfl alloc30 ?_)
    intro w1 hA1 hb1 hs1
    have HA1 := hide hA1
    have Hb1 := hide hb1
    have HR1 := hide ((unhide HRB).same (w' := w1) fun k hk => hb1.block k ((unhide HRB).lt k hk))
    have HKG := hide (unhide HXX w1 hb1)
    clear hA1 hb1 HXX
    go_wp2_with fail
    refine (in_walk ((unhide HD).below (unhide Hb1)) k).mono ?_
    rw [unhide HB]
    rintro e w2 ⟨rfl, hw2⟩
    subst w2
    have hc0 := (unhide HR1).dev.cell (i := 0) rfl
    clear HB HD HR1
    go_wp2_with (first
      | refine wpList_load_mid rfl 30 _ rfl bk (k * 64) rfl (bytesV s0) _ (unhide HKG) Try.underlying30 rfl (info30s (unhide HS64)) ?_
      | refine wpList_alloc 30 30 (bytesV zeroS) rfl rfl alloc30 ?_)
    intro w2 hA2 hb2 hs2
    have HZ2 := hide ((unhide HA1).keep hb2 (by omega))
    have HA2 := hide hA2
    have Hb2 := hide ((unhide Hb1).trans (hb2.mono (by omega)))
    clear hA2 hb2 HA1 Hb1 hc0 HKG
    go_wp2_with (refine wpList_storeAll 30 _ _ (w.heap.size + 1) (bytesV s0) (bytesV zeroS) rfl rfl rfl rfl (unhide HA2) (by rw [bytesV_length, bytesV_length, unhide HS64]; rfl) (info30s (unhide HS64)) (bytesV_one _) ?_)
    intro w3 hA3 hg3 hs3
    have HZ3 := hide ((unhide HZ2).grown hg3 (by simp))
    have HA3 := hide hA3
    have Hb3 := hide ((unhide Hb2).grown hg3 (by omega) (fun k hk => by simp at hk; omega))
    have hc3 := ((unhide HRB).same (w' := w3) fun k hk => (unhide Hb3).block k ((unhide HRB).lt k hk)).dev.cell (i := 3) rfl
    clear hA3 hg3 HA2 HZ2 Hb2
    go_wp2
    go_loopw [26] (fun ci wr => ∃ j : Nat, j ≤ r.done.length ∧ ci = .int .i64 (j : Int) ∧ Arr wr (w.heap.size + 1) (bytesV (lastOf s0 k (r.done.take j))) ∧ Arr wr w.heap.size (bytesV zeroS) ∧ Below w.heap.size w wr ∧ w.heap.size + 2 ≤ wr.heap.size) (fun ci _ => r.done.length - (intOf ci).toNat)
    case atStart => exact ⟨0, by omega, rfl, unhide HA3, unhide HZ3, unhide Hb3, by omega⟩
    case round =>
      obtain ⟨j, hj, rfl, hA, hZ, hb, hsz⟩ := hrel
      clear HA3 HZ3 Hb3 hc3
      have HA := hide hA
      have HZ := hide hZ
      have Hb := hide hb
      clear hA hZ hb
      by_cases hlt : j < r.done.length
      · have hBr := (unhide HRB).same (w' := wr) fun k hk => (unhide Hb).block k ((unhide HRB).lt k hk)
        have hmem := getD_mem_done hlt
        have hx := hBr.ok.doneS _ hmem
        obtain ⟨g, cap', hv, hrg⟩ := owns_range hBr.done (fun x hx => (hBr.ok.doneS x hx).2) hlt
        have HLT := hide (lastOf_take s0 k r.done hlt)
        obtain ⟨x, hxe⟩ : ∃ x, x = r.done.getD j (0, []) := ⟨_, rfl⟩
        rw [← hxe] at hx hrg HLT
        clear hxe hmem hBr
        obtain ⟨xn, xs⟩ := x
        have ev : ad = some ⟨g, 0, none⟩ := by
          simp only [Value.slice.injEq] at hv
          exact hv.1
        subst ev
        have HRG : Hid (wr.rangeAt g (j * 65) (doneV (xn, xs))) := hide hrg
        have HXS : Hid (xs.length = 64) := hide hx.2
        have HL1 := hide (unhide HLL j)
        obtain ⟨s1, hs1e⟩ : ∃ s1, s1 = lastOf s0 k (r.done.take j) := ⟨_, rfl⟩
        rw [← hs1e] at HA HLT HL1
        have HS1 := hide hs1e
        clear hv hrg hx hs1e
        generalize hnn : r.done.length = n at *
        have HNN := hide hnn
        clear hnn
        rcases Decidable.em (xn = k) with rfl | hxk
        all_goals (
          go_wp2_with (first
            | refine wpList_load_mid rfl 99 _ rfl g (j * 65) rfl (doneV (xn, xs)) _ (unhide HRG) Try.underlying99 rfl (info99 (x := (xn, xs)) (unhide HXS)) ?_
            | refine wpList_alloc 99 99 (doneV (0, zeroS)) rfl rfl alloc99 ?_)
          intro w4 hA4 hb4 hs4
          have HQ4 := hide hA4
          have HA4 := hide ((unhide HA).below hb4)
          have HZ4 := hide ((unhide HZ).below hb4)
          have Hb4 := hide ((unhide Hb).trans (hb4.mono (by omega)))
          clear hA4 hb4 HA HZ Hb HRG
          generalize wr.heap.size = q at *
          go_wp2_with (refine wpList_storeAll 99 _ _ q (doneV (xn, xs)) (doneV (0, zeroS)) rfl rfl rfl rfl (unhide HQ4) (by rw [doneV_length (x := (xn, xs)) (unhide HXS)]; rfl) (info99 (x := (xn, xs)) (unhide HXS)) (doneV_one _) ?_)
          intro w5 hA5 hg5 hs5
          have HQ5 := hide hA5
          have HA5 := hide ((unhide HA4).grown hg5 (by simp; omega))
          have HZ5 := hide ((unhide HZ4).grown hg5 (by simp; omega))
          have Hb5 := hide ((unhide Hb4).grown hg5 (by omega) (fun k hk => by simp at hk; omega))
          have hcx := hA5.cell (i := 0) rfl
          have HRX := hide hA5.doneSec
          clear hA5 hg5 HQ4 HA4 HZ4 Hb4)
        · go_wp2_with (first
            | refine wpList_load_mid rfl 30 _ rfl q 1 rfl (bytesV xs) _ (unhide HRX) Try.underlying30 rfl (info30s (unhide HXS)) ?_
            | refine wpList_storeAll 30 _ _ (w.heap.size + 1) (bytesV xs) (bytesV s1) rfl rfl rfl rfl (unhide HA5) (by rw [bytesV_length, bytesV_length, unhide HXS, unhide HL1]) (info30s (unhide HXS)) (bytesV_one _) ?_)
          intro w6 hA6 hg6 hs6
          have HA6 := hide hA6
          have HZ6 := hide ((unhide HZ5).grown hg6 (by simp))
          have Hb6 := hide ((unhide Hb5).grown hg6 (by omega) (fun k hk => by simp at hk; omega))
          clear hA6 hg6 HA5 HZ5 Hb5 hcx
          go_wp2_with fail
          go_roundw
          case rel =>
            refine ⟨j + 1, by have := unhide HNN; omega, by go_num, ?_, unhide HZ6, unhide Hb6, by omega⟩
            have e := unhide HLT
            simp only [if_true] at e
            rw [e]
            exact unhide HA6
          case measure => have := unhide HNN; simp [intOf]; omega
        · go_wp2_with fail
          go_roundw
          case rel =>
            refine ⟨j + 1, by have := unhide HNN; omega, by go_num, ?_, unhide HZ5, unhide Hb5, by omega⟩
            rw [unhide HLT, if_neg hxk]
            exact unhide HA5
          case measure => have := unhide HNN; simp [intOf]; omega
      · have hje : j = r.done.length := by omega
        subst j
        have HL1 := hide (unhide HLL r.done.length)
        rw [List.take_length] at HA HL1
        obtain ⟨s1, hs1e⟩ : ∃ s1, s1 = lastOf s0 k r.done := ⟨_, rfl⟩
        rw [← hs1e] at HA HL1
        have HS1 := hide hs1e
        clear hs1e
        go_wp2_with (first
          | refine wpList_loadAll 30 _ (w.heap.size + 1) (bytesV s1) _ rfl rfl rfl (unhide HA) Try.underlying30 rfl (info30s (unhide HL1)) ?_
          | refine wpList_storeAll 30 _ _ w.heap.size (bytesV s1) (bytesV zeroS) rfl rfl rfl rfl (unhide HZ) (by rw [bytesV_length, bytesV_length, unhide HL1]; rfl) (info30s (unhide HL1)) (bytesV_one _) ?_)
        intro w5 hA5 hg5 hs5
        have HA5 := hide hA5
        have Hb5 := hide ((unhide Hb).grown hg5 (by omega) (fun k hk => by simp at hk; omega))
        clear hA5 hg5
        go_wp2
        refine bodyPost_ret (v := .tuple #[secV s1, .int .i64 0]) ?_ rfl ⟨?_, unhide Hb5⟩
        · exact results_two Try.results52 rfl rfl (unhide HA5) Try.underlying30 rfl (info30s (unhide HL1))
        · rw [unhide HS1]
end
end Go.Proofs.Ytlgknllcnkainaa
