/-
  FramePuts: the walk.
-/
import Derived.Test.YtkcchadecnkgnaaGetsWalk
namespace Go.Proofs.Ytkcchadecnkgnaa
open Go.RowKit

/-- append of sectors onto a slice with no sectors and no room. -/
theorem run_app24E (w : World) (b : Addr) (a : Addr) (c : Nat) (ts : List Sec) (hts : ∀ s ∈ ts, s.length = 64) (hc : ∀ j u, (secsV ts)[j]? = some u → w.cell? (a.add j) = some u) (h0 : 0 < ts.length) (hlim : ts.length ≤ 1000000) :
    ∃ v' w', (Builtin.append_ #[24, 24] 24 #[.slice (some b) 0 0, .slice (some a) ts.length c]).run Try.prog w = .ok v' w' ∧ SOwn w.heap.size w' v' ts ∧ Below w.heap.size w w' := by
  obtain ⟨i, i1, i2, i3, i4⟩ := full26
  have hlen : (secsV ts).length = ts.length * 64 := secsV_length hts
  have hr := run_append_grow (P := Try.prog) w 24 24 33 i _ Try.underlying24 i1 i2 b 0 0 [] (by simp) (fun j v hj => by simp at hj) a ts.length c (secsV ts) (by rw [i3]; exact hlen) hc (by omega) (by omega) (growslice_fits (by omega) (by rw [i4]; omega))
  rw [Nat.zero_add] at hr
  have hge := grownCap_ge w ts.length 0 33
  have hcm : grownCap w ts.length 0 33 ≤ maxLen := grownCap_le_maxLen w _ _ 33 (by simp only [maxLen]; omega)
  refine ⟨_, _, hr, ⟨⟨hlen, .inr ⟨w.heap.size, _, _, rfl, Nat.le_refl _, heap_alloc_new w.drew _, hge, hcm, ?_, ?_⟩⟩, hts⟩, ((Below.refl w.heap.size w).drew).alloc (by simp) _⟩
  · have hz : (secV zeroS).cells.size = 64 := by kernel_rfl
    simp only [Array.size_append, List.size_toArray, size_zeroCells, hz, hlen, List.length_nil]
    omega
  · simp only [Array.toList_append, List.nil_append]
    rw [← hlen]
    exact List.take_left
theorem srow_cells {N : Nat} {w : World} {b off len : Nat} {ss : List Sec} (h : SRow N w (some ⟨b, off, none⟩) len ss) : ∀ j u, (secsV ss)[j]? = some u → w.cell? ⟨b, off + j, none⟩ = some u := fun j u hj => by
  have hl : j < (secsV ss).length := (List.getElem?_eq_some_iff.1 hj).1
  rw [secsV_length h.2.1] at hl
  have hi : j / 64 < ss.length := by omega
  obtain ⟨b', off', e, _, hc⟩ := h.2.2 (j / 64) (by rw [← h.1]; exact hi)
  cases e
  have hs64 : (ss.getD (j / 64) []).length = 64 := h.2.1 _ (by
    rw [List.getD_eq_getElem?_getD, List.getElem?_eq_getElem hi]
    exact List.getElem_mem _)
  have hb := bytesV_get (ss.getD (j / 64) []) (i := j % 64) (by omega)
  have h1 := secsV_range h.2.1 hi (j % 64) _ hb
  have e2 : j / 64 * 64 + j % 64 = j := by omega
  rw [e2, hj] at h1
  cases h1
  have := hc (j % 64) _ hb
  rwa [show off + j / 64 * 64 + j % 64 = off + j by omega] at this
section
variable {ops : Array Oper} {rest : List Oper} {o : Oper} {a : Act} {w : World} {Q : Exit → Act → World → Prop}
theorem wpList_app24E {x y : Operand} {N m c : Nat} {b : Addr} {ad : Option Addr} {ts : List Sec} (ho : o.op = .call { callee := .builtin .append, args := #[x, y], argTypes := #[24, 24] }) (hty : o.type = 24) (hg : o.guard = none) (h1 : a.eval x = .slice (some b) 0 0) (h2 : a.eval y = .slice ad m c)
    (hr : SRow N w ad m ts) (h0 : 0 < m) (hlim : m ≤ 1000000) (h : ∀ v' w', SOwn w.heap.size w' v' ts → Below w.heap.size w w' → wpList Try.prog ops Q rest (a.put o.dst v') w') : wpList Try.prog ops Q (o :: rest) a w := by
  obtain ⟨b', off, rfl, _, _⟩ := hr.2.2 0 h0
  have hm := hr.1
  subst hm
  obtain ⟨v', w', hr', q1, q2⟩ := run_app24E w b ⟨b', off, none⟩ c ts hr.2.1 (fun j u hj => by rw [Addr.add_mid]; exact srow_cells hr j u hj) h0 hlim
  refine wpList_val hg ?_ (h v' w' q1 q2)
  unfold execOp
  rw [ho]
  simp only [resolve, invoke, builtin, Sem.run_bind, Sem.run_pure, Result.andThen_ok, List.map_toArray, List.map_cons, List.map_nil, h1, h2, hty, hr']
end
def oneS : Sec := 1 :: List.replicate 63 0
theorem oneS_len : oneS.length = 64 := by decide
theorem built33one : Try.prog.built 33 [(0, .int .u8 1)] = some (bytesV oneS).toArray := by kernel_rfl

set_option maxRecDepth 100000 in
set_option maxHeartbeats 2000000 in
theorem framePuts.inner (k : Nat) (hk : k < 256) (s : Nat) (hs : s < 18446744073709551616) (v : Value) (b : List UInt8) (w : World) (hr : RowV w.heap.size w v b) :
    Calls Try.prog 4 #[.int .u8 (k : Int), .int .u64 (s : Int), v] w fun e w' => e = .returned (.bool true) ∧ Below w.heap.size w w' := by
  obtain ⟨kk, rfl⟩ : ∃ kk : UInt8, k = kk.toNat := ⟨UInt8.ofNat k, by simp; omega⟩
  have HR := hide hr
  have H0 := hide (fun w => alive_walk w)
  obtain ⟨a, len, cap, rfl, q1, q2, q3, hrow⟩ := hr
  have hlen : b.length = len := hrow.1
  have HLEN := hide hlen
  have hl2 := hrow.2.1
  clear hrow
  by_cases h1000 : 1000 < len
  · clear hlen
    go_enter Try.func4, Try.ntmps4
    go_wp2_with fail
    refine (unhide H0 w).mono ?_
    rintro e w1 ⟨rfl, hb1⟩
    have Hb1 := hide hb1
    clear hb1
    go_wp2_with fail
    go_ret
    exact ⟨rfl, unhide Hb1⟩
  · have h4000 : b.length ≤ 4000 := by omega
    have H1 := hide (fun w' (hb : Below w.heap.size w w') => put_sectors w.heap.size kk s hs (.slice a len cap) b w' hb.size ((unhide HR).below hb))
    have HL1 := putF_length h4000 kk s
    have HSZ := sizeF_one h4000
    have HS64 := sizeF_le (b.length : Int)
    rw [hlen] at HL1 HSZ HS64
    have HG1 : Hid (getF (putF kk s b ++ [oneS]) = (kk, s, b, (putF kk s b).length)) := hide (getF_put h4000 kk s hs _)
    have HG2 : Hid (getF ((putF kk s b).take ((putF kk s b).length - 1)) = noF) := hide (getF_less h4000 kk s)
    have HFL := hide (putF_flat h4000 kk s)
    have HSEC := hide (putF_sec kk s b)
    have HFLL := hide (flat_length (l := putF kk s b) (putF_sec kk s b))
    have HBY := hide (fun w' (hb : Below w.heap.size w w') => bytes_walk w.heap.size kk s hs (.slice a len cap) b w' hb.size ((unhide HR).below hb) h4000)
    generalize putF kk s b = l at *
    rw [unhide HFL] at HFLL
    generalize hbz : bytesD kk s b = bz at *
    have hkk := kk.toNat_lt
    have hb1000 : b.length ≤ 1000 := by omega
    have hlb : l.length ≤ 64 := by omega
    obtain ⟨L, hLL⟩ : ∃ L, L = l.length := ⟨_, rfl⟩
    have HLL := hide hLL
    have hLz : L = sizeF (len : Int) := by rw [hLL]; exact HL1
    have hL64 : L ≤ 64 := by omega
    have hL1 : 1 ≤ L := by omega
    have HBZL : Hid (bz.length ≤ 5000) := hide (by rw [unhide HFLL, ← hLL]; omega)
    have H8 := hide (fun w => size_walk (len : Int) w)
    have H12 := hide (fun w => rsize_walk (len : Int) w)
    rw [← hLz] at H8 H12
    have HTX : Hid ((!((tx bz).toList == (tx bz).toList)) = false) := hide (by simp)
    clear hlen HL1 HSZ HS64 h4000 hbz hLL hLz hlb
    go_enter Try.func4, Try.ntmps4
    go_wp2_with fail
    refine (unhide H0 w).mono ?_
    rintro e w1 ⟨rfl, hb1⟩
    have Hb1 := hide hb1
    clear hb1 H0
    go_wp2_with fail
    refine (unhide H1 w1 (unhide Hb1)).mono ?_
    rintro e w2 ⟨v2, rfl, hO2, hb2⟩
    have hO2' := hO2
    obtain ⟨a2, c2, rfl, hc1, hc2⟩ := owns_slice hO2'.1
    rw [← unhide HLL] at hc1 ⊢
    have HO2 : Hid (SOwn w1.heap.size w2 (.slice a2 L c2) l) := hide (by rw [unhide HLL]; exact hO2)
    have HS2 := hide ((unhide HO2).row)
    have Hb2 := hide ((unhide Hb1).trans (hb2.mono (unhide Hb1).size))
    clear hO2 hO2' hb2 H1 Hb1
    go_wp2_with fail
    refine Flow.wp_region (VG (fun j => match j with | 0 => .slice a2 L c2 | 2 => .string (tx bz) | 3 => .int .u8 ((kk.toNat : Nat) : Int) | 4 => .int .u64 (s : Int) | 5 => .slice a len cap | 7 => .string (tx bz) | 8 => .bool false | 9 => .bool false | 10 => .slice a2 L c2 | 11 => .int .i64 (L : Int) | 12 => .slice a len cap | 13 => .int .i64 (len : Int) | 14 => .int .i64 (L : Int) | 15 => .bool false | 16 => .bool false | 17 => .bool false | 18 => .slice a len cap | 19 => .int .i64 (len : Int) | 20 => .int .i64 (L : Int) | 21 => .slice a len cap | 22 => .int .i64 (len : Int) | 23 => .int .i64 (L : Int) | 24 => .bool false | 25 => .bool false | _ => undef) [(1, Sees bz), (6, Sees bz)]) (fun _ (_ : Unit) w' => Below w2.heap.size w2 w') () (by kernel_rfl) (by kernel_rfl) (Below.refl _ _).drew ⟨?_, ?_, ?_, ?_, ?_, ?_, ?_, ?_, ?_, ?_, ?_, ?_, ?_, ?_, ?_, ?_, ?_, ?_, ?_, ?_, ?_, ?_, ?_, ?_, ?_, ?_, trivial⟩ ?_
    · exact Flow.move (Flow.goes_plain rfl) (fun _ _ _ h => h) (.inl rfl) fun a s w' hs hd => (hs 7 (by kernel_rfl))
    · refine Flow.call (Flow.goes_plain rfl) fun a L s0 w' hC hL hn hs hd => ⟨10, _, op_call10 rfl (hd 0 25 (by kernel_rfl)) rfl w', ?_⟩
      refine (join_walk w2.heap.size _ l w' hC.size ((unhide HS2).below hC) (by rw [← unhide HLL]; omega)).mono ?_
      rintro e w'' ⟨v4, rfl, hO4, hb4⟩
      rw [unhide HFL] at hO4
      exact ⟨_, (), rfl, VG.grow (fun y hy => by
        simp only [List.mem_cons, List.not_mem_nil, or_false] at hy
        rcases hy with rfl | rfl
        · exact Sees.grows _
        · exact Sees.grows _) hb4, hC.trans (hb4.mono hC.size), hO4.row (Nat.le_trans (unhide HBZL) (by decide))⟩
    · refine Flow.pure (Flow.goes_plain rfl) (fun _ _ _ h => h) fun a L s w' hC hL hn hs hd => ?_
      have h5 : RowV w'.heap.size w' _ bz := hd 1 26 (by kernel_rfl)
      exact ⟨_, op_text rfl rfl h5, rfl⟩
    · exact Flow.move (Flow.goes_plain rfl) (fun _ _ _ h => h) (.inl rfl) fun a s w' hs hd => (hs 0 (by kernel_rfl))
    · exact Flow.move (Flow.goes_plain rfl) (fun _ _ _ h => h) (.inl rfl) fun a s w' hs hd => (hs 1 (by kernel_rfl))
    · exact Flow.move (Flow.goes_plain rfl) (fun _ _ _ h => h) (.inl rfl) fun a s w' hs hd => (hs 2 (by kernel_rfl))
    · refine Flow.call (Flow.goes_plain rfl) fun a L s0 w' hC hL hn hs hd => ⟨11, _, op_call11 rfl (hd 3 28 (by kernel_rfl)) (hd 4 29 (by kernel_rfl)) (hd 5 30 (by kernel_rfl)) rfl w', ?_⟩
      refine (unhide HBY w' ((unhide Hb2).trans (hC.mono (unhide Hb2).size))).mono ?_
      rintro e w'' ⟨v4, rfl, hO4, hb4⟩
      exact ⟨_, (), rfl, VG.grow (fun y hy => by
        simp only [List.mem_cons, List.not_mem_nil, or_false] at hy
        rcases hy with rfl | rfl
        · exact Sees.grows _
        · exact Sees.grows _) hb4, hC.trans (hb4.mono hC.size), hO4.row (Nat.le_trans (unhide HBZL) (by decide))⟩
    · refine Flow.pure (Flow.goes_plain rfl) (fun _ _ _ h => h) fun a L s w' hC hL hn hs hd => ?_
      have h5 : RowV w'.heap.size w' _ bz := hd 6 31 (by kernel_rfl)
      exact ⟨_, op_text rfl rfl h5, rfl⟩
    · exact Flow.pure (Flow.goes_plain rfl) (fun _ _ _ h => h) fun a L s w' hC hL hn hs hd => ⟨_, op_neq9 rfl (hd 2 27 (by kernel_rfl)) (hd 7 32 (by kernel_rfl)) (unhide HTX) w', rfl⟩
    · exact Flow.move (Flow.goes_plain rfl) (fun _ _ _ h => h) (.inl rfl) fun a s w' hs hd => (hd 8 33 (by kernel_rfl))
    · exact Flow.move (Flow.goes_guard false rfl rfl rfl (by kernel_rfl) (fun _ _ _ h => h)) (fun _ _ _ h => h) (.inl rfl) fun a s w' hs hd => (hs 7 (by kernel_rfl))
    · exact Flow.pure (Flow.goes_guard false rfl rfl rfl (by kernel_rfl) (fun _ _ _ h => h)) (fun _ _ _ h => h) fun a L s w' hC hL hn hs hd => ⟨_, op_len24 rfl (hd 10 35 (by kernel_rfl))  w', rfl⟩
    · exact Flow.move (Flow.goes_guard false rfl rfl rfl (by kernel_rfl) (fun _ _ _ h => h)) (fun _ _ _ h => h) (.inl rfl) fun a s w' hs hd => (hs 2 (by kernel_rfl))
    · exact Flow.pure (Flow.goes_guard false rfl rfl rfl (by kernel_rfl) (fun _ _ _ h => h)) (fun _ _ _ h => h) fun a L s w' hC hL hn hs hd => ⟨_, op_len27 rfl (hd 12 37 (by kernel_rfl))  w', rfl⟩
    · refine Flow.call (Flow.goes_guard false rfl rfl rfl (by kernel_rfl) (fun _ _ _ h => h)) fun a L s0 w' hC hL hn hs hd => ⟨8, _, op_call8 rfl (hd 13 38 (by kernel_rfl)) rfl w', ?_⟩
      refine (unhide H8 w').mono ?_
      rintro e w'' ⟨rfl, hw''⟩
      subst w''
      exact ⟨_, (), rfl, fun _ _ _ h => h, hC, rfl⟩
    · refine Flow.pure (Flow.goes_guard false rfl rfl rfl (by kernel_rfl) (fun _ _ _ h => h)) (fun _ _ _ h => h) fun a L s w' hC hL hn hs hd => ?_
      skip
      exact ⟨_, op_neq3 rfl (hd 11 36 (by kernel_rfl)) (hd 14 39 (by kernel_rfl)) (by simp) w', rfl⟩
    · exact Flow.pure (Flow.goes_plain rfl) (fun _ _ _ h => h) fun a L s w' hC hL hn hs hd => ⟨_, op_pickF rfl (hd 9 34 (by kernel_rfl)) (hd 15 40 (by kernel_rfl)) w', rfl⟩
    · exact Flow.move (Flow.goes_plain rfl) (fun _ _ _ h => h) (.inl rfl) fun a s w' hs hd => (hd 16 41 (by kernel_rfl))
    · exact Flow.move (Flow.goes_guard false rfl rfl rfl (by kernel_rfl) (fun _ _ _ h => h)) (fun _ _ _ h => h) (.inl rfl) fun a s w' hs hd => (hs 2 (by kernel_rfl))
    · exact Flow.pure (Flow.goes_guard false rfl rfl rfl (by kernel_rfl) (fun _ _ _ h => h)) (fun _ _ _ h => h) fun a L s w' hC hL hn hs hd => ⟨_, op_len27 rfl (hd 18 43 (by kernel_rfl))  w', rfl⟩
    · refine Flow.call (Flow.goes_guard false rfl rfl rfl (by kernel_rfl) (fun _ _ _ h => h)) fun a L s0 w' hC hL hn hs hd => ⟨8, _, op_call8 rfl (hd 19 44 (by kernel_rfl)) rfl w', ?_⟩
      refine (unhide H8 w').mono ?_
      rintro e w'' ⟨rfl, hw''⟩
      subst w''
      exact ⟨_, (), rfl, fun _ _ _ h => h, hC, rfl⟩
    · exact Flow.move (Flow.goes_guard false rfl rfl rfl (by kernel_rfl) (fun _ _ _ h => h)) (fun _ _ _ h => h) (.inl rfl) fun a s w' hs hd => (hs 2 (by kernel_rfl))
    · exact Flow.pure (Flow.goes_guard false rfl rfl rfl (by kernel_rfl) (fun _ _ _ h => h)) (fun _ _ _ h => h) fun a L s w' hC hL hn hs hd => ⟨_, op_len27 rfl (hd 21 46 (by kernel_rfl))  w', rfl⟩
    · refine Flow.call (Flow.goes_guard false rfl rfl rfl (by kernel_rfl) (fun _ _ _ h => h)) fun a L s0 w' hC hL hn hs hd => ⟨12, _, op_call12 rfl (hd 22 47 (by kernel_rfl)) rfl w', ?_⟩
      refine (unhide H12 w').mono ?_
      rintro e w'' ⟨rfl, hw''⟩
      subst w''
      exact ⟨_, (), rfl, fun _ _ _ h => h, hC, rfl⟩
    · refine Flow.pure (Flow.goes_guard false rfl rfl rfl (by kernel_rfl) (fun _ _ _ h => h)) (fun _ _ _ h => h) fun a L s w' hC hL hn hs hd => ?_
      skip
      exact ⟨_, op_neq3 rfl (hd 20 45 (by kernel_rfl)) (hd 23 48 (by kernel_rfl)) (by simp) w', rfl⟩
    · exact Flow.pure (Flow.goes_plain rfl) (fun _ _ _ h => h) fun a L s w' hC hL hn hs hd => ⟨_, op_pickF rfl (hd 17 42 (by kernel_rfl)) (hd 24 49 (by kernel_rfl)) w', rfl⟩
    · intro Ld _ w8 hC hL vals hv
      have e25 : vals 25 = .bool false := hv 25 _ 50 rfl rfl
      simp only [Free.putAll, Act.put, List.setIfInBounds_toArray, List.set_cons_succ, List.set_cons_zero, e25]
      have HB8 := hide ((unhide Hb2).trans (hC.mono (unhide Hb2).size))
      have HS8 := hide (((unhide HS2).below hC).up hC.size)
      clear hC hL hv e25 HO2 HS2 Hb2 HBY H8 H12
      generalize vals 0 = t0 at *
      generalize vals 1 = t1 at *
      generalize vals 2 = t2 at *
      generalize vals 3 = t3 at *
      generalize vals 4 = t4 at *
      generalize vals 5 = t5 at *
      generalize vals 6 = t6 at *
      generalize vals 7 = t7 at *
      generalize vals 8 = t8 at *
      generalize vals 9 = t9 at *
      generalize vals 10 = t10 at *
      generalize vals 11 = t11 at *
      generalize vals 12 = t12 at *
      generalize vals 13 = t13 at *
      generalize vals 14 = t14 at *
      generalize vals 15 = t15 at *
      generalize vals 16 = t16 at *
      generalize vals 17 = t17 at *
      generalize vals 18 = t18 at *
      generalize vals 19 = t19 at *
      generalize vals 20 = t20 at *
      generalize vals 21 = t21 at *
      generalize vals 22 = t22 at *
      generalize vals 23 = t23 at *
      generalize vals 24 = t24 at *
      have HROW8 : Hid (SRow w8.heap.size w8 a2 L l) := hide (by
        obtain ⟨_, _, _, e, _, _, _, h⟩ := unhide HS8
        cases e
        exact h)
      have hb9 : Below w8.heap.size w8 (w8.alloc (.cells #[] 33)) := (Below.refl _ _).alloc (Nat.le_refl _) _
      have HROW9 := hide ((unhide HROW8).below hb9)
      have HB9 := hide hb9
      clear hb9
      go_wp2_with (refine wpList_app24E rfl rfl rfl rfl rfl (unhide HROW9) (by omega) (by omega) ?_)
      intro v10 w10 hO10 hb10
      have HO10 : Hid (SOwn w8.heap.size w10 v10 l) := hide (hO10.lower (by simp))
      have HB10 : Hid (Below w8.heap.size w8 w10) := hide ((unhide HB9).trans (hb10.mono (by simp)))
      obtain ⟨a10, c10, rfl, _, _⟩ := owns_slice hO10.1
      clear hO10 hb10 HROW9 HB9
      obtain ⟨os, hos⟩ : ∃ os, os = bytesV oneS := ⟨_, rfl⟩
      have HOS : Hid (Value.agg os.toArray = .agg (bytesV oneS).toArray) := hide (by rw [hos])
      have HBO : Hid (Try.prog.built 33 [(0, .int .u8 1)] = some os.toArray) := hide (by rw [hos]; exact built33one)
      clear hos
      go_wp2_with (first
        | refine wpList_build 33 _ os [(0, .int .u8 1)] rfl rfl rfl (unhide HBO) ?_
        | refine wpList_slice24 (s := oneS) rfl rfl (unhide HOS) oneS_len ?_)
      intro w11 hA11 hb11 hs11
      have hz8 := (unhide HB10).size
      have HO11 := hide ((unhide HO10).keepB hb11)
      have HB11 : Hid (Below w8.heap.size w8 w11) := hide ((unhide HB10).trans (hb11.mono hz8))
      have HA11 := hide hA11
      have HC11 : Hid (∀ j u, (secsV [oneS])[j]? = some u → w11.cell? ⟨w10.heap.size, 0 + j, none⟩ = some u) := hide (fun j u hj => by
        rw [Nat.zero_add]
        exact (unhide HA11).cell (by simpa [secsV] using hj))
      clear hA11 hb11 HO10 HB10
      go_wp2_with (refine wpList_app24 (B := w8.heap.size) (ts := [oneS]) rfl rfl rfl rfl rfl (unhide HO11) (fun s hs => by obtain rfl := List.mem_singleton.1 hs; exact oneS_len) rfl (unhide HC11) (by rw [← unhide HLL]; simp; omega) ((unhide HB11).size) ?_)
      intro v12 w12 hO12 hg12
      have hb12 : Below w8.heap.size w11 w12 := (Below.refl _ _).grown hg12 (unhide HB11).size (fun k hk => by
        rcases (unhide HO11).1.2 with ⟨e, _⟩ | ⟨g, cc, cur, e, h1, _⟩
        · rw [e] at hk; simp [Value.ownBlock] at hk
        · rw [e] at hk
          obtain rfl : g = k := by simpa [Value.ownBlock] using hk
          exact h1)
      have HB12 : Hid (Below w8.heap.size w8 w12) := hide ((unhide HB11).trans hb12)
      have H13 := hide (get_walk w12.heap.size v12 (l ++ [oneS]) w12 (Nat.le_refl _) hO12.row)
      rw [unhide HG1] at H13
      clear hO12 hg12 hb12 HO11 HC11 HA11 HB11
      go_wp2_with fail
      refine (unhide H13).mono ?_
      rintro e w13 ⟨⟨v13, rfl, hR13⟩, hb13⟩
      have HR13 := hide hR13
      have HB13 : Hid (Below w8.heap.size w8 w13) := hide ((unhide HB12).trans (hb13.mono (unhide HB12).size))
      have HS13 : Hid (SRowV w13.heap.size w13 (.slice a2 (L - 1) c2) (l.take (L - 1))) := hide (((SRowV.take (unhide HROW8) (by omega) hc2 (by
        obtain ⟨_, _, _, e, _, _, h3, _⟩ := unhide HS8
        cases e
        exact h3) (L - 1) (by omega)).below (unhide HB13)).up (unhide HB13).size)
      rw [← unhide HLL] at hR13 HG2 ⊢
      clear hR13 hb13 H13 HB12
      have H14 := hide (get_walk w13.heap.size (.slice a2 (L - 1) c2) _ w13 (Nat.le_refl _) (unhide HS13))
      rw [unhide HG2] at H14
      have hI : ((L : Nat) : Int) - 1 = ((L - 1 : Nat) : Int) := by omega
      have hcL : L - 1 ≤ c2 := by omega
      clear HS13
      go_wp2_with fail
      refine (unhide H14).mono ?_
      rintro e w14 ⟨⟨v14, rfl, hR14⟩, hb14⟩
      have HB14 : Hid (Below w.heap.size w w14) := hide ((unhide HB8).trans (((unhide HB13).trans (hb14.mono (unhide HB13).size)).mono (unhide HB8).size))
      have HR15 := hide (((unhide HR13).below hb14).up hb14.size)
      obtain ⟨a14, l14, c14, rfl, _, _, _, hr14⟩ := hR14
      obtain rfl : l14 = 0 := hr14.1.symm
      have ht1 := run_text (unhide HR15)
      have ht2 := run_text ((unhide HR).below (unhide HB14))
      have hself : ((tx b).toList == (tx b).toList) = true := by simp
      clear hb14 hr14 H14 HB13 HR13 HR15 HG1 HG2 HFL HFLL
      simp only
      generalize tx b = tb at *
      go_wp2_with fail
      go_ret
      exact ⟨rfl, unhide HB14⟩
end Go.Proofs.Ytkcchadecnkgnaa
