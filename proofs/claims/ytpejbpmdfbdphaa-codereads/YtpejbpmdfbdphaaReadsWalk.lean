/-
  CodeReads returns true, whatever the bytes and whatever is asked.
-/
import Derived.Test.YtpejbpmdfbdphaaOps2
import Derived.Test.YtpejbpmdfbdphaaKit
namespace Go.Proofs.Ytpejbpmdfbdphaa.codeReads
open Go.RowKit

def V13 (r sb ba : Nat) (m : Int) (X : Int) : Nat → Yield
  | 0 => .inl (.pointer (some ⟨r, 0, none⟩))
  | 1 => .inl (.pointer (some ⟨ba, 1, none⟩))
  | 2 => .inl (.int .i64 m)
  | 3 => .inl (.int .u64 X)
  | 4 => .inl (.pointer (some ⟨sb, 0, none⟩))
  | 5 => .inl (.pointer (some ⟨ba, 1, none⟩))
  | 6 => .inl (.int .i64 m)
  | 7 => .inl (.int .u64 X)
  | 8 => .inl (.bool true)
  | 9 => .inl (.bool true)
  | _ => .inl (.bool false)

def V15 (r sb ba : Nat) (m : Int) (X : ByteArray) : Nat → Yield
  | 0 => .inl (.pointer (some ⟨r, 0, none⟩))
  | 1 => .inl (.pointer (some ⟨ba, 1, none⟩))
  | 2 => .inl (.int .i64 m)
  | 3 => .inl (.string X)
  | 4 => .inl (.pointer (some ⟨sb, 0, none⟩))
  | 5 => .inl (.pointer (some ⟨ba, 1, none⟩))
  | 6 => .inl (.int .i64 m)
  | 7 => .inl (.string X)
  | 8 => .inl (.bool true)
  | 9 => .inl (.bool true)
  | _ => .inl (.bool false)

def V11 (r sb ba B : Nat) (m : Int) (X : List UInt8) : Nat → Yield
  | 0 => .inl (.pointer (some ⟨r, 0, none⟩))
  | 1 => .inl (.pointer (some ⟨ba, 1, none⟩))
  | 2 => .inl (.int .i64 m)
  | 3 => .inr (fun v w => Own B w v X)
  | 4 => .inl (.string (tx X))
  | 5 => .inl (.pointer (some ⟨sb, 0, none⟩))
  | 6 => .inl (.pointer (some ⟨ba, 1, none⟩))
  | 7 => .inl (.int .i64 m)
  | 8 => .inr (fun v w => Own B w v X)
  | 9 => .inl (.string (tx X))
  | 10 => .inl (.bool true)
  | 11 => .inl (.bool true)
  | _ => .inl (.bool false)

def V16 (r sb : Nat) (sa : Option Addr) (sc n : Nat) (e E : Int) : Nat → Yield
  | 0 => .inl (.bool true)
  | 1 => .inl (.bool false)
  | 2 => .inl (.bool false)
  | 3 => .inl (.pointer (some ⟨r, 0, none⟩))
  | 4 => .inl (.int .i64 (n : Int))
  | 5 => .inl (.pointer (some ⟨sb, 0, none⟩))
  | 6 => .inl (.pointer (some ⟨sb, 0, none⟩))
  | 7 => .inl (.pointer (some ⟨sb, 0, none⟩))
  | 8 => .inl (.slice sa n sc)
  | 9 => .inl (.int .i64 (n : Int))
  | 10 => .inl (.bool false)
  | 11 => .inl (.bool false)
  | 12 => .inl (.bool false)
  | 13 => .inl (.pointer (some ⟨r, 0, none⟩))
  | 14 => .inl (.int .i64 e)
  | 15 => .inl (.pointer (some ⟨sb, 0, none⟩))
  | 16 => .inl (.pointer (some ⟨sb, 0, none⟩))
  | 17 => .inl (.pointer (some ⟨sb, 1, none⟩))
  | 18 => .inl (.int .i64 e)
  | 19 => .inl (.bool false)
  | 20 => .inl (.bool false)
  | 21 => .inl (.bool false)
  | 22 => .inl (.pointer (some ⟨r, 0, none⟩))
  | 23 => .inl (.int .i64 E)
  | 24 => .inl (.pointer (some ⟨sb, 0, none⟩))
  | 25 => .inl (.int .i64 E)
  | 26 => .inl (.bool false)
  | 27 => .inl (.bool false)
  | _ => .inl (.bool false)

theorem V16.stable {r sb : Nat} {sa : Option Addr} {sc n : Nat} {e E : Int} : ∀ j v w w', VM (V16 r sb sa sc n e E) j v w → Below w.heap.size w w' → VM (V16 r sb sa sc n e E) j v w' :=
  VM.stable fun j p h => by
    unfold V16 at h
    split at h <;> cases h
theorem ans_len (l : List UInt8) (e : Int) (k : Nat) : (takeL l e k).1.length ≤ l.length := by
  unfold takeL
  split
  · simp
  · rw [List.length_take]; omega

set_option maxHeartbeats 3200000 in
set_option maxRecDepth 100000 in
theorem main (ab : Option Addr) (lenb capb : Nat) (bs : List UInt8) (hlb : lenb ≤ 1000) (a : Option Addr) (len cap : Nat) (K M : Nat → Int) (hlen : len ≤ 40) (w : World)
    (hB : RowV w.heap.size w (.slice ab lenb capb) bs) (hS : Asks w.heap.size w a len K M) :
    Calls Try.prog 5 #[.slice ab lenb capb, .slice a len cap] w fun e w' => e = .returned (.bool true) ∧ Below w.heap.size w w' := by
  have HB := hide hB
  have HS := hide hS
  clear hS hB
  go_enter Try.func5, Try.ntmps5
  go_wp2_with fail
  refine (alive_walk w).mono ?_
  rintro e w1 ⟨rfl, hb1⟩
  have Hb1 := hide hb1
  have HN := hide (new_walk w.heap.size _ bs w1 hb1.size ((unhide HB).below hb1))
  clear hb1
  go_wp2_with fail
  refine (unhide HN).mono ?_
  rintro e w2 ⟨rfl, hR2, hb2⟩
  have Hb2 := hide ((unhide Hb1).trans (hb2.mono (unhide Hb1).size))
  have hr := hR2.1
  have hrl := hR2.lt
  have HR2 := hide hR2
  clear hR2 hb2 HN Hb1
  generalize w1.heap.size = r at *
  go_wp2_with fail
  have hb3 : ∀ C, Below w2.heap.size w2 (w2.alloc (.cells C 42)) := fun C => (Below.refl _ _).alloc (Nat.le_refl _) _
  have hw2 := (unhide Hb2).size
  have HR3 : Hid (∀ C, Rd w.heap.size (w2.alloc (.cells C 42)) r bs 0) := hide (fun C => (unhide HR2).below (hb3 C))
  have HS3 : Hid (Rd w.heap.size (w2.alloc (.cells #[.slice ab lenb capb, .int .i64 0] 42)) w2.heap.size bs 0) := hide ⟨hw2, _, ⟨_, _, heap_alloc_new w2 _, rfl⟩, (unhide HB).below ((unhide Hb2).trans ((hb3 _).mono hw2))⟩
  have Hb3 : Hid (∀ C, Below w.heap.size w (w2.alloc (.cells C 42))) := hide (fun C => (unhide Hb2).trans ((hb3 C).mono hw2))
  have hrs : r ≠ w2.heap.size := by omega
  clear hb3 HR2 Hb2 hrl
  generalize w2.heap.size = sb at *
  go_loopw [27] (fun ci wr => ∃ (i : Nat) (l : List UInt8) (e : Int), i ≤ len ∧ ci = .int .i64 (i : Int) ∧ Rd w.heap.size wr r l e ∧ Rd w.heap.size wr sb l e ∧ Hid (Over l e) ∧ Below w.heap.size w wr) (fun ci _ => len - (intOf ci).toNat)
  case atStart => exact ⟨0, bs, 0, by omega, rfl, unhide HR3 _, unhide HS3, hide (fun h => absurd rfl h), unhide Hb3 _⟩
  case round =>
    clear HR3 HS3 Hb3
    obtain ⟨i, l, e, hi, rfl, hR, hS, HO, hb⟩ := hrel
    by_cases hlt : i < len
    · obtain ⟨b, off, rfl, hbN, hc0, hc1, hm1, hm2⟩ := ((unhide HS).below hb) i hlt
      have hrw := hR.lt
      have hsw := hS.lt
      have hrb : r ≠ wr.heap.size := by omega
      have hsb : sb ≠ wr.heap.size := by omega
      have hrB : Hid (r < wr.heap.size) := hide hrw
      have hsB : Hid (sb < wr.heap.size) := hide hsw
      have HLL : Hid (l.length ≤ 140737488351232) := hide (by
        obtain ⟨_, v, _, a9, n9, c9, rfl, _, _, _, hrow⟩ := hR
        have h1 := hrow.1
        have h2 := hrow.2.1
        omega)
      generalize K i = kd at *
      generalize M i = m at *
      have hbl : Below wr.heap.size wr (wr.alloc (.cells #[.int .i64 kd, .int .i64 m] 44)) := (Below.refl _ _).alloc (Nat.le_refl _) _
      have HB0 : Hid (∀ l2 e2, Both w.heap.size r sb wr.heap.size wr.heap.size kd m l e l2 e2 w false false (wr.alloc (.cells #[.int .i64 kd, .int .i64 m] 44)).drew) := hide (fun l2 e2 =>
        ⟨hR.below hbl.drew, hS.below hbl.drew, ⟨_, _, heap_alloc_new wr _, rfl⟩, (hb.trans (hbl.mono hb.size)).drew, by simp⟩)
      clear hR hS hb hbl hrw hsw
      by_cases h0 : kd = 0
      · skip
        subst kd
        have HF1 := hide (fun v h => rfixed_walk w.heap.size r m l e v h)
        have HF2 := hide (fun v h => fixedOf_walk w.heap.size sb m l e v h (unhide HO))
        have HO5 : Hid (Over (fixL l e m).2.1 (fixL l e m).2.2) := hide (takeL_over (unhide HO))
        generalize fixL l e m = t at *
        obtain ⟨ans, l2, e2⟩ := t
        simp only at HF1 HF2 HO5
        have HC0 := hide (unhide HB0 l2 e2)

        go_wp2_with fail
        refine Duo.wp_region 3 7 (VM (V13 r sb wr.heap.size m (ans : Int))) (But r sb) (Both w.heap.size r sb wr.heap.size wr.heap.size 0 m l e l2 e2 w) (by kernel_rfl) (by kernel_rfl) (by decide) (by decide) (VM.stableR fun j p h => by unfold V13 at h; split at h <;> cases h) (unhide HC0) ⟨?_, ?_, ?_, ?_, ?_, ?_, ?_, ?_, ?_, ?_, trivial⟩ ?_
        · exact Duo.move (by decide) (by decide) (But.refl _ _) (Free.goes_plain rfl) (.inl rfl) fun a w' hs hd => (hs 5 (by kernel_rfl))
        · exact Duo.pure (by decide) (by decide) (But.refl _ _) (Free.goes_plain rfl) fun a x y w' hC hs hd => ⟨_, op_field44 rfl (hs 8 (by kernel_rfl)) w', rfl⟩
        · exact Duo.pure (by decide) (by decide) (But.refl _ _) (Free.goes_plain rfl) fun a x y w' hC hs hd => ⟨_, op_load3 rfl (hd 1 47 (by kernel_rfl)) (hC.ask.cell (i := 1) rfl), rfl⟩
        · refine Duo.first (by decide) (Free.goes_plain rfl) fun a y w' hC hs hd => ?_
          refine ⟨9, _, op_call9 rfl (hd 0 46 (by kernel_rfl)) (hd 2 48 (by kernel_rfl)) rfl w', (unhide HF1 w' hC.one).mono ?_⟩
          rintro z w7 ⟨rfl, hR7, hg7⟩
          exact ⟨_, rfl, But.one hg7, hC.first hR7 hg7 hrs hrb, rfl⟩
        · exact Duo.move (by decide) (by decide) (But.refl _ _) (Free.goes_plain rfl) (.inl rfl) fun a w' hs hd => (hs 6 (by kernel_rfl))
        · exact Duo.pure (by decide) (by decide) (But.refl _ _) (Free.goes_plain rfl) fun a x y w' hC hs hd => ⟨_, op_field44 rfl (hs 8 (by kernel_rfl)) w', rfl⟩
        · exact Duo.pure (by decide) (by decide) (But.refl _ _) (Free.goes_plain rfl) fun a x y w' hC hs hd => ⟨_, op_load3 rfl (hd 5 51 (by kernel_rfl)) (hC.ask.cell (i := 1) rfl), rfl⟩
        · refine Duo.second (by decide) (Free.goes_plain rfl) fun a x w' hC hs hd => ?_
          refine ⟨19, _, op_call19 rfl (hd 4 50 (by kernel_rfl)) (hd 6 52 (by kernel_rfl)) rfl w', (unhide HF2 w' hC.two).mono ?_⟩
          rintro z w7 ⟨rfl, hR7, hg7⟩
          exact ⟨_, rfl, But.two hg7, hC.second hR7 hg7 hrs hsb, rfl⟩
        · exact Duo.pure (by decide) (by decide) (But.refl _ _) (Free.goes_plain rfl) fun a x y w' hC hs hd => ⟨_, op_eql26 rfl (hd 3 49 (by kernel_rfl)) (hd 7 53 (by kernel_rfl)) (by simp) w', rfl⟩
        · exact Duo.move (by decide) (by decide) (But.refl _ _) (Free.goes_plain rfl) (.inr rfl) fun a w' hs hd => (hd 8 54 (by kernel_rfl))

        intro w5 hC vals hv
        have e9 : vals 9 = .bool true := hv 9 _ 9 rfl rfl
        have HR5 : Hid (Rd w.heap.size w5 r l2 e2) := hide hC.one
        have hS5 : Rd w.heap.size w5 sb l2 e2 := hC.two
        have HS5 := hide hS5
        have Hb5 := hide hC.below
        clear hv hC
        obtain ⟨hs1, v5, hA5, a5, n5, c5, rfl, _, _, _, hrow5⟩ := hS5
        obtain rfl : l2.length = n5 := hrow5.1
        have HA5 := hide hA5
        clear hA5 hrow5 hs1
        simp only [Free.putAll, Act.put, List.setIfInBounds_toArray, List.set_cons_succ, List.set_cons_zero, e9]
        clear e9
        go_wp2_with fail
        refine Free.wp_region_owes (VM (V16 r sb a5 c5 l2.length e2 (endL l2 e2))) (fun w' => Below w5.heap.size w5 w') (by kernel_rfl) (by kernel_rfl) V16.stable (Below.drew (Below.refl _ _)) ⟨?_, ?_, ?_, ?_, ?_, ?_, ?_, ?_, ?_, ?_, ?_, ?_, ?_, ?_, ?_, ?_, ?_, ?_, ?_, ?_, ?_, ?_, ?_, ?_, ?_, ?_, ?_, ?_, trivial⟩ ?_
        · exact Free.owed_move (Free.goes_plain rfl) (.inl rfl) fun a w' _ hs hd => (hs 9 (by kernel_rfl))
        · exact Free.owed_pure (Free.goes_plain rfl) fun a w' hC hs hd => ⟨_, op_not rfl (hd 0 66 (by kernel_rfl)) w', rfl⟩
        · exact Free.owed_move (Free.goes_plain rfl) (.inl rfl) fun a w' _ hs hd => (hd 1 67 (by kernel_rfl))
        · exact Free.owed_move (Free.goes_guard false rfl rfl rfl (by kernel_rfl) fun _ _ h => h) (.inl rfl) fun a w' _ hs hd => (hs 5 (by kernel_rfl))
        · refine Free.owed_call (Free.goes_guard false rfl rfl rfl (by kernel_rfl) fun _ _ h => h) fun a w' hC hs hd => ?_
          refine ⟨12, _, op_call12 rfl (hd 3 69 (by kernel_rfl)) rfl w', (rleft_walk _ _ _ _ w' ((unhide HR5).below hC)).mono ?_⟩
          rintro z w7 ⟨rfl, hw7⟩
          subst w7
          exact ⟨_, rfl, Below.refl _ _, hC, rfl⟩
        · exact Free.owed_move (Free.goes_guard false rfl rfl rfl (by kernel_rfl) fun _ _ h => h) (.inl rfl) fun a w' _ hs hd => (hs 6 (by kernel_rfl))
        · exact Free.owed_pure (Free.goes_guard false rfl rfl rfl (by kernel_rfl) fun _ _ h => h) fun a w' hC hs hd => ⟨_, op_nil rfl (hd 5 71 (by kernel_rfl)) w', rfl⟩
        · exact Free.owed_pure (Free.goes_guard false rfl rfl rfl (by kernel_rfl) fun _ _ h => h) fun a w' hC hs hd => ⟨_, op_field0 rfl (hd 6 72 (by kernel_rfl)) w', rfl⟩
        · exact Free.owed_pure (Free.goes_guard false rfl rfl rfl (by kernel_rfl) fun _ _ h => h) fun a w' hC hs hd => ⟨_, op_load25 rfl (hd 7 73 (by kernel_rfl)) (((unhide HA5).below hC).cell (i := 0) rfl), rfl⟩
        · exact Free.owed_pure (Free.goes_guard false rfl rfl rfl (by kernel_rfl) fun _ _ h => h) fun a w' hC hs hd => ⟨_, op_len25 rfl (hd 8 74 (by kernel_rfl)) w', rfl⟩
        · exact Free.owed_pure (Free.goes_guard false rfl rfl rfl (by kernel_rfl) fun _ _ h => h) fun a w' hC hs hd => ⟨_, op_neq3 rfl (hd 4 70 (by kernel_rfl)) (hd 9 75 (by kernel_rfl)) (by simp) w', rfl⟩
        · exact Free.owed_pure (Free.goes_plain rfl) fun a w' hC hs hd => ⟨_, op_pickF rfl (hd 2 68 (by kernel_rfl)) (hd 10 76 (by kernel_rfl)) w', rfl⟩
        · exact Free.owed_move (Free.goes_plain rfl) (.inl rfl) fun a w' _ hs hd => (hd 11 77 (by kernel_rfl))
        · exact Free.owed_move (Free.goes_guard false rfl rfl rfl (by kernel_rfl) fun _ _ h => h) (.inl rfl) fun a w' _ hs hd => (hs 5 (by kernel_rfl))
        · refine Free.owed_call (Free.goes_guard false rfl rfl rfl (by kernel_rfl) fun _ _ h => h) fun a w' hC hs hd => ?_
          refine ⟨11, _, op_call11 rfl (hd 13 79 (by kernel_rfl)) rfl w', (rerr_walk _ _ _ _ w' ((unhide HR5).below hC)).mono ?_⟩
          rintro z w7 ⟨rfl, hw7⟩
          subst w7
          exact ⟨_, rfl, Below.refl _ _, hC, rfl⟩
        · exact Free.owed_move (Free.goes_guard false rfl rfl rfl (by kernel_rfl) fun _ _ h => h) (.inl rfl) fun a w' _ hs hd => (hs 6 (by kernel_rfl))
        · exact Free.owed_pure (Free.goes_guard false rfl rfl rfl (by kernel_rfl) fun _ _ h => h) fun a w' hC hs hd => ⟨_, op_nil rfl (hd 15 81 (by kernel_rfl)) w', rfl⟩
        · exact Free.owed_pure (Free.goes_guard false rfl rfl rfl (by kernel_rfl) fun _ _ h => h) fun a w' hC hs hd => ⟨_, op_field1 rfl (hd 16 82 (by kernel_rfl)) w', rfl⟩
        · exact Free.owed_pure (Free.goes_guard false rfl rfl rfl (by kernel_rfl) fun _ _ h => h) fun a w' hC hs hd => ⟨_, op_load3 rfl (hd 17 83 (by kernel_rfl)) (((unhide HA5).below hC).cell (i := 1) rfl), rfl⟩
        · exact Free.owed_pure (Free.goes_guard false rfl rfl rfl (by kernel_rfl) fun _ _ h => h) fun a w' hC hs hd => ⟨_, op_neq3 rfl (hd 14 80 (by kernel_rfl)) (hd 18 84 (by kernel_rfl)) (by simp) w', rfl⟩
        · exact Free.owed_pure (Free.goes_plain rfl) fun a w' hC hs hd => ⟨_, op_pickF rfl (hd 12 78 (by kernel_rfl)) (hd 19 85 (by kernel_rfl)) w', rfl⟩
        · exact Free.owed_move (Free.goes_plain rfl) (.inl rfl) fun a w' _ hs hd => (hd 20 86 (by kernel_rfl))
        · exact Free.owed_move (Free.goes_guard false rfl rfl rfl (by kernel_rfl) fun _ _ h => h) (.inl rfl) fun a w' _ hs hd => (hs 5 (by kernel_rfl))
        · refine Free.owed_call (Free.goes_guard false rfl rfl rfl (by kernel_rfl) fun _ _ h => h) fun a w' hC hs hd => ?_
          refine ⟨13, _, op_call13 rfl (hd 22 88 (by kernel_rfl)) rfl w', (rend_walk _ _ _ _ w' ((unhide HR5).below hC)).mono ?_⟩
          rintro z w7 ⟨rfl, hw7⟩
          subst w7
          exact ⟨_, rfl, Below.refl _ _, hC, rfl⟩
        · exact Free.owed_move (Free.goes_guard false rfl rfl rfl (by kernel_rfl) fun _ _ h => h) (.inl rfl) fun a w' _ hs hd => (hs 6 (by kernel_rfl))
        · refine Free.owed_call (Free.goes_guard false rfl rfl rfl (by kernel_rfl) fun _ _ h => h) fun a w' hC hs hd => ?_
          refine ⟨23, _, op_call23 rfl (hd 24 90 (by kernel_rfl)) rfl w', (refend_walk _ _ _ _ w' ((unhide HS5).below hC) (unhide HO5)).mono ?_⟩
          rintro z w7 ⟨rfl, hw7⟩
          subst w7
          exact ⟨_, rfl, Below.refl _ _, hC, rfl⟩
        · exact Free.owed_pure (Free.goes_guard false rfl rfl rfl (by kernel_rfl) fun _ _ h => h) fun a w' hC hs hd => ⟨_, op_neq3 rfl (hd 23 89 (by kernel_rfl)) (hd 25 91 (by kernel_rfl)) (by simp) w', rfl⟩
        · exact Free.owed_pure (Free.goes_plain rfl) fun a w' hC hs hd => ⟨_, op_pickF rfl (hd 21 87 (by kernel_rfl)) (hd 26 92 (by kernel_rfl)) w', rfl⟩
        intro w6 hC vals2 hv
        have e27 : vals2 27 = .bool false := hv 27 _ 93 rfl rfl
        clear hv
        simp only [Free.putAll, Act.put, List.setIfInBounds_toArray, List.set_cons_succ, List.set_cons_zero, e27]
        have HR6 := hide ((unhide HR5).below hC)
        have HS6 := hide ((unhide HS5).below hC)
        have Hb6 := hide ((unhide Hb5).trans (hC.mono (unhide Hb5).size))
        clear hC e27 HR5 HS5 Hb5 HA5
        go_wp2
        go_roundw
        case rel => exact ⟨i + 1, l2, e2, by omega, by go_num, unhide HR6, unhide HS6, HO5, unhide Hb6⟩
        case measure => simp [intOf]; omega
      · by_cases h1 : kd = 1
        · skip
          subst kd
          have HF1 := hide (fun v h => rtext_walk w.heap.size r m l e v h)
          have HF2 := hide (fun v h => textOf_walk w.heap.size sb m l e v h (unhide HO))
          have HO5 : Hid (Over (txtL l e m).2.1 (txtL l e m).2.2) := hide (txtL_over (unhide HO))
          generalize txtL l e m = t at *
          obtain ⟨ans, l2, e2⟩ := t
          simp only at HF1 HF2 HO5
          have HC0 := hide (unhide HB0 l2 e2)

          go_wp2_with fail
          refine Duo.wp_region 3 7 (VM (V15 r sb wr.heap.size m (tx ans))) (But r sb) (Both w.heap.size r sb wr.heap.size wr.heap.size 1 m l e l2 e2 w) (by kernel_rfl) (by kernel_rfl) (by decide) (by decide) (VM.stableR fun j p h => by unfold V15 at h; split at h <;> cases h) (unhide HC0) ⟨?_, ?_, ?_, ?_, ?_, ?_, ?_, ?_, ?_, ?_, trivial⟩ ?_
          · exact Duo.move (by decide) (by decide) (But.refl _ _) (Free.goes_plain rfl) (.inl rfl) fun a w' hs hd => (hs 5 (by kernel_rfl))
          · exact Duo.pure (by decide) (by decide) (But.refl _ _) (Free.goes_plain rfl) fun a x y w' hC hs hd => ⟨_, op_field44 rfl (hs 8 (by kernel_rfl)) w', rfl⟩
          · exact Duo.pure (by decide) (by decide) (But.refl _ _) (Free.goes_plain rfl) fun a x y w' hC hs hd => ⟨_, op_load3 rfl (hd 1 58 (by kernel_rfl)) (hC.ask.cell (i := 1) rfl), rfl⟩
          · refine Duo.first (by decide) (Free.goes_plain rfl) fun a y w' hC hs hd => ?_
            refine ⟨10, _, op_call10 rfl (hd 0 57 (by kernel_rfl)) (hd 2 59 (by kernel_rfl)) rfl w', (unhide HF1 w' hC.one).mono ?_⟩
            rintro z w7 ⟨rfl, hR7, hg7⟩
            exact ⟨_, rfl, But.one hg7, hC.first hR7 hg7 hrs hrb, rfl⟩
          · exact Duo.move (by decide) (by decide) (But.refl _ _) (Free.goes_plain rfl) (.inl rfl) fun a w' hs hd => (hs 6 (by kernel_rfl))
          · exact Duo.pure (by decide) (by decide) (But.refl _ _) (Free.goes_plain rfl) fun a x y w' hC hs hd => ⟨_, op_field44 rfl (hs 8 (by kernel_rfl)) w', rfl⟩
          · exact Duo.pure (by decide) (by decide) (But.refl _ _) (Free.goes_plain rfl) fun a x y w' hC hs hd => ⟨_, op_load3 rfl (hd 5 62 (by kernel_rfl)) (hC.ask.cell (i := 1) rfl), rfl⟩
          · refine Duo.second (by decide) (Free.goes_plain rfl) fun a x w' hC hs hd => ?_
            refine ⟨20, _, op_call20 rfl (hd 4 61 (by kernel_rfl)) (hd 6 63 (by kernel_rfl)) rfl w', (unhide HF2 w' hC.two).mono ?_⟩
            rintro z w7 ⟨rfl, hR7, hg7⟩
            exact ⟨_, rfl, But.two hg7, hC.second hR7 hg7 hrs hsb, rfl⟩
          · exact Duo.pure (by decide) (by decide) (But.refl _ _) (Free.goes_plain rfl) fun a x y w' hC hs hd => ⟨_, op_eql9 rfl (hd 3 60 (by kernel_rfl)) (hd 7 64 (by kernel_rfl)) (by simp) w', rfl⟩
          · exact Duo.move (by decide) (by decide) (But.refl _ _) (Free.goes_plain rfl) (.inr rfl) fun a w' hs hd => (hd 8 65 (by kernel_rfl))

          intro w5 hC vals hv
          have e9 : vals 9 = .bool true := hv 9 _ 9 rfl rfl
          have HR5 : Hid (Rd w.heap.size w5 r l2 e2) := hide hC.one
          have hS5 : Rd w.heap.size w5 sb l2 e2 := hC.two
          have HS5 := hide hS5
          have Hb5 := hide hC.below
          clear hv hC
          obtain ⟨hs1, v5, hA5, a5, n5, c5, rfl, _, _, _, hrow5⟩ := hS5
          obtain rfl : l2.length = n5 := hrow5.1
          have HA5 := hide hA5
          clear hA5 hrow5 hs1
          simp only [Free.putAll, Act.put, List.setIfInBounds_toArray, List.set_cons_succ, List.set_cons_zero, e9]
          clear e9
          go_wp2_with fail
          refine Free.wp_region_owes (VM (V16 r sb a5 c5 l2.length e2 (endL l2 e2))) (fun w' => Below w5.heap.size w5 w') (by kernel_rfl) (by kernel_rfl) V16.stable (Below.drew (Below.refl _ _)) ⟨?_, ?_, ?_, ?_, ?_, ?_, ?_, ?_, ?_, ?_, ?_, ?_, ?_, ?_, ?_, ?_, ?_, ?_, ?_, ?_, ?_, ?_, ?_, ?_, ?_, ?_, ?_, ?_, trivial⟩ ?_
          · exact Free.owed_move (Free.goes_plain rfl) (.inl rfl) fun a w' _ hs hd => (hs 9 (by kernel_rfl))
          · exact Free.owed_pure (Free.goes_plain rfl) fun a w' hC hs hd => ⟨_, op_not rfl (hd 0 66 (by kernel_rfl)) w', rfl⟩
          · exact Free.owed_move (Free.goes_plain rfl) (.inl rfl) fun a w' _ hs hd => (hd 1 67 (by kernel_rfl))
          · exact Free.owed_move (Free.goes_guard false rfl rfl rfl (by kernel_rfl) fun _ _ h => h) (.inl rfl) fun a w' _ hs hd => (hs 5 (by kernel_rfl))
          · refine Free.owed_call (Free.goes_guard false rfl rfl rfl (by kernel_rfl) fun _ _ h => h) fun a w' hC hs hd => ?_
            refine ⟨12, _, op_call12 rfl (hd 3 69 (by kernel_rfl)) rfl w', (rleft_walk _ _ _ _ w' ((unhide HR5).below hC)).mono ?_⟩
            rintro z w7 ⟨rfl, hw7⟩
            subst w7
            exact ⟨_, rfl, Below.refl _ _, hC, rfl⟩
          · exact Free.owed_move (Free.goes_guard false rfl rfl rfl (by kernel_rfl) fun _ _ h => h) (.inl rfl) fun a w' _ hs hd => (hs 6 (by kernel_rfl))
          · exact Free.owed_pure (Free.goes_guard false rfl rfl rfl (by kernel_rfl) fun _ _ h => h) fun a w' hC hs hd => ⟨_, op_nil rfl (hd 5 71 (by kernel_rfl)) w', rfl⟩
          · exact Free.owed_pure (Free.goes_guard false rfl rfl rfl (by kernel_rfl) fun _ _ h => h) fun a w' hC hs hd => ⟨_, op_field0 rfl (hd 6 72 (by kernel_rfl)) w', rfl⟩
          · exact Free.owed_pure (Free.goes_guard false rfl rfl rfl (by kernel_rfl) fun _ _ h => h) fun a w' hC hs hd => ⟨_, op_load25 rfl (hd 7 73 (by kernel_rfl)) (((unhide HA5).below hC).cell (i := 0) rfl), rfl⟩
          · exact Free.owed_pure (Free.goes_guard false rfl rfl rfl (by kernel_rfl) fun _ _ h => h) fun a w' hC hs hd => ⟨_, op_len25 rfl (hd 8 74 (by kernel_rfl)) w', rfl⟩
          · exact Free.owed_pure (Free.goes_guard false rfl rfl rfl (by kernel_rfl) fun _ _ h => h) fun a w' hC hs hd => ⟨_, op_neq3 rfl (hd 4 70 (by kernel_rfl)) (hd 9 75 (by kernel_rfl)) (by simp) w', rfl⟩
          · exact Free.owed_pure (Free.goes_plain rfl) fun a w' hC hs hd => ⟨_, op_pickF rfl (hd 2 68 (by kernel_rfl)) (hd 10 76 (by kernel_rfl)) w', rfl⟩
          · exact Free.owed_move (Free.goes_plain rfl) (.inl rfl) fun a w' _ hs hd => (hd 11 77 (by kernel_rfl))
          · exact Free.owed_move (Free.goes_guard false rfl rfl rfl (by kernel_rfl) fun _ _ h => h) (.inl rfl) fun a w' _ hs hd => (hs 5 (by kernel_rfl))
          · refine Free.owed_call (Free.goes_guard false rfl rfl rfl (by kernel_rfl) fun _ _ h => h) fun a w' hC hs hd => ?_
            refine ⟨11, _, op_call11 rfl (hd 13 79 (by kernel_rfl)) rfl w', (rerr_walk _ _ _ _ w' ((unhide HR5).below hC)).mono ?_⟩
            rintro z w7 ⟨rfl, hw7⟩
            subst w7
            exact ⟨_, rfl, Below.refl _ _, hC, rfl⟩
          · exact Free.owed_move (Free.goes_guard false rfl rfl rfl (by kernel_rfl) fun _ _ h => h) (.inl rfl) fun a w' _ hs hd => (hs 6 (by kernel_rfl))
          · exact Free.owed_pure (Free.goes_guard false rfl rfl rfl (by kernel_rfl) fun _ _ h => h) fun a w' hC hs hd => ⟨_, op_nil rfl (hd 15 81 (by kernel_rfl)) w', rfl⟩
          · exact Free.owed_pure (Free.goes_guard false rfl rfl rfl (by kernel_rfl) fun _ _ h => h) fun a w' hC hs hd => ⟨_, op_field1 rfl (hd 16 82 (by kernel_rfl)) w', rfl⟩
          · exact Free.owed_pure (Free.goes_guard false rfl rfl rfl (by kernel_rfl) fun _ _ h => h) fun a w' hC hs hd => ⟨_, op_load3 rfl (hd 17 83 (by kernel_rfl)) (((unhide HA5).below hC).cell (i := 1) rfl), rfl⟩
          · exact Free.owed_pure (Free.goes_guard false rfl rfl rfl (by kernel_rfl) fun _ _ h => h) fun a w' hC hs hd => ⟨_, op_neq3 rfl (hd 14 80 (by kernel_rfl)) (hd 18 84 (by kernel_rfl)) (by simp) w', rfl⟩
          · exact Free.owed_pure (Free.goes_plain rfl) fun a w' hC hs hd => ⟨_, op_pickF rfl (hd 12 78 (by kernel_rfl)) (hd 19 85 (by kernel_rfl)) w', rfl⟩
          · exact Free.owed_move (Free.goes_plain rfl) (.inl rfl) fun a w' _ hs hd => (hd 20 86 (by kernel_rfl))
          · exact Free.owed_move (Free.goes_guard false rfl rfl rfl (by kernel_rfl) fun _ _ h => h) (.inl rfl) fun a w' _ hs hd => (hs 5 (by kernel_rfl))
          · refine Free.owed_call (Free.goes_guard false rfl rfl rfl (by kernel_rfl) fun _ _ h => h) fun a w' hC hs hd => ?_
            refine ⟨13, _, op_call13 rfl (hd 22 88 (by kernel_rfl)) rfl w', (rend_walk _ _ _ _ w' ((unhide HR5).below hC)).mono ?_⟩
            rintro z w7 ⟨rfl, hw7⟩
            subst w7
            exact ⟨_, rfl, Below.refl _ _, hC, rfl⟩
          · exact Free.owed_move (Free.goes_guard false rfl rfl rfl (by kernel_rfl) fun _ _ h => h) (.inl rfl) fun a w' _ hs hd => (hs 6 (by kernel_rfl))
          · refine Free.owed_call (Free.goes_guard false rfl rfl rfl (by kernel_rfl) fun _ _ h => h) fun a w' hC hs hd => ?_
            refine ⟨23, _, op_call23 rfl (hd 24 90 (by kernel_rfl)) rfl w', (refend_walk _ _ _ _ w' ((unhide HS5).below hC) (unhide HO5)).mono ?_⟩
            rintro z w7 ⟨rfl, hw7⟩
            subst w7
            exact ⟨_, rfl, Below.refl _ _, hC, rfl⟩
          · exact Free.owed_pure (Free.goes_guard false rfl rfl rfl (by kernel_rfl) fun _ _ h => h) fun a w' hC hs hd => ⟨_, op_neq3 rfl (hd 23 89 (by kernel_rfl)) (hd 25 91 (by kernel_rfl)) (by simp) w', rfl⟩
          · exact Free.owed_pure (Free.goes_plain rfl) fun a w' hC hs hd => ⟨_, op_pickF rfl (hd 21 87 (by kernel_rfl)) (hd 26 92 (by kernel_rfl)) w', rfl⟩
          intro w6 hC vals2 hv
          have e27 : vals2 27 = .bool false := hv 27 _ 93 rfl rfl
          clear hv
          simp only [Free.putAll, Act.put, List.setIfInBounds_toArray, List.set_cons_succ, List.set_cons_zero, e27]
          have HR6 := hide ((unhide HR5).below hC)
          have HS6 := hide ((unhide HS5).below hC)
          have Hb6 := hide ((unhide Hb5).trans (hC.mono (unhide Hb5).size))
          clear hC e27 HR5 HS5 Hb5 HA5
          go_wp2
          go_roundw
          case rel => exact ⟨i + 1, l2, e2, by omega, by go_num, unhide HR6, unhide HS6, HO5, unhide Hb6⟩
          case measure => simp [intOf]; omega
        · skip
          have HF1 := hide (fun v h => rraw_walk w.heap.size r m hm2 l e v h)
          have HF2' := hide (fun v h => refraw_walk w.heap.size sb m hm1 hm2 l e v h)
          rw [rawL_over (unhide HO)] at HF2'
          have HF2 := HF2'
          clear HF2'
          have HO5 : Hid (Over (takeL l e m.toNat).2.1 (takeL l e m.toNat).2.2) := hide (takeL_over (unhide HO))
          have FL : Hid ((takeL l e m.toNat).1.length ≤ 140737488351232) := hide (Nat.le_trans (ans_len l e _) (unhide HLL))
          generalize takeL l e m.toNat = t at *
          obtain ⟨ans, l2, e2⟩ := t
          simp only at HF1 HF2 HO5 FL
          have HC0 := hide (unhide HB0 l2 e2)

          go_wp2_with fail
          refine Duo.wp_region 3 8 (VM (V11 r sb wr.heap.size wr.heap.size m ans)) (But r sb) (Both w.heap.size r sb wr.heap.size wr.heap.size kd m l e l2 e2 w) (by kernel_rfl) (by kernel_rfl) (by decide) (by decide) (VM.stableR fun j p h => by unfold V11 at h; split at h <;> first | (cases h; exact fun v w w' h hb => Own.but h hb (unhide hrB) (unhide hsB)) | (cases h)) (unhide HC0) ⟨?_, ?_, ?_, ?_, ?_, ?_, ?_, ?_, ?_, ?_, ?_, ?_, trivial⟩ ?_
          · exact Duo.move (by decide) (by decide) (But.refl _ _) (Free.goes_plain rfl) (.inl rfl) fun a w' hs hd => (hs 5 (by kernel_rfl))
          · exact Duo.pure (by decide) (by decide) (But.refl _ _) (Free.goes_plain rfl) fun a x y w' hC hs hd => ⟨_, op_field44 rfl (hs 8 (by kernel_rfl)) w', rfl⟩
          · exact Duo.pure (by decide) (by decide) (But.refl _ _) (Free.goes_plain rfl) fun a x y w' hC hs hd => ⟨_, op_load3 rfl (hd 1 34 (by kernel_rfl)) (hC.ask.cell (i := 1) rfl), rfl⟩
          · refine Duo.first (by decide) (Free.goes_plain rfl) fun a y w' hC hs hd => ?_
            refine ⟨21, _, op_call21 rfl (hd 0 33 (by kernel_rfl)) (hd 2 35 (by kernel_rfl)) rfl w', (unhide HF1 w' hC.one).mono ?_⟩
            rintro z w7 ⟨v7, rfl, hO7, hR7, hg7⟩
            exact ⟨_, rfl, But.one hg7, hC.first hR7 hg7 hrs hrb, hO7.lower hC.size⟩
          · exact Duo.pure (by decide) (by decide) (But.refl _ _) (Free.goes_plain rfl) fun a x y w' hC hs hd => ⟨_, op_text rfl rfl (Own.row (hd 3 36 (by kernel_rfl)) (unhide FL)), rfl⟩
          · exact Duo.move (by decide) (by decide) (But.refl _ _) (Free.goes_plain rfl) (.inl rfl) fun a w' hs hd => (hs 6 (by kernel_rfl))
          · exact Duo.pure (by decide) (by decide) (But.refl _ _) (Free.goes_plain rfl) fun a x y w' hC hs hd => ⟨_, op_field44 rfl (hs 8 (by kernel_rfl)) w', rfl⟩
          · exact Duo.pure (by decide) (by decide) (But.refl _ _) (Free.goes_plain rfl) fun a x y w' hC hs hd => ⟨_, op_load3 rfl (hd 6 39 (by kernel_rfl)) (hC.ask.cell (i := 1) rfl), rfl⟩
          · refine Duo.second (by decide) (Free.goes_plain rfl) fun a x w' hC hs hd => ?_
            refine ⟨22, _, op_call22 rfl (hd 5 38 (by kernel_rfl)) (hd 7 40 (by kernel_rfl)) rfl w', (unhide HF2 w' hC.two).mono ?_⟩
            rintro z w7 ⟨v7, rfl, ⟨hO7, _⟩, hR7, hg7⟩
            exact ⟨_, rfl, But.two hg7, hC.second hR7 hg7 hrs hsb, hO7.lower hC.size⟩
          · exact Duo.pure (by decide) (by decide) (But.refl _ _) (Free.goes_plain rfl) fun a x y w' hC hs hd => ⟨_, op_text rfl rfl (Own.row (hd 8 41 (by kernel_rfl)) (unhide FL)), rfl⟩
          · exact Duo.pure (by decide) (by decide) (But.refl _ _) (Free.goes_plain rfl) fun a x y w' hC hs hd => ⟨_, op_eql9 rfl (hd 4 37 (by kernel_rfl)) (hd 9 42 (by kernel_rfl)) (by simp) w', rfl⟩
          · exact Duo.move (by decide) (by decide) (But.refl _ _) (Free.goes_plain rfl) (.inr rfl) fun a w' hs hd => (hd 10 43 (by kernel_rfl))

          intro w5 hC vals hv
          have e9 : vals 11 = .bool true := hv 11 _ 9 rfl rfl
          have HR5 : Hid (Rd w.heap.size w5 r l2 e2) := hide hC.one
          have hS5 : Rd w.heap.size w5 sb l2 e2 := hC.two
          have HS5 := hide hS5
          have Hb5 := hide hC.below
          clear hv hC
          obtain ⟨hs1, v5, hA5, a5, n5, c5, rfl, _, _, _, hrow5⟩ := hS5
          obtain rfl : l2.length = n5 := hrow5.1
          have HA5 := hide hA5
          clear hA5 hrow5 hs1
          simp only [Free.putAll, Act.put, List.setIfInBounds_toArray, List.set_cons_succ, List.set_cons_zero, e9]
          clear e9
          go_wp2_with fail
          refine Free.wp_region_owes (VM (V16 r sb a5 c5 l2.length e2 (endL l2 e2))) (fun w' => Below w5.heap.size w5 w') (by kernel_rfl) (by kernel_rfl) V16.stable (Below.drew (Below.refl _ _)) ⟨?_, ?_, ?_, ?_, ?_, ?_, ?_, ?_, ?_, ?_, ?_, ?_, ?_, ?_, ?_, ?_, ?_, ?_, ?_, ?_, ?_, ?_, ?_, ?_, ?_, ?_, ?_, ?_, trivial⟩ ?_
          · exact Free.owed_move (Free.goes_plain rfl) (.inl rfl) fun a w' _ hs hd => (hs 9 (by kernel_rfl))
          · exact Free.owed_pure (Free.goes_plain rfl) fun a w' hC hs hd => ⟨_, op_not rfl (hd 0 66 (by kernel_rfl)) w', rfl⟩
          · exact Free.owed_move (Free.goes_plain rfl) (.inl rfl) fun a w' _ hs hd => (hd 1 67 (by kernel_rfl))
          · exact Free.owed_move (Free.goes_guard false rfl rfl rfl (by kernel_rfl) fun _ _ h => h) (.inl rfl) fun a w' _ hs hd => (hs 5 (by kernel_rfl))
          · refine Free.owed_call (Free.goes_guard false rfl rfl rfl (by kernel_rfl) fun _ _ h => h) fun a w' hC hs hd => ?_
            refine ⟨12, _, op_call12 rfl (hd 3 69 (by kernel_rfl)) rfl w', (rleft_walk _ _ _ _ w' ((unhide HR5).below hC)).mono ?_⟩
            rintro z w7 ⟨rfl, hw7⟩
            subst w7
            exact ⟨_, rfl, Below.refl _ _, hC, rfl⟩
          · exact Free.owed_move (Free.goes_guard false rfl rfl rfl (by kernel_rfl) fun _ _ h => h) (.inl rfl) fun a w' _ hs hd => (hs 6 (by kernel_rfl))
          · exact Free.owed_pure (Free.goes_guard false rfl rfl rfl (by kernel_rfl) fun _ _ h => h) fun a w' hC hs hd => ⟨_, op_nil rfl (hd 5 71 (by kernel_rfl)) w', rfl⟩
          · exact Free.owed_pure (Free.goes_guard false rfl rfl rfl (by kernel_rfl) fun _ _ h => h) fun a w' hC hs hd => ⟨_, op_field0 rfl (hd 6 72 (by kernel_rfl)) w', rfl⟩
          · exact Free.owed_pure (Free.goes_guard false rfl rfl rfl (by kernel_rfl) fun _ _ h => h) fun a w' hC hs hd => ⟨_, op_load25 rfl (hd 7 73 (by kernel_rfl)) (((unhide HA5).below hC).cell (i := 0) rfl), rfl⟩
          · exact Free.owed_pure (Free.goes_guard false rfl rfl rfl (by kernel_rfl) fun _ _ h => h) fun a w' hC hs hd => ⟨_, op_len25 rfl (hd 8 74 (by kernel_rfl)) w', rfl⟩
          · exact Free.owed_pure (Free.goes_guard false rfl rfl rfl (by kernel_rfl) fun _ _ h => h) fun a w' hC hs hd => ⟨_, op_neq3 rfl (hd 4 70 (by kernel_rfl)) (hd 9 75 (by kernel_rfl)) (by simp) w', rfl⟩
          · exact Free.owed_pure (Free.goes_plain rfl) fun a w' hC hs hd => ⟨_, op_pickF rfl (hd 2 68 (by kernel_rfl)) (hd 10 76 (by kernel_rfl)) w', rfl⟩
          · exact Free.owed_move (Free.goes_plain rfl) (.inl rfl) fun a w' _ hs hd => (hd 11 77 (by kernel_rfl))
          · exact Free.owed_move (Free.goes_guard false rfl rfl rfl (by kernel_rfl) fun _ _ h => h) (.inl rfl) fun a w' _ hs hd => (hs 5 (by kernel_rfl))
          · refine Free.owed_call (Free.goes_guard false rfl rfl rfl (by kernel_rfl) fun _ _ h => h) fun a w' hC hs hd => ?_
            refine ⟨11, _, op_call11 rfl (hd 13 79 (by kernel_rfl)) rfl w', (rerr_walk _ _ _ _ w' ((unhide HR5).below hC)).mono ?_⟩
            rintro z w7 ⟨rfl, hw7⟩
            subst w7
            exact ⟨_, rfl, Below.refl _ _, hC, rfl⟩
          · exact Free.owed_move (Free.goes_guard false rfl rfl rfl (by kernel_rfl) fun _ _ h => h) (.inl rfl) fun a w' _ hs hd => (hs 6 (by kernel_rfl))
          · exact Free.owed_pure (Free.goes_guard false rfl rfl rfl (by kernel_rfl) fun _ _ h => h) fun a w' hC hs hd => ⟨_, op_nil rfl (hd 15 81 (by kernel_rfl)) w', rfl⟩
          · exact Free.owed_pure (Free.goes_guard false rfl rfl rfl (by kernel_rfl) fun _ _ h => h) fun a w' hC hs hd => ⟨_, op_field1 rfl (hd 16 82 (by kernel_rfl)) w', rfl⟩
          · exact Free.owed_pure (Free.goes_guard false rfl rfl rfl (by kernel_rfl) fun _ _ h => h) fun a w' hC hs hd => ⟨_, op_load3 rfl (hd 17 83 (by kernel_rfl)) (((unhide HA5).below hC).cell (i := 1) rfl), rfl⟩
          · exact Free.owed_pure (Free.goes_guard false rfl rfl rfl (by kernel_rfl) fun _ _ h => h) fun a w' hC hs hd => ⟨_, op_neq3 rfl (hd 14 80 (by kernel_rfl)) (hd 18 84 (by kernel_rfl)) (by simp) w', rfl⟩
          · exact Free.owed_pure (Free.goes_plain rfl) fun a w' hC hs hd => ⟨_, op_pickF rfl (hd 12 78 (by kernel_rfl)) (hd 19 85 (by kernel_rfl)) w', rfl⟩
          · exact Free.owed_move (Free.goes_plain rfl) (.inl rfl) fun a w' _ hs hd => (hd 20 86 (by kernel_rfl))
          · exact Free.owed_move (Free.goes_guard false rfl rfl rfl (by kernel_rfl) fun _ _ h => h) (.inl rfl) fun a w' _ hs hd => (hs 5 (by kernel_rfl))
          · refine Free.owed_call (Free.goes_guard false rfl rfl rfl (by kernel_rfl) fun _ _ h => h) fun a w' hC hs hd => ?_
            refine ⟨13, _, op_call13 rfl (hd 22 88 (by kernel_rfl)) rfl w', (rend_walk _ _ _ _ w' ((unhide HR5).below hC)).mono ?_⟩
            rintro z w7 ⟨rfl, hw7⟩
            subst w7
            exact ⟨_, rfl, Below.refl _ _, hC, rfl⟩
          · exact Free.owed_move (Free.goes_guard false rfl rfl rfl (by kernel_rfl) fun _ _ h => h) (.inl rfl) fun a w' _ hs hd => (hs 6 (by kernel_rfl))
          · refine Free.owed_call (Free.goes_guard false rfl rfl rfl (by kernel_rfl) fun _ _ h => h) fun a w' hC hs hd => ?_
            refine ⟨23, _, op_call23 rfl (hd 24 90 (by kernel_rfl)) rfl w', (refend_walk _ _ _ _ w' ((unhide HS5).below hC) (unhide HO5)).mono ?_⟩
            rintro z w7 ⟨rfl, hw7⟩
            subst w7
            exact ⟨_, rfl, Below.refl _ _, hC, rfl⟩
          · exact Free.owed_pure (Free.goes_guard false rfl rfl rfl (by kernel_rfl) fun _ _ h => h) fun a w' hC hs hd => ⟨_, op_neq3 rfl (hd 23 89 (by kernel_rfl)) (hd 25 91 (by kernel_rfl)) (by simp) w', rfl⟩
          · exact Free.owed_pure (Free.goes_plain rfl) fun a w' hC hs hd => ⟨_, op_pickF rfl (hd 21 87 (by kernel_rfl)) (hd 26 92 (by kernel_rfl)) w', rfl⟩
          intro w6 hC vals2 hv
          have e27 : vals2 27 = .bool false := hv 27 _ 93 rfl rfl
          clear hv
          simp only [Free.putAll, Act.put, List.setIfInBounds_toArray, List.set_cons_succ, List.set_cons_zero, e27]
          have HR6 := hide ((unhide HR5).below hC)
          have HS6 := hide ((unhide HS5).below hC)
          have Hb6 := hide ((unhide Hb5).trans (hC.mono (unhide Hb5).size))
          clear hC e27 HR5 HS5 Hb5 HA5
          go_wp2
          go_roundw
          case rel => exact ⟨i + 1, l2, e2, by omega, by go_num, unhide HR6, unhide HS6, HO5, unhide Hb6⟩
          case measure => simp [intOf]; omega
    · go_wp2_with fail
      go_ret
      exact ⟨rfl, hb⟩

set_option maxHeartbeats 800000 in
set_option maxRecDepth 100000 in
theorem walk (a0 : Option Addr) (len0 cap0 : Nat) (a1 : Option Addr) (len1 cap1 : Nat) (K1 M1 : Nat → Int) (w : World) (w0 : Bytes w a0 len0 cap0) (m1 : len1 ≤ maxLen) (w1 : Asks w.heap.size w a1 len1 K1 M1) :
    Calls Try.prog 5 #[.slice a0 len0 cap0, .slice a1 len1 cap1] w fun e w' => e = .returned (.bool true) ∧ Below w.heap.size w w' := by
  obtain ⟨hlc, hcm, hrow⟩ := w0
  by_cases hc : len0 ≤ 1000 ∧ len1 ≤ 40
  · obtain ⟨bs, _, hB⟩ := hrow (by omega)
    exact main a0 len0 cap0 bs hc.1 a1 len1 cap1 K1 M1 hc.2 w hB w1
  · have hL : len1 ≤ 9223372036854775807 := m1
    have hL0 : len0 ≤ 9223372036854775807 := Nat.le_trans hlc hcm
    clear w1 m1 hrow
    have hA := hide (alive_walk w)
    by_cases h1 : 1000 < len0
    · go_enter Try.func5, Try.ntmps5
      go_wp2_with fail
      refine (unhide hA).mono ?_
      rintro e w1 ⟨rfl, hb1⟩
      go_wp2_with fail
      go_ret
      exact ⟨rfl, hb1⟩
    · have h3 : 40 < len1 := by omega
      clear hc
      go_enter Try.func5, Try.ntmps5
      go_wp2_with fail
      refine (unhide hA).mono ?_
      rintro e w1 ⟨rfl, hb1⟩
      go_wp2_with fail
      go_ret
      exact ⟨rfl, hb1⟩
end Go.Proofs.Ytpejbpmdfbdphaa.codeReads
