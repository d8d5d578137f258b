/-
  frame.Get: what it answers of whatever sectors.
-/
import Derived.Test.YtdfdalkcljfghaaGreatFRead
import Derived.Test.YtdfdalkcljfghaaGreatGrow
namespace Go.Proofs.YtdfdalkcljfghaaGreat
open Go.RowKit

theorem SRowV.take {N : Nat} {w : World} {a : Option Addr} {len cap : Nat} {ss : List Sec} (h : SRow N w a len ss) (hc : len ≤ cap) (hm : cap ≤ maxLen) (ha : a = none → cap = 0) (n : Nat) (hn : n ≤ len) : SRowV N w (.slice a n cap) (ss.take n) :=
  ⟨a, n, cap, rfl, by omega, hm, ha, h.take n hn⟩
theorem toldF_le (l : List Sec) : toldF l ≤ 64 := by
  unfold toldF
  split
  · omega
  · exact sizeF_le _
theorem getF_none {l : List Sec} (h : toldF l = 0 ∨ l.length < toldF l) : getF l = noF := by unfold getF; rw [if_pos h]
theorem getF_some {l : List Sec} (h : ¬ (toldF l = 0 ∨ l.length < toldF l)) : getF l =
    (if putF (kF (joinedF (l.take (toldF l)))) (seqF (joinedF (l.take (toldF l)))) (bodyF (joinedF (l.take (toldF l)))) = l.take (toldF l) then
      (kF (joinedF (l.take (toldF l))), seqF (joinedF (l.take (toldF l))), bodyF (joinedF (l.take (toldF l))), toldF l) else noF) := by
  unfold getF
  rw [if_neg h]

/-- What Get answers, as values. -/
def GotAt (B : Nat) (x : UInt8 × Nat × List UInt8 × Nat) (e : Ending) (w : World) : Prop :=
  ∃ v', e = .returned (.tuple #[.int .u8 ((x.1.toNat : Nat) : Int), .int .u64 (x.2.1 : Int), v', .int .i64 ((x.2.2.2 : Nat) : Int)]) ∧ Own B w v' x.2.2.1

set_option maxRecDepth 100000 in
set_option maxHeartbeats 2000000 in
theorem get_walk (N : Nat) (v : Value) (ss : List Sec) (w : World) (hN : N ≤ w.heap.size) (hr : SRowV N w v ss) :
    Calls Tryz.prog 115 #[v] w fun e w' => GotAt w.heap.size (getF ss) e w' ∧ Below w.heap.size w w' := by
  have HT := hide (told_walk N v ss w hN hr)
  have ht64 := toldF_le ss
  by_cases h1 : toldF ss = 0 ∨ ss.length < toldF ss
  · rw [getF_none h1]
    obtain ⟨a, len, cap, rfl, q1, q2, q3, hrow⟩ := hr
    have hlen := hrow.1
    rw [hlen] at h1
    generalize toldF ss = t at *
    clear hrow hlen
    by_cases h0 : t = 0
    · subst h0
      clear h1
      go_enter Tryz.func115, Tryz.ntmps115
      go_wp2_with fail
      refine (unhide HT).mono ?_
      rintro e w1 ⟨rfl, hb1⟩
      have Hb1 := hide hb1
      clear hb1 HT
      go_wp2_with fail
      refine ⟨rfl, .tuple #[.int .u8 0, .int .u64 0, .slice none 0 0, .int .i64 0], by simp [results, Tryz.results115], ?_⟩
      exact ⟨⟨_, rfl, Own.nil _ _⟩, unhide Hb1⟩
    · have h2 : len < t := by omega
      clear h1
      go_enter Tryz.func115, Tryz.ntmps115
      go_wp2_with fail
      refine (unhide HT).mono ?_
      rintro e w1 ⟨rfl, hb1⟩
      have Hb1 := hide hb1
      clear hb1 HT
      go_wp2_with fail
      refine ⟨rfl, .tuple #[.int .u8 0, .int .u64 0, .slice none 0 0, .int .i64 0], by simp [results, Tryz.results115], ?_⟩
      exact ⟨⟨_, rfl, Own.nil _ _⟩, unhide Hb1⟩
  · have HG := hide (getF_some h1)
    obtain ⟨a, len, cap, rfl, q1, q2, q3, hrow⟩ := hr
    have hlen := hrow.1
    rw [hlen] at h1
    have hsec := hrow.2.1
    have hle : toldF ss ≤ len := by omega
    have htl : (ss.take (toldF ss)).length = toldF ss := by rw [List.length_take]; omega
    have hjl := joinedF_length (l := ss.take (toldF ss)) (fun s h => hsec s (List.mem_of_mem_take h))
    have hS := SRowV.take hrow q1 q2 q3 (toldF ss) hle
    have ht0 : toldF ss ≠ 0 := by omega
    generalize getF ss = out at *
    generalize toldF ss = t at *
    generalize ss.take t = l at *
    rw [htl] at hjl
    have HTL := hide htl
    have hbl := lenF_lt (joinedF l)
    have hsl := seqF_lt (joinedF l)
    have hkl := (kF (joinedF l)).toNat_lt
    generalize hjj : joinedF l = r at *
    have HJ := hide hjj
    have HS := hide hS
    have hlt2 : ¬ len < t := by omega
    have hcap : t ≤ cap := by omega
    clear hrow hlen hsec h1 hS htl
    have hrl : 13 ≤ r.length := by omega
    have hrlb : r.length ≤ 5000 := by omega
    clear hjl hjj
    go_enter Tryz.func115, Tryz.ntmps115
    go_wp2_with fail
    refine (unhide HT).mono ?_
    rintro e w1 ⟨rfl, hb1⟩
    have H1 := hide (joined_walk N (.slice a t cap) l w1 (Nat.le_trans hN hb1.size) ((unhide HS).below (hb1.mono hN)) (by rw [unhide HTL]; omega))
    have Hb1 := hide hb1
    clear hb1 HT
    go_wp2_with fail
    refine (unhide H1).mono ?_
    rintro e w2 ⟨v2, rfl, hO2, hb2⟩
    rw [unhide HJ] at hO2
    have Hb2 := hide ((unhide Hb1).trans (hb2.mono (unhide Hb1).size))
    have H2 := hide (read_walk8 w2.heap.size v2 r w2 (Nat.le_refl _) (hO2.row (by omega)) hrl)
    clear hO2 hb2 H1 Hb1
    go_wp2_with fail
    refine (unhide H2).mono ?_
    rintro e w3 ⟨v3, rfl, hO3, hb3⟩
    have Hb3 := hide ((unhide Hb2).trans (hb3.mono (unhide Hb2).size))
    have hbl2 : (bodyF r).length ≤ lenF r := takeL_answer
    have hR3 := hO3.row (by omega)
    have HR3 := hide hR3
    have HO3 := hide (hO3.lower (B' := w.heap.size) (unhide Hb2).size)
    have hR3' := hR3
    obtain ⟨a3, l3, c3, rfl, _⟩ := hR3'
    have HS3 := hide ((unhide HS).below ((unhide Hb3).mono hN))
    have hz3 : N ≤ w3.heap.size := Nat.le_trans hN (unhide Hb3).size
    have HP := hide (fun w' => put_sectors w3.heap.size (kF r) (seqF r) hsl (.slice a3 l3 c3) (bodyF r) w')
    obtain ⟨ps, hps⟩ : ∃ ps, ps = putF (kF r) (seqF r) (bodyF r) := ⟨_, rfl⟩
    have hpl : ps.length ≤ 64 := by
      by_cases h : (bodyF r).length ≤ 4000
      · rw [hps, putF_length h]; exact sizeF_le _
      · rw [hps, putF_none h]; simp
    rw [← hps] at HG HP
    clear hO3 hb3 H2 hbl2 hbl Hb2 hR3 HS hps
    generalize bodyF r = body at *
    generalize seqF r = sq at *
    generalize kF r = kk at *
    by_cases hq : ps = l
    · have HE : Hid (decide (ps = l) = true) := hide (by simpa using hq)
      have HO : Hid (out = (kk, sq, body, t)) := hide (by rw [unhide HG, if_pos hq])
      clear HG hq
      go_wp2_with fail
      refine Flow.wp_region (VG (fun j => match j with | 0 => .int .u8 ((kk.toNat : Nat) : Int) | 1 => .int .u64 (sq : Int) | 2 => .slice a3 l3 c3 | 4 => .slice a len cap | 5 => .int .i64 (t : Int) | 6 => .slice a t cap | 7 => .bool true | 8 => .bool false | _ => undef) [(3, SecsAt w3.heap.size ps)]) (fun _ (_ : Unit) w' => Below w3.heap.size w3 w') () (by kernel_rfl) (by kernel_rfl) (Below.refl _ _).drew ⟨?_, ?_, ?_, ?_, ?_, ?_, ?_, ?_, ?_, trivial⟩ ?_
      · exact Flow.move (Flow.goes_plain rfl) (fun _ _ _ h => h) (.inl rfl) fun a s w' hs hd => (hs 7 (by kernel_rfl))
      · exact Flow.move (Flow.goes_plain rfl) (fun _ _ _ h => h) (.inl rfl) fun a s w' hs hd => (hs 8 (by kernel_rfl))
      · exact Flow.move (Flow.goes_plain rfl) (fun _ _ _ h => h) (.inl rfl) fun a s w' hs hd => (hs 9 (by kernel_rfl))
      · refine Flow.call (Flow.goes_plain rfl) fun a L s0 w' hC hL hn hs hd => ⟨126, _, op_call126 rfl (hd 0 29 (by kernel_rfl)) (hd 1 30 (by kernel_rfl)) (hd 2 31 (by kernel_rfl)) rfl w', (unhide HP w' hC.size ((unhide HR3).below hC)).mono ?_⟩
        rintro e w'' ⟨v4, rfl, hO4, hb4⟩
        exact ⟨_, (), rfl, VG.grow (fun y hy => by obtain rfl := List.mem_singleton.1 hy; exact SecsAt.grows _ _) hb4, hC.trans (hb4.mono hC.size), hO4.lower hC.size⟩
      · exact Flow.move (Flow.goes_plain rfl) (fun _ _ _ h => h) (.inl rfl) fun a s w' hs hd => (hs 0 (by kernel_rfl))
      · exact Flow.move (Flow.goes_plain rfl) (fun _ _ _ h => h) (.inl rfl) fun a s w' hs hd => (hs 6 (by kernel_rfl))
      · exact Flow.pure (Flow.goes_plain rfl) (fun _ _ _ h => h) fun a L s w' hC hL hn hs hd => ⟨_, op_to131 rfl (hd 4 33 (by kernel_rfl)) (hd 5 34 (by kernel_rfl)) hcap w', rfl⟩
      · refine Flow.call (Flow.goes_plain rfl) fun a L s0 w' hC hL hn hs hd => ⟨141, _, op_call478 rfl rfl (hd 6 35 (by kernel_rfl)) rfl w', ?_⟩
        have h4 : SOwn w3.heap.size w' _ ps := hd 3 32 (by kernel_rfl)
        refine (equal_walk w'.heap.size _ _ ps l w' h4.row (((unhide HS3).below (hC.mono hz3)).up (Nat.le_trans hz3 hC.size)) (by omega)).mono ?_
        rintro e w'' ⟨rfl, hb4⟩
        rw [unhide HE]
        exact ⟨_, (), rfl, VG.grow (fun y hy => by obtain rfl := List.mem_singleton.1 hy; exact SecsAt.grows _ _) hb4, hC.trans (hb4.mono hC.size), rfl⟩
      · exact Flow.pure (Flow.goes_plain rfl) (fun _ _ _ h => h) fun a L s w' hC hL hn hs hd => ⟨_, op_not8 rfl (hd 7 36 (by kernel_rfl)) w', rfl⟩
      · intro L _ w8 hC hL vals hv
        have e8 : vals 8 = .bool false := hv 8 _ 37 rfl rfl
        simp only [Free.putAll, Act.put, List.setIfInBounds_toArray, List.set_cons_succ, List.set_cons_zero, e8]
        have HB8 := hide ((unhide Hb3).trans (hC.mono (unhide Hb3).size))
        have HO8 := hide ((unhide HO3).keepB hC)
        clear hC hL hv e8
        generalize vals 0 = t0 at *
        generalize vals 1 = t1 at *
        generalize vals 2 = t2 at *
        generalize vals 3 = t3 at *
        generalize vals 4 = t4 at *
        generalize vals 5 = t5 at *
        generalize vals 6 = t6 at *
        generalize vals 7 = t7 at *
        go_wp2
        refine ⟨rfl, .tuple #[.int .u8 ((kk.toNat : Nat) : Int), .int .u64 (sq : Int), .slice a3 l3 c3, .int .i64 (t : Int)], by simp [results, Tryz.results115], ?_⟩
        rw [unhide HO]
        exact ⟨⟨_, rfl, unhide HO8⟩, unhide HB8⟩
    · have HE : Hid (decide (ps = l) = false) := hide (by simpa using hq)
      have HO : Hid (out = noF) := hide (by rw [unhide HG, if_neg hq])
      clear HG hq
      go_wp2_with fail
      refine Flow.wp_region (VG (fun j => match j with | 0 => .int .u8 ((kk.toNat : Nat) : Int) | 1 => .int .u64 (sq : Int) | 2 => .slice a3 l3 c3 | 4 => .slice a len cap | 5 => .int .i64 (t : Int) | 6 => .slice a t cap | 7 => .bool false | 8 => .bool true | _ => undef) [(3, SecsAt w3.heap.size ps)]) (fun _ (_ : Unit) w' => Below w3.heap.size w3 w') () (by kernel_rfl) (by kernel_rfl) (Below.refl _ _).drew ⟨?_, ?_, ?_, ?_, ?_, ?_, ?_, ?_, ?_, trivial⟩ ?_
      · exact Flow.move (Flow.goes_plain rfl) (fun _ _ _ h => h) (.inl rfl) fun a s w' hs hd => (hs 7 (by kernel_rfl))
      · exact Flow.move (Flow.goes_plain rfl) (fun _ _ _ h => h) (.inl rfl) fun a s w' hs hd => (hs 8 (by kernel_rfl))
      · exact Flow.move (Flow.goes_plain rfl) (fun _ _ _ h => h) (.inl rfl) fun a s w' hs hd => (hs 9 (by kernel_rfl))
      · refine Flow.call (Flow.goes_plain rfl) fun a L s0 w' hC hL hn hs hd => ⟨126, _, op_call126 rfl (hd 0 29 (by kernel_rfl)) (hd 1 30 (by kernel_rfl)) (hd 2 31 (by kernel_rfl)) rfl w', (unhide HP w' hC.size ((unhide HR3).below hC)).mono ?_⟩
        rintro e w'' ⟨v4, rfl, hO4, hb4⟩
        exact ⟨_, (), rfl, VG.grow (fun y hy => by obtain rfl := List.mem_singleton.1 hy; exact SecsAt.grows _ _) hb4, hC.trans (hb4.mono hC.size), hO4.lower hC.size⟩
      · exact Flow.move (Flow.goes_plain rfl) (fun _ _ _ h => h) (.inl rfl) fun a s w' hs hd => (hs 0 (by kernel_rfl))
      · exact Flow.move (Flow.goes_plain rfl) (fun _ _ _ h => h) (.inl rfl) fun a s w' hs hd => (hs 6 (by kernel_rfl))
      · exact Flow.pure (Flow.goes_plain rfl) (fun _ _ _ h => h) fun a L s w' hC hL hn hs hd => ⟨_, op_to131 rfl (hd 4 33 (by kernel_rfl)) (hd 5 34 (by kernel_rfl)) hcap w', rfl⟩
      · refine Flow.call (Flow.goes_plain rfl) fun a L s0 w' hC hL hn hs hd => ⟨141, _, op_call478 rfl rfl (hd 6 35 (by kernel_rfl)) rfl w', ?_⟩
        have h4 : SOwn w3.heap.size w' _ ps := hd 3 32 (by kernel_rfl)
        refine (equal_walk w'.heap.size _ _ ps l w' h4.row (((unhide HS3).below (hC.mono hz3)).up (Nat.le_trans hz3 hC.size)) (by omega)).mono ?_
        rintro e w'' ⟨rfl, hb4⟩
        rw [unhide HE]
        exact ⟨_, (), rfl, VG.grow (fun y hy => by obtain rfl := List.mem_singleton.1 hy; exact SecsAt.grows _ _) hb4, hC.trans (hb4.mono hC.size), rfl⟩
      · exact Flow.pure (Flow.goes_plain rfl) (fun _ _ _ h => h) fun a L s w' hC hL hn hs hd => ⟨_, op_not8 rfl (hd 7 36 (by kernel_rfl)) w', rfl⟩
      · intro L _ w8 hC hL vals hv
        have e8 : vals 8 = .bool true := hv 8 _ 37 rfl rfl
        simp only [Free.putAll, Act.put, List.setIfInBounds_toArray, List.set_cons_succ, List.set_cons_zero, e8]
        have HB8 := hide ((unhide Hb3).trans (hC.mono (unhide Hb3).size))
        clear hC hL hv e8
        generalize vals 0 = t0 at *
        generalize vals 1 = t1 at *
        generalize vals 2 = t2 at *
        generalize vals 3 = t3 at *
        generalize vals 4 = t4 at *
        generalize vals 5 = t5 at *
        generalize vals 6 = t6 at *
        generalize vals 7 = t7 at *
        go_wp2
        refine ⟨rfl, .tuple #[.int .u8 0, .int .u64 0, .slice none 0 0, .int .i64 0], by simp [results, Tryz.results115], ?_⟩
        rw [unhide HO]
        exact ⟨⟨_, rfl, Own.nil _ _⟩, unhide HB8⟩
end Go.Proofs.YtdfdalkcljfghaaGreat
