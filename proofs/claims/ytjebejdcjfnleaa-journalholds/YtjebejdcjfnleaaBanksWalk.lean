/-
  JournalBanks, walked.
-/
import Derived.Test.YtjebejdcjfnleaaJAlive
import Derived.Test.YtjebejdcjfnleaaKit2
namespace Go.Proofs.Ytjebejdcjfnleaa
open Go.RowKit

section
variable {ρ : Operand → Value} {o : Oper}
theorem op_len24 {x : Operand} {ad : Option Addr} {n c : Nat} (ho : o.op = .call { callee := .builtin .len, args := #[x], argTypes := #[24] }) (h1 : ρ x = .slice ad n c) (w : World) :
    (execOp ρ o).run Try.prog w = .ok (.value (.int .i64 (n : Int))) w := by
  unfold execOp
  rw [ho]
  go_simp
theorem op_idx24 {x y : Operand} {g off n c k : Nat} (ho : o.op = .indexAddr 24 x y) (h1 : ρ x = .slice (some ⟨g, off, none⟩) n c) (h2 : ρ y = .int .i64 (k : Int)) (hk : k < n) (w : World) :
    (execOp ρ o).run Try.prog w = .ok (.value (.pointer (some ⟨g, off + k, none⟩))) w := by
  unfold execOp
  rw [ho]
  go_simp
end
theorem alloc50 (w : World) : (Instr.alloc 50 true (.tuple #[])).run Try.prog w = .ok (.pointer (some ⟨w.heap.size, 0, none⟩)) (w.alloc (.cells (opV (0, 0, 0, 0)).toArray 50)) := by kernel_rfl
theorem info50 : (Try.prog.info? 50).map (·.size) = some 4 := by kernel_rfl
theorem ops_at {w : World} {v : Value} {n : Nat} {l : List OpT} (h : w.ownsRow 0 50 4 v n (opsV l)) (hn : l.length = n) {i : Nat} (hi : i < n) : ∃ g c, v = .slice (some ⟨g, 0, none⟩) n c ∧ g < w.heap.size ∧ w.rangeAt g (i * 4) (opV (l.getD i (0, 0, 0, 0))) := by
  rcases h.2 with ⟨rfl, h0⟩ | ⟨g, cap, cur, rfl, hb, hh, hcap, hmax, hcur, htk⟩
  · omega
  · refine ⟨g, cap, rfl, (Array.getElem?_eq_some_iff.1 hh).1, fun j u hj => ?_⟩
    have h1 := opsV_range (l := l) (i := i) (by omega) j u hj
    rw [Go.cell_of_row w g _ cur 50 _ hh, ← Array.getElem?_toList]
    have h2 : i * 4 + j < (opsV l).length := (List.getElem?_eq_some_iff.1 h1).1
    rw [opsV_length, hn] at h2
    have h3 : (cur.toList.take (n * 4))[i * 4 + j]? = cur.toList[i * 4 + j]? := by
      rw [List.getElem?_take]
      simp [h2]
    rw [← h3, htk, h1]
/-- Between two rounds. -/
structure BankS (N : Nat) (i : Nat) (F D : List Nat) (w : World) (q m p : Nat) (d : DM) (x : MX) (j : JX) (now : List Body) : Prop where
  jour : Jour F D w q m p d x j
  above : ∀ k ∈ q :: (F ++ D), N ≤ k
  sz : x.sz = [20, 20, 1]
  fit : Fit i d [20, 20, 1]
  most : d.most = 10000
  up : UpS d [20, 20, 1] j now
  bud : d.budget = -1
  wait : d.wait.length ≤ 5000
  ops : x.ops.length ≤ 5000
  a : j.a = 0
  b : j.b = 1
  inn : j.inn = (i + 1) % 2
  last : j.last = i
theorem BankS.below {N i : Nat} {F D : List Nat} {w w' : World} {q m p : Nat} {d : DM} {x : MX} {j : JX} {now : List Body} (h : BankS N i F D w q m p d x j now) (hb : Below w.heap.size w w') : BankS N i F D w' q m p d x j now := { h with jour := h.jour.below hb }
theorem Jour.tell {F D : List Nat} {w : World} {q m p : Nat} {d : DM} {x : MX} {j : JX} (h : Jour F D w q m p d x j) : Calls Try.prog 16 #[.pointer (some ⟨m, 0, none⟩)] w fun e w' =>
    ∃ ov F', e = .returned ov ∧ w'.ownsRow 0 50 4 ov x.ops.length (opsV x.ops) ∧ Jour F' D w' q m p d x.told j ∧ Turns (q :: (F ++ D)) (q :: (F' ++ D)) w w' := by
  refine (ops_walk h.map.map).mono ?_
  rintro e w' ⟨ov, F', rfl, hO, hM, hT, _, _⟩
  have h1 := h.map.turnM hT hM rfl
  have h2 := h.turn h1.2 h1.1 rfl
  exact ⟨ov, F', rfl, hO, h2.1, h2.2⟩

/-- What one Begin makes. -/
theorem bank_begin {i : Nat} {d : DM} {x : MX} {j : JX} {now : List Body} {b : Body} (hb : b.length ≤ 400) (hx : x.sz = [20, 20, 1]) (hj : j.Ok [20, 20, 1]) (hF : Fit i d [20, 20, 1]) (hm : d.most = 10000) (hu : UpS d [20, 20, 1] j now) (hbud : d.budget = -1)
    (ha : j.a = 0) (hbb : j.b = 1) (hi : j.inn = (i + 1) % 2) (hl : j.last = i) (hi20 : i < 20) (hop : x.ops = []) :
    ∃ d1 x1 j1, beginJ d x j b = (0, d1, x1, j1) ∧ Fit (i + 1) d1 [20, 20, 1] ∧ d1.most = 10000 ∧ UpS d1 [20, 20, 1] j1 [b] ∧ d1.budget = -1 ∧ d1.wait.length ≤ 5000 ∧ x1.ops.length ≤ 5000 ∧ x1.sz = [20, 20, 1] ∧
      (∀ o ∈ x1.ops, o.2.1 = ((i % 2 : Nat) : Int)) ∧ j1.a = 0 ∧ j1.b = 1 ∧ j1.inn = (i + 1 + 1) % 2 ∧ j1.last = i + 1 ∧ openD2 d1 [20, 20, 1] 0 1 = (j1.inn, j1.last, [b]) := by
  have hfit : fitsJ [20, 20, 1] j b.length = true := by
    have h1 : sizeF b.length ≤ 20 := by rw [sizeF_pos (by omega)]; omega
    have h2 := (sizeF_one (n := b.length) (by omega)).1
    unfold fitsJ roomJ JX.bk
    rw [if_pos rfl, if_neg (by decide), ha, hbb]
    simp only [Bool.and_eq_true, decide_eq_true_eq]
    refine ⟨by omega, ?_⟩
    show sizeF b.length ≤ min 20 20
    omega
  obtain ⟨d1, x1, e1, f1, f2, f3, f4, f5, f6⟩ := begin_let b hx hj hF (by omega) hu (by omega) (by omega) hbud hfit
  have hj1 : JX.Ok { j with inn := 1 - j.inn, last := j.last + 1, next := (putF 1 (j.last + 1) b).length, ready := true } [20, 20, 1] := ⟨hj.a, hj.b, hj.ne, by show 1 - j.inn ≤ 1; omega⟩
  refine ⟨d1, x1, _, e1, f1, by rw [f2, hm], f6, f4, f5, by have := f3.few; rw [hop] at this; simpa using this, by rw [f3.sz, hx], fun o ho => ?_, ha, hbb, by show 1 - j.inn = _; omega, by show j.last + 1 = _; omega, ?_⟩
  · rcases f3.only o ho with h | h
    · rw [hop] at h; cases h
    · rw [h]
      unfold JX.bk
      rw [ha, hbb]
      have : (if 1 - j.inn = 0 then 0 else 1) = i % 2 := by split <;> omega
      rw [this]
  · have := f6.opened f1 hj1 (by show j.last + 1 ≤ _; omega)
    have h2 : openD2 d1 [20, 20, 1] j.a j.b = (1 - j.inn, j.last + 1, [b]) := this
    rw [ha, hbb] at h2
    exact h2

namespace journalBanks
set_option maxHeartbeats 12800000 in
set_option maxRecDepth 100000 in
theorem walk (a : Option Addr) (len cap : Nat) (w : World) (hm : len ≤ maxLen) (hB : Bods w.heap.size w a len) : Calls Try.prog 5 #[.slice a len cap] w fun e w' => e = .returned (.bool true) ∧ Below w.heap.size w w' := by
  have HBO := hide hB
  clear hB
  have HLW : ∀ w, Hid (Calls Try.prog 8 #[.agg #[.int .i64 20, .int .i64 20]] w fun e w' => ∃ F D m p, e = .returned (.pointer (some ⟨m, 0, none⟩)) ∧ PMap F D w' m p (newD 60 10000) ⟨[20, 20, 1], 0, []⟩ ∧ (∀ k ∈ F ++ D, w.heap.size ≤ k) ∧ Below w.heap.size w w') := fun w => hide (law_open 20 20 (by omega) (by omega) w)
  by_cases h20 : 20 < len
  · have h20i : (20 : Int) < (len : Int) := by omega
    clear HLW
    go_enter Try.func5, Try.ntmps5
    go_wp2_with fail
    refine (jalive_walk w).mono ?_
    rintro e w0 ⟨rfl, hb0⟩
    have HB0 := hide hb0
    clear hb0
    go_wp2
    go_ret
    exact ⟨rfl, unhide HB0⟩
  · have h20i : ¬ (20 : Int) < (len : Int) := by omega
    have hl20 : len ≤ 20 := by omega
    clear h20
    go_enter Try.func5, Try.ntmps5
    go_wp2_with fail
    refine (jalive_walk w).mono ?_
    rintro e w0 ⟨rfl, hb0⟩
    have HB0 := hide hb0
    have HLW0 := HLW w0
    clear hb0 HLW
    go_wp2_with fail
    refine (unhide HLW0).mono ?_
    rintro e w1 ⟨F, D, m, p, rfl, hM, hF, hb⟩
    have HM := hide hM
    have HF := hide hF
    have HB := hide ((unhide HB0).trans (hb.mono (unhide HB0).size))
    have hs0 := (unhide HB0).size
    have HOP := hide (law_fresh 20 20 (by omega) (by omega) hM)
    clear hM hb HLW0 HB0
    go_wp2_with fail
    refine (unhide HOP).mono ?_
    rintro e w2 ⟨q, a0, c0, rfl, hJ, hb2, hq⟩
    have HB2 := hide ((unhide HB).trans (hb2.mono (unhide HB).size))
    have HS2 : Hid (BankS w.heap.size 0 F D w2 q m p (newD 60 10000) ⟨[20, 20, 1], 0, []⟩ jnew []) := hide
      { jour := hJ, above := fun k hk => by
          rcases List.mem_cons.1 hk with rfl | hk
          · exact Nat.le_trans (unhide HB).size hq
          · exact Nat.le_trans hs0 (unhide HF k hk)
        sz := rfl, fit := fit0 (by omega) (by omega), most := most0, up := up0 20 20, bud := bud0, wait := by show ([] : List (Nat × Sec)).length ≤ _; simp, ops := by simp, a := rfl, b := rfl, inn := rfl, last := rfl }
    clear hJ hb2 hq HOP HM HF HB hs0
    go_wp2
    go_loopw [26] (fun ci wr => ∃ (i : Nat) (F D : List Nat) (d : DM) (x : MX) (j : JX) (now : List Body), i ≤ len ∧ ci = .int .i64 (i : Int) ∧ BankS w.heap.size i F D wr q m p d x j now ∧ Below w.heap.size w wr) (fun ci _ => len - (intOf ci).toNat)
    case atStart => exact ⟨0, F, D, _, _, _, _, by omega, rfl, unhide HS2, unhide HB2⟩
    case round =>
      obtain ⟨i, F, D, d, x, j, now, hi, rfl, hS, hb⟩ := hrel
      have HS := hide hS
      have HB := hide hb
      clear hS hb HS2 HB2
      by_cases hlt : i < len
      · obtain ⟨bb, off, ka, kl, kc, rfl, hbN, hck, hkept⟩ := ((unhide HBO).below (unhide HB)) i hlt
        have HKE := hide hkept
        clear hkept
        by_cases h4 : 400 < kl
        · have h4i : (400 : Int) < (kl : Int) := by omega
          go_wp2
          go_ret
          exact ⟨rfl, unhide HB⟩
        · have h4i : ¬ (400 : Int) < (kl : Int) := by omega
          obtain ⟨bd, hrow⟩ := (unhide HKE).2.2 (by omega)
          have hbl : bd.length = kl := by
            obtain ⟨_, _, _, e, _, _, _, h5⟩ := hrow
            cases e
            exact h5.1
          have HRW := hide hrow
          have HT1 := hide (unhide HS).jour.tell
          clear hrow HKE
          go_wp2_with fail
          refine (unhide HT1).mono ?_
          rintro e w1 ⟨ov, F1, rfl, hO1, hJ1, hT1⟩
          have hab1 := hT1.above (unhide HS).above (unhide HB).size
          have HB1 := hide ((unhide HB).trans hab1.1)
          have HX1 := hide hab1.1
          have HJ1 := hide hJ1
          have HA1 := hide hab1.2
          obtain ⟨d2, x2, j2, e2, f1, f2, f3, f4, f5, f6, f7, f8, f9, f10, f11, f12, f13⟩ := bank_begin (x := x.told) (b := bd) (by omega) (unhide HS).sz ((unhide HS).sz ▸ (unhide HS).jour.ok) (unhide HS).fit (unhide HS).most (unhide HS).up (unhide HS).bud (unhide HS).a (unhide HS).b (unhide HS).inn (unhide HS).last (by omega) rfl
          have HBG := hide (begin_walk hJ1 (.slice ka kl kc) bd (fun w' hw => (((unhide HRW).below hab1.1).below (hw.below hab1.2 (unhide HB1).size)).up (Nat.le_trans (unhide HB1).size hw.size)) (by have := (unhide HS).wait; omega) (by show ([] : List OpT).length ≤ _; simp))
          rw [e2] at HBG
          have HF := hide (And.intro f1 (And.intro f2 (And.intro f3 (And.intro f4 (And.intro f5 (And.intro f6 f7))))))
          have HFo := hide f8
          have HFj := hide (And.intro f9 (And.intro f10 (And.intro f11 f12)))
          have HFp := hide f13
          clear hO1 hJ1 hT1 hab1 HT1 e2 f1 f2 f3 f4 f5 f6 f7 f8 f9 f10 f11 f12 f13
          go_wp2_with fail
          refine (unhide HBG).mono ?_
          rintro e w2 ⟨rfl, F2, D2, hJ2, hT2⟩
          have hab2 := hT2.above (unhide HA1) (unhide HB1).size
          have HB2 := hide ((unhide HB1).trans hab2.1)
          have HX2 := hide ((unhide HX1).trans hab2.1)
          have HA2 := hide hab2.2
          have HJ2 := hide hJ2
          have HLS : Hid (Calls Try.prog 17 #[.pointer (some ⟨q, 0, none⟩)] w2 fun e w' => e = .returned (.int .u64 ((i : Int) + 1)) ∧ w' = w2) := hide (by
            have := last_walk hJ2
            rw [show JX.last _ = i + 1 from (unhide HFj).2.2.2] at this
            simpa using this)
          have HT3 := hide hJ2.tell
          have hwrp : IntKind.u64.wrap ((i : Int) + 1) = (i : Int) + 1 := by rw [IntKind.wrap_u64]; omega
          clear hJ2 hT2 hab2 HBG
          go_wp2_with fail
          refine (unhide HLS).mono ?_
          rintro e w3 ⟨rfl, hw3⟩
          subst w3
          clear HLS
          go_wp2_with fail
          refine (unhide HT3).mono ?_
          rintro e w3 ⟨ov3, F3, rfl, hO3, hJ3, hT3⟩
          have hab3 := hT3.above (unhide HA2) (unhide HB2).size
          have HB3 := hide ((unhide HB2).trans hab3.1)
          have HX3 := hide ((unhide HX2).trans hab3.1)
          have HA3 := hide hab3.2
          have HJ3 := hide hJ3
          have HO3 := hide hO3
          obtain ⟨oa, oc, rfl, _, _⟩ := owns_slice hO3
          obtain ⟨on, hon⟩ : ∃ on, x2.ops.length = on := ⟨_, rfl⟩
          have HON := hide hon
          have hon5 : on ≤ 5000 := by have := (unhide HF).2.2.2.2.2.1; omega
          rw [hon] at HO3 ⊢
          clear hJ3 hO3 hT3 hab3 HT3 hwrp hon
          obtain ⟨z, hz⟩ : ∃ z, i % 2 = z := ⟨_, rfl⟩
          have htm : Int.tmod (i : Int) 2 = (z : Int) := by rw [Int.tmod_eq_emod_of_nonneg (by omega)]; omega
          have HZ := hide hz
          clear hz
          go_wp2
          go_loopw [51] (fun ck ws => ∃ k : Nat, k ≤ on ∧ ck = .int .i64 (k : Int) ∧ Below w3.heap.size w3 ws) (fun ck _ => on - (intOf ck).toNat)
          case atStart => exact ⟨0, by omega, rfl, Below.refl _ _⟩
          case round =>
            obtain ⟨k, hk, rfl, hbk⟩ := hrel
            by_cases hlk : k < on
            · obtain ⟨og, oc2, eq, hog, hrg⟩ := ops_at (unhide HO3) (unhide HON) hlk
              cases eq
              have hmem : x2.ops.getD k (0, 0, 0, 0) ∈ x2.ops := by
                rw [List.getD_eq_getElem?_getD, List.getElem?_eq_getElem (by rw [unhide HON]; exact hlk)]
                exact List.getElem_mem _
              have hpt := unhide HFo _ hmem
              rw [unhide HZ] at hpt
              generalize x2.ops.getD k (0, 0, 0, 0) = op at *
              obtain ⟨o0, o1, o2, o3⟩ := op
              simp only at hpt
              subst hpt
              have HRG := hide (range_same hrg (hbk.block og hog))
              have HBK := hide hbk
              clear hrg hbk hmem
              go_wp2_with (first
                | refine wpList_load_mid rfl 50 _ rfl og (k * 4) rfl (opV (o0, (z : Int), o2, o3)) _ (unhide HRG) Try.underlying50 rfl info50 ?_
                | refine wpList_alloc 50 50 (opV (0, 0, 0, 0)) rfl rfl alloc50 ?_)
              intro w5 hA5 hb5 hs5
              have HA5 := hide hA5
              have HB5 := hide ((unhide HBK).trans (hb5.mono (unhide HBK).size))
              have hzq := (unhide HBK).size
              generalize hbq : wr.heap.size = bq at *
              have HBQ := hide hbq
              clear hA5 hb5 HRG HBK hbq
              go_wp2_with (refine wpList_storeAll 50 _ _ bq (opV (o0, (z : Int), o2, o3)) (opV (0, 0, 0, 0)) rfl rfl rfl rfl (unhide HA5) rfl info50 (opV_one _) ?_)
              intro w6 hA6 hg6 hs6
              have hc61 : w6.cell? ⟨bq, 1, none⟩ = some (.int .i64 (z : Int)) := hA6.cell (i := 1) rfl
              have HB6 := hide ((unhide HB5).grown hg6 (unhide HB5).size (fun k hk => by simp at hk; omega))
              clear hA6 hg6 HA5 HB5
              go_wp2
              go_roundw
              case rel => exact ⟨k + 1, by omega, by go_num, unhide HB6⟩
              case measure => simp [intOf]; omega
            · have hkn : k = on := by omega
              subst hkn
              have HJ4 := hide ((unhide HJ3).below hbk)
              have HB4 := hide ((unhide HB3).trans (hbk.mono (unhide HB3).size))
              have HR4 := hide ((unhide HRW).below ((unhide HX3).trans (hbk.mono (unhide HB3).size)))
              have HOP4 := hide (jopen_walk (unhide HJ4).map 0 1 (by show 0 < x2.sz.length; rw [(unhide HF).2.2.2.2.2.2]; simp) (by show 1 < x2.sz.length; rw [(unhide HF).2.2.2.2.2.2]; simp) (by omega))
              rw [show openD2 d2 x2.told.sz 0 1 = (j2.inn, j2.last, [bd]) by show openD2 d2 x2.sz 0 1 = _; rw [(unhide HF).2.2.2.2.2.2]; exact unhide HFp] at HOP4
              clear hbk HX3 HX2 HX1 HRW htm
              go_wp2_with fail
              refine (unhide HOP4).mono ?_
              rintro e w8 ⟨q8, bv, rfl, _, hV8, hb8, _⟩
              obtain ⟨g0, gc0, u0, rfl, _, hg0, hc0, _, hr0⟩ := hV8.at (i := 0) (by simp)
              have hr0' : RowV w8.heap.size w8 u0 bd := hr0
              have hc0' : w8.cell? ⟨g0, 0, none⟩ = some u0 := hc0
              have HR0 := hide hr0'
              have HJ8 := hide ((unhide HJ4).below hb8)
              have HR8 := hide ((unhide HR4).below (hb8.mono (unhide HB4).size))
              have HB8 := hide ((unhide HB4).trans (hb8.mono (unhide HB4).size))
              clear hV8 hb8 HOP4 HJ4 HR4 HB4 HJ3 HB3 hc0 hr0 hr0'
              go_wp2_with fail
              refine Flow.wp_region (Flow.VV (fun ix => match ix with | 0 => .slice (some ⟨g0, 0, none⟩) 1 gc0 | 1 => .int .i64 1 | 2 => .bool false | 3 => .bool false | 4 => .slice (some ⟨g0, 0, none⟩) 1 gc0 | 5 => .pointer (some ⟨g0, 0, none⟩) | 6 => u0 | 7 => .string (tx bd) | 8 => .slice ka kl kc | 9 => .string (tx bd) | 10 => .bool false | 11 => .bool false | _ => undef)) (fun _ (_ : Unit) w' => w' = w8.drew) () (by kernel_rfl) (by kernel_rfl) rfl ⟨?_, ?_, ?_, ?_, ?_, ?_, ?_, ?_, ?_, ?_, ?_, ?_, trivial⟩ ?_
              · exact Flow.move (Flow.goes_plain rfl) (fun _ _ _ h => h) (.inl rfl) fun a s w' hs hd => (hs 11 (by kernel_rfl))
              · exact Flow.pure (Flow.goes_plain rfl) (fun _ _ _ h => h) fun a L s w' hC hL hn hs hd => ⟨_, op_len24 rfl (hd 0 66 (by kernel_rfl)) w', rfl⟩
              · exact Flow.pure (Flow.goes_plain rfl) (fun _ _ _ h => h) fun a L s w' hC hL hn hs hd => ⟨_, op_neq3 rfl (hd 1 67 (by kernel_rfl)) rfl (by decide) w', rfl⟩
              · exact Flow.move (Flow.goes_plain rfl) (fun _ _ _ h => h) (.inl rfl) fun a s w' hs hd => (hd 2 68 (by kernel_rfl))
              · exact Flow.move (Flow.goes_guard false rfl rfl rfl (by kernel_rfl) (fun _ _ _ h => h)) (fun _ _ _ h => h) (.inl rfl) fun a s w' hs hd => (hs 11 (by kernel_rfl))
              · exact Flow.pure (Flow.goes_guard false rfl rfl rfl (by kernel_rfl) (fun _ _ _ h => h)) (fun _ _ _ h => h) fun a L s w' hC hL hn hs hd => ⟨_, op_idx24 (k := 0) rfl (hd 4 70 (by kernel_rfl)) rfl (by decide) w', rfl⟩
              · refine Flow.pure (Flow.goes_guard false rfl rfl rfl (by kernel_rfl) (fun _ _ _ h => h)) (fun _ _ _ h => h) fun a L s w' hC hL hn hs hd => ?_
                skip
                exact ⟨_, op_load32 rfl (hd 5 71 (by kernel_rfl)) (by rw [hC]; exact hc0'), rfl⟩
              · exact Flow.pure (Flow.goes_guard false rfl rfl rfl (by kernel_rfl) (fun _ _ _ h => h)) (fun _ _ _ h => h) fun a L s w' hC hL hn hs hd => ⟨_, op_text (N := w8.heap.size) rfl (hd 6 72 (by kernel_rfl)) (by rw [hC]; exact unhide HR0), rfl⟩
              · exact Flow.move (Flow.goes_guard false rfl rfl rfl (by kernel_rfl) (fun _ _ _ h => h)) (fun _ _ _ h => h) (.inl rfl) fun a s w' hs hd => (hs 7 (by kernel_rfl))
              · exact Flow.pure (Flow.goes_guard false rfl rfl rfl (by kernel_rfl) (fun _ _ _ h => h)) (fun _ _ _ h => h) fun a L s w' hC hL hn hs hd => ⟨_, op_text (N := w.heap.size) rfl (hd 8 74 (by kernel_rfl)) (by rw [hC]; exact unhide HR8), rfl⟩
              · exact Flow.pure (Flow.goes_guard false rfl rfl rfl (by kernel_rfl) (fun _ _ _ h => h)) (fun _ _ _ h => h) fun a L s w' hC hL hn hs hd => ⟨_, op_neq9 rfl (hd 7 73 (by kernel_rfl)) (hd 9 75 (by kernel_rfl)) (by simp) w', rfl⟩
              · exact Flow.pure (Flow.goes_plain rfl) (fun _ _ _ h => h) fun a L s w' hC hL hn hs hd => ⟨_, op_pickF rfl (hd 3 69 (by kernel_rfl)) (hd 10 76 (by kernel_rfl)) w', rfl⟩
              · intro L _ w9 hC hL vals hv
                have e11 : vals 11 = .bool false := hv 11 _ 77 rfl rfl
                simp only [Free.putAll, Act.put, List.setIfInBounds_toArray, List.set_cons_succ, List.set_cons_zero, e11]
                have hC' : w9 = w8.drew := hC
                subst hC'
                have HB9 : Hid (Below w.heap.size w w8.drew) := hide (unhide HB8).drew
                have HS9 : Hid (BankS w.heap.size (i + 1) F3 D2 w8.drew q m p d2 x2.told j2 [bd]) := hide
                  { jour := (unhide HJ8).drew, above := unhide HA3, sz := (unhide HF).2.2.2.2.2.2, fit := (unhide HF).1, most := (unhide HF).2.1, up := (unhide HF).2.2.1, bud := (unhide HF).2.2.2.1, wait := (unhide HF).2.2.2.2.1, ops := by show ([] : List OpT).length ≤ _; simp,
                    a := (unhide HFj).1, b := (unhide HFj).2.1, inn := (unhide HFj).2.2.1, last := (unhide HFj).2.2.2 }
                clear hC hL hv e11 HJ8 HB8 HR8 HR0 hc0'
                generalize vals 0 = y0 at *
                generalize vals 1 = y1 at *
                generalize vals 2 = y2 at *
                generalize vals 3 = y3 at *
                generalize vals 4 = y4 at *
                generalize vals 5 = y5 at *
                generalize vals 6 = y6 at *
                generalize vals 7 = y7 at *
                generalize vals 8 = y8 at *
                generalize vals 9 = y9 at *
                generalize vals 10 = y10 at *
                go_wp2
                go_roundw
                case rel => exact ⟨i + 1, F3, D2, d2, x2.told, j2, [bd], by omega, by go_num, unhide HS9, unhide HB9⟩
                case measure => simp [intOf]; omega
      · have hil : i = len := by omega
        subst hil
        go_wp2
        go_ret
        exact ⟨rfl, unhide HB⟩
end journalBanks
end Go.Proofs.Ytjebejdcjfnleaa
