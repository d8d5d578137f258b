/-
  JournalHolds, walked.
-/
import Derived.Test.YtjebejdcjfnleaaHReg
import Derived.Test.YtjebejdcjfnleaaRestart
namespace Go.Proofs.Ytjebejdcjfnleaa
open Go.RowKit

def zeroAct : List Value := [.int .i64 0, .int .i64 0, .int .i64 0, .slice none 0 0, .int .u8 0, .int .u64 0]
theorem alloc39 (w : World) : (Instr.alloc 39 true (.tuple #[])).run Try.prog w = .ok (.pointer (some ⟨w.heap.size, 0, none⟩)) (w.alloc (.cells zeroAct.toArray 39)) := by kernel_rfl
theorem info39 : (Try.prog.info? 39).map (·.size) = some 6 := by kernel_rfl
def actV (kd nn bk : Int) (ka : Option Addr) (kl kc : Nat) (fr sq : Int) : List Value := [.int .i64 kd, .int .i64 nn, .int .i64 bk, .slice ka kl kc, .int .u8 fr, .int .u64 sq]
theorem actV_one (kd nn bk : Int) (ka : Option Addr) (kl kc : Nat) (fr sq : Int) : ∀ v ∈ actV kd nn bk ka kl kc fr sq, v.oneCell' = true := by
  intro v hv
  simp only [actV, List.mem_cons, List.not_mem_nil, or_false] at hv
  rcases hv with rfl | rfl | rfl | rfl | rfl | rfl <;> rfl
theorem act_range {w : World} {b o : Nat} {kd nn bk : Int} {ka : Option Addr} {kl kc : Nat} {fr sq : Int} (h0 : w.cell? ⟨b, o, none⟩ = some (.int .i64 kd)) (h1 : w.cell? ⟨b, o + 1, none⟩ = some (.int .i64 nn)) (h2 : w.cell? ⟨b, o + 2, none⟩ = some (.int .i64 bk)) (h3 : w.cell? ⟨b, o + 3, none⟩ = some (.slice ka kl kc)) (h4 : w.cell? ⟨b, o + 4, none⟩ = some (.int .u8 fr)) (h5 : w.cell? ⟨b, o + 5, none⟩ = some (.int .u64 sq)) :
    w.rangeAt b o (actV kd nn bk ka kl kc fr sq) := fun j v hj => by
  match j with
  | 0 => cases hj; exact h0
  | 1 => cases hj; exact h1
  | 2 => cases hj; exact h2
  | 3 => cases hj; exact h3
  | 4 => cases hj; exact h4
  | 5 => cases hj; exact h5
  | j + 6 => simp [actV] at hj
theorem lists_snoc {G : List Nat} {w w' : World} {v v' u : Value} {ms : List (List Body)} {l : List Body} {vs : List Value} (h1 : vs.length = ms.length) (h2 : w.ownsRow 0 35 1 v ms.length vs) (h3 : ∀ k ∈ v.ownBlock.toList, k ∉ G) (h4 : ∀ i, i < ms.length → TextsV G w (vs.getD i undef) (ms.getD i []))
    (hu : TextsV G w u l) (hG : ∀ k ∈ G, k < w.heap.size) (ho : w'.ownsRow 0 35 1 v' (ms.length + 1) (vs ++ [u])) (hg : w.grownBy w' v.ownBlock) (hw : ∀ k ∈ v'.ownBlock.toList, k ∈ v.ownBlock.toList ∨ w.heap.size ≤ k) : ListsV G w' v' (ms ++ [l]) := by
  refine ⟨vs ++ [u], by simp [h1], by simpa using ho, fun k hk e => ?_, fun i hi => ?_⟩
  · rcases hw k hk with h | h
    · exact h3 k h e
    · have := hG k e; omega
  · by_cases hi2 : i < ms.length
    · have e1 : (vs ++ [u]).getD i undef = vs.getD i undef := by
        rw [List.getD_eq_getElem?_getD, List.getElem?_append_left (by omega), ← List.getD_eq_getElem?_getD]
      have e2 : (ms ++ [l]).getD i [] = ms.getD i [] := by
        rw [List.getD_eq_getElem?_getD, List.getElem?_append_left hi2, ← List.getD_eq_getElem?_getD]
      rw [e1, e2]
      exact (h4 i hi2).other h2 (by decide) hg
    · obtain rfl : i = ms.length := by simp at hi; omega
      have e1 : (vs ++ [u]).getD ms.length undef = u := by
        rw [List.getD_eq_getElem?_getD, List.getElem?_append_right (by omega), h1]; simp
      have e2 : (ms ++ [l]).getD ms.length [] = l := by
        rw [List.getD_eq_getElem?_getD, List.getElem?_append_right (by omega)]; simp
      rw [e1, e2]
      exact hu.other h2 (by decide) hg
/-- Between two acts. -/
structure HoldS (N t : Nat) (sz : List Nat) (F D : List Nat) (w : World) (q m p : Nat) (d : DM) (x : MX) (j : JX) (now : List Body) (maybe : List (List Body)) (sn sm : Value) : Prop where
  jour : Jour F D w q m p d x j
  math : HoldM t sz d x j now maybe
  above : ∀ k ∈ q :: (F ++ D), N ≤ k
  texts : TextsV (q :: (F ++ D)) w sn now
  lists : ListsV (q :: (F ++ D)) w sm maybe
  form : ∃ g c, sn = .slice (some ⟨g, 0, none⟩) now.length c
  few : now.length ≤ t + 1
  many : maybe.length ≤ t
  lens : ∀ l ∈ maybe, l.length ≤ t + 2
  low : ∀ k ∈ sm.ownBlock.toList, N ≤ k
theorem HoldS.below {N t : Nat} {sz F D : List Nat} {w w' : World} {q m p : Nat} {d : DM} {x : MX} {j : JX} {now : List Body} {maybe : List (List Body)} {sn sm : Value} (h : HoldS N t sz F D w q m p d x j now maybe sn sm) (hb : Below w.heap.size w w') : HoldS N t sz F D w' q m p d x j now maybe sn sm :=
  { h with jour := h.jour.below hb, texts := h.texts.below hb, lists := h.lists.below hb }
theorem HoldS.glt {N t : Nat} {sz F D : List Nat} {w : World} {q m p : Nat} {d : DM} {x : MX} {j : JX} {now : List Body} {maybe : List (List Body)} {sn sm : Value} (h : HoldS N t sz F D w q m p d x j now maybe sn sm) : ∀ k ∈ q :: (F ++ D), k < w.heap.size := h.jour.lt

namespace journalHolds
set_option maxHeartbeats 25600000 in
set_option maxRecDepth 100000 in
theorem walk (x0 y0 : Int) (a : Option Addr) (len cap : Nat) (w : World) (_hx : -9223372036854775808 ≤ x0 ∧ x0 ≤ 9223372036854775807) (_hy : -9223372036854775808 ≤ y0 ∧ y0 ≤ 9223372036854775807) (_hm : len ≤ maxLen) (hA : Acts w.heap.size w a len) :
    Calls Try.prog 4 #[.agg #[.int .i64 x0, .int .i64 y0], .slice a len cap] w fun e w' => e = .returned (.bool true) ∧ Below w.heap.size w w' := by
  have HAC := hide hA
  clear hA _hx _hy _hm
  by_cases hok : 2 ≤ x0 ∧ 2 ≤ y0 ∧ x0 ≤ 25 ∧ y0 ≤ 25 ∧ len ≤ 60
  · obtain ⟨s0, rfl⟩ : ∃ s0 : Nat, x0 = (s0 : Int) := ⟨x0.toNat, by omega⟩
    obtain ⟨s1, rfl⟩ : ∃ s1 : Nat, y0 = (s1 : Int) := ⟨y0.toNat, by omega⟩
    obtain ⟨hx2, hy2, hx25, hy25, hl60⟩ := hok
    have hl60i : ¬ (60 : Int) < (len : Int) := by omega
    have hx2i : ¬ (s0 : Int) < 2 := by omega
    have hy2i : ¬ (s1 : Int) < 2 := by omega
    have hx25i : ¬ (25 : Int) < (s0 : Int) := by omega
    have hy25i : ¬ (25 : Int) < (s1 : Int) := by omega
    have HLW := fun w => hide (law_open s0 s1 (by omega) (by omega) w)
    have h25 : s0 ≤ 25 ∧ s1 ≤ 25 ∧ 1 ≤ s0 ∧ 1 ≤ s1 := by omega
    have H25 := hide h25
    clear hx2 hy2 hx25 hy25 h25
    go_enter Try.func4, Try.ntmps4
    go_wp2_with (refine wpList_box 29 _ [.int .i64 (s0 : Int), .int .i64 (s1 : Int)] rfl rfl rfl ?_)
    intro w0 hA0 hb0 hs0
    have HA0 := hide hA0
    have HB0 := hide hb0
    clear hA0 hb0
    go_wp2_with fail
    refine (jalive_walk w0).mono ?_
    rintro e w1 ⟨rfl, hb1⟩
    have hA1 := (unhide HA0).below hb1
    have hq0 := hA1.cell (i := 0) rfl
    have hq1 := hA1.cell (i := 1) rfl
    have HB1 := hide ((unhide HB0).trans (hb1.mono (unhide HB0).size))
    have HLW1 := HLW w1
    clear hb1 hA1 HA0 HB0 HLW hs0
    go_wp2_with fail
    refine (unhide HLW1).mono ?_
    rintro e w2 ⟨F, D, m, p, rfl, hM, hF, hb⟩
    have HF := hide hF
    have HB2 := hide ((unhide HB1).trans (hb.mono (unhide HB1).size))
    have hs1 := (unhide HB1).size
    have HOP := hide (law_fresh s0 s1 ⟨(unhide H25).2.2.1, (unhide H25).1⟩ ⟨(unhide H25).2.2.2, (unhide H25).2.1⟩ hM)
    clear hM hb hF HLW1 HB1 hq0 hq1 hx2i hy2i hx25i hy25i hl60i
    go_wp2_with fail
    refine (unhide HOP).mono ?_
    rintro e w3 ⟨q, a0, c0, rfl, hJ, hb3, hq⟩
    have HB3 := hide ((unhide HB2).trans (hb3.mono (unhide HB2).size))
    have hbb : Below w3.heap.size w3 ((w3.alloc (.cells #[] 9)).alloc (.cells #[] 35)) := ((Below.refl w3.heap.size w3).alloc (Nat.le_refl _) (.cells #[] 9)).alloc (by simp) (.cells #[] 35)
    have HS3 : Hid (HoldS w.heap.size 0 [s0, s1, 1] F D ((w3.alloc (.cells #[] 9)).alloc (.cells #[] 35)) q m p (newD 60 10000) ⟨[s0, s1, 1], 0, []⟩ jnew [] [] (.slice (some ⟨w3.heap.size, 0, none⟩) 0 0) (.slice (some ⟨w3.heap.size + 1, 0, none⟩) 0 0)) := hide
      { jour := hJ.below hbb, math := HoldM.fresh s0 s1 (unhide H25).1 (unhide H25).2.1
        above := fun k hk => by
          rcases List.mem_cons.1 hk with rfl | hk
          · exact Nat.le_trans (unhide HB2).size hq
          · exact Nat.le_trans hs1 (unhide HF k hk)
        texts := ⟨owns_lower (owns_below (owns_none w3 9) ((Below.refl _ _).alloc (Nat.le_refl _) _)) (Nat.zero_le _), fun k hk e => by
          have := hJ.lt k e
          simp [Value.ownBlock] at hk
          omega⟩
        lists := ⟨[], rfl, owns_lower (by have := owns_none (w3.alloc (.cells #[] 9)) 35; simpa using this) (Nat.zero_le _), fun k hk e => by
          have := hJ.lt k e
          simp [Value.ownBlock] at hk
          omega, fun i hi => by simp at hi⟩
        form := ⟨_, _, rfl⟩, few := by simp, many := by simp, lens := by simp, low := fun k hk => by
          have := (unhide HB3).size
          simp [Value.ownBlock] at hk
          omega }
    have HBX : Hid (Below w.heap.size w ((w3.alloc (.cells #[] 9)).alloc (.cells #[] 35))) := hide ((unhide HB3).trans (hbb.mono (unhide HB3).size))
    clear hJ hb3 hq HOP HF HB2 hs1 HB3 hbb
    go_wp2
    go_loopw [6, 8, 9, 58] (fun cj cn cm ci wr => ∃ (i : Nat) (F D : List Nat) (q : Nat) (d : DM) (x : MX) (j : JX) (now : List Body) (maybe : List (List Body)), i ≤ len ∧ ci = .int .i64 (i : Int) ∧ cj = .pointer (some ⟨q, 0, none⟩) ∧ HoldS w.heap.size i [s0, s1, 1] F D wr q m p d x j now maybe cn cm ∧ Below w.heap.size w wr) (fun _ _ _ ci _ => len - (intOf ci).toNat)
    case atStart => exact ⟨0, F, D, q, _, _, _, _, _, by omega, rfl, rfl, unhide HS3, unhide HBX⟩
    case round =>
      obtain ⟨i, F, D, q, d, x, j, now, maybe, hi, rfl, rfl, hS, hb⟩ := hrel
      have HS := hide hS
      have HB := hide hb
      clear hS hb HS3 HBX
      by_cases hlt : i < len
      · obtain ⟨b, off, kd, nn, bk, ka, kl, kc, fr, sq, rfl, hbN, p0, p1, p2, p3, p4, p5, hnn, hkept⟩ := ((unhide HAC).below (unhide HB)) i hlt
        have HRG := hide (act_range p0 p1 p2 p3 p4 p5)
        have HKE := hide hkept
        have HNN := hide hnn
        clear p0 p1 p2 p3 p4 p5 hkept hnn
        obtain ⟨cs, hcs⟩ : ∃ cs, cs = actV kd nn bk ka kl kc fr sq := ⟨_, rfl⟩
        rw [← hcs] at HRG
        have HCS := hide hcs
        have HCL : Hid (cs.length = 6) := hide (by rw [hcs]; rfl)
        have HONE : Hid (∀ v ∈ cs, v.oneCell' = true) := hide (by rw [hcs]; exact actV_one _ _ _ _ _ _ _ _)
        clear hcs
        go_wp2_with (first
          | refine wpList_load_mid rfl 39 _ rfl b (off + i * 6) rfl cs _ (unhide HRG) Try.underlying39 rfl (by rw [unhide HCL]; exact info39) ?_
          | refine wpList_alloc 39 39 zeroAct rfl rfl alloc39 ?_)
        intro w1 hA1 hb1 hs1
        have HA1 := hide hA1
        have HB1 := hide hb1
        obtain ⟨ab, hab⟩ : ∃ ab, wr.heap.size = ab := ⟨_, rfl⟩
        rw [hab] at HA1 hs1 ⊢
        have HAB := hide hab
        clear hA1 hb1 HRG
        go_wp2_with (refine wpList_storeAll 39 _ _ ab cs zeroAct rfl rfl rfl rfl (unhide HA1) (by rw [unhide HCL]; rfl) (by rw [unhide HCL]; exact info39) (unhide HONE) ?_)
        intro w2 hA2 hg2 hs2
        have hb2 : Below wr.heap.size wr w2 := (unhide HB1).grown hg2 (by have := (unhide HB1).size; omega) (fun k hk => by simp at hk; omega)
        rw [unhide HCS] at hA2
        have HA2 := hide hA2
        have HS2 := hide ((unhide HS).below hb2)
        have HB2 := hide ((unhide HB).trans (hb2.mono (unhide HB).size))
        have HBW := hide (hb2.mono (unhide HB).size)
        have hnab : ab ∉ q :: (F ++ D) := fun e => by have := (unhide HS).glt _ e; omega
        have HNAB := hide hnab
        have hc0 : w2.cell? ⟨ab, 0, none⟩ = some (.int .i64 kd) := hA2.cell (i := 0) rfl
        have hc3 : w2.cell? ⟨ab, 3, none⟩ = some (.slice ka kl kc) := hA2.cell (i := 3) rfl
        clear hA2 hg2 hb2 HA1 HB1 hs1 hs2 hnab hab HS HB HCL HONE HCS
        by_cases h4 : 400 < kl
        · have h4i : (400 : Int) < (kl : Int) := by omega
          go_wp2
          go_ret
          exact ⟨rfl, unhide HB2⟩
        · have h4i : ¬ (400 : Int) < (kl : Int) := by omega
          obtain ⟨bd, hrow⟩ := (unhide HKE).2.2 (by omega)
          have HRW := hide (hrow.below (unhide HBW))
          clear hrow HKE HBW
          by_cases k0 : kd = 0
          · subst k0
            have hv : ∀ w', But (q :: (F ++ D)) w2 w' → RowV w'.heap.size w' (.slice ka kl kc) bd := fun w' hw => ((unhide HRW).below (hw.below (unhide HS2).above (unhide HB2).size)).up (Nat.le_trans (unhide HB2).size hw.size)
            have hM := (unhide HS2).math
            have HBG := hide (begin_walk (unhide HS2).jour (.slice ka kl kc) bd hv (by have := hM.wait; omega) (by have := hM.ops; omega))
            have HM := hide (hM.begin (by omega) bd)
            clear hv hM
            generalize beginJ d x j bd = r at *
            obtain ⟨e1, d1, x1, j1⟩ := r
            go_wp2_with fail
            refine (unhide HBG).mono ?_
            rintro e w3 ⟨rfl, F3, D3, hJ3, hT3⟩
            have hGT := hT3.above (unhide HS2).above (unhide HB2).size
            have HB3 := hide ((unhide HB2).trans hGT.1)
            have hA3 := (unhide HA2).same (hT3.1.block ab (unhide HA2).lt (unhide HNAB))
            have hc33 : w3.cell? ⟨ab, 3, none⟩ = some (.slice ka kl kc) := hA3.cell (i := 3) rfl
            have HR3 := hide ((unhide HRW).below hGT.1)
            have hx3 := run_text (unhide HR3)
            have HT3 := hide ((unhide HS2).texts.turn hT3)
            have HL3 := hide ((unhide HS2).lists.turn hT3)
            have HJ3 := hide hJ3
            have HG3 := hide hGT.2
            have HFO := hide (unhide HS2).form
            have HLOW := hide (unhide HS2).low
            have HLEN := hide (unhide HS2).lens
            have HFW := hide (And.intro (unhide HS2).few (unhide HS2).many)
            clear hJ3 hT3 hGT hA3 HBG hc0 hc3 HS2 HA2 HRW
            by_cases he0 : e1 = 0
            · subst he0
              go_wp2_with (refine wpList_one35 _ (tx bd) rfl rfl rfl ?_)
              intro w4 hO4 hb4 hs4
              have HTX4 : Hid (TextsV (q :: (F3 ++ D3)) w4 (.slice (some ⟨w3.heap.size, 0, none⟩) 1 1) [bd]) := hide ⟨owns_lower hO4 (Nat.zero_le _), fun k hk e => by
                have := (unhide HJ3).lt k e
                simp [Value.ownBlock] at hk
                omega⟩
              have HT4 := hide ((unhide HT3).below hb4)
              have HL4 := hide ((unhide HL3).below hb4)
              have HJ4 := hide ((unhide HJ3).below hb4)
              have HB4 := hide ((unhide HB3).trans (hb4.mono (unhide HB3).size))
              clear hO4 hb4 hs4 HT3 HL3 HJ3 hx3 hc33
              go_wp2
              go_roundw
              case rel =>
                have hM := unhide HM
                refine ⟨i + 1, F3, D3, q, d1, x1, j1, [bd], maybe, by omega, by go_num, rfl, ?_, unhide HB4⟩
                exact { jour := unhide HJ4, math := by simpa [afterB, perhaps] using hM, above := unhide HG3, texts := unhide HTX4, lists := unhide HL4, form := ⟨_, _, rfl⟩, few := by simp, many := (by have := (unhide HFW).2; omega), lens := fun l hl => Nat.le_trans (unhide HLEN l hl) (by omega), low := unhide HLOW }
              case measure => simp [intOf]; omega
            · have hn0 : (e1 == 0) = false := by simpa using he0
              by_cases he62 : e1 = 62
              · subst he62
                go_wp2_with (refine wpList_one35 _ (tx bd) rfl rfl rfl ?_)
                intro w4 hO4 hb4 hs4
                have HTX4 : Hid (TextsV (q :: (F3 ++ D3)) w4 (.slice (some ⟨w3.heap.size, 0, none⟩) 1 1) [bd]) := hide ⟨owns_lower hO4 (Nat.zero_le _), fun k hk e => by
                  have := (unhide HJ3).lt k e
                  simp [Value.ownBlock] at hk
                  omega⟩
                have HT4 := hide ((unhide HT3).below hb4)
                have HL4 := hide ((unhide HL3).below hb4)
                have HJ4 := hide ((unhide HJ3).below hb4)
                have HB4 := hide ((unhide HB3).trans (hb4.mono (unhide HB3).size))
                clear hO4 hb4 hs4 HT3 HL3 HJ3 hx3 hc33
                go_wp2_with (refine wpList_one36 _ (some ⟨w3.heap.size, 0, none⟩) 1 1 rfl rfl rfl ?_)
                intro w5 hO5 hb5 hs5
                have HO5 := hide hO5
                have HTX5 := hide ((unhide HTX4).below hb5)
                have HT5 := hide ((unhide HT4).below hb5)
                have HJ5 := hide ((unhide HJ4).below hb5)
                have HB5 := hide ((unhide HB4).trans (hb5.mono (unhide HB4).size))
                obtain ⟨vs, v1, v2, v3, v4⟩ := (unhide HL4).below hb5
                have HV := hide (And.intro v1 (And.intro v2 (And.intro v3 v4)))
                have hml : maybe.length ≤ 1000000 := by have := (unhide HFW).2; omega
                obtain ⟨ti, i1, i2, i3, i4⟩ := full35
                have HI := hide (And.intro i1 (And.intro i2 (And.intro i3 i4)))
                have hi4 : ti.bytes ≤ 24 := by omega
                clear hO5 hb5 hs5 v1 v2 v3 v4 i1 i2 i3 i4 HL4 HJ4 HT4 HTX4 HB4
                go_wp2_with (refine wpList_appW rfl _ _ rfl Try.underlying36 (unhide HI).1 (unhide HI).2.1 (unhide HI).2.2.1 hi4 rfl _ u9 _ maybe.length vs _ 1 rfl (unhide HV).2.1 rfl (unhide HO5) rfl hml ?_)
                intro v6 w6 hO6 hg6 hw6s
                have hw6 : ∀ k ∈ v6.ownBlock.toList, k ∈ u9.ownBlock.toList ∨ w5.heap.size ≤ k := fun k hk => by simpa using hw6s k (by simpa using hk)
                clear hw6s
                have hGl := (unhide HJ5).lt
                have HL6 := hide (lists_snoc (unhide HV).1 (unhide HV).2.1 (unhide HV).2.2.1 (unhide HV).2.2.2 (unhide HTX5) hGl hO6 hg6 hw6)
                have HT6 := hide ((unhide HT5).other (unhide HV).2.1 (by decide) hg6)
                have HJ6 := hide ((unhide HJ5).apart hg6 (unhide HV).2.2.1)
                have HB6 : Hid (Below w.heap.size w w6) := hide ((unhide HB5).trans ((But.of_own hg6).below (fun k hk => unhide HLOW k hk) (unhide HB5).size))
                have HLOW6 : Hid (∀ k ∈ v6.ownBlock.toList, w.heap.size ≤ k) := hide fun k hk => by
                  rcases hw6 k hk with h | h
                  · exact unhide HLOW k h
                  · exact Nat.le_trans (unhide HB5).size h
                clear hO6 hg6 hw6 hGl
                go_wp2
                go_roundw
                case rel =>
                  have hM := unhide HM
                  refine ⟨i + 1, F3, D3, q, d1, x1, j1, now, maybe ++ [[bd]], by omega, by go_num, rfl, ?_, unhide HB6⟩
                  exact { jour := unhide HJ6, math := by simpa [afterB, perhaps] using hM, above := unhide HG3, texts := unhide HT6, lists := unhide HL6, form := unhide HFO, few := (by have := (unhide HFW).1; omega), many := (by have := (unhide HFW).2; simp; omega), lens := fun l hl => (by
                    rcases List.mem_append.1 hl with h | h
                    · exact Nat.le_trans (unhide HLEN l h) (by omega)
                    · rw [List.mem_singleton.1 h]
                      have h1 := (unhide HFW).1
                      have h2 : [bd].length = 1 := rfl
                      have h3 : (now ++ [bd]).length = now.length + [bd].length := List.length_append
                      omega), low := unhide HLOW6 }
                case measure => simp [intOf]; omega
              · have hn62 : (e1 == 62) = false := by simpa using he62
                go_wp2
                go_roundw
                case rel =>
                  have hM := unhide HM
                  refine ⟨i + 1, F3, D3, q, d1, x1, j1, now, maybe, by omega, by go_num, rfl, ?_, unhide HB3⟩
                  exact { jour := unhide HJ3, math := by simpa [afterB, perhaps, he0, he62] using hM, above := unhide HG3, texts := unhide HT3, lists := unhide HL3, form := unhide HFO, few := (by have := (unhide HFW).1; omega), many := (by have := (unhide HFW).2; omega), lens := fun l hl => Nat.le_trans (unhide HLEN l hl) (by omega), low := unhide HLOW }
                case measure => simp [intOf]; omega
          · by_cases k1 : kd = 1
            · subst k1
              have hv : ∀ w', But (q :: (F ++ D)) w2 w' → RowV w'.heap.size w' (.slice ka kl kc) bd := fun w' hw => ((unhide HRW).below (hw.below (unhide HS2).above (unhide HB2).size)).up (Nat.le_trans (unhide HB2).size hw.size)
              have hM := (unhide HS2).math
              have HBG := hide (append_walk (unhide HS2).jour (.slice ka kl kc) bd hv (by have := hM.wait; omega) (by have := hM.ops; omega))
              have HM := hide (hM.append (by omega) bd)
              clear hv hM
              generalize appendJ d x j bd = r at *
              obtain ⟨e1, d1, x1, j1⟩ := r
              go_wp2_with fail
              refine (unhide HBG).mono ?_
              rintro e w3 ⟨rfl, F3, D3, hJ3, hT3⟩
              have hGT := hT3.above (unhide HS2).above (unhide HB2).size
              have HB3 := hide ((unhide HB2).trans hGT.1)
              have hA3 := (unhide HA2).same (hT3.1.block ab (unhide HA2).lt (unhide HNAB))
              have hc33 : w3.cell? ⟨ab, 3, none⟩ = some (.slice ka kl kc) := hA3.cell (i := 3) rfl
              have HR3 := hide ((unhide HRW).below hGT.1)
              have hx3 := run_text (unhide HR3)
              have HT3 := hide ((unhide HS2).texts.turn hT3)
              have HL3 := hide ((unhide HS2).lists.turn hT3)
              have HJ3 := hide hJ3
              have HG3 := hide hGT.2
              have HFO := hide (unhide HS2).form
              have HLOW := hide (unhide HS2).low
              have HLEN := hide (unhide HS2).lens
              have HFW := hide (And.intro (unhide HS2).few (unhide HS2).many)
              clear hJ3 hT3 hGT hA3 HBG hc0 hc3 HS2 HA2 HRW
              have HC33 := hide hc33
              have HABL : Hid (ab < w3.heap.size) := hide (lt_of_cell hc33)
              obtain ⟨gn, cn, rfl⟩ := unhide HFO
              go_wp2_with fail
              refine Flow.wp_region (V41 w3.heap.size now.length (fun ix => match ix with | 0 => undef | 1 => .slice (some ⟨gn, 0, none⟩) now.length cn | 2 => undef | 3 => .pointer (some ⟨ab, 3, none⟩) | 4 => .slice ka kl kc | 5 => .string (tx bd) | _ => undef) (strs now) (.string (tx bd))) (C41 w3) ⟨0, 0, 0⟩ (by kernel_rfl) (by kernel_rfl) ⟨(Below.refl _ w3).drew, fun _ => rfl, fun _ => Nat.zero_le _, fun h => (by cases h), fun h => (by cases h), fun h => (by cases h)⟩ ⟨?_, ?_, ?_, ?_, ?_, ?_, ?_, ?_, ?_, trivial⟩ ?_
              · refine Flow.value (Flow.goes_plain rfl) fun a L s w' hC hL hn hs hd => ?_
                have hb : Below w'.heap.size w' (w'.alloc (.cells #[] 9)) := (Below.refl _ _).alloc (Nat.le_refl _) _
                refine ⟨_, { s with g0 := w'.heap.size }, _, op_none35 rfl w', V41.alloc0 hb hL _, ⟨hC.below.trans (hb.mono hC.below.size), by rw [Flow.upd_ne (by decide)]; exact hC.s2, by rw [Flow.upd_ne (by decide)]; exact hC.s7, fun _ => by simp, ?_, ?_⟩, ?_⟩
                · rw [Flow.upd_ne (by decide)]
                  exact fun h => Nat.lt_of_lt_of_le (hC.h6 h) hb.size
                · rw [Flow.upd_ne (i := 0) (j := 6) (by decide)]
                  intro _ h
                  have := hC.h6 h
                  show w'.heap.size ≠ s.g6
                  omega
                · unfold V41
                  rw [if_pos rfl]
                  exact ⟨rfl, fun _ => owns_lower (owns_none w' 9) hC.below.size⟩
              · exact Flow.move (Flow.goes_plain rfl) (C41.upd (by decide) (by decide) (by decide) (by decide)) (.inl rfl) fun a s w' hs hd => (hs 8 (by kernel_rfl))
              · refine Flow.value (Flow.goes_plain rfl) fun a L s w' hC hL hn hs hd => ?_
                have h0 := (hd 0 137 (by kernel_rfl))
                unfold V41 at h0
                rw [if_pos rfl] at h0
                have h1 := (hd 1 138 (by kernel_rfl))
                unfold V41 at h1
                rw [if_neg (by decide), if_neg (by decide), if_neg (by decide), if_neg (by decide)] at h1
                have hst := hC.s2 hL
                have hown := h0.2 hst
                have htx := (unhide HT3).below hC.below
                have hcells : ∀ j u, (strs now)[j]? = some u → w'.cell? ⟨gn, j, none⟩ = some u := fun j u hj => by
                  have hjl : j < now.length := by rw [← strs_len now]; exact (List.getElem?_eq_some_iff.1 hj).1
                  obtain ⟨g2, c2, e2, _, _, _, hc⟩ := owns_at htx.1 hjl
                  cases e2
                  rw [hc, hj]
                obtain ⟨v', w'', hr, q1, q2⟩ := op_app35 (ρ := a.eval) rfl h1 hown (strs_len now) hcells (fun u hu => by obtain ⟨b, _, rfl⟩ := List.mem_map.1 hu; rfl) (by have := (unhide HFW).1; omega) hC.below.size
                have hb0 : L 0 = true := hn.done 0 (by kernel_rfl)
                have q2' : w'.grownBy w'' (some s.g0) := by rw [h0.1] at q2; exact q2
                refine ⟨v', { s with st := 1 }, w'', hr _ rfl rfl, V41.two hst q2' hL (hn.after 7 (by kernel_rfl)) (hn.after 8 (by kernel_rfl)) (hC.ne hb0), ⟨hC.below.trans (owns_bel hown q2 hC.below.size), ?_, fun _ => Nat.le_refl _, ?_, ?_, ?_⟩, ?_⟩
                · rw [Flow.upd_eq]; intro h; cases h
                · rw [Flow.upd_ne (by decide)]; exact fun h => Nat.lt_of_lt_of_le (hC.h0 h) q2.size
                · rw [Flow.upd_ne (by decide)]; exact fun h => Nat.lt_of_lt_of_le (hC.h6 h) q2.size
                · rw [Flow.upd_ne (i := 2) (j := 0) (by decide), Flow.upd_ne (i := 2) (j := 6) (by decide)]; exact hC.ne
                · unfold V41
                  rw [if_neg (by decide), if_pos rfl]
                  intro _
                  simpa using q1
              · refine Flow.pure (Flow.goes_plain rfl) (C41.upd (by decide) (by decide) (by decide) (by decide)) fun a L s w' hC hL hn hs hd => ?_
                exact ⟨_, op_f39_3 rfl (hs 11 (by kernel_rfl)) w', rfl⟩
              · refine Flow.pure (Flow.goes_plain rfl) (C41.upd (by decide) (by decide) (by decide) (by decide)) fun a L s w' hC hL hn hs hd => ?_
                exact ⟨_, op_load32 rfl (hd 3 140 (by kernel_rfl)) ((hC.below.cell (p := ⟨ab, 3, none⟩) (Nat.lt_of_lt_of_le (unhide HABL) (Nat.le_refl _))).trans (unhide HC33)), rfl⟩
              · refine Flow.pure (Flow.goes_plain rfl) (C41.upd (by decide) (by decide) (by decide) (by decide)) fun a L s w' hC hL hn hs hd => ?_
                exact ⟨_, op_text (N := w.heap.size) rfl (hd 4 141 (by kernel_rfl)) ((unhide HR3).below (hC.below.mono (unhide HB3).size)), rfl⟩
              · refine Flow.value (Flow.goes_plain rfl) fun a L s w' hC hL hn hs hd => ?_
                have hb : Below w'.heap.size w' (w'.alloc (.cells #[.string (tx bd)] 9)) := (Below.refl _ _).alloc (Nat.le_refl _) _
                have h5 := (hd 5 142 (by kernel_rfl))
                unfold V41 at h5
                rw [if_neg (by decide), if_neg (by decide), if_neg (by decide), if_neg (by decide)] at h5
                refine ⟨_, { s with g6 := w'.heap.size }, _, op_one35 rfl h5 w', V41.alloc6 hb hL _, ⟨hC.below.trans (hb.mono hC.below.size), by rw [Flow.upd_ne (by decide)]; exact hC.s2, by rw [Flow.upd_ne (by decide)]; exact hC.s7, ?_, fun _ => by simp, ?_⟩, ?_⟩
                · rw [Flow.upd_ne (by decide)]
                  exact fun h => Nat.lt_of_lt_of_le (hC.h0 h) hb.size
                · rw [Flow.upd_ne (i := 6) (j := 0) (by decide)]
                  intro h _
                  have := hC.h0 h
                  show s.g0 ≠ w'.heap.size
                  omega
                · unfold V41
                  rw [if_neg (by decide), if_neg (by decide), if_pos rfl]
                  exact ⟨rfl, fun _ => owns_lower (owns_one w' 9 _) hC.below.size⟩
              · refine Flow.value (Flow.goes_plain rfl) fun a L s w' hC hL hn hs hd => ?_
                have h2 := (hd 2 139 (by kernel_rfl))
                unfold V41 at h2
                rw [if_neg (by decide), if_pos rfl] at h2
                have h6 := (hd 6 143 (by kernel_rfl))
                unfold V41 at h6
                rw [if_neg (by decide), if_neg (by decide), if_pos rfl] at h6
                have hst := hC.s7 hL
                have hown := h2 hst
                have hcells : ∀ j u, ([Value.string (tx bd)] : List Value)[j]? = some u → w'.cell? ⟨s.g6, j, none⟩ = some u := fun j u hj => by
                  have hj0 : j < 1 := (List.getElem?_eq_some_iff.1 hj).1
                  have h6o := h6.2 hst
                  rw [h6.1] at h6o
                  obtain ⟨g2, c2, e2, _, _, _, hc⟩ := owns_at h6o hj0
                  cases e2
                  rw [hc, hj]
                obtain ⟨v', w'', hr, q1, q2⟩ := op_app35 (ρ := a.eval) rfl h6.1 hown rfl hcells (fun u hu => by rw [List.mem_singleton.1 hu]; rfl) (by have := (unhide HFW).1; omega) hC.below.size
                refine ⟨v', { s with st := 2 }, w'', hr _ rfl rfl, V41.seven hL (hn.after 8 (by kernel_rfl)), ⟨hC.below.trans (owns_bel hown q2 hC.below.size), ?_, ?_, ?_, ?_, ?_⟩, ?_⟩
                · rw [Flow.upd_ne (by decide)]
                  intro h
                  rw [hn.done 2 (by kernel_rfl)] at h
                  cases h
                · rw [Flow.upd_eq]; intro h; cases h
                · rw [Flow.upd_ne (by decide)]; exact fun h => Nat.lt_of_lt_of_le (hC.h0 h) q2.size
                · rw [Flow.upd_ne (by decide)]; exact fun h => Nat.lt_of_lt_of_le (hC.h6 h) q2.size
                · rw [Flow.upd_ne (i := 7) (j := 0) (by decide), Flow.upd_ne (i := 7) (j := 6) (by decide)]; exact hC.ne
                · unfold V41
                  rw [if_neg (by decide), if_neg (by decide), if_neg (by decide), if_pos (.inl rfl)]
                  exact q1
              · exact Flow.move (Flow.goes_plain rfl) (C41.upd (by decide) (by decide) (by decide) (by decide)) (.inr rfl) fun a s w' hs hd => (by
                  have h7 := (hd 7 144 (by kernel_rfl))
                  unfold V41 at h7 ⊢
                  rw [if_neg (by decide), if_neg (by decide), if_neg (by decide), if_pos (.inl rfl)] at h7
                  rw [if_neg (by decide), if_neg (by decide), if_neg (by decide), if_pos (.inr rfl)]
                  exact h7)
              · intro L s4 w4 hC hL vals hv
                have h8 := hv 8 _ 14 rfl rfl
                unfold V41 at h8
                rw [if_neg (by decide), if_neg (by decide), if_neg (by decide), if_pos (.inr rfl)] at h8
                obtain ⟨g4, c4, e8, hg4, _, _, _⟩ := owns_at h8 (i := 0) (by omega)
                simp only [Free.putAll, Act.put, List.setIfInBounds_toArray, List.set_cons_succ, List.set_cons_zero, e8]
                rw [e8] at h8
                have hb4 := hC.below
                have HTX4 : Hid (TextsV (q :: (F3 ++ D3)) w4 (.slice (some ⟨g4, 0, none⟩) (now.length + 1) c4) (now ++ [bd])) := hide ⟨by
                  rw [strs_app, List.length_append, List.length_singleton]
                  exact owns_lower h8 (Nat.zero_le _), fun k hk e => by
                  have := (unhide HJ3).lt k e
                  simp [Value.ownBlock] at hk
                  omega⟩
                have HT4 := hide ((unhide HT3).below hb4)
                have HL4 := hide ((unhide HL3).below hb4)
                have HJ4 := hide ((unhide HJ3).below hb4)
                have HB4 := hide ((unhide HB3).trans (hb4.mono (unhide HB3).size))
                clear hC hL hv h8 e8 hb4 hg4 HT3 HL3 HJ3 hx3
                generalize vals 0 = z0 at *
                generalize vals 1 = z1 at *
                generalize vals 2 = z2 at *
                generalize vals 3 = z3 at *
                generalize vals 4 = z4 at *
                generalize vals 5 = z5 at *
                generalize vals 6 = z6 at *
                generalize vals 7 = z7 at *
                by_cases he0 : e1 = 0
                · subst he0
                  go_wp2
                  go_roundw
                  case rel =>
                    have hM := unhide HM
                    refine ⟨i + 1, F3, D3, q, d1, x1, j1, now ++ [bd], maybe, by omega, by go_num, rfl, ?_, unhide HB4⟩
                    exact { jour := unhide HJ4, math := by simpa [afterA, perhaps] using hM, above := unhide HG3, texts := unhide HTX4, lists := unhide HL4, form := ⟨g4, c4, by simp⟩, few := (by have := (unhide HFW).1; simp; omega), many := (by have := (unhide HFW).2; omega), lens := fun l hl => Nat.le_trans (unhide HLEN l hl) (by omega), low := unhide HLOW }
                  case measure => simp [intOf]; omega
                · have hn0 : (e1 == 0) = false := by simpa using he0
                  by_cases he62 : e1 = 62
                  · subst he62
                    go_wp2_with (refine wpList_one36 _ (some ⟨g4, 0, none⟩) (now.length + 1) c4 rfl rfl rfl ?_)
                    intro w5 hO5 hb5 hs5
                    have HO5 := hide hO5
                    have HTX5 := hide ((unhide HTX4).below hb5)
                    have HT5 := hide ((unhide HT4).below hb5)
                    have HJ5 := hide ((unhide HJ4).below hb5)
                    have HB5 := hide ((unhide HB4).trans (hb5.mono (unhide HB4).size))
                    obtain ⟨vs, v1, v2, v3, v4⟩ := (unhide HL4).below hb5
                    have HV := hide (And.intro v1 (And.intro v2 (And.intro v3 v4)))
                    have hml : maybe.length ≤ 1000000 := by have := (unhide HFW).2; omega
                    obtain ⟨ti, i1, i2, i3, i4⟩ := full35
                    have HI := hide (And.intro i1 (And.intro i2 (And.intro i3 i4)))
                    have hi4 : ti.bytes ≤ 24 := by omega
                    clear hO5 hb5 hs5 v1 v2 v3 v4 i1 i2 i3 i4 HL4 HJ4 HT4 HTX4 HB4
                    go_wp2_with (refine wpList_appW rfl _ _ rfl Try.underlying36 (unhide HI).1 (unhide HI).2.1 (unhide HI).2.2.1 hi4 rfl _ u9 _ maybe.length vs _ 1 rfl (unhide HV).2.1 rfl (unhide HO5) rfl hml ?_)
                    intro v6 w6 hO6 hg6 hw6s
                    have hw6 : ∀ k ∈ v6.ownBlock.toList, k ∈ u9.ownBlock.toList ∨ w5.heap.size ≤ k := fun k hk => by simpa using hw6s k (by simpa using hk)
                    clear hw6s
                    have hGl := (unhide HJ5).lt
                    have HL6 := hide (lists_snoc (unhide HV).1 (unhide HV).2.1 (unhide HV).2.2.1 (unhide HV).2.2.2 (unhide HTX5) hGl hO6 hg6 hw6)
                    have HT6 := hide ((unhide HT5).other (unhide HV).2.1 (by decide) hg6)
                    have HJ6 := hide ((unhide HJ5).apart hg6 (unhide HV).2.2.1)
                    have HB6 : Hid (Below w.heap.size w w6) := hide ((unhide HB5).trans ((But.of_own hg6).below (fun k hk => unhide HLOW k hk) (unhide HB5).size))
                    have HLOW6 : Hid (∀ k ∈ v6.ownBlock.toList, w.heap.size ≤ k) := hide fun k hk => by
                      rcases hw6 k hk with h | h
                      · exact unhide HLOW k h
                      · exact Nat.le_trans (unhide HB5).size h
                    clear hO6 hg6 hw6 hGl
                    go_wp2
                    go_roundw
                    case rel =>
                      have hM := unhide HM
                      refine ⟨i + 1, F3, D3, q, d1, x1, j1, now, maybe ++ [now ++ [bd]], by omega, by go_num, rfl, ?_, unhide HB6⟩
                      exact { jour := unhide HJ6, math := by simpa [afterA, perhaps] using hM, above := unhide HG3, texts := unhide HT6, lists := unhide HL6, form := unhide HFO, few := (by have := (unhide HFW).1; omega), many := (by have := (unhide HFW).2; simp; omega), lens := fun l hl => (by
                        rcases List.mem_append.1 hl with h | h
                        · exact Nat.le_trans (unhide HLEN l h) (by omega)
                        · rw [List.mem_singleton.1 h]
                          have h1 := (unhide HFW).1
                          have h2 : [bd].length = 1 := rfl
                          have h3 : (now ++ [bd]).length = now.length + [bd].length := List.length_append
                          omega), low := unhide HLOW6 }
                    case measure => simp [intOf]; omega
                  · have hn62 : (e1 == 62) = false := by simpa using he62
                    go_wp2
                    go_roundw
                    case rel =>
                      have hM := unhide HM
                      refine ⟨i + 1, F3, D3, q, d1, x1, j1, now, maybe, by omega, by go_num, rfl, ?_, unhide HB4⟩
                      exact { jour := unhide HJ4, math := by simpa [afterA, perhaps, he0, he62] using hM, above := unhide HG3, texts := unhide HT4, lists := unhide HL4, form := unhide HFO, few := (by have := (unhide HFW).1; omega), many := (by have := (unhide HFW).2; omega), lens := fun l hl => Nat.le_trans (unhide HLEN l hl) (by omega), low := unhide HLOW }
                    case measure => simp [intOf]; omega
            · by_cases k3 : kd = 3
              · subst k3
                have hc1 : w2.cell? ⟨ab, 1, none⟩ = some (.int .i64 nn) := (unhide HA2).cell (i := 1) rfl
                go_wp2_with fail
                refine Flow.wp_region (Flow.VV (fun ix => match ix with | 0 => .pointer (some ⟨m, 0, none⟩) | 1 => .pointer (some ⟨p, 0, none⟩) | 2 => .pointer (some ⟨ab, 1, none⟩) | 3 => .int .i64 nn | 4 => .tuple #[] | _ => undef)) (Flow.two 4 (fun (_ : Unit) w' => w' = w2.drew) (fun _ w' => ∃ D3, PMap F D3 w' m p (budgetD d nn) x ∧ Turns (F ++ D) (F ++ D3) w2 w')) () (by kernel_rfl) (by kernel_rfl) rfl ⟨?_, ?_, ?_, ?_, ?_, trivial⟩ ?_
                · exact Flow.move (Flow.goes_plain rfl) (Flow.two.upd (by decide)) (.inl rfl) fun a s w' hs hd => (hs 5 (by kernel_rfl))
                · refine Flow.call (Flow.goes_plain rfl) fun a L s0 w' hC hL hn hs hd => ⟨12, _, op_call12 rfl (hd 0 156 (by kernel_rfl)) rfl w', ?_⟩
                  have hw := hC.pre (hn.after 4 (by kernel_rfl))
                  refine (device_walk ((hw ▸ (unhide HS2).jour.map.map.drew : MapF F w' m p x))).mono ?_
                  rintro e w'' ⟨rfl, hw2⟩
                  subst hw2
                  exact ⟨_, (), rfl, fun _ _ _ h => h, Flow.two.put (by decide) (hn.after 4 (by kernel_rfl)) hw, rfl⟩
                · exact Flow.pure (Flow.goes_plain rfl) (Flow.two.upd (by decide)) fun a L s w' hC hL hn hs hd => ⟨_, op_f39_1 rfl (hs 11 (by kernel_rfl)) w', rfl⟩
                · refine Flow.pure (Flow.goes_plain rfl) (Flow.two.upd (by decide)) fun a L s w' hC hL hn hs hd => ?_
                  skip
                  exact ⟨_, op_load3 rfl (hd 2 158 (by kernel_rfl)) (by rw [hC.pre (hn.after 4 (by kernel_rfl))]; exact hc1), rfl⟩
                · refine Flow.call (Flow.goes_plain rfl) fun a L s0 w' hC hL hn hs hd => ⟨13, _, op_call13 rfl (hd 1 157 (by kernel_rfl)) (hd 3 159 (by kernel_rfl)) rfl w', ?_⟩
                  have hw := hC.pre hL
                  have hP : PMap F D w' m p d x := hw ▸ (unhide HS2).jour.map.drew
                  refine (budget_walk hP.dev nn (unhide HNN).2).mono ?_
                  rintro e w'' ⟨rfl, hD, hB, _⟩
                  have hT := hP.turnD (D' := D) (d' := budgetD d nn) ⟨hB, fun _ h => .inl h⟩ hD rfl
                  have hbw : Below w2.heap.size w2 w' := by rw [hw]; exact (Below.refl _ w2).drew
                  exact ⟨_, (), rfl, fun _ _ _ h => h, Flow.two.post ⟨D, hT.1, Turns.after hbw hT.2⟩, rfl⟩
                · intro L _ w3 hC hL vals hv
                  obtain ⟨D3, hM3, hT3'⟩ := hC.end (hL 4 (by decide))
                  have hJT := (unhide HS2).jour.sync hT3' hM3
                  have hT3 := hJT.2
                  have hGT := hT3.above (unhide HS2).above (unhide HB2).size
                  have HB3 := hide ((unhide HB2).trans hGT.1)
                  have HT3 := hide ((unhide HS2).texts.turn hT3)
                  have HL3 := hide ((unhide HS2).lists.turn hT3)
                  have HJ3 := hide hJT.1
                  have HG3 := hide hGT.2
                  have HFO := hide (unhide HS2).form
                  have HLOW := hide (unhide HS2).low
                  have HLEN := hide (unhide HS2).lens
                  have HFW := hide (And.intro (unhide HS2).few (unhide HS2).many)
                  have HM := hide ((unhide HS2).math.budget (by omega) nn (unhide HNN).2)
                  simp only [Free.putAll, Act.put, List.setIfInBounds_toArray, List.set_cons_succ, List.set_cons_zero]
                  clear hC hL hv hM3 hT3' hJT hT3 hGT hc0 hc3 HS2
                  generalize vals 0 = z0 at *
                  generalize vals 1 = z1 at *
                  generalize vals 2 = z2 at *
                  generalize vals 3 = z3 at *
                  go_wp2
                  go_roundw
                  case rel =>
                    refine ⟨i + 1, F, D3, q, budgetD d nn, x, j, now, maybe, by omega, by go_num, rfl, ?_, unhide HB3⟩
                    exact { jour := unhide HJ3, math := unhide HM, above := unhide HG3, texts := unhide HT3, lists := unhide HL3, form := unhide HFO, few := (by have := (unhide HFW).1; omega), many := (by have := (unhide HFW).2; omega), lens := fun l hl => Nat.le_trans (unhide HLEN l hl) (by omega), low := unhide HLOW }
                  case measure => simp [intOf]; omega
              · have k0i : (kd == 0) = false := by simpa using k0
                have k1i : (kd == 1) = false := by simpa using k1
                have k3i : (kd == 3) = false := by simpa using k3
                go_wp2_with fail
                refine Flow.wp_region (Flow.VV (fun ix => match ix with | 0 => .pointer (some ⟨m, 0, none⟩) | 1 => .pointer (some ⟨p, 0, none⟩) | 2 => .pointer (some ⟨ab, 3, none⟩) | 3 => .slice ka kl kc | 4 => .tuple #[] | _ => undef)) (Flow.two 4 (fun (_ : Unit) w' => w' = w2.drew) (fun _ w' => ∃ D3, PMap F D3 w' m p (restartD d bd) x ∧ Turns (F ++ D) (F ++ D3) w2 w')) () (by kernel_rfl) (by kernel_rfl) rfl ⟨?_, ?_, ?_, ?_, ?_, trivial⟩ ?_
                · exact Flow.move (Flow.goes_plain rfl) (Flow.two.upd (by decide)) (.inl rfl) fun a s w' hs hd => (hs 5 (by kernel_rfl))
                · refine Flow.call (Flow.goes_plain rfl) fun a L s0 w' hC hL hn hs hd => ⟨12, _, op_call12 rfl (hd 0 68 (by kernel_rfl)) rfl w', ?_⟩
                  have hw := hC.pre (hn.after 4 (by kernel_rfl))
                  refine (device_walk ((hw ▸ (unhide HS2).jour.map.map.drew : MapF F w' m p x))).mono ?_
                  rintro e w'' ⟨rfl, hw2⟩
                  subst hw2
                  exact ⟨_, (), rfl, fun _ _ _ h => h, Flow.two.put (by decide) (hn.after 4 (by kernel_rfl)) hw, rfl⟩
                · exact Flow.pure (Flow.goes_plain rfl) (Flow.two.upd (by decide)) fun a L s w' hC hL hn hs hd => ⟨_, op_f39_3 rfl (hs 11 (by kernel_rfl)) w', rfl⟩
                · refine Flow.pure (Flow.goes_plain rfl) (Flow.two.upd (by decide)) fun a L s w' hC hL hn hs hd => ?_
                  skip
                  exact ⟨_, op_load32 rfl (hd 2 70 (by kernel_rfl)) (by rw [hC.pre (hn.after 4 (by kernel_rfl))]; exact hc3), rfl⟩
                · refine Flow.call (Flow.goes_plain rfl) fun a L s0 w' hC hL hn hs hd => ⟨14, _, op_call14 rfl (hd 1 69 (by kernel_rfl)) (hd 3 71 (by kernel_rfl)) rfl w', ?_⟩
                  have hw := hC.pre hL
                  have hP : PMap F D w' m p d x := hw ▸ (unhide HS2).jour.map.drew
                  have hbw : Below w2.heap.size w2 w' := by rw [hw]; exact (Below.refl _ w2).drew
                  refine (restart_walk (N := w.heap.size) hP.dev (fun k hk => (unhide HS2).above k (by simp [hk])) (Nat.le_trans (unhide HB2).size hbw.size) ka kl kc bd ((unhide HRW).below (hbw.mono (unhide HB2).size)) (by have := (unhide HS2).math.wait; omega)).mono ?_
                  rintro e w'' ⟨rfl, D3, hD, hT⟩
                  have hT2 := hP.turnD hT hD (layKept_len _ _ _)
                  exact ⟨_, (), rfl, fun _ _ _ h => h, Flow.two.post ⟨D3, hT2.1, Turns.after hbw hT2.2⟩, rfl⟩
                · intro L _ w3 hC hL vals hv
                  obtain ⟨D3, hM3, hT3'⟩ := hC.end (hL 4 (by decide))
                  have hJT := (unhide HS2).jour.sync hT3' hM3
                  have hT3 := hJT.2
                  have hGT := hT3.above (unhide HS2).above (unhide HB2).size
                  have HB3 := hide ((unhide HB2).trans hGT.1)
                  have HT3 := hide ((unhide HS2).texts.turn hT3)
                  have HL3 := hide ((unhide HS2).lists.turn hT3)
                  have HJ3 := hide hJT.1
                  have HG3 := hide hGT.2
                  have HFO := hide (unhide HS2).form
                  have HLOW := hide (unhide HS2).low
                  have HLEN := hide (unhide HS2).lens
                  have HFW := hide (And.intro (unhide HS2).few (unhide HS2).many)
                  have HM := hide ((unhide HS2).math.restart (by omega) bd)
                  simp only [Free.putAll, Act.put, List.setIfInBounds_toArray, List.set_cons_succ, List.set_cons_zero]
                  clear hC hL hv hM3 hT3' hJT hT3 hGT hc0 hc3 HS2
                  generalize vals 0 = z0 at *
                  generalize vals 1 = z1 at *
                  generalize vals 2 = z2 at *
                  generalize vals 3 = z3 at *
                  have hszx : x.sz = [s0, s1, 1] := (unhide HM).1.szx
                  have HOP := hide (jopen_walk (unhide HJ3).map 0 1 (by rw [hszx]; simp) (by rw [hszx]; simp) (by omega))
                  rw [hszx] at HOP
                  have hMM := unhide HM
                  obtain ⟨on, hon⟩ : ∃ on, openD2 (restartD d bd) [s0, s1, 1] 0 1 = on := ⟨_, rfl⟩
                  rw [hon] at hMM HOP
                  obtain ⟨inn, last, l⟩ := on
                  have HMM := hide hMM
                  clear hMM hon HM hszx
                  go_wp2_with fail
                  refine (unhide HOP).mono ?_
                  rintro e w4 ⟨q4, bv, rfl, hJ4, hV4, hb4, hq4⟩
                  have HJ4 := hide hJ4
                  have HV4 := hide hV4
                  have HT4 := hide ((unhide HT3).below hb4)
                  have HL4 := hide ((unhide HL3).below hb4)
                  have HB4 := hide ((unhide HB3).trans (hb4.mono (unhide HB3).size))
                  have HG4 : Hid (∀ k ∈ q4 :: (F ++ D3), w.heap.size ≤ k) := hide fun k hk => by
                    rcases List.mem_cons.1 hk with rfl | hk
                    · exact Nat.le_trans (unhide HB3).size hq4
                    · exact unhide HG3 k (by simp at hk ⊢; exact .inr hk)
                  have HSM := hide (same_walk hV4 (unhide HT4) (by have := (unhide HFW).1; omega))
                  obtain ⟨la, lc, rfl, _, _⟩ := hV4.slice
                  obtain ⟨ma, mc, rfl, _, _⟩ := (unhide HL4).slice
                  clear hJ4 hV4 hb4 hq4 HOP HJ3 HT3 HL3 HB3 HG3 HA2 HRW
                  go_wp2_with fail
                  refine (unhide HSM).mono ?_
                  rintro e w5 ⟨f0, rfl, hf0, hb5⟩
                  have HF0 := hide hf0
                  have HX5 := hide hb5
                  clear hf0 hb5 HSM
                  go_wp2
                  go_loopw [17, 83] (fun cf ck ws => ∃ (k : Nat) (fb : Bool), k ≤ maybe.length ∧ ck = .int .i64 (k : Int) ∧ cf = .bool fb ∧ (l = now ∨ (∃ n, n < k ∧ l = maybe.getD n []) → fb = true) ∧ Below w4.heap.size w4 ws) (fun _ ck _ => maybe.length - (intOf ck).toNat)
                  case atStart => exact ⟨0, f0, by omega, rfl, rfl, fun h => by
                    rcases h with h | ⟨n, h, _⟩
                    · exact unhide HF0 h
                    · omega, unhide HX5⟩
                  case round =>
                    obtain ⟨k, fb, hk, rfl, rfl, hfb, hbk⟩ := hrel
                    by_cases hlk : k < maybe.length
                    · obtain ⟨mg, mc2, mu, me, hmg, hmc, htx⟩ := ((unhide HL4).below hbk).at hlk
                      cases me
                      have HSM := hide (same_walk ((unhide HV4).below hbk) htx (by
                          have h1 := (unhide HFW).2
                          have h2 := unhide HLEN (maybe.getD k []) (by rw [List.getD_eq_getElem?_getD, List.getElem?_eq_getElem hlk]; exact List.getElem_mem hlk)
                          omega))
                      obtain ⟨ua, uc, rfl, _, _⟩ := htx.slice
                      obtain ⟨ul, hul⟩ : ∃ ul, (maybe.getD k []).length = ul := ⟨_, rfl⟩
                      rw [hul] at hmc HSM
                      have HK := hide hlk
                      have hml : maybe.length ≤ 1000000 := by have := (unhide HFW).2; omega
                      clear hul
                      have HFB := hide hfb
                      have HBK := hide hbk
                      clear hfb hbk htx
                      cases fb with
                      | true =>
                        go_wp2
                        go_roundw
                        case rel => exact ⟨k + 1, true, by have := unhide HK; omega, by go_num, rfl, fun _ => rfl, unhide HBK⟩
                        case measure => have := unhide HK; simp [intOf]; omega
                      | false =>
                        go_wp2_with fail
                        refine (unhide HSM).mono ?_
                        rintro e w7 ⟨f7, rfl, hf7, hb7⟩
                        have HB7 := hide ((unhide HBK).trans (hb7.mono (unhide HBK).size))
                        have HF7 := hide hf7
                        clear hb7 hf7 HSM hmc
                        go_wp2
                        go_roundw
                        case rel => exact ⟨k + 1, f7, by have := unhide HK; omega, by go_num, rfl, fun h => by
                          rcases h with h | ⟨n, h1, h2⟩
                          · exact absurd (unhide HFB (.inl h)) (by decide)
                          · by_cases hnk : n = k
                            · subst hnk; exact unhide HF7 h2
                            · exact absurd (unhide HFB (.inr ⟨n, by omega, h2⟩)) (by decide), unhide HB7⟩
                        case measure => have := unhide HK; simp [intOf]; omega
                    · have hkm : k = maybe.length := by omega
                      have hfound : fb = true := hfb (by
                        rcases (unhide HMM).2.1 with h | h
                        · exact .inl h
                        · obtain ⟨n, hn, he⟩ := List.mem_iff_getElem.1 h
                          refine .inr ⟨n, by omega, ?_⟩
                          rw [List.getD_eq_getElem?_getD, List.getElem?_eq_getElem hn]
                          exact he.symm)
                      subst hfound
                      have hJ6 := (unhide HJ4).below hbk
                      have hV6 := (unhide HV4).below hbk
                      have hB6 := (unhide HB4).trans (hbk.mono (unhide HB4).size)
                      have hs6 := hbk.size
                      obtain ⟨wb, hwb⟩ : ∃ wb, wb = wr := ⟨_, rfl⟩
                      rw [← hwb] at hJ6 hV6 hB6 hs6
                      have HJ6 := hide hJ6
                      have HV6 := hide hV6
                      have HB6 := hide hB6
                      have HS6 := hide hs6
                      have HWB := hide hwb
                      clear hk hlk
                      subst hkm
                      clear hwb hbk hfb HX5 HF0 hJ6 hV6 hB6 hs6
                      go_wp2
                      go_loopw [8, 99] (fun cv ck ws => ∃ (k : Nat) (g c : Nat), k ≤ l.length ∧ ck = .int .i64 (k : Int) ∧ cv = .slice (some ⟨g, 0, none⟩) k c ∧ ws.ownsRow wb.heap.size 9 1 (.slice (some ⟨g, 0, none⟩) k c) k (strs (l.take k)) ∧ Below wb.heap.size wb ws) (fun _ ck _ => l.length - (intOf ck).toNat)
                      case atStart =>
                        rw [unhide HWB]
                        exact ⟨0, _, _, by omega, rfl, rfl, by simpa [strs] using owns_none wr 9, (Below.refl _ _).alloc (Nat.le_refl _) _⟩
                      case round =>
                        obtain ⟨k, g, c, hk, rfl, rfl, hown, hbw⟩ := hrel
                        have HOW := hide hown
                        have HBW := hide hbw
                        have HK := hide hk
                        by_cases hkl : k < l.length
                        · obtain ⟨lg, lc2, u, le, _, _, hu, _, hrow⟩ := ((unhide HV6).below hbw).at hkl
                          cases le
                          have hx7 := run_text hrow
                          have HKL := hide hkl
                          have hll : l.length ≤ 1000000 := by have h2 := (unhide HMM).2.2; have h3 := (unhide HFW).2; omega
                          obtain ⟨bk7, hbk7⟩ : ∃ bk7, bk7 = l.getD k [] := ⟨_, rfl⟩
                          rw [← hbk7] at hx7
                          have HBK7 := hide hbk7
                          clear hown hbw hrow hbk7 hk
                          go_wp2_with (refine wpList_one35 _ (tx bk7) rfl rfl rfl ?_)
                          intro w7 hO7 hb7 hs7
                          have HO7 := hide hO7
                          have HOW7 := hide (owns_below (unhide HOW) hb7)
                          have HB7 := hide ((unhide HBW).trans (hb7.mono (unhide HBW).size))
                          obtain ⟨ti, i1, i2, i3, i4⟩ := full9
                          have HI := hide (And.intro i1 (And.intro i2 (And.intro i3 i4)))
                          have HL7 : Hid (k ≤ 1000000) := hide (by have h1 := unhide HKL; have h2 := (unhide HMM).2.2; have h3 := (unhide HFW).2; omega)
                          clear hO7 hb7 hs7 i1 i2 i3 i4 hx7 hu
                          go_wp2_with (refine wpList_app1 rfl _ _ rfl Try.underlying35 (unhide HI).1 (unhide HI).2.1 (unhide HI).2.2.1 (unhide HI).2.2.2 rfl (by decide) wb.heap.size _ (.slice (some ⟨g, 0, none⟩) k c) (.string (tx bk7)) k (strs (l.take k)) _ 1 rfl (unhide HOW7) rfl (unhide HO7) rfl (unhide HL7) (unhide HB7).size ?_)
                          intro v8 w8 hO8 hg8
                          have HB8 := hide ((unhide HB7).trans (owns_bel (unhide HOW7) hg8 (unhide HB7).size))
                          obtain ⟨g8, c8, e8, _, _, _, _⟩ := owns_at hO8 (i := 0) (by omega)
                          subst e8
                          have HO8 : Hid (w8.ownsRow wb.heap.size 9 1 (.slice (some ⟨g8, 0, none⟩) (k + 1) c8) (k + 1) (strs (l.take (k + 1)))) := hide (by
                            rw [take_snoc [] l k (unhide HKL), strs_app, ← unhide HBK7]
                            exact hO8)
                          clear hO8 hg8
                          go_wp2
                          go_roundw
                          case rel => exact ⟨k + 1, g8, c8, by have := unhide HKL; omega, by go_num, rfl, unhide HO8, unhide HB8⟩
                          case measure => have := unhide HKL; simp [intOf]; omega
                        · have hkm : k = l.length := by omega
                          subst hkm
                          have HB9 := hide ((unhide HB6).trans ((unhide HBW).mono (unhide HB6).size))
                          have HJ9 := hide ((unhide HJ6).below (unhide HBW))
                          have HLQ : Hid (∀ k ∈ q4 :: (F ++ D3), k < wb.heap.size) := hide (unhide HJ6).lt
                          have HTX9 : Hid (TextsV (q4 :: (F ++ D3)) wr (.slice (some ⟨g, 0, none⟩) l.length c) l) := hide ⟨by
                            have h := unhide HOW
                            rw [List.take_length] at h
                            exact owns_lower h (Nat.zero_le _), fun k hk e => by
                            have h1 := unhide HLQ k e
                            have h2 := (unhide HOW).lt k (by simpa using hk)
                            omega⟩
                          clear hown hbw hk hkl HOW HBW HJ6 HV6 HB6 HS6 HLQ HWB HT4 HL4 HJ4 HV4 HB4
                          go_wp2
                          go_roundw
                          case rel =>
                            have hFW := unhide HFW
                            have hM9 := unhide HMM
                            refine ⟨i + 1, F, D3, q4, restartD d bd, x, ⟨0, 1, inn, last, 0, false⟩, l, [], by omega, by go_num, rfl, ?_, unhide HB9⟩
                            exact { jour := unhide HJ9, math := hM9.1, above := unhide HG4, texts := unhide HTX9, lists := ListsV.nil _ _, form := ⟨g, c, rfl⟩, few := (by have := hM9.2.2; omega), many := by simp, lens := by simp, low := by simp [Value.ownBlock] }
                          case measure => simp [intOf]; omega
      · have hil : i = len := by omega
        subst hil
        go_wp2
        go_ret
        exact ⟨rfl, unhide HB⟩
  · go_enter Try.func4, Try.ntmps4
    go_wp2_with (refine wpList_box 29 _ [.int .i64 x0, .int .i64 y0] rfl rfl rfl ?_)
    intro w0 hA0 hb0 hs0
    have HA0 := hide hA0
    have HB0 := hide hb0
    clear hA0 hb0
    go_wp2_with fail
    refine (jalive_walk w0).mono ?_
    rintro e w1 ⟨rfl, hb1⟩
    have hA1 := (unhide HA0).below hb1
    have hq0 := hA1.cell (i := 0) rfl
    have hq1 := hA1.cell (i := 1) rfl
    have HB1 := hide ((unhide HB0).trans (hb1.mono (unhide HB0).size))
    clear hb1 hA1 HA0 HB0 hs0
    go_wp2
    all_goals (first | (exfalso; omega) | (go_ret; exact ⟨rfl, unhide HB1⟩))
end journalHolds
end Go.Proofs.Ytjebejdcjfnleaa
