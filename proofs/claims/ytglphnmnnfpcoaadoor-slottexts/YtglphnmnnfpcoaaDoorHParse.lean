/-
  What digest.digit and digest.Parse answer.
-/
import Derived.Test.YtglphnmnnfpcoaaDoorHText
namespace Go.Proofs.YtglphnmnnfpcoaaDoor.H
open Go.RowKit

theorem digit_no (c : BitVec 8) (h : Sha.dig c = none) (w : World) :
    Calls Tryd.prog 69 #[.int .u8 ((c.toNat : Nat) : Int)] w fun e w' => e = .returned (.tuple #[.int .u8 0, .bool false]) ∧ w' = w := by
  have h1 : ¬ (48 ≤ c.toNat ∧ c.toNat ≤ 57) := fun e => by simp [Sha.dig, e] at h
  have h2 : ¬ (97 ≤ c.toNat ∧ c.toNat ≤ 102) := fun e => by simp [Sha.dig, h1, e] at h
  clear h
  generalize c.toNat = n at *
  have e1 : (decide (48 ≤ (n : Int)) && decide ((n : Int) ≤ 57)) = false := by simp; omega
  have e2 : (decide (97 ≤ (n : Int)) && decide ((n : Int) ≤ 102)) = false := by simp; omega
  go_enter Tryd.func69, Tryd.ntmps69
  go_wp2
  all_goals
    go_ret2
    exact ⟨rfl, rfl⟩

theorem digit_yes (c : BitVec 8) (a : Nat) (h : Sha.dig c = some a) (w : World) :
    Calls Tryd.prog 69 #[.int .u8 ((c.toNat : Nat) : Int)] w fun e w' => e = .returned (.tuple #[.int .u8 (a : Int), .bool true]) ∧ w' = w := by
  have h0 := c.isLt
  by_cases h1 : 48 ≤ c.toNat ∧ c.toNat ≤ 57
  · simp only [Sha.dig, h1, and_self, if_true, Option.some.injEq] at h
    have Ha : Hid (((c.toNat : Nat) : Int) - 48 = (a : Int)) := by show _ = _; omega
    clear h
    generalize c.toNat = n at *
    obtain ⟨l1, l2⟩ := h1
    go_enter Tryd.func69, Tryd.ntmps69
    go_wp2
    go_ret2
    refine ⟨?_, rfl⟩
    rw [← unhide Ha]
    rfl
  · by_cases h2 : 97 ≤ c.toNat ∧ c.toNat ≤ 102
    · simp only [Sha.dig, if_neg h1, h2, and_self, if_true, Option.some.injEq] at h
      have Ha : Hid (((c.toNat : Nat) : Int) - 97 + 10 = (a : Int)) := by show _ = _; omega
      clear h
      generalize c.toNat = n at *
      obtain ⟨l1, l2⟩ := h2
      have e1 : (decide (48 ≤ (n : Int)) && decide ((n : Int) ≤ 57)) = false := by simp; omega
      have e3 : (57 : Int) < (n : Int) := by omega
      clear h1
      go_enter Tryd.func69, Tryd.ntmps69
      go_wp2
      go_ret2
      refine ⟨?_, rfl⟩
      rw [← unhide Ha]
      rfl
    · simp [Sha.dig, h1, h2] at h

/-- A result that is an array in a block of its own, and a bool. -/
theorem results_arr_tmp {P : Program} {w : World} {fn : Func} {p u : Tmp} {ty : TypeId} {tmps : Array Value} {g : Nat} {cs : List Value} {td : TypeDesc} {v : Value} (h : fn.results = #[.cell p ty, .tmp u]) (hp : tmps.getD p undef = .pointer (some ⟨g, 0, none⟩)) (hu' : tmps.getD u undef = v) (hA : Arr w g cs)
    (hu : P.underlying ty = some td) (hd : td.isRow = true) (hi : (P.info? ty).map (·.size) = some cs.length) : (results fn tmps).run P w = .ok (.tuple #[.agg cs.toArray, v]) w := by
  have hl := run_loadVar_mid (P := P) w g 0 ty cs td hA.range hu hd hi
  rw [results_cell_tmp h, hp, hu']
  simp [asAddr, hl]

theorem built24 : Tryd.prog.built 24 [] = some (bytesV zerosB).toArray := by kernel_rfl

theorem or_shl4 (a b : Nat) (ha : a < 16) (hb : b < 16) : bits .or .u8 ((a : Int) * 16) (b : Int) = ((((BitVec.ofNat 8 (a * 16 + b)).toNat : Nat)) : Int) := by
  have : ∀ i j : Fin 16, bits .or .u8 ((i.val : Int) * 16) (j.val : Int) = ((((BitVec.ofNat 8 (i.val * 16 + j.val)).toNat : Nat)) : Int) := by decide +kernel
  exact this ⟨a, ha⟩ ⟨b, hb⟩

theorem str_get (l : List (BitVec 8)) (k : Nat) (h : k < l.length) (w : World) : (Instr.index 9 (.string (str l)) (.int .i64 (k : Int))).run Tryd.prog w = .ok (.int .u8 (((l.getD k 0).toNat : Nat) : Int)) w := by
  have hs : (str l).size = l.length := by simp [str, ByteArray.size]
  rw [run_index_string w 9 (str l) .i64 k Tryd.underlying9, dif_pos ⟨by omega, by rw [hs]; omega⟩]
  congr 3
  simp only [Int.toNat_natCast, str]
  rw [List.getD_eq_getElem?_getD, List.getElem?_eq_getElem h]
  simp only [Option.getD_some]
  show (((l.map UInt8.ofBitVec).toArray)[k]'(by simpa using h)).toNat = _
  simp

theorem str_size (l : List (BitVec 8)) : (str l).size = l.length := by simp [str, ByteArray.size]

/-- What Parse tells of a text. -/
def Parsed (l h : List (BitVec 8)) (ok : Bool) : Prop := h.length = 32 ∧ (ok = true → Sha.text h = l) ∧ (ok = false → h = zerosB ∧ ∀ g : List (BitVec 8), g.length = 32 → Sha.text g ≠ l)

set_option maxRecDepth 100000 in
set_option maxHeartbeats 400000 in
theorem parse_any (l : List (BitVec 8)) (w : World) :
    Calls Tryd.prog 56 #[.string (str l)] w fun e w' => ∃ h ok, e = .returned (.tuple #[.agg (bytesV h).toArray, .bool ok]) ∧ Parsed l h ok ∧ Below w.heap.size w w' := by
  have hsz := str_size l
  by_cases h64 : l.length = 64
  · have Hsz := hide hsz
    clear hsz
    have hlen : ((str l).size : Int) = 64 := by rw [unhide Hsz]; omega
    go_enter Tryd.func56, Tryd.ntmps56
    go_wp2_with (refine wpList_alloc 24 24 (bytesV zerosB) rfl rfl alloc24 ?_)
    intro w1 hA1 hb1 hs1
    have HA1 := hide hA1
    have Hb1 := hide hb1
    clear hA1 hb1
    go_wp2_with (refine wpList_alloc 24 24 (bytesV zerosB) rfl rfl alloc24 ?_)
    intro w2 hA2 hb2 hs2
    have HR2 := hide ((unhide HA1).keep hb2 (by omega))
    have Hb2 := hide ((unhide Hb1).trans (hb2.mono (by omega)))
    have HA2 := hide hA2
    have H64 := hide h64
    clear hA2 hb2 HA1 Hb1 hs1 hs2 h64
    go_wp2_with fail
    go_loopw [14] (fun i wr => ∃ (k : Nat) (g : List (BitVec 8)), k ≤ 32 ∧ i = .int .i64 k ∧ g.length = k ∧ Sha.text g = l.take (2 * k) ∧ Arr wr (w.heap.size + 1) (bytesV (g ++ List.replicate (32 - k) 0#8)) ∧ Arr wr w.heap.size (bytesV zerosB) ∧ Below w.heap.size w wr) (fun i _ => 32 - (intOf i).toNat)
    case atStart => exact ⟨0, [], by omega, rfl, rfl, rfl, unhide HA2, unhide HR2, unhide Hb2⟩
    case round =>
      obtain ⟨k, g, hk, rfl, hgl, hgt, hA, hR, hb⟩ := hrel
      clear HA2 HR2 Hb2
      have Hgl := hide hgl
      have Hgt := hide hgt
      have HR := hide hR
      have Hb := hide hb
      clear hgl hgt hR hb
      by_cases hlt : k < 32
      · have hi1 := str_get l (2 * k) (by have := unhide H64; omega)
        have hi2 := str_get l (2 * k + 1) (by have := unhide H64; omega)
        rw [show ((2 * k : Nat) : Int) = 2 * (k : Int) by omega] at hi1
        rw [show ((2 * k + 1 : Nat) : Int) = 2 * (k : Int) + 1 by omega] at hi2
        have Ht1 := hide (show l.take (2 * k + 2) = l.take (2 * k) ++ [l.getD (2 * k) 0, l.getD (2 * k + 1) 0] by
          rw [show 2 * k + 2 = (2 * k + 1) + 1 by omega, take_snoc l (2 * k + 1) (by have := unhide H64; omega), take_snoc l (2 * k) (by have := unhide H64; omega), List.append_assoc]; rfl)
        have Hno : Hid (∀ t : List (BitVec 8), t.length = 32 → Sha.text t = l → Sha.dig (l.getD (2 * k) 0) ≠ none ∧ Sha.dig (l.getD (2 * k + 1) 0) ≠ none) := by
          show ∀ t : List (BitVec 8), _
          intro t ht e
          have := Sha.text_get t k (by omega)
          rw [e] at this
          rw [List.getD_eq_getElem?_getD, List.getD_eq_getElem?_getD, this.1, this.2]
          have hb := (t.getD k 0).isLt
          simp only [Option.getD_some]
          rw [Sha.dig_hex (by omega), Sha.dig_hex (by omega)]
          simp
        generalize l.getD (2 * k) 0 = x at *
        generalize l.getD (2 * k + 1) 0 = y at *
        have HA := hide hA
        have hc := hA.cell (bytesV_get (g ++ List.replicate (32 - k) 0#8) (i := k) (by simp [unhide Hgl]; omega))
        have hf := hA.free k
        clear hA
        generalize (g ++ List.replicate (32 - k) 0#8).getD k 0 = old at *
        go_wp2_with fail
        have Hz : Hid ((bytesV zerosB).length = 32) := rfl
        by_cases hyes : (∃ a, Sha.dig x = some a) ∧ ∃ b, Sha.dig y = some b
        · obtain ⟨⟨a, ha⟩, b, hb'⟩ := hyes
          have Ha := hide ha
          have Hb' := hide hb'
          clear ha hb'
          refine (digit_yes x a (unhide Ha) _).mono ?_
          rintro e w' ⟨rfl, rfl⟩
          go_wp2_with fail
          refine (digit_yes y b (unhide Hb') _).mono ?_
          rintro e w' ⟨rfl, rfl⟩
          have ha16 := (Sha.hex_dig (unhide Ha)).1
          have hb16 := (Sha.hex_dig (unhide Hb')).1
          clear hi1 hi2
          go_wp2
          rw [or_shl4 a b ha16 hb16]
          refine ⟨⟨k + 1, g ++ [BitVec.ofNat 8 (a * 16 + b)], by omega, by go_num, by simp [unhide Hgl], ?_, ?_, (unhide HR).other _ _ (by simp), (unhide Hb).setCell (by simp) _⟩, by simp [intOf]; omega⟩
          · have e : (BitVec.ofNat 8 (a * 16 + b)).toNat = a * 16 + b := by simp; omega
            rw [Sha.text_snoc, unhide Hgt, show 2 * (k + 1) = 2 * k + 2 by omega, unhide Ht1, e, show (a * 16 + b) / 16 = a by omega, show (a * 16 + b) % 16 = b by omega, (Sha.hex_dig (unhide Ha)).2, (Sha.hex_dig (unhide Hb')).2]
          · have h := (unhide HA).set k (.int .u8 (((BitVec.ofNat 8 (a * 16 + b)).toNat : Nat) : Int))
            rw [bytesV_set] at h
            have e : (g ++ List.replicate (32 - k) 0#8).set k (BitVec.ofNat 8 (a * 16 + b)) = g ++ [BitVec.ofNat 8 (a * 16 + b)] ++ List.replicate (32 - (k + 1)) 0#8 := by
              rw [List.set_append_right k _ (by rw [unhide Hgl]; omega), unhide Hgl, Nat.sub_self, show 32 - k = (32 - (k + 1)) + 1 by omega, List.replicate_succ, List.set_cons_zero, List.append_assoc]
              rfl
            rw [e] at h
            exact h
        · have Hfail : Hid (Parsed l zerosB false) := by
            refine ⟨rfl, (by intro h; cases h), fun _ => ⟨rfl, fun t ht e => ?_⟩⟩
            have := unhide Hno t ht e
            apply hyes
            cases hx : Sha.dig x with
            | none => exact absurd hx this.1
            | some a => cases hy : Sha.dig y with
              | none => exact absurd hy this.2
              | some b => exact ⟨⟨a, rfl⟩, b, rfl⟩
          cases hx : Sha.dig x with
          | none =>
            have Hx := hide hx
            clear hx
            refine (digit_no x (unhide Hx) _).mono ?_
            rintro e w' ⟨rfl, rfl⟩
            cases hy : Sha.dig y with
            | none =>
              have Hy := hide hy
              clear hy hyes
              go_wp2_with fail
              refine (digit_no y (unhide Hy) _).mono ?_
              rintro e w' ⟨rfl, rfl⟩
              clear hi1 hi2
              go_wp2_with (first
                | refine wpList_build 24 _ (bytesV zerosB) [] rfl rfl rfl built24 ?_
                | refine wpList_storeAll 24 _ _ w.heap.size (bytesV zerosB) (bytesV zerosB) rfl rfl rfl rfl (unhide HR) rfl info24 (bytesV_one _) ?_)
              intro w5 hA5 hg5 _
              have Hb5 := hide ((unhide Hb).grown hg5 (unhide Hb).size (fun k hk => by simp at hk; omega))
              have HA5 := hide hA5
              clear hA5 hg5
              go_wp2
              refine bodyPost_ret (v := .tuple #[.agg (bytesV zerosB).toArray, .bool false]) ?_ rfl ⟨zerosB, false, rfl, unhide Hfail, unhide Hb5⟩
              exact results_arr_tmp Tryd.results56 rfl rfl (unhide HA5) Tryd.underlying24 rfl info24
            | some b =>
              have Hy := hide hy
              clear hy hyes
              go_wp2_with fail
              refine (digit_yes y b (unhide Hy) _).mono ?_
              rintro e w' ⟨rfl, rfl⟩
              clear hi1 hi2
              go_wp2_with (first
                | refine wpList_build 24 _ (bytesV zerosB) [] rfl rfl rfl built24 ?_
                | refine wpList_storeAll 24 _ _ w.heap.size (bytesV zerosB) (bytesV zerosB) rfl rfl rfl rfl (unhide HR) rfl info24 (bytesV_one _) ?_)
              intro w5 hA5 hg5 _
              have Hb5 := hide ((unhide Hb).grown hg5 (unhide Hb).size (fun k hk => by simp at hk; omega))
              have HA5 := hide hA5
              clear hA5 hg5
              go_wp2
              refine bodyPost_ret (v := .tuple #[.agg (bytesV zerosB).toArray, .bool false]) ?_ rfl ⟨zerosB, false, rfl, unhide Hfail, unhide Hb5⟩
              exact results_arr_tmp Tryd.results56 rfl rfl (unhide HA5) Tryd.underlying24 rfl info24
          | some a =>
            have Hx := hide hx
            clear hx
            refine (digit_yes x a (unhide Hx) _).mono ?_
            rintro e w' ⟨rfl, rfl⟩
            cases hy : Sha.dig y with
            | none =>
              have Hy := hide hy
              clear hy hyes
              go_wp2_with fail
              refine (digit_no y (unhide Hy) _).mono ?_
              rintro e w' ⟨rfl, rfl⟩
              clear hi1 hi2
              go_wp2_with (first
                | refine wpList_build 24 _ (bytesV zerosB) [] rfl rfl rfl built24 ?_
                | refine wpList_storeAll 24 _ _ w.heap.size (bytesV zerosB) (bytesV zerosB) rfl rfl rfl rfl (unhide HR) rfl info24 (bytesV_one _) ?_)
              intro w5 hA5 hg5 _
              have Hb5 := hide ((unhide Hb).grown hg5 (unhide Hb).size (fun k hk => by simp at hk; omega))
              have HA5 := hide hA5
              clear hA5 hg5
              go_wp2
              refine bodyPost_ret (v := .tuple #[.agg (bytesV zerosB).toArray, .bool false]) ?_ rfl ⟨zerosB, false, rfl, unhide Hfail, unhide Hb5⟩
              exact results_arr_tmp Tryd.results56 rfl rfl (unhide HA5) Tryd.underlying24 rfl info24
            | some b => exact absurd ⟨⟨a, unhide Hx⟩, b, hy⟩ hyes
      · obtain rfl : k = 32 := by omega
        have hlg : Sha.text g = l := by rw [unhide Hgt, List.take_of_length_le (by have := unhide H64; omega)]
        have Hok : Hid (Parsed l g true) := ⟨unhide Hgl, fun _ => hlg, by intro h; cases h⟩
        have hA' : Arr wr (w.heap.size + 1) (bytesV g) := by simpa using hA
        have HA := hide hA'
        have Hlen : Hid ((bytesV g).length = 32) := by show _ = _; rw [bytesV_length]; exact unhide Hgl
        clear hA hA' hlg
        go_wp2_with (first
          | refine wpList_loadAll 24 _ (w.heap.size + 1) (bytesV g) _ rfl rfl rfl (unhide HA) Tryd.underlying24 rfl (by rw [unhide Hlen]; exact info24) ?_
          | refine wpList_storeAll 24 _ _ w.heap.size (bytesV g) (bytesV zerosB) rfl rfl rfl rfl (unhide HR) (by rw [unhide Hlen]; rfl) (by rw [unhide Hlen]; exact info24) (bytesV_one _) ?_)
        intro w5 hA5 hg5 _
        have Hb5 := hide ((unhide Hb).grown hg5 (unhide Hb).size (fun k hk => by simp at hk; omega))
        have HA5 := hide hA5
        clear hA5 hg5
        go_wp2
        have hi : (Tryd.prog.info? 24).map (·.size) = some (bytesV g).length := by rw [unhide Hlen]; exact info24
        refine bodyPost_ret (v := .tuple #[.agg (bytesV g).toArray, .bool true]) ?_ rfl ⟨g, true, rfl, unhide Hok, unhide Hb5⟩
        exact results_arr_tmp Tryd.results56 rfl rfl (unhide HA5) Tryd.underlying24 rfl hi
  · have Hfail : Hid (Parsed l zerosB false) := by
      refine ⟨rfl, (by intro h; cases h), fun _ => ⟨rfl, fun t ht e => h64 ?_⟩⟩
      rw [← e, Sha.text_length, ht]
    have hne : (((str l).size : Int) != 64) = true := by rw [bne_iff_ne, hsz]; omega
    clear h64 hsz
    go_enter Tryd.func56, Tryd.ntmps56
    go_wp2_with (refine wpList_alloc 24 24 (bytesV zerosB) rfl rfl alloc24 ?_)
    intro w1 hA1 hb1 hs1
    have HA1 := hide hA1
    have Hb1 := hide hb1
    clear hA1 hb1
    go_wp2_with (first
      | refine wpList_build 24 _ (bytesV zerosB) [] rfl rfl rfl built24 ?_
      | refine wpList_storeAll 24 _ _ w.heap.size (bytesV zerosB) (bytesV zerosB) rfl rfl rfl rfl (unhide HA1) rfl info24 (bytesV_one _) ?_)
    intro w5 hA5 hg5 _
    have Hb5 := hide ((unhide Hb1).grown hg5 (unhide Hb1).size (fun k hk => by simp at hk; omega))
    have HA5 := hide hA5
    clear hA5 hg5
    go_wp2
    refine bodyPost_ret (v := .tuple #[.agg (bytesV zerosB).toArray, .bool false]) ?_ rfl ⟨zerosB, false, rfl, unhide Hfail, unhide Hb5⟩
    exact results_arr_tmp Tryd.results56 rfl rfl (unhide HA5) Tryd.underlying24 rfl info24

theorem run_digitS {ρ : Operand → Value} {o : Oper} {t u k : Nat} (ho : o.op = .slice 9 (.const (.string digitsS)) (some (.tmp t)) (some (.tmp u)) none) (h : ρ (.tmp t) = .int .u8 (k : Int)) (h' : ρ (.tmp u) = .int .u8 ((k + 1 : Nat) : Int)) (hc : ρ (.const (.string digitsS)) = .string digitsS) (hk : k < 16) (w : World) :
    (execOp ρ o).run Tryd.prog w = .ok (.value (.string (str [Sha.hex k]))) w := by
  have : k = 0 ∨ k = 1 ∨ k = 2 ∨ k = 3 ∨ k = 4 ∨ k = 5 ∨ k = 6 ∨ k = 7 ∨ k = 8 ∨ k = 9 ∨ k = 10 ∨ k = 11 ∨ k = 12 ∨ k = 13 ∨ k = 14 ∨ k = 15 := by omega
  have key : ∀ w : World, (Instr.sliceAt 9 (.string digitsS) (some (.int .u8 (k : Int))) (some (.int .u8 ((k + 1 : Nat) : Int))) none).run Tryd.prog w = .ok (.string (str [Sha.hex k])) w := by
    rcases this with rfl | rfl | rfl | rfl | rfl | rfl | rfl | rfl | rfl | rfl | rfl | rfl | rfl | rfl | rfl | rfl <;> intro w <;> kernel_rfl
  unfold execOp
  simp only [ho, hc, h, h', Option.map_some, Option.map_none, Sem.run_bind, key, Result.andThen, Sem.run_pure]

theorem run_quo16 {ρ : Operand → Value} {o : Oper} {t n : Nat} (ho : o.op = .binOp .quo 5 (.tmp t) (.const (.int .u8 16)) 5) (h : ρ (.tmp t) = .int .u8 (n : Int)) (h' : ρ (.const (.int .u8 16)) = .int .u8 16) (hn : n < 256) (w : World) :
    (execOp ρ o).run Tryd.prog w = .ok (.value (.int .u8 ((n / 16 : Nat) : Int))) w := by
  have hn' : (n : Int) < 256 := by omega
  unfold execOp
  rw [ho]
  go_simp
  rw [IntKind.wrap_u8']
  omega
theorem run_rem16 {ρ : Operand → Value} {o : Oper} {t n : Nat} (ho : o.op = .binOp .rem 5 (.tmp t) (.const (.int .u8 16)) 5) (h : ρ (.tmp t) = .int .u8 (n : Int)) (h' : ρ (.const (.int .u8 16)) = .int .u8 16) (hn : n < 256) (w : World) :
    (execOp ρ o).run Tryd.prog w = .ok (.value (.int .u8 ((n % 16 : Nat) : Int))) w := by
  have hn' : (n : Int) < 256 := by omega
  unfold execOp
  rw [ho]
  go_simp
  exact Int.tmod_eq_emod_of_nonneg (by omega)
theorem run_inc {ρ : Operand → Value} {o : Oper} {t n : Nat} (ho : o.op = .binOp .add 5 (.tmp t) (.const (.int .u8 1)) 5) (h : ρ (.tmp t) = .int .u8 (n : Int)) (h' : ρ (.const (.int .u8 1)) = .int .u8 1) (hn : n < 16) (w : World) :
    (execOp ρ o).run Tryd.prog w = .ok (.value (.int .u8 ((n + 1 : Nat) : Int))) w := by
  have hn' : (n : Int) < 16 := by omega
  unfold execOp
  rw [ho]
  go_simp
  rw [IntKind.wrap_u8']
  omega
theorem str_append (a b : List (BitVec 8)) : str a ++ str b = str (a ++ b) := by
  unfold str
  rw [ByteArray.mk_append_mk, List.map_append]
theorem run_cat {ρ : Operand → Value} {o : Oper} {t u : Nat} {a b : List (BitVec 8)} (ho : o.op = .binOp .add 9 (.tmp t) (.tmp u) 9) (h : ρ (.tmp t) = .string (str a)) (h' : ρ (.tmp u) = .string (str b)) (ha : a.length ≤ 1000) (hb : b.length ≤ 1000) (w : World) :
    (execOp ρ o).run Tryd.prog w = .ok (.value (.string (str (a ++ b)))) w := by
  have hr := run_string_add_sum (P := Tryd.prog) w (str a) (str b) (by rw [str_size, str_size]; omega)
  rw [str_append] at hr
  unfold execOp
  rw [ho]
  go_simp

/-- What the operations of the region yield. -/
def VR (acc : List (BitVec 8)) (c : BitVec 8) : Nat → Value → World → Prop
  | 0, v, _ => v = .string (str acc)
  | 1, v, _ => v = .int .u8 ((c.toNat : Nat) : Int)
  | 2, v, _ => v = .int .u8 ((c.toNat / 16 : Nat) : Int)
  | 3, v, _ => v = .int .u8 ((c.toNat : Nat) : Int)
  | 4, v, _ => v = .int .u8 ((c.toNat / 16 : Nat) : Int)
  | 5, v, _ => v = .int .u8 ((c.toNat / 16 + 1 : Nat) : Int)
  | 6, v, _ => v = .string (str [Sha.hex (c.toNat / 16)])
  | 7, v, _ => v = .int .u8 ((c.toNat : Nat) : Int)
  | 8, v, _ => v = .int .u8 ((c.toNat % 16 : Nat) : Int)
  | 9, v, _ => v = .int .u8 ((c.toNat : Nat) : Int)
  | 10, v, _ => v = .int .u8 ((c.toNat % 16 : Nat) : Int)
  | 11, v, _ => v = .int .u8 ((c.toNat % 16 + 1 : Nat) : Int)
  | 12, v, _ => v = .string (str [Sha.hex (c.toNat % 16)])
  | 13, v, _ => v = .string (str ([Sha.hex (c.toNat / 16)] ++ [Sha.hex (c.toNat % 16)]))
  | 14, v, _ => v = .string (str (acc ++ ([Sha.hex (c.toNat / 16)] ++ [Sha.hex (c.toNat % 16)])))
  | _, _, _ => True

theorem VR.stable {acc : List (BitVec 8)} {c : BitVec 8} (j : Nat) (v : Value) (w w' : World) (h : VR acc c j v w) (_ : Below w.heap.size w w') : VR acc c j v w' := by
  unfold VR at *
  split at h <;> exact h

set_option maxRecDepth 100000 in
set_option maxHeartbeats 400000 in
theorem reftext_any (h : List (BitVec 8)) (hh : h.length = 32) (w : World) :
    Calls Tryd.prog 47 #[.agg (bytesV h).toArray] w fun e w' => e = .returned (.string (str (Sha.text h))) ∧ Below w.heap.size w w' := by
  have Hh := hide hh
  have HL : Hid ((bytesV h).length = 32) := by show _ = _; rw [bytesV_length, hh]
  clear hh
  obtain ⟨cs, hcs⟩ : ∃ cs, cs = bytesV h := ⟨_, rfl⟩
  rw [← hcs]
  rw [← hcs] at HL
  have Hcs := hide hcs
  clear hcs
  go_enter Tryd.func47, Tryd.ntmps47
  go_wp2_with (refine wpList_box 24 _ cs rfl rfl rfl ?_)
  intro w1 hA1 hb1 hs1
  have HA1 := hide hA1
  have Hb1 := hide hb1
  clear hA1 hb1 hs1
  go_wp2_with (refine wpList_loadAll 24 _ w.heap.size cs _ rfl rfl rfl (unhide HA1) Tryd.underlying24 rfl (by rw [unhide HL]; exact info24) ?_)
  go_loopw [3, 7] (fun s i wr => ∃ k : Nat, k ≤ 32 ∧ i = .int .i64 k ∧ s = .string (str (Sha.text (h.take k))) ∧ Below w.heap.size w wr) (fun _ i _ => 32 - (intOf i).toNat)
  case atStart => exact ⟨0, by omega, rfl, rfl, unhide Hb1⟩
  case round =>
    obtain ⟨k, hk, rfl, rfl, hb⟩ := hrel
    have Hb := hide hb
    clear hb HA1 Hb1
    by_cases hlt : k < 32
    · have hi := run_index Tryd.underlying24 ag5 sz5 cs k _ (by rw [unhide HL]) (by rw [unhide Hcs]; exact bytesV_get h (by have := unhide Hh; omega))
      have Hts := hide (take_snoc h k (by have := unhide Hh; omega))
      have Hal : Hid ((Sha.text (h.take k)).length ≤ 1000) := by show _ ≤ _; rw [Sha.text_length, List.length_take]; omega
      have Htx : Hid (Sha.text (h.take (k + 1)) = Sha.text (h.take k) ++ ([Sha.hex ((h.getD k 0).toNat / 16)] ++ [Sha.hex ((h.getD k 0).toNat % 16)])) := by
        show _ = _
        rw [unhide Hts, Sha.text_snoc]; rfl
      clear Hts
      generalize h.getD k 0 = c at *
      generalize Sha.text (h.take k) = acc at *
      have hc := c.isLt
      have hh16 : c.toNat / 16 < 16 := by omega
      have hl16 : c.toNat % 16 < 16 := by omega
      go_wp2_with fail
      refine Free.wp_region_tail 15 (VR acc c) (fun w' => w' = wr.drew) (by kernel_rfl) (by decide) (by kernel_rfl) (by kernel_rfl) (by kernel_rfl) VR.stable rfl ⟨?_, ?_, ?_, ?_, ?_, ?_, ?_, ?_, ?_, ?_, ?_, ?_, ?_, ?_, ?_, trivial⟩ ?_
      · exact Free.owed_move (Free.goes_plain rfl) (.inl rfl) fun a w' _ hs _ => hs 3 (by kernel_rfl)
      · exact Free.owed_move (Free.goes_plain rfl) (.inl rfl) fun a w' _ hs _ => hs 5 (by kernel_rfl)
      · exact Free.owed_pure (Free.goes_plain rfl) fun a w' hC hs hd => ⟨_, run_quo16 rfl (hd 1 11 (by kernel_rfl)) rfl hc w', rfl⟩
      · exact Free.owed_move (Free.goes_plain rfl) (.inl rfl) fun a w' _ hs _ => hs 5 (by kernel_rfl)
      · exact Free.owed_pure (Free.goes_plain rfl) fun a w' hC hs hd => ⟨_, run_quo16 rfl (hd 3 13 (by kernel_rfl)) rfl hc w', rfl⟩
      · exact Free.owed_pure (Free.goes_plain rfl) fun a w' hC hs hd => ⟨_, run_inc rfl (hd 4 14 (by kernel_rfl)) rfl hh16 w', rfl⟩
      · exact Free.owed_pure (Free.goes_plain rfl) fun a w' hC hs hd => ⟨_, run_digitS rfl (hd 2 12 (by kernel_rfl)) (hd 5 15 (by kernel_rfl)) rfl hh16 w', rfl⟩
      · exact Free.owed_move (Free.goes_plain rfl) (.inl rfl) fun a w' _ hs _ => hs 5 (by kernel_rfl)
      · exact Free.owed_pure (Free.goes_plain rfl) fun a w' hC hs hd => ⟨_, run_rem16 rfl (hd 7 17 (by kernel_rfl)) rfl hc w', rfl⟩
      · exact Free.owed_move (Free.goes_plain rfl) (.inl rfl) fun a w' _ hs _ => hs 5 (by kernel_rfl)
      · exact Free.owed_pure (Free.goes_plain rfl) fun a w' hC hs hd => ⟨_, run_rem16 rfl (hd 9 19 (by kernel_rfl)) rfl hc w', rfl⟩
      · exact Free.owed_pure (Free.goes_plain rfl) fun a w' hC hs hd => ⟨_, run_inc rfl (hd 10 20 (by kernel_rfl)) rfl hl16 w', rfl⟩
      · exact Free.owed_pure (Free.goes_plain rfl) fun a w' hC hs hd => ⟨_, run_digitS rfl (hd 8 18 (by kernel_rfl)) (hd 11 21 (by kernel_rfl)) rfl hl16 w', rfl⟩
      · exact Free.owed_pure (Free.goes_plain rfl) fun a w' hC hs hd => ⟨_, run_cat rfl (hd 6 16 (by kernel_rfl)) (hd 12 22 (by kernel_rfl)) (by simp) (by simp) w', rfl⟩
      · exact Free.owed_pure (Free.goes_plain rfl) fun a w' hC hs hd => ⟨_, run_cat rfl (hd 0 10 (by kernel_rfl)) (hd 13 23 (by kernel_rfl)) (unhide Hal) (by simp) w', rfl⟩
      · rintro w3 rfl vals hv
        have e14 : vals 14 = .string (str (acc ++ ([Sha.hex (c.toNat / 16)] ++ [Sha.hex (c.toNat % 16)]))) := hv 14 _ 24 rfl rfl
        clear hv
        rw [← unhide Htx] at e14
        simp only [Free.putAll, List.take, List.drop, Act.put, List.setIfInBounds_toArray, List.set_cons_succ, List.set_cons_zero, e14]
        clear e14
        generalize hx : Sha.text (h.take (k + 1)) = nx
        have Hx := hide hx
        clear hx
        go_wp2
        go_roundw
        case rel => exact ⟨k + 1, by omega, by go_num, by rw [unhide Hx], (unhide Hb).drew⟩
        case measure => simp [intOf]; omega
    · have hts : h.take k = h := List.take_of_length_le (by have := unhide Hh; omega)
      rw [hts]
      clear hts
      generalize htx : Sha.text h = tx
      have Htx := hide htx
      clear htx
      go_wp2
      go_ret
      exact ⟨by rw [unhide Htx]; rfl, unhide Hb⟩

end Go.Proofs.YtglphnmnnfpcoaaDoor.H
