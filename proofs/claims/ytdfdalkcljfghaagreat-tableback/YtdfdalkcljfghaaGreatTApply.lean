/-
  Single operations on tables and changes; slices of changes. What table.change and table.Apply do.
-/
import Derived.Test.YtdfdalkcljfghaaGreatTMath
import Derived.Test.YtdfdalkcljfghaaGreatFlow
import Derived.Test.YtdfdalkcljfghaaGreatTail
import Derived.Test.YtdfdalkcljfghaaGreatGrow
namespace Go.Proofs.YtdfdalkcljfghaaGreat.Slot
open Go.RowKit

section
variable {ρ : Operand → Value} {o : Oper}
theorem op_f41_0 {x : Operand} {g : Nat} (ho : o.op = .fieldAddr 41 x 0) (h1 : ρ x = .pointer (some ⟨g, 0, none⟩)) (w : World) : (execOp ρ o).run Tryz.prog w = .ok (.value (.pointer (some ⟨g, 0, none⟩))) w := by
  unfold execOp
  rw [ho]
  go_simp
theorem op_f41_1 {x : Operand} {g : Nat} (ho : o.op = .fieldAddr 41 x 1) (h1 : ρ x = .pointer (some ⟨g, 0, none⟩)) (w : World) : (execOp ρ o).run Tryz.prog w = .ok (.value (.pointer (some ⟨g, 1, none⟩))) w := by
  unfold execOp
  rw [ho]
  go_simp
theorem op_f41_2 {x : Operand} {g : Nat} (ho : o.op = .fieldAddr 41 x 2) (h1 : ρ x = .pointer (some ⟨g, 0, none⟩)) (w : World) : (execOp ρ o).run Tryz.prog w = .ok (.value (.pointer (some ⟨g, 2, none⟩))) w := by
  unfold execOp
  rw [ho]
  go_simp
theorem op_f41_3 {x : Operand} {g : Nat} (ho : o.op = .fieldAddr 41 x 3) (h1 : ρ x = .pointer (some ⟨g, 0, none⟩)) (w : World) : (execOp ρ o).run Tryz.prog w = .ok (.value (.pointer (some ⟨g, 3, none⟩))) w := by
  unfold execOp
  rw [ho]
  go_simp
theorem op_f41_4 {x : Operand} {g : Nat} (ho : o.op = .fieldAddr 41 x 4) (h1 : ρ x = .pointer (some ⟨g, 0, none⟩)) (w : World) : (execOp ρ o).run Tryz.prog w = .ok (.value (.pointer (some ⟨g, 39, none⟩))) w := by
  unfold execOp
  rw [ho]
  go_simp
theorem op_f37_0 {x : Operand} {g : Nat} (ho : o.op = .fieldAddr 37 x 0) (h1 : ρ x = .pointer (some ⟨g, 0, none⟩)) (w : World) : (execOp ρ o).run Tryz.prog w = .ok (.value (.pointer (some ⟨g, 0, none⟩))) w := by
  unfold execOp
  rw [ho]
  go_simp
theorem op_f37_1 {x : Operand} {g : Nat} (ho : o.op = .fieldAddr 37 x 1) (h1 : ρ x = .pointer (some ⟨g, 0, none⟩)) (w : World) : (execOp ρ o).run Tryz.prog w = .ok (.value (.pointer (some ⟨g, 72, none⟩))) w := by
  unfold execOp
  rw [ho]
  go_simp
theorem op_f37_2 {x : Operand} {g : Nat} (ho : o.op = .fieldAddr 37 x 2) (h1 : ρ x = .pointer (some ⟨g, 0, none⟩)) (w : World) : (execOp ρ o).run Tryz.prog w = .ok (.value (.pointer (some ⟨g, 73, none⟩))) w := by
  unfold execOp
  rw [ho]
  go_simp
theorem op_f37_3 {x : Operand} {g : Nat} (ho : o.op = .fieldAddr 37 x 3) (h1 : ρ x = .pointer (some ⟨g, 0, none⟩)) (w : World) : (execOp ρ o).run Tryz.prog w = .ok (.value (.pointer (some ⟨g, 74, none⟩))) w := by
  unfold execOp
  rw [ho]
  go_simp
theorem op_f102_0 {x : Operand} {g : Nat} (ho : o.op = .fieldAddr 102 x 0) (h1 : ρ x = .pointer (some ⟨g, 0, none⟩)) (w : World) : (execOp ρ o).run Tryz.prog w = .ok (.value (.pointer (some ⟨g, 0, none⟩))) w := by
  unfold execOp
  rw [ho]
  go_simp
theorem op_f102_1 {x : Operand} {g : Nat} (ho : o.op = .fieldAddr 102 x 1) (h1 : ρ x = .pointer (some ⟨g, 0, none⟩)) (w : World) : (execOp ρ o).run Tryz.prog w = .ok (.value (.pointer (some ⟨g, 1, none⟩))) w := by
  unfold execOp
  rw [ho]
  go_simp
theorem op_nilT {x : Operand} {g k : Nat} (ho : o.op = .nilCheck x) (h1 : ρ x = .pointer (some ⟨g, k, none⟩)) (w : World) : (execOp ρ o).run Tryz.prog w = .ok (.value (.pointer (some ⟨g, k, none⟩))) w := by
  unfold execOp
  rw [ho]
  go_simp
theorem op_idx35 {x y : Operand} {g k : Nat} (ho : o.op = .indexAddr 35 x y) (h1 : ρ x = .pointer (some ⟨g, 0, none⟩)) (h2 : ρ y = .int .i64 (k : Int)) (hk : k < 2) (w : World) : (execOp ρ o).run Tryz.prog w = .ok (.value (.pointer (some ⟨g, 36 * k, none⟩))) w := by
  unfold execOp
  rw [ho]
  match k, hk with
  | 0, _ => go_simp
  | 1, _ => go_simp
theorem op_loadV {x : Operand} {t : TypeId} {g k : Nat} {cs : List Value} {w : World} {td : TypeDesc} (ho : o.op = .load t x) (h1 : ρ x = .pointer (some ⟨g, k, none⟩)) (hA : w.rangeAt g k cs) (hu : Tryz.prog.underlying t = some td) (hd : td.isRow = true) (hi : (Tryz.prog.info? t).map (·.size) = some cs.length) :
    (execOp ρ o).run Tryz.prog w = .ok (.value (.agg cs.toArray)) w := by
  have hr := run_loadAt_mid (P := Tryz.prog) w g k t cs td hA hu hd hi
  unfold execOp
  simp only [ho, h1, Sem.run_bind, hr, Result.andThen_ok, Sem.run_pure]
theorem op_load93 {x : Operand} {g k : Nat} {v : Value} {w : World} (ho : o.op = .load 93 x) (h1 : ρ x = .pointer (some ⟨g, k, none⟩)) (hc : w.cell? ⟨g, k, none⟩ = some v) : (execOp ρ o).run Tryz.prog w = .ok (.value v) w := by
  unfold execOp
  rw [ho]
  go_simp
theorem op_call56T {x0 : Operand} {v0 : Value} (ho : o.op = .call { callee := .value (.func 56), args := #[x0], argTypes := #[34] }) (h0 : ρ x0 = v0) (hf : ρ (.func 56) = .func (.func 56) #[] #[]) (w : World) : (execOp ρ o).run Tryz.prog w = .ok (.enter 56 #[v0]) w := by
  unfold execOp
  rw [ho]
  go_simp
theorem op_call55T {x0 x1 : Operand} {v0 v1 : Value} (ho : o.op = .call { callee := .value (.func 55), args := #[x0, x1], argTypes := #[46, 94] }) (h0 : ρ x0 = v0) (h1 : ρ x1 = v1) (hf : ρ (.func 55) = .func (.func 55) #[] #[]) (w : World) : (execOp ρ o).run Tryz.prog w = .ok (.enter 55 #[v0, v1]) w := by
  unfold execOp
  rw [ho]
  go_simp
theorem op_call57T {x0 x1 : Operand} {v0 v1 : Value} (ho : o.op = .call { callee := .value (.func 57), args := #[x0, x1], argTypes := #[46, 3] }) (h0 : ρ x0 = v0) (h1 : ρ x1 = v1) (hf : ρ (.func 57) = .func (.func 57) #[] #[]) (w : World) : (execOp ρ o).run Tryz.prog w = .ok (.enter 57 #[v0, v1]) w := by
  unfold execOp
  rw [ho]
  go_simp
theorem op_call66T {x0 x1 : Operand} {v0 v1 : Value} (ho : o.op = .call { callee := .value (.func 66), args := #[x0, x1], argTypes := #[46, 41] }) (h0 : ρ x0 = v0) (h1 : ρ x1 = v1) (hf : ρ (.func 66) = .func (.func 66) #[] #[]) (w : World) : (execOp ρ o).run Tryz.prog w = .ok (.enter 66 #[v0, v1]) w := by
  unfold execOp
  rw [ho]
  go_simp
theorem op_call22T {x0 : Operand} {v0 : Value} (ho : o.op = .call { callee := .value (.func 22), args := #[x0], argTypes := #[43] }) (h0 : ρ x0 = v0) (hf : ρ (.func 22) = .func (.func 22) #[] #[]) (w : World) : (execOp ρ o).run Tryz.prog w = .ok (.enter 22 #[v0]) w := by
  unfold execOp
  rw [ho]
  go_simp
theorem op_call101T {x0 x1 : Operand} {v0 v1 : Value} (ho : o.op = .call { callee := .value (.func 101), args := #[x0, x1], argTypes := #[93, 46] }) (h0 : ρ x0 = v0) (h1 : ρ x1 = v1) (hf : ρ (.func 101) = .func (.func 101) #[] #[]) (w : World) : (execOp ρ o).run Tryz.prog w = .ok (.enter 101 #[v0, v1]) w := by
  unfold execOp
  rw [ho]
  go_simp
theorem op_call17T {x0 : Operand} {v0 : Value} (ho : o.op = .call { callee := .value (.func 17), args := #[x0], argTypes := #[37] }) (h0 : ρ x0 = v0) (hf : ρ (.func 17) = .func (.func 17) #[] #[]) (w : World) : (execOp ρ o).run Tryz.prog w = .ok (.enter 17 #[v0]) w := by
  unfold execOp
  rw [ho]
  go_simp
theorem op_call102T {x0 x1 : Operand} {v0 v1 : Value} (ho : o.op = .call { callee := .value (.func 102), args := #[x0, x1], argTypes := #[93, 46] }) (h0 : ρ x0 = v0) (h1 : ρ x1 = v1) (hf : ρ (.func 102) = .func (.func 102) #[] #[]) (w : World) : (execOp ρ o).run Tryz.prog w = .ok (.enter 102 #[v0, v1]) w := by
  unfold execOp
  rw [ho]
  go_simp
theorem op_call19T {x0 : Operand} {v0 : Value} (ho : o.op = .call { callee := .value (.func 19), args := #[x0], argTypes := #[37] }) (h0 : ρ x0 = v0) (hf : ρ (.func 19) = .func (.func 19) #[] #[]) (w : World) : (execOp ρ o).run Tryz.prog w = .ok (.enter 19 #[v0]) w := by
  unfold execOp
  rw [ho]
  go_simp
theorem op_call52T {x0 : Operand} {v0 : Value} (ho : o.op = .call { callee := .value (.func 52), args := #[x0], argTypes := #[46] }) (h0 : ρ x0 = v0) (hf : ρ (.func 52) = .func (.func 52) #[] #[]) (w : World) : (execOp ρ o).run Tryz.prog w = .ok (.enter 52 #[v0]) w := by
  unfold execOp
  rw [ho]
  go_simp
theorem op_call51T {x0 : Operand} {v0 : Value} (ho : o.op = .call { callee := .value (.func 51), args := #[x0], argTypes := #[110] }) (h0 : ρ x0 = v0) (hf : ρ (.func 51) = .func (.func 51) #[] #[]) (w : World) : (execOp ρ o).run Tryz.prog w = .ok (.enter 51 #[v0]) w := by
  unfold execOp
  rw [ho]
  go_simp
theorem op_call88T {x0 : Operand} {v0 : Value} (ho : o.op = .call { callee := .value (.func 88), args := #[x0], argTypes := #[110] }) (h0 : ρ x0 = v0) (hf : ρ (.func 88) = .func (.func 88) #[] #[]) (w : World) : (execOp ρ o).run Tryz.prog w = .ok (.enter 88 #[v0]) w := by
  unfold execOp
  rw [ho]
  go_simp
theorem op_call89T {x0 : Operand} {v0 : Value} (ho : o.op = .call { callee := .value (.func 89), args := #[x0], argTypes := #[110] }) (h0 : ρ x0 = v0) (hf : ρ (.func 89) = .func (.func 89) #[] #[]) (w : World) : (execOp ρ o).run Tryz.prog w = .ok (.enter 89 #[v0]) w := by
  unfold execOp
  rw [ho]
  go_simp
theorem op_call90T {x0 x1 : Operand} {v0 v1 : Value} (ho : o.op = .call { callee := .value (.func 90), args := #[x0, x1], argTypes := #[110, 3] }) (h0 : ρ x0 = v0) (h1 : ρ x1 = v1) (hf : ρ (.func 90) = .func (.func 90) #[] #[]) (w : World) : (execOp ρ o).run Tryz.prog w = .ok (.enter 90 #[v0, v1]) w := by
  unfold execOp
  rw [ho]
  go_simp
theorem op_call92T {x0 : Operand} {v0 : Value} (ho : o.op = .call { callee := .value (.func 92), args := #[x0], argTypes := #[110] }) (h0 : ρ x0 = v0) (hf : ρ (.func 92) = .func (.func 92) #[] #[]) (w : World) : (execOp ρ o).run Tryz.prog w = .ok (.enter 92 #[v0]) w := by
  unfold execOp
  rw [ho]
  go_simp
end

/-! ### slices of changes -/
def CRow (N : Nat) (w : World) (a : Option Addr) (len : Nat) (l : List C) : Prop :=
  l.length = len ∧ (∀ c ∈ l, FitC c) ∧ ∀ i, i < len → ∃ b off, a = some ⟨b, off, none⟩ ∧ b < N ∧ w.rangeAt b (off + i * 40) (l.getD i zeroC).cs
def CRowV (N : Nat) (w : World) (v : Value) (l : List C) : Prop :=
  ∃ a len cap, v = .slice a len cap ∧ len ≤ cap ∧ cap ≤ maxLen ∧ (a = none → cap = 0) ∧ CRow N w a len l
theorem CRow.below {N : Nat} {w w' : World} {a : Option Addr} {len : Nat} {l : List C} (h : CRow N w a len l) (hb : Below N w w') : CRow N w' a len l :=
  ⟨h.1, h.2.1, fun i hi => by
    obtain ⟨b, off, ha, hl, hc⟩ := h.2.2 i hi
    exact ⟨b, off, ha, hl, range_below hc hb hl⟩⟩
theorem CRow.up {N M : Nat} {w : World} {a : Option Addr} {len : Nat} {l : List C} (h : CRow N w a len l) (hb : N ≤ M) : CRow M w a len l :=
  ⟨h.1, h.2.1, fun i hi => by
    obtain ⟨b, off, ha, hl, hc⟩ := h.2.2 i hi
    exact ⟨b, off, ha, by omega, hc⟩⟩
theorem CRowV.below {N : Nat} {w w' : World} {v : Value} {l : List C} (h : CRowV N w v l) (hb : Below N w w') : CRowV N w' v l := by
  obtain ⟨a, len, cap, rfl, h1, h2, h3, hr⟩ := h
  exact ⟨a, len, cap, rfl, h1, h2, h3, hr.below hb⟩
theorem CRowV.up {N M : Nat} {w : World} {v : Value} {l : List C} (h : CRowV N w v l) (hb : N ≤ M) : CRowV M w v l := by
  obtain ⟨a, len, cap, rfl, h1, h2, h3, hr⟩ := h
  exact ⟨a, len, cap, rfl, h1, h2, h3, hr.up hb⟩
theorem CRowV.nil (N : Nat) (w : World) : CRowV N w (.slice none 0 0) [] := ⟨none, 0, 0, rfl, Nat.le_refl _, Nat.zero_le _, fun _ => rfl, rfl, by simp, fun i hi => by omega⟩
theorem getD_memC {l : List C} {i : Nat} (h : i < l.length) : l.getD i zeroC ∈ l := by
  rw [List.getD_eq_getElem?_getD, List.getElem?_eq_getElem h]
  exact List.getElem_mem _

set_option maxHeartbeats 1600000 in
set_option maxRecDepth 100000 in
theorem isTrans_walk (N : Nat) (v : Value) (l : List C) (w : World) (hN : N ≤ w.heap.size) (hr : CRowV N w v l) : Calls Tryz.prog 49 #[v] w fun e w' => e = .returned (.bool (allC l)) ∧ Below w.heap.size w w' := by
  obtain ⟨a, len, cap, rfl, q1, q2, q3, hrow⟩ := hr
  have HROW := hide hrow
  have hlen := hrow.1
  have HLEN := hide hlen
  have HF := hide hrow.2.1
  have HAL := hide alloc41
  have HW : Hid (∀ i, i < len → ∀ w : World, Calls Tryz.prog 87 #[(l.getD i zeroC).v] w fun e w' => e = .returned (.bool (oneC (l.getD i zeroC))) ∧ Below w.heap.size w w') := hide fun i hi => isChange_walk _ (hrow.2.1 _ (getD_memC (by omega)))
  clear hrow
  by_cases h8 : 8 < len
  · have Hr : Hid (allC l = false) := by
      show _ = _
      unfold allC
      rw [hlen, decide_eq_false (by omega)]
      rfl
    have g8 : decide (8 < (len : Int)) = true := decide_eq_true (by omega)
    generalize allC l = R at *
    go_enter Tryz.func49, Tryz.ntmps49
    go_wp2
    go_ret
    exact ⟨by rw [unhide Hr]; rfl, Below.refl _ _⟩
  · have g8 : decide (8 < (len : Int)) = false := decide_eq_false (by omega)
    have Hr : Hid (allC l = l.all oneC) := by
      show _ = _
      unfold allC
      rw [hlen, decide_eq_true (by omega)]
      rfl
    generalize allC l = R at *
    go_enter Tryz.func49, Tryz.ntmps49
    go_wp2_with fail
    go_loopw [10] (fun ci wr => ∃ k : Nat, k ≤ len ∧ ci = .int .i64 (k : Int) ∧ (∀ j, j < k → oneC (l.getD j zeroC) = true) ∧ Below w.heap.size w wr) (fun ci _ => len - (intOf ci).toNat)
    case atStart => exact ⟨0, by omega, rfl, fun j hj => by omega, Below.refl _ _⟩
    case round =>
      obtain ⟨k, hk, rfl, hj, hb⟩ := hrel
      by_cases hlt : k < len
      · obtain ⟨b, off, rfl, hbN, hrange⟩ := ((unhide HROW).below (hb.mono hN)).2.2 k hlt
        have hfc := unhide HF _ (getD_memC (l := l) (i := k) (by rw [unhide HLEN]; exact hlt))
        have HWk := hide (unhide HW k hlt)
        have HNk := hide (info41c hfc)
        have HLk := hide (ccs_length hfc)
        have H1 := hide (ccs_one (l.getD k zeroC))
        have HRG := hide hrange
        have Hb2 := hide hb
        have HJ2 : Hid (oneC (l.getD k zeroC) = true → ∀ j, j < k + 1 → oneC (l.getD j zeroC) = true) := hide fun h j hjk => by
          rcases Nat.lt_or_ge j k with e | e
          · exact hj j e
          · obtain rfl : j = k := by omega
            exact h
        have Hr2 : Hid (oneC (l.getD k zeroC) = false → R = false) := hide fun h => by
          rw [unhide Hr, List.all_eq_false]
          exact ⟨_, getD_memC (by rw [unhide HLEN]; exact hlt), by rw [h]; simp⟩
        unfold C.v at HWk
        have hlt2 := hb.size
        clear hj hb hrange hfc HW
        generalize oneC (l.getD k zeroC) = r at *
        generalize (l.getD k zeroC).cs = X at *
        go_wp2_with (first
          | refine wpList_loadPart 41 _ b (off + k * 40) X _ rfl rfl rfl (unhide HRG) Tryz.underlying41 rfl (unhide HNk) ?_
          | refine wpList_alloc 41 41 zeroC.cs rfl rfl (unhide HAL) ?_)
        intro w2 hA3 hb3 hs3
        have HA3 := hide hA3
        have Hb4 := hide ((unhide Hb2).trans (hb3.mono (unhide Hb2).size))
        clear hA3 hb3 Hb2
        go_wp2_with (refine wpList_storeAll 41 _ _ wr.heap.size X zeroC.cs rfl rfl rfl rfl (unhide HA3) (by rw [unhide HLk]; rfl) (unhide HNk) (unhide H1) ?_)
        intro w3 hA5 hg5 hs5
        have HA5 := hide hA5
        have Hb6 := hide ((unhide Hb4).grown hg5 (unhide Hb4).size (fun k hk => by simp at hk; have := (unhide Hb4).size; omega))
        clear hA5 hg5 Hb4 HA3
        go_wp2_with (refine wpList_loadAll 41 _ wr.heap.size X _ rfl rfl rfl (unhide HA5) Tryz.underlying41 rfl (unhide HNk) ?_)
        refine (unhide HWk w3).mono ?_
        rintro e w4 ⟨rfl, hb7⟩
        have Hb7 := hide ((unhide Hb6).trans (hb7.mono (unhide Hb6).size))
        clear hb7 Hb6 HA5
        cases r with
        | true =>
          go_wp2
          go_roundw
          case rel => exact ⟨k + 1, by omega, by simp, unhide HJ2 trivial, unhide Hb7⟩
          case measure => simp [intOf]; omega
        | false =>
          go_wp2
          go_ret
          exact ⟨by rw [unhide Hr2 trivial]; rfl, unhide Hb7⟩
      · obtain rfl : k = len := by omega
        have Hr2 : Hid (R = true) := by
          show _ = _
          rw [unhide Hr, List.all_eq_true]
          intro c hc
          obtain ⟨i, hi, rfl⟩ := List.mem_iff_getElem.1 hc
          have := hj i (by have := unhide HLEN; omega)
          rwa [List.getD_eq_getElem?_getD, List.getElem?_eq_getElem hi] at this
        have Hb2 := hide hb
        clear hj hb HW
        go_wp2
        go_ret
        exact ⟨by rw [unhide Hr2]; rfl, unhide Hb2⟩

end Go.Proofs.YtdfdalkcljfghaaGreat.Slot

namespace Go.Proofs.YtdfdalkcljfghaaGreat.Slot
open Go.RowKit

theorem grown_after {w w1 w2 : World} {b : Nat} (hb : Below w.heap.size w w1) (hg : w1.grownBy w2 (some b)) : w.grownBy w2 (some b) :=
  ⟨hg.os.trans hb.os, hg.tape.trans hb.tape, hg.output.trans hb.output, Nat.le_trans hb.size hg.size, fun k hk hn => by rw [hg.block k (Nat.lt_of_lt_of_le hk hb.size) hn, hb.block k hk]⟩

set_option maxHeartbeats 1600000 in
set_option maxRecDepth 100000 in
theorem change_walk (t : T) (ht : FitT t) (c : C) (hc : FitC c) (h1c : oneC c = true) (b : Nat) (w : World) (hA : Arr w b t.cs) : Calls Tryz.prog 50 #[.pointer (some ⟨b, 0, none⟩), c.v] w fun e w' => e = .returned (.tuple #[]) ∧ Arr w' b (setT t c).cs ∧ w.grownBy w' (some b) := by
  have H0 : Hid (c.cs[0]? = some (.int .i64 c.k)) := hide rfl
  have H1 : Hid (c.cs[1]? = some (.int .i64 c.sl)) := hide rfl
  have H2 : Hid (c.cs[2]? = some (.int .i64 c.n)) := hide rfl
  have H4 := hide (cget hc)
  have HAb := hide hA
  have hlt := hA.lt
  have HTL := hide (tcs_length ht)
  unfold C.v
  clear hA
  rcases oneC_cases h1c with ⟨e, h1, _⟩ | ⟨e, _⟩ | ⟨e, _⟩ | ⟨e, _⟩ <;> have ek := congrArg C.k e <;> simp only at ek
  · have HRG : Hid (∀ w b, Arr w b c.cs → w.rangeAt b 3 c.s.cs) := hide fun w b h => by have := crange (o := 0) h.range; simpa using this
    have HSI := hide (info34s hc.s.dg)
    have HSL := hide (cs_length hc.s.dg)
    have HS1 := hide (cs_one c.s)
    obtain ⟨k, hk, hsl⟩ : ∃ k : Nat, k < 2 ∧ c.sl = (k : Int) := by
      rcases h1 with h | h
      · exact ⟨0, by decide, h⟩
      · exact ⟨1, by decide, h⟩
    have HSET : Hid (t.cs.take (36 * k) ++ (c.s.cs ++ t.cs.drop (36 * k + c.s.cs.length)) = (setT t c).cs) := by
      show _ = _
      unfold setT
      rw [if_pos ek]
      rcases (show k = 0 ∨ k = 1 by omega) with h | h
      · subst h
        rw [if_pos (by omega)]
        exact tset0 ht hc.s
      · subst h
        rw [if_neg (by omega)]
        exact tset1 ht hc.s
    rw [ek] at H0
    rw [hsl] at H1
    clear e h1 ek h1c hsl H2 H4 hc ht
    generalize (setT t c).cs = Z at *
    generalize t.cs = X at *
    generalize c.cs = Y at *
    generalize c.s.cs = S0 at *
    go_enter Tryz.func50, Tryz.ntmps50
    go_wp2_with (refine wpList_box 41 _ Y rfl rfl rfl ?_)
    intro w1 hA1 hb1 hs1
    have HR1 := hide (unhide HRG w1 _ hA1)
    have c0 := hA1.cell (unhide H0)
    have C1 := hide (hA1.cell (unhide H1))
    have HAb1 := hide ((unhide HAb).below hb1)
    have Hb1 := hide hb1
    clear hA1 hb1 HAb
    go_wp2_with fail
    refine Free.wp_region_tail 8 (fun j (v : Value) (_ : World) => v = (fun j => match j with | 0 => .pointer (some ⟨b, 0, none⟩) | 1 => .pointer (some ⟨w.heap.size, 1, none⟩) | 2 => .int .i64 (k : Int) | 3 => .pointer (some ⟨w.heap.size, 3, none⟩) | 4 => .agg S0.toArray | 5 => .pointer (some ⟨b, 0, none⟩) | 6 => .pointer (some ⟨b, 0, none⟩) | 7 => .pointer (some ⟨b, 36 * k, none⟩) | _ => undef) j) (fun w' => w' = w1.drew) (by kernel_rfl) (by decide) (by kernel_rfl) (by kernel_rfl) (by kernel_rfl) (fun _ _ _ _ h _ => h) rfl ⟨?_, ?_, ?_, ?_, ?_, ?_, ?_, ?_, trivial⟩ ?_
    · exact Free.owed_move (Free.goes_plain rfl) (.inl rfl) fun a w' _ hs _ => hs 0 (by kernel_rfl)
    · exact Free.owed_pure (Free.goes_plain rfl) fun a w' hC hs hd => ⟨_, op_f41_1 rfl (hs 3 (by kernel_rfl)) w', rfl⟩
    · exact Free.owed_pure (Free.goes_plain rfl) fun a w' hC hs hd => ⟨_, op_load3 rfl (hd 1 9 (by kernel_rfl)) (by rw [hC]; exact unhide C1), rfl⟩
    · exact Free.owed_pure (Free.goes_plain rfl) fun a w' hC hs hd => ⟨_, op_f41_3 rfl (hs 3 (by kernel_rfl)) w', rfl⟩
    · exact Free.owed_pure (Free.goes_plain rfl) fun a w' hC hs hd => ⟨_, op_loadV rfl (hd 3 11 (by kernel_rfl)) (by rw [hC]; exact unhide HR1) Tryz.underlying34 rfl (unhide HSI), rfl⟩
    · exact Free.owed_pure (Free.goes_plain rfl) fun a w' hC hs hd => ⟨_, op_nilT rfl (hd 0 8 (by kernel_rfl)) w', rfl⟩
    · exact Free.owed_pure (Free.goes_plain rfl) fun a w' hC hs hd => ⟨_, op_f37_0 rfl (hd 5 13 (by kernel_rfl)) w', rfl⟩
    · exact Free.owed_pure (Free.goes_plain rfl) fun a w' hC hs hd => ⟨_, op_idx35 rfl (hd 6 14 (by kernel_rfl)) (hd 2 10 (by kernel_rfl)) hk w', rfl⟩
    intro wd hwd vals hv
    subst hwd
    have e4 : vals 4 = .agg S0.toArray := hv 4 _ 12 rfl rfl
    have e7 : vals 7 = .pointer (some ⟨b, 36 * k, none⟩) := hv 7 _ 15 rfl rfl
    clear hv
    simp only [Free.putAll, List.take, List.drop, Act.put, List.setIfInBounds_toArray, List.set_cons_succ, List.set_cons_zero, e4, e7]
    clear e4 e7
    generalize vals 0 = y0
    generalize vals 1 = y1
    generalize vals 2 = y2
    generalize vals 3 = y3
    generalize vals 5 = y5
    generalize vals 6 = y6
    have HAd : Hid (Arr w1.drew b X) := hide ((unhide HAb1).drew)
    have Hbd : Hid (Below w.heap.size w w1.drew) := hide ((unhide Hb1).drew)
    clear c0
    generalize w1.drew = w2 at *
    go_wp2_with (refine wpList_storePart 34 _ _ b (36 * k) S0 X rfl rfl rfl rfl (unhide HAd) (by rw [unhide HSL, unhide HTL]; omega) (unhide HSI) (unhide HS1) ?_)
    intro w3 hA3 hg3 hs3
    rw [unhide HSET] at hA3
    have HA3 := hide hA3
    have HG3 := hide (grown_after (unhide Hbd) hg3)
    clear hA3 hg3
    go_wp2
    refine ⟨rfl, .tuple #[], by simp [results, Tryz.results50], ?_⟩
    exact ⟨rfl, unhide HA3, unhide HG3⟩
  · have HSET : Hid (t.cs.set 72 (.int .i64 c.n) = (setT t c).cs) := by
      show _ = _
      unfold setT
      rw [if_neg (by omega), if_pos ek]
      exact tset72 ht _
    have HC72 := hide (tget ht).1
    rw [ek] at H0
    clear e ek h1c H4 hc ht H1
    generalize (setT t c).cs = Z at *
    generalize t.cs = X at *
    generalize c.cs = Y at *
    generalize c.n = x at *
    go_enter Tryz.func50, Tryz.ntmps50
    go_wp2_with (refine wpList_box 41 _ Y rfl rfl rfl ?_)
    intro w1 hA1 hb1 hs1
    have c0 := hA1.cell (unhide H0)
    have c2 := hA1.cell (unhide H2)
    have HAb1 := hide ((unhide HAb).below hb1)
    have Hb1 := hide hb1
    have c72 := (unhide HAb1).cell (unhide HC72)
    have f72 := (unhide HAb1).free 72
    have HA3 := hide ((unhide HAb1).set 72 (.int .i64 x))
    rw [unhide HSET] at HA3
    have HG3 := hide (grown_after (unhide Hb1) (set_grown w1 b 72 (.int .i64 x)))
    clear hA1 hb1 HAb
    go_wp2
    refine ⟨rfl, .tuple #[], by simp [results, Tryz.results50], ?_⟩
    exact ⟨rfl, unhide HA3, unhide HG3⟩
  · have HSET : Hid (t.cs.set 73 (.int .i64 c.n) = (setT t c).cs) := by
      show _ = _
      unfold setT
      rw [if_neg (by omega), if_neg (by omega), if_pos ek]
      exact tset73 ht _
    have HC73 := hide (tget ht).2.1
    rw [ek] at H0
    clear e ek h1c H4 hc ht H1
    generalize (setT t c).cs = Z at *
    generalize t.cs = X at *
    generalize c.cs = Y at *
    generalize c.n = x at *
    go_enter Tryz.func50, Tryz.ntmps50
    go_wp2_with (refine wpList_box 41 _ Y rfl rfl rfl ?_)
    intro w1 hA1 hb1 hs1
    have c0 := hA1.cell (unhide H0)
    have c2 := hA1.cell (unhide H2)
    have HAb1 := hide ((unhide HAb).below hb1)
    have Hb1 := hide hb1
    have c73 := (unhide HAb1).cell (unhide HC73)
    have f73 := (unhide HAb1).free 73
    have HA3 := hide ((unhide HAb1).set 73 (.int .i64 x))
    rw [unhide HSET] at HA3
    have HG3 := hide (grown_after (unhide Hb1) (set_grown w1 b 73 (.int .i64 x)))
    clear hA1 hb1 HAb
    go_wp2
    refine ⟨rfl, .tuple #[], by simp [results, Tryz.results50], ?_⟩
    exact ⟨rfl, unhide HA3, unhide HG3⟩
  · have HSET : Hid (t.cs.set 74 (.int .u64 (c.ver : Int)) = (setT t c).cs) := by
      show _ = _
      unfold setT
      rw [if_neg (by omega), if_neg (by omega), if_neg (by omega)]
      exact tset74 ht _
    have HC74 := hide (tget ht).2.2
    rw [ek] at H0
    clear e ek h1c hc ht H1 H2
    generalize (setT t c).cs = Z at *
    generalize t.cs = X at *
    generalize c.cs = Y at *
    generalize c.ver = x at *
    go_enter Tryz.func50, Tryz.ntmps50
    go_wp2_with (refine wpList_box 41 _ Y rfl rfl rfl ?_)
    intro w1 hA1 hb1 hs1
    have c0 := hA1.cell (unhide H0)
    have c2 := hA1.cell (unhide H4)
    have HAb1 := hide ((unhide HAb).below hb1)
    have Hb1 := hide hb1
    have c74 := (unhide HAb1).cell (unhide HC74)
    have f74 := (unhide HAb1).free 74
    have HA3 := hide ((unhide HAb1).set 74 (.int .u64 (x : Int)))
    rw [unhide HSET] at HA3
    have HG3 := hide (grown_after (unhide Hb1) (set_grown w1 b 74 (.int .u64 (x : Int))))
    clear hA1 hb1 HAb
    go_wp2
    refine ⟨rfl, .tuple #[], by simp [results, Tryz.results50], ?_⟩
    exact ⟨rfl, unhide HA3, unhide HG3⟩

theorem foldT_app : ∀ (a b : List C) (t : T), foldT t (a ++ b) = (foldT t a).bind fun u => foldT u b
  | [], b, t => rfl
  | c :: a, b, t => by
    rw [List.cons_append, foldT, foldT]
    split
    · rfl
    · exact foldT_app a b _
theorem foldT_step {l : List C} {k : Nat} (hk : k < l.length) {t u : T} (h : foldT t (l.take k) = some u) : (lowC u (l.getD k zeroC) = false → foldT t (l.take (k + 1)) = some (setT u (l.getD k zeroC))) ∧ (lowC u (l.getD k zeroC) = true → foldT t l = none) := by
  have e : l.take (k + 1) = l.take k ++ [l.getD k zeroC] := take_snoc zeroC l k hk
  constructor
  · intro hl
    rw [e, foldT_app, h]
    show foldT u [l.getD k zeroC] = _
    rw [foldT, if_neg (by rw [hl]; simp)]
    rfl
  · intro hl
    have e2 : l = l.take k ++ (l.getD k zeroC :: l.drop (k + 1)) := by
      have h1 := (List.take_append_drop k l).symm
      rw [List.drop_eq_getElem_cons hk] at h1
      rw [List.getD_eq_getElem?_getD, List.getElem?_eq_getElem hk]
      exact h1
    rw [e2, foldT_app, h]
    show foldT u (l.getD k zeroC :: l.drop (k + 1)) = none
    rw [foldT, if_pos hl]

set_option maxHeartbeats 3200000 in
set_option maxRecDepth 100000 in
theorem apply_walk (N : Nat) (v : Value) (t : T) (ht : FitT t) (l : List C) (w : World) (hN : N ≤ w.heap.size) (hr : CRowV N w v l) :
    Calls Tryz.prog 14 #[t.v, v] w fun e w' => e = .returned (.tuple #[(applyT t l).1.v, .int .i64 (applyT t l).2]) ∧ Below w.heap.size w w' := by
  have HR0 := hide hr
  have HNw := hide hN
  have HTL := hide (tcs_length ht)
  have HTI := hide (info37t ht)
  have HT1 := hide (tcs_one t)
  have HRT := hide (rightT_walk t ht)
  have HAL := hide alloc37
  have HALC := hide alloc41
  have HB0 := hide built37
  have HZI := hide (info37t zeroT_fit)
  have HZL := hide (tcs_length zeroT_fit)
  have HZ1 := hide (tcs_one zeroT)
  have HFT := hide ht
  have Hno : Hid (rightT t = false ∨ allC l = false → applyT t l = (zeroT, 111)) := hide fun h => by
    unfold applyT
    rw [if_neg (by rcases h with h | h <;> rw [h] <;> simp)]
  have Hyes : Hid (rightT t = true → allC l = true → applyT t l = resT (foldT t l)) := hide fun h1 h2 => by
    unfold applyT
    rw [if_pos ⟨h1, h2⟩]
  unfold T.v at HRT ⊢
  clear hr hN ht
  obtain ⟨R, hR⟩ : ∃ R, R = applyT t l := ⟨_, rfl⟩
  rw [← hR] at Hno Hyes ⊢
  clear hR
  obtain ⟨X, hX⟩ : ∃ X, X = t.cs := ⟨_, rfl⟩
  have HX := hide hX
  obtain ⟨Z, hZ⟩ : ∃ Z, Z = zeroT.cs := ⟨_, rfl⟩
  have HZ := hide hZ
  rw [← hX] at HTL HTI HT1 HRT ⊢
  rw [← hZ] at HZI HZL HZ1 HB0 HAL
  clear hX hZ
  go_enter Tryz.func14, Tryz.ntmps14
  go_wp2_with (refine wpList_box 37 _ X rfl rfl rfl ?_)
  intro w1 hA1 hb1 hs1
  have HA1 := hide hA1
  have Hb1 := hide hb1
  clear hA1 hb1
  go_wp2_with (refine wpList_alloc 37 37 Z rfl rfl (unhide HAL) ?_)
  intro w2 hA2 hb2 hs2
  have HA2 := hide hA2
  have HA12 := hide ((unhide HA1).keep hb2 (by omega))
  have Hb12 := hide ((unhide Hb1).trans (hb2.mono (by omega)))
  clear hA2 hb2 HA1 Hb1
  go_wp2_with (refine wpList_loadAll 37 _ w.heap.size X _ rfl rfl rfl (unhide HA12) Tryz.underlying37 rfl (unhide HTI) ?_)
  refine (unhide HRT w2).mono ?_
  rintro e w3 ⟨rfl, hb3⟩
  have HA3 := hide ((unhide HA12).below hb3)
  have HZ3 := hide ((unhide HA2).below hb3)
  have Hb3 := hide ((unhide Hb12).trans (hb3.mono (unhide Hb12).size))
  have hsz3 : w.heap.size + 2 ≤ w3.heap.size := by have := hb3.size; omega
  clear hb3 HA12 HA2 Hb12 HRT
  cases hrt : rightT t with
  | false =>
    rw [hrt] at Hno
    have HNO : Hid (R = (zeroT, 111)) := hide (unhide Hno (.inl rfl))
    go_wp2_with (first
      | refine wpList_build 37 _ Z [] rfl rfl rfl (unhide HB0) ?_
      | refine wpList_storeAll 37 _ _ (w.heap.size + 1) Z Z rfl rfl rfl rfl (unhide HZ3) rfl (unhide HZI) (unhide HZ1) ?_)
    intro w4 hA4 hg4 hs4
    have HA4 := hide hA4
    have Hb4 := hide ((unhide Hb3).grown hg4 (unhide Hb3).size (fun k hk => by simp at hk; omega))
    clear hA4 hg4
    go_wp2
    refine bodyPost_ret (v := .tuple #[.agg Z.toArray, .int .i64 111]) ?_ rfl ⟨?_, unhide Hb4⟩
    · exact results_two Tryz.results14 rfl rfl (unhide HA4) Tryz.underlying37 rfl (unhide HZI)
    · rw [unhide HNO, unhide HZ]
  | true =>
    rw [hrt] at Hyes
    have HIT := hide (isTrans_walk w.heap.size v l w3 (unhide Hb3).size (((unhide HR0).up (unhide HNw)).below (unhide Hb3)))
    go_wp2_with fail
    refine (unhide HIT).mono ?_
    rintro e w4 ⟨rfl, hb4⟩
    have HA4 := hide ((unhide HA3).below hb4)
    have HZ4 := hide ((unhide HZ3).below hb4)
    have Hb4 := hide ((unhide Hb3).trans (hb4.mono (unhide Hb3).size))
    have hsz4 : w.heap.size + 2 ≤ w4.heap.size := by have := hb4.size; omega
    clear hb4 HA3 HZ3 Hb3 HIT
    cases hal : allC l with
    | false =>
      rw [hal] at Hno
      have HNO : Hid (R = (zeroT, 111)) := hide (unhide Hno (.inr rfl))
      go_wp2_with (first
        | refine wpList_build 37 _ Z [] rfl rfl rfl (unhide HB0) ?_
        | refine wpList_storeAll 37 _ _ (w.heap.size + 1) Z Z rfl rfl rfl rfl (unhide HZ4) rfl (unhide HZI) (unhide HZ1) ?_)
      intro w5 hA5 hg5 hs5
      have HA5 := hide hA5
      have Hb5 := hide ((unhide Hb4).grown hg5 (unhide Hb4).size (fun k hk => by simp at hk; omega))
      clear hA5 hg5
      go_wp2
      refine bodyPost_ret (v := .tuple #[.agg Z.toArray, .int .i64 111]) ?_ rfl ⟨?_, unhide Hb5⟩
      · exact results_two Tryz.results14 rfl rfl (unhide HA5) Tryz.underlying37 rfl (unhide HZI)
      · rw [unhide HNO, unhide HZ]
    | true =>
      have HY : Hid (R = resT (foldT t l)) := hide (unhide Hyes trivial hal)
      have HONE := hide (allC_iff.1 hal)
      clear hal hrt Hno Hyes
      go_wp2_with (first
        | refine wpList_loadAll 37 _ w.heap.size X _ rfl rfl rfl (unhide HA4) Tryz.underlying37 rfl (unhide HTI) ?_
        | refine wpList_alloc 37 37 Z rfl rfl (unhide HAL) ?_)
      intro w5 hA5 hb5 hs5
      have HA5 := hide hA5
      have HZ5 := hide ((unhide HZ4).below hb5)
      have Hb5 := hide ((unhide Hb4).trans (hb5.mono (unhide Hb4).size))
      clear hA5 hb5 HA4 HZ4 Hb4
      generalize w4.heap.size = m at *
      go_wp2_with (refine wpList_storeAll 37 _ _ m X Z rfl rfl rfl rfl (unhide HA5) (by rw [unhide HZL, unhide HTL]) (unhide HTI) (unhide HT1) ?_)
      intro w6 hA6 hg6 hs6
      have HA6 := hide hA6
      have HZ6 := hide ((unhide HZ5).grown hg6 (by simp; omega))
      have Hb6 := hide ((unhide Hb5).grown hg6 (unhide Hb5).size (fun k hk => by simp at hk; omega))
      clear hA6 hg6 HA5 HZ5 Hb5
      obtain ⟨a, len, cap, rfl, q1, q2, q3, hrow⟩ := unhide HR0
      have HROW := hide (hrow.up (unhide HNw))
      have HLEN := hide hrow.1
      have HFC := hide hrow.2.1
      clear hrow HR0
      have HAX : Hid (Arr w6 m t.cs) := hide (by rw [← unhide HX]; exact unhide HA6)
      clear HA6
      have h8 : len ≤ 8 := by have := (unhide HONE).1; have := unhide HLEN; omega
      go_wp2_with fail
      go_loopw [21] (fun ci wr => ∃ k : Nat, ∃ u : T, k ≤ len ∧ ci = .int .i64 (k : Int) ∧ foldT t (l.take k) = some u ∧ FitT u ∧ Arr wr m u.cs ∧ Arr wr (w.heap.size + 1) Z ∧ Below w.heap.size w wr) (fun ci _ => len - (intOf ci).toNat)
      case atStart => exact ⟨0, t, by omega, rfl, rfl, unhide HFT, unhide HAX, unhide HZ6, unhide Hb6⟩
      case round =>
        obtain ⟨k, u, hk, rfl, hfold, hfu, hAu, hAz, hb⟩ := hrel
        have hszr := hb.size
        have hmr := hAu.lt
        by_cases hlt : k < len
        · obtain ⟨b, off, rfl, hbN, hrange⟩ := ((unhide HROW).below hb).2.2 k hlt
          have hkl : k < l.length := by rw [unhide HLEN]; exact hlt
          have hmem := getD_memC hkl
          obtain ⟨hlo, hhi⟩ := foldT_step hkl hfold
          generalize l.getD k zeroC = c at *
          have hfc := unhide HFC c hmem
          have hone := (unhide HONE).2 c hmem
          have HLO := hide hlo
          have HHI := hide hhi
          have HNk := hide (info41c hfc)
          have HLk := hide (ccs_length hfc)
          have H1 := hide (ccs_one c)
          have HRG := hide hrange
          have Hb2 := hide hb
          have HAu := hide hAu
          have HAz := hide hAz
          have HSF := hide (setT_fit hfu hfc)
          have HCW : Hid (∀ w : World, Arr w m u.cs → Calls Tryz.prog 50 #[.pointer (some ⟨m, 0, none⟩), .agg c.cs.toArray] w fun e w' => e = .returned (.tuple #[]) ∧ Arr w' m (setT u c).cs ∧ w.grownBy w' (some m)) := hide fun w h => change_walk u hfu c hfc hone m w h
          have H0c : Hid (c.cs[0]? = some (.int .i64 c.k)) := hide rfl
          have H4c := hide (cget hfc)
          have HU := hide (tget hfu).2.2
          have Hlow : Hid (lowC u c = (decide (c.k = 4) && decide ((c.ver : Int) < (u.flo : Int)))) := by
            show _ = _
            unfold lowC
            rw [Bool.eq_iff_iff]
            simp
          clear hfold hfu hAu hAz hb hrange hmem hlo hhi hfc hone hbN
          generalize setT u c = u2 at *
          generalize lowC u c = lo at *
          generalize c.cs = Y at *
          generalize u.cs = U at *
          generalize c.k = ck at *
          generalize c.ver = cv at *
          generalize u.flo = uf at *
          generalize (cv : Int) = ci at *
          generalize (uf : Int) = ui at *
          go_wp2_with (first
            | refine wpList_loadPart 41 _ b (off + k * 40) Y _ rfl rfl rfl (unhide HRG) Tryz.underlying41 rfl (unhide HNk) ?_
            | refine wpList_alloc 41 41 zeroC.cs rfl rfl (unhide HALC) ?_)
          intro w7 hA7 hb7 hs7
          have HA7 := hide hA7
          have HAu7 := hide ((unhide HAu).below hb7)
          have HAz7 := hide ((unhide HAz).below hb7)
          have Hb7 := hide ((unhide Hb2).trans (hb7.mono (unhide Hb2).size))
          clear hA7 hb7 HAu HAz Hb2 HRG
          generalize wr.heap.size = mb at *
          go_wp2_with (refine wpList_storeAll 41 _ _ mb Y zeroC.cs rfl rfl rfl rfl (unhide HA7) (by rw [unhide HLk]; rfl) (unhide HNk) (unhide H1) ?_)
          intro w8 hA8 hg8 hs8
          have HA8 := hide hA8
          have c0 := hA8.cell (unhide H0c)
          have c4 := hA8.cell (unhide H4c)
          have hau := (unhide HAu7).grown hg8 (by simp; omega)
          have c74 := hau.cell (unhide HU)
          have HAu8 := hide hau
          have HAz8 := hide ((unhide HAz7).grown hg8 (by simp; omega))
          have Hb8 := hide ((unhide Hb7).grown hg8 (unhide Hb7).size (fun k hk => by simp at hk; omega))
          have hsz8 : w.heap.size + 2 ≤ w8.heap.size := by omega
          clear hA8 hg8 hau HAu7 HAz7 Hb7 HA7
          have hcase : (lo = true ∧ (ck == 4) = true ∧ decide (ci < ui) = true) ∨ (lo = false ∧ ((ck == 4) = false ∨ (ck == 4) = true ∧ decide (ci < ui) = false)) := by
            rw [unhide Hlow]
            by_cases h1 : ck = 4 <;> by_cases h2 : ci < ui <;> simp [h1, h2]
          rcases hcase with ⟨hlo, h1, h2⟩ | ⟨hlo, h1⟩
          · have HNO : Hid (R = (zeroT, 111)) := by
              show _ = _
              rw [unhide HY, unhide HHI hlo]
              rfl
            clear hlo
            go_wp2_with (first
              | refine wpList_build 37 _ Z [] rfl rfl rfl (unhide HB0) ?_
              | refine wpList_storeAll 37 _ _ (w.heap.size + 1) Z Z rfl rfl rfl rfl (unhide HAz8) rfl (unhide HZI) (unhide HZ1) ?_)
            intro w9 hA9 hg9 hs9
            have HA9 := hide hA9
            have Hb9 := hide ((unhide Hb8).grown hg9 (unhide Hb8).size (fun k hk => by simp at hk; omega))
            clear hA9 hg9
            go_wp2
            refine bodyPost_ret (v := .tuple #[.agg Z.toArray, .int .i64 111]) ?_ rfl ⟨?_, unhide Hb9⟩
            · exact results_two Tryz.results14 rfl rfl (unhide HA9) Tryz.underlying37 rfl (unhide HZI)
            · rw [unhide HNO, unhide HZ]
          · have HF2 := hide (unhide HLO hlo)
            clear hlo
            rcases h1 with h1 | ⟨h1, h2⟩
            all_goals
              go_wp2_with (refine wpList_loadAll 41 _ mb Y _ rfl rfl rfl (unhide HA8) Tryz.underlying41 rfl (unhide HNk) ?_)
              refine (unhide HCW w8 (unhide HAu8)).mono ?_
              rintro e w9 ⟨rfl, hA9, hg9⟩
              have HA9 := hide hA9
              have HAz9 := hide ((unhide HAz8).grown hg9 (by simp; omega))
              have Hb9 := hide ((unhide Hb8).grown hg9 (unhide Hb8).size (fun k hk => by simp at hk; omega))
              clear hA9 hg9 HAz8 Hb8
              go_wp2
              go_roundw
              case rel => exact ⟨k + 1, u2, by omega, by simp, unhide HF2, unhide HSF, unhide HA9, unhide HAz9, unhide Hb9⟩
              case measure => simp [intOf]; omega
        · obtain rfl : k = len := by omega
          have HRES : Hid (R = (u, 0)) := by
            show _ = _
            rw [unhide HY]
            rw [List.take_of_length_le (by rw [unhide HLEN]; exact Nat.le_refl _)] at hfold
            rw [hfold]
            rfl
          have HUL := hide (tcs_length hfu)
          have HUI := hide (info37t hfu)
          have HU1 := hide (tcs_one u)
          have HAu := hide hAu
          have HAz := hide hAz
          have Hb2 := hide hb
          obtain ⟨U, hU⟩ : ∃ U, U = u.cs := ⟨_, rfl⟩
          rw [← hU] at HUL HUI HU1 HAu
          have HUE := hide hU
          clear hU hfold hfu hAu hAz hb
          go_wp2_with (first
            | refine wpList_loadAll 37 _ m U _ rfl rfl rfl (unhide HAu) Tryz.underlying37 rfl (unhide HUI) ?_
            | refine wpList_storeAll 37 _ _ (w.heap.size + 1) U Z rfl rfl rfl rfl (unhide HAz) (by rw [unhide HZL, unhide HUL]) (unhide HUI) (unhide HU1) ?_)
          intro w9 hA9 hg9 hs9
          have HA9 := hide hA9
          have Hb9 := hide ((unhide Hb2).grown hg9 (unhide Hb2).size (fun k hk => by simp at hk; omega))
          clear hA9 hg9
          go_wp2
          refine bodyPost_ret (v := .tuple #[.agg U.toArray, .int .i64 0]) ?_ rfl ⟨?_, unhide Hb9⟩
          · exact results_two Tryz.results14 rfl rfl (unhide HA9) Tryz.underlying37 rfl (unhide HUI)
          · rw [unhide HRES, unhide HUE]
end Go.Proofs.YtdfdalkcljfghaaGreat.Slot
