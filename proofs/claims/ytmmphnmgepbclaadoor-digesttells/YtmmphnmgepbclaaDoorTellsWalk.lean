/-
  DigestTells returns true, whatever the slices.
-/
import Derived.Test.YtmmphnmgepbclaaDoorEq
import Derived.Test.YtmmphnmgepbclaaDoorRefWalk
import Derived.WalkSpells
import Derived.WalkLawsBesides
namespace Go.Proofs.YtmmphnmgepbclaaDoor.digestTells
open Go.RowKit

theorem run_min (c : Int) (l : Nat) (w : World) : (Builtin.min_ #[3, 3] 3 #[.int .i64 c, .int .i64 (l : Int)]).run Tryd.prog w = .ok (.int .i64 (min c (l : Int))) w := by
  simp [Builtin.min_, Builtin.min2]
  split <;> omega

theorem run_max (n : Nat) (m : Int) (w : World) : (Builtin.max_ #[3, 3] 3 #[.int .i64 (n : Int), .int .i64 m]).run Tryd.prog w = .ok (.int .i64 ((max n m.toNat : Nat) : Int)) w := by
  simp [Builtin.max_, Builtin.max2]
  split <;> omega

/-- What is left of a slice behind its first q elements, wherever it is said to begin. -/
theorem rest_ok {w : World} {a' : Option Addr} {l c q : Nat} {y : List (BitVec 8)} (h : Row w a' l y) (hlc : l ≤ c) (hq : q ≤ l) : ∀ a2 : Option Addr, (c = q ∨ a2 = a'.map fun x => x.add q) → Row w a2 (l - q) (y.drop q) := by
  intro a2 ha
  by_cases hc : c = q
  · have : l - q = 0 := by omega
    rw [this, List.drop_of_length_le (by have := h.1; omega)]
    exact Row.nil _ _
  · rcases ha with ha | ha
    · exact absurd ha hc
    · have := Row.drop h hlc q hq
      rw [if_neg hc] at this
      rw [ha]; exact this

/-- The cuts lie there. -/
def Cuts (w : World) (a : Option Addr) (n : Nat) (zs : List Int) : Prop := ∀ i, i < n → ∃ b off, a = some ⟨b, off, none⟩ ∧ w.cell? ⟨b, off + i, none⟩ = some (.int .i64 (zs.getD i 0))

theorem cuts_of {w : World} {a : Option Addr} {len cap : Nat} {zs : List Int} (h : IsRow .i64 w a len cap zs) : Cuts w a len zs := by
  rcases h with ⟨rfl, rfl, rfl, rfl⟩ | ⟨x, rfl, hlc, _, hz, hcell, hwz⟩
  · exact fun i hi => by omega
  · intro i hi
    have hc0 := hcell 0 (by omega)
    obtain ⟨b, off, spot⟩ := x
    have hspot : spot = none := by simpa [Addr.add] using World.cell?_spot hc0
    subst hspot
    have hc := hcell i (by omega)
    refine ⟨b, off, rfl, ?_⟩
    rw [← hc, Addr.add_mid]

theorem nil_of {w : World} {k : IntKind} {a : Option Addr} {len cap : Nat} {zs : List Int} (h : IsRow k w a len cap zs) : a = none → cap = 0 := by
  rcases h with ⟨_, _, rfl, _⟩ | ⟨x, rfl, _⟩
  · exact fun _ => rfl
  · exact fun h => by cases h

theorem run_build1 {ρ : Operand → Value} {o : Oper} {t : Nat} {aa : Option Addr} {ll cc : Nat} (ho : o.op = .buildSlice 57 1 #[(0, .tmp t)]) (h : ρ (.tmp t) = .slice aa ll cc) (w : World) :
    (execOp ρ o).run Tryd.prog w = .ok (.value (.slice (some ⟨w.heap.size, 0, none⟩) 1 1)) (w.alloc (.cells #[.slice aa ll cc] 22)) := by
  unfold execOp
  rw [ho]
  go_simp
theorem run_build2 {ρ : Operand → Value} {o : Oper} {t u : Nat} {aa ab : Option Addr} {ll cc lb cb : Nat} (ho : o.op = .buildSlice 57 2 #[(0, .tmp t), (1, .tmp u)]) (h : ρ (.tmp t) = .slice aa ll cc) (h' : ρ (.tmp u) = .slice ab lb cb) (w : World) :
    (execOp ρ o).run Tryd.prog w = .ok (.value (.slice (some ⟨w.heap.size, 0, none⟩) 2 2)) (w.alloc (.cells #[.slice aa ll cc, .slice ab lb cb] 22)) := by
  unfold execOp
  rw [ho]
  go_simp
theorem run_call8 {ρ : Operand → Value} {o : Oper} {t : Nat} {v : Value} (ho : o.op = .call { callee := .value (.func 8), args := #[.tmp t], argTypes := #[22] }) (hf : ρ (.func 8) = .func (.func 8) #[] #[]) (h : ρ (.tmp t) = v) (w : World) :
    (execOp ρ o).run Tryd.prog w = .ok (.enter 8 #[v]) w := by
  unfold execOp
  rw [ho]
  go_simp
theorem run_call11 {ρ : Operand → Value} {o : Oper} {t : Nat} {v : Value} (ho : o.op = .call { callee := .value (.func 11), args := #[.tmp t], argTypes := #[28] }) (hf : ρ (.func 11) = .func (.func 11) #[] #[]) (h : ρ (.tmp t) = v) (w : World) :
    (execOp ρ o).run Tryd.prog w = .ok (.enter 11 #[v]) w := by
  unfold execOp
  rw [ho]
  go_simp
theorem run_call12 {ρ : Operand → Value} {o : Oper} {t : Nat} {v : Value} (ho : o.op = .call { callee := .value (.func 12), args := #[.tmp t], argTypes := #[28] }) (hf : ρ (.func 12) = .func (.func 12) #[] #[]) (h : ρ (.tmp t) = v) (w : World) :
    (execOp ρ o).run Tryd.prog w = .ok (.enter 12 #[v]) w := by
  unfold execOp
  rw [ho]
  go_simp
theorem run_call13 {ρ : Operand → Value} {o : Oper} {t : Nat} {v : Value} (ho : o.op = .call { callee := .value (.func 13), args := #[.tmp t], argTypes := #[57] }) (hf : ρ (.func 13) = .func (.func 13) #[] #[]) (h : ρ (.tmp t) = v) (w : World) :
    (execOp ρ o).run Tryd.prog w = .ok (.enter 13 #[v]) w := by
  unfold execOp
  rw [ho]
  go_simp
theorem run_first {ρ : Operand → Value} {o : Oper} {t u : Nat} {aa : Option Addr} {ll cc k : Nat} (ho : o.op = .slice 22 (.tmp t) none (some (.tmp u)) none) (h : ρ (.tmp t) = .slice aa ll cc) (h' : ρ (.tmp u) = .int .i64 (k : Int)) (hk : (k : Int) ≤ (cc : Int)) (hk0 : (0 : Int) ≤ (k : Int)) (w : World) :
    (execOp ρ o).run Tryd.prog w = .ok (.value (.slice aa k cc)) w := by
  unfold execOp
  rw [ho]
  go_simp
theorem run_from {ρ : Operand → Value} {o : Oper} {t u : Nat} {aa : Option Addr} {ll cc k : Nat} (ho : o.op = .slice 22 (.tmp t) (some (.tmp u)) none none) (h : ρ (.tmp t) = .slice aa ll cc) (h' : ρ (.tmp u) = .int .i64 (k : Int)) (hk : (k : Int) ≤ (ll : Int)) (hk0 : (0 : Int) ≤ (k : Int)) (w : World) :
    (execOp ρ o).run Tryd.prog w = .ok (.value (.slice (if cc = k then aa else aa.map fun x => x.add k) (ll - k) (cc - k))) w := by
  unfold execOp
  rw [ho]
  go_simp
theorem run_pick {ρ : Operand → Value} {o : Oper} {t u : Nat} {v : Value} {x : Operand} (ho : o.op = .pick (.tmp t) (.tmp u) x) (h : ρ (.tmp t) = .bool true) (h' : ρ (.tmp u) = v) (w : World) :
    (execOp ρ o).run Tryd.prog w = .ok (.value v) w := by
  unfold execOp
  rw [ho]
  go_simp
theorem run_pickF {ρ : Operand → Value} {o : Oper} {t u : Nat} {v : Value} {x : Operand} (ho : o.op = .pick (.tmp t) x (.tmp u)) (h : ρ (.tmp t) = .bool false) (h' : ρ (.tmp u) = v) (w : World) :
    (execOp ρ o).run Tryd.prog w = .ok (.value v) w := by
  unfold execOp
  rw [ho]
  go_simp
theorem run_load26 {ρ : Operand → Value} {o : Oper} {x : Operand} {b : Nat} {cs : List Value} {w : World} (ho : o.op = .load 26 x) (h : ρ x = .pointer (some ⟨b, 0, none⟩)) (hc : w.rangeAt b 0 cs) (hl : cs.length = 32) :
    (execOp ρ o).run Tryd.prog w = .ok (.value (.agg cs.toArray)) w := by
  have hr := run_loadAt_mid (P := Tryd.prog) w b 0 26 cs _ hc Tryd.underlying26 rfl (by rw [hl]; exact info26)
  unfold execOp
  simp only [ho, h, Sem.run_bind, hr, Result.andThen, Sem.run_pure]
theorem run_eql26 {ρ : Operand → Value} {o : Oper} {x y : Operand} {S : List (BitVec 8)} (hS : S.length = 32) (ho : o.op = .binOp .eql 26 x y 26) (h : ρ x = .agg (bytesV S).toArray) (h' : ρ y = .agg (bytesV S).toArray) (w : World) :
    (execOp ρ o).run Tryd.prog w = .ok (.value (.bool true)) w := by
  have hE := run_equal26 S S hS hS w
  unfold execOp
  rw [ho]
  go_simp
theorem run_neq26 {ρ : Operand → Value} {o : Oper} {x y : Operand} {S : List (BitVec 8)} (hS : S.length = 32) (ho : o.op = .binOp .neq 26 x y 26) (h : ρ x = .agg (bytesV S).toArray) (h' : ρ y = .agg (bytesV S).toArray) (w : World) :
    (execOp ρ o).run Tryd.prog w = .ok (.value (.bool false)) w := by
  have hE := run_equal26 S S hS hS w
  unfold execOp
  rw [ho]
  go_simp
theorem run_conv {ρ : Operand → Value} {o : Oper} {x : Operand} {n : Nat} (hn : n ≤ 1500) (ho : o.op = .convert 3 32 x) (h : ρ x = .int .i64 (n : Int)) (w : World) :
    (execOp ρ o).run Tryd.prog w = .ok (.value (.int .u64 (n : Int))) w := by
  have hw : IntKind.u64.wrap (n : Int) = n := by simp [IntKind.wrap, IntKind.bits, IntKind.signed]; omega
  unfold execOp
  rw [ho]
  go_simp
theorem run_neq32 {ρ : Operand → Value} {o : Oper} {x y : Operand} {n : Nat} (ho : o.op = .binOp .neq 32 x y 32) (h : ρ x = .int .u64 (n : Int)) (h' : ρ y = .int .u64 (n : Int)) (w : World) :
    (execOp ρ o).run Tryd.prog w = .ok (.value (.bool false)) w := by
  unfold execOp
  rw [ho]
  go_simp

theorem sum_one (b : Nat) (s : Sl) (w : World) (hT : Tabs w) (hcell : w.cell? ⟨b, 0, none⟩ = some (.slice s.a s.len s.cap)) (h : s.Ok w) (hl : s.len ≤ 1500) :
    Calls Tryd.prog 13 #[.slice (some ⟨b, 0, none⟩) 1 1] w fun e w' => e = .returned (.agg (bytesV (Sha.sum s.bs)).toArray) ∧ Below w.heap.size w w' := by
  have hp : Parts w (some ⟨b, 0, none⟩) 1 [s.bs] := ⟨rfl, by decide, fun i hi => by
    obtain rfl : i = 0 := by omega
    exact ⟨b, 0, s.a, s.len, s.cap, rfl, hcell, h.1⟩⟩
  have hf : Fits w (some ⟨b, 0, none⟩) 1 := by
    intro i hi b' off ai li ci hb hc
    obtain rfl : i = 0 := by omega
    cases hb
    rw [show (0 + 0 : Nat) = 0 from rfl, hcell] at hc
    cases hc
    exact h.2
  have h := sum_any (some ⟨b, 0, none⟩) 1 1 [s.bs] w hT hp hf (by simp [h.1.1]; omega)
  simpa using h

theorem sum_two (b : Nat) (s t : Sl) (w : World) (hT : Tabs w) (hcell : w.cell? ⟨b, 0, none⟩ = some (.slice s.a s.len s.cap)) (hcell' : w.cell? ⟨b, 1, none⟩ = some (.slice t.a t.len t.cap)) (h : s.Ok w) (h' : t.Ok w) (hl : s.len + t.len ≤ 1500) :
    Calls Tryd.prog 13 #[.slice (some ⟨b, 0, none⟩) 2 2] w fun e w' => e = .returned (.agg (bytesV (Sha.sum (s.bs ++ t.bs))).toArray) ∧ Below w.heap.size w w' := by
  have hp : Parts w (some ⟨b, 0, none⟩) 2 [s.bs, t.bs] := ⟨rfl, by decide, fun i hi => by
    match i, hi with
    | 0, _ => exact ⟨b, 0, s.a, s.len, s.cap, rfl, hcell, h.1⟩
    | 1, _ => exact ⟨b, 0, t.a, t.len, t.cap, rfl, hcell', h'.1⟩⟩
  have hf : Fits w (some ⟨b, 0, none⟩) 2 := by
    intro i hi b' off ai li ci hb hc
    cases hb
    match i, hi with
    | 0, _ =>
      rw [show (0 + 0 : Nat) = 0 from rfl, hcell] at hc
      cases hc
      exact h.2
    | 1, _ =>
      rw [show (0 + 1 : Nat) = 1 from rfl, hcell'] at hc
      cases hc
      exact h'.2
  have h := sum_any (some ⟨b, 0, none⟩) 2 2 [s.bs, t.bs] w hT hp hf (by simp [h.1.1, h'.1.1]; omega)
  simpa using h

/-- What the operations of the question in the loop yield. -/
def V14 (d : Nat) (a0 : Option Addr) (len0 cap0 q : Nat) (S : List (BitVec 8)) : Nat → Value → World → Prop
  | 0, v, _ => v = .pointer (some ⟨d, 0, none⟩)
  | 1, v, _ => v = .agg (bytesV S).toArray
  | 2, v, _ => v = .slice a0 len0 cap0
  | 3, v, _ => v = .int .i64 (q : Int)
  | 4, v, _ => v = .slice a0 q cap0
  | 5, v, _ => v = .agg (bytesV S).toArray
  | 6, v, _ => v = .bool false
  | 7, v, _ => v = .bool false
  | 8, v, _ => v = .pointer (some ⟨d, 0, none⟩)
  | 9, v, _ => v = .int .u64 (q : Int)
  | 10, v, _ => v = .int .i64 (q : Int)
  | 11, v, _ => v = .int .u64 (q : Int)
  | 12, v, _ => v = .bool false
  | 13, v, _ => v = .bool false
  | _, _, _ => True

theorem V14.stable {d : Nat} {a0 : Option Addr} {len0 cap0 q : Nat} {S : List (BitVec 8)} (j : Nat) (v : Value) (w w' : World) (h : V14 d a0 len0 cap0 q S j v w) (_ : Below w.heap.size w w') : V14 d a0 len0 cap0 q S j v w' := by
  unfold V14 at *
  split at h
  all_goals exact h

/-- What the operations of the last question yield. -/
def V18 (d : Nat) (a0 : Option Addr) (len0 cap0 n : Nat) (S : List (BitVec 8)) : Nat → Value → World → Prop
  | 0, v, _ => v = .pointer (some ⟨d, 0, none⟩)
  | 1, v, _ => v = .agg (bytesV S).toArray
  | 2, v, _ => v = .agg (bytesV S).toArray
  | 3, v, _ => v = .bool true
  | 4, v, _ => v = .bool true
  | 5, v, _ => v = .slice a0 len0 cap0
  | 6, v, w => ∃ b, v = .slice (some ⟨b, 0, none⟩) 1 1 ∧ w.cell? ⟨b, 0, none⟩ = some (.slice a0 len0 cap0)
  | 7, v, _ => v = .agg (bytesV S).toArray
  | 8, v, _ => v = .agg (bytesV S).toArray
  | 9, v, _ => v = .bool true
  | 10, v, _ => v = .bool true
  | 11, v, _ => v = .bool true
  | 12, v, _ => v = .slice a0 len0 cap0
  | 13, v, _ => v = .int .i64 (n : Int)
  | 14, v, _ => v = .slice a0 n cap0
  | 15, v, _ => v = .slice a0 len0 cap0
  | 16, v, _ => v = .int .i64 (n : Int)
  | 17, v, _ => v = .slice (if cap0 = n then a0 else a0.map fun x => x.add n) (len0 - n) (cap0 - n)
  | 18, v, w => ∃ b, v = .slice (some ⟨b, 0, none⟩) 2 2 ∧ w.cell? ⟨b, 0, none⟩ = some (.slice a0 n cap0) ∧ w.cell? ⟨b, 1, none⟩ = some (.slice (if cap0 = n then a0 else a0.map fun x => x.add n) (len0 - n) (cap0 - n))
  | 19, v, _ => v = .agg (bytesV S).toArray
  | 20, v, _ => v = .agg (bytesV S).toArray
  | 21, v, _ => v = .bool true
  | 22, v, _ => v = .bool true
  | 23, v, _ => v = .bool true
  | _, _, _ => True

theorem V18.stable {d : Nat} {a0 : Option Addr} {len0 cap0 n : Nat} {S : List (BitVec 8)} (j : Nat) (v : Value) (w w' : World) (h : V18 d a0 len0 cap0 n S j v w) (hb : Below w.heap.size w w') : V18 d a0 len0 cap0 n S j v w' := by
  unfold V18 at *
  split at h
  all_goals first | exact h | skip
  all_goals obtain ⟨b, hv, hc⟩ := h
  all_goals first | exact ⟨b, hv, kept_cell hc hb⟩ | exact ⟨b, hv, kept_cell hc.1 hb, kept_cell hc.2 hb⟩

set_option maxRecDepth 100000 in
set_option maxHeartbeats 3200000 in
theorem main (a0 a1 : Option Addr) (len0 cap0 len1 cap1 : Nat) (B : List (BitVec 8)) (zs : List Int) (w : World) (hT : Tabs w) (hB : Row w a0 len0 B) (hZ : Cuts w a1 len1 zs) (hnil : a0 = none → cap0 = 0)
    (c0 : len0 ≤ cap0) (l0 : len0 ≤ 1500) (l1 : len1 ≤ 10) :
    Calls Tryd.prog 3 #[.slice a0 len0 cap0, .slice a1 len1 cap1] w fun e w' => e = .returned (.bool true) ∧ Below w.heap.size w w' := by
  have HT := hide hT
  have hsz := hT.size
  have HB := hide hB
  have HZ := hide hZ
  have Hnil := hide hnil
  have HlB := hide hB.1
  clear hT hB hZ hnil
  go_enter Tryd.func3, Tryd.ntmps3
  go_wp2_with fail
  refine (alive_any _ (unhide HT)).mono ?_
  rintro e w1 ⟨rfl, hb1⟩
  have Hb1 := hide hb1
  clear hb1
  go_wp2_with fail
  refine (ref_any a0 len0 cap0 B _ ((unhide HB).below (unhide Hb1)) (unhide Hnil) l0).mono ?_
  rintro e w2 ⟨rfl, hb2⟩
  have Hb2 := hide ((unhide Hb1).trans (hb2.mono (unhide Hb1).size))
  have HS : Hid ((Sha.sum B).length = 32) := Sha.sum_length B
  obtain ⟨S, hS⟩ : ∃ S, S = Sha.sum B := ⟨_, rfl⟩
  rw [← hS] at HS ⊢
  have HSB := hide hS
  clear hb2 Hb1 hS
  have Hrl : Hid ((bytesV S).length = 32) := by show _ = _; rw [bytesV_length, unhide HS]
  have Hro := hide (bytesV_one S)
  obtain ⟨rs, hrs⟩ : ∃ rs, rs = bytesV S := ⟨_, rfl⟩
  rw [← hrs] at Hrl Hro ⊢
  have Hrs := hide hrs
  clear hrs
  go_wp2_with (refine wpList_alloc 26 26 (bytesV zerosB) rfl rfl alloc26 ?_)
  intro w3 hA3 hb3 hs3
  obtain ⟨b5, hb5⟩ : ∃ b, b = w2.heap.size := ⟨_, rfl⟩
  rw [← hb5] at hA3 hs3 ⊢
  have hwb : w.heap.size ≤ b5 := by rw [hb5]; exact (unhide Hb2).size
  have Hb3 := hide ((unhide Hb2).trans (hb3.mono (unhide Hb2).size))
  have HA3 := hide hA3
  clear hA3 hb3 Hb2 hb5
  go_wp2_with (refine wpList_storeAll 26 _ _ b5 rs (bytesV zerosB) rfl rfl rfl rfl (unhide HA3) (by rw [unhide Hrl]; rfl) (by rw [unhide Hrl]; exact info26) (unhide Hro) ?_)
  intro w4 hA4 hg4 hs4
  have Hb4 := hide ((unhide Hb3).grown hg4 (unhide Hb3).size (fun k hk => by simp at hk; omega))
  have HA4 := hide hA4
  clear hA4 hg4 HA3 Hb3 hs3 hs4
  go_wp2_with fail
  refine (new_any _ ((unhide HT).below (unhide Hb4) hsz)).mono ?_
  rintro e w5 ⟨d, rfl, hD5, hd5, hb5⟩
  have hbd : b5 < d := Nat.lt_of_lt_of_le (unhide HA4).lt hd5
  have HA5 := hide ((unhide HA4).below hb5)
  have Hb5 := hide ((unhide Hb4).trans (hb5.mono (unhide Hb4).size))
  have HD5 := hide hD5
  have hwd : w.heap.size ≤ d := by omega
  clear hD5 hd5 hb5 HA4 Hb4
  go_wp2_with fail
  go_loopw [7, 26] (fun s i wr => ∃ (k n : Nat), k ≤ len1 ∧ i = .int .i64 k ∧ s = .int .i64 n ∧ n ≤ len0 ∧ Dig wr d (B.take n) ∧ Arr wr b5 rs ∧ Below w.heap.size w wr) (fun _ i _ => len1 - (intOf i).toNat)
  case atStart => exact ⟨0, 0, by omega, rfl, rfl, by omega, unhide HD5, unhide HA5, unhide Hb5⟩
  case round =>
    obtain ⟨k, n, hk, rfl, rfl, hn, hD, hA, hb⟩ := hrel
    clear HD5 HA5 Hb5
    have HD := hide hD
    have HA := hide hA
    have Hb := hide hb
    clear hD hA hb
    have hnc : n ≤ cap0 := by omega
    have HR := hide (rest_ok (unhide HB) c0 hn)
    have Hln : Hid ((B.take n).length = n) := by show _ = _; rw [List.length_take]; have := unhide HlB; omega
    by_cases hlt : k < len1
    · obtain ⟨b1, o1, rfl, hc1⟩ := unhide HZ k hlt
      have hcell := kept_cell hc1 (unhide Hb)
      clear hc1
      generalize zs.getD k 0 = c at *
      have hmin := run_min c len0
      have hmax := run_max n (min c (len0 : Int))
      obtain ⟨q, hq⟩ : ∃ q, q = max n (min c (len0 : Int)).toNat := ⟨_, rfl⟩
      rw [← hq] at hmax
      have hnq : n ≤ q := by omega
      have hql : q ≤ len0 := by omega
      clear hq
      generalize min c (len0 : Int) = m at *
      have hqc : q ≤ cap0 := by omega
      have Htk : Hid (B.take n ++ (B.drop n).take (q - n) = B.take q) := by
        show _ = _
        rw [show q = n + (q - n) by omega, List.take_add]
        simp
      have Hlq : Hid ((B.take q).length = q) := by show _ = _; rw [List.length_take]; have := unhide HlB; omega
      have HW : Hid (∀ a2 : Option Addr, (cap0 = n ∨ a2 = a0.map fun x => x.add n) → Row w a2 (q - n) ((B.drop n).take (q - n))) := fun a2 h2 => (unhide HR a2 h2).take (q - n) (by omega)
      by_cases hcn : cap0 = n
      · subst hcn
        go_wp2_with fail
        clear hmin hmax hcell
        have hqe : cap0 = q := by omega
        refine (write_any d (B.take cap0) [] a0 0 0 _ ((unhide HT).below (unhide Hb) hsz) (unhide HD) (Row.nil _ _) (Nat.le_refl _) (fun h => by omega) (by rw [unhide Hln]; omega)).mono ?_
        rintro e w6 ⟨rfl, hD6, hg6⟩
        rw [List.append_nil, show B.take cap0 = B.take q by rw [← hqe]] at hD6
        clear hqe
        have HD6 := hide hD6
        have HA6 := hide ((unhide HA).grown hg6 (by simp; omega))
        have Hb6 := hide ((unhide Hb).grown hg6 (unhide Hb).size (fun k hk => by simp at hk; omega))
        clear hD6 hg6 HD HA Hb
        go_wp2_with fail
        refine Free.wp_region_owes (V14 d a0 len0 cap0 q (Sha.sum (B.take q))) (fun w' => Below w6.heap.size w6 w') (by kernel_rfl) (by kernel_rfl) V14.stable (Below.drew (Below.refl _ _)) ⟨?_, ?_, ?_, ?_, ?_, ?_, ?_, ?_, ?_, ?_, ?_, ?_, ?_, ?_, trivial⟩ ?_
        · exact Free.owed_move (Free.goes_plain rfl) (.inl rfl) fun a w' _ hs _ => hs 6 (by kernel_rfl)
        · refine Free.owed_call (Free.goes_plain rfl) fun a w' hC hs hd => ?_
          refine ⟨11, _, run_call11 rfl rfl (hd 0 43 (by kernel_rfl)) w', (dsum_any d (B.take q) w' ((unhide HT).below ((unhide Hb6).trans (hC.mono (unhide Hb6).size)) hsz) ((unhide HD6).below hC (unhide HD6).lt) (by rw [unhide Hlq]; omega)).mono ?_⟩
          rintro e w7 ⟨rfl, hb7⟩
          exact ⟨_, rfl, hb7, hC.trans (hb7.mono hC.size), rfl⟩
        · exact Free.owed_move (Free.goes_plain rfl) (.inl rfl) fun a w' _ hs _ => hs 0 (by kernel_rfl)
        · exact Free.owed_move (Free.goes_plain rfl) (.inl rfl) fun a w' _ hs _ => hs 7 (by kernel_rfl)
        · exact Free.owed_pure (Free.goes_plain rfl) fun a w' hC hs hd => ⟨_, run_first rfl (hd 2 45 (by kernel_rfl)) (hd 3 46 (by kernel_rfl)) (by omega) (by omega) w', rfl⟩
        · refine Free.owed_call (Free.goes_plain rfl) fun a w' hC hs hd => ?_
          refine ⟨8, _, run_call8 rfl rfl (hd 4 47 (by kernel_rfl)) w', (ref_any a0 q cap0 (B.take q) w' (((unhide HB).take q hql).below ((unhide Hb6).trans (hC.mono (unhide Hb6).size))) (unhide Hnil) (by omega)).mono ?_⟩
          rintro e w7 ⟨rfl, hb7⟩
          exact ⟨_, rfl, hb7, hC.trans (hb7.mono hC.size), rfl⟩
        · exact Free.owed_pure (Free.goes_plain rfl) fun a w' hC hs hd => ⟨_, run_neq26 (Sha.sum_length _) rfl (hd 1 44 (by kernel_rfl)) (hd 5 48 (by kernel_rfl)) w', rfl⟩
        · exact Free.owed_move (Free.goes_plain rfl) (.inl rfl) fun a w' _ _ hd => hd 6 49 (by kernel_rfl)
        · exact Free.owed_move (Free.goes_guard false rfl rfl rfl (by kernel_rfl) fun _ _ h => h) (.inl rfl) fun a w' _ hs _ => hs 6 (by kernel_rfl)
        · refine Free.owed_call (Free.goes_guard false rfl rfl rfl (by kernel_rfl) fun _ _ h => h) fun a w' hC hs hd => ?_
          refine ⟨12, _, run_call12 rfl rfl (hd 8 51 (by kernel_rfl)) w', (len_any d (B.take q) w' ((unhide HD6).below hC (unhide HD6).lt)).mono ?_⟩
          rintro e w7 ⟨rfl, rfl⟩
          exact ⟨_, rfl, Below.refl _ _, hC, by rw [unhide Hlq]; rfl⟩
        · exact Free.owed_move (Free.goes_guard false rfl rfl rfl (by kernel_rfl) fun _ _ h => h) (.inl rfl) fun a w' _ hs _ => hs 7 (by kernel_rfl)
        · exact Free.owed_pure (Free.goes_guard false rfl rfl rfl (by kernel_rfl) fun _ _ h => h) fun a w' hC hs hd => ⟨_, run_conv (by omega) rfl (hd 10 53 (by kernel_rfl)) w', rfl⟩
        · exact Free.owed_pure (Free.goes_guard false rfl rfl rfl (by kernel_rfl) fun _ _ h => h) fun a w' hC hs hd => ⟨_, run_neq32 rfl (hd 9 52 (by kernel_rfl)) (hd 11 54 (by kernel_rfl)) w', rfl⟩
        · exact Free.owed_pure (Free.goes_plain rfl) fun a w' hC hs hd => ⟨_, run_pickF rfl (hd 7 50 (by kernel_rfl)) (hd 12 55 (by kernel_rfl)) w', rfl⟩
        · intro w8 hC vals hv
          have e13 : vals 13 = .bool false := hv 13 _ 56 rfl rfl
          clear hv
          simp only [Free.putAll, Act.put, List.setIfInBounds_toArray, List.set_cons_succ, List.set_cons_zero, e13]
          clear e13
          have HD8 := hide ((unhide HD6).below hC (unhide HD6).lt)
          have HA8 := hide ((unhide HA6).below hC)
          have Hb8 := hide ((unhide Hb6).trans (hC.mono (unhide Hb6).size))
          clear hC HD6 HA6 Hb6
          go_wp2
          go_roundw
          case rel => exact ⟨k + 1, q, by omega, by go_num, rfl, hql, unhide HD8, unhide HA8, unhide Hb8⟩
          case measure => simp [intOf]; omega
      · go_wp2_with fail
        clear hmin hmax hcell
        refine (write_any d (B.take n) ((B.drop n).take (q - n)) _ _ _ _ ((unhide HT).below (unhide Hb) hsz) (unhide HD) ((unhide HW _ (by first | exact .inl hcn | exact .inr rfl)).below (unhide Hb)) (by omega) (Row.apart (unhide HW _ (by first | exact .inl hcn | exact .inr rfl)) hwd) (by rw [unhide Hln]; omega)).mono ?_
        rintro e w6 ⟨rfl, hD6, hg6⟩
        rw [unhide Htk] at hD6
        have HD6 := hide hD6
        have HA6 := hide ((unhide HA).grown hg6 (by simp; omega))
        have Hb6 := hide ((unhide Hb).grown hg6 (unhide Hb).size (fun k hk => by simp at hk; omega))
        clear hD6 hg6 HD HA Hb
        go_wp2_with fail
        refine Free.wp_region_owes (V14 d a0 len0 cap0 q (Sha.sum (B.take q))) (fun w' => Below w6.heap.size w6 w') (by kernel_rfl) (by kernel_rfl) V14.stable (Below.drew (Below.refl _ _)) ⟨?_, ?_, ?_, ?_, ?_, ?_, ?_, ?_, ?_, ?_, ?_, ?_, ?_, ?_, trivial⟩ ?_
        · exact Free.owed_move (Free.goes_plain rfl) (.inl rfl) fun a w' _ hs _ => hs 6 (by kernel_rfl)
        · refine Free.owed_call (Free.goes_plain rfl) fun a w' hC hs hd => ?_
          refine ⟨11, _, run_call11 rfl rfl (hd 0 43 (by kernel_rfl)) w', (dsum_any d (B.take q) w' ((unhide HT).below ((unhide Hb6).trans (hC.mono (unhide Hb6).size)) hsz) ((unhide HD6).below hC (unhide HD6).lt) (by rw [unhide Hlq]; omega)).mono ?_⟩
          rintro e w7 ⟨rfl, hb7⟩
          exact ⟨_, rfl, hb7, hC.trans (hb7.mono hC.size), rfl⟩
        · exact Free.owed_move (Free.goes_plain rfl) (.inl rfl) fun a w' _ hs _ => hs 0 (by kernel_rfl)
        · exact Free.owed_move (Free.goes_plain rfl) (.inl rfl) fun a w' _ hs _ => hs 7 (by kernel_rfl)
        · exact Free.owed_pure (Free.goes_plain rfl) fun a w' hC hs hd => ⟨_, run_first rfl (hd 2 45 (by kernel_rfl)) (hd 3 46 (by kernel_rfl)) (by omega) (by omega) w', rfl⟩
        · refine Free.owed_call (Free.goes_plain rfl) fun a w' hC hs hd => ?_
          refine ⟨8, _, run_call8 rfl rfl (hd 4 47 (by kernel_rfl)) w', (ref_any a0 q cap0 (B.take q) w' (((unhide HB).take q hql).below ((unhide Hb6).trans (hC.mono (unhide Hb6).size))) (unhide Hnil) (by omega)).mono ?_⟩
          rintro e w7 ⟨rfl, hb7⟩
          exact ⟨_, rfl, hb7, hC.trans (hb7.mono hC.size), rfl⟩
        · exact Free.owed_pure (Free.goes_plain rfl) fun a w' hC hs hd => ⟨_, run_neq26 (Sha.sum_length _) rfl (hd 1 44 (by kernel_rfl)) (hd 5 48 (by kernel_rfl)) w', rfl⟩
        · exact Free.owed_move (Free.goes_plain rfl) (.inl rfl) fun a w' _ _ hd => hd 6 49 (by kernel_rfl)
        · exact Free.owed_move (Free.goes_guard false rfl rfl rfl (by kernel_rfl) fun _ _ h => h) (.inl rfl) fun a w' _ hs _ => hs 6 (by kernel_rfl)
        · refine Free.owed_call (Free.goes_guard false rfl rfl rfl (by kernel_rfl) fun _ _ h => h) fun a w' hC hs hd => ?_
          refine ⟨12, _, run_call12 rfl rfl (hd 8 51 (by kernel_rfl)) w', (len_any d (B.take q) w' ((unhide HD6).below hC (unhide HD6).lt)).mono ?_⟩
          rintro e w7 ⟨rfl, rfl⟩
          exact ⟨_, rfl, Below.refl _ _, hC, by rw [unhide Hlq]; rfl⟩
        · exact Free.owed_move (Free.goes_guard false rfl rfl rfl (by kernel_rfl) fun _ _ h => h) (.inl rfl) fun a w' _ hs _ => hs 7 (by kernel_rfl)
        · exact Free.owed_pure (Free.goes_guard false rfl rfl rfl (by kernel_rfl) fun _ _ h => h) fun a w' hC hs hd => ⟨_, run_conv (by omega) rfl (hd 10 53 (by kernel_rfl)) w', rfl⟩
        · exact Free.owed_pure (Free.goes_guard false rfl rfl rfl (by kernel_rfl) fun _ _ h => h) fun a w' hC hs hd => ⟨_, run_neq32 rfl (hd 9 52 (by kernel_rfl)) (hd 11 54 (by kernel_rfl)) w', rfl⟩
        · exact Free.owed_pure (Free.goes_plain rfl) fun a w' hC hs hd => ⟨_, run_pickF rfl (hd 7 50 (by kernel_rfl)) (hd 12 55 (by kernel_rfl)) w', rfl⟩
        · intro w8 hC vals hv
          have e13 : vals 13 = .bool false := hv 13 _ 56 rfl rfl
          clear hv
          simp only [Free.putAll, Act.put, List.setIfInBounds_toArray, List.set_cons_succ, List.set_cons_zero, e13]
          clear e13
          have HD8 := hide ((unhide HD6).below hC (unhide HD6).lt)
          have HA8 := hide ((unhide HA6).below hC)
          have Hb8 := hide ((unhide Hb6).trans (hC.mono (unhide Hb6).size))
          clear hC HD6 HA6 Hb6
          go_wp2
          go_roundw
          case rel => exact ⟨k + 1, q, by omega, by go_num, rfl, hql, unhide HD8, unhide HA8, unhide Hb8⟩
          case measure => simp [intOf]; omega
    · clear hk
      have Hrv : Hid (Value.agg rs.toArray = Value.agg (bytesV (Sha.sum B)).toArray) := by show _ = _; rw [unhide Hrs, unhide HSB]
      by_cases hcn : cap0 = n
      · subst hcn
        have Hall : Hid (B.take cap0 ++ [] = B) := by show _ = _; rw [List.append_nil]; exact List.take_of_length_le (by have := unhide HlB; omega)
        go_wp2_with fail
        refine (write_any d (B.take cap0) [] a0 0 0 _ ((unhide HT).below (unhide Hb) hsz) (unhide HD) (Row.nil _ _) (Nat.le_refl _) (fun h => by omega) (by rw [unhide Hln]; omega)).mono ?_
        rintro e w6 ⟨rfl, hD6, hg6⟩
        rw [unhide Hall] at hD6
        have HD6 := hide hD6
        have HA6 := hide ((unhide HA).grown hg6 (by simp; omega))
        have Hb6 := hide ((unhide Hb).grown hg6 (unhide Hb).size (fun k hk => by simp at hk; omega))
        clear hD6 hg6 HD HA Hb
        go_wp2_with fail
        have HO0 : Hid (Sl.Ok w ⟨a0, len0, cap0, B⟩) := ⟨unhide HB, c0⟩
        have HO1 : Hid (Sl.Ok w ⟨a0, cap0, cap0, B.take cap0⟩) := ⟨(unhide HB).take cap0 hn, by show cap0 ≤ cap0; omega⟩
        have HO2 : Hid (Sl.Ok w ⟨if cap0 = cap0 then a0 else a0.map fun x => x.add cap0, len0 - cap0, cap0 - cap0, B.drop cap0⟩) := ⟨Row.drop (unhide HB) c0 cap0 hn, by show len0 - cap0 ≤ cap0 - cap0; omega⟩
        refine Free.wp_region_owes (V18 d a0 len0 cap0 cap0 (Sha.sum B)) (fun w' => Below w6.heap.size w6 w') (by kernel_rfl) (by kernel_rfl) V18.stable (Below.drew (Below.refl _ _)) ⟨?_, ?_, ?_, ?_, ?_, ?_, ?_, ?_, ?_, ?_, ?_, ?_, ?_, ?_, ?_, ?_, ?_, ?_, ?_, ?_, ?_, ?_, ?_, ?_, trivial⟩ ?_
        · exact Free.owed_move (Free.goes_plain rfl) (.inl rfl) fun a w' _ hs _ => hs 6 (by kernel_rfl)
        · refine Free.owed_call (Free.goes_plain rfl) fun a w' hC hs hd => ?_
          refine ⟨11, _, run_call11 rfl rfl (hd 0 63 (by kernel_rfl)) w', (dsum_any d B w' ((unhide HT).below ((unhide Hb6).trans (hC.mono (unhide Hb6).size)) hsz) ((unhide HD6).below hC (unhide HD6).lt) (by rw [unhide HlB]; omega)).mono ?_⟩
          rintro e w7 ⟨rfl, hb7⟩
          exact ⟨_, rfl, hb7, hC.trans (hb7.mono hC.size), rfl⟩
        · refine Free.owed_pure (Free.goes_plain rfl) fun a w' hC hs hd => ?_
          exact ⟨_, run_load26 rfl (hs 5 (by kernel_rfl)) ((unhide HA6).below hC).range (unhide Hrl), unhide Hrv⟩
        · exact Free.owed_pure (Free.goes_plain rfl) fun a w' hC hs hd => ⟨_, run_eql26 (Sha.sum_length _) rfl (hd 1 64 (by kernel_rfl)) (hd 2 65 (by kernel_rfl)) w', rfl⟩
        · exact Free.owed_move (Free.goes_plain rfl) (.inl rfl) fun a w' _ _ hd => hd 3 66 (by kernel_rfl)
        · exact Free.owed_move (Free.goes_guard true rfl rfl rfl (by kernel_rfl) fun _ _ h => h) (.inl rfl) fun a w' _ hs _ => hs 0 (by kernel_rfl)
        · refine Free.owed_value (Free.goes_guard true rfl rfl rfl (by kernel_rfl) fun _ _ h => h) fun a w' hC hs hd => ?_
          exact ⟨_, _, run_build1 rfl (hd 5 68 (by kernel_rfl)) w', (Below.refl _ _).alloc (Nat.le_refl _) _, hC.alloc hC.size _, w'.heap.size, rfl, cell_new w' _ _ _ 0⟩
        · refine Free.owed_call (Free.goes_guard true rfl rfl rfl (by kernel_rfl) fun _ _ h => h) fun a w' hC hs hd => ?_
          obtain ⟨b, h1, h2⟩ := hd 6 69 (by kernel_rfl)
          refine ⟨13, _, run_call13 rfl rfl h1 w', (sum_one b ⟨a0, len0, cap0, B⟩ w' ((unhide HT).below ((unhide Hb6).trans (hC.mono (unhide Hb6).size)) hsz) h2 ((unhide HO0).below ((unhide Hb6).trans (hC.mono (unhide Hb6).size))) l0).mono ?_⟩
          rintro e w7 ⟨rfl, hb7⟩
          exact ⟨_, rfl, hb7, hC.trans (hb7.mono hC.size), rfl⟩
        · refine Free.owed_pure (Free.goes_guard true rfl rfl rfl (by kernel_rfl) fun _ _ h => h) fun a w' hC hs hd => ?_
          exact ⟨_, run_load26 rfl (hs 5 (by kernel_rfl)) ((unhide HA6).below hC).range (unhide Hrl), unhide Hrv⟩
        · exact Free.owed_pure (Free.goes_guard true rfl rfl rfl (by kernel_rfl) fun _ _ h => h) fun a w' hC hs hd => ⟨_, run_eql26 (Sha.sum_length _) rfl (hd 7 70 (by kernel_rfl)) (hd 8 71 (by kernel_rfl)) w', rfl⟩
        · exact Free.owed_pure (Free.goes_plain rfl) fun a w' hC hs hd => ⟨_, run_pick rfl (hd 4 67 (by kernel_rfl)) (hd 9 72 (by kernel_rfl)) w', rfl⟩
        · exact Free.owed_move (Free.goes_plain rfl) (.inl rfl) fun a w' _ _ hd => hd 10 73 (by kernel_rfl)
        · exact Free.owed_move (Free.goes_guard true rfl rfl rfl (by kernel_rfl) fun _ _ h => h) (.inl rfl) fun a w' _ hs _ => hs 0 (by kernel_rfl)
        · exact Free.owed_move (Free.goes_guard true rfl rfl rfl (by kernel_rfl) fun _ _ h => h) (.inl rfl) fun a w' _ hs _ => hs 7 (by kernel_rfl)
        · exact Free.owed_pure (Free.goes_guard true rfl rfl rfl (by kernel_rfl) fun _ _ h => h) fun a w' hC hs hd => ⟨_, run_first rfl (hd 12 75 (by kernel_rfl)) (hd 13 76 (by kernel_rfl)) (by omega) (by omega) w', rfl⟩
        · exact Free.owed_move (Free.goes_guard true rfl rfl rfl (by kernel_rfl) fun _ _ h => h) (.inl rfl) fun a w' _ hs _ => hs 0 (by kernel_rfl)
        · exact Free.owed_move (Free.goes_guard true rfl rfl rfl (by kernel_rfl) fun _ _ h => h) (.inl rfl) fun a w' _ hs _ => hs 7 (by kernel_rfl)
        · exact Free.owed_pure (Free.goes_guard true rfl rfl rfl (by kernel_rfl) fun _ _ h => h) fun a w' hC hs hd => ⟨_, run_from rfl (hd 15 78 (by kernel_rfl)) (hd 16 79 (by kernel_rfl)) (by omega) (by omega) w', rfl⟩
        · refine Free.owed_value (Free.goes_guard true rfl rfl rfl (by kernel_rfl) fun _ _ h => h) fun a w' hC hs hd => ?_
          exact ⟨_, _, run_build2 rfl (hd 14 77 (by kernel_rfl)) (hd 17 80 (by kernel_rfl)) w', (Below.refl _ _).alloc (Nat.le_refl _) _, hC.alloc hC.size _, w'.heap.size, rfl, cell_new w' _ _ _ 0, cell_new w' _ _ _ 1⟩
        · refine Free.owed_call (Free.goes_guard true rfl rfl rfl (by kernel_rfl) fun _ _ h => h) fun a w' hC hs hd => ?_
          obtain ⟨b, h1, h2, h3⟩ := hd 18 81 (by kernel_rfl)
          refine ⟨13, _, run_call13 rfl rfl h1 w', (sum_two b ⟨a0, cap0, cap0, B.take cap0⟩ ⟨_, _, _, B.drop cap0⟩ w' ((unhide HT).below ((unhide Hb6).trans (hC.mono (unhide Hb6).size)) hsz) h2 h3 ((unhide HO1).below ((unhide Hb6).trans (hC.mono (unhide Hb6).size))) ((unhide HO2).below ((unhide Hb6).trans (hC.mono (unhide Hb6).size))) (by show cap0 + (len0 - cap0) ≤ 1500; omega)).mono ?_⟩
          rintro e w7 ⟨rfl, hb7⟩
          refine ⟨_, rfl, hb7, hC.trans (hb7.mono hC.size), ?_⟩
          show Value.agg (bytesV (Sha.sum (B.take cap0 ++ B.drop cap0))).toArray = _
          rw [List.take_append_drop]
        · refine Free.owed_pure (Free.goes_guard true rfl rfl rfl (by kernel_rfl) fun _ _ h => h) fun a w' hC hs hd => ?_
          exact ⟨_, run_load26 rfl (hs 5 (by kernel_rfl)) ((unhide HA6).below hC).range (unhide Hrl), unhide Hrv⟩
        · exact Free.owed_pure (Free.goes_guard true rfl rfl rfl (by kernel_rfl) fun _ _ h => h) fun a w' hC hs hd => ⟨_, run_eql26 (Sha.sum_length _) rfl (hd 19 82 (by kernel_rfl)) (hd 20 83 (by kernel_rfl)) w', rfl⟩
        · exact Free.owed_pure (Free.goes_plain rfl) fun a w' hC hs hd => ⟨_, run_pick rfl (hd 11 74 (by kernel_rfl)) (hd 21 84 (by kernel_rfl)) w', rfl⟩
        · exact Free.owed_move (Free.goes_plain rfl) (.inr rfl) fun a w' _ _ hd => hd 22 85 (by kernel_rfl)
        · intro w8 hC vals hv
          have e23 : vals 23 = .bool true := hv 23 _ 4 rfl rfl
          clear hv
          simp only [Free.putAll, Act.put, List.setIfInBounds_toArray, List.set_cons_succ, List.set_cons_zero, e23]
          clear e23
          have Hb8 := hide ((unhide Hb6).trans (hC.mono (unhide Hb6).size))
          clear hC HD6 HA6 Hb6
          go_wp2
          go_ret
          exact ⟨rfl, unhide Hb8⟩
      · have Hall : Hid (B.take n ++ B.drop n = B) := List.take_append_drop n B
        have HW : Hid (Row w (a0.map fun x => x.add n) (len0 - n) (B.drop n)) := unhide HR _ (.inr rfl)
        go_wp2_with fail
        refine (write_any d (B.take n) (B.drop n) _ _ _ _ ((unhide HT).below (unhide Hb) hsz) (unhide HD) ((unhide HW).below (unhide Hb)) (by omega) (Row.apart (unhide HW) hwd) (by rw [unhide Hln]; omega)).mono ?_
        rintro e w6 ⟨rfl, hD6, hg6⟩
        rw [unhide Hall] at hD6
        have HD6 := hide hD6
        have HA6 := hide ((unhide HA).grown hg6 (by simp; omega))
        have Hb6 := hide ((unhide Hb).grown hg6 (unhide Hb).size (fun k hk => by simp at hk; omega))
        clear hD6 hg6 HD HA Hb
        go_wp2_with fail
        have HO0 : Hid (Sl.Ok w ⟨a0, len0, cap0, B⟩) := ⟨unhide HB, c0⟩
        have HO1 : Hid (Sl.Ok w ⟨a0, n, cap0, B.take n⟩) := ⟨(unhide HB).take n hn, by show n ≤ cap0; omega⟩
        have HO2 : Hid (Sl.Ok w ⟨if cap0 = n then a0 else a0.map fun x => x.add n, len0 - n, cap0 - n, B.drop n⟩) := ⟨Row.drop (unhide HB) c0 n hn, by show len0 - n ≤ cap0 - n; omega⟩
        refine Free.wp_region_owes (V18 d a0 len0 cap0 n (Sha.sum B)) (fun w' => Below w6.heap.size w6 w') (by kernel_rfl) (by kernel_rfl) V18.stable (Below.drew (Below.refl _ _)) ⟨?_, ?_, ?_, ?_, ?_, ?_, ?_, ?_, ?_, ?_, ?_, ?_, ?_, ?_, ?_, ?_, ?_, ?_, ?_, ?_, ?_, ?_, ?_, ?_, trivial⟩ ?_
        · exact Free.owed_move (Free.goes_plain rfl) (.inl rfl) fun a w' _ hs _ => hs 6 (by kernel_rfl)
        · refine Free.owed_call (Free.goes_plain rfl) fun a w' hC hs hd => ?_
          refine ⟨11, _, run_call11 rfl rfl (hd 0 63 (by kernel_rfl)) w', (dsum_any d B w' ((unhide HT).below ((unhide Hb6).trans (hC.mono (unhide Hb6).size)) hsz) ((unhide HD6).below hC (unhide HD6).lt) (by rw [unhide HlB]; omega)).mono ?_⟩
          rintro e w7 ⟨rfl, hb7⟩
          exact ⟨_, rfl, hb7, hC.trans (hb7.mono hC.size), rfl⟩
        · refine Free.owed_pure (Free.goes_plain rfl) fun a w' hC hs hd => ?_
          exact ⟨_, run_load26 rfl (hs 5 (by kernel_rfl)) ((unhide HA6).below hC).range (unhide Hrl), unhide Hrv⟩
        · exact Free.owed_pure (Free.goes_plain rfl) fun a w' hC hs hd => ⟨_, run_eql26 (Sha.sum_length _) rfl (hd 1 64 (by kernel_rfl)) (hd 2 65 (by kernel_rfl)) w', rfl⟩
        · exact Free.owed_move (Free.goes_plain rfl) (.inl rfl) fun a w' _ _ hd => hd 3 66 (by kernel_rfl)
        · exact Free.owed_move (Free.goes_guard true rfl rfl rfl (by kernel_rfl) fun _ _ h => h) (.inl rfl) fun a w' _ hs _ => hs 0 (by kernel_rfl)
        · refine Free.owed_value (Free.goes_guard true rfl rfl rfl (by kernel_rfl) fun _ _ h => h) fun a w' hC hs hd => ?_
          exact ⟨_, _, run_build1 rfl (hd 5 68 (by kernel_rfl)) w', (Below.refl _ _).alloc (Nat.le_refl _) _, hC.alloc hC.size _, w'.heap.size, rfl, cell_new w' _ _ _ 0⟩
        · refine Free.owed_call (Free.goes_guard true rfl rfl rfl (by kernel_rfl) fun _ _ h => h) fun a w' hC hs hd => ?_
          obtain ⟨b, h1, h2⟩ := hd 6 69 (by kernel_rfl)
          refine ⟨13, _, run_call13 rfl rfl h1 w', (sum_one b ⟨a0, len0, cap0, B⟩ w' ((unhide HT).below ((unhide Hb6).trans (hC.mono (unhide Hb6).size)) hsz) h2 ((unhide HO0).below ((unhide Hb6).trans (hC.mono (unhide Hb6).size))) l0).mono ?_⟩
          rintro e w7 ⟨rfl, hb7⟩
          exact ⟨_, rfl, hb7, hC.trans (hb7.mono hC.size), rfl⟩
        · refine Free.owed_pure (Free.goes_guard true rfl rfl rfl (by kernel_rfl) fun _ _ h => h) fun a w' hC hs hd => ?_
          exact ⟨_, run_load26 rfl (hs 5 (by kernel_rfl)) ((unhide HA6).below hC).range (unhide Hrl), unhide Hrv⟩
        · exact Free.owed_pure (Free.goes_guard true rfl rfl rfl (by kernel_rfl) fun _ _ h => h) fun a w' hC hs hd => ⟨_, run_eql26 (Sha.sum_length _) rfl (hd 7 70 (by kernel_rfl)) (hd 8 71 (by kernel_rfl)) w', rfl⟩
        · exact Free.owed_pure (Free.goes_plain rfl) fun a w' hC hs hd => ⟨_, run_pick rfl (hd 4 67 (by kernel_rfl)) (hd 9 72 (by kernel_rfl)) w', rfl⟩
        · exact Free.owed_move (Free.goes_plain rfl) (.inl rfl) fun a w' _ _ hd => hd 10 73 (by kernel_rfl)
        · exact Free.owed_move (Free.goes_guard true rfl rfl rfl (by kernel_rfl) fun _ _ h => h) (.inl rfl) fun a w' _ hs _ => hs 0 (by kernel_rfl)
        · exact Free.owed_move (Free.goes_guard true rfl rfl rfl (by kernel_rfl) fun _ _ h => h) (.inl rfl) fun a w' _ hs _ => hs 7 (by kernel_rfl)
        · exact Free.owed_pure (Free.goes_guard true rfl rfl rfl (by kernel_rfl) fun _ _ h => h) fun a w' hC hs hd => ⟨_, run_first rfl (hd 12 75 (by kernel_rfl)) (hd 13 76 (by kernel_rfl)) (by omega) (by omega) w', rfl⟩
        · exact Free.owed_move (Free.goes_guard true rfl rfl rfl (by kernel_rfl) fun _ _ h => h) (.inl rfl) fun a w' _ hs _ => hs 0 (by kernel_rfl)
        · exact Free.owed_move (Free.goes_guard true rfl rfl rfl (by kernel_rfl) fun _ _ h => h) (.inl rfl) fun a w' _ hs _ => hs 7 (by kernel_rfl)
        · exact Free.owed_pure (Free.goes_guard true rfl rfl rfl (by kernel_rfl) fun _ _ h => h) fun a w' hC hs hd => ⟨_, run_from rfl (hd 15 78 (by kernel_rfl)) (hd 16 79 (by kernel_rfl)) (by omega) (by omega) w', rfl⟩
        · refine Free.owed_value (Free.goes_guard true rfl rfl rfl (by kernel_rfl) fun _ _ h => h) fun a w' hC hs hd => ?_
          exact ⟨_, _, run_build2 rfl (hd 14 77 (by kernel_rfl)) (hd 17 80 (by kernel_rfl)) w', (Below.refl _ _).alloc (Nat.le_refl _) _, hC.alloc hC.size _, w'.heap.size, rfl, cell_new w' _ _ _ 0, cell_new w' _ _ _ 1⟩
        · refine Free.owed_call (Free.goes_guard true rfl rfl rfl (by kernel_rfl) fun _ _ h => h) fun a w' hC hs hd => ?_
          obtain ⟨b, h1, h2, h3⟩ := hd 18 81 (by kernel_rfl)
          refine ⟨13, _, run_call13 rfl rfl h1 w', (sum_two b ⟨a0, n, cap0, B.take n⟩ ⟨_, _, _, B.drop n⟩ w' ((unhide HT).below ((unhide Hb6).trans (hC.mono (unhide Hb6).size)) hsz) h2 h3 ((unhide HO1).below ((unhide Hb6).trans (hC.mono (unhide Hb6).size))) ((unhide HO2).below ((unhide Hb6).trans (hC.mono (unhide Hb6).size))) (by show n + (len0 - n) ≤ 1500; omega)).mono ?_⟩
          rintro e w7 ⟨rfl, hb7⟩
          refine ⟨_, rfl, hb7, hC.trans (hb7.mono hC.size), ?_⟩
          show Value.agg (bytesV (Sha.sum (B.take n ++ B.drop n))).toArray = _
          rw [List.take_append_drop]
        · refine Free.owed_pure (Free.goes_guard true rfl rfl rfl (by kernel_rfl) fun _ _ h => h) fun a w' hC hs hd => ?_
          exact ⟨_, run_load26 rfl (hs 5 (by kernel_rfl)) ((unhide HA6).below hC).range (unhide Hrl), unhide Hrv⟩
        · exact Free.owed_pure (Free.goes_guard true rfl rfl rfl (by kernel_rfl) fun _ _ h => h) fun a w' hC hs hd => ⟨_, run_eql26 (Sha.sum_length _) rfl (hd 19 82 (by kernel_rfl)) (hd 20 83 (by kernel_rfl)) w', rfl⟩
        · exact Free.owed_pure (Free.goes_plain rfl) fun a w' hC hs hd => ⟨_, run_pick rfl (hd 11 74 (by kernel_rfl)) (hd 21 84 (by kernel_rfl)) w', rfl⟩
        · exact Free.owed_move (Free.goes_plain rfl) (.inr rfl) fun a w' _ _ hd => hd 22 85 (by kernel_rfl)
        · intro w8 hC vals hv
          have e23 : vals 23 = .bool true := hv 23 _ 4 rfl rfl
          clear hv
          simp only [Free.putAll, Act.put, List.setIfInBounds_toArray, List.set_cons_succ, List.set_cons_zero, e23]
          clear e23
          have Hb8 := hide ((unhide Hb6).trans (hC.mono (unhide Hb6).size))
          clear hC HD6 HA6 Hb6
          go_wp2
          go_ret
          exact ⟨rfl, unhide Hb8⟩

set_option maxHeartbeats 800000 in
theorem early (a0 a1 : Option Addr) (len0 cap0 len1 cap1 : Nat) (w : World) (hT : Tabs w) (h : ¬ (len0 ≤ 1500 ∧ len1 ≤ 10)) :
    Calls Tryd.prog 3 #[.slice a0 len0 cap0, .slice a1 len1 cap1] w fun e w' => e = .returned (.bool true) ∧ Below w.heap.size w w' := by
  have HT := hide hT
  clear hT
  have hd : (decide (1500 < (len0 : Int)) || decide (10 < (len1 : Int))) = true := by simp; omega
  have h' : ¬ ((len0 : Int) ≤ 1500 ∧ (len1 : Int) ≤ 10) := by omega
  clear h
  go_enter Tryd.func3, Tryd.ntmps3
  go_wp2_with fail
  refine (alive_any _ (unhide HT)).mono ?_
  rintro e w1 ⟨rfl, hb1⟩
  have Hb1 := hide hb1
  clear hb1
  go_wp2
  all_goals
    go_ret
    exact ⟨rfl, unhide Hb1⟩

theorem walk (a0 : Option Addr) (len0 cap0 : Nat) (z0 : List Int) (a1 : Option Addr) (len1 cap1 : Nat) (z1 : List Int) (w : World) (hT : Tabs w) (w0 : IsRow .u8 w a0 len0 cap0 z0) (w1 : IsRow .i64 w a1 len1 cap1 z1) :
    Calls Tryd.prog 3 #[.slice a0 len0 cap0, .slice a1 len1 cap1] w fun e w' => e = .returned (.bool true) ∧ Below w.heap.size w w' := by
  by_cases h : len0 ≤ 1500 ∧ len1 ≤ 10
  · obtain ⟨l0, l1⟩ := h
    obtain ⟨B, hB⟩ := w0.row (by omega)
    exact main a0 a1 len0 cap0 len1 cap1 B z1 w hT hB (cuts_of w1) (nil_of w0) w0.room l0 l1
  · exact early a0 a1 len0 cap0 len1 cap1 w hT h

end Go.Proofs.YtmmphnmgepbclaaDoor.digestTells
