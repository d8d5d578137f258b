/-
  DigestTexts returns true, whatever the hash and the text.
-/
import Derived.Test.YtmmphnmgepbclaaDoorRefText
namespace Go.Proofs.YtmmphnmgepbclaaDoor.digestTexts
open Go.RowKit

section
variable {P : Program} {ops : Array Oper} {rest : List Oper} {a : Act} {w : World} {Q : Exit → Act → World → Prop}
/-- As 'wpList_loadAll', behind a guard that says yes. -/
theorem wpList_loadG {o : Oper} (t : TypeId) (x : Operand) (b : Nat) (cs : List Value) (td : TypeDesc) (ho : o.op = .load t x) (hw : Region.wanted o (yielded ops a.tmps) = true) (hx : a.eval x = .pointer (some ⟨b, 0, none⟩))
    (hA : Arr w b cs) (hu : P.underlying t = some td) (hd : td.isRow = true) (hi : (P.info? t).map (·.size) = some cs.length)
    (h : wpList P ops Q rest (a.put o.dst (.agg cs.toArray)) w) : wpList P ops Q (o :: rest) a w := by
  unfold wpList
  rw [if_pos hw]
  exact .inl (wp_load_mid t x ho b 0 hx cs td hA.range hu hd hi h)
theorem wpList_buildG {o : Oper} (t : TypeId) (parts : Array (Nat × Operand)) (cs : List Value) (ps : List (Nat × Value)) (ho : o.op = .build t parts) (hw : Region.wanted o (yielded ops a.tmps) = true)
    (hp : (parts.toList.map fun p => (p.1, a.eval p.2)) = ps) (hb : P.built t ps = some cs.toArray) (h : wpList P ops Q rest (a.put o.dst (.agg cs.toArray)) w) : wpList P ops Q (o :: rest) a w := by
  unfold wpList
  rw [if_pos hw]
  refine .inl ?_
  have r1 : (execOp a.eval o).run P w = .ok (.value (.agg cs.toArray)) w := by
    have hb' : P.built t (parts.map fun (i, x) => (i, a.eval x)).toList = some cs.toArray := by
      rw [Array.toList_map, ← hb, ← hp]
    unfold execOp
    simp only [ho, Sem.run_bind, run_build w t _ _ hb', Result.andThen, Sem.run_pure]
  unfold Oper.wp
  rw [r1, Oper.upon_value]
  exact h
end

theorem str_toList (l : List (BitVec 8)) : (str l).toList = l.map UInt8.ofBitVec := by
  rw [ByteArray.toList_eq]; rfl
theorem str_eq (a b : List (BitVec 8)) : ((str a).toList == (str b).toList) = (a == b) := by
  rw [str_toList, str_toList, Bool.eq_iff_iff, beq_iff_eq, beq_iff_eq]
  constructor
  · intro e
    have := congrArg (List.map UInt8.toBitVec) e
    rw [List.map_map, List.map_map, show UInt8.toBitVec ∘ UInt8.ofBitVec = id from rfl, List.map_id, List.map_id] at this
    exact this
  · intro e; rw [e]

set_option maxRecDepth 100000 in
set_option maxHeartbeats 800000 in
theorem main (hs l : List (BitVec 8)) (hl : hs.length = 32) (hl200 : l.length ≤ 200) (w : World) (hT : Tabs w) :
    Calls Tryd.prog 4 #[.agg (bytesV hs).toArray, .string (str l)] w fun e w' => e = .returned (.bool true) ∧ Below w.heap.size w w' := by
  have HT := hide hT
  have hsz := hT.size
  have Hl := hide hl
  have HL : Hid ((bytesV hs).length = 32) := by show _ = _; rw [bytesV_length, hl]
  have hls : ((str l).size : Int) ≤ 200 := by rw [str_size]; omega
  have Hls := hide hl200
  clear hT hl hl200
  go_enter Tryd.func4, Tryd.ntmps4
  go_wp2_with (refine wpList_box 26 _ (bytesV hs) rfl rfl rfl ?_)
  intro w1 hA1 hb1 hs1
  have HA1 := hide hA1
  have Hb1 := hide hb1
  clear hA1 hb1
  go_wp2_with fail
  refine (alive_any _ ((unhide HT).below (unhide Hb1) hsz)).mono ?_
  rintro e w2 ⟨rfl, hb2⟩
  have HA2 := hide ((unhide HA1).below hb2)
  have Hb2 := hide ((unhide Hb1).trans (hb2.mono (unhide Hb1).size))
  clear hb2 HA1 Hb1 hs1
  go_wp2_with (refine wpList_loadAll 26 _ w.heap.size (bytesV hs) _ rfl rfl rfl (unhide HA2) Tryd.underlying26 rfl (by rw [unhide HL]; exact info26) ?_)
  refine (text_any hs (unhide Hl) _).mono ?_
  rintro e w3 ⟨rfl, hb3⟩
  have HA3 := hide ((unhide HA2).below hb3)
  have Hb3 := hide ((unhide Hb2).trans (hb3.mono (unhide Hb2).size))
  clear hb3 HA2 Hb2
  go_wp2_with fail
  refine (parse_any (Sha.text hs) _).mono ?_
  rintro e w4 ⟨g, ok, rfl, hp, hb4⟩
  obtain ⟨rfl, rfl⟩ : ok = true ∧ hs = g := by
    obtain ⟨h1, h2, h3⟩ := hp
    cases ok
    · exact absurd rfl ((h3 rfl).2 hs (unhide Hl))
    · exact ⟨rfl, (Sha.text_inj _ _ (h2 rfl)).symm⟩
  have HA4 := hide ((unhide HA3).below hb4)
  have Hb4 := hide ((unhide Hb3).trans (hb4.mono (unhide Hb3).size))
  clear hb4 hp HA3 Hb3
  go_wp2_with (refine wpList_alloc 26 26 (bytesV zerosB) rfl rfl alloc26 ?_)
  intro w5 hA5 hb5 hs5
  have hw4 := (unhide HA4).lt
  obtain ⟨b6, hb6⟩ : ∃ b, b = w4.heap.size := ⟨_, rfl⟩
  rw [← hb6] at hA5 hs5 hw4 ⊢
  have HA5 := hide ((unhide HA4).below hb5)
  have HB5 := hide hA5
  have Hb5 := hide ((unhide Hb4).trans (hb5.mono (unhide Hb4).size))
  have hwb : w.heap.size < b6 := hw4
  clear hA5 hb5 HA4 Hb4 hb6 hw4
  go_wp2_with (refine wpList_storeAll 26 _ _ b6 (bytesV hs) (bytesV zerosB) rfl rfl rfl rfl (unhide HB5) (by rw [unhide HL]; rfl) (by rw [unhide HL]; exact info26) (bytesV_one _) ?_)
  intro w6 hA6 hg6 hs6
  have HA6 := hide ((unhide HA5).grown hg6 (by simp; omega))
  have HB6 := hide hA6
  have Hb6 := hide ((unhide Hb5).grown hg6 (unhide Hb5).size (fun k hk => by simp at hk; omega))
  have hb6w : b6 < w6.heap.size := by omega
  clear hA6 hg6 HA5 HB5 Hb5 hs5 hs6
  go_wp2_with fail
  refine (parse_any l _).mono ?_
  rintro e w7 ⟨x, ok, rfl, hp, hb7⟩
  have Hp := hide hp
  have HA7 := hide ((unhide HA6).below hb7)
  have HB7 := hide ((unhide HB6).below hb7)
  have Hb7 := hide ((unhide Hb6).trans (hb7.mono (unhide Hb6).size))
  have HX : Hid ((bytesV x).length = 32) := by show _ = _; rw [bytesV_length, hp.1]
  have Hx := hide hp.1
  have hb67 : b6 < w7.heap.size := Nat.lt_of_lt_of_le hb6w hb7.size
  clear hb7 hp HA6 HB6 Hb6 hb6w
  go_wp2_with (refine wpList_alloc 26 26 (bytesV zerosB) rfl rfl alloc26 ?_)
  intro w8 hA8 hb8 hs8
  obtain ⟨b9, hb9⟩ : ∃ b, b = w7.heap.size := ⟨_, rfl⟩
  rw [← hb9] at hA8 hs8 hb67 ⊢
  have HA8 := hide ((unhide HA7).below hb8)
  have HB8 := hide ((unhide HB7).below hb8)
  have HC8 := hide hA8
  have Hb8 := hide ((unhide Hb7).trans (hb8.mono (unhide Hb7).size))
  clear hA8 hb8 HA7 HB7 Hb7 hb9
  go_wp2_with (refine wpList_storeAll 26 _ _ b9 (bytesV x) (bytesV zerosB) rfl rfl rfl rfl (unhide HC8) (by rw [unhide HX]; rfl) (by rw [unhide HX]; exact info26) (bytesV_one _) ?_)
  intro w9 hA9 hg9 hs9
  have HA9 := hide ((unhide HA8).grown hg9 (by simp; omega))
  have HB9 := hide ((unhide HB8).grown hg9 (by simp; omega))
  have HC9 := hide hA9
  have Hb9 := hide ((unhide Hb8).grown hg9 (unhide Hb8).size (fun k hk => by simp at hk; omega))
  clear hA9 hg9 HA8 HB8 HC8 Hb8 hs8 hs9
  have hE1 := fun w => run_same26 _ hs rfl (unhide Hl) w
  go_wp2_with (refine wpList_loadAll 26 _ w.heap.size (bytesV hs) _ rfl rfl rfl (unhide HA9) Tryd.underlying26 rfl (by rw [unhide HL]; exact info26) ?_)
  refine (reftext_any hs (unhide Hl) _).mono ?_
  rintro e w10 ⟨rfl, hb10⟩
  have HA10 := hide ((unhide HA9).below hb10)
  have HB10 := hide ((unhide HB9).below hb10)
  have HC10 := hide ((unhide HC9).below hb10)
  have Hb10 := hide ((unhide Hb9).trans (hb10.mono (unhide Hb9).size))
  clear hb10 HA9 HB9 HC9 Hb9
  go_wp2_with (first
    | refine wpList_loadG 26 (.tmp 6) b6 (bytesV hs) _ rfl (by rfl) rfl (unhide HB10) Tryd.underlying26 rfl (by rw [unhide HL]; exact info26) ?_
    | refine wpList_loadG 26 (.tmp 2) w.heap.size (bytesV hs) _ rfl (by rfl) rfl (unhide HA10) Tryd.underlying26 rfl (by rw [unhide HL]; exact info26) ?_
    | refine wpList_loadG 26 (.tmp 8) b9 (bytesV x) _ rfl (by rfl) rfl (unhide HC10) Tryd.underlying26 rfl (by rw [unhide HX]; exact info26) ?_)
  refine (reftext_any x (unhide Hx) _).mono ?_
  rintro e w11 ⟨rfl, hb11⟩
  have HC11 := hide ((unhide HC10).below hb11)
  have Hb11 := hide ((unhide Hb10).trans (hb11.mono (unhide Hb10).size))
  clear hb11 HA10 HB10 HC10 Hb10 hE1
  obtain ⟨_, hp1, hp2⟩ := unhide Hp
  cases ok with
  | true =>
    have hxe : ((str (Sha.text x)).toList == (str l).toList) = true := by rw [str_eq, hp1 rfl]; simp
    clear hp1 hp2 Hp
    generalize str (Sha.text x) = sx at *
    go_wp2
    go_ret
    exact ⟨rfl, unhide Hb11⟩
  | false =>
    have hxz := (hp2 rfl).1
    subst hxz
    have hxe : ((str (Sha.text zerosB)).toList == (str l).toList) = false := by
      rw [str_eq, beq_eq_false_iff_ne]
      exact (hp2 rfl).2 zerosB rfl
    have hE2 := fun w => run_same26 _ zerosB rfl rfl w
    clear hp1 hp2 Hp
    generalize str (Sha.text zerosB) = sx at *
    go_wp2_with (first
      | refine wpList_loadG 26 (.tmp 8) b9 (bytesV zerosB) _ rfl (by rfl) rfl (unhide HC11) Tryd.underlying26 rfl info26 ?_
      | refine wpList_buildG 26 _ (bytesV zerosB) [] rfl (by rfl) rfl built26 ?_)
    go_ret
    exact ⟨rfl, unhide Hb11⟩

theorem early (s : ByteArray) (hs : List (BitVec 8)) (w : World) (hT : Tabs w) (h : 200 < s.size) :
    Calls Tryd.prog 4 #[.agg (bytesV hs).toArray, .string s] w fun e w' => e = .returned (.bool true) ∧ Below w.heap.size w w' := by
  have HT := hide hT
  have hsz := hT.size
  have h' : (200 : Int) < (s.size : Int) := by omega
  clear hT h
  go_enter Tryd.func4, Tryd.ntmps4
  go_wp2_with (refine wpList_box 26 _ (bytesV hs) rfl rfl rfl ?_)
  intro w1 hA1 hb1 hs1
  have Hb1 := hide hb1
  clear hA1 hb1
  go_wp2_with fail
  refine (alive_any _ ((unhide HT).below (unhide Hb1) hsz)).mono ?_
  rintro e w2 ⟨rfl, hb2⟩
  have Hb2 := hide ((unhide Hb1).trans (hb2.mono (unhide Hb1).size))
  clear hb2 Hb1 hs1
  go_wp2
  go_ret
  exact ⟨rfl, unhide Hb2⟩

theorem walk (hs : List (BitVec 8)) (s : ByteArray) (w : World) (hT : Tabs w) (hl : hs.length = 32) (_ : s.size ≤ maxLen) :
    Calls Tryd.prog 4 #[.agg (bytesV hs).toArray, .string s] w fun e w' => e = .returned (.bool true) ∧ Below w.heap.size w w' := by
  by_cases h : s.size ≤ 200
  · have e : str (s.data.toList.map UInt8.toBitVec) = s := by
      unfold str
      rw [List.map_map, show UInt8.ofBitVec ∘ UInt8.toBitVec = id from rfl, List.map_id]
    have := main hs (s.data.toList.map UInt8.toBitVec) hl (by simpa using h) w hT
    rwa [e] at this
  · exact early s hs w hT (by omega)

end Go.Proofs.YtmmphnmgepbclaaDoor.digestTexts
