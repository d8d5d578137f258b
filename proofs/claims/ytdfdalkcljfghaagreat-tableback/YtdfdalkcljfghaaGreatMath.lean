/-
  A device as a list of sectors: what each call makes of it, the program's way and the document's way; that both tell the same. A device in parts: sizes, places, and what each call makes of it; that the program's device and the document's tell the same through parts.
-/
namespace Go.Proofs.YtdfdalkcljfghaaGreat

abbrev Sec := List UInt8
def blankS : Sec := List.replicate 64 255
def zeroS : Sec := List.replicate 64 0
def fullS (v : UInt8) : Sec := List.replicate 64 v
theorem blankS_len : blankS.length = 64 := by simp [blankS]
theorem zeroS_len : zeroS.length = 64 := by simp [zeroS]
theorem fullS_len (v : UInt8) : (fullS v).length = 64 := by simp [fullS]

/-- The program's device. -/
structure DM where
  kept : List Sec
  now : List Sec
  wait : List (Nat × Sec)
  wear : List Nat
  most : Nat
  budget : Int
  down : Bool

structure DM.Ok (d : DM) : Prop where
  now : d.now.length = d.kept.length
  wear : d.wear.length = d.kept.length
  nowS : ∀ s ∈ d.now, s.length = 64
  keptS : ∀ s ∈ d.kept, s.length = 64
  waitS : ∀ x ∈ d.wait, x.1 < d.kept.length ∧ x.2.length = 64
  low : -1 ≤ d.budget
  high : d.budget ≤ 9223372036854775807
  most : d.most ≤ 100000
  wearM : ∀ x ∈ d.wear, x ≤ d.most
  few : d.kept.length ≤ 4096

def hasD (n : Nat) (i : Int) : Bool := decide (0 ≤ i) && decide (i < (n : Int))
theorem hasD_true {n : Nat} {i : Int} (h : hasD n i = true) : 0 ≤ i ∧ i.toNat < n := by
  simp [hasD] at h
  omega
theorem hasD_nat {n : Nat} {i : Int} (h : hasD n i = true) : ∃ k : Nat, i = (k : Int) ∧ k < n := by
  have := hasD_true h
  exact ⟨i.toNat, by omega, by omega⟩

def stepD (d : DM) : Int × DM :=
  if d.budget = 0 then (62, { d with down := true }) else (0, { d with budget := if d.budget = -1 then -1 else d.budget - 1 })
def doD (d : DM) (i : Nat) (s : Sec) : DM := { d with now := d.now.set i s, wait := d.wait ++ [(i, s)] }
def openD (d : DM) (i : Int) : Int := if hasD d.kept.length i = false then 61 else if d.down = true then 62 else 0
def wornD (d : DM) (i : Nat) : DM := { d with wear := d.wear.set i (d.wear.getD i 0 + 1) }
def eraseD (d : DM) (i : Int) : Int × DM :=
  if openD d i ≠ 0 then (openD d i, d) else if d.most ≤ d.wear.getD i.toNat 0 then (64, d) else if (stepD d).1 ≠ 0 then stepD d
  else (0, doD (wornD (stepD d).2 i.toNat) i.toNat blankS)
def programD (d : DM) (i : Int) (s : Sec) : Int × DM :=
  if openD d i ≠ 0 then (openD d i, d) else if d.now.getD i.toNat [] ≠ blankS then (63, d) else if (stepD d).1 ≠ 0 then stepD d
  else (0, doD (stepD d).2 i.toNat s)
def layAll (k : List Sec) (l : List (Nat × Sec)) : List Sec := l.foldl (fun k x => k.set x.1 x.2) k
def keepD (d : DM) : DM := { d with kept := layAll d.kept d.wait, wait := [] }
def syncD (d : DM) : Int × DM :=
  if d.down = true then (62, d) else if (stepD d).1 ≠ 0 then stepD d else (0, keepD (stepD d).2)
def over (n : Nat) (new old : Sec) : Sec := new.take n ++ old.drop n
def layOne (k : List Sec) (x : Nat × Sec) (b : UInt8) : List Sec := k.set x.1 (over (min b.toNat 64) x.2 (k.getD x.1 []))
def layKept : List Sec → List (Nat × Sec) → List UInt8 → List Sec
  | k, x :: l, b :: bs => layKept (layOne k x b) l bs
  | k, _, _ => k
def restartD (d : DM) (bs : List UInt8) : DM :=
  { d with kept := layKept d.kept d.wait bs, now := layKept d.kept d.wait bs, wait := [], budget := -1, down := false }
def budgetD (d : DM) (s : Int) : DM := { d with budget := max s (-1) }
def clampD (n : Int) (most : Nat) : Nat := (min (max n 0) most).toNat
def newD (s w : Int) : DM :=
  { kept := List.replicate (clampD s 4096) blankS, now := List.replicate (clampD s 4096) blankS, wait := [], wear := List.replicate (clampD s 4096) 0, most := clampD w 100000, budget := -1, down := false }
def readD (d : DM) (i : Int) : Sec × Int := if hasD d.kept.length i = true then (d.now.getD i.toNat [], 0) else (zeroS, 61)
def wearD (d : DM) (i : Int) : Nat := if hasD d.kept.length i = true then d.wear.getD i.toNat 0 else 0

theorem layAll_len : ∀ (l : List (Nat × Sec)) (k : List Sec), (layAll k l).length = k.length
  | [], _ => rfl
  | x :: l, k => by
    show (layAll (k.set x.1 x.2) l).length = _
    rw [layAll_len l]; simp
theorem layKept_len : ∀ (l : List (Nat × Sec)) (k : List Sec) (bs : List UInt8), (layKept k l bs).length = k.length
  | [], _, _ => by simp [layKept]
  | x :: l, _, [] => by simp [layKept]
  | x :: l, k, b :: bs => by
    rw [layKept, layKept_len l]; simp [layOne]
theorem set_mem {α : Type} {P : α → Prop} {l : List α} (h : ∀ s ∈ l, P s) (i : Nat) (v : α) (hv : P v) : ∀ s ∈ l.set i v, P s := by
  intro s hs
  rcases List.mem_or_eq_of_mem_set hs with h1 | h1
  · exact h s h1
  · rw [h1]; exact hv
theorem getD_mem64 {l : List Sec} (h : ∀ s ∈ l, s.length = 64) {i : Nat} (hi : i < l.length) : (l.getD i []).length = 64 := by
  rw [List.getD_eq_getElem?_getD, List.getElem?_eq_getElem hi]
  exact h _ (List.getElem_mem hi)
theorem layAll_64 : ∀ (l : List (Nat × Sec)) (k : List Sec), (∀ s ∈ k, s.length = 64) → (∀ x ∈ l, x.2.length = 64) → ∀ s ∈ layAll k l, s.length = 64
  | [], _, h, _ => h
  | x :: l, k, h, hl => layAll_64 l (k.set x.1 x.2) (set_mem h _ _ (hl x (by simp))) (fun y hy => hl y (by simp [hy]))
theorem over_len {n : Nat} {a b : Sec} (ha : a.length = 64) (hb : b.length = 64) (hn : n ≤ 64) : (over n a b).length = 64 := by
  simp [over, ha, hb]; omega
theorem layOne_64 {k : List Sec} (h : ∀ s ∈ k, s.length = 64) {x : Nat × Sec} (hx : x.1 < k.length ∧ x.2.length = 64) (b : UInt8) : ∀ s ∈ layOne k x b, s.length = 64 :=
  set_mem h _ _ (over_len hx.2 (getD_mem64 h hx.1) (Nat.min_le_right _ _))
theorem layKept_64 : ∀ (l : List (Nat × Sec)) (k : List Sec) (bs : List UInt8), (∀ s ∈ k, s.length = 64) → (∀ x ∈ l, x.1 < k.length ∧ x.2.length = 64) → ∀ s ∈ layKept k l bs, s.length = 64
  | [], _, _, h, _ => by simpa [layKept] using h
  | x :: l, _, [], h, _ => by simpa [layKept] using h
  | x :: l, k, b :: bs, h, hl => by
    rw [layKept]
    refine layKept_64 l _ bs (layOne_64 h (hl x (by simp)) b) (fun y hy => ?_)
    have := hl y (by simp [hy])
    simpa [layOne] using this

theorem clampD_le (n : Int) (m : Nat) : clampD n m ≤ m := by unfold clampD; omega

theorem DM.Ok.step {d : DM} (h : d.Ok) : (stepD d).2.Ok := by
  unfold stepD
  split
  · exact { h with }
  · have h1 := h.low
    have h2 := h.high
    refine { h with low := ?_, high := ?_ }
    · show -1 ≤ (if d.budget = -1 then -1 else d.budget - 1)
      split <;> omega
    · show (if d.budget = -1 then -1 else d.budget - 1) ≤ _
      split <;> omega
theorem step_kept (d : DM) : (stepD d).2.kept = d.kept := by unfold stepD; split <;> rfl
theorem step_now (d : DM) : (stepD d).2.now = d.now := by unfold stepD; split <;> rfl
theorem step_wear (d : DM) : (stepD d).2.wear = d.wear := by unfold stepD; split <;> rfl
theorem step_most (d : DM) : (stepD d).2.most = d.most := by unfold stepD; split <;> rfl
theorem step_wait (d : DM) : (stepD d).2.wait = d.wait := by unfold stepD; split <;> rfl
theorem DM.Ok.do {d : DM} (h : d.Ok) {i : Nat} (hi : i < d.kept.length) {s : Sec} (hs : s.length = 64) : (doD d i s).Ok := by
  refine { h with now := ?_, nowS := set_mem h.nowS _ _ hs, waitS := ?_ }
  · show (d.now.set i s).length = d.kept.length
    rw [List.length_set]; exact h.now
  · intro x hx
    rcases List.mem_append.1 hx with h1 | h1
    · exact h.waitS x h1
    · simp at h1
      subst h1
      exact ⟨hi, hs⟩
theorem DM.Ok.worn {d : DM} (h : d.Ok) {i : Nat} (hi : d.wear.getD i 0 < d.most) : (wornD d i).Ok := by
  refine { h with wear := ?_, wearM := set_mem h.wearM _ _ hi }
  show (d.wear.set i _).length = d.kept.length
  rw [List.length_set]; exact h.wear
theorem DM.Ok.keep {d : DM} (h : d.Ok) : (keepD d).Ok := by
  have e : (keepD d).kept.length = d.kept.length := layAll_len _ _
  refine { h with now := by rw [e]; exact h.now, wear := by rw [e]; exact h.wear, keptS := layAll_64 _ _ h.keptS (fun x hx => (h.waitS x hx).2), waitS := ?_, few := by rw [e]; exact h.few }
  intro x hx
  cases hx
theorem DM.Ok.restart {d : DM} (h : d.Ok) (bs : List UInt8) : (restartD d bs).Ok := by
  have e : (restartD d bs).kept.length = d.kept.length := layKept_len _ _ _
  have hs := layKept_64 d.wait d.kept bs h.keptS h.waitS
  refine { now := rfl, wear := by rw [e]; exact h.wear, nowS := hs, keptS := hs, waitS := ?_, low := Int.le_refl _, high := by show (-1 : Int) ≤ _; decide, most := h.most, wearM := h.wearM, few := by rw [e]; exact h.few }
  intro x hx
  cases hx
theorem DM.Ok.budget {d : DM} (h : d.Ok) (s : Int) (hs : s ≤ 9223372036854775807) : (budgetD d s).Ok := by
  refine { h with low := ?_, high := ?_ }
  · show -1 ≤ max s (-1); omega
  · show max s (-1) ≤ _; omega
theorem newD_ok (s w : Int) : (newD s w).Ok := by
  have hb : ∀ x ∈ List.replicate (clampD s 4096) blankS, x.length = 64 := by
    intro x hx
    rw [(List.mem_replicate.1 hx).2]; exact blankS_len
  refine { now := by simp [newD], wear := by simp [newD], nowS := hb, keptS := hb, waitS := ?_, low := Int.le_refl _, high := by show (-1 : Int) ≤ _; decide, most := clampD_le _ _, wearM := ?_, few := ?_ }
  · intro x hx; cases hx
  · intro x hx
    rw [(List.mem_replicate.1 hx).2]; exact Nat.zero_le _
  · simp [newD]; exact clampD_le _ _

theorem openD_zero {d : DM} {i : Int} (h : openD d i = 0) : hasD d.kept.length i = true ∧ d.down = false := by
  unfold openD at h
  cases h1 : hasD d.kept.length i <;> simp [h1] at h
  exact ⟨rfl, by simpa using h⟩
theorem DM.Ok.erase {d : DM} (h : d.Ok) (i : Int) : (eraseD d i).2.Ok := by
  unfold eraseD
  by_cases h1 : openD d i = 0
  · rw [if_neg (by simp [h1])]
    have := hasD_true (openD_zero h1).1
    by_cases h2 : d.most ≤ d.wear.getD i.toNat 0
    · rw [if_pos h2]; exact h
    · rw [if_neg h2]
      split
      · exact h.step
      · refine (h.step.worn ?_).do ?_ blankS_len
        · rw [step_wear, step_most]; omega
        · show i.toNat < (stepD d).2.kept.length
          rw [step_kept]; omega
  · rw [if_pos h1]; exact h
theorem DM.Ok.program {d : DM} (h : d.Ok) (i : Int) {s : Sec} (hs : s.length = 64) : (programD d i s).2.Ok := by
  unfold programD
  by_cases h1 : openD d i = 0
  · rw [if_neg (by simp [h1])]
    have := hasD_true (openD_zero h1).1
    split
    · exact h
    · split
      · exact h.step
      · refine h.step.do ?_ hs
        rw [step_kept]; omega
  · rw [if_pos h1]; exact h
theorem DM.Ok.sync {d : DM} (h : d.Ok) : (syncD d).2.Ok := by
  unfold syncD
  split
  · exact h
  · split
    · exact h.step
    · exact h.step.keep

/-- The document's device. -/
structure RM where
  kept : List Sec
  wear : List Nat
  most : Nat
  done : List (Nat × Sec)
  limited : Bool
  budget : Int
  down : Bool

structure RM.Ok (r : RM) : Prop where
  wear : r.wear.length = r.kept.length
  keptS : ∀ s ∈ r.kept, s.length = 64
  doneS : ∀ x ∈ r.done, x.1 < r.kept.length ∧ x.2.length = 64
  low : r.limited = true → 0 ≤ r.budget
  high : r.budget ≤ 9223372036854775807
  most : r.most ≤ 100000
  wearM : ∀ x ∈ r.wear, x ≤ r.most
  few : r.kept.length ≤ 4096

def lastOf (s : Sec) (i : Nat) (l : List (Nat × Sec)) : Sec := l.foldl (fun s x => if x.1 = i then x.2 else s) s
def readR (r : RM) (i : Int) : Sec × Int := if hasD r.kept.length i = true then (lastOf (r.kept.getD i.toNat []) i.toNat r.done, 0) else (zeroS, 61)
def spendR (r : RM) : Bool × RM :=
  if r.limited = true ∧ r.budget = 0 then (false, { r with down := true }) else (true, { r with budget := if r.limited = true then r.budget - 1 else r.budget })
def doneR (r : RM) (i : Nat) (s : Sec) : RM := { r with done := r.done ++ [(i, s)] }
def wornR (r : RM) (i : Nat) : RM := { r with wear := r.wear.set i (r.wear.getD i 0 + 1) }
def eraseR (r : RM) (i : Int) : Int × RM :=
  if hasD r.kept.length i = false then (61, r) else if r.down = true then (62, r) else if r.wear.getD i.toNat 0 = r.most then (64, r)
  else if (spendR r).1 = false then (62, (spendR r).2) else (0, doneR (wornR (spendR r).2 i.toNat) i.toNat blankS)
def programR (r : RM) (i : Int) (s : Sec) : Int × RM :=
  if (readR r i).2 ≠ 0 then ((readR r i).2, r) else if r.down = true then (62, r) else if (readR r i).1 ≠ blankS then (63, r)
  else if (spendR r).1 = false then (62, (spendR r).2) else (0, doneR (spendR r).2 i.toNat s)
def keepR (r : RM) : RM := { r with kept := layAll r.kept r.done, done := [] }
def syncR (r : RM) : Int × RM := if r.down = true then (62, r) else if (spendR r).1 = false then (62, (spendR r).2) else (0, keepR (spendR r).2)
def limitR (r : RM) (s : Int) : RM := { r with limited := decide (0 ≤ s), budget := s }
def restartR (r : RM) (bs : List UInt8) : RM := { r with kept := layKept r.kept r.done bs, done := [], limited := false, down := false }
def newR (s w : Int) : RM :=
  { kept := List.replicate (clampD s 4096) blankS, wear := List.replicate (clampD s 4096) 0, most := clampD w 100000, done := [], limited := false, budget := 0, down := false }

/-- Both tell of one device. -/
structure Sim (d : DM) (r : RM) : Prop where
  kept : r.kept = d.kept
  wear : r.wear = d.wear
  most : r.most = d.most
  wait : r.done = d.wait
  down : r.down = d.down
  budget : d.budget = if r.limited = true then r.budget else -1
  low : r.limited = true → 0 ≤ r.budget
  high : r.budget ≤ 9223372036854775807
  now : d.now = layAll d.kept d.wait

theorem Sim.rok {d : DM} {r : RM} (h : Sim d r) (k : d.Ok) : r.Ok :=
  { wear := by rw [h.wear, h.kept]; exact k.wear, keptS := by rw [h.kept]; exact k.keptS, doneS := by rw [h.wait, h.kept]; exact k.waitS, low := h.low, high := h.high,
    most := by rw [h.most]; exact k.most, wearM := by rw [h.wear, h.most]; exact k.wearM, few := by rw [h.kept]; exact k.few }

theorem layAll_snoc (k : List Sec) (l : List (Nat × Sec)) (x : Nat × Sec) : layAll k (l ++ [x]) = (layAll k l).set x.1 x.2 := by
  simp [layAll, List.foldl_append]
theorem lastOf_layAll : ∀ (l : List (Nat × Sec)) (k : List Sec) (i : Nat), i < k.length → lastOf (k.getD i []) i l = (layAll k l).getD i []
  | [], _, _, _ => rfl
  | x :: l, k, i, hi => by
    show lastOf (if x.1 = i then x.2 else k.getD i []) i l = (layAll (k.set x.1 x.2) l).getD i []
    rw [← lastOf_layAll l (k.set x.1 x.2) i (by simpa using hi)]
    congr 1
    rw [List.getD_eq_getElem?_getD, List.getD_eq_getElem?_getD]
    by_cases h : x.1 = i
    · rw [if_pos h, h, List.getElem?_set_self hi]; rfl
    · rw [if_neg h, List.getElem?_set_ne h]

theorem Sim.read {d : DM} {r : RM} (h : Sim d r) (i : Int) : readR r i = readD d i := by
  unfold readR readD
  rw [h.kept, h.wait, h.now]
  cases hb : hasD d.kept.length i with
  | false => rfl
  | true =>
    have := hasD_true hb
    rw [if_pos rfl, if_pos rfl, lastOf_layAll _ _ _ this.2]
theorem Sim.spend {d : DM} {r : RM} (h : Sim d r) : Sim (stepD d).2 (spendR r).2 ∧ (stepD d).1 = (if (spendR r).1 = false then 62 else 0) := by
  obtain ⟨dk, dn, dw, dwe, dm, db, dd⟩ := d
  obtain ⟨rk, rwe, rm, rd, rl, rb, rdn⟩ := r
  obtain ⟨h1, h2, h3, h4, h5, h6, h7, h8, h9⟩ := h
  simp only at h1 h2 h3 h4 h5 h6 h7 h8 h9
  cases rl with
  | false =>
    simp only [Bool.false_eq_true, if_false] at h6
    subst h6
    exact ⟨⟨h1, h2, h3, h4, h5, rfl, (fun e => absurd e (by simp [spendR])), h8, h9⟩, rfl⟩
  | true =>
    simp only [if_true] at h6
    subst h6
    have hlow := h7 rfl
    by_cases h0 : db = 0
    · subst h0
      exact ⟨⟨h1, h2, h3, h4, rfl, rfl, fun _ => Int.le_refl _, h8, h9⟩, rfl⟩
    · have e1 : stepD ⟨dk, dn, dw, dwe, dm, db, dd⟩ = (0, ⟨dk, dn, dw, dwe, dm, db - 1, dd⟩) := by
        unfold stepD
        rw [if_neg h0, if_neg (by show ¬ db = -1; omega)]
      have e2 : spendR ⟨rk, rwe, rm, rd, true, db, rdn⟩ = (true, ⟨rk, rwe, rm, rd, true, db - 1, rdn⟩) := by
        unfold spendR
        rw [if_neg (fun e => h0 e.2)]
        rfl
      rw [e1, e2]
      exact ⟨⟨h1, h2, h3, h4, h5, rfl, fun _ => by show 0 ≤ db - 1; omega, by show db - 1 ≤ _; omega, h9⟩, rfl⟩
theorem spend_kept (r : RM) : (spendR r).2.kept = r.kept := by unfold spendR; split <;> rfl
theorem spend_wear (r : RM) : (spendR r).2.wear = r.wear := by unfold spendR; split <;> rfl
theorem spend_done (r : RM) : (spendR r).2.done = r.done := by unfold spendR; split <;> rfl
theorem Sim.do {d : DM} {r : RM} (h : Sim d r) (i : Nat) (s : Sec) : Sim (doD d i s) (doneR r i s) := by
  refine { h with wait := ?_, now := ?_ }
  · show r.done ++ [(i, s)] = d.wait ++ [(i, s)]
    rw [h.wait]
  · show d.now.set i s = layAll d.kept (d.wait ++ [(i, s)])
    rw [layAll_snoc, ← h.now]
theorem Sim.worn {d : DM} {r : RM} (h : Sim d r) (i : Nat) : Sim (wornD d i) (wornR r i) := by
  refine { h with wear := ?_ }
  show r.wear.set i (r.wear.getD i 0 + 1) = d.wear.set i (d.wear.getD i 0 + 1)
  rw [h.wear]
theorem Sim.keep {d : DM} {r : RM} (h : Sim d r) : Sim (keepD d) (keepR r) := by
  refine { h with kept := ?_, wait := rfl, now := ?_ }
  · show layAll r.kept r.done = layAll d.kept d.wait
    rw [h.kept, h.wait]
  · show d.now = layAll (layAll d.kept d.wait) []
    exact h.now
theorem Sim.erase {d : DM} {r : RM} (h : Sim d r) (k : d.Ok) (i : Int) : (eraseD d i).1 = (eraseR r i).1 ∧ Sim (eraseD d i).2 (eraseR r i).2 := by
  unfold eraseD eraseR openD
  rw [h.kept, h.down, h.wear, h.most]
  cases hh : hasD d.kept.length i with
  | false => simpa using h
  | true =>
    cases hdn : d.down with
    | true => simpa using h
    | false =>
      have hi := (hasD_true hh).2
      have hw : d.wear.getD i.toNat 0 ≤ d.most := by
        rw [List.getD_eq_getElem?_getD, List.getElem?_eq_getElem (by rw [k.wear]; exact hi)]
        exact k.wearM _ (List.getElem_mem _)
      simp only [Bool.true_eq_false, Bool.false_eq_true, if_false, ne_eq, not_true_eq_false]
      by_cases hq : d.most ≤ d.wear.getD i.toNat 0
      · have hq2 : d.wear.getD i.toNat 0 = d.most := by omega
        rw [if_pos hq, if_pos hq2]
        exact ⟨rfl, h⟩
      · have hq2 : ¬ d.wear.getD i.toNat 0 = d.most := by omega
        rw [if_neg hq, if_neg hq2]
        obtain ⟨hs, he⟩ := h.spend
        rcases Bool.eq_false_or_eq_true (spendR r).1 with hsp | hsp
        · have A : ¬ (spendR r).1 = false := by rw [hsp]; decide
          rw [if_neg A] at he
          have B : ¬ (stepD d).1 ≠ 0 := by rw [he]; decide
          rw [if_neg B, if_neg A]
          exact ⟨rfl, (hs.worn _).do _ _⟩
        · rw [if_pos hsp] at he
          have B : (stepD d).1 ≠ 0 := by rw [he]; decide
          rw [if_pos B, if_pos hsp]
          exact ⟨he, hs⟩
theorem Sim.program {d : DM} {r : RM} (h : Sim d r) (i : Int) (s : Sec) : (programD d i s).1 = (programR r i s).1 ∧ Sim (programD d i s).2 (programR r i s).2 := by
  have hr := h.read i
  unfold programD programR
  rw [hr]
  unfold readD openD
  rw [h.down]
  cases hh : hasD d.kept.length i with
  | false => simpa using h
  | true =>
    cases hdn : d.down with
    | true => simpa using h
    | false =>
      simp only [Bool.true_eq_false, Bool.false_eq_true, if_false, if_true, ne_eq, not_true_eq_false]
      by_cases hq : d.now.getD i.toNat [] = blankS
      · have hq2 : ¬ ¬ d.now.getD i.toNat [] = blankS := fun e => e hq
        rw [if_neg hq2, if_neg hq2]
        obtain ⟨hs, he⟩ := h.spend
        rcases Bool.eq_false_or_eq_true (spendR r).1 with hsp | hsp
        · have A : ¬ (spendR r).1 = false := by rw [hsp]; decide
          rw [if_neg A] at he
          have B : ¬ (stepD d).1 ≠ 0 := by rw [he]; decide
          rw [if_neg B, if_neg A]
          exact ⟨rfl, hs.do _ _⟩
        · rw [if_pos hsp] at he
          have B : (stepD d).1 ≠ 0 := by rw [he]; decide
          rw [if_pos B, if_pos hsp]
          exact ⟨he, hs⟩
      · rw [if_pos hq, if_pos hq]
        exact ⟨rfl, h⟩
theorem Sim.sync {d : DM} {r : RM} (h : Sim d r) : (syncD d).1 = (syncR r).1 ∧ Sim (syncD d).2 (syncR r).2 := by
  unfold syncD syncR
  rw [h.down]
  cases hdn : d.down with
  | true => simpa using h
  | false =>
    simp only [Bool.false_eq_true, if_false]
    obtain ⟨hs, he⟩ := h.spend
    rcases Bool.eq_false_or_eq_true (spendR r).1 with hsp | hsp
    · have A : ¬ (spendR r).1 = false := by rw [hsp]; decide
      rw [if_neg A] at he
      have B : ¬ (stepD d).1 ≠ 0 := by rw [he]; decide
      rw [if_neg B, if_neg A]
      exact ⟨rfl, hs.keep⟩
    · rw [if_pos hsp] at he
      have B : (stepD d).1 ≠ 0 := by rw [he]; decide
      rw [if_pos B, if_pos hsp]
      exact ⟨he, hs⟩
theorem Sim.limit {d : DM} {r : RM} (h : Sim d r) (s : Int) (hs : s ≤ 9223372036854775807) : Sim (budgetD d s) (limitR r s) := by
  refine { h with budget := ?_, low := ?_, high := hs }
  · show max s (-1) = if decide (0 ≤ s) = true then s else -1
    by_cases h0 : 0 ≤ s
    · rw [if_pos (by simpa using h0)]; omega
    · rw [if_neg (by simpa using h0)]; omega
  · intro e
    show 0 ≤ s
    simpa [limitR] using e
theorem Sim.restart {d : DM} {r : RM} (h : Sim d r) (bs : List UInt8) : Sim (restartD d bs) (restartR r bs) := by
  refine { h with kept := ?_, wait := rfl, down := rfl, budget := rfl, low := ?_, now := rfl }
  · show layKept r.kept r.done bs = layKept d.kept d.wait bs
    rw [h.kept, h.wait]
  · intro e; cases e
theorem Sim.new (s w : Int) : Sim (newD s w) (newR s w) :=
  { kept := rfl, wear := rfl, most := rfl, wait := rfl, down := rfl, budget := rfl, low := by intro e; (cases e), high := by show (0 : Int) ≤ _; decide, now := rfl }
end Go.Proofs.YtdfdalkcljfghaaGreat

namespace Go.Proofs.YtdfdalkcljfghaaGreat

/-- Something done: kind, part, place, by whom. -/
abbrev OpT := Int × Int × Int × Int
structure MX where
  sz : List Nat
  who : Int
  ops : List OpT
structure MX.Ok (x : MX) (n : Nat) : Prop where
  one : ∀ s ∈ x.sz, 1 ≤ s
  few : x.sz.length ≤ 16
  sum : x.sz.sum ≤ n
def MX.did (x : MX) (k part at_ : Int) : MX := { x with ops := x.ops ++ [(k, part, at_, x.who)] }
def MX.told (x : MX) : MX := { x with ops := [] }
def MX.as (x : MX) (b : Int) : MX := { x with who := b }

/-- Where part k begins. -/
def bnd (sz : List Nat) (k : Nat) : Nat := (sz.take k).sum
theorem bnd_zero (sz : List Nat) : bnd sz 0 = 0 := by simp [bnd]
theorem bnd_succ {sz : List Nat} {k : Nat} (h : k < sz.length) : bnd sz (k + 1) = bnd sz k + sz.getD k 0 := by
  unfold bnd
  rw [List.take_add_one, List.sum_append, List.getD_eq_getElem?_getD, List.getElem?_eq_getElem h]
  simp
theorem bnd_all (sz : List Nat) : bnd sz sz.length = sz.sum := by simp [bnd]
theorem bnd_le (sz : List Nat) (k : Nat) : bnd sz k ≤ sz.sum := by
  unfold bnd
  have h := congrArg List.sum (List.take_append_drop k sz)
  rw [List.sum_append] at h
  omega
theorem bnd_mono (sz : List Nat) {j k : Nat} (h : j ≤ k) : bnd sz j ≤ bnd sz k := by
  have e : bnd (sz.take k) j = bnd sz j := by unfold bnd; rw [List.take_take, Nat.min_eq_left h]
  rw [← e]
  exact bnd_le (sz.take k) j
theorem bnd_part {sz : List Nat} {k : Nat} (h : k < sz.length) : bnd sz k + sz.getD k 0 ≤ sz.sum := by
  rw [← bnd_succ h]; exact bnd_le _ _

def sizeX (sz : List Nat) (part : Int) : Nat := if hasD sz.length part = true then sz.getD part.toNat 0 else 0
def placeX (sz : List Nat) (part at_ : Int) : Int × Int :=
  if hasD sz.length part = false then (0, 71) else if hasD (sz.getD part.toNat 0) at_ = false then (0, 61) else (((bnd sz part.toNat : Nat) : Int) + at_, 0)
theorem sizeX_le (sz : List Nat) (part : Int) : sizeX sz part ≤ sz.sum := by
  unfold sizeX
  split
  · rename_i h
    have := bnd_part (hasD_true h).2
    omega
  · omega
theorem place_in {sz : List Nat} {part at_ : Int} (h : (placeX sz part at_).2 = 0) : ∃ k i : Nat, part = k ∧ at_ = i ∧ k < sz.length ∧ i < sz.getD k 0 ∧ (placeX sz part at_).1 = ((bnd sz k + i : Nat) : Int) := by
  unfold placeX at h ⊢
  cases h1 : hasD sz.length part with
  | false => simp [h1] at h
  | true =>
    cases h2 : hasD (sz.getD part.toNat 0) at_ with
    | false =>
      rw [h1, if_neg (by decide), h2, if_pos rfl] at h
      exact absurd h (by decide)
    | true =>
      obtain ⟨k, rfl, hk⟩ := hasD_nat h1
      obtain ⟨i, rfl, hi⟩ := hasD_nat h2
      exact ⟨k, i, rfl, rfl, hk, by simpa using hi, by simp⟩
theorem place_some {sz : List Nat} {k i : Nat} (hk : k < sz.length) (hi : i < sz.getD k 0) : placeX sz (k : Int) (i : Int) = (((bnd sz k + i : Nat) : Int), 0) := by
  have h1 : hasD sz.length (k : Int) = true := by simp [hasD]; omega
  have h2 : hasD (sz.getD (k : Int).toNat 0) (i : Int) = true := by
    simp only [Int.toNat_natCast]
    unfold hasD
    rw [decide_eq_true (by omega), decide_eq_true (by omega)]; rfl
  unfold placeX
  rw [if_neg (by rw [h1]; decide), if_neg (by rw [h2]; decide)]
  simp
theorem size_some {sz : List Nat} {k : Nat} (hk : k < sz.length) : sizeX sz (k : Int) = sz.getD k 0 := by
  have h1 : hasD sz.length (k : Int) = true := by simp [hasD]; omega
  unfold sizeX
  rw [if_pos h1]; simp

section
variable {δ ε : Type}
def readG (rd : δ → Int → Sec × Int) (d : δ) (sz : List Nat) (part at_ : Int) : Sec × Int :=
  if (placeX sz part at_).2 ≠ 0 then (zeroS, (placeX sz part at_).2) else rd d (placeX sz part at_).1
def opG (kind : Int) (f : δ → Int → Int × δ) (d : δ) (x : MX) (part at_ : Int) : Int × δ × MX :=
  if (placeX x.sz part at_).2 ≠ 0 then ((placeX x.sz part at_).2, d, x)
  else if (f d (placeX x.sz part at_).1).1 ≠ 0 then ((f d (placeX x.sz part at_).1).1, (f d (placeX x.sz part at_).1).2, x)
  else (0, (f d (placeX x.sz part at_).1).2, x.did kind part at_)
def wipeG (rd : δ → Int → Sec × Int) (er : δ → Int → Int × δ) (d : δ) (x : MX) (part : Int) : Nat → Nat → Int × δ × MX
  | _, 0 => (0, d, x)
  | at_, n + 1 =>
    if (readG rd d x.sz part (at_ : Int)).1 = blankS then wipeG rd er d x part (at_ + 1) n
    else if (opG 1 er d x part (at_ : Int)).1 ≠ 0 then opG 1 er d x part (at_ : Int)
    else wipeG rd er (opG 1 er d x part (at_ : Int)).2.1 (opG 1 er d x part (at_ : Int)).2.2 part (at_ + 1) n
def wipeAll (rd : δ → Int → Sec × Int) (er : δ → Int → Int × δ) (d : δ) (x : MX) (part : Int) : Int × δ × MX :=
  if hasD x.sz.length part = false then (71, d, x) else wipeG rd er d x part 0 (sizeX x.sz part)
/-- The first n sectors of a part. -/
def someG (rd : δ → Int → Sec × Int) (d : δ) (sz : List Nat) (part : Int) (n : Nat) : List UInt8 := ((List.range n).map fun k => (readG rd d sz part ((k : Nat) : Int)).1).flatten
def allG (rd : δ → Int → Sec × Int) (d : δ) (sz : List Nat) (part : Int) : List UInt8 := someG rd d sz part (sizeX sz part)
theorem someG_zero (rd : δ → Int → Sec × Int) (d : δ) (sz : List Nat) (part : Int) : someG rd d sz part 0 = [] := by simp [someG]
theorem someG_succ (rd : δ → Int → Sec × Int) (d : δ) (sz : List Nat) (part : Int) (n : Nat) : someG rd d sz part (n + 1) = someG rd d sz part n ++ (readG rd d sz part ((n : Nat) : Int)).1 := by
  simp [someG, List.range_succ]

theorem opG_sz (kind : Int) (f : δ → Int → Int × δ) (d : δ) (x : MX) (part at_ : Int) : (opG kind f d x part at_).2.2.sz = x.sz := by
  unfold opG; split
  · rfl
  · split <;> rfl
theorem opG_who (kind : Int) (f : δ → Int → Int × δ) (d : δ) (x : MX) (part at_ : Int) : (opG kind f d x part at_).2.2.who = x.who := by
  unfold opG; split
  · rfl
  · split <;> rfl
theorem opG_ops (kind : Int) (f : δ → Int → Int × δ) (d : δ) (x : MX) (part at_ : Int) : (opG kind f d x part at_).2.2.ops.length ≤ x.ops.length + 1 := by
  unfold opG; split
  · show x.ops.length ≤ _; omega
  · split
    · show x.ops.length ≤ _; omega
    · show (x.ops ++ [_]).length ≤ _; simp

theorem readG_same {rd : δ → Int → Sec × Int} {re : ε → Int → Sec × Int} {d : δ} {r : ε} (h : ∀ i, re r i = rd d i) (sz : List Nat) (part at_ : Int) : readG re r sz part at_ = readG rd d sz part at_ := by
  unfold readG; rw [h]
theorem someG_same {rd : δ → Int → Sec × Int} {re : ε → Int → Sec × Int} {d : δ} {r : ε} (h : ∀ i, re r i = rd d i) (sz : List Nat) (part : Int) (n : Nat) : someG re r sz part n = someG rd d sz part n := by
  unfold someG; simp only [readG_same h]
theorem opG_same {R : δ → ε → Prop} {f : δ → Int → Int × δ} {g : ε → Int → Int × ε} (h : ∀ d r i, R d r → (g r i).1 = (f d i).1 ∧ R (f d i).2 (g r i).2) (kind : Int) {d : δ} {r : ε} (hR : R d r) (x : MX) (part at_ : Int) :
    (opG kind g r x part at_).1 = (opG kind f d x part at_).1 ∧ (opG kind g r x part at_).2.2 = (opG kind f d x part at_).2.2 ∧ R (opG kind f d x part at_).2.1 (opG kind g r x part at_).2.1 := by
  have hh := h d r (placeX x.sz part at_).1 hR
  unfold opG
  split
  · exact ⟨rfl, rfl, hR⟩
  · rw [hh.1]
    split
    · exact ⟨rfl, rfl, hh.2⟩
    · exact ⟨rfl, rfl, hh.2⟩
theorem wipeG_same {R : δ → ε → Prop} {rd : δ → Int → Sec × Int} {re : ε → Int → Sec × Int} {f : δ → Int → Int × δ} {g : ε → Int → Int × ε} (hr : ∀ d r i, R d r → re r i = rd d i)
    (h : ∀ d r i, R d r → (g r i).1 = (f d i).1 ∧ R (f d i).2 (g r i).2) (part : Int) : ∀ (n at_ : Nat) {d : δ} {r : ε} (_ : R d r) (x : MX),
    (wipeG re g r x part at_ n).1 = (wipeG rd f d x part at_ n).1 ∧ (wipeG re g r x part at_ n).2.2 = (wipeG rd f d x part at_ n).2.2 ∧ R (wipeG rd f d x part at_ n).2.1 (wipeG re g r x part at_ n).2.1
  | 0, _, _, _, hR, x => ⟨rfl, rfl, hR⟩
  | n + 1, at_, d, r, hR, x => by
    have h1 := readG_same (hr d r · hR) x.sz part (at_ : Int)
    have h2 := opG_same h 1 hR x part (at_ : Int)
    unfold wipeG
    rw [h1]
    split
    · exact wipeG_same hr h part n (at_ + 1) hR x
    · rw [h2.1]
      split
      · exact h2
      · rw [h2.2.1]
        exact wipeG_same hr h part n (at_ + 1) h2.2.2 _
theorem wipeAll_same {R : δ → ε → Prop} {rd : δ → Int → Sec × Int} {re : ε → Int → Sec × Int} {f : δ → Int → Int × δ} {g : ε → Int → Int × ε} (hr : ∀ d r i, R d r → re r i = rd d i)
    (h : ∀ d r i, R d r → (g r i).1 = (f d i).1 ∧ R (f d i).2 (g r i).2) {d : δ} {r : ε} (hR : R d r) (x : MX) (part : Int) :
    (wipeAll re g r x part).1 = (wipeAll rd f d x part).1 ∧ (wipeAll re g r x part).2.2 = (wipeAll rd f d x part).2.2 ∧ R (wipeAll rd f d x part).2.1 (wipeAll re g r x part).2.1 := by
  unfold wipeAll
  split
  · exact ⟨rfl, rfl, hR⟩
  · exact wipeG_same hr h part _ _ hR x
end

abbrev readM := readG readD
abbrev eraseM := opG 1 eraseD
abbrev programM (s : Sec) := opG 2 (fun d i => programD d i s)
abbrev wipeM := wipeAll readD eraseD
abbrev allM := allG readD

/-- Both tell of one device. -/
def Both (d : DM) (r : RM) : Prop := Sim d r ∧ d.Ok
theorem Both.erase (d : DM) (r : RM) (i : Int) (h : Both d r) : (eraseR r i).1 = (eraseD d i).1 ∧ Both (eraseD d i).2 (eraseR r i).2 :=
  ⟨(h.1.erase h.2 i).1.symm, (h.1.erase h.2 i).2, h.2.erase i⟩
theorem Both.program {s : Sec} (hs : s.length = 64) (d : DM) (r : RM) (i : Int) (h : Both d r) : (programR r i s).1 = (programD d i s).1 ∧ Both (programD d i s).2 (programR r i s).2 :=
  ⟨(h.1.program i s).1.symm, (h.1.program i s).2, h.2.program i hs⟩
theorem Both.read (d : DM) (r : RM) (i : Int) (h : Both d r) : readR r i = readD d i := h.1.read i

theorem erase_kept (d : DM) (i : Int) : (eraseD d i).2.kept = d.kept := by
  unfold eraseD
  split
  · rfl
  · split
    · rfl
    · split
      · exact step_kept d
      · show (stepD d).2.kept = _
        exact step_kept d
theorem program_kept (d : DM) (i : Int) (s : Sec) : (programD d i s).2.kept = d.kept := by
  unfold programD
  split
  · rfl
  · split
    · rfl
    · split
      · exact step_kept d
      · show (stepD d).2.kept = _
        exact step_kept d
theorem sync_len (d : DM) : (syncD d).2.kept.length = d.kept.length := by
  unfold syncD
  split
  · rfl
  · split
    · rw [step_kept]
    · show (layAll (stepD d).2.kept (stepD d).2.wait).length = _
      rw [layAll_len, step_kept]
theorem opG_kept (kind : Int) {f : DM → Int → Int × DM} (hf : ∀ d i, (f d i).2.kept = d.kept) (d : DM) (x : MX) (part at_ : Int) : (opG kind f d x part at_).2.1.kept = d.kept := by
  unfold opG; split
  · rfl
  · split <;> exact hf _ _

/-- Can such parts be on so many sectors? -/
def rightD (n : Nat) (l : List Int) : Bool := decide (1 ≤ l.length) && decide (l.length ≤ 16) && l.all (fun z => decide (1 ≤ z)) && decide (l.sum ≤ (n : Int))
theorem rightD_iff {n : Nat} {l : List Int} : rightD n l = true ↔ 1 ≤ l.length ∧ l.length ≤ 16 ∧ (∀ z ∈ l, 1 ≤ z) ∧ l.sum ≤ (n : Int) := by
  simp [rightD, and_assoc]
theorem toNat_sum : ∀ {l : List Int}, (∀ z ∈ l, 1 ≤ z) → (((l.map Int.toNat).sum : Nat) : Int) = l.sum
  | [], _ => rfl
  | z :: l, h => by
    have h1 := h z (by simp)
    have h2 := toNat_sum (l := l) (fun y hy => h y (by simp [hy]))
    rw [List.map_cons, List.sum_cons, List.sum_cons, ← h2]
    omega
theorem sum_take_le {l : List Int} (h : ∀ z ∈ l, 1 ≤ z) (k : Nat) : (l.take k).sum ≤ l.sum := by
  have e := congrArg List.sum (List.take_append_drop k l)
  rw [List.sum_append] at e
  have : 0 ≤ (l.drop k).sum := by
    have hd : ∀ z ∈ l.drop k, 1 ≤ z := fun z hz => h z (List.mem_of_mem_drop hz)
    have := toNat_sum hd
    omega
  omega
theorem sum_take_succ {l : List Int} {k : Nat} (h : k < l.length) : (l.take (k + 1)).sum = (l.take k).sum + l.getD k 0 := by
  rw [List.take_add_one, List.sum_append, List.getD_eq_getElem?_getD, List.getElem?_eq_getElem h]
  simp
end Go.Proofs.YtdfdalkcljfghaaGreat
