/-
  A device in parts: sizes, places, and what each call makes of it; that the program's device and the document's tell the same through parts.
-/
import Derived.Test.YtlgknllcnkainaaMath
namespace Go.Proofs.Ytlgknllcnkainaa

/-- Something done: kind, part, place, by whom. -/
abbrev OpT := Int × Int × Int × Int
structure MX where
  sz : List Nat
  who : Int
  ops : List OpT
structure MX.Ok (x : MX) (n : Nat) : Prop where
  one : ∀ s ∈ x.sz, 1 ≤ s
  few : x.sz.length ≤ 16
  sum : x.sz.sum ≤ n
def MX.did (x : MX) (k part at_ : Int) : MX := { x with ops := x.ops ++ [(k, part, at_, x.who)] }
def MX.told (x : MX) : MX := { x with ops := [] }
def MX.as (x : MX) (b : Int) : MX := { x with who := b }

/-- Where part k begins. -/
def bnd (sz : List Nat) (k : Nat) : Nat := (sz.take k).sum
theorem bnd_zero (sz : List Nat) : bnd sz 0 = 0 := by simp [bnd]
theorem bnd_succ {sz : List Nat} {k : Nat} (h : k < sz.length) : bnd sz (k + 1) = bnd sz k + sz.getD k 0 := by
  unfold bnd
  rw [List.take_add_one, List.sum_append, List.getD_eq_getElem?_getD, List.getElem?_eq_getElem h]
  simp
theorem bnd_all (sz : List Nat) : bnd sz sz.length = sz.sum := by simp [bnd]
theorem bnd_le (sz : List Nat) (k : Nat) : bnd sz k ≤ sz.sum := by
  unfold bnd
  have h := congrArg List.sum (List.take_append_drop k sz)
  rw [List.sum_append] at h
  omega
theorem bnd_mono (sz : List Nat) {j k : Nat} (h : j ≤ k) : bnd sz j ≤ bnd sz k := by
  have e : bnd (sz.take k) j = bnd sz j := by unfold bnd; rw [List.take_take, Nat.min_eq_left h]
  rw [← e]
  exact bnd_le (sz.take k) j
theorem bnd_part {sz : List Nat} {k : Nat} (h : k < sz.length) : bnd sz k + sz.getD k 0 ≤ sz.sum := by
  rw [← bnd_succ h]; exact bnd_le _ _

def sizeX (sz : List Nat) (part : Int) : Nat := if hasD sz.length part = true then sz.getD part.toNat 0 else 0
def placeX (sz : List Nat) (part at_ : Int) : Int × Int :=
  if hasD sz.length part = false then (0, 71) else if hasD (sz.getD part.toNat 0) at_ = false then (0, 61) else (((bnd sz part.toNat : Nat) : Int) + at_, 0)
theorem sizeX_le (sz : List Nat) (part : Int) : sizeX sz part ≤ sz.sum := by
  unfold sizeX
  split
  · rename_i h
    have := bnd_part (hasD_true h).2
    omega
  · omega
theorem place_in {sz : List Nat} {part at_ : Int} (h : (placeX sz part at_).2 = 0) : ∃ k i : Nat, part = k ∧ at_ = i ∧ k < sz.length ∧ i < sz.getD k 0 ∧ (placeX sz part at_).1 = ((bnd sz k + i : Nat) : Int) := by
  unfold placeX at h ⊢
  cases h1 : hasD sz.length part with
  | false => simp [h1] at h
  | true =>
    cases h2 : hasD (sz.getD part.toNat 0) at_ with
    | false =>
      rw [h1, if_neg (by decide), h2, if_pos rfl] at h
      exact absurd h (by decide)
    | true =>
      obtain ⟨k, rfl, hk⟩ := hasD_nat h1
      obtain ⟨i, rfl, hi⟩ := hasD_nat h2
      exact ⟨k, i, rfl, rfl, hk, by simpa using hi, by simp⟩
theorem place_some {sz : List Nat} {k i : Nat} (hk : k < sz.length) (hi : i < sz.getD k 0) : placeX sz (k : Int) (i : Int) = (((bnd sz k + i : Nat) : Int), 0) := by
  have h1 : hasD sz.length (k : Int) = true := by simp [hasD]; omega
  have h2 : hasD (sz.getD (k : Int).toNat 0) (i : Int) = true := by
    simp only [Int.toNat_natCast]
    unfold hasD
    rw [decide_eq_true (by omega), decide_eq_true (by omega)]; rfl
  unfold placeX
  rw [if_neg (by rw [h1]; decide), if_neg (by rw [h2]; decide)]
  simp
theorem size_some {sz : List Nat} {k : Nat} (hk : k < sz.length) : sizeX sz (k : Int) = sz.getD k 0 := by
  have h1 : hasD sz.length (k : Int) = true := by simp [hasD]; omega
  unfold sizeX
  rw [if_pos h1]; simp

section
variable {δ ε : Type}
def readG (rd : δ → Int → Sec × Int) (d : δ) (sz : List Nat) (part at_ : Int) : Sec × Int :=
  if (placeX sz part at_).2 ≠ 0 then (zeroS, (placeX sz part at_).2) else rd d (placeX sz part at_).1
def opG (kind : Int) (f : δ → Int → Int × δ) (d : δ) (x : MX) (part at_ : Int) : Int × δ × MX :=
  if (placeX x.sz part at_).2 ≠ 0 then ((placeX x.sz part at_).2, d, x)
  else if (f d (placeX x.sz part at_).1).1 ≠ 0 then ((f d (placeX x.sz part at_).1).1, (f d (placeX x.sz part at_).1).2, x)
  else (0, (f d (placeX x.sz part at_).1).2, x.did kind part at_)
def wipeG (rd : δ → Int → Sec × Int) (er : δ → Int → Int × δ) (d : δ) (x : MX) (part : Int) : Nat → Nat → Int × δ × MX
  | _, 0 => (0, d, x)
  | at_, n + 1 =>
    if (readG rd d x.sz part (at_ : Int)).1 = blankS then wipeG rd er d x part (at_ + 1) n
    else if (opG 1 er d x part (at_ : Int)).1 ≠ 0 then opG 1 er d x part (at_ : Int)
    else wipeG rd er (opG 1 er d x part (at_ : Int)).2.1 (opG 1 er d x part (at_ : Int)).2.2 part (at_ + 1) n
def wipeAll (rd : δ → Int → Sec × Int) (er : δ → Int → Int × δ) (d : δ) (x : MX) (part : Int) : Int × δ × MX :=
  if hasD x.sz.length part = false then (71, d, x) else wipeG rd er d x part 0 (sizeX x.sz part)
/-- The first n sectors of a part. -/
def someG (rd : δ → Int → Sec × Int) (d : δ) (sz : List Nat) (part : Int) (n : Nat) : List UInt8 := ((List.range n).map fun k => (readG rd d sz part ((k : Nat) : Int)).1).flatten
def allG (rd : δ → Int → Sec × Int) (d : δ) (sz : List Nat) (part : Int) : List UInt8 := someG rd d sz part (sizeX sz part)
theorem someG_zero (rd : δ → Int → Sec × Int) (d : δ) (sz : List Nat) (part : Int) : someG rd d sz part 0 = [] := by simp [someG]
theorem someG_succ (rd : δ → Int → Sec × Int) (d : δ) (sz : List Nat) (part : Int) (n : Nat) : someG rd d sz part (n + 1) = someG rd d sz part n ++ (readG rd d sz part ((n : Nat) : Int)).1 := by
  simp [someG, List.range_succ]

theorem opG_sz (kind : Int) (f : δ → Int → Int × δ) (d : δ) (x : MX) (part at_ : Int) : (opG kind f d x part at_).2.2.sz = x.sz := by
  unfold opG; split
  · rfl
  · split <;> rfl
theorem opG_who (kind : Int) (f : δ → Int → Int × δ) (d : δ) (x : MX) (part at_ : Int) : (opG kind f d x part at_).2.2.who = x.who := by
  unfold opG; split
  · rfl
  · split <;> rfl
theorem opG_ops (kind : Int) (f : δ → Int → Int × δ) (d : δ) (x : MX) (part at_ : Int) : (opG kind f d x part at_).2.2.ops.length ≤ x.ops.length + 1 := by
  unfold opG; split
  · show x.ops.length ≤ _; omega
  · split
    · show x.ops.length ≤ _; omega
    · show (x.ops ++ [_]).length ≤ _; simp

theorem readG_same {rd : δ → Int → Sec × Int} {re : ε → Int → Sec × Int} {d : δ} {r : ε} (h : ∀ i, re r i = rd d i) (sz : List Nat) (part at_ : Int) : readG re r sz part at_ = readG rd d sz part at_ := by
  unfold readG; rw [h]
theorem someG_same {rd : δ → Int → Sec × Int} {re : ε → Int → Sec × Int} {d : δ} {r : ε} (h : ∀ i, re r i = rd d i) (sz : List Nat) (part : Int) (n : Nat) : someG re r sz part n = someG rd d sz part n := by
  unfold someG; simp only [readG_same h]
theorem opG_same {R : δ → ε → Prop} {f : δ → Int → Int × δ} {g : ε → Int → Int × ε} (h : ∀ d r i, R d r → (g r i).1 = (f d i).1 ∧ R (f d i).2 (g r i).2) (kind : Int) {d : δ} {r : ε} (hR : R d r) (x : MX) (part at_ : Int) :
    (opG kind g r x part at_).1 = (opG kind f d x part at_).1 ∧ (opG kind g r x part at_).2.2 = (opG kind f d x part at_).2.2 ∧ R (opG kind f d x part at_).2.1 (opG kind g r x part at_).2.1 := by
  have hh := h d r (placeX x.sz part at_).1 hR
  unfold opG
  split
  · exact ⟨rfl, rfl, hR⟩
  · rw [hh.1]
    split
    · exact ⟨rfl, rfl, hh.2⟩
    · exact ⟨rfl, rfl, hh.2⟩
theorem wipeG_same {R : δ → ε → Prop} {rd : δ → Int → Sec × Int} {re : ε → Int → Sec × Int} {f : δ → Int → Int × δ} {g : ε → Int → Int × ε} (hr : ∀ d r i, R d r → re r i = rd d i)
    (h : ∀ d r i, R d r → (g r i).1 = (f d i).1 ∧ R (f d i).2 (g r i).2) (part : Int) : ∀ (n at_ : Nat) {d : δ} {r : ε} (_ : R d r) (x : MX),
    (wipeG re g r x part at_ n).1 = (wipeG rd f d x part at_ n).1 ∧ (wipeG re g r x part at_ n).2.2 = (wipeG rd f d x part at_ n).2.2 ∧ R (wipeG rd f d x part at_ n).2.1 (wipeG re g r x part at_ n).2.1
  | 0, _, _, _, hR, x => ⟨rfl, rfl, hR⟩
  | n + 1, at_, d, r, hR, x => by
    have h1 := readG_same (hr d r · hR) x.sz part (at_ : Int)
    have h2 := opG_same h 1 hR x part (at_ : Int)
    unfold wipeG
    rw [h1]
    split
    · exact wipeG_same hr h part n (at_ + 1) hR x
    · rw [h2.1]
      split
      · exact h2
      · rw [h2.2.1]
        exact wipeG_same hr h part n (at_ + 1) h2.2.2 _
theorem wipeAll_same {R : δ → ε → Prop} {rd : δ → Int → Sec × Int} {re : ε → Int → Sec × Int} {f : δ → Int → Int × δ} {g : ε → Int → Int × ε} (hr : ∀ d r i, R d r → re r i = rd d i)
    (h : ∀ d r i, R d r → (g r i).1 = (f d i).1 ∧ R (f d i).2 (g r i).2) {d : δ} {r : ε} (hR : R d r) (x : MX) (part : Int) :
    (wipeAll re g r x part).1 = (wipeAll rd f d x part).1 ∧ (wipeAll re g r x part).2.2 = (wipeAll rd f d x part).2.2 ∧ R (wipeAll rd f d x part).2.1 (wipeAll re g r x part).2.1 := by
  unfold wipeAll
  split
  · exact ⟨rfl, rfl, hR⟩
  · exact wipeG_same hr h part _ _ hR x
end

abbrev readM := readG readD
abbrev eraseM := opG 1 eraseD
abbrev programM (s : Sec) := opG 2 (fun d i => programD d i s)
abbrev wipeM := wipeAll readD eraseD
abbrev allM := allG readD

/-- Both tell of one device. -/
def Both (d : DM) (r : RM) : Prop := Sim d r ∧ d.Ok
theorem Both.erase (d : DM) (r : RM) (i : Int) (h : Both d r) : (eraseR r i).1 = (eraseD d i).1 ∧ Both (eraseD d i).2 (eraseR r i).2 :=
  ⟨(h.1.erase h.2 i).1.symm, (h.1.erase h.2 i).2, h.2.erase i⟩
theorem Both.program {s : Sec} (hs : s.length = 64) (d : DM) (r : RM) (i : Int) (h : Both d r) : (programR r i s).1 = (programD d i s).1 ∧ Both (programD d i s).2 (programR r i s).2 :=
  ⟨(h.1.program i s).1.symm, (h.1.program i s).2, h.2.program i hs⟩
theorem Both.read (d : DM) (r : RM) (i : Int) (h : Both d r) : readR r i = readD d i := h.1.read i

theorem erase_kept (d : DM) (i : Int) : (eraseD d i).2.kept = d.kept := by
  unfold eraseD
  split
  · rfl
  · split
    · rfl
    · split
      · exact step_kept d
      · show (stepD d).2.kept = _
        exact step_kept d
theorem program_kept (d : DM) (i : Int) (s : Sec) : (programD d i s).2.kept = d.kept := by
  unfold programD
  split
  · rfl
  · split
    · rfl
    · split
      · exact step_kept d
      · show (stepD d).2.kept = _
        exact step_kept d
theorem sync_len (d : DM) : (syncD d).2.kept.length = d.kept.length := by
  unfold syncD
  split
  · rfl
  · split
    · rw [step_kept]
    · show (layAll (stepD d).2.kept (stepD d).2.wait).length = _
      rw [layAll_len, step_kept]
theorem opG_kept (kind : Int) {f : DM → Int → Int × DM} (hf : ∀ d i, (f d i).2.kept = d.kept) (d : DM) (x : MX) (part at_ : Int) : (opG kind f d x part at_).2.1.kept = d.kept := by
  unfold opG; split
  · rfl
  · split <;> exact hf _ _

/-- Can such parts be on so many sectors? -/
def rightD (n : Nat) (l : List Int) : Bool := decide (1 ≤ l.length) && decide (l.length ≤ 16) && l.all (fun z => decide (1 ≤ z)) && decide (l.sum ≤ (n : Int))
theorem rightD_iff {n : Nat} {l : List Int} : rightD n l = true ↔ 1 ≤ l.length ∧ l.length ≤ 16 ∧ (∀ z ∈ l, 1 ≤ z) ∧ l.sum ≤ (n : Int) := by
  simp [rightD, and_assoc]
theorem toNat_sum : ∀ {l : List Int}, (∀ z ∈ l, 1 ≤ z) → (((l.map Int.toNat).sum : Nat) : Int) = l.sum
  | [], _ => rfl
  | z :: l, h => by
    have h1 := h z (by simp)
    have h2 := toNat_sum (l := l) (fun y hy => h y (by simp [hy]))
    rw [List.map_cons, List.sum_cons, List.sum_cons, ← h2]
    omega
theorem sum_take_le {l : List Int} (h : ∀ z ∈ l, 1 ≤ z) (k : Nat) : (l.take k).sum ≤ l.sum := by
  have e := congrArg List.sum (List.take_append_drop k l)
  rw [List.sum_append] at e
  have : 0 ≤ (l.drop k).sum := by
    have hd : ∀ z ∈ l.drop k, 1 ≤ z := fun z hz => h z (List.mem_of_mem_drop hz)
    have := toNat_sum hd
    omega
  omega
theorem sum_take_succ {l : List Int} {k : Nat} (h : k < l.length) : (l.take (k + 1)).sum = (l.take k).sum + l.getD k 0 := by
  rw [List.take_add_one, List.sum_append, List.getD_eq_getElem?_getD, List.getElem?_eq_getElem h]
  simp
end Go.Proofs.Ytlgknllcnkainaa
