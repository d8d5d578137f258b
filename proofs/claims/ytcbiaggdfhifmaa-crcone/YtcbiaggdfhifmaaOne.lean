/-
  Proved: for every slice of bytes and any two bytes the Go function CrcOne returns true, and its arguments read afterwards as before. Conditions: none.
-/
import Derived.Test.YtcbiaggdfhifmaaRows
import Derived.Test.YtcbiaggdfhifmaaKit
import Derived.WalkKit
import Derived.ProofKit
import Derived.OpenShut
import Derived.ShutString
import Derived.ChangeOld
import Derived.Below
namespace Go.Proofs.Ytcbiaggdfhifmaa.crcOne
open Go.ChangeShapes Go.WideShapes Go.ChangeAt Go.RowKit
open Go.ChangeMaps (open_string shut_string)
set_option linter.unusedVariables false

theorem own : ownKnob Try.prog.godebug = none := by kernel_rfl
theorem laidOut : laidOutB Try.prog = true := by kernel_rfl

theorem walk (a0 : Option Addr) (len0 cap0 : Nat) (z0 : List Int) (a1 : Int) (a2 : Int) (w : World) (w0 : IsRow .u8 w a0 len0 cap0 z0) (w1 : (Lit.int .u8 a1).wf = true) (w2 : (Lit.int .u8 a2).wf = true) :
    Calls Try.prog 6 #[.slice a0 len0 cap0, .int .u8 a1, .int .u8 a2] w fun e w' => e = .returned (.bool true) ∧ Below w.heap.size w w' := by
  by_cases hlen : len0 ≤ 2000
  · obtain ⟨bs, hr⟩ := w0.row (by omega)
    have Hr := hide hr
    clear hr w0
    obtain ⟨x, rfl⟩ : ∃ x : BitVec 8, a1 = ((x.toNat : Nat) : Int) := ⟨_, (byte_back a1 (wf_u8 w1).1 (wf_u8 w1).2).symm⟩
    obtain ⟨y, rfl⟩ : ∃ y : BitVec 8, a2 = ((y.toNat : Nat) : Int) := ⟨_, (byte_back a2 (wf_u8 w2).1 (wf_u8 w2).2).symm⟩
    clear w1 w2
    go_enter Try.func6, Try.ntmps6
    go_wp2_with fail
    refine (alive_any _).mono ?_
    rintro e w1 ⟨rfl, hb1⟩
    have Hb1 := hide hb1
    clear hb1
    go_wp2_with fail
    refine (sum_any _ 1 1 [bs] _ (by exact Parts.one ((unhide Hr).below (unhide Hb1)) _ _ _)).mono ?_
    rintro e w2 ⟨rfl, hw2⟩
    have Hb2 : Hid (Below w.heap.size w w2) := by
      show Below _ _ _
      rw [hw2]; exact (unhide Hb1).alloc (unhide Hb1).size _
    clear hw2
    generalize Crc.more 0#32 [bs].flatten = t at *
    go_wp2_with fail
    have hx := Row.fresh w2 [x] #[.int .u8 ((x.toNat : Nat) : Int)] 5 (0, 0) (by simp) rfl
    refine (more_any t _ 1 1 [x] _ (by simpa using hx)).mono ?_
    rintro e w3 ⟨rfl, hw3⟩
    have Hb3 : Hid (Below w.heap.size w w3) := by
      show Below _ _ _
      rw [hw3]; exact (unhide Hb2).alloc (unhide Hb2).size _
    clear hw3 hx
    go_wp2_with fail
    have hy := Row.fresh w3 [y] #[.int .u8 ((y.toNat : Nat) : Int)] 5 (0, 0) (by simp) rfl
    refine (more_any t _ 1 1 [y] _ (by simpa using hy)).mono ?_
    rintro e w4 ⟨rfl, hw4⟩
    have Hb4 : Hid (Below w.heap.size w w4) := by
      show Below _ _ _
      rw [hw4]; exact (unhide Hb3).alloc (unhide Hb3).size _
    clear hw4 hy
    have he : ((N32 (Crc.more t [x]) == N32 (Crc.more t [y])) == ((((x.toNat : Nat) : Int)) == ((y.toNat : Nat) : Int))) = true := by
      by_cases h : x = y
      · subst h; simp
      · have h1 : N32 (Crc.more t [x]) ≠ N32 (Crc.more t [y]) := fun e => h (Crc.more_one_inj (N32_inj e))
        have h2 : ((x.toNat : Nat) : Int) ≠ ((y.toNat : Nat) : Int) := fun e => h (BitVec.eq_of_toNat_eq (by omega))
        rw [beq_eq_false_iff_ne.2 h1, beq_eq_false_iff_ne.2 h2]; rfl
    go_wp2_with fail
    refine (more_any t none 0 0 [] _ (Row.nil _ _)).mono ?_
    rintro e w5 ⟨rfl, hw5⟩
    rw [Crc.more_nil]
    subst hw5
    go_wp2
    go_ret
    exact ⟨rfl, unhide Hb4⟩
  · go_enter Try.func6, Try.ntmps6
    go_wp2_with fail
    refine (alive_any _).mono ?_
    rintro e w1 ⟨rfl, hb1⟩
    have hgt : (2000 : Int) < (len0 : Int) := by omega
    go_wp2
    go_ret
    exact ⟨rfl, hb1⟩


set_option maxRecDepth 100000 in
theorem lifted (os : Os) (started : os.Started) (H : Type) (enc : TypeId × Value → H) :
    ReturnsInHanded {} Try.checked os 6 .any (Rows.crcOneSpec.pre6 enc Try.prog Try.f6 Rows.crcOneRow.domain false) (Rows.crcOneSpec.post enc Try.prog Try.f6 false true false false) := by
  refine returnsInHanded_of_change (C := Try.checked) own started (by kernel_rfl) Try.func6
    (ChangeSpec.witness6 (enc := enc) (C := Try.checked) false ⟨#[], #[.slice none 0 0, .int .u8 0, .int .u8 0], []⟩ 8 (by kernel_rfl) (by kernel_rfl) (by kernel_rfl) (by kernel_rfl)) ?_
  intro W base args ds gs before hval0 hW hcnd _
  have hval : ∀ (j : Nat) t v, Try.f6.params[j]? = some t → args[j]? = some v → Value.okWide Try.prog W .any base t v := hval0
  have hW' := hW
  obtain ⟨p, q, hA0, hV, rfl, hfz, hnd⟩ := hW
  have hA : DataW.TrodAll enc Try.prog W 0 (fun _ => true) true Try.f6.params.toList args.toList ds p := hA0
  rw [Try.params6] at hA hval
  obtain ⟨v0, vs0, d0, ds0, p0, q0, hargs, rfl, rfl, h0, r0⟩ := trodAll_cons hA
  obtain ⟨v1, vs1, d1, ds1, p1, q1, rfl, rfl, rfl, h1, r1⟩ := trodAll_cons r0
  obtain ⟨v2, vs2, d2, ds2, p2, q2, rfl, rfl, rfl, h2, r2⟩ := trodAll_cons r1
  obtain ⟨rfl, rfl, rfl⟩ := trodAll_nil r2
  obtain rfl : args = #[v0, v1, v2] := by cases args; simp_all
  obtain ⟨rfl, rfl⟩ := trodVars_none hV
  obtain ⟨a0, len0, cap0, rfl⟩ := okWide_slice Try.underlying22 (hval 0 22 v0 rfl rfl)
  have k0 := h0
  have lt0 : ∀ x ∈ p0, x.block < W.heap.size := by obtain ⟨m, hm⟩ := k0; exact DataW.trod_lt m _ _ _ hm
  obtain ⟨z0, w0⟩ : ∃ zs, IsRow .u8 W a0 len0 cap0 zs := by
    obtain ⟨fuel, hf⟩ := h0
    rcases open_ints Try.underlying22 Try.underlying5 (by kernel_rfl) hf with ⟨hcs, _⟩ | ⟨x, l, c, zs, hcs, _, hl, hm, hz, _, hcell, hwz⟩
    · simp [Value.cells] at hcs
      obtain ⟨rfl, rfl, rfl⟩ := hcs
      exact ⟨[], .inl ⟨rfl, rfl, rfl, rfl⟩⟩
    · simp [Value.cells] at hcs
      obtain ⟨rfl, rfl, rfl⟩ := hcs
      exact ⟨zs, .inr ⟨_, rfl, hl, hm, by simpa using hz, hcell, hwz⟩⟩
  obtain ⟨a1, rfl, rfl, rfl, w1⟩ := open_int Try.underlying5 (hval 1 5 v1 rfl rfl) h1
  obtain ⟨a2, rfl, rfl, rfl, w2⟩ := open_int Try.underlying5 (hval 2 5 v2 rfl rfl) h2
  clear hA0 hval0
  refine (walk a0 len0 cap0 z0 a1 a2 W w0 w1 w2).mono fun e W' ⟨he, bel⟩ => ?_
  subst he
  exact ⟨_, rfl, _, _, _, [], _, [], hW', trodAll_mk1 (shut_bool Try.underlying4 _), (trodAll_cons_mk (Below.trod laidOut (by kernel_rfl) (of_decide_eq_true (by kernel_rfl)) k0 bel lt0) (trodAll_cons_mk (shut_int Try.underlying5 w1) (trodAll_cons_mk (shut_int Try.underlying5 w2) trodAll_mk0))), rfl, bel.frame _, fun h => by cases h⟩

theorem over : Rows.crcOneRow.holds Try.pinned (OpenSpec.ofChange Rows.crcOneSpec) :=
  OpenClaim.holds_of_wide 6 Try.f6 rfl rfl rfl rfl rfl rfl rfl ⟨rfl, rfl, rfl, rfl, rfl⟩ rfl rfl rfl rfl rfl (by kernel_rfl) Try.func6 (by kernel_rfl)
    (of_decide_eq_true (by kernel_rfl)) (by unfold Func.isWrapper; first | (rw [if_pos (by decide +kernel)]; kernel_rfl) | (rw [if_neg (by decide +kernel)]; exact ⟨rfl, rfl⟩))
    (fun os started H enc _ => lifted os started H enc)

end Go.Proofs.Ytcbiaggdfhifmaa.crcOne
namespace Go.Proofs.Ytcbiaggdfhifmaa
theorem crcOne_holds : Rows.CrcOneSaid := crcOne.over
#print axioms crcOne_holds
end Go.Proofs.Ytcbiaggdfhifmaa
