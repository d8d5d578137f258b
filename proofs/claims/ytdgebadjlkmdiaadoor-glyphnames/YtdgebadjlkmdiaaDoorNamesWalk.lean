/-
  GlyphNames returns true.
-/
import Derived.Test.YtdgebadjlkmdiaaDoorFold
namespace Go.Proofs.YtdgebadjlkmdiaaDoor.glyphNames
open Go.RowKit Go.Lib

theorem n0 : nameV fitB (runes []) = 41 := by decide +kernel
theorem n1 : nameV fitB (runes [49, 97]) = 41 := by decide +kernel
theorem n2 : nameV fitB (runes [97, 32, 49]) = 41 := by decide +kernel
theorem n3 : nameV fitB (runes [195, 169, 99, 114, 97, 110, 45, 49, 46, 50, 95, 120]) = 0 := by decide +kernel
theorem n4 : nameV fitB (runes [97, 255]) = 41 := by decide +kernel
theorem n5 : nameV fitB (runes [97, 98, 99, 100, 101, 102, 103, 104, 105, 106, 107, 108, 109, 110, 111, 112, 113, 114, 115, 116, 117, 118, 119, 120, 121]) = 41 := by decide +kernel
theorem f1 : foldL toLowerU [195, 137, 65] = [195, 169, 97] := by decide +kernel
theorem f2 : foldL toLowerU [195, 169, 97] = [195, 169, 97] := by decide +kernel
theorem r1 : readL [92, 117, 123, 68, 70, 125] = none := by decide +kernel

theorem name_at (l : List UInt8) (s : ByteArray) (v : Int) (he : s.data.toList = l) (hz : s.size ≤ 1000000) (hv : nameV fitB (runes l) = v) (w : World) (hU : Uni w) :
    Calls Tryd.prog 9 #[.string s] w fun e w' => e = .returned (.int .i64 v) ∧ Below w.heap.size w w' := by
  have := name_walk fitB (fun r hr b w hU => fits_walk r (by omega) (by omega) b w hU) s hz w hU
  rw [he, hv] at this
  exact this

set_option maxHeartbeats 16000000 in
set_option maxRecDepth 1000000 in
theorem walk (W : World) (hU : Uni W) : Calls Tryd.prog 3 #[] W fun e W' => e = .returned (.bool true) ∧ Below W.heap.size W W' := by
  have HR : Hid (∀ w, Uni w → Calls Tryd.prog 7 #[.string ⟨#[92, 117, 123, 68, 70, 125]⟩] w fun e w' => e = .returned (.tuple #[.string ⟨#[]⟩, .int .i64 41]) ∧ Below w.heap.size w w') := hide (fun w hU => by
    have := read_walk ⟨#[92, 117, 123, 68, 70, 125]⟩ (by decide) w hU.env
    rw [show readL (⟨#[92, 117, 123, 68, 70, 125]⟩ : ByteArray).data.toList = none from r1] at this
    exact this)
  have H0 := hide (name_at [] ⟨#[]⟩ 41 rfl (by decide) n0)
  have H1 := hide (name_at [49, 97] ⟨#[49, 97]⟩ 41 rfl (by decide) n1)
  have H2 := hide (name_at [97, 32, 49] ⟨#[97, 32, 49]⟩ 41 rfl (by decide) n2)
  have H3 := hide (name_at _ ⟨#[195, 169, 99, 114, 97, 110, 45, 49, 46, 50, 95, 120]⟩ 0 rfl (by decide) n3)
  have H4 := hide (name_at _ ⟨#[97, 255]⟩ 41 rfl (by decide) n4)
  have H5 := hide (name_at _ ⟨#[97, 98, 99, 100, 101, 102, 103, 104, 105, 106, 107, 108, 109, 110, 111, 112, 113, 114, 115, 116, 117, 118, 119, 120, 121]⟩ 41 rfl (by decide) n5)
  have HS : Hid (∀ w, Uni w → Calls Tryd.prog 10 #[.string ⟨#[195, 137, 65]⟩, .string ⟨#[195, 169, 97]⟩] w fun e w' => e = .returned (.bool true) ∧ Below w.heap.size w w') := hide (fun w hU => by
    have := same_walk toLowerU low_ok ⟨#[195, 137, 65]⟩ ⟨#[195, 169, 97]⟩ (by decide) (by decide) w hU
    rw [show foldL toLowerU (⟨#[195, 137, 65]⟩ : ByteArray).data.toList = [195, 169, 97] from f1, show foldL toLowerU (⟨#[195, 169, 97]⟩ : ByteArray).data.toList = [195, 169, 97] from f2] at this
    rw [beq_self_eq_true] at this
    exact this)
  have HA : Hid (∀ w, Uni w → Calls Tryd.prog 8 #[] w fun e w' => e = .returned (.bool true) ∧ Below w.heap.size w w') := hide (fun w hU => alive_walk w hU.env)
  have HU := hide hU
  clear hU
  go_enter Tryd.func3, Tryd.ntmps3
  go_wp2_with fail
  refine (unhide HR W (unhide HU)).mono ?_
  rintro e w1 ⟨rfl, b1⟩
  go_wp2_with fail
  refine (unhide HA w1 ((unhide HU).below b1)).mono ?_
  rintro e w2 ⟨rfl, c2⟩
  have b2 := b1.trans (c2.mono b1.size)
  clear c2
  go_wp2_with fail
  refine (unhide H0 w2 ((unhide HU).below b2)).mono ?_
  rintro e w3 ⟨rfl, c3⟩
  have b3 := b2.trans (c3.mono b2.size)
  clear c3
  go_wp2_with fail
  refine (unhide H1 w3 ((unhide HU).below b3)).mono ?_
  rintro e w4 ⟨rfl, c4⟩
  have b4 := b3.trans (c4.mono b3.size)
  clear c4
  go_wp2_with fail
  refine (unhide H2 w4 ((unhide HU).below b4)).mono ?_
  rintro e w5 ⟨rfl, c5⟩
  have b5 := b4.trans (c5.mono b4.size)
  clear c5
  go_wp2_with fail
  refine (unhide H3 w5 ((unhide HU).below b5)).mono ?_
  rintro e w6 ⟨rfl, c6⟩
  have b6 := b5.trans (c6.mono b5.size)
  clear c6
  go_wp2_with fail
  refine (unhide H4 w6 ((unhide HU).below b6)).mono ?_
  rintro e w7 ⟨rfl, c7⟩
  have b7 := b6.trans (c7.mono b6.size)
  clear c7
  go_wp2_with fail
  refine (unhide H5 w7 ((unhide HU).below b7)).mono ?_
  rintro e w8 ⟨rfl, c8⟩
  have b8 := b7.trans (c8.mono b7.size)
  clear c8
  go_wp2_with fail
  refine (unhide HS w8 ((unhide HU).below b8)).mono ?_
  rintro e w9 ⟨rfl, c9⟩
  have b9 := b8.trans (c9.mono b8.size)
  clear c9
  go_wp2_with fail
  go_ret
  exact ⟨rfl, b9⟩
end Go.Proofs.YtdgebadjlkmdiaaDoor.glyphNames
