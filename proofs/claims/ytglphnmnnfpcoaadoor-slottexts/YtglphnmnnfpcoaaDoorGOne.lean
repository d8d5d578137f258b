/-
  How bootjackref04 reads the first rune of a text.
-/
import Derived.Test.YtglphnmnnfpcoaaDoorGOne2
import Derived.Test.YtglphnmnnfpcoaaDoorGOne3
import Derived.Test.YtglphnmnnfpcoaaDoorGOne4
namespace Go.Proofs.YtglphnmnnfpcoaaDoor.G
open Go.RowKit

theorem one_walk (s : ByteArray) (h0 : 0 < s.size) (hs : s.size ≤ 1000000) (w : World) :
    Calls Tryd.prog 78 #[.string s] w fun e w' => e = .returned (.agg (ruV (one s.data.toList))) ∧ Below w.heap.size w w' := by
  by_cases h1 : (s[0]'h0).toNat < 128
  · exact one_low_walk s h0 hs h1 w
  · by_cases h2 : 194 ≤ (s[0]'h0).toNat ∧ (s[0]'h0).toNat < 224
    · exact one_2_walk s h0 hs h2 w
    · by_cases h3 : 224 ≤ (s[0]'h0).toNat ∧ (s[0]'h0).toNat < 240
      · exact one_3_walk s h0 hs h3 w
      · by_cases h4 : 240 ≤ (s[0]'h0).toNat ∧ (s[0]'h0).toNat < 245
        · exact one_4_walk s h0 hs h4 w
        · exact one_none_walk s h0 hs (by omega) w
end Go.Proofs.YtglphnmnnfpcoaaDoor.G
