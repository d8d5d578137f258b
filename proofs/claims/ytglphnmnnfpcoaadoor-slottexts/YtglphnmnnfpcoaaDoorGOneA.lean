/-
  How bootjackref04 reads the first rune of a text.
-/
import Derived.Test.YtglphnmnnfpcoaaDoorGFold
import Derived.Lib.ValidLaws
namespace Go.Proofs.YtglphnmnnfpcoaaDoor.G
open Go.RowKit Go.Lib

def ruV (r : Ru) : Array Value := #[.int .i64 (r.num : Int), .string (tx r.bytes), .bool r.brk]

theorem dec2 (n b0 b1 b2 b3 : Nat) (h : 194 ≤ b0 ∧ b0 < 224) : decodeN n b0 b1 b2 b3 = if 1 < n ∧ 128 ≤ b1 ∧ b1 ≤ 191 then (64 * (b0 - 192) + b1 - 128, 2) else (65533, 1) := by
  unfold decodeN
  rw [if_neg (by omega)]
  by_cases hc : 1 < n ∧ 128 ≤ b1 ∧ b1 ≤ 191
  · rw [if_pos hc, if_pos (by omega), if_pos (by omega)]
    exact Prod.ext (by dsimp only; omega) rfl
  · rw [if_neg hc, if_neg (by omega), if_neg (by omega), if_neg (by omega)]
theorem dec3 (n b0 b1 b2 b3 : Nat) (h : 224 ≤ b0 ∧ b0 < 240) : decodeN n b0 b1 b2 b3 =
    if 2 < n ∧ (128 ≤ b1 ∧ b1 ≤ 191) ∧ (128 ≤ b2 ∧ b2 ≤ 191) ∧ 2048 ≤ 64 * (64 * (b0 - 224) + b1 - 128) + b2 - 128 ∧ ¬ (55296 ≤ 64 * (64 * (b0 - 224) + b1 - 128) + b2 - 128 ∧ 64 * (64 * (b0 - 224) + b1 - 128) + b2 - 128 ≤ 57343)
    then (64 * (64 * (b0 - 224) + b1 - 128) + b2 - 128, 3) else (65533, 1) := by
  unfold decodeN
  rw [if_neg (by omega), if_neg (by omega)]
  by_cases hc : 2 < n ∧ (128 ≤ b1 ∧ b1 ≤ 191) ∧ (128 ≤ b2 ∧ b2 ≤ 191)
  · rw [if_pos (by omega)]
    by_cases hv : 2048 ≤ 64 * (64 * (b0 - 224) + b1 - 128) + b2 - 128 ∧ ¬ (55296 ≤ 64 * (64 * (b0 - 224) + b1 - 128) + b2 - 128 ∧ 64 * (64 * (b0 - 224) + b1 - 128) + b2 - 128 ≤ 57343)
    · rw [if_pos (by omega), if_pos ⟨hc.1, hc.2.1, hc.2.2, hv⟩]
      exact Prod.ext (by dsimp only; omega) rfl
    · rw [if_neg (by omega), if_neg (fun k => hv k.2.2.2)]
  · rw [if_neg (by omega), if_neg (by omega), if_neg (fun k => hc ⟨k.1, k.2.1, k.2.2.1⟩)]
theorem dec4 (n b0 b1 b2 b3 : Nat) (h : 240 ≤ b0 ∧ b0 < 245) : decodeN n b0 b1 b2 b3 =
    if 3 < n ∧ (128 ≤ b1 ∧ b1 ≤ 191) ∧ (128 ≤ b2 ∧ b2 ≤ 191) ∧ (128 ≤ b3 ∧ b3 ≤ 191) ∧ 65536 ≤ 64 * (64 * (64 * (b0 - 240) + b1 - 128) + b2 - 128) + b3 - 128 ∧ 64 * (64 * (64 * (b0 - 240) + b1 - 128) + b2 - 128) + b3 - 128 ≤ 1114111
    then (64 * (64 * (64 * (b0 - 240) + b1 - 128) + b2 - 128) + b3 - 128, 4) else (65533, 1) := by
  unfold decodeN
  rw [if_neg (by omega), if_neg (by omega), if_neg (by omega)]
  by_cases hc : 3 < n ∧ (128 ≤ b1 ∧ b1 ≤ 191) ∧ (128 ≤ b2 ∧ b2 ≤ 191) ∧ (128 ≤ b3 ∧ b3 ≤ 191)
  · rw [if_pos (by omega)]
    by_cases hv : 65536 ≤ 64 * (64 * (64 * (b0 - 240) + b1 - 128) + b2 - 128) + b3 - 128 ∧ 64 * (64 * (64 * (b0 - 240) + b1 - 128) + b2 - 128) + b3 - 128 ≤ 1114111
    · rw [if_pos (by omega), if_pos ⟨hc.1, hc.2.1, hc.2.2.1, hc.2.2.2, hv⟩]
      exact Prod.ext (by dsimp only; omega) rfl
    · rw [if_neg (by omega), if_neg (fun k => hv k.2.2.2.2)]
  · rw [if_neg (by omega), if_neg (fun k => hc ⟨k.1, k.2.1, k.2.2.1, k.2.2.2.1⟩)]
theorem dec0 (n b0 b1 b2 b3 : Nat) (h : (128 ≤ b0 ∧ b0 < 194) ∨ (245 ≤ b0 ∧ b0 < 256)) : decodeN n b0 b1 b2 b3 = (65533, 1) := decodeN_bad n b0 b1 b2 b3 h

theorem at_getD (s : ByteArray) (i : Nat) (h : i < s.size) : s.data.toList.getD i 0 = s[i]'h := by
  rw [List.getD_eq_getElem?_getD, List.getElem?_eq_getElem (by rw [len_of]; exact h)]
  rfl

/-- The rune that is none. -/
theorem ru_bad (s : ByteArray) (h0 : 0 < s.size) (h : decodeL s.data.toList = (65533, 1)) : ruV (one s.data.toList) = #[.int .i64 (((s[0]'h0).toNat : Nat) : Int), .string (s.extract 0 1), .bool true] := by
  rw [one_bad _ (by rw [h]; exact ⟨rfl, rfl⟩)]
  unfold ruV
  rw [at_getD s 0 h0, tx_take]
theorem ru_good (s : ByteArray) (r k : Nat) (h : decodeL s.data.toList = (r, k)) (hk : ¬ (r = 65533 ∧ k = 1)) : ruV (one s.data.toList) = #[.int .i64 (r : Int), .string (s.extract 0 k), .bool false] := by
  rw [one_good _ (by rw [h]; exact hk)]
  unfold ruV
  rw [h, tx_take]
theorem info82 : (Tryd.prog.info? 82).map (·.size) = some 3 := by kernel_rfl

/-- The end: what lies in the result's block. -/
theorem end_one {Q : Ending → World → Prop} {tmps : Array Value} {w : World} {g : Nat} {a b c : Value} {t : TypeId} {fr : Nat × Nat} (hp : tmps.getD 2 undef = .pointer (some ⟨g, 0, none⟩)) (hg : w.heap[g]? = some (.cells #[a, b, c] t fr)) (hq : Q (.returned (.agg #[a, b, c])) w) :
    bodyPost Tryd.prog Tryd.f78 Q .ret { tmps := tmps, defers := [] } w :=
  bodyPost_ret (results_cell_row rfl tmps w g t #[a, b, c] fr _ hp hg Tryd.underlying82 rfl info82) rfl hq

theorem below2 (w : World) (o p : Obj) : Below w.heap.size w ((w.alloc o).alloc p) := ((Below.refl _ w).alloc (Nat.le_refl _) o).alloc (by simp) p
theorem heap2 (w : World) (o p : Obj) : ((w.alloc o).alloc p).heap[w.heap.size]? = some o := by
  rw [Below.heap_alloc _ _ _ (by simp)]
  exact heap_alloc_new w o

set_option maxHeartbeats 16000000 in
set_option maxRecDepth 1000000 in
theorem one_low_walk (s : ByteArray) (h0 : 0 < s.size) (hs : s.size ≤ 1000000) (hlow : (s[0]'h0).toNat < 128) (w : World) :
    Calls Tryd.prog 78 #[.string s] w fun e w' => e = .returned (.agg (ruV (one s.data.toList))) ∧ Below w.heap.size w w' := by
  have hd : decodeL s.data.toList = ((s[0]'h0).toNat, 1) := by
    rw [decodeL_N, at_getD s 0 h0]
    unfold decodeN
    rw [if_pos hlow]
  rw [ru_good s _ _ hd (by omega)]
  clear hd
  go_enter Tryd.func78, Tryd.ntmps78
  go_wp2
  exact end_one rfl (heap2 _ _ _) ⟨rfl, below2 _ _ _⟩

set_option maxHeartbeats 16000000 in
set_option maxRecDepth 1000000 in
theorem one_none_walk (s : ByteArray) (h0 : 0 < s.size) (hs : s.size ≤ 1000000) (hb : (128 ≤ (s[0]'h0).toNat ∧ (s[0]'h0).toNat < 194) ∨ 245 ≤ (s[0]'h0).toNat) (w : World) :
    Calls Tryd.prog 78 #[.string s] w fun e w' => e = .returned (.agg (ruV (one s.data.toList))) ∧ Below w.heap.size w w' := by
  have h256 := (s[0]'h0).toNat_lt
  have hd : decodeL s.data.toList = (65533, 1) := by
    rw [decodeL_N, at_getD s 0 h0]
    exact dec0 _ _ _ _ _ (by omega)
  rw [ru_bad s h0 hd]
  clear hd
  have hb1 : 128 ≤ ((s[0]'h0).toNat : Int) := by omega
  have hb2 : ((s[0]'h0).toNat : Int) < 194 ∨ 245 ≤ ((s[0]'h0).toNat : Int) := by omega
  clear hb
  rcases hb2 with hb2 | hb2
  · go_enter Tryd.func78, Tryd.ntmps78
    go_wp2
    exact end_one rfl (heap2 _ _ _) ⟨rfl, below2 _ _ _⟩
  · go_enter Tryd.func78, Tryd.ntmps78
    go_wp2
    exact end_one rfl (heap2 _ _ _) ⟨rfl, below2 _ _ _⟩
end Go.Proofs.YtglphnmnnfpcoaaDoor.G
