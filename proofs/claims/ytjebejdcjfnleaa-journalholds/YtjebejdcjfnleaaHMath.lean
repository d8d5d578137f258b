/-
  JournalHolds, of lists: what is so between two acts, and what each act makes of it.
-/
import Derived.Test.YtjebejdcjfnleaaJMath
namespace Go.Proofs.Ytjebejdcjfnleaa

structure HoldM (t : Nat) (sz : List Nat) (d : DM) (x : MX) (j : JX) (now : List Body) (maybe : List (List Body)) : Prop where
  fit : Fit t d sz
  most : d.most = 10000
  szx : x.sz = sz
  ok : j.Ok sz
  a : j.a = 0
  b : j.b = 1
  wait : d.wait.length ≤ 5000
  ops : x.ops.length ≤ 5000 * t
  last : j.last ≤ t
  st : UpS d sz j now ∨ (d.down = true ∧ j.ready = false ∧ Safe d sz 0 1 t now maybe)
def afterB (e : Int) (b : Body) (now : List Body) : List Body := if e = 0 then [b] else now
def afterA (e : Int) (b : Body) (now : List Body) : List Body := if e = 0 then now ++ [b] else now
def perhaps (e : Int) (l : List Body) (maybe : List (List Body)) : List (List Body) := if e = 62 then maybe ++ [l] else maybe

theorem HoldM.off {t : Nat} {sz : List Nat} {d : DM} {x : MX} {j : JX} {now : List Body} {maybe : List (List Body)} (h : HoldM t sz d x j now maybe) : j.off.Ok sz := ⟨h.ok.a, h.ok.b, h.ok.ne, h.ok.inn⟩
theorem HoldM.begin {t : Nat} {sz : List Nat} {d : DM} {x : MX} {j : JX} {now : List Body} {maybe : List (List Body)} (h : HoldM t sz d x j now maybe) (ht : t ≤ 100) (b : Body) :
    HoldM (t + 1) sz (beginJ d x j b).2.1 (beginJ d x j b).2.2.1 (beginJ d x j b).2.2.2 (afterB (beginJ d x j b).1 b now) (perhaps (beginJ d x j b).1 [b] maybe) := by
  have hm : t + 1 < d.most := by rw [h.most]; omega
  rcases h.st with hu | ⟨hd, hr, hs⟩
  · obtain ⟨f1, f2, f3, f4, f5, f6⟩ := begin_spec b h.szx h.ok h.fit hm hu h.last (by omega)
    rcases f6 with ⟨f6, _⟩ | ⟨f6, f7, f8⟩ | ⟨f6, f7, f8, f9, f10⟩
    · rw [f6]
      show HoldM (t + 1) sz d x j now maybe
      exact ⟨h.fit.more hm, h.most, h.szx, h.ok, h.a, h.b, h.wait, by have := h.ops; omega, by have := h.last; omega, .inl hu⟩
    · generalize beginJ d x j b = r at *
      obtain ⟨e, d1, x1, j1⟩ := r
      simp only at f1 f2 f3 f5 f6 f7 f8
      subst f6; subst f8
      have hi := h.ok.inn
      refine ⟨f1, by rw [f2, h.most], f3.sz.trans h.szx, ⟨h.ok.a, h.ok.b, h.ok.ne, by show 1 - j.inn ≤ 1; omega⟩, h.a, h.b, f5, by have := f3.few; have := h.ops; show x1.ops.length ≤ _; omega, by have := h.last; show j.last + 1 ≤ _; omega, .inl f7⟩
    · generalize beginJ d x j b = r at *
      obtain ⟨e, d1, x1, j1⟩ := r
      simp only at f1 f2 f3 f5 f6 f8 f9 f10
      subst f6; subst f9
      refine ⟨f1, by rw [f2, h.most], f3.sz.trans h.szx, h.off, h.a, h.b, f5, by have := f3.few; have := h.ops; show x1.ops.length ≤ _; omega, by have := h.last; show j.last ≤ _; omega, .inr ⟨f8, rfl, ?_⟩⟩
      rw [h.a, h.b] at f10
      exact f10.more (Nat.le_refl _) (fun l hl => by simp [perhaps] at hl ⊢; exact .inr hl)
  · rcases begin_down b h.szx h.ok h.fit.room hd with e | e
    · rw [e]
      show HoldM (t + 1) sz d x j now maybe
      exact ⟨h.fit.more hm, h.most, h.szx, h.ok, h.a, h.b, h.wait, by have := h.ops; omega, by have := h.last; omega, .inr ⟨hd, hr, hs.more (by omega) (fun _ h => h)⟩⟩
    · rw [e]
      show HoldM (t + 1) sz d x j.off now (maybe ++ [[b]])
      exact ⟨h.fit.more hm, h.most, h.szx, h.off, h.a, h.b, h.wait, by have := h.ops; omega, by have := h.last; show j.last ≤ _; omega, .inr ⟨hd, rfl, hs.more (by omega) (fun l h => by simp [h])⟩⟩
theorem HoldM.append {t : Nat} {sz : List Nat} {d : DM} {x : MX} {j : JX} {now : List Body} {maybe : List (List Body)} (h : HoldM t sz d x j now maybe) (ht : t ≤ 100) (b : Body) :
    HoldM (t + 1) sz (appendJ d x j b).2.1 (appendJ d x j b).2.2.1 (appendJ d x j b).2.2.2 (afterA (appendJ d x j b).1 b now) (perhaps (appendJ d x j b).1 (now ++ [b]) maybe) := by
  have hm : t + 1 < d.most := by rw [h.most]; omega
  rcases h.st with hu | ⟨hd, hr, hs⟩
  · obtain ⟨f1, f2, f3, f4, f5, f6⟩ := append_spec b h.szx h.ok h.fit hu h.last (by omega)
    rcases f6 with ⟨f6, _⟩ | ⟨f6, _⟩ | ⟨f6, f7, f8⟩ | ⟨f6, f7, f8, f9, f10⟩
    · rw [f6]
      show HoldM (t + 1) sz d x j now maybe
      exact ⟨h.fit.more hm, h.most, h.szx, h.ok, h.a, h.b, h.wait, by have := h.ops; omega, by have := h.last; omega, .inl hu⟩
    · rw [f6]
      show HoldM (t + 1) sz d x j now maybe
      exact ⟨h.fit.more hm, h.most, h.szx, h.ok, h.a, h.b, h.wait, by have := h.ops; omega, by have := h.last; omega, .inl hu⟩
    · generalize appendJ d x j b = r at *
      obtain ⟨e, d1, x1, j1⟩ := r
      simp only at f1 f2 f3 f5 f6 f7 f8
      subst f6; subst f8
      have f2' : d1.most = 10000 := by rw [f2, h.most]
      refine ⟨f1.more (by rw [f2']; omega), f2', f3.sz.trans h.szx, ⟨h.ok.a, h.ok.b, h.ok.ne, h.ok.inn⟩, h.a, h.b, f5, by have := f3.few; have := h.ops; show x1.ops.length ≤ _; omega, by have := h.last; show j.last + 1 ≤ _; omega, .inl f7⟩
    · generalize appendJ d x j b = r at *
      obtain ⟨e, d1, x1, j1⟩ := r
      simp only at f1 f2 f3 f5 f6 f8 f9 f10
      subst f6; subst f9
      have f2' : d1.most = 10000 := by rw [f2, h.most]
      refine ⟨f1.more (by rw [f2']; omega), f2', f3.sz.trans h.szx, h.off, h.a, h.b, f5, by have := f3.few; have := h.ops; show x1.ops.length ≤ _; omega, by have := h.last; show j.last ≤ _; omega, .inr ⟨f8, rfl, ?_⟩⟩
      rw [h.a, h.b] at f10
      exact f10.more (Nat.le_refl _) (fun l hl => by simp [perhaps] at hl ⊢; exact .inr hl)
  · rw [append_off b hr]
    show HoldM (t + 1) sz d x j now maybe
    exact ⟨h.fit.more hm, h.most, h.szx, h.ok, h.a, h.b, h.wait, by have := h.ops; omega, by have := h.last; omega, .inr ⟨hd, hr, hs.more (by omega) (fun _ h => h)⟩⟩
theorem HoldM.budget {t : Nat} {sz : List Nat} {d : DM} {x : MX} {j : JX} {now : List Body} {maybe : List (List Body)} (h : HoldM t sz d x j now maybe) (ht : t ≤ 100) (s : Int) (hs : s ≤ 9223372036854775807) : HoldM (t + 1) sz (budgetD d s) x j now maybe := by
  have hf : Fit t (budgetD d s) sz := ⟨h.fit.ok.budget s hs, h.fit.now, h.fit.worn, h.fit.most, h.fit.room⟩
  have hm : t + 1 < d.most := by rw [h.most]; omega
  refine ⟨hf.more hm, h.most, h.szx, h.ok, h.a, h.b, h.wait, by have := h.ops; omega, by have := h.last; omega, ?_⟩
  rcases h.st with hu | ⟨hd, hr, hs⟩
  · exact .inl ⟨hu.up, hu.wait, hu.st, hu.rd⟩
  · exact .inr ⟨hd, hr, hs.more (by omega) (fun _ h => h)⟩
/-- Behind a Restart, opened anew. -/
theorem HoldM.restart {t : Nat} {sz : List Nat} {d : DM} {x : MX} {j : JX} {now : List Body} {maybe : List (List Body)} (h : HoldM t sz d x j now maybe) (ht : t ≤ 100) (bs : List UInt8) :
    HoldM (t + 1) sz (restartD d bs) x ⟨0, 1, (openD2 (restartD d bs) sz 0 1).1, (openD2 (restartD d bs) sz 0 1).2.1, 0, false⟩ (openD2 (restartD d bs) sz 0 1).2.2 [] ∧
      ((openD2 (restartD d bs) sz 0 1).2.2 = now ∨ (openD2 (restartD d bs) sz 0 1).2.2 ∈ maybe) ∧ (openD2 (restartD d bs) sz 0 1).2.2.length ≤ t := by
  have hs : Safe d sz 0 1 t now maybe := by
    rcases h.st with hu | ⟨_, _, hs⟩
    · have := hu.safe h.ok h.last maybe
      rw [h.a, h.b] at this
      exact this
    · exact hs
  obtain ⟨inn, last, l, e, h1, h2, h3, h4⟩ := restart_spec h.fit hs (by omega) bs
  rw [e]
  have hm : t + 1 < d.most := by rw [h.most]; omega
  have ha := h.ok.a
  have hb := h.ok.b
  rw [h.a] at ha
  rw [h.b] at hb
  exact ⟨⟨(h.fit.restart bs).more hm, h.most, h.szx, ⟨ha, hb, by show (0 : Nat) ≠ 1; omega, h3⟩, rfl, rfl, by show ([] : List (Nat × Sec)).length ≤ _; simp, by have := h.ops; omega, by show last ≤ _; omega, .inl h4⟩, h1, by
    rcases h4.st with ⟨e, _⟩ | ⟨_, _, n, T, e1, e2, _⟩
    · rw [e]; exact Nat.zero_le _
    · show l.length ≤ t
      have e2' : last + 1 = n + l.length := e2
      omega⟩
theorem HoldM.fresh (s0 s1 : Nat) (h0 : s0 ≤ 25) (h1 : s1 ≤ 25) : HoldM 0 [s0, s1, 1] (newD 60 10000) ⟨[s0, s1, 1], 0, []⟩ jnew [] [] :=
  ⟨fit0 h0 h1, most0, rfl, jnew_ok s0 s1, rfl, rfl, by show ([] : List (Nat × Sec)).length ≤ _; simp, by simp, by simp [jnew], .inl (up0 s0 s1)⟩
end Go.Proofs.Ytjebejdcjfnleaa
