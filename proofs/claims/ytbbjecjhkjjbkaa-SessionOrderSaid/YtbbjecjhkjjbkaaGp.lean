/-
  Blocks by their labels: which one is whose, all of them apart. No condition.
-/
import Derived.Test.YtbbjecjhkjjbkaaGj
import Derived.Test.YtbbjecjhkjjbkaaGf
namespace Go.Proofs.Ytbbjecjhkjjbkaa
open Go.RowKit
set_option linter.unusedVariables false
set_option linter.unusedSimpArgs false

/-- The blocks of these labels are there, from B on, no two of them the same. -/
structure FR (B : Nat) (w : World) (f : Nat → Option Nat) : Prop where
  inj : ∀ a b k, f a = some k → f b = some k → a = b
  lt : ∀ a k, f a = some k → k < w.heap.size
  lo : ∀ a k, f a = some k → B ≤ k
  le : B ≤ w.heap.size
def upd (f : Nat → Option Nat) (a : Nat) (o : Option Nat) (n : Nat) : Option Nat := if n = a then o else f n
/-- Bodies lie in no such block. -/
def Gf (B : Nat) (f : Nat → Option Nat) (k : Nat) : Prop := B ≤ k ∧ ∀ a, f a ≠ some k
theorem upd_same (f : Nat → Option Nat) (a : Nat) (o : Option Nat) : upd f a o a = o := if_pos rfl
theorem upd_ne (f : Nat → Option Nat) {a n : Nat} (o : Option Nat) (h : n ≠ a) : upd f a o n = f n := if_neg h
/-- A block's new number: as it was, none, or new. -/
def Mv1 (w : World) (o o' : Option Nat) : Prop := o' = o ∨ o' = none ∨ ∃ k, o' = some k ∧ w.heap.size ≤ k
section
variable {B : Nat} {w w' : World} {f : Nat → Option Nat} {a : Nat} {o' : Option Nat}
theorem FR.none (hB : B ≤ w.heap.size) : FR B w (fun _ => none) := ⟨fun _ _ _ h => (by cases h), fun _ _ h => (by cases h), fun _ _ h => (by cases h), hB⟩
theorem FR.size (h : FR B w f) (hs : w.heap.size ≤ w'.heap.size) : FR B w' f := ⟨h.inj, fun a k hk => Nat.lt_of_lt_of_le (h.lt a k hk) hs, h.lo, Nat.le_trans h.le hs⟩
theorem FR.upd (h : FR B w f) (hs : w.heap.size ≤ w'.heap.size) (ho : Mv1 w (f a) o') (hl : ∀ k, o' = some k → k < w'.heap.size) : FR B w' (upd f a o') := by
  have hcase : ∀ b k, (Go.Proofs.Ytbbjecjhkjjbkaa.upd f a o') b = some k → f b = some k ∨ (b = a ∧ w.heap.size ≤ k) := fun b k hk => by
    by_cases hb : b = a
    · subst hb
      rw [upd_same] at hk
      rcases ho with e | e | ⟨j, e, hj⟩
      · exact .inl (by rw [← e]; exact hk)
      · rw [e] at hk; cases hk
      · rw [e] at hk
        injection hk with hk
        exact .inr ⟨rfl, by omega⟩
    · rw [upd_ne f o' hb] at hk
      exact .inl hk
  refine ⟨fun b c k hb hc => ?_, fun b k hk => ?_, fun b k hk => ?_, Nat.le_trans h.le hs⟩
  · rcases hcase b k hb with h1 | ⟨h1, h2⟩
    · rcases hcase c k hc with h3 | ⟨h3, h4⟩
      · exact h.inj b c k h1 h3
      · have := h.lt b k h1
        omega
    · rcases hcase c k hc with h3 | ⟨h3, h4⟩
      · have := h.lt c k h3
        omega
      · omega
  · by_cases hb : b = a
    · subst hb
      rw [upd_same] at hk
      exact hl k hk
    · rw [upd_ne f o' hb] at hk
      exact Nat.lt_of_lt_of_le (h.lt b k hk) hs
  · rcases hcase b k hk with h1 | ⟨_, h1⟩
    · exact h.lo b k h1
    · have := h.le
      omega
/-- What was apart from all is so of the new number too. -/
theorem Gf.upd (h : FR B w f) (ho : Mv1 w (f a) o') {k : Nat} (hk : Gf B f k) (hl : k < w.heap.size) : Gf B (upd f a o') k := by
  refine ⟨hk.1, fun b e => ?_⟩
  by_cases hb : b = a
  · subst hb
    rw [upd_same] at e
    rcases ho with e2 | e2 | ⟨j, e2, hj⟩
    · exact hk.2 b (by rw [← e2]; exact e)
    · rw [e2] at e; cases e
    · rw [e2] at e
      injection e with e
      omega
  · rw [upd_ne f o' hb] at e
    exact hk.2 b e
theorem Gf.new (h : FR B w f) {k : Nat} (hk : w.heap.size ≤ k) : Gf B f k := ⟨Nat.le_trans h.le hk, fun b e => by have := h.lt b k e; omega⟩
theorem FR.apart (h : FR B w f) {b k : Nat} (hb : f b = some k) (hab : a ≠ b) : f a ≠ some k := fun e => hab (h.inj a b k e hb)
end
theorem mv1_of {p : Nat} {o o' : Option Nat} {w w' : World} (h : Mvd p o o' w w') : Mv1 w o o' := h.2
/-- Behind a call on the session of labels lp, lq. -/
theorem SM.fr {B : Nat} {w w' : World} {f : Nat → Option Nat} {p lp lq : Nat} {y : SV} (h : FR B w f) (hp : f lp = some p) (hne : lp ≠ lq) (hm : SM p (f lq) (Gf B f) y w w') :
    ∃ o', Mv1 w (f lq) o' ∧ FR B w' (upd f lq o') ∧ SN w' p o' (Gf B (upd f lq o')) y ∧ Chg (fun k => f lp = some k ∨ f lq = some k) w w' := by
  obtain ⟨o', hs, hmv⟩ := hm
  have h7 : ∀ k, o' = some k → ¬ GN (Gf B f) w o' k := by obtain ⟨_, _, _, _, _, _, _, _, _, h⟩ := hs; exact h
  have hlt := hs.lt
  have hu := h.upd (a := lq) hmv.1.size (mv1_of hmv) hlt.2
  refine ⟨o', mv1_of hmv, hu, hs.mono (fun k hk _ => ?_) (fun e => e.2 lp (by rw [upd_ne f o' hne]; exact hp)) (fun k hk e => e.2 lq (by rw [upd_same]; exact hk)), hmv.1.mono (fun k _ e => ?_)⟩
  · rcases hk with ⟨hk, hl⟩ | ⟨hl, hn⟩
    · exact Gf.upd h (mv1_of hmv) hk hl
    · refine ⟨Nat.le_trans h.le hl, fun b e => ?_⟩
      by_cases hb : b = lq
      · subst hb
        rw [upd_same] at e
        exact hn e
      · rw [upd_ne f o' hb] at e
        have := h.lt b k e
        omega
  · rcases e with e | e
    · exact .inl (by rw [e]; exact hp)
    · exact .inr e
/-- The other session is as it was. -/
theorem SN.fr {B : Nat} {w w' : World} {f : Nat → Option Nat} {p l1 l2 a : Nat} {o' : Option Nat} {x : SV} {S : Nat → Prop} (h : FR B w f) (hs : SN w p (f l2) (Gf B f) x) (hp : f l1 = some p) (hm : Mv1 w (f a) o') (hc : Chg S w w') (hS1 : ∀ k, f l1 = some k → ¬ S k) (hS2 : ∀ k, f l2 = some k → ¬ S k)
    (hG : ∀ k, Gf B f k → k < w.heap.size → ¬ S k) (h1 : l1 ≠ a) (h2 : l2 ≠ a) : SN w' p (f l2) (Gf B (upd f a o')) x :=
  (hs.old.chg hc (hS1 p hp) hS2 (fun k hk => hG k hk.1 hk.2)).mono (fun k hk _ => Gf.upd h hm hk.1 hk.2) (fun e => e.2 l1 (by rw [upd_ne f o' h1]; exact hp)) (fun k hk e => e.2 l2 (by rw [upd_ne f o' h2]; exact hk))


end Go.Proofs.Ytbbjecjhkjjbkaa
