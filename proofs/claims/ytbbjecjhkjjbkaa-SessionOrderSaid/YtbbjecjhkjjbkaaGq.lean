/-
  A session by its labels. Walk: rutterlaw11.alive: true, whatever the world. No condition.
-/
import Derived.Test.YtbbjecjhkjjbkaaGp
namespace Go.Proofs.Ytbbjecjhkjjbkaa
open Go.RowKit
set_option linter.unusedVariables false
set_option linter.unusedSimpArgs false

/-- Label l is a session's block, label l + 1 its queue's row. -/
def SL (B : Nat) (w : World) (f : Nat → Option Nat) (l p : Nat) (x : SV) : Prop := f l = some p ∧ SN w p (f (l + 1)) (Gf B f) x
/-- What may be told of new labels: all but one are as they were; what lay apart lies apart. -/
structure Ren11 (B : Nat) (w w' : World) (f f' : Nat → Option Nat) (a : Nat) : Prop where
  fr : FR B w' f'
  eq : ∀ c, c ≠ a → f' c = f c
  ap : ∀ k, Gf B f k → k < w.heap.size → Gf B f' k
theorem SL.call {B : Nat} {w w' : World} {f : Nat → Option Nat} {l p : Nat} {y : SV} (h : FR B w f) (hl : f l = some p) (hm : SM p (f (l + 1)) (Gf B f) y w w') :
    ∃ f', Ren11 B w w' f f' (l + 1) ∧ SL B w' f' l p y ∧ Chg (fun k => f l = some k ∨ f (l + 1) = some k) w w' := by
  obtain ⟨o', h1, h2, h3, h4⟩ := SM.fr h hl (by omega) hm
  refine ⟨upd f (l + 1) o', ⟨h2, fun c hc => upd_ne f o' hc, fun k hk hs => Gf.upd h h1 hk hs⟩, ⟨by rw [upd_ne f o' (by omega)]; exact hl, by rw [upd_same]; exact h3⟩, h4⟩
theorem SL.take {B : Nat} {w w' : World} {f : Nat → Option Nat} {l p : Nat} {y : SV} (h : FR B w f) (hl : f l = some p) (hm : SMq p (f (l + 1)) (Gf B f) y w w') :
    ∃ f', Ren11 B w w' f f' (l + 1) ∧ SL B w' f' l p y ∧ Chg (fun k => f l = some k ∨ f (l + 1) = some k) w w' ∧ ∀ k, w.heap.size ≤ k → Gf B f' k := by
  obtain ⟨o', h0, h1, h2⟩ := hm
  obtain ⟨o2, g1, g2, g3, g4⟩ := SM.fr (lq := l + 1) h hl (by omega) ⟨o', h1, h2⟩
  have hlt := h1.lt
  have hu := h.upd (a := l + 1) h2.1.size (mv1_of h2) hlt.2
  have hm : SM p (f (l + 1)) (Gf B f) y w w' := ⟨o', h1, h2⟩
  have h7 : ∀ k, o' = some k → ¬ GN (Gf B f) w o' k := by obtain ⟨_, _, _, _, _, _, _, _, _, h⟩ := h1; exact h
  refine ⟨upd f (l + 1) o', ⟨hu, fun c hc => upd_ne f o' hc, fun k hk hs => Gf.upd h (mv1_of h2) hk hs⟩, ⟨by rw [upd_ne f o' (by omega)]; exact hl, ?_⟩, g4, fun k hk => ⟨Nat.le_trans h.le hk, fun b e => ?_⟩⟩
  · rw [upd_same]
    refine h1.mono (fun k hk _ => ?_) (fun e => e.2 l (by rw [upd_ne f o' (by omega)]; exact hl)) (fun k hk e => e.2 (l + 1) (by rw [upd_same]; exact hk))
    rcases hk with ⟨hk, hl2⟩ | ⟨hl2, hn⟩
    · exact Gf.upd h (mv1_of h2) hk hl2
    · refine ⟨Nat.le_trans h.le hl2, fun b e => ?_⟩
      by_cases hb : b = l + 1
      · subst hb
        rw [upd_same] at e
        exact hn e
      · rw [upd_ne f o' hb] at e
        have := h.lt b k e
        omega
  · by_cases hb : b = l + 1
    · subst hb
      rw [upd_same] at e
      rcases h0 with e2 | e2
      · have := h.lt (l + 1) k (by rw [← e2]; exact e)
        omega
      · rw [e2] at e; cases e
    · rw [upd_ne f o' hb] at e
      have := h.lt b k e
      omega
/-- A new block under a label that was none's. -/
theorem FR.add {B : Nat} {w w' : World} {f : Nat → Option Nat} {a g : Nat} (h : FR B w f) (hs : w.heap.size ≤ w'.heap.size) (hg : w.heap.size ≤ g) (hg2 : g < w'.heap.size) : ∃ f', Ren11 B w w' f f' a ∧ f' a = some g ∧ ∀ k, w.heap.size ≤ k → k ≠ g → Gf B f' k := by
  have hm : Mv1 w (f a) (some g) := .inr (.inr ⟨g, rfl, hg⟩)
  refine ⟨Go.Proofs.Ytbbjecjhkjjbkaa.upd f a (some g), ⟨h.upd hs hm (fun k hk => by injection hk with hk; omega), fun c hc => upd_ne f _ hc, fun k hk hl => Gf.upd h hm hk hl⟩, upd_same f a _, fun k hk hn => ⟨Nat.le_trans h.le hk, fun b e => ?_⟩⟩
  by_cases hb : b = a
  · subst hb
    rw [upd_same] at e
    injection e with e
    omega
  · rw [upd_ne f _ hb] at e
    have := h.lt b k e
    omega
/-- A session of other labels is as it was. -/
theorem SL.keep {B : Nat} {w w' : World} {f f' : Nat → Option Nat} {l p a : Nat} {x : SV} {S : Nat → Prop} (hs : SL B w f l p x) (hr : Ren11 B w w' f f' a) (hc : Chg S w w') (hS1 : ∀ k, f l = some k → ¬ S k) (hS2 : ∀ k, f (l + 1) = some k → ¬ S k) (hG : ∀ k, Gf B f k → k < w.heap.size → ¬ S k)
    (h1 : l ≠ a) (h2 : l + 1 ≠ a) : SL B w' f' l p x := by
  have e1 := hr.eq l h1
  have e2 := hr.eq (l + 1) h2
  refine ⟨e1.trans hs.1, ?_⟩
  rw [e2]
  exact (hs.2.old.chg hc (hS1 p hs.1) hS2 (fun k hk => hG k hk.1 hk.2)).mono (fun k hk _ => hr.ap k hk.1 hk.2) (fun e => e.2 l (e1.trans hs.1)) (fun k hk e => e.2 (l + 1) (e2.trans hk))
theorem SL.new {B : Nat} {w w' : World} {f : Nat → Option Nat} {l p : Nat} {x : SV} (hs : SL B w f l p x) (hc : Chg (fun _ => False) w w') : SL B w' f l p x := ⟨hs.1, hs.2.new hc⟩
theorem Ren11.gone {B : Nat} {w : World} {f : Nat → Option Nat} {l m : Nat} (h : FR B w f) {k : Nat} (hk : f m = some k) (h1 : m ≠ l) (h2 : m ≠ l + 1) : ¬ (f l = some k ∨ f (l + 1) = some k) := fun e => e.elim (fun e => h1 (h.inj m l k hk e)) (fun e => h2 (h.inj m (l + 1) k hk e))
theorem Gf.gone {B : Nat} {f : Nat → Option Nat} {l k : Nat} (h : Gf B f k) : ¬ (f l = some k ∨ f (l + 1) = some k) := fun e => e.elim (h.2 l) (h.2 (l + 1))
/-- A list of one letter in memory: its cells, its body. -/
theorem one_letter {w : World} {base n c : Nat} {A : Option Addr} {S : Nat → Prop} {ys : List LA} {l : LV} (hown : w.ownsRow base 24 5 (.slice A n c) n (ys.flatMap fun y => y.cs.toList)) (hl : LB w S ys [l]) (hn : n = 1) :
    ∃ g E d, A = some ⟨g, 0, none⟩ ∧ base ≤ g ∧ g < w.heap.size ∧ (w.cell? ⟨g, 0, none⟩ = some (.int .i64 l.mi) ∧ w.cell? ⟨g, 1, none⟩ = some (.int .i64 l.pe) ∧ w.cell? ⟨g, 2, none⟩ = some (.int .i64 l.ac) ∧ w.cell? ⟨g, 3, none⟩ = some (.int .i64 l.se) ∧ w.cell? ⟨g, 4, none⟩ = some (.slice E l.b.length d)) ∧ (E = none → d = 0) ∧ Rds w S E l.b.length (bcs l.b) := by
  subst hn
  have h1 := hl.1
  obtain ⟨g, hA⟩ : ∃ g, A = some ⟨g, 0, none⟩ := by
    rcases hown.2 with ⟨hv, h0⟩ | ⟨g, cap, cur, hv, _⟩
    · omega
    · injection hv with hv
      exact ⟨g, hv⟩
  subst hA
  have hlt := hown.lt g rfl
  match ys, h1 with
  | [y], _ =>
    obtain ⟨e0, e1, e2, e3, e4, e5, e6⟩ := hl.2 0 y l rfl rfl
    have hc : ∀ t u, y.cs[t]? = some u → w.cell? ⟨g, t, none⟩ = some u := fun t u hu => by
      have := hown.cells (g := g) rfl t u (by simpa using hu)
      rwa [show (⟨g, 0, none⟩ : Addr).add t = ⟨g, t, none⟩ from by unfold Addr.add; split <;> simp_all] at this
    refine ⟨g, y.A, y.c, rfl, hlt.1, hlt.2, ⟨?_, ?_, ?_, ?_, ?_⟩, e5, by rw [← e4]; exact e6⟩
    · rw [← e0]; exact hc 0 _ rfl
    · rw [← e1]; exact hc 1 _ rfl
    · rw [← e2]; exact hc 2 _ rfl
    · rw [← e3]; exact hc 3 _ rfl
    · rw [← e4]; exact hc 4 _ rfl


end Go.Proofs.Ytbbjecjhkjjbkaa
