/-
  Acts that lie in memory. No condition.
-/
import Derived.Test.YtbigcebpfbfddaaOq
import Derived.Test.YtbigcebpfbfddaaOr
import Derived.Test.YtbigcebpfbfddaaArgs
import Derived.Deep.LoopGhost
import Derived.Lib.SmallJoins
namespace Go.Proofs.Ytbigcebpfbfddaa
open Go.RowKit
set_option linter.unusedVariables false

/-- An act as it is read. -/
structure At9 where
  k : Int
  who : Int
  now : Int
  mac : Int
  vr : Int
/-- A slice of m acts, of five cells each. -/
def AR9 (w : World) (S : Nat → Prop) (L : Option Addr) (m : Nat) (l : List At9) : Prop :=
  m = l.length ∧ (0 < m → ∃ ad, L = some ad ∧ S ad.block ∧ ad.block < w.heap.size ∧ ∀ (i : Nat) (x : At9), l[i]? = some x →
    w.cell? (ad.add (i * 5)) = some (.int .u8 x.k) ∧ w.cell? (ad.add (i * 5 + 1)) = some (.int .i64 x.who) ∧ w.cell? (ad.add (i * 5 + 2)) = some (.int .i64 x.now) ∧ w.cell? (ad.add (i * 5 + 3)) = some (.int .u64 x.mac) ∧ w.cell? (ad.add (i * 5 + 4)) = some (.int .i64 x.vr) ∧ (0 ≤ x.k ∧ x.k ≤ 255) ∧ (-9223372036854775808 ≤ x.vr ∧ x.vr ≤ 9223372036854775807))
section
variable {w w' : World} {S S' : Nat → Prop} {L : Option Addr} {m : Nat} {l : List At9}
theorem AR9.chg (h : AR9 w S L m l) (hc : Chg S' w w') (hd : ∀ k, S k → ¬ S' k) : AR9 w' S L m l := by
  refine ⟨h.1, fun hm => ?_⟩
  obtain ⟨ad, e, hs, hb, hcell⟩ := h.2 hm
  refine ⟨ad, e, hs, Nat.lt_of_lt_of_le hb hc.size, fun i x hi => ?_⟩
  obtain ⟨c0, c1, c2, c3, c4, h5, h6⟩ := hcell i x hi
  have hk : ∀ j, w'.cell? (ad.add j) = w.cell? (ad.add j) := fun j => World.cell?_of_block (by rw [block_add]; exact hc.block _ hb (hd _ hs))
  rw [← hk] at c0 c1 c2 c3 c4
  exact ⟨c0, c1, c2, c3, c4, h5, h6⟩
/-- The cells of an act, as the walk spells them. -/
theorem AR9.at {ad : Addr} {i : Nat} {x : At9} (h : AR9 w S (some ad) m l) (hi : l[i]? = some x) :
    w.cell? (ad.add (i * 5)) = some (.int .u8 x.k) ∧ w.cell? ⟨(ad.add (i * 5)).block, (ad.add (i * 5)).off + 1, none⟩ = some (.int .i64 x.who) ∧ w.cell? ⟨(ad.add (i * 5)).block, (ad.add (i * 5)).off + 2, none⟩ = some (.int .i64 x.now) ∧ w.cell? ⟨(ad.add (i * 5)).block, (ad.add (i * 5)).off + 3, none⟩ = some (.int .u64 x.mac) ∧ w.cell? ⟨(ad.add (i * 5)).block, (ad.add (i * 5)).off + 4, none⟩ = some (.int .i64 x.vr) ∧ (0 ≤ x.k ∧ x.k ≤ 255) ∧ (-9223372036854775808 ≤ x.vr ∧ x.vr ≤ 9223372036854775807) := by
  have hl : i < l.length := (List.getElem?_eq_some_iff.1 hi).1
  obtain ⟨ad', e, _, _, hc⟩ := h.2 (by have := h.1; omega)
  injection e with e
  subst e
  obtain ⟨g0, g1, g2, g3, g4, h5, h6⟩ := hc i x hi
  rw [← off_add] at g1 g2 g3 g4
  exact ⟨g0, g1, g2, g3, g4, h5, h6⟩
end

end Go.Proofs.Ytbigcebpfbfddaa
