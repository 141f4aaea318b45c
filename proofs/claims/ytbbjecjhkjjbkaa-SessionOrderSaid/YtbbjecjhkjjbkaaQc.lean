/-
  Walks: tunnel.Same, rutterref05.Same. Conditions: the bytes are read in memory.
-/
import Derived.Test.YtbbjecjhkjjbkaaQb
namespace Go.Proofs.Ytbbjecjhkjjbkaa
open Go.RowKit
set_option linter.unusedVariables false

/-- Have two packets the same? -/
def pkS (k o f t p g i : Int) (l : List UInt8) (k2 o2 f2 t2 p2 g2 i2 : Int) (l2 : List UInt8) : Bool := k == k2 && (o == o2 && (f == f2 && (t == t2 && (p == p2 && (g == g2 && (i == i2 && l == l2))))))
theorem pkS_iff {k o f t p g i : Int} {l : List UInt8} {k2 o2 f2 t2 p2 g2 i2 : Int} {l2 : List UInt8} : pkS k o f t p g i l k2 o2 f2 t2 p2 g2 i2 l2 = true ↔ (k = k2 ∧ o = o2 ∧ f = f2 ∧ t = t2 ∧ p = p2 ∧ g = g2 ∧ i = i2 ∧ l = l2) := by
  unfold pkS
  simp only [Bool.and_eq_true, beq_iff_eq]
theorem pkS_refl (k o f t p g i : Int) (l : List UInt8) : pkS k o f t p g i l k o f t p g i l = true := pkS_iff.2 ⟨rfl, rfl, rfl, rfl, rfl, rfl, rfl, rfl⟩

end Go.Proofs.Ytbbjecjhkjjbkaa
