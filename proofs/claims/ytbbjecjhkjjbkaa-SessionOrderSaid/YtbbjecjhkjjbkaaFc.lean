/-
  Walks: bytes.Equal, ether.Same, rutterref02.Same. Conditions: the bytes are read in memory.
-/
import Derived.Test.YtbbjecjhkjjbkaaFb
namespace Go.Proofs.Ytbbjecjhkjjbkaa
open Go.RowKit
set_option linter.unusedVariables false

theorem conv_any {w : World} {S : Nat → Prop} {A : Option Addr} {n c : Nat} {l : List UInt8} (h : Rds w S A n (bcs l)) : (convert 22 9 (.slice A n c)).run Try.prog w = .ok (.string ⟨l.toArray⟩) w :=
  conv_str 22 9 5 Try.underlying22 Try.underlying5 Try.underlying9 h

/-- Have two frames the same? -/
def sameB (d s t : Int) (l : List UInt8) (d2 s2 t2 : Int) (l2 : List UInt8) : Bool := d == d2 && (s == s2 && (t == t2 && l == l2))
end Go.Proofs.Ytbbjecjhkjjbkaa
