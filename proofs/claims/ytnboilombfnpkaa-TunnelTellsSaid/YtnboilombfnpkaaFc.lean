/-
  Walks: bytes.Equal, ether.Same, rutterref02.Same. Conditions: the bytes are read in memory.
-/
import Derived.Test.YtnboilombfnpkaaFb
namespace Go.Proofs.Ytnboilombfnpkaa
open Go.RowKit
set_option linter.unusedVariables false

theorem conv_any {w : World} {S : Nat → Prop} {A : Option Addr} {n c : Nat} {l : List UInt8} (h : Rds w S A n (bcs l)) : (convert 23 9 (.slice A n c)).run Try.prog w = .ok (.string ⟨l.toArray⟩) w :=
  conv_str 23 9 5 Try.underlying23 Try.underlying5 Try.underlying9 h

set_option maxHeartbeats 400000 in
theorem equal_any (A A2 : Option Addr) (n n2 c c2 : Nat) (l l2 : List UInt8) (S S2 : Nat → Prop) (w : World) (h : Rds w S A n (bcs l)) (h2 : Rds w S2 A2 n2 (bcs l2)) :
    Calls Try.prog 22 #[.slice A n c, .slice A2 n2 c2] w fun e w' => e = .returned (.bool (l == l2)) ∧ w = w' := by
  have s1 := conv_any (c := c) h
  have s2 := conv_any (c := c2) h2
  clear h h2
  go_enter Try.func22, Try.ntmps22
  go_wp2_with fail
  go_ret
  exact ⟨rfl, rfl⟩

/-- Have two frames the same? -/
def sameB (d s t : Int) (l : List UInt8) (d2 s2 t2 : Int) (l2 : List UInt8) : Bool := d == d2 && (s == s2 && (t == t2 && l == l2))
end Go.Proofs.Ytnboilombfnpkaa
