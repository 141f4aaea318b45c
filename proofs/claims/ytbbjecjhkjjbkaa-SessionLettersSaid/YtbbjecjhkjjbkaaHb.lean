/-
  rutterlaw11.SessionLetters, of any arguments.
-/
import Derived.Test.YtbbjecjhkjjbkaaHa
import Derived.Test.YtbbjecjhkjjbkaaGs
namespace Go.Proofs.Ytbbjecjhkjjbkaa
open Go.RowKit
set_option linter.unusedVariables false
set_option linter.unusedSimpArgs false

theorem letters11_all (m p a s : Int) (A : Option Addr) (n c : Nat) (b : List UInt8) (B : Option Addr) (k kc : Nat) (bb : List UInt8) (w : World) (h : Bs11 w A n c b) (h1 : Bs11 w B k kc bb) : Calls Try.prog 3 #[.agg (ltC m p a s A n c), .slice B k kc] w fun e w' => e = .returned (.bool true) ∧ Chg (fun _ => False) w w' := by
  by_cases hn : n ≤ 2000
  · by_cases hk : k ≤ 2000
    · exact letters11_any m p a s A n c b B k kc bb _ _ w h.1 h.2.2.2 h1.1 h1.2.2.2 h1.2.2.1 hn hk
    · exact letters11_big m p a s A n c B k kc w (.inr ⟨hn, by omega⟩) h.2.1 h1.2.1
  · exact letters11_big m p a s A n c B k kc w (.inl (by omega)) h.2.1 h1.2.1


end Go.Proofs.Ytbbjecjhkjjbkaa
