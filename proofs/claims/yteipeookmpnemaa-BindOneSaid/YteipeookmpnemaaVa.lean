/-
  Walks: the document's writer: rutterref01.Fits, One, (*rutterref01.Writer).Put, Puts, Bytes, Done. Conditions: the receiver is such a writer in memory, its bytes are bounded.
-/
import Derived.Test.YteipeookmpnemaaWd
import Derived.Test.YteipeookmpnemaaGen
namespace Go.Proofs.Yteipeookmpnemaa
open Go.RowKit

def fitsR (n x : Int) : Bool := decide (1 ≤ n ∧ n ≤ 8) && fits n.toNat x

theorem div_fits (n : Nat) (x : Int) (hx : 0 ≤ x) : fits n x = (x / 256 ^ n == 0) := by
  have hp : (0 : Int) < 256 ^ n := Int.pow_pos (by decide)
  unfold fits
  have hd : decide (0 ≤ x) = true := by simpa using hx
  rw [hd, Bool.true_and, Bool.eq_iff_iff]
  simp only [decide_eq_true_eq, beq_iff_eq]
  constructor
  · intro h
    exact Int.ediv_eq_zero_of_lt hx h
  · intro h
    by_cases h1 : x < 256 ^ n
    · exact h1
    · exfalso
      have : 1 ≤ x / 256 ^ n := Int.le_ediv_of_mul_le hp (by rw [Int.one_mul]; exact Int.not_lt.1 h1)
      omega
theorem ret_bool {a b : Bool} (h : a = b) : Ending.returned (.bool a) = .returned (.bool b) := by rw [h]

end Go.Proofs.Yteipeookmpnemaa
