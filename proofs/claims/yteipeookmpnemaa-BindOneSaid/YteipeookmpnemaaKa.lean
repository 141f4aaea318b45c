/-
  Walks: inet.Check, rutterref04.Check. Conditions: the bytes are read in memory, not more than 100000.
-/
import Derived.Test.YteipeookmpnemaaKp
import Derived.Test.YteipeookmpnemaaWc
import Derived.Laws.BitsAllLaws
namespace Go.Proofs.Yteipeookmpnemaa
open Go.RowKit
set_option linter.unusedVariables false

theorem and_low (y : Nat) (h : y < 9223372036854775808) : bits .and .i64 (y : Int) 65535 = ((y % 65536 : Nat) : Int) := by
  show IntKind.i64.wrap ((BitVec.ofInt 64 (y : Int) &&& BitVec.ofInt 64 65535).toNat : Int) = _
  have e : (65535 : Int) = ((65535 : Nat) : Int) := rfl
  rw [e, BitVec.toNat_and, BitVec.ofInt_natCast, BitVec.ofInt_natCast, BitVec.toNat_ofNat, BitVec.toNat_ofNat, Nat.mod_eq_of_lt (by omega), Nat.mod_eq_of_lt (by decide)]
  have h2 : y &&& 65535 = y % 65536 := Nat.and_two_pow_sub_one_eq_mod y 16
  rw [h2]
  exact IntWalk.i64_in _ (by omega)
theorem xor_low (y : Nat) (h : y ≤ 65535) : bits .xor .i64 (y : Int) 65535 = ((65535 - y : Nat) : Int) := by
  show IntKind.i64.wrap ((BitVec.ofInt 64 (y : Int) ^^^ BitVec.ofInt 64 65535).toNat : Int) = _
  have e : (65535 : Int) = ((65535 : Nat) : Int) := rfl
  rw [e, BitVec.toNat_xor, BitVec.ofInt_natCast, BitVec.ofInt_natCast, BitVec.toNat_ofNat, BitVec.toNat_ofNat, Nat.mod_eq_of_lt (by omega), Nat.mod_eq_of_lt (by decide)]
  have h2 : y ^^^ 65535 = 65535 - y := by
    have h3 : (BitVec.ofNat 16 y ^^^ BitVec.allOnes 16).toNat = (~~~ (BitVec.ofNat 16 y)).toNat := by rw [BitVec.xor_allOnes]
    rw [BitVec.toNat_xor, BitVec.toNat_not, BitVec.toNat_allOnes, BitVec.toNat_ofNat, Nat.mod_eq_of_lt (by omega)] at h3
    have h4 : (2 ^ 16 - 1 : Nat) = 65535 := by decide
    rw [h4] at h3
    omega
  rw [h2]
  exact IntWalk.i64_in _ (by omega)

end Go.Proofs.Yteipeookmpnemaa
