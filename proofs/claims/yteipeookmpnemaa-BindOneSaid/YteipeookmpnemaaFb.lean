/-
  Walks: ether.Right, Many, MAC; rutterref02.Right; rutterlaw02.Fits. Conditions: the frame's numbers are of their kinds.
-/
import Derived.Test.YteipeookmpnemaaFa
namespace Go.Proofs.Yteipeookmpnemaa
open Go.RowKit
set_option linter.unusedVariables false

/-- May a frame be? -/
def rightB (d s t : Int) (n : Nat) : Bool := decide (d ≤ 281474976710655) && decide (s ≤ 281474976710655) && decide (0 ≤ t) && decide (t ≤ 65535) && decide (n ≤ 1500)
theorem right_parts (d s t : Int) (n : Nat) (hd : 0 ≤ d) (hs : 0 ≤ s) : rightB d s t n = (withinB 0 281474976710655 [d, s] && (withinB 0 65535 [t] && withinB 0 1500 [(n : Int)])) := by
  have e : decide ((n : Int) ≤ 1500) = decide (n ≤ 1500) := by rw [decide_eq_decide]; omega
  unfold rightB withinB
  simp [hd, hs, Bool.and_assoc, e]

theorem ics_u (l : List Int) : l.map (Value.int .i64) = ics l := rfl

theorem ret_i {k : IntKind} {a b : Int} (h : a = b) : Ending.returned (.int k a) = .returned (.int k b) := by rw [h]
def manyB (d : Int) : Bool := d / 1099511627776 % 2 == 1
theorem many_bit (d : Int) (hd : 0 ≤ d) (hm : d ≤ 18446744073709551615) : (bits BinOp.and IntKind.u64 d 1099511627776 != 0) = manyB d := by
  obtain ⟨x, rfl⟩ := Int.eq_ofNat_of_zero_le hd
  have e : bits BinOp.and IntKind.u64 (x : Int) 1099511627776 = ((x &&& 2 ^ 40 : Nat) : Int) := by
    show IntKind.u64.wrap ((BitVec.ofInt 64 ((x : Nat) : Int) &&& BitVec.ofInt 64 ((1099511627776 : Nat) : Int)).toNat : Int) = _
    rw [BitVec.toNat_and, BitVec.ofInt_natCast, BitVec.ofInt_natCast, BitVec.toNat_ofNat, BitVec.toNat_ofNat, Nat.mod_eq_of_lt (by omega), Nat.mod_eq_of_lt (by omega), IntKind.wrap_u64]
    have h : x &&& 1099511627776 ≤ 1099511627776 := Nat.and_le_right
    have h2 : x &&& 2 ^ 40 = x &&& 1099511627776 := rfl
    rw [h2]
    omega
  have h40 : (x &&& 2 ^ 40 = 0) ↔ Nat.testBit x 40 = false := by
    constructor
    · intro h
      have h2 : Nat.testBit (x &&& 2 ^ 40) 40 = false := by rw [h]; exact Nat.zero_testBit 40
      rw [Nat.testBit_and, Nat.testBit_two_pow_self, Bool.and_true] at h2
      exact h2
    · intro h
      refine Nat.eq_of_testBit_eq (fun i => ?_)
      rw [Nat.testBit_and, Nat.testBit_two_pow, Nat.zero_testBit]
      by_cases hi : 40 = i
      · subst hi
        rw [h, Bool.false_and]
      · simp [hi]
  rw [Nat.testBit_eq_decide_div_mod_eq] at h40
  unfold manyB
  have e2 : ((x : Int) / 1099511627776 % 2 == 1) = decide (x / 2 ^ 40 % 2 = 1) := by
    rw [Bool.eq_iff_iff]
    simp only [beq_iff_eq, decide_eq_true_eq]
    omega
  rw [e, e2]
  generalize x &&& 2 ^ 40 = y at h40
  rw [Bool.eq_iff_iff]
  simp only [bne_iff_ne, ne_eq, decide_eq_true_eq]
  simp only [decide_eq_false_iff_not] at h40
  omega
def macI (p : Int) : Int := if 0 ≤ p ∧ p ≤ 65535 then 2199023255552 + p else 0
end Go.Proofs.Yteipeookmpnemaa
