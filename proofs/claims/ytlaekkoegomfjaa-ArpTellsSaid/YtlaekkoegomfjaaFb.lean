/-
  Walks: ether.Right, Many, MAC; rutterref02.Right; rutterlaw02.Fits. Conditions: the frame's numbers are of their kinds.
-/
import Derived.Test.YtlaekkoegomfjaaFa
namespace Go.Proofs.Ytlaekkoegomfjaa
open Go.RowKit
set_option linter.unusedVariables false

/-- May a frame be? -/
def rightB (d s t : Int) (n : Nat) : Bool := decide (d ≤ 281474976710655) && decide (s ≤ 281474976710655) && decide (0 ≤ t) && decide (t ≤ 65535) && decide (n ≤ 1500)
theorem right_parts (d s t : Int) (n : Nat) (hd : 0 ≤ d) (hs : 0 ≤ s) : rightB d s t n = (withinB 0 281474976710655 [d, s] && (withinB 0 65535 [t] && withinB 0 1500 [(n : Int)])) := by
  have e : decide ((n : Int) ≤ 1500) = decide (n ≤ 1500) := by rw [decide_eq_decide]; omega
  unfold rightB withinB
  simp [hd, hs, Bool.and_assoc, e]

theorem ics_u (l : List Int) : l.map (Value.int .i64) = ics l := rfl

set_option maxHeartbeats 400000 in
theorem right_any (d s t : Int) (A : Option Addr) (n c : Nat) (w : World) (hd : 0 ≤ d) (hs : 0 ≤ s) (hn : n ≤ 9223372036854775807) :
    Calls Try.prog 18 #[.agg #[.int .u64 d, .int .u64 s, .int .i64 t, .slice A n c]] w fun e w' => e = .returned (.bool (rightB d s t n)) ∧ Chg (fun _ => False) w w' := by
  rw [right_parts d s t n hd hs]
  generalize hb1 : withinB 0 281474976710655 [d, s] = b1
  generalize hb2 : withinB 0 65535 [t] = b2
  generalize hb3 : withinB 0 1500 [(n : Int)] = b3
  have HB1 := Lib.hid hb1
  have HB2 := Lib.hid hb2
  have HB3 := Lib.hid hb3
  clear hb1 hb2 hb3
  cases b1 with
  | false =>
    go_enter Try.func18, Try.ntmps18
    go_wp2_with fail
    refine (within_u 0 281474976710655 [d, s] _ 2 2 _ _ rfl (rds_new1 _ _ _ _ _ (by simp) _ _ rfl rfl) (by decide)).mono ?_
    rw [HB1.out]
    rintro e w' ⟨rfl, rfl⟩
    go_wp2_with fail
    go_ret
    exact ⟨rfl, ((Chg.refl _ w).alloc _).alloc _⟩
  | true =>
    cases b2 with
    | false =>
      go_enter Try.func18, Try.ntmps18
      go_wp2_with fail
      refine (within_u 0 281474976710655 [d, s] _ 2 2 _ _ rfl (rds_new1 _ _ _ _ _ (by simp) _ _ rfl rfl) (by decide)).mono ?_
      rw [HB1.out]
      rintro e w' ⟨rfl, rfl⟩
      go_wp2_with fail
      refine (within_i 0 65535 [t] _ 1 1 _ _ rfl (rds_new1 _ _ _ _ _ (by simp) _ _ rfl rfl) (by decide)).mono ?_
      rw [HB2.out]
      rintro e w' ⟨rfl, rfl⟩
      go_wp2_with fail
      go_ret
      exact ⟨rfl, (((Chg.refl _ w).alloc _).alloc _).alloc _⟩
    | true =>
      go_enter Try.func18, Try.ntmps18
      go_wp2_with fail
      refine (within_u 0 281474976710655 [d, s] _ 2 2 _ _ rfl (rds_new1 _ _ _ _ _ (by simp) _ _ rfl rfl) (by decide)).mono ?_
      rw [HB1.out]
      rintro e w' ⟨rfl, rfl⟩
      go_wp2_with fail
      refine (within_i 0 65535 [t] _ 1 1 _ _ rfl (rds_new1 _ _ _ _ _ (by simp) _ _ rfl rfl) (by decide)).mono ?_
      rw [HB2.out]
      rintro e w' ⟨rfl, rfl⟩
      go_wp2_with fail
      refine (within_i 0 1500 [(n : Int)] _ 1 1 _ _ rfl (rds_new1 _ _ _ _ _ (by simp) _ _ rfl rfl) (by decide)).mono ?_
      rw [HB3.out]
      rintro e w' ⟨rfl, rfl⟩
      go_wp2_with fail
      go_ret
      exact ⟨rfl, ((((Chg.refl _ w).alloc _).alloc _).alloc _).alloc _⟩

set_option maxHeartbeats 400000 in
theorem rright_any (d s t : Int) (A : Option Addr) (n c : Nat) (w : World) (hd : 0 ≤ d) (hs : 0 ≤ s) (hn : n ≤ 9223372036854775807) :
    Calls Try.prog 20 #[.agg #[.int .u64 d, .int .u64 s, .int .i64 t, .slice A n c]] w fun e w' => e = .returned (.bool (rightB d s t n)) ∧ Chg (fun _ => False) w w' := by
  have hC := (Chg.refl (fun _ => False) w).alloc (.cells #[.int .u64 d, .int .u64 s, .int .i64 t, .slice A n c] 28)
  by_cases h1 : d ≤ 281474976710655
  · by_cases h2 : s ≤ 281474976710655
    · by_cases h3 : 0 ≤ t
      · by_cases h4 : t ≤ 65535
        · have hR0 : rightB d s t n = decide (n ≤ 1500) := by unfold rightB; simp [h1, h2, h3, h4]
          have hR := Lib.hid hR0
          clear hR0
          go_enter Try.func20, Try.ntmps20
          go_wp2_with fail
          go_ret
          exact ⟨ret_b (by rw [hR.out]; simp; try omega), hC⟩
        · have hR0 : rightB d s t n = false := by unfold rightB; simp [h4]
          have hR := Lib.hid hR0
          clear hR0
          go_enter Try.func20, Try.ntmps20
          go_wp2_with fail
          go_ret
          exact ⟨ret_b hR.out.symm, hC⟩
      · have hR0 : rightB d s t n = false := by unfold rightB; simp [h3]
        have hR := Lib.hid hR0
        clear hR0
        go_enter Try.func20, Try.ntmps20
        go_wp2_with fail
        go_ret
        exact ⟨ret_b hR.out.symm, hC⟩
    · have hR0 : rightB d s t n = false := by unfold rightB; simp [h2]
      have hR := Lib.hid hR0
      clear hR0
      go_enter Try.func20, Try.ntmps20
      go_wp2_with fail
      go_ret
      exact ⟨ret_b hR.out.symm, hC⟩
  · have hR0 : rightB d s t n = false := by unfold rightB; simp [h1]
    have hR := Lib.hid hR0
    clear hR0
    go_enter Try.func20, Try.ntmps20
    go_wp2_with fail
    go_ret
    exact ⟨ret_b hR.out.symm, hC⟩

set_option maxHeartbeats 400000 in
theorem ffits_any (d s t : Int) (A : Option Addr) (n c : Nat) (w : World) (hn : n ≤ 9223372036854775807) :
    Calls Try.prog 5 #[.agg #[.int .u64 d, .int .u64 s, .int .i64 t, .slice A n c]] w fun e w' => e = .returned (.bool (decide (n ≤ 3000))) ∧ Chg (fun _ => False) w w' := by
  have hC := (Chg.refl (fun _ => False) w).alloc (.cells #[.int .u64 d, .int .u64 s, .int .i64 t, .slice A n c] 28)
  go_enter Try.func5, Try.ntmps5
  go_wp2_with fail
  go_ret
  exact ⟨ret_b (by simp; try omega), hC⟩

theorem ret_i {k : IntKind} {a b : Int} (h : a = b) : Ending.returned (.int k a) = .returned (.int k b) := by rw [h]
def manyB (d : Int) : Bool := d / 1099511627776 % 2 == 1
theorem many_bit (d : Int) (hd : 0 ≤ d) (hm : d ≤ 18446744073709551615) : (bits BinOp.and IntKind.u64 d 1099511627776 != 0) = manyB d := by
  obtain ⟨x, rfl⟩ := Int.eq_ofNat_of_zero_le hd
  have e : bits BinOp.and IntKind.u64 (x : Int) 1099511627776 = ((x &&& 2 ^ 40 : Nat) : Int) := by
    show IntKind.u64.wrap ((BitVec.ofInt 64 ((x : Nat) : Int) &&& BitVec.ofInt 64 ((1099511627776 : Nat) : Int)).toNat : Int) = _
    rw [BitVec.toNat_and, BitVec.ofInt_natCast, BitVec.ofInt_natCast, BitVec.toNat_ofNat, BitVec.toNat_ofNat, Nat.mod_eq_of_lt (by omega), Nat.mod_eq_of_lt (by omega), IntKind.wrap_u64]
    have h : x &&& 1099511627776 ≤ 1099511627776 := Nat.and_le_right
    have h2 : x &&& 2 ^ 40 = x &&& 1099511627776 := rfl
    rw [h2]
    omega
  have h40 : (x &&& 2 ^ 40 = 0) ↔ Nat.testBit x 40 = false := by
    constructor
    · intro h
      have h2 : Nat.testBit (x &&& 2 ^ 40) 40 = false := by rw [h]; exact Nat.zero_testBit 40
      rw [Nat.testBit_and, Nat.testBit_two_pow_self, Bool.and_true] at h2
      exact h2
    · intro h
      refine Nat.eq_of_testBit_eq (fun i => ?_)
      rw [Nat.testBit_and, Nat.testBit_two_pow, Nat.zero_testBit]
      by_cases hi : 40 = i
      · subst hi
        rw [h, Bool.false_and]
      · simp [hi]
  rw [Nat.testBit_eq_decide_div_mod_eq] at h40
  unfold manyB
  have e2 : ((x : Int) / 1099511627776 % 2 == 1) = decide (x / 2 ^ 40 % 2 = 1) := by
    rw [Bool.eq_iff_iff]
    simp only [beq_iff_eq, decide_eq_true_eq]
    omega
  rw [e, e2]
  generalize x &&& 2 ^ 40 = y at h40
  rw [Bool.eq_iff_iff]
  simp only [bne_iff_ne, ne_eq, decide_eq_true_eq]
  simp only [decide_eq_false_iff_not] at h40
  omega
def macI (p : Int) : Int := if 0 ≤ p ∧ p ≤ 65535 then 2199023255552 + p else 0
end Go.Proofs.Ytlaekkoegomfjaa
