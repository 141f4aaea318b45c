/-
  Walks: tunnel.Same, rutterref05.Same. Conditions: the bytes are read in memory.
-/
import Derived.Test.YtacbgelbffmngaaQb
namespace Go.Proofs.Ytacbgelbffmngaa
open Go.RowKit
set_option linter.unusedVariables false

/-- Have two packets the same? -/
def pkS (k o f t p g i : Int) (l : List UInt8) (k2 o2 f2 t2 p2 g2 i2 : Int) (l2 : List UInt8) : Bool := k == k2 && (o == o2 && (f == f2 && (t == t2 && (p == p2 && (g == g2 && (i == i2 && l == l2))))))
theorem pkS_iff {k o f t p g i : Int} {l : List UInt8} {k2 o2 f2 t2 p2 g2 i2 : Int} {l2 : List UInt8} : pkS k o f t p g i l k2 o2 f2 t2 p2 g2 i2 l2 = true ↔ (k = k2 ∧ o = o2 ∧ f = f2 ∧ t = t2 ∧ p = p2 ∧ g = g2 ∧ i = i2 ∧ l = l2) := by
  unfold pkS
  simp only [Bool.and_eq_true, beq_iff_eq]
theorem pkS_refl (k o f t p g i : Int) (l : List UInt8) : pkS k o f t p g i l k o f t p g i l = true := pkS_iff.2 ⟨rfl, rfl, rfl, rfl, rfl, rfl, rfl, rfl⟩

set_option maxRecDepth 100000 in
set_option maxHeartbeats 2000000 in
theorem rsame5_any (k o f t p g i k2 o2 f2 t2 p2 g2 i2 : Int) (A A2 : Option Addr) (n n2 c c2 : Nat) (l l2 : List UInt8) (S S2 : Nat → Prop) (w : World) (h : Rds w S A n (bcs l)) (h2 : Rds w S2 A2 n2 (bcs l2)) :
    Calls Try.prog 28 #[.agg (pkC k o f t p g i A n c), .agg (pkC k2 o2 f2 t2 p2 g2 i2 A2 n2 c2)] w fun e w' => e = .returned (.bool (pkS k o f t p g i l k2 o2 f2 t2 p2 g2 i2 l2)) ∧ Chg (fun _ => False) w w' := by
  have hC := ((Chg.refl (fun _ => False) w).alloc (.cells #[.int .i64 k, .int .i64 o, .int .i64 f, .int .i64 t, .int .i64 p, .int .i64 g, .int .i64 i, .slice A n c] 37)).alloc (.cells #[.int .i64 k2, .int .i64 o2, .int .i64 f2, .int .i64 t2, .int .i64 p2, .int .i64 g2, .int .i64 i2, .slice A2 n2 c2] 37)
  have hr1 := (h.alloc (.cells #[.int .i64 k, .int .i64 o, .int .i64 f, .int .i64 t, .int .i64 p, .int .i64 g, .int .i64 i, .slice A n c] 37)).alloc (.cells #[.int .i64 k2, .int .i64 o2, .int .i64 f2, .int .i64 t2, .int .i64 p2, .int .i64 g2, .int .i64 i2, .slice A2 n2 c2] 37)
  have hr2 := (h2.alloc (.cells #[.int .i64 k, .int .i64 o, .int .i64 f, .int .i64 t, .int .i64 p, .int .i64 g, .int .i64 i, .slice A n c] 37)).alloc (.cells #[.int .i64 k2, .int .i64 o2, .int .i64 f2, .int .i64 t2, .int .i64 p2, .int .i64 g2, .int .i64 i2, .slice A2 n2 c2] 37)
  have k1 := conv_any (c := c) hr1
  have k2' := conv_any (c := c2) hr2
  have HC := Lib.hid hC
  clear h h2 hr1 hr2 hC
  unfold pkC
  by_cases h0 : k = k2
  case neg =>
    have q0 : (k == k2) = false := by simpa using h0
    have hR := Lib.hid (show pkS k o f t p g i l k2 o2 f2 t2 p2 g2 i2 l2 = false by unfold pkS; rw [q0]; simp)
    clear h0
    go_enter Try.func28, Try.ntmps28
    go_wp2_with fail
    go_ret
    exact ⟨ret_b hR.out.symm, HC.out⟩
  subst h0
  by_cases h1 : o = o2
  case neg =>
    have q1 : (o == o2) = false := by simpa using h1
    have hR := Lib.hid (show pkS k o f t p g i l k o2 f2 t2 p2 g2 i2 l2 = false by unfold pkS; rw [q1]; simp)
    clear h1
    go_enter Try.func28, Try.ntmps28
    go_wp2_with fail
    go_ret
    exact ⟨ret_b hR.out.symm, HC.out⟩
  subst h1
  by_cases h2 : f = f2
  case neg =>
    have q2 : (f == f2) = false := by simpa using h2
    have hR := Lib.hid (show pkS k o f t p g i l k o f2 t2 p2 g2 i2 l2 = false by unfold pkS; rw [q2]; simp)
    clear h2
    go_enter Try.func28, Try.ntmps28
    go_wp2_with fail
    go_ret
    exact ⟨ret_b hR.out.symm, HC.out⟩
  subst h2
  by_cases h3 : t = t2
  case neg =>
    have q3 : (t == t2) = false := by simpa using h3
    have hR := Lib.hid (show pkS k o f t p g i l k o f t2 p2 g2 i2 l2 = false by unfold pkS; rw [q3]; simp)
    clear h3
    go_enter Try.func28, Try.ntmps28
    go_wp2_with fail
    go_ret
    exact ⟨ret_b hR.out.symm, HC.out⟩
  subst h3
  by_cases h4 : p = p2
  case neg =>
    have q4 : (p == p2) = false := by simpa using h4
    have hR := Lib.hid (show pkS k o f t p g i l k o f t p2 g2 i2 l2 = false by unfold pkS; rw [q4]; simp)
    clear h4
    go_enter Try.func28, Try.ntmps28
    go_wp2_with fail
    go_ret
    exact ⟨ret_b hR.out.symm, HC.out⟩
  subst h4
  by_cases h5 : g = g2
  case neg =>
    have q5 : (g == g2) = false := by simpa using h5
    have hR := Lib.hid (show pkS k o f t p g i l k o f t p g2 i2 l2 = false by unfold pkS; rw [q5]; simp)
    clear h5
    go_enter Try.func28, Try.ntmps28
    go_wp2_with fail
    go_ret
    exact ⟨ret_b hR.out.symm, HC.out⟩
  subst h5
  by_cases h6 : i = i2
  case neg =>
    have q6 : (i == i2) = false := by simpa using h6
    have hR := Lib.hid (show pkS k o f t p g i l k o f t p g i2 l2 = false by unfold pkS; rw [q6]; simp)
    clear h6
    go_enter Try.func28, Try.ntmps28
    go_wp2_with fail
    go_ret
    exact ⟨ret_b hR.out.symm, HC.out⟩
  subst h6
  have hR := Lib.hid (show pkS k o f t p g i l k o f t p g i l2 = (l == l2) by simp [pkS])
  go_enter Try.func28, Try.ntmps28
  go_wp2_with fail
  go_ret
  exact ⟨ret_b hR.out.symm, HC.out⟩

end Go.Proofs.Ytacbgelbffmngaa
