/-
  Walks: rutterref05.In, Right. Conditions: none but the number of bytes.
-/
import Derived.Test.YtbbjecjhkjjbkaaQa
import Derived.Deep.DeepCutAuto
namespace Go.Proofs.Ytbbjecjhkjjbkaa
open Go.RowKit
set_option linter.unusedVariables false

def inB (x lo hi : Int) : Bool := decide (lo ≤ x) && decide (x ≤ hi)
set_option maxRecDepth 100000 in
set_option maxHeartbeats 400000 in
theorem in_any (x lo hi : Int) (w : World) : Calls Try.prog 26 #[.int .i64 x, .int .i64 lo, .int .i64 hi] w fun e w' => e = .returned (.bool (inB x lo hi)) ∧ w = w' := by
  by_cases h : lo ≤ x
  · have hR := Lib.hid (show inB x lo hi = decide (x ≤ hi) by unfold inB; simp [h])
    go_enter Try.func26, Try.ntmps26
    go_wp2_with fail
    go_ret
    exact ⟨ret_b hR.out.symm, rfl⟩
  · have hR := Lib.hid (show inB x lo hi = false by unfold inB; simp [h])
    go_enter Try.func26, Try.ntmps26
    go_wp2_with fail
    go_ret
    exact ⟨ret_b hR.out.symm, rfl⟩

def whoB (o f t : Int) : Bool := inB o 0 15 && (inB f 0 15 && (inB t 0 15 && (f != t)))
def restB (p g i : Int) (n : Nat) : Bool := inB p 0 31 && (inB g 1 4294967296 && (inB i 0 1099511627776 && inB (n : Int) 14 1514))
def kindB (k o f t : Int) : Bool := (k == 1 && f == o) || (k == 2 && (f != o && t != o))
theorem pkR_three (k o f t p g i : Int) (n : Nat) : pkR k o f t p g i n = (whoB o f t && (restB p g i n && kindB k o f t)) := by
  have e1 : withinB 0 15 [o, f, t] = (inB o 0 15 && (inB f 0 15 && (inB t 0 15 && true))) := rfl
  have e2 : withinB 0 31 [p] = (inB p 0 31 && true) := rfl
  have e3 : withinB 1 4294967296 [g] = (inB g 1 4294967296 && true) := rfl
  have e4 : withinB 0 1099511627776 [i] = (inB i 0 1099511627776 && true) := rfl
  have e5 : withinB 14 1514 [(n : Int)] = (inB (n : Int) 14 1514 && true) := rfl
  have e6 : goB k o f t = ((f != t) && kindB k o f t) := rfl
  unfold pkR
  rw [e1, e2, e3, e4, e5, e6]
  unfold whoB restB
  simp only [Bool.and_true]
  generalize kindB k o f t = x1
  generalize (f != t) = x2
  generalize inB o 0 15 = x3
  generalize inB f 0 15 = x4
  generalize inB t 0 15 = x5
  generalize inB p 0 31 = x6
  generalize inB g 1 4294967296 = x7
  generalize inB i 0 1099511627776 = x8
  generalize inB (n : Int) 14 1514 = x9
  ac_rfl
end Go.Proofs.Ytbbjecjhkjjbkaa
