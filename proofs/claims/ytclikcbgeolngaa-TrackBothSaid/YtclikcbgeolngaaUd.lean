/-
  Walks: rutterref05.In, rutterref06.chassis, who, Row, record, Right. Conditions: the records are read in memory.
-/
import Derived.Test.YtclikcbgeolngaaUc
import Derived.Deep.DeepCutAuto
namespace Go.Proofs.Ytclikcbgeolngaa
open Go.RowKit
set_option linter.unusedVariables false

theorem wi_one (lo hi x : Int) : withinB lo hi [x] = (decide (lo ≤ x) && decide (x ≤ hi)) := by simp [withinB]
theorem wi_cons (lo hi x : Int) (l : List Int) : withinB lo hi (x :: l) = (withinB lo hi [x] && withinB lo hi l) := by simp [withinB]
theorem wi_nob (x : Int) : withinB (-1) (-1) [x] = (x == -1) := by
  rw [wi_one]
  by_cases h : x = -1
  · subst h; rfl
  · have h1 : (x == -1) = false := by simpa using h
    rw [h1]
    by_cases h2 : -1 ≤ x
    · have : ¬ x ≤ -1 := by omega
      simp [this]
    · simp [h2]
set_option maxRecDepth 100000 in
set_option maxHeartbeats 400000 in
theorem in6_any (x lo hi : Int) (w : World) : Calls Try.prog 33 #[.int .i64 x, .int .i64 lo, .int .i64 hi] w fun e w' => e = .returned (.bool (withinB lo hi [x])) ∧ w = w' := by
  by_cases h : lo ≤ x
  · have hR := Lib.hid (show withinB lo hi [x] = decide (x ≤ hi) by rw [wi_one]; simp [h])
    go_enter Try.func33, Try.ntmps33
    go_wp2_with fail
    go_ret
    exact ⟨ret_b hR.out.symm, rfl⟩
  · have hR := Lib.hid (show withinB lo hi [x] = false by rw [wi_one]; simp [h])
    go_enter Try.func33, Try.ntmps33
    go_wp2_with fail
    go_ret
    exact ⟨ret_b hR.out.symm, rfl⟩

def whoB (ph ow ta ol : Int) (b1 b2 b3 : Bool) : Bool :=
  if ph = 0 then b1 && (ta == -1 && ol == -1)
  else if ph = 1 then b1 && (b2 && (ol == -1 && ow != ta))
  else if ph = 2 then b1 && (b3 && (ta == -1 && ow != ol))
  else if ph = 3 then ow == -1 && (ta == -1 && ol == -1)
  else false
theorem held_who (ph ow ta ol : Int) : heldB ph ow ta ol = whoB ph ow ta ol (withinB 0 15 [ow]) (withinB 0 15 [ta]) (withinB 0 15 [ol]) := by
  unfold heldB whoB
  rw [wi_cons (-1) (-1) ow, wi_cons (-1) (-1) ta, wi_cons 0 15 ow [ta], wi_cons 0 15 ow [ol], wi_nob, wi_nob, wi_nob]
  unfold bne
  generalize withinB 0 15 [ow] = b1
  generalize withinB 0 15 [ta] = b2
  generalize withinB 0 15 [ol] = b3
  generalize (ta == -1) = b4
  generalize (ol == -1) = b5
  generalize (ow == -1) = b6
  split
  · rfl
  · split
    · cases b1 <;> cases b2 <;> cases b5 <;> simp
    · split
      · cases b1 <;> cases b3 <;> cases b4 <;> simp
      · rfl

theorem rw_three (po ma ow ta ol ge ph ve si : Int) : rwR po ma ow ta ol ge ph ve si = (heldB ph ow ta ol && ((withinB 0 31 [po] && (withinB 1 4294967296 [ge] && (withinB 1 1099511627776 [ve] && withinB 0 1099511627776 [si]))) && decide (ma ≤ 281474976710655))) := by
  unfold rwR namedB
  generalize heldB ph ow ta ol = x1
  generalize withinB 0 31 [po] = x2
  generalize withinB 1 4294967296 [ge] = x3
  generalize withinB 1 1099511627776 [ve] = x4
  generalize withinB 0 1099511627776 [si] = x5
  generalize decide (ma ≤ 281474976710655) = x6
  ac_rfl
theorem ms_bad (kd po ma ow ta ol ge ph ve si pt vr : Int) {l : List Rc} (h : l.all rcR = false) : msR kd po ma ow ta ol ge ph ve si pt vr l = false := by
  have h0 : (l.length == 0) = false := by
    cases l with
    | nil => cases h
    | cons x r => rfl
  unfold msR keptB
  rw [h0, h]
  simp
end Go.Proofs.Ytclikcbgeolngaa
