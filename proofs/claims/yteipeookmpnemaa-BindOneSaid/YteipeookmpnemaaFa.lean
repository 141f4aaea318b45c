/-
  Walks: ether.within, ether.Right, Many, MAC; rutterref02.Right. Conditions: the frame's numbers are of their kinds.
-/
import Derived.Test.YteipeookmpnemaaWc
import Derived.Test.YteipeookmpnemaaGen
import Derived.LoopTactic
namespace Go.Proofs.Yteipeookmpnemaa
open Go.RowKit

def withinB (lo hi : Int) (l : List Int) : Bool := l.all fun x => decide (lo ≤ x) && decide (x ≤ hi)
theorem within_true {lo hi : Int} {l : List Int} (h : ∀ j (hj : j < l.length), lo ≤ l[j] ∧ l[j] ≤ hi) : withinB lo hi l = true := by
  unfold withinB
  rw [List.all_eq_true]
  intro x hx
  obtain ⟨j, hj, rfl⟩ := List.getElem_of_mem hx
  have := h j hj
  simp [this.1, this.2]
theorem within_false {lo hi : Int} {l : List Int} (j : Nat) (hj : j < l.length) (h : l[j] < lo ∨ hi < l[j]) : withinB lo hi l = false := by
  unfold withinB
  rw [List.all_eq_false]
  refine ⟨_, List.getElem_mem hj, ?_⟩
  rcases h with h | h
  · have : ¬ lo ≤ l[j] := by omega
    simp [this]
  · have : ¬ l[j] ≤ hi := by omega
    simp [this]
theorem ret_b {a b : Bool} (h : a = b) : Ending.returned (.bool a) = .returned (.bool b) := by rw [h]

end Go.Proofs.Yteipeookmpnemaa
