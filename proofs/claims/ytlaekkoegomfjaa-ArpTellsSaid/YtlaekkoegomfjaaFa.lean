/-
  Walks: ether.within, ether.Right, Many, MAC; rutterref02.Right. Conditions: the frame's numbers are of their kinds.
-/
import Derived.Test.YtlaekkoegomfjaaWc
import Derived.Test.YtlaekkoegomfjaaGen
import Derived.LoopTactic
namespace Go.Proofs.Ytlaekkoegomfjaa
open Go.RowKit

def withinB (lo hi : Int) (l : List Int) : Bool := l.all fun x => decide (lo ≤ x) && decide (x ≤ hi)
theorem within_true {lo hi : Int} {l : List Int} (h : ∀ j (hj : j < l.length), lo ≤ l[j] ∧ l[j] ≤ hi) : withinB lo hi l = true := by
  unfold withinB
  rw [List.all_eq_true]
  intro x hx
  obtain ⟨j, hj, rfl⟩ := List.getElem_of_mem hx
  have := h j hj
  simp [this.1, this.2]
theorem within_false {lo hi : Int} {l : List Int} (j : Nat) (hj : j < l.length) (h : l[j] < lo ∨ hi < l[j]) : withinB lo hi l = false := by
  unfold withinB
  rw [List.all_eq_false]
  refine ⟨_, List.getElem_mem hj, ?_⟩
  rcases h with h | h
  · have : ¬ lo ≤ l[j] := by omega
    simp [this]
  · have : ¬ l[j] ≤ hi := by omega
    simp [this]
theorem ret_b {a b : Bool} (h : a = b) : Ending.returned (.bool a) = .returned (.bool b) := by rw [h]

set_option maxHeartbeats 400000 in
theorem within_u (lo hi : Int) (l : List Int) (A : Option Addr) (n c : Nat) (S : Nat → Prop) (w : World) (hn : n = l.length) (hr : Rds w S A n (l.map (Value.int .u64))) (hb : n ≤ 1000) :
    Calls Try.prog 27 #[.int .u64 lo, .int .u64 hi, .slice A n c] w fun e w' => e = .returned (.bool (withinB lo hi l)) ∧ w = w' := by
  have HN := Lib.hid hn
  clear hn
  go_enter Try.func27, Try.ntmps27
  go_wp2
  go_loop [8, 11] (fun _ i => ∃ k : Nat, k ≤ n ∧ i = .int .i64 k ∧ ∀ j (hj : j < l.length), j < k → lo ≤ l[j] ∧ l[j] ≤ hi) (fun _ i => n - (intOf i).toNat)
  case atStart => exact ⟨0, Nat.zero_le _, rfl, fun j _ h => absurd h (Nat.not_lt_zero _)⟩
  case round =>
    obtain ⟨k, hk, rfl, hall⟩ := hrel
    have HA := Lib.hid hall
    clear hall
    by_cases hlt : k < n
    · obtain ⟨ad, rfl, _, _, hc⟩ := hr.cellAt hlt
      have hkl : k < l.length := by have := HN.out; omega
      rw [List.getElem?_map, List.getElem?_eq_getElem hkl] at hc
      simp only [Option.map_some] at hc
      have hx : Hid (l[k] = l[k]) := rfl
      have hv : ∃ x, x = l[k] := ⟨_, rfl⟩
      obtain ⟨x, hxe⟩ := hv
      rw [← hxe] at hc
      have HX := Lib.hid hxe
      clear hxe hx
      by_cases h1 : x < lo
      · go_wp2
        go_ret
        exact ⟨ret_b (within_false k hkl (by have := HX.out; omega)).symm, rfl⟩
      · by_cases h2 : hi < x
        · go_wp2
          go_ret
          exact ⟨ret_b (within_false k hkl (by have := HX.out; omega)).symm, rfl⟩
        · go_wp2
          go_round
          case rel => exact ⟨k + 1, by omega, by go_num, fun j hj hjk => by
            by_cases e : j < k
            · exact HA.out j hj e
            · have : j = k := by omega
              subst this
              have := HX.out
              omega⟩
          case measure => simp [intOf]; omega
    · have : k = n := by omega
      subst this
      go_wp2
      go_ret
      exact ⟨ret_b (within_true (fun j hj => HA.out j hj (by have := HN.out; omega))).symm, rfl⟩

set_option maxHeartbeats 400000 in
theorem within_i (lo hi : Int) (l : List Int) (A : Option Addr) (n c : Nat) (S : Nat → Prop) (w : World) (hn : n = l.length) (hr : Rds w S A n (l.map (Value.int .i64))) (hb : n ≤ 1000) :
    Calls Try.prog 28 #[.int .i64 lo, .int .i64 hi, .slice A n c] w fun e w' => e = .returned (.bool (withinB lo hi l)) ∧ w = w' := by
  have HN := Lib.hid hn
  clear hn
  go_enter Try.func28, Try.ntmps28
  go_wp2
  go_loop [8, 11] (fun _ i => ∃ k : Nat, k ≤ n ∧ i = .int .i64 k ∧ ∀ j (hj : j < l.length), j < k → lo ≤ l[j] ∧ l[j] ≤ hi) (fun _ i => n - (intOf i).toNat)
  case atStart => exact ⟨0, Nat.zero_le _, rfl, fun j _ h => absurd h (Nat.not_lt_zero _)⟩
  case round =>
    obtain ⟨k, hk, rfl, hall⟩ := hrel
    have HA := Lib.hid hall
    clear hall
    by_cases hlt : k < n
    · obtain ⟨ad, rfl, _, _, hc⟩ := hr.cellAt hlt
      have hkl : k < l.length := by have := HN.out; omega
      rw [List.getElem?_map, List.getElem?_eq_getElem hkl] at hc
      simp only [Option.map_some] at hc
      have hv : ∃ x, x = l[k] := ⟨_, rfl⟩
      obtain ⟨x, hxe⟩ := hv
      rw [← hxe] at hc
      have HX := Lib.hid hxe
      clear hxe
      by_cases h1 : x < lo
      · go_wp2
        go_ret
        exact ⟨ret_b (within_false k hkl (by have := HX.out; omega)).symm, rfl⟩
      · by_cases h2 : hi < x
        · go_wp2
          go_ret
          exact ⟨ret_b (within_false k hkl (by have := HX.out; omega)).symm, rfl⟩
        · go_wp2
          go_round
          case rel => exact ⟨k + 1, by omega, by go_num, fun j hj hjk => by
            by_cases e : j < k
            · exact HA.out j hj e
            · have : j = k := by omega
              subst this
              have := HX.out
              omega⟩
          case measure => simp [intOf]; omega
    · have : k = n := by omega
      subst this
      go_wp2
      go_ret
      exact ⟨ret_b (within_true (fun j hj => HA.out j hj (by have := HN.out; omega))).symm, rfl⟩

end Go.Proofs.Ytlaekkoegomfjaa
