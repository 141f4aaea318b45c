/-
  What each act that is done does to the version, the port, the generation (plain). No condition.
-/
import Derived.Test.YtbigcebpfbfddaaOr
import Derived.Test.YtbigcebpfbfddaaOk
namespace Go.Proofs.Ytbigcebpfbfddaa
open Go.RowKit
set_option linter.unusedVariables false

/-- An act that is done: what it makes may be, its version is one more, its port stays; its generation rises by one if t, else stays. -/
def Done9 (x y : RV) (t : Bool) : Prop := y.ok = true ∧ y.ve = x.ve + 1 ∧ y.po = x.po ∧ y.ge = (if t = true then x.ge + 1 else x.ge)
def oth9 (x y : RV) (k : Int) : Bool := (y.ow != x.ow && y.ow != -1) || k % 7 == 0
theorem fin_inv {x y : RV} {now : Int} {may : Bool} {a : RV × Int} (h : fin9 x now may a = (y, 0)) : x.ok = true ∧ a.2 = 0 ∧ y = { a.1 with ve := x.ve + 1, si := now } ∧ y.ok = true := by
  unfold fin9 at h
  split at h
  · rename_i hc
    split at h
    · rename_i h0
      unfold chk9 at h
      split at h
      · rename_i hk
        injection h with h1 h2
        subst h1
        exact ⟨hc.2.2, h0, rfl, hk⟩
      · injection h with h1 h2
        cases h2
    · rename_i h0
      injection h with h1 h2
      exact absurd h2 h0
  · injection h with h1 h2
    cases h2
theorem mv_who {x : RV} (h : x.ok = true) (hp : x.ph = 1) : x.ta ≠ x.ow ∧ x.ta ≠ -1 := by
  obtain ⟨po, ma, ow, ta, ol, ge, ph, ve, si⟩ := x
  have hp : ph = 1 := hp
  subst hp
  have h2 : rwR po ma ow ta ol ge 1 ve si = true := h
  simp only [rwR, Bool.and_eq_true] at h2
  have h3 := h2.2.2.2.2
  rw [show heldB 1 ow ta ol = (withinB 0 15 [ow, ta] && (!(ow == ta) && withinB (-1) (-1) [ol])) from rfl, Bool.and_eq_true, Bool.and_eq_true] at h3
  have h4 := h3.1
  have h5 := h3.2.1
  simp only [withinB, List.all_cons, List.all_nil, Bool.and_true, Bool.and_eq_true, decide_eq_true_eq] at h4
  have h6 : ow ≠ ta := by simpa using h5
  show ta ≠ ow ∧ ta ≠ -1
  omega
theorem oth_no {x y : RV} {k : Int} (hk : ¬ k % 7 = 0) (h : y.ow = x.ow ∨ y.ow = -1) : oth9 x y k = false := by
  unfold oth9
  have h2 : (k % 7 == 0) = false := by simpa using hk
  rw [h2, Bool.or_false]
  rcases h with h | h <;> simp [h]
theorem oth_yes {x y : RV} {k : Int} (h : y.ow ≠ x.ow ∧ y.ow ≠ -1) : oth9 x y k = true := by
  unfold oth9
  simp [h.1, h.2]
theorem co_law {x y : RV} {k now : Int} (hk : ¬ k % 7 = 0) (h : co9 x now = (y, 0)) : Done9 x y (oth9 x y k) := by
  obtain ⟨hx, h0, hy, hok⟩ := fin_inv h
  unfold coA at h0 hy
  split at h0
  · rename_i hp
    rw [if_pos hp] at hy
    have hw := mv_who hx hp
    rw [oth_yes (by subst hy; exact hw)]
    subst hy
    exact ⟨hok, rfl, rfl, rfl⟩
  · rename_i hp
    split at h0
    · rename_i hp2
      rw [if_neg hp, if_pos hp2] at hy
      rw [oth_no hk (by subst hy; exact .inl rfl)]
      subst hy
      exact ⟨hok, rfl, rfl, rfl⟩
    · cases h0
theorem ab_law {x y : RV} {k now : Int} (hk : ¬ k % 7 = 0) (h : ab9 x now = (y, 0)) : Done9 x y (oth9 x y k) := by
  obtain ⟨hx, h0, hy, hok⟩ := fin_inv h
  unfold abA at h0 hy
  split at h0
  · rename_i hp
    rw [if_pos hp] at hy
    rw [oth_no hk (by subst hy; exact .inl rfl)]
    subst hy
    exact ⟨hok, rfl, rfl, rfl⟩
  · cases h0
theorem do_law {x y : RV} {k who now mac vr : Int} (h : do9 x k who now mac vr = (y, 0)) : Done9 x y (oth9 x y k) := by
  unfold do9 at h
  by_cases k0 : k % 7 = 0
  · rw [if_pos k0] at h
    have ho : oth9 x y k = true := by unfold oth9; simp [k0]
    rw [ho]
    obtain ⟨hx, h0, hy, hok⟩ := fin_inv h
    unfold agA at h0 hy
    split at h0
    · rename_i hp
      split at h0
      · cases h0
      · rename_i hs
        rw [if_pos hp, if_neg hs] at hy
        subst hy
        exact ⟨hok, rfl, rfl, rfl⟩
    · cases h0
  rw [if_neg k0] at h
  by_cases k1 : k % 7 = 1
  · rw [if_pos k1] at h
    obtain ⟨hx, h0, hy, hok⟩ := fin_inv h
    unfold stA9 at h0 hy
    split at h0
    · rename_i hp
      split at h0
      · cases h0
      · rename_i ht
        split at h0
        · cases h0
        · rename_i hs
          rw [if_pos hp, if_neg ht, if_neg hs] at hy
          rw [oth_no k0 (by subst hy; exact .inl rfl)]
          subst hy
          exact ⟨hok, rfl, rfl, rfl⟩
    · cases h0
  rw [if_neg k1] at h
  by_cases k2 : k % 7 = 2
  · rw [if_pos k2] at h
    obtain ⟨hx, h0, hy, hok⟩ := fin_inv h
    unfold awA at h0 hy
    split at h0
    · rename_i hp
      split at h0
      · rename_i hv
        split at h0
        · rename_i hb
          rw [if_pos hp, if_pos hv, if_pos hb] at hy
          have hw := mv_who hx hp
          rw [oth_yes (by subst hy; exact hw)]
          subst hy
          exact ⟨hok, rfl, rfl, rfl⟩
        · cases h0
      · cases h0
    · cases h0
  rw [if_neg k2] at h
  by_cases k3 : k % 7 = 3
  · rw [if_pos k3] at h
    exact co_law k0 h
  rw [if_neg k3] at h
  by_cases k4 : k % 7 = 4
  · rw [if_pos k4] at h
    exact ab_law k0 h
  rw [if_neg k4] at h
  by_cases k5 : k % 7 = 5
  · rw [if_pos k5] at h
    obtain ⟨hx, h0, hy, hok⟩ := fin_inv h
    unfold drA at h0 hy
    split at h0
    · rename_i hp
      rw [if_pos hp] at hy
      rw [oth_no k0 (by subst hy; exact .inr rfl)]
      subst hy
      exact ⟨hok, rfl, rfl, rfl⟩
    · cases h0
  rw [if_neg k5] at h
  injection h with h1 h2
  have hb : (lt9 x now vr).2 = true := by
    cases hq : (lt9 x now vr).2 with
    | true => rfl
    | false => rw [hq] at h2; exact absurd h2 (by decide)
  unfold lt9 at h1 hb
  split at hb
  · rename_i hc
    rw [if_pos hc] at h1
    have he : en9 x now = (y, 0) := Prod.ext h1 hc.1
    unfold en9 at he
    split at he
    · exact co_law k0 he
    · exact ab_law k0 he
  · cases hb

end Go.Proofs.Ytbigcebpfbfddaa
