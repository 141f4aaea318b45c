/-
  The store, plain: what is held, what each call answers; what always holds of it. No condition.
-/
import Derived.Test.YtimgnogacanifaaGreatOo
import Derived.Test.YtimgnogacanifaaGreatPa
namespace Go.Proofs.YtimgnogacanifaaGreat
open Go.RowKit
set_option linter.unusedVariables false

/-- A change: a row, the version that was. -/
structure CV where
  r : RV
  was : Int
def CV.cs (x : CV) : Array Value := #[.int .i64 x.r.po, .int .u64 x.r.ma, .int .i64 x.r.ow, .int .i64 x.r.ta, .int .i64 x.r.ol, .int .i64 x.r.ge, .int .i64 x.r.ph, .int .i64 x.r.ve, .int .i64 x.r.si, .int .i64 x.was]
theorem cv_size (x : CV) : x.cs.size = 10 := rfl
theorem rv_size (x : RV) : x.cs.size = 9 := rfl
/-- All rows, by ports. -/
def rowsP (R : Int → Option RV) : List RV := (List.range 32).filterMap (fun i : Nat => R (i : Int))
def chasP (C : Int → Bool) : List Int := ((List.range 32).map Int.ofNat).filter C
def hasM (ma : Int) (x : RV) : Bool := x.ph != 3 && x.ma == ma
def findP (R : Int → Option RV) (ma : Int) : Option RV := (rowsP R).find? (hasM ma)
def namesP (c : Int) (x : RV) : Bool := [x.ow, x.ta, x.ol].contains c
def usesP (R : Int → Option RV) (c : Int) : Bool := (rowsP R).any (namesP c)
def gapP (C : Int → Bool) (n : Int) : Bool := n != -1 && !C n
def lackP (C : Int → Bool) (x : RV) : Bool := [x.ow, x.ta, x.ol].any (gapP C)
def verP (R : Int → Option RV) (p : Int) : Int := ((R p).getD z9).ve
def takeP (R : Int → Option RV) (x : RV) : Bool := x.ph != 3 && ((findP R x.ma).isSome && ((findP R x.ma).getD z9).po != x.po)
/-- A change's error. -/
def wrongP (C : Int → Bool) (R : Int → Option RV) (c : CV) : Int :=
  if (!c.r.ok || decide (c.r.ve ≤ c.was)) = true then 1 else if lackP C c.r = true then 4 else if (verP R c.r.po != c.was) = true then 7 else if takeP R c.r = true then 5 else 0
def putR (R : Int → Option RV) (x : RV) : Int → Option RV := fun y => if y = x.po then some x else R y
/-- Changes, one behind the other: the first error, and what is held. -/
def appP (C : Int → Bool) : List CV → (Int → Option RV) → Int × (Int → Option RV)
  | [], R => (0, R)
  | c :: l, R => if wrongP C R c = 0 then appP C l (putR R c.r) else (wrongP C R c, R)
def addP (C : Int → Bool) (z : Int) : Int := if (decide (z < 0) || decide (15 < z)) = true then 1 else if C z = true then 5 else 0
def addC (C : Int → Bool) (z : Int) : Int → Bool := fun y => if y = z then true else C y
def remP (C : Int → Bool) (R : Int → Option RV) (z : Int) : Int := if C z = false then 4 else if usesP R z = true then 11 else 0
def remC (C : Int → Bool) (z : Int) : Int → Bool := fun y => if y = z then false else C y
def addK (C : Int → Bool) (z : Int) : Int → Bool := if addP C z = 0 then addC C z else C
def remK (C : Int → Bool) (R : Int → Option RV) (z : Int) : Int → Bool := if remP C R z = 0 then remC C z else C
def lateV (now span : Int) (x : RV) : Option CV := if (lt9 x now span).2 = true then some ⟨(lt9 x now span).1, x.ve⟩ else none
def lateP (R : Int → Option RV) (now span : Int) : List CV := (rowsP R).filterMap (lateV now span)

theorem RV.bd {x : RV} (h : x.ok = true) : (0 ≤ x.po ∧ x.po ≤ 31) ∧ (1 ≤ x.ve ∧ x.ve ≤ 1099511627776) ∧ x.ma ≤ 281474976710655 ∧ (1 ≤ x.ge ∧ x.ge ≤ 4294967296) ∧ (0 ≤ x.si ∧ x.si ≤ 1099511627776) := ok_bounds h
/-- What always holds. -/
structure WF (C : Int → Bool) (R : Int → Option RV) : Prop where
  ch : ∀ z, C z = true → 0 ≤ z ∧ z ≤ 15
  row : ∀ z x, R z = some x → x.ok = true ∧ x.po = z ∧ lackP C x = false
  one : ∀ z y x u, R z = some x → R y = some u → x.ph ≠ 3 → u.ph ≠ 3 → x.ma = u.ma → z = y
section
variable {C : Int → Bool} {R : Int → Option RV}
theorem WF.start : WF (fun _ => false) (fun _ => none) := ⟨by simp, by simp, by simp⟩
theorem WF.bounds (h : WF C R) {z : Int} {x : RV} (hx : R z = some x) : 0 ≤ z ∧ z ≤ 31 := by
  obtain ⟨h1, h2, _⟩ := h.row z x hx
  have := (RV.bd h1).1
  omega
theorem WF.ver (h : WF C R) {z : Int} {x : RV} (hx : R z = some x) : 1 ≤ x.ve ∧ x.ve ≤ 1099511627776 := (RV.bd (h.row z x hx).1).2.1
theorem WF.mem (h : WF C R) {x : RV} : x ∈ rowsP R ↔ ∃ z, R z = some x := by
  unfold rowsP
  rw [List.mem_filterMap]
  constructor
  · rintro ⟨i, _, hi⟩; exact ⟨_, hi⟩
  · rintro ⟨z, hz⟩
    have := h.bounds hz
    exact ⟨z.toNat, List.mem_range.2 (by omega), by rw [show ((z.toNat : Nat) : Int) = z by omega]; exact hz⟩
theorem names_iff {c : Int} {x : RV} : namesP c x = true ↔ x.ow = c ∨ x.ta = c ∨ x.ol = c := by
  unfold namesP
  simp only [List.contains_cons, List.contains_nil, Bool.or_false, Bool.or_eq_true, beq_iff_eq]
  constructor
  · rintro (h | h | h) <;> simp [h]
  · rintro (h | h | h) <;> simp [h]
theorem lack_iff {x : RV} : lackP C x = false ↔ gapP C x.ow = false ∧ gapP C x.ta = false ∧ gapP C x.ol = false := by
  unfold lackP
  simp
theorem gap_of {n : Int} : gapP C n = false ↔ n = -1 ∨ C n = true := by
  unfold gapP
  by_cases h : n = -1 <;> cases hc : C n <;> simp [h]
theorem WF.add (h : WF C R) {z : Int} (hz : addP C z = 0) : WF (addC C z) R := by
  have hb : 0 ≤ z ∧ z ≤ 15 := by
    unfold addP at hz
    split at hz
    · cases hz
    · rename_i hb
      simp only [Bool.or_eq_true, decide_eq_true_eq] at hb
      omega
  refine ⟨fun y hy => ?_, fun y x hx => ?_, h.one⟩
  · unfold addC at hy
    split at hy
    · omega
    · exact h.ch y hy
  · obtain ⟨h1, h2, h3⟩ := h.row y x hx
    refine ⟨h1, h2, ?_⟩
    rw [lack_iff] at h3 ⊢
    have hm : ∀ n, gapP C n = false → gapP (addC C z) n = false := by
      intro n hn
      rw [gap_of] at hn ⊢
      rcases hn with hn | hn
      · exact .inl hn
      · right; unfold addC; split
        · rfl
        · exact hn
    exact ⟨hm _ h3.1, hm _ h3.2.1, hm _ h3.2.2⟩
theorem WF.rem (h : WF C R) {z : Int} (hz : remP C R z = 0) : WF (remC C z) R := by
  have hu : usesP R z = false := by
    unfold remP at hz
    split at hz
    · cases hz
    · split at hz
      · cases hz
      · rename_i hh; simpa using hh
  refine ⟨fun y hy => ?_, fun y x hx => ?_, h.one⟩
  · unfold remC at hy
    split at hy
    · cases hy
    · exact h.ch y hy
  · obtain ⟨h1, h2, h3⟩ := h.row y x hx
    refine ⟨h1, h2, ?_⟩
    have hn : ¬ namesP z x = true := by
      unfold usesP at hu
      have := List.any_eq_false.1 hu x (h.mem.2 ⟨y, hx⟩)
      simpa using this
    rw [names_iff] at hn
    rw [lack_iff] at h3 ⊢
    have hm : ∀ n, n ≠ z → gapP C n = false → gapP (remC C z) n = false := by
      intro n hne hn
      rw [gap_of] at hn ⊢
      rcases hn with hn | hn
      · exact .inl hn
      · right; unfold remC; rw [if_neg hne]; exact hn
    exact ⟨hm _ (fun e => hn (.inl e)) h3.1, hm _ (fun e => hn (.inr (.inl e))) h3.2.1, hm _ (fun e => hn (.inr (.inr e))) h3.2.2⟩
theorem WF.addK (h : WF C R) (z : Int) : WF (addK C z) R := by
  unfold Go.Proofs.YtimgnogacanifaaGreat.addK
  split
  · rename_i e; exact h.add e
  · exact h
theorem WF.remK (h : WF C R) (z : Int) : WF (remK C R z) R := by
  unfold Go.Proofs.YtimgnogacanifaaGreat.remK
  split
  · rename_i e; exact h.rem e
  · exact h
theorem wrong_zero {c : CV} (h : wrongP C R c = 0) : c.r.ok = true ∧ c.was < c.r.ve ∧ lackP C c.r = false ∧ verP R c.r.po = c.was ∧ takeP R c.r = false := by
  unfold wrongP at h
  split at h
  · cases h
  · rename_i h1
    split at h
    · cases h
    · rename_i h2
      split at h
      · cases h
      · rename_i h3
        split at h
        · cases h
        · rename_i h4
          simp only [Bool.or_eq_true, Bool.not_eq_true', decide_eq_true_eq] at h1
          refine ⟨?_, by omega, by simpa using h2, by simpa using h3, by simpa using h4⟩
          cases hh : c.r.ok
          · exact absurd (.inl hh) h1
          · rfl
theorem hasM_iff {ma : Int} {x : RV} : hasM ma x = true ↔ x.ph ≠ 3 ∧ x.ma = ma := by
  unfold hasM
  simp
/-- Is an address another port's? By the first row that has it, or by any: one. -/
theorem WF.take (h : WF C R) (x : RV) : takeP R x = true ↔ x.ph ≠ 3 ∧ ∃ z u, R z = some u ∧ z ≠ x.po ∧ u.ph ≠ 3 ∧ u.ma = x.ma := by
  unfold takeP findP
  simp only [Bool.and_eq_true, bne_iff_ne, ne_eq]
  constructor
  · rintro ⟨h1, h2, h3⟩
    refine ⟨h1, ?_⟩
    obtain ⟨u, hu⟩ := Option.isSome_iff_exists.1 h2
    rw [hu] at h3
    simp only [Option.getD_some] at h3
    have hm := List.mem_of_find?_eq_some hu
    have hp := hasM_iff.1 (List.find?_some hu)
    obtain ⟨z, hz⟩ := h.mem.1 hm
    have := (h.row z u hz).2.1
    exact ⟨z, u, hz, by omega, hp.1, hp.2⟩
  · rintro ⟨h1, z, u, hz, hne, hg, hm⟩
    refine ⟨h1, ?_⟩
    have hin := h.mem.2 ⟨z, hz⟩
    cases hf : (rowsP R).find? (hasM x.ma) with
    | none =>
      have := List.find?_eq_none.1 hf u hin
      exact absurd (hasM_iff.2 ⟨hg, hm⟩) this
    | some y =>
      refine ⟨rfl, ?_⟩
      simp only [Option.getD_some]
      have hp := hasM_iff.1 (List.find?_some hf)
      obtain ⟨v, hv⟩ := h.mem.1 (List.mem_of_find?_eq_some hf)
      have e1 := h.one v z y u hv hz hp.1 hg (by rw [hp.2, hm])
      have := (h.row v y hv).2.1
      omega
theorem WF.put (h : WF C R) {c : CV} (hc : wrongP C R c = 0) : WF C (putR R c.r) := by
  obtain ⟨h1, h2, h3, h4, h5⟩ := wrong_zero hc
  have ht : ¬ takeP R c.r = true := by rw [h5]; decide
  rw [h.take] at ht
  refine ⟨h.ch, fun z x hx => ?_, fun z y x u hx hu gx gu hm => ?_⟩
  · unfold putR at hx
    split at hx
    · rename_i e
      injection hx with hx
      subst hx
      exact ⟨h1, e.symm, h3⟩
    · exact h.row z x hx
  · unfold putR at hx hu
    split at hx
    · rename_i e1
      injection hx with hx
      subst hx
      split at hu
      · omega
      · rename_i e2
        exact absurd ⟨gx, y, u, hu, e2, gu, hm.symm⟩ ht
    · rename_i e1
      split at hu
      · injection hu with hu
        subst hu
        exact absurd ⟨gu, z, x, hx, e1, gx, hm⟩ ht
      · exact h.one z y x u hx hu gx gu hm
theorem WF.app : ∀ (l : List CV) (R : Int → Option RV), WF C R → WF C (appP C l R).2
  | [], R, h => h
  | c :: l, R, h => by
    unfold appP
    split
    · rename_i hc
      exact WF.app l _ (h.put hc)
    · exact h
/-- No version falls. -/
theorem app_ver : ∀ (l : List CV) (R : Int → Option RV) (z : Int) (x : RV), R z = some x → ∃ r, (appP C l R).2 z = some r ∧ x.ve ≤ r.ve
  | [], R, z, x, h => ⟨x, h, Int.le_refl _⟩
  | c :: l, R, z, x, h => by
    unfold appP
    split
    · rename_i hc
      obtain ⟨_, h2, _, h4, _⟩ := wrong_zero hc
      by_cases e : z = c.r.po
      · obtain ⟨r, hr, hv⟩ := app_ver l (putR R c.r) z c.r (by unfold putR; rw [if_pos e])
        refine ⟨r, hr, ?_⟩
        subst e
        unfold verP at h4
        rw [h] at h4
        simp only [Option.getD_some] at h4
        omega
      · exact app_ver l (putR R c.r) z x (by unfold putR; rw [if_neg e]; exact h)
    · exact ⟨x, h, Int.le_refl _⟩
/-- Rows rise by ports; no two that are not gone have one address. -/
theorem WF.pair (h : WF C R) : (rowsP R).Pairwise (fun x y => x.po < y.po ∧ ¬ (x.ph ≠ 3 ∧ y.ph ≠ 3 ∧ x.ma = y.ma)) := by
  unfold rowsP
  rw [List.pairwise_filterMap]
  refine List.pairwise_lt_range.imp ?_
  intro i j hij x hx y hy
  have h1 := (h.row _ _ hx).2.1
  have h2 := (h.row _ _ hy).2.1
  refine ⟨by omega, fun ⟨a, b, c⟩ => ?_⟩
  have := h.one _ _ _ _ hx hy a b c
  omega
theorem rows_len (R : Int → Option RV) : (rowsP R).length ≤ 32 := by
  have := List.length_filterMap_le (fun i : Nat => R (i : Int)) (List.range 32)
  rw [List.length_range] at this
  exact this
theorem chas_len (C : Int → Bool) : (chasP C).length ≤ 32 := by
  have := List.length_filter_le C ((List.range 32).map Int.ofNat)
  rw [List.length_map, List.length_range] at this
  exact this
theorem late_len (R : Int → Option RV) (now span : Int) : (lateP R now span).length ≤ 32 :=
  Nat.le_trans (List.length_filterMap_le _ _) (rows_len R)
/-- The rows of the first k ports. -/
def rowsK (R : Int → Option RV) (k : Nat) : List RV := (List.range k).filterMap (fun i : Nat => R (i : Int))
theorem rowsK_succ (R : Int → Option RV) (k : Nat) : rowsK R (k + 1) = rowsK R k ++ (R (k : Int)).toList := by
  unfold rowsK
  rw [List.range_succ, List.filterMap_append]
  cases h : R (k : Int) <;> simp [h]
theorem rowsK_len (R : Int → Option RV) (k : Nat) : (rowsK R k).length ≤ k := by
  have := List.length_filterMap_le (fun i : Nat => R (i : Int)) (List.range k)
  rw [List.length_range] at this
  exact this
/-- Changes, one more. -/
theorem app_snoc (C : Int → Bool) : ∀ (l : List CV) (R : Int → Option RV) (c : CV), (appP C l R).1 = 0 → appP C (l ++ [c]) R = (if wrongP C (appP C l R).2 c = 0 then (0, putR (appP C l R).2 c.r) else (wrongP C (appP C l R).2 c, (appP C l R).2))
  | [], R, c, _ => rfl
  | d :: l, R, c, h => by
    simp only [List.cons_append, appP] at h ⊢
    by_cases hd : wrongP C R d = 0
    · simp only [if_pos hd] at h ⊢
      exact app_snoc C l _ c h
    · simp only [if_neg hd] at h
      exact absurd h hd
/-- An error stays. -/
theorem app_err (C : Int → Bool) : ∀ (l : List CV) (R : Int → Option RV) (r : List CV), (appP C l R).1 ≠ 0 → (appP C (l ++ r) R).1 = (appP C l R).1
  | [], R, r, h => absurd rfl h
  | d :: l, R, r, h => by
    simp only [List.cons_append, appP] at h ⊢
    by_cases hd : wrongP C R d = 0
    · simp only [if_pos hd] at h ⊢
      exact app_err C l _ r h
    · simp only [if_neg hd]
end

end Go.Proofs.YtimgnogacanifaaGreat
