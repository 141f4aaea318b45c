/-
  The document's law of a table of flows, plain: alike, what lives, what a note and an import make and tell. No condition.
-/
import Derived.Test.YtacbgelbffmngaaUb
namespace Go.Proofs.Ytacbgelbffmngaa
open Go.RowKit
set_option linter.unusedVariables false

/-- Are two flows one? -/
def flE (p s d sp dp p2 s2 d2 sp2 dp2 : Int) : Bool := p == p2 && (s == s2 && (d == d2 && (sp == sp2 && dp == dp2)))
/-- Are two flows alike: is the first one the second, or its Back? -/
def alB (p s d sp dp p2 s2 d2 sp2 dp2 : Int) : Bool := flE p s d sp dp p2 s2 d2 sp2 dp2 || flE p s d sp dp p2 d2 s2 dp2 sp2
def al12 (x y : Rc) : Bool := alB x.pr x.sr x.ds x.sp x.dp y.pr y.sr y.ds y.sp y.dp
/-- Does a record live at a time? -/
def lv12 (t : Int) (x : Rc) : Bool := decide (t < x.un)
def ex12 (t : Int) (l : List Rc) : List Rc := l.filter (lv12 t)
def mx12 (x r : Rc) : Rc := ⟨x.pr, x.sr, x.ds, x.sp, x.dp, max x.un r.un⟩
def up12 (r : Rc) : List Rc → List Rc
  | [] => []
  | x :: l => if al12 x r then mx12 x r :: l else x :: up12 r l
def has12 (l : List Rc) (r : Rc) : Bool := l.any fun x => al12 x r
/-- A record is put: what there is behind it; was there room? -/
def pu12 (l : List Rc) (r : Rc) : List Rc := if has12 l r then up12 r l else if 16 ≤ l.length then l else l ++ [r]
def pb12 (l : List Rc) (r : Rc) : Bool := has12 l r || decide (l.length < 16)
/-- Is a flow known at a time? -/
def kn12 (t : Int) (l : List Rc) (p s d sp dp : Int) : Bool := l.any fun x => alB x.pr x.sr x.ds x.sp x.dp p s d sp dp && lv12 t x
def tmB (t : Int) : Bool := decide (0 ≤ t) && decide (t ≤ 1099511627776)
/-- The record of a flow that is noted. -/
def nr12 (life t p s d sp dp : Int) : Rc := ⟨p, s, d, sp, dp, min (t + life) 1099511627776⟩
def noL (life t : Int) (l : List Rc) (p s d sp dp : Int) : List Rc := if flR p sp dp && tmB t then pu12 (ex12 t l) (nr12 life t p s d sp dp) else l
def noA (life t : Int) (l : List Rc) (p s d sp dp : Int) : Int := if flR p sp dp && tmB t then (if pb12 (ex12 t l) (nr12 life t p s d sp dp) then 0 else 3) else 1
/-- Is a record one to be imported? -/
def imR (t : Int) (r : Rc) : Bool := flR r.pr r.sp r.dp && (lv12 t r && decide (r.un ≤ 1099511627776))
def imS (t : Int) (st : List Rc × Nat) (r : Rc) : List Rc × Nat := if imR t r then (pu12 st.1 r, if pb12 st.1 r then st.2 + 1 else st.2) else st
def imF (t : Int) (l rs : List Rc) : List Rc × Nat := rs.foldl (imS t) (l, 0)
def imL (t : Int) (l rs : List Rc) : List Rc := if tmB t then (imF t (ex12 t l) rs).1 else l
def imA (t : Int) (l rs : List Rc) : Nat := if tmB t then (imF t (ex12 t l) rs).2 else 0

theorem has12_at {l : List Rc} {j : Nat} {x r : Rc} (h : l[j]? = some x) (ha : al12 x r = true) : has12 l r = true :=
  List.any_eq_true.2 ⟨x, List.mem_of_getElem? h, ha⟩
theorem has12_no {l : List Rc} {r : Rc} (h : ∀ (i : Nat) (y : Rc), i < l.length → l[i]? = some y → al12 y r = false) : has12 l r = false := by
  unfold has12
  rw [List.any_eq_false]
  intro y hy
  obtain ⟨i, hi⟩ := List.getElem?_of_mem hy
  rw [h i y (List.getElem?_eq_some_iff.1 hi).1 hi]
  decide
theorem up12_at : ∀ {l : List Rc} {j : Nat} {x r : Rc}, l[j]? = some x → al12 x r = true → (∀ (i : Nat) (y : Rc), i < j → l[i]? = some y → al12 y r = false) → up12 r l = l.set j (mx12 x r)
  | [], j, x, r, h, _, _ => by simp at h
  | y :: l, 0, x, r, h, ha, _ => by
    simp only [List.getElem?_cons_zero, Option.some.injEq] at h
    subst h
    simp [up12, ha]
  | y :: l, j + 1, x, r, h, ha, hn => by
    have h0 := hn 0 y (by omega) rfl
    simp only [List.getElem?_cons_succ] at h
    have ih := up12_at (l := l) h ha (fun i z hi hz => hn (i + 1) z (by omega) (by simpa using hz))
    simp [up12, h0, ih]
theorem pu12_at {l : List Rc} {j : Nat} {x r : Rc} (h : l[j]? = some x) (ha : al12 x r = true) (hn : ∀ (i : Nat) (y : Rc), i < j → l[i]? = some y → al12 y r = false) :
    pu12 l r = l.set j (mx12 x r) ∧ pb12 l r = true := by
  have h1 := has12_at h ha
  refine ⟨?_, by simp [pb12, h1]⟩
  rw [pu12, if_pos h1]
  exact up12_at h ha hn
theorem pu12_full {l : List Rc} {r : Rc} (hn : ∀ (i : Nat) (y : Rc), i < l.length → l[i]? = some y → al12 y r = false) (h16 : 16 ≤ l.length) : pu12 l r = l ∧ pb12 l r = false := by
  have h1 := has12_no hn
  refine ⟨by simp [pu12, h1, h16], by simp [pb12, h1]; omega⟩
theorem pu12_new {l : List Rc} {r : Rc} (hn : ∀ (i : Nat) (y : Rc), i < l.length → l[i]? = some y → al12 y r = false) (h16 : ¬ 16 ≤ l.length) : pu12 l r = l ++ [r] ∧ pb12 l r = true := by
  have h1 := has12_no hn
  refine ⟨by simp [pu12, h1, h16], by simp [pb12]; omega⟩
theorem up12_len (r : Rc) : ∀ l : List Rc, (up12 r l).length = l.length
  | [] => rfl
  | x :: l => by
    unfold up12
    split
    · rfl
    · simp [up12_len r l]
theorem pu12_len {l : List Rc} {r : Rc} (h : l.length ≤ 16) : (pu12 l r).length ≤ 16 := by
  unfold pu12
  split
  · rw [up12_len]; exact h
  · split
    · exact h
    · simp; omega
theorem ex12_len {t : Int} {l : List Rc} (h : l.length ≤ 16) : (ex12 t l).length ≤ 16 := Nat.le_trans (List.length_filter_le _ _) h
theorem noL_len {life t : Int} {l : List Rc} {p s d sp dp : Int} (h : l.length ≤ 16) : (noL life t l p s d sp dp).length ≤ 16 := by
  unfold noL
  split
  · exact pu12_len (ex12_len h)
  · exact h
theorem imS_len {t : Int} {st : List Rc × Nat} {r : Rc} (h : st.1.length ≤ 16) : (imS t st r).1.length ≤ 16 := by
  unfold imS
  split
  · exact pu12_len h
  · exact h
theorem imF_len {t : Int} {l rs : List Rc} (h : l.length ≤ 16) : (imF t l rs).1.length ≤ 16 := by
  unfold imF
  suffices hh : ∀ (st : List Rc × Nat), st.1.length ≤ 16 → (rs.foldl (imS t) st).1.length ≤ 16 from hh _ h
  induction rs with
  | nil => exact fun st h => h
  | cons r rs ih => exact fun st h => ih _ (imS_len h)
theorem imL_len {t : Int} {l rs : List Rc} (h : l.length ≤ 16) : (imL t l rs).length ≤ 16 := by
  unfold imL
  split
  · exact imF_len (ex12_len h)
  · exact h
theorem imF_cnt {t : Int} {l rs : List Rc} : (imF t l rs).2 ≤ rs.length := by
  unfold imF
  suffices hh : ∀ (st : List Rc × Nat), (rs.foldl (imS t) st).2 ≤ st.2 + rs.length by simpa using hh (l, 0)
  induction rs with
  | nil => exact fun st => by simp
  | cons r rs ih =>
    intro st
    have h1 := ih (imS t st r)
    have h2 : (imS t st r).2 ≤ st.2 + 1 := by unfold imS; split <;> (try split) <;> simp
    simp only [List.foldl_cons, List.length_cons]
    omega
theorem imF_take {t : Int} {l rs : List Rc} {k : Nat} {r : Rc} (h : rs[k]? = some r) : imF t l (rs.take (k + 1)) = imS t (imF t l (rs.take k)) r := by
  unfold imF
  rw [List.take_add_one, h, List.foldl_append]
  rfl
theorem imF_zero {t : Int} {l rs : List Rc} : imF t l (rs.take 0) = (l, 0) := rfl
theorem ex12_take {t : Int} {l : List Rc} {k : Nat} {x : Rc} (h : l[k]? = some x) : ex12 t (l.take (k + 1)) = ex12 t (l.take k) ++ (if lv12 t x then [x] else []) := by
  unfold ex12
  rw [List.take_add_one, h, List.filter_append]
  congr 1
  simp only [Option.toList_some, List.filter_cons, List.filter_nil]
theorem kn12_ex {t : Int} {l : List Rc} {p s d sp dp : Int} : kn12 t l p s d sp dp = (ex12 t l).any fun x => alB x.pr x.sr x.ds x.sp x.dp p s d sp dp := by
  unfold kn12 ex12
  rw [List.any_filter]
  congr 1
  funext x
  rw [Bool.and_comm]

end Go.Proofs.Ytacbgelbffmngaa
