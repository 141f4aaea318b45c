/-
  The law of a table, plain: what is noted is known, both ways; what is told is known by another table that imports it. No condition.
-/
import Derived.Test.YtclikcbgeolngaaTa
namespace Go.Proofs.Ytclikcbgeolngaa
open Go.RowKit
set_option linter.unusedVariables false

/-- All records' flows may be, and they are until 2^40 at most. -/
def WF12 (l : List Rc) : Prop := ∀ x ∈ l, flR x.pr x.sp x.dp = true ∧ x.un ≤ 1099511627776
theorem alB_refl (p s d sp dp : Int) : alB p s d sp dp p s d sp dp = true := by simp [alB, flE]
theorem alB_back (a b c e f p s d sp dp : Int) : alB a b c e f p d s dp sp = alB a b c e f p s d sp dp := by unfold alB; rw [Bool.or_comm]
theorem al12_mx (x r q : Rc) : al12 (mx12 x r) q = al12 x q := rfl
theorem al12_self (r : Rc) : al12 r r = true := alB_refl _ _ _ _ _
theorem up12_mem {r : Rc} : ∀ {l : List Rc} {y : Rc}, y ∈ up12 r l → y ∈ l ∨ ∃ x ∈ l, y = mx12 x r
  | [], y, h => by cases h
  | x :: l, y, h => by
    unfold up12 at h
    split at h
    · rcases List.mem_cons.1 h with rfl | h
      · exact .inr ⟨x, List.mem_cons_self, rfl⟩
      · exact .inl (List.mem_cons_of_mem _ h)
    · rcases List.mem_cons.1 h with rfl | h
      · exact .inl List.mem_cons_self
      · rcases up12_mem h with h | ⟨z, hz, e⟩
        · exact .inl (List.mem_cons_of_mem _ h)
        · exact .inr ⟨z, List.mem_cons_of_mem _ hz, e⟩
theorem WF12.put {l : List Rc} {r : Rc} (h : WF12 l) (hr : flR r.pr r.sp r.dp = true ∧ r.un ≤ 1099511627776) : WF12 (pu12 l r) := by
  unfold pu12
  split
  · intro y hy
    rcases up12_mem hy with hy | ⟨x, hx, rfl⟩
    · exact h y hy
    · obtain ⟨h1, h2⟩ := h x hx
      exact ⟨h1, by show max x.un r.un ≤ _; omega⟩
  · split
    · exact h
    · intro y hy
      rcases List.mem_append.1 hy with hy | hy
      · exact h y hy
      · rw [List.mem_singleton] at hy
        subst hy
        exact hr
theorem WF12.ex {l : List Rc} (h : WF12 l) (t : Int) : WF12 (ex12 t l) := fun y hy => h y (List.mem_filter.1 hy).1
theorem WF12.note {l : List Rc} (h : WF12 l) (life t p s d sp dp : Int) : WF12 (noL life t l p s d sp dp) := by
  unfold noL
  split
  · next hb =>
    rw [Bool.and_eq_true] at hb
    exact (h.ex t).put ⟨hb.1, by show min (t + life) 1099511627776 ≤ _; omega⟩
  · exact h
theorem imR_wf {t : Int} {r : Rc} (h : imR t r = true) : flR r.pr r.sp r.dp = true ∧ r.un ≤ 1099511627776 := by
  unfold imR at h
  simp only [Bool.and_eq_true, decide_eq_true_eq] at h
  exact ⟨h.1, h.2.2⟩
theorem WF12.fold {t : Int} {l rs : List Rc} (h : WF12 l) : WF12 (imF t l rs).1 := by
  unfold imF
  suffices hh : ∀ (st : List Rc × Nat), WF12 st.1 → WF12 (rs.foldl (imS t) st).1 from hh _ h
  induction rs with
  | nil => exact fun st h => h
  | cons r rs ih =>
    intro st hst
    refine ih _ ?_
    unfold imS
    split
    · next hr => exact hst.put (imR_wf hr)
    · exact hst
theorem WF12.imp {l : List Rc} (h : WF12 l) (t : Int) (rs : List Rc) : WF12 (imL t l rs) := by
  unfold imL
  split
  · exact (h.ex t).fold
  · exact h

/-- Is there a record of a flow alike, until v at least? -/
def Hs12 (l : List Rc) (q : Rc) (v : Int) : Prop := ∃ y ∈ l, al12 y q = true ∧ v ≤ y.un
theorem up12_keeps {r q : Rc} {v : Int} : ∀ {l : List Rc}, Hs12 l q v → Hs12 (up12 r l) q v
  | [], ⟨y, hy, _⟩ => by cases hy
  | x :: l, ⟨y, hy, ha, hv⟩ => by
    unfold up12
    split
    · rcases List.mem_cons.1 hy with rfl | hy
      · exact ⟨mx12 y r, List.mem_cons_self, ha, by show v ≤ max y.un r.un; omega⟩
      · exact ⟨y, List.mem_cons_of_mem _ hy, ha, hv⟩
    · rcases List.mem_cons.1 hy with rfl | hy
      · exact ⟨y, List.mem_cons_self, ha, hv⟩
      · obtain ⟨z, hz, h1, h2⟩ := up12_keeps (r := r) ⟨y, hy, ha, hv⟩
        exact ⟨z, List.mem_cons_of_mem _ hz, h1, h2⟩
theorem up12_has {r : Rc} : ∀ {l : List Rc}, has12 l r = true → Hs12 (up12 r l) r r.un
  | [], h => by simp [has12] at h
  | x :: l, h => by
    unfold up12
    split
    · next ha => exact ⟨mx12 x r, List.mem_cons_self, ha, by show r.un ≤ max x.un r.un; omega⟩
    · next ha =>
      have h2 : has12 l r = true := by
        unfold has12 at h ⊢
        rw [List.any_cons] at h
        simpa [ha] using h
      obtain ⟨z, hz, h1, h3⟩ := up12_has h2
      exact ⟨z, List.mem_cons_of_mem _ hz, h1, h3⟩
theorem pu12_keeps {l : List Rc} {r q : Rc} {v : Int} (h : Hs12 l q v) : Hs12 (pu12 l r) q v := by
  unfold pu12
  split
  · exact up12_keeps h
  · split
    · exact h
    · obtain ⟨y, hy, h1⟩ := h
      exact ⟨y, List.mem_append_left _ hy, h1⟩
theorem pu12_has {l : List Rc} {r : Rc} (h : pb12 l r = true) : Hs12 (pu12 l r) r r.un := by
  unfold pu12
  split
  · next h1 => exact up12_has h1
  · next h1 =>
    have h2 : l.length < 16 := by simpa [pb12, h1] using h
    rw [if_neg (by omega)]
    exact ⟨r, List.mem_append_right _ (List.mem_singleton.2 rfl), al12_self r, Int.le_refl _⟩
/-- A flow is known, if a record of one alike is long enough. -/
theorem Hs12.known {l : List Rc} {q : Rc} {v t : Int} (h : Hs12 l q v) (ht : t < v) : kn12 t l q.pr q.sr q.ds q.sp q.dp = true := by
  obtain ⟨y, hy, ha, hv⟩ := h
  refine List.any_eq_true.2 ⟨y, hy, ?_⟩
  have e : alB y.pr y.sr y.ds y.sp y.dp q.pr q.sr q.ds q.sp q.dp = true := ha
  rw [e]
  simp [lv12]
  omega
theorem Hs12.back {l : List Rc} {q : Rc} {v t : Int} (h : Hs12 l q v) (ht : t < v) : kn12 t l q.pr q.ds q.sr q.dp q.sp = true := by
  obtain ⟨y, hy, ha, hv⟩ := h
  refine List.any_eq_true.2 ⟨y, hy, ?_⟩
  have e : alB y.pr y.sr y.ds y.sp y.dp q.pr q.ds q.sr q.dp q.sp = true := by rw [alB_back]; exact ha
  rw [e]
  simp [lv12]
  omega
/-- Of a note that was made. -/
theorem note_made {life t : Int} {l : List Rc} {p s d sp dp : Int} (h : noA life t l p s d sp dp = 0) : (0 ≤ t ∧ t ≤ 1099511627776) ∧ Hs12 (noL life t l p s d sp dp) (nr12 life t p s d sp dp) (min (t + life) 1099511627776) := by
  unfold noA at h
  unfold noL
  split at h
  · next hb =>
    rw [if_pos hb]
    rw [Bool.and_eq_true] at hb
    split at h
    · next hp => exact ⟨by simpa [tmB] using hb.2, pu12_has hp⟩
    · omega
  · omega
theorem pu12_len1 {l : List Rc} {r : Rc} : (pu12 l r).length ≤ l.length + 1 := by
  unfold pu12
  split
  · rw [up12_len]; omega
  · split
    · omega
    · simp
/-- Into a table with room for all of them all are imported that may be. -/
theorem imF_all {t : Int} : ∀ (rs : List Rc) (st : List Rc × Nat), (∀ r ∈ rs, imR t r = true) → st.1.length + rs.length ≤ 16 →
    (rs.foldl (imS t) st).2 = st.2 + rs.length ∧ (∀ r ∈ rs, Hs12 (rs.foldl (imS t) st).1 r r.un) ∧ ∀ q v, Hs12 st.1 q v → Hs12 (rs.foldl (imS t) st).1 q v
  | [], st, _, _ => ⟨rfl, (fun r hr => nomatch hr), fun q v h => h⟩
  | r :: rs, st, hr, hl => by
    have h1 := hr r List.mem_cons_self
    simp only [List.length_cons] at hl
    have hp : pb12 st.1 r = true := by simp [pb12]; omega
    have e : imS t st r = (pu12 st.1 r, st.2 + 1) := by unfold imS; rw [if_pos h1, if_pos hp]
    have hl2 := pu12_len1 (l := st.1) (r := r)
    obtain ⟨i1, i2, i3⟩ := imF_all rs (pu12 st.1 r, st.2 + 1) (fun x hx => hr x (List.mem_cons_of_mem _ hx)) (by simp only; omega)
    simp only [List.foldl_cons, e]
    refine ⟨by rw [i1]; simp only [List.length_cons]; omega, fun x hx => ?_, fun q v h => i3 q v (pu12_keeps h)⟩
    rcases List.mem_cons.1 hx with rfl | hx
    · exact i3 _ _ (pu12_has hp)
    · exact i2 x hx
/-- What a table tells at a time is known by an empty one that imports it then. -/
theorem told_known {t : Int} {l : List Rc} (ht : 0 ≤ t ∧ t ≤ 1099511627776) (hw : WF12 l) (hl : l.length ≤ 16) :
    imA t [] (ex12 t l) = (ex12 t l).length ∧ ∀ r ∈ ex12 t l, t < r.un ∧ r.un ≤ 1099511627776 ∧ Hs12 (imL t [] (ex12 t l)) r r.un := by
  have htm : tmB t = true := by simp [tmB, ht]
  have hall : ∀ r ∈ ex12 t l, imR t r = true := fun r hr => by
    obtain ⟨h1, h2⟩ := List.mem_filter.1 hr
    obtain ⟨h3, h4⟩ := hw r h1
    simp [imR, h2, h3, h4]
  obtain ⟨h1, h2, -⟩ := imF_all (t := t) (ex12 t l) ([], 0) hall (by simpa using ex12_len hl)
  have e : ex12 t [] = [] := rfl
  refine ⟨?_, fun r hr => ?_⟩
  · unfold imA imF
    rw [if_pos htm, e, h1]
    simp
  · obtain ⟨h3, h4⟩ := List.mem_filter.1 hr
    refine ⟨by simpa [lv12] using h4, (hw r h3).2, ?_⟩
    unfold imL imF
    rw [if_pos htm, e]
    exact h2 r hr

end Go.Proofs.Ytclikcbgeolngaa
