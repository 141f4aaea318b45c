/-
  Plain lemmas: a letter's bytes, there and back. No condition.
-/
import Derived.Test.YtbbjecjhkjjbkaaGi
import Derived.Test.YtbbjecjhkjjbkaaQp
import Derived.Test.YtbbjecjhkjjbkaaJp
import Derived.Test.YtbbjecjhkjjbkaaSpb
namespace Go.Proofs.Ytbbjecjhkjjbkaa
open Go.RowKit
set_option linter.unusedVariables false
set_option linter.unusedSimpArgs false

/-- A letter's bytes. -/
def ltB (m p a s : Int) (l : List UInt8) : List UInt8 := be 5 m.toNat ++ (be 5 p.toNat ++ (be 6 a.toNat ++ (be 6 s.toNat ++ (be 2 l.length ++ l))))
theorem ltB_len (m p a s : Int) (l : List UInt8) : (ltB m p a s l).length = 24 + l.length := by
  unfold ltB
  simp only [List.length_append, be_len]
  omega
theorem lt_state {m p a s : Int} {l : List UInt8} (h : ltR m p a s l.length = true) : bytesS l (putS 6 [a, s] (putS 5 [m, p] (some []))) = some (ltB m p a s l) := by
  obtain ⟨hm, hp, ha, hs, hn, _⟩ := ltR_parts h
  have e1 : fits 5 m = true := fits_w 5 (by omega) (by omega)
  have e2 : fits 5 p = true := fits_w 5 (by omega) (by omega)
  have e3 : fits 6 a = true := fits_w 6 (by omega) (by omega)
  have e4 : fits 6 s = true := fits_w 6 (by omega) (by omega)
  have e9 : fits 2 (l.length : Int) = true := fits_w 2 (by omega) (by omega)
  simp [bytesS, putS, puts, put1, e1, e2, e3, e4, e9, ltB]
def jW : List Nat := [5, 5, 6, 6]
/-- The state ahead of a letter's j-th number, the number; its body, and the state behind it. -/
def jst (b : List UInt8) (j : Nat) : Option (List UInt8) := stAt (jW.take j) (some b)
def jvl (b : List UInt8) (j : Nat) : Int := (getS (jW.getD j 0 : Nat) (jst b j)).1
def jF (b : List UInt8) : List UInt8 := (bytesR 1000 (jst b 4)).1
def jE (b : List UInt8) : Option (List UInt8) := (bytesR 1000 (jst b 4)).2
/-- Are the bytes a letter's? -/
def jOK (b : List UInt8) : Bool := doneS (jE b) == 0 && ltR (jvl b 0) (jvl b 1) (jvl b 2) (jvl b 3) (jF b).length
theorem jd_long (b : List UInt8) (h : 22 ≤ b.length) : (jvl b 0 = nAt b 0 5 ∧ jvl b 1 = nAt b 5 5 ∧ jvl b 2 = nAt b 10 6 ∧ jvl b 3 = nAt b 16 6) ∧ jst b 4 = some (b.drop 22) := by
  have g : ∀ j i k : Nat, jst b j = some (b.drop i) → jW.getD j 0 = k → 1 ≤ k → k ≤ 7 → i + k ≤ b.length → jvl b j = nAt b i k ∧ (getS (k : Int) (jst b j)).2 = some (b.drop (i + k)) := by
    intro j i k hs hw h1 h7 hl
    unfold jvl
    rw [hw, hs, get_from b i k h1 h7 hl]
    exact ⟨rfl, rfl⟩
  have s0 : jst b 0 = some (b.drop 0) := rfl
  obtain ⟨v0, s1⟩ := g 0 0 5 s0 rfl (by decide) (by decide) (by omega)
  have s1 : jst b 1 = some (b.drop 5) := s1
  obtain ⟨v1, s2⟩ := g 1 5 5 s1 rfl (by decide) (by decide) (by omega)
  have s2 : jst b 2 = some (b.drop 10) := s2
  obtain ⟨v2, s3⟩ := g 2 10 6 s2 rfl (by decide) (by decide) (by omega)
  have s3 : jst b 3 = some (b.drop 16) := s3
  obtain ⟨v3, s4⟩ := g 3 16 6 s3 rfl (by decide) (by decide) (by omega)
  have s4 : jst b 4 = some (b.drop 22) := s4
  exact ⟨⟨v0, v1, v2, v3⟩, s4⟩
theorem jd_short (b : List UInt8) (h : b.length < 22) : jst b 4 = none := stAt_short jW b (by decide) h
theorem jd_body (b : List UInt8) (h : 22 ≤ b.length) (hd : doneS (jE b) = 0) : 24 ≤ b.length ∧ b.length ≤ 1024 ∧ nAt b 22 2 = ((b.length - 24 : Nat) : Int) ∧ jF b = b.drop 24 := by
  have hs := (jd_long b h).2
  have e : bytesR 1000 (jst b 4) = (jF b, jE b) := rfl
  rw [hs] at e
  by_cases h2 : 24 ≤ b.length
  · have hg := get_from b 22 2 (by decide) (by decide) h2
    have hg : getS 2 (some (b.drop 22)) = (nAt b 22 2, some (b.drop 24)) := hg
    unfold bytesR at e
    rw [hg] at e
    simp only at e
    have h0 := nAt_nonneg b 22 2
    by_cases h3 : 1000 < nAt b 22 2
    · rw [if_pos h3] at e
      injection e with e1 e2
      rw [← e2] at hd
      cases hd
    · rw [if_neg h3] at e
      unfold takeS at e
      simp only at e
      by_cases h4 : (nAt b 22 2).toNat ≤ (b.drop 24).length
      · rw [if_pos h4] at e
        injection e with e1 e2
        rw [← e2] at hd
        have h5 : ((b.drop 24).drop (nAt b 22 2).toNat) = [] := by
          cases hh : (b.drop 24).drop (nAt b 22 2).toNat with
          | nil => rfl
          | cons x r => rw [hh] at hd; cases hd
        have h6 : (b.drop 24).length ≤ (nAt b 22 2).toNat := List.drop_eq_nil_iff.1 h5
        rw [List.length_drop] at h4 h6
        refine ⟨h2, by omega, by omega, ?_⟩
        rw [← e1]
        exact List.take_of_length_le (by rw [List.length_drop]; omega)
      · rw [if_neg h4] at e
        injection e with e1 e2
        rw [← e2] at hd
        cases hd
  · exfalso
    have hg := get_short (b.drop 22) 2 (by rw [List.length_drop]; omega)
    have hg : getS 2 (some (b.drop 22)) = (0, none) := hg
    unfold bytesR at e
    rw [hg] at e
    rw [if_neg (by decide)] at e
    have e : (([] : List UInt8), (none : Option (List UInt8))) = (jF b, jE b) := e
    injection e with e1 e2
    rw [← e2] at hd
    cases hd
theorem jd_len (b : List UInt8) (hd : doneS (jE b) = 0) : 22 ≤ b.length := by
  by_cases h : 22 ≤ b.length
  · exact h
  · exfalso
    have e : bytesR 1000 (jst b 4) = (jF b, jE b) := rfl
    rw [jd_short b (by omega), bytesR_none 1000 (by decide)] at e
    injection e with e1 e2
    rw [← e2] at hd
    cases hd
theorem jOK_parts {b : List UInt8} (h : jOK b = true) : doneS (jE b) = 0 ∧ ltR (jvl b 0) (jvl b 1) (jvl b 2) (jvl b 3) (jF b).length = true := by
  unfold jOK at h
  simp only [Bool.and_eq_true, beq_iff_eq] at h
  exact h
theorem jd_le {b : List UInt8} (h : 1024 < b.length) : jOK b = false := by
  cases e : jOK b
  · rfl
  · exfalso
    have hd := (jOK_parts e).1
    have := (jd_body b (jd_len b hd) hd).2.1
    omega
/-- What is decoded has just these bytes. -/
theorem jd_yes {b : List UInt8} (h : jOK b = true) : ltB (jvl b 0) (jvl b 1) (jvl b 2) (jvl b 3) (jF b) = b := by
  obtain ⟨hd, _⟩ := jOK_parts h
  have hl := jd_len b hd
  obtain ⟨h24, _, hn, hf⟩ := jd_body b hl hd
  obtain ⟨⟨v0, v1, v2, v3⟩, _⟩ := jd_long b hl
  have e8 : be 2 (b.drop 24).length = (b.drop 22).take 2 := by
    rw [← be_at b 22 2 (by omega), hn, List.length_drop]
    rfl
  unfold ltB
  rw [v0, v1, v2, v3, hf, be_at b 0 5 (by omega), be_at b 5 5 (by omega), be_at b 10 6 (by omega), be_at b 16 6 (by omega), e8]
  have step : ∀ i k : Nat, (b.drop i).take k ++ b.drop (i + k) = b.drop i := by
    intro i k
    have e := List.take_append_drop k (b.drop i)
    rwa [List.drop_drop] at e
  rw [step 22 2, step 16 6, step 10 6, step 5 5]
  exact step 0 5
/-- A letter is decoded from its bytes. -/
theorem jd_back {m p a s : Int} {l : List UInt8} (h : ltR m p a s l.length = true) :
    jOK (ltB m p a s l) = true ∧ jvl (ltB m p a s l) 0 = m ∧ jvl (ltB m p a s l) 1 = p ∧ jvl (ltB m p a s l) 2 = a ∧ jvl (ltB m p a s l) 3 = s ∧ jF (ltB m p a s l) = l := by
  obtain ⟨hm, hp, ha, hs, hn, _⟩ := ltR_parts h
  have hlen := ltB_len m p a s l
  generalize hb : ltB m p a s l = b at *
  obtain ⟨⟨v0, v1, v2, v3⟩, s8⟩ := jd_long b (by omega)
  have p0 : b = [] ++ (be 5 m.toNat ++ (be 5 p.toNat ++ (be 6 a.toNat ++ (be 6 s.toNat ++ (be 2 ((l.length : Int)).toNat ++ l))))) := hb.symm
  have app : ∀ (pre : List UInt8) (x : List UInt8) (r : List UInt8), pre ++ (x ++ r) = (pre ++ x) ++ r := fun _ _ _ => (List.append_assoc _ _ _).symm
  have q0 := p0
  rw [app] at q0
  have q1 := q0
  rw [app] at q1
  have q2 := q1
  rw [app] at q2
  have q3 := q2
  rw [app] at q3
  have q4 := q3
  rw [app] at q4
  have n0 : nAt b 0 5 = m := by rw [p0]; exact nAt_pk _ _ _ 0 5 rfl (by omega) (by omega)
  have n1 : nAt b 5 5 = p := by rw [q0]; exact nAt_pk _ _ _ 5 5 (by simp only [List.length_append, be_len, List.length_nil]) (by omega) (by omega)
  have n2 : nAt b 10 6 = a := by rw [q1]; exact nAt_pk _ _ _ 10 6 (by simp only [List.length_append, be_len, List.length_nil]) (by omega) (by omega)
  have n3 : nAt b 16 6 = s := by rw [q2]; exact nAt_pk _ _ _ 16 6 (by simp only [List.length_append, be_len, List.length_nil]) (by omega) (by omega)
  have n8 : nAt b 22 2 = (l.length : Int) := by rw [q3]; exact nAt_pk _ _ _ 22 2 (by simp only [List.length_append, be_len, List.length_nil]) (by omega) (by omega)
  have d24 : b.drop 24 = l := by
    rw [q4]
    exact List.drop_left' (by simp only [List.length_append, be_len, List.length_nil])
  have hg2 : getS 2 (some (b.drop 22)) = (nAt b 22 2, some (b.drop 24)) := get_from b 22 2 (by decide) (by decide) (by omega)
  have e : bytesR 1000 (jst b 4) = (l, some []) := by
    rw [s8]
    unfold bytesR
    rw [hg2, n8, d24]
    simp only
    rw [if_neg (by omega)]
    unfold takeS
    simp only [Int.toNat_natCast]
    rw [if_pos (Nat.le_refl _), List.take_of_length_le (Nat.le_refl _), List.drop_of_length_le (Nat.le_refl _)]
  have eF : jF b = l := by unfold jF; rw [e]
  have eE : jE b = some [] := by unfold jE; rw [e]
  have w0 := v0.trans n0
  have w1 := v1.trans n1
  have w2 := v2.trans n2
  have w3 := v3.trans n3
  refine ⟨?_, w0, w1, w2, w3, eF⟩
  unfold jOK
  rw [eE, eF, w0, w1, w2, w3, h]
  rfl
/-- What is decoded, in letters. -/
def jL (b : List UInt8) : LV := if jOK b then ⟨jvl b 0, jvl b 1, jvl b 2, jvl b 3, jF b⟩ else ⟨0, 0, 0, 0, []⟩
def jX (b : List UInt8) : Int := if jOK b then 0 else 2
theorem jL_yes {b : List UInt8} (h : jOK b = true) : jL b = ⟨jvl b 0, jvl b 1, jvl b 2, jvl b 3, jF b⟩ := if_pos h
theorem jL_no {b : List UInt8} (h : jOK b = false) : jL b = ⟨0, 0, 0, 0, []⟩ := by unfold jL; rw [h]; rfl
theorem jX_yes {b : List UInt8} (h : jOK b = true) : jX b = 0 := if_pos h
theorem jX_no {b : List UInt8} (h : jOK b = false) : jX b = 2 := by unfold jX; rw [h]; rfl
theorem jF_len (b : List UInt8) : (jF b).length ≤ 1000 := by
  unfold jF bytesR
  by_cases h : 1000 < (getS 2 (jst b 4)).1
  · rw [if_pos h]
    decide
  · rw [if_neg h]
    have := take_len8 (getS 2 (jst b 4)).1.toNat (getS 2 (jst b 4)).2
    omega
theorem jOK_eq (b : List UInt8) : jOK b = (doneS (jE b) == 0 && ltR (jvl b 0) (jvl b 1) (jvl b 2) (jvl b 3) (jF b).length) := rfl
theorem jL_len (b : List UInt8) : (jL b).b.length ≤ 1000 := by
  unfold jL
  split
  · exact jF_len b
  · decide


end Go.Proofs.Ytbbjecjhkjjbkaa
