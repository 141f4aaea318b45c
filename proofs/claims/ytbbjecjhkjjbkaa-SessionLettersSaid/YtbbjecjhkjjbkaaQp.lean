/-
  Plain lemmas: a packet's bytes, there and back. No condition.
-/
import Derived.Test.YtbbjecjhkjjbkaaQe
import Derived.Test.YtbbjecjhkjjbkaaJp
namespace Go.Proofs.Ytbbjecjhkjjbkaa
open Go.RowKit

/-- A reader's state behind numbers of these widths. -/
def stAt : List Nat → Option (List UInt8) → Option (List UInt8)
  | [], st => st
  | k :: ks, st => stAt ks (getS (k : Int) st).2
theorem get_none (n : Int) : getS n none = (0, none) := rfl
theorem get_short (l : List UInt8) (k : Nat) (h : l.length < k) : getS (k : Int) (some l) = (0, none) :=
  if_neg (fun e => by have := e.2.2.1; rw [Int.toNat_natCast] at this; omega)
theorem stAt_none : ∀ ks : List Nat, stAt ks none = none
  | [] => rfl
  | _ :: ks => stAt_none ks
theorem stAt_short : ∀ (ks : List Nat) (l : List UInt8), (∀ k ∈ ks, 1 ≤ k ∧ k ≤ 7) → l.length < ks.sum → stAt ks (some l) = none
  | [], l, _, h => by simp at h
  | k :: ks, l, hk, h => by
    have hk1 := hk k (by simp)
    rw [List.sum_cons] at h
    by_cases hl : l.length < k
    · show stAt ks (getS (k : Int) (some l)).2 = none
      rw [get_short l k hl]
      exact stAt_none ks
    · show stAt ks (getS (k : Int) (some l)).2 = none
      rw [get_nat l k hk1.1 hk1.2 (by omega)]
      exact stAt_short ks _ (fun x hx => hk x (by simp [hx])) (by rw [List.length_drop]; omega)

def dW : List Nat := [1, 1, 1, 1, 1, 1, 5, 6]
/-- The state ahead of a packet's j-th number, the number; its frame, and the state behind it. -/
def dst (b : List UInt8) (j : Nat) : Option (List UInt8) := stAt (dW.take j) (some b)
def dvl (b : List UInt8) (j : Nat) : Int := (getS (dW.getD j 0 : Nat) (dst b j)).1
def dF (b : List UInt8) : List UInt8 := (bytesR 1514 (dst b 8)).1
def dE (b : List UInt8) : Option (List UInt8) := (bytesR 1514 (dst b 8)).2
/-- Are the bytes a packet's? -/
def dOK (b : List UInt8) : Bool := doneS (dE b) == 0 && (dvl b 0 == 1 && pkR (dvl b 1) (dvl b 2) (dvl b 3) (dvl b 4) (dvl b 5) (dvl b 6) (dvl b 7) (dF b).length)

theorem dec_long (b : List UInt8) (h : 17 ≤ b.length) :
    (dvl b 0 = nAt b 0 1 ∧ dvl b 1 = nAt b 1 1 ∧ dvl b 2 = nAt b 2 1 ∧ dvl b 3 = nAt b 3 1 ∧ dvl b 4 = nAt b 4 1 ∧ dvl b 5 = nAt b 5 1 ∧ dvl b 6 = nAt b 6 5 ∧ dvl b 7 = nAt b 11 6) ∧ dst b 8 = some (b.drop 17) := by
  have g : ∀ j i k : Nat, dst b j = some (b.drop i) → dW.getD j 0 = k → 1 ≤ k → k ≤ 7 → i + k ≤ b.length → dvl b j = nAt b i k ∧ (getS (k : Int) (dst b j)).2 = some (b.drop (i + k)) := by
    intro j i k hs hw h1 h7 hl
    unfold dvl
    rw [hw, hs, get_from b i k h1 h7 hl]
    exact ⟨rfl, rfl⟩
  have s0 : dst b 0 = some (b.drop 0) := rfl
  obtain ⟨v0, s1⟩ := g 0 0 1 s0 rfl (by decide) (by decide) (by omega)
  have s1 : dst b 1 = some (b.drop 1) := s1
  obtain ⟨v1, s2⟩ := g 1 1 1 s1 rfl (by decide) (by decide) (by omega)
  have s2 : dst b 2 = some (b.drop 2) := s2
  obtain ⟨v2, s3⟩ := g 2 2 1 s2 rfl (by decide) (by decide) (by omega)
  have s3 : dst b 3 = some (b.drop 3) := s3
  obtain ⟨v3, s4⟩ := g 3 3 1 s3 rfl (by decide) (by decide) (by omega)
  have s4 : dst b 4 = some (b.drop 4) := s4
  obtain ⟨v4, s5⟩ := g 4 4 1 s4 rfl (by decide) (by decide) (by omega)
  have s5 : dst b 5 = some (b.drop 5) := s5
  obtain ⟨v5, s6⟩ := g 5 5 1 s5 rfl (by decide) (by decide) (by omega)
  have s6 : dst b 6 = some (b.drop 6) := s6
  obtain ⟨v6, s7⟩ := g 6 6 5 s6 rfl (by decide) (by decide) (by omega)
  have s7 : dst b 7 = some (b.drop 11) := s7
  obtain ⟨v7, s8⟩ := g 7 11 6 s7 rfl (by decide) (by decide) (by omega)
  exact ⟨⟨v0, v1, v2, v3, v4, v5, v6, v7⟩, s8⟩
theorem dec_short (b : List UInt8) (h : b.length < 17) : dst b 8 = none := stAt_short dW b (by decide) h
theorem bytesR_none (n : Int) (h : 0 ≤ n) : bytesR n none = ([], none) := by
  unfold bytesR
  rw [get_none]
  rw [if_neg (by show ¬ n < 0; omega)]
  rfl
/-- The frame. -/
theorem dec_frame (b : List UInt8) (h : 17 ≤ b.length) (hd : doneS (dE b) = 0) : 19 ≤ b.length ∧ b.length ≤ 1533 ∧ nAt b 17 2 = ((b.length - 19 : Nat) : Int) ∧ dF b = b.drop 19 := by
  have hs := (dec_long b h).2
  have e : bytesR 1514 (dst b 8) = (dF b, dE b) := rfl
  rw [hs] at e
  by_cases h2 : 19 ≤ b.length
  · have hg := get_from b 17 2 (by decide) (by decide) h2
    have hg : getS 2 (some (b.drop 17)) = (nAt b 17 2, some (b.drop 19)) := hg
    unfold bytesR at e
    rw [hg] at e
    simp only at e
    have h0 := nAt_nonneg b 17 2
    by_cases h3 : 1514 < nAt b 17 2
    · rw [if_pos h3] at e
      injection e with e1 e2
      rw [← e2] at hd
      cases hd
    · rw [if_neg h3] at e
      unfold takeS at e
      simp only at e
      by_cases h4 : (nAt b 17 2).toNat ≤ (b.drop 19).length
      · rw [if_pos h4] at e
        injection e with e1 e2
        rw [← e2] at hd
        have h5 : ((b.drop 19).drop (nAt b 17 2).toNat) = [] := by
          cases hh : (b.drop 19).drop (nAt b 17 2).toNat with
          | nil => rfl
          | cons x r => rw [hh] at hd; cases hd
        have h6 : (b.drop 19).length ≤ (nAt b 17 2).toNat := List.drop_eq_nil_iff.1 h5
        rw [List.length_drop] at h4 h6
        refine ⟨h2, by omega, by omega, ?_⟩
        rw [← e1]
        exact List.take_of_length_le (by rw [List.length_drop]; omega)
      · rw [if_neg h4] at e
        injection e with e1 e2
        rw [← e2] at hd
        cases hd
  · exfalso
    have hg := get_short (b.drop 17) 2 (by rw [List.length_drop]; omega)
    have hg : getS 2 (some (b.drop 17)) = (0, none) := hg
    unfold bytesR at e
    rw [hg] at e
    rw [if_neg (by decide)] at e
    have e : (([] : List UInt8), (none : Option (List UInt8))) = (dF b, dE b) := e
    injection e with e1 e2
    rw [← e2] at hd
    cases hd
theorem done_len (b : List UInt8) (hd : doneS (dE b) = 0) : 17 ≤ b.length := by
  by_cases h : 17 ≤ b.length
  · exact h
  · exfalso
    have e : bytesR 1514 (dst b 8) = (dF b, dE b) := rfl
    rw [dec_short b (by omega), bytesR_none 1514 (by decide)] at e
    injection e with e1 e2
    rw [← e2] at hd
    cases hd
theorem dOK_parts {b : List UInt8} (h : dOK b = true) : doneS (dE b) = 0 ∧ dvl b 0 = 1 ∧ pkR (dvl b 1) (dvl b 2) (dvl b 3) (dvl b 4) (dvl b 5) (dvl b 6) (dvl b 7) (dF b).length = true := by
  unfold dOK at h
  simp only [Bool.and_eq_true, beq_iff_eq] at h
  exact h
theorem dec_le {b : List UInt8} (h : 1533 < b.length) : dOK b = false := by
  cases e : dOK b
  · rfl
  · exfalso
    have hd := (dOK_parts e).1
    have := (dec_frame b (done_len b hd) hd).2.1
    omega
/-- What is decoded has just these bytes. -/
theorem dec_yes {b : List UInt8} (h : dOK b = true) : pkB (dvl b 1) (dvl b 2) (dvl b 3) (dvl b 4) (dvl b 5) (dvl b 6) (dvl b 7) (dF b) = b := by
  obtain ⟨hd, hv, _⟩ := dOK_parts h
  have hl := done_len b hd
  obtain ⟨h19, _, hn, hf⟩ := dec_frame b hl hd
  obtain ⟨⟨v0, v1, v2, v3, v4, v5, v6, v7⟩, _⟩ := dec_long b hl
  have e0 : be 1 1 = (b.drop 0).take 1 := by
    rw [← be_at b 0 1 (by omega), ← v0, hv]
    rfl
  have e8 : be 2 (b.drop 19).length = (b.drop 17).take 2 := by
    rw [← be_at b 17 2 (by omega), hn, List.length_drop]
    rfl
  unfold pkB
  rw [v1, v2, v3, v4, v5, v6, v7, hf, e0, be_at b 1 1 (by omega), be_at b 2 1 (by omega), be_at b 3 1 (by omega), be_at b 4 1 (by omega), be_at b 5 1 (by omega), be_at b 6 5 (by omega), be_at b 11 6 (by omega), e8]
  have step : ∀ i k : Nat, (b.drop i).take k ++ b.drop (i + k) = b.drop i := by
    intro i k
    have e := List.take_append_drop k (b.drop i)
    rwa [List.drop_drop] at e
  rw [step 17 2, step 11 6, step 6 5, step 5 1, step 4 1, step 3 1, step 2 1, step 1 1]
  exact step 0 1
theorem nAt_pk (pre : List UInt8) (x : Int) (r : List UInt8) (i k : Nat) (hp : pre.length = i) (h : 0 ≤ x) (h2 : x < 256 ^ k) : nAt (pre ++ (be k x.toNat ++ r)) i k = x := by
  rw [nAt_app _ _ i k hp, nAt_be _ _ _ h h2]
/-- A packet is decoded from its bytes. -/
theorem dec_back {k o f t p g i : Int} {l : List UInt8} (h : pkR k o f t p g i l.length = true) :
    dOK (pkB k o f t p g i l) = true ∧ dvl (pkB k o f t p g i l) 1 = k ∧ dvl (pkB k o f t p g i l) 2 = o ∧ dvl (pkB k o f t p g i l) 3 = f ∧ dvl (pkB k o f t p g i l) 4 = t ∧ dvl (pkB k o f t p g i l) 5 = p ∧
      dvl (pkB k o f t p g i l) 6 = g ∧ dvl (pkB k o f t p g i l) 7 = i ∧ dF (pkB k o f t p g i l) = l := by
  obtain ⟨hk, ho, hf, ht, hp, hg, hi, hn, _⟩ := pkR_parts h
  have hlen := pkB_len k o f t p g i l
  generalize hb : pkB k o f t p g i l = b at *
  obtain ⟨⟨v0, v1, v2, v3, v4, v5, v6, v7⟩, s8⟩ := dec_long b (by omega)
  have p0 : b = [] ++ (be 1 (1 : Int).toNat ++ (be 1 k.toNat ++ (be 1 o.toNat ++ (be 1 f.toNat ++ (be 1 t.toNat ++ (be 1 p.toNat ++ (be 5 g.toNat ++ (be 6 i.toNat ++ (be 2 ((l.length : Int)).toNat ++ l))))))))) := hb.symm
  have app : ∀ (pre : List UInt8) (x : List UInt8) (r : List UInt8), pre ++ (x ++ r) = (pre ++ x) ++ r := fun _ _ _ => (List.append_assoc _ _ _).symm
  have q0 := p0
  rw [app] at q0
  have q1 := q0
  rw [app] at q1
  have q2 := q1
  rw [app] at q2
  have q3 := q2
  rw [app] at q3
  have q4 := q3
  rw [app] at q4
  have q5 := q4
  rw [app] at q5
  have q6 := q5
  rw [app] at q6
  have q7 := q6
  rw [app] at q7
  have q8 := q7
  rw [app] at q8
  have n0 : nAt b 0 1 = 1 := by rw [p0]; exact nAt_pk _ _ _ 0 1 rfl (by decide) (by decide)
  have n1 : nAt b 1 1 = k := by rw [q0]; exact nAt_pk _ _ _ 1 1 (by simp only [List.length_append, be_len, List.length_nil]) (by omega) (by omega)
  have n2 : nAt b 2 1 = o := by rw [q1]; exact nAt_pk _ _ _ 2 1 (by simp only [List.length_append, be_len, List.length_nil]) (by omega) (by omega)
  have n3 : nAt b 3 1 = f := by rw [q2]; exact nAt_pk _ _ _ 3 1 (by simp only [List.length_append, be_len, List.length_nil]) (by omega) (by omega)
  have n4 : nAt b 4 1 = t := by rw [q3]; exact nAt_pk _ _ _ 4 1 (by simp only [List.length_append, be_len, List.length_nil]) (by omega) (by omega)
  have n5 : nAt b 5 1 = p := by rw [q4]; exact nAt_pk _ _ _ 5 1 (by simp only [List.length_append, be_len, List.length_nil]) (by omega) (by omega)
  have n6 : nAt b 6 5 = g := by rw [q5]; exact nAt_pk _ _ _ 6 5 (by simp only [List.length_append, be_len, List.length_nil]) (by omega) (by omega)
  have n7 : nAt b 11 6 = i := by rw [q6]; exact nAt_pk _ _ _ 11 6 (by simp only [List.length_append, be_len, List.length_nil]) (by omega) (by omega)
  have n8 : nAt b 17 2 = (l.length : Int) := by rw [q7]; exact nAt_pk _ _ _ 17 2 (by simp only [List.length_append, be_len, List.length_nil]) (by omega) (by omega)
  have d19 : b.drop 19 = l := by
    rw [q8]
    exact List.drop_left' (by simp only [List.length_append, be_len, List.length_nil])
  have hg2 : getS 2 (some (b.drop 17)) = (nAt b 17 2, some (b.drop 19)) := get_from b 17 2 (by decide) (by decide) (by omega)
  have e : bytesR 1514 (dst b 8) = (l, some []) := by
    rw [s8]
    unfold bytesR
    rw [hg2, n8, d19]
    simp only
    rw [if_neg (by omega)]
    unfold takeS
    simp only [Int.toNat_natCast]
    rw [if_pos (Nat.le_refl _), List.take_of_length_le (Nat.le_refl _), List.drop_of_length_le (Nat.le_refl _)]
  have eF : dF b = l := by unfold dF; rw [e]
  have eE : dE b = some [] := by unfold dE; rw [e]
  have w0 := v0.trans n0
  have w1 := v1.trans n1
  have w2 := v2.trans n2
  have w3 := v3.trans n3
  have w4 := v4.trans n4
  have w5 := v5.trans n5
  have w6 := v6.trans n6
  have w7 := v7.trans n7
  refine ⟨?_, w1, w2, w3, w4, w5, w6, w7, eF⟩
  unfold dOK
  rw [eE, eF, w0, w1, w2, w3, w4, w5, w6, w7, h]
  rfl

/-- What is decoded, in letters. -/
def dP (b : List UInt8) (j : Nat) : Int := if dOK b then dvl b j else 0
def dM (b : List UInt8) : List UInt8 := if dOK b then dF b else []
def dX (b : List UInt8) : Int := if dOK b then 0 else 2
theorem dP_yes {b : List UInt8} (h : dOK b = true) (j : Nat) : dP b j = dvl b j := if_pos h
theorem dP_no {b : List UInt8} (h : dOK b = false) (j : Nat) : dP b j = 0 := by unfold dP; rw [h]; rfl
theorem dM_yes {b : List UInt8} (h : dOK b = true) : dM b = dF b := if_pos h
theorem dM_no {b : List UInt8} (h : dOK b = false) : dM b = [] := by unfold dM; rw [h]; rfl
theorem dX_yes {b : List UInt8} (h : dOK b = true) : dX b = 0 := if_pos h
theorem dX_no {b : List UInt8} (h : dOK b = false) : dX b = 2 := by unfold dX; rw [h]; rfl

end Go.Proofs.Ytbbjecjhkjjbkaa
