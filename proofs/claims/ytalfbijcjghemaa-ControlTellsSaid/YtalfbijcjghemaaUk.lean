/-
  Plain lemmas: the bytes of a message, there and back. No condition.
-/
import Derived.Test.YtalfbijcjghemaaUi
import Derived.Test.YtalfbijcjghemaaJp
namespace Go.Proofs.Ytalfbijcjghemaa
open Go.RowKit
set_option linter.unusedVariables false

/-- A reader's next number of k bytes, and its state behind it. -/
def gv (k : Nat) (st : Option (List UInt8)) : Int := (getS (k : Int) st).1
def gn (k : Nat) (st : Option (List UInt8)) : Option (List UInt8) := (getS (k : Int) st).2
def stq6 : List Nat → Option (List UInt8) → Option (List UInt8)
  | [], st => st
  | k :: ks, st => stq6 ks (gn k st)
theorem gv_range (k : Nat) (st : Option (List UInt8)) : 0 ≤ gv k st ∧ gv k st ≤ 9223372036854775807 := get_len _ _
theorem gv_lt (k : Nat) (st : Option (List UInt8)) (h1 : 1 ≤ k) (h7 : k ≤ 7) : gv k st < 256 ^ k := by
  have hp : (0 : Int) < 256 ^ k := Int.pow_pos (by decide)
  unfold gv getS
  split
  · exact hp
  · rename_i b
    split
    · rename_i h
      have h2 := h.2.2.1
      rw [Int.toNat_natCast] at h2
      have h3 := num_take_lt b k h2
      rw [Int.toNat_natCast]
      show ((num (b.take k) : Nat) : Int) < 256 ^ k
      have e : ((256 : Int) ^ k) = ((256 ^ k : Nat) : Int) := by simp
      rw [e]
      omega
    · exact hp
theorem g_un {k : Nat} {st : Option (List UInt8)} {y : List UInt8} (h1 : 1 ≤ k) (h7 : k ≤ 7) (h : gn k st = some y) : st = some (be k (gv k st).toNat ++ y) := by
  unfold gn at h
  rcases st with _ | b
  · cases h
  · by_cases hl : k ≤ b.length
    · have e := get_nat b k h1 h7 hl
      rw [e] at h
      injection h with h
      unfold gv
      rw [e]
      simp only [Int.toNat_natCast]
      rw [be_num_take b k hl, ← h, List.take_append_drop]
    · exfalso
      have e : getS (k : Int) (some b) = (0, none) := if_neg (fun e => by have := e.2.2.1; rw [Int.toNat_natCast] at this; omega)
      rw [e] at h
      cases h
theorem g_rd {k : Nat} {x : Int} (y : List UInt8) (h1 : 1 ≤ k) (h7 : k ≤ 7) (h : 0 ≤ x) (h2 : x < 256 ^ k) : gv k (some (be k x.toNat ++ y)) = x ∧ gn k (some (be k x.toNat ++ y)) = some y := by
  have e := get_nat (be k x.toNat ++ y) k h1 h7 (by rw [List.length_append, be_len]; omega)
  have e2 : x.toNat < 256 ^ k := by
    have e3 : ((256 : Int) ^ k) = ((256 ^ k : Nat) : Int) := by simp
    rw [e3] at h2
    omega
  unfold gv gn
  rw [e, take_be, drop_be, num_be_lt k _ e2]
  exact ⟨by omega, rfl⟩
def rW : List Nat := [1, 6, 1, 1, 1, 1, 5, 6, 6]
def oW : List Nat := [1, 4, 4, 2, 2, 6]
def rs (st : Option (List UInt8)) (j : Nat) : Option (List UInt8) := stq6 (rW.take j) st
def rv (st : Option (List UInt8)) (j : Nat) : Int := gv (rW.getD j 0) (rs st j)
def os (st : Option (List UInt8)) (j : Nat) : Option (List UInt8) := stq6 (oW.take j) st
def ov (st : Option (List UInt8)) (j : Nat) : Int := gv (oW.getD j 0) (os st j)
/-- The record that comes; the state behind it; records. -/
def oneV (st : Option (List UInt8)) : Rc := ⟨ov st 0, ov st 1, ov st 2, ov st 3, ov st 4, ov st 5⟩
def oneE (st : Option (List UInt8)) : Option (List UInt8) := os st 6
def rcsE : Nat → Option (List UInt8) → Option (List UInt8)
  | 0, st => st
  | k + 1, st => rcsE k (oneE st)
def rcsV : Nat → Option (List UInt8) → List Rc
  | 0, _ => []
  | k + 1, st => oneV st :: rcsV k (oneE st)
theorem rcsE_succ : ∀ (k : Nat) (st : Option (List UInt8)), rcsE (k + 1) st = oneE (rcsE k st)
  | 0, _ => rfl
  | k + 1, st => rcsE_succ k (oneE st)
theorem rcsV_succ : ∀ (k : Nat) (st : Option (List UInt8)), rcsV (k + 1) st = rcsV k st ++ [oneV (rcsE k st)]
  | 0, _ => rfl
  | k + 1, st => by
    have := rcsV_succ k (oneE st)
    show oneV st :: rcsV (k + 1) (oneE st) = _
    rw [this]
    rfl
theorem rcsV_len : ∀ (k : Nat) (st : Option (List UInt8)), (rcsV k st).length = k
  | 0, _ => rfl
  | k + 1, st => by
    show (rcsV k (oneE st)).length + 1 = k + 1
    rw [rcsV_len k]
theorem row_un {st : Option (List UInt8)} {y : List UInt8} (h : rs st 9 = some y) : st = some (rowB (rv st 0) (rv st 1) (rv st 2 - 1) (rv st 3 - 1) (rv st 4 - 1) (rv st 6) (rv st 5) (rv st 7) (rv st 8) ++ y) := by
  have s8 : rs st 8 = some (be 6 (rv st 8).toNat ++ y) := g_un (k := 6) (by decide) (by decide) h
  have s7 : rs st 7 = some (be 6 (rv st 7).toNat ++ (be 6 (rv st 8).toNat ++ y)) := g_un (k := 6) (by decide) (by decide) s8
  have s6 : rs st 6 = some (be 5 (rv st 6).toNat ++ (be 6 (rv st 7).toNat ++ (be 6 (rv st 8).toNat ++ y))) := g_un (k := 5) (by decide) (by decide) s7
  have s5 : rs st 5 = some (be 1 (rv st 5).toNat ++ (be 5 (rv st 6).toNat ++ (be 6 (rv st 7).toNat ++ (be 6 (rv st 8).toNat ++ y)))) := g_un (k := 1) (by decide) (by decide) s6
  have s4 : rs st 4 = some (be 1 (rv st 4).toNat ++ (be 1 (rv st 5).toNat ++ (be 5 (rv st 6).toNat ++ (be 6 (rv st 7).toNat ++ (be 6 (rv st 8).toNat ++ y))))) := g_un (k := 1) (by decide) (by decide) s5
  have s3 : rs st 3 = some (be 1 (rv st 3).toNat ++ (be 1 (rv st 4).toNat ++ (be 1 (rv st 5).toNat ++ (be 5 (rv st 6).toNat ++ (be 6 (rv st 7).toNat ++ (be 6 (rv st 8).toNat ++ y)))))) := g_un (k := 1) (by decide) (by decide) s4
  have s2 : rs st 2 = some (be 1 (rv st 2).toNat ++ (be 1 (rv st 3).toNat ++ (be 1 (rv st 4).toNat ++ (be 1 (rv st 5).toNat ++ (be 5 (rv st 6).toNat ++ (be 6 (rv st 7).toNat ++ (be 6 (rv st 8).toNat ++ y))))))) := g_un (k := 1) (by decide) (by decide) s3
  have s1 : rs st 1 = some (be 6 (rv st 1).toNat ++ (be 1 (rv st 2).toNat ++ (be 1 (rv st 3).toNat ++ (be 1 (rv st 4).toNat ++ (be 1 (rv st 5).toNat ++ (be 5 (rv st 6).toNat ++ (be 6 (rv st 7).toNat ++ (be 6 (rv st 8).toNat ++ y)))))))) := g_un (k := 6) (by decide) (by decide) s2
  have s0 : rs st 0 = some (be 1 (rv st 0).toNat ++ (be 6 (rv st 1).toNat ++ (be 1 (rv st 2).toNat ++ (be 1 (rv st 3).toNat ++ (be 1 (rv st 4).toNat ++ (be 1 (rv st 5).toNat ++ (be 5 (rv st 6).toNat ++ (be 6 (rv st 7).toNat ++ (be 6 (rv st 8).toNat ++ y))))))))) := g_un (k := 1) (by decide) (by decide) s1
  have s : st = _ := s0
  unfold rowB
  rw [Int.sub_add_cancel, Int.sub_add_cancel, Int.sub_add_cancel]
  simp only [List.append_assoc]
  exact s
theorem row_rd {po ma ow ta ol ge ph ve si : Int} (h : rwR po ma ow ta ol ge ph ve si = true) (hm : 0 ≤ ma) (y : List UInt8) : rs (some (rowB po ma ow ta ol ge ph ve si ++ y)) 9 = some y ∧ rv (some (rowB po ma ow ta ol ge ph ve si ++ y)) 0 = po ∧ rv (some (rowB po ma ow ta ol ge ph ve si ++ y)) 1 = ma ∧ rv (some (rowB po ma ow ta ol ge ph ve si ++ y)) 2 = ow + 1 ∧ rv (some (rowB po ma ow ta ol ge ph ve si ++ y)) 3 = ta + 1 ∧ rv (some (rowB po ma ow ta ol ge ph ve si ++ y)) 4 = ol + 1 ∧ rv (some (rowB po ma ow ta ol ge ph ve si ++ y)) 5 = ph ∧ rv (some (rowB po ma ow ta ol ge ph ve si ++ y)) 6 = ge ∧ rv (some (rowB po ma ow ta ol ge ph ve si ++ y)) 7 = ve ∧ rv (some (rowB po ma ow ta ol ge ph ve si ++ y)) 8 = si := by
  obtain ⟨h1, h2, h3, h4, h5, h6, h7, h8, h9⟩ := row_parts h
  obtain ⟨st, hst⟩ : ∃ st, st = some (rowB po ma ow ta ol ge ph ve si ++ y) := ⟨_, rfl⟩
  rw [← hst]
  have s0 : rs st 0 = some (be 1 (po).toNat ++ (be 6 (ma).toNat ++ (be 1 (ow + 1).toNat ++ (be 1 (ta + 1).toNat ++ (be 1 (ol + 1).toNat ++ (be 1 (ph).toNat ++ (be 5 (ge).toNat ++ (be 6 (ve).toNat ++ (be 6 (si).toNat ++ y))))))))) := by
    show st = _
    rw [hst]
    unfold rowB
    simp only [List.append_assoc]
  obtain ⟨v0, t0⟩ := g_rd (k := 1) (x := po) (be 6 (ma).toNat ++ (be 1 (ow + 1).toNat ++ (be 1 (ta + 1).toNat ++ (be 1 (ol + 1).toNat ++ (be 1 (ph).toNat ++ (be 5 (ge).toNat ++ (be 6 (ve).toNat ++ (be 6 (si).toNat ++ y)))))))) (by decide) (by decide) (by omega) (by omega)
  have w0 : rv st 0 = po := by
    show gv 1 (rs st 0) = _
    rw [s0]
    exact v0
  have s1 : rs st 1 = some (be 6 (ma).toNat ++ (be 1 (ow + 1).toNat ++ (be 1 (ta + 1).toNat ++ (be 1 (ol + 1).toNat ++ (be 1 (ph).toNat ++ (be 5 (ge).toNat ++ (be 6 (ve).toNat ++ (be 6 (si).toNat ++ y)))))))) := by
    show gn 1 (rs st 0) = _
    rw [s0]
    exact t0
  obtain ⟨v1, t1⟩ := g_rd (k := 6) (x := ma) (be 1 (ow + 1).toNat ++ (be 1 (ta + 1).toNat ++ (be 1 (ol + 1).toNat ++ (be 1 (ph).toNat ++ (be 5 (ge).toNat ++ (be 6 (ve).toNat ++ (be 6 (si).toNat ++ y))))))) (by decide) (by decide) (by omega) (by omega)
  have w1 : rv st 1 = ma := by
    show gv 6 (rs st 1) = _
    rw [s1]
    exact v1
  have s2 : rs st 2 = some (be 1 (ow + 1).toNat ++ (be 1 (ta + 1).toNat ++ (be 1 (ol + 1).toNat ++ (be 1 (ph).toNat ++ (be 5 (ge).toNat ++ (be 6 (ve).toNat ++ (be 6 (si).toNat ++ y))))))) := by
    show gn 6 (rs st 1) = _
    rw [s1]
    exact t1
  obtain ⟨v2, t2⟩ := g_rd (k := 1) (x := ow + 1) (be 1 (ta + 1).toNat ++ (be 1 (ol + 1).toNat ++ (be 1 (ph).toNat ++ (be 5 (ge).toNat ++ (be 6 (ve).toNat ++ (be 6 (si).toNat ++ y)))))) (by decide) (by decide) (by omega) (by omega)
  have w2 : rv st 2 = ow + 1 := by
    show gv 1 (rs st 2) = _
    rw [s2]
    exact v2
  have s3 : rs st 3 = some (be 1 (ta + 1).toNat ++ (be 1 (ol + 1).toNat ++ (be 1 (ph).toNat ++ (be 5 (ge).toNat ++ (be 6 (ve).toNat ++ (be 6 (si).toNat ++ y)))))) := by
    show gn 1 (rs st 2) = _
    rw [s2]
    exact t2
  obtain ⟨v3, t3⟩ := g_rd (k := 1) (x := ta + 1) (be 1 (ol + 1).toNat ++ (be 1 (ph).toNat ++ (be 5 (ge).toNat ++ (be 6 (ve).toNat ++ (be 6 (si).toNat ++ y))))) (by decide) (by decide) (by omega) (by omega)
  have w3 : rv st 3 = ta + 1 := by
    show gv 1 (rs st 3) = _
    rw [s3]
    exact v3
  have s4 : rs st 4 = some (be 1 (ol + 1).toNat ++ (be 1 (ph).toNat ++ (be 5 (ge).toNat ++ (be 6 (ve).toNat ++ (be 6 (si).toNat ++ y))))) := by
    show gn 1 (rs st 3) = _
    rw [s3]
    exact t3
  obtain ⟨v4, t4⟩ := g_rd (k := 1) (x := ol + 1) (be 1 (ph).toNat ++ (be 5 (ge).toNat ++ (be 6 (ve).toNat ++ (be 6 (si).toNat ++ y)))) (by decide) (by decide) (by omega) (by omega)
  have w4 : rv st 4 = ol + 1 := by
    show gv 1 (rs st 4) = _
    rw [s4]
    exact v4
  have s5 : rs st 5 = some (be 1 (ph).toNat ++ (be 5 (ge).toNat ++ (be 6 (ve).toNat ++ (be 6 (si).toNat ++ y)))) := by
    show gn 1 (rs st 4) = _
    rw [s4]
    exact t4
  obtain ⟨v5, t5⟩ := g_rd (k := 1) (x := ph) (be 5 (ge).toNat ++ (be 6 (ve).toNat ++ (be 6 (si).toNat ++ y))) (by decide) (by decide) (by omega) (by omega)
  have w5 : rv st 5 = ph := by
    show gv 1 (rs st 5) = _
    rw [s5]
    exact v5
  have s6 : rs st 6 = some (be 5 (ge).toNat ++ (be 6 (ve).toNat ++ (be 6 (si).toNat ++ y))) := by
    show gn 1 (rs st 5) = _
    rw [s5]
    exact t5
  obtain ⟨v6, t6⟩ := g_rd (k := 5) (x := ge) (be 6 (ve).toNat ++ (be 6 (si).toNat ++ y)) (by decide) (by decide) (by omega) (by omega)
  have w6 : rv st 6 = ge := by
    show gv 5 (rs st 6) = _
    rw [s6]
    exact v6
  have s7 : rs st 7 = some (be 6 (ve).toNat ++ (be 6 (si).toNat ++ y)) := by
    show gn 5 (rs st 6) = _
    rw [s6]
    exact t6
  obtain ⟨v7, t7⟩ := g_rd (k := 6) (x := ve) (be 6 (si).toNat ++ y) (by decide) (by decide) (by omega) (by omega)
  have w7 : rv st 7 = ve := by
    show gv 6 (rs st 7) = _
    rw [s7]
    exact v7
  have s8 : rs st 8 = some (be 6 (si).toNat ++ y) := by
    show gn 6 (rs st 7) = _
    rw [s7]
    exact t7
  obtain ⟨v8, t8⟩ := g_rd (k := 6) (x := si) (y) (by decide) (by decide) (by omega) (by omega)
  have w8 : rv st 8 = si := by
    show gv 6 (rs st 8) = _
    rw [s8]
    exact v8
  have s9 : rs st 9 = some (y) := by
    show gn 6 (rs st 8) = _
    rw [s8]
    exact t8
  exact ⟨s9, w0, w1, w2, w3, w4, w5, w6, w7, w8⟩
theorem one_un {st : Option (List UInt8)} {y : List UInt8} (h : oneE st = some y) : st = some (recB (oneV st) ++ y) := by
  have h : os st 6 = some y := h
  have s5 : os st 5 = some (be 6 (ov st 5).toNat ++ y) := g_un (k := 6) (by decide) (by decide) h
  have s4 : os st 4 = some (be 2 (ov st 4).toNat ++ (be 6 (ov st 5).toNat ++ y)) := g_un (k := 2) (by decide) (by decide) s5
  have s3 : os st 3 = some (be 2 (ov st 3).toNat ++ (be 2 (ov st 4).toNat ++ (be 6 (ov st 5).toNat ++ y))) := g_un (k := 2) (by decide) (by decide) s4
  have s2 : os st 2 = some (be 4 (ov st 2).toNat ++ (be 2 (ov st 3).toNat ++ (be 2 (ov st 4).toNat ++ (be 6 (ov st 5).toNat ++ y)))) := g_un (k := 4) (by decide) (by decide) s3
  have s1 : os st 1 = some (be 4 (ov st 1).toNat ++ (be 4 (ov st 2).toNat ++ (be 2 (ov st 3).toNat ++ (be 2 (ov st 4).toNat ++ (be 6 (ov st 5).toNat ++ y))))) := g_un (k := 4) (by decide) (by decide) s2
  have s0 : os st 0 = some (be 1 (ov st 0).toNat ++ (be 4 (ov st 1).toNat ++ (be 4 (ov st 2).toNat ++ (be 2 (ov st 3).toNat ++ (be 2 (ov st 4).toNat ++ (be 6 (ov st 5).toNat ++ y)))))) := g_un (k := 1) (by decide) (by decide) s1
  have s : st = _ := s0
  unfold recB oneV
  simp only [List.append_assoc]
  exact s
theorem one_num (st : Option (List UInt8)) : RcN (oneV st) :=
  ⟨⟨(gv_range 4 _).1, by have h := gv_lt 4 (os st 1) (by decide) (by decide); show gv 4 (os st 1) ≤ _; omega⟩, ⟨(gv_range 4 _).1, by have h := gv_lt 4 (os st 2) (by decide) (by decide); show gv 4 (os st 2) ≤ _; omega⟩⟩
theorem rcsV_num : ∀ (k : Nat) (st : Option (List UInt8)), ∀ x ∈ rcsV k st, RcN x
  | 0, _, x, h => by cases h
  | k + 1, st, x, h => by
    rcases List.mem_cons.1 h with rfl | h
    · exact one_num st
    · exact rcsV_num k _ x h
theorem one_rd {x : Rc} (h : rcR x = true) (hn : RcN x) (y : List UInt8) : oneE (some (recB x ++ y)) = some y ∧ oneV (some (recB x ++ y)) = x := by
  obtain ⟨h1, h2, h3, h4⟩ := rec_parts h
  obtain ⟨h5, h6⟩ := hn
  obtain ⟨st, hst⟩ : ∃ st, st = some (recB x ++ y) := ⟨_, rfl⟩
  rw [← hst]
  have s0 : os st 0 = some (be 1 (x.pr).toNat ++ (be 4 (x.sr).toNat ++ (be 4 (x.ds).toNat ++ (be 2 (x.sp).toNat ++ (be 2 (x.dp).toNat ++ (be 6 (x.un).toNat ++ y)))))) := by
    show st = _
    rw [hst]
    unfold recB
    simp only [List.append_assoc]
  obtain ⟨v0, t0⟩ := g_rd (k := 1) (x := x.pr) (be 4 (x.sr).toNat ++ (be 4 (x.ds).toNat ++ (be 2 (x.sp).toNat ++ (be 2 (x.dp).toNat ++ (be 6 (x.un).toNat ++ y))))) (by decide) (by decide) (by omega) (by omega)
  have w0 : ov st 0 = x.pr := by
    show gv 1 (os st 0) = _
    rw [s0]
    exact v0
  have s1 : os st 1 = some (be 4 (x.sr).toNat ++ (be 4 (x.ds).toNat ++ (be 2 (x.sp).toNat ++ (be 2 (x.dp).toNat ++ (be 6 (x.un).toNat ++ y))))) := by
    show gn 1 (os st 0) = _
    rw [s0]
    exact t0
  obtain ⟨v1, t1⟩ := g_rd (k := 4) (x := x.sr) (be 4 (x.ds).toNat ++ (be 2 (x.sp).toNat ++ (be 2 (x.dp).toNat ++ (be 6 (x.un).toNat ++ y)))) (by decide) (by decide) (by omega) (by omega)
  have w1 : ov st 1 = x.sr := by
    show gv 4 (os st 1) = _
    rw [s1]
    exact v1
  have s2 : os st 2 = some (be 4 (x.ds).toNat ++ (be 2 (x.sp).toNat ++ (be 2 (x.dp).toNat ++ (be 6 (x.un).toNat ++ y)))) := by
    show gn 4 (os st 1) = _
    rw [s1]
    exact t1
  obtain ⟨v2, t2⟩ := g_rd (k := 4) (x := x.ds) (be 2 (x.sp).toNat ++ (be 2 (x.dp).toNat ++ (be 6 (x.un).toNat ++ y))) (by decide) (by decide) (by omega) (by omega)
  have w2 : ov st 2 = x.ds := by
    show gv 4 (os st 2) = _
    rw [s2]
    exact v2
  have s3 : os st 3 = some (be 2 (x.sp).toNat ++ (be 2 (x.dp).toNat ++ (be 6 (x.un).toNat ++ y))) := by
    show gn 4 (os st 2) = _
    rw [s2]
    exact t2
  obtain ⟨v3, t3⟩ := g_rd (k := 2) (x := x.sp) (be 2 (x.dp).toNat ++ (be 6 (x.un).toNat ++ y)) (by decide) (by decide) (by omega) (by omega)
  have w3 : ov st 3 = x.sp := by
    show gv 2 (os st 3) = _
    rw [s3]
    exact v3
  have s4 : os st 4 = some (be 2 (x.dp).toNat ++ (be 6 (x.un).toNat ++ y)) := by
    show gn 2 (os st 3) = _
    rw [s3]
    exact t3
  obtain ⟨v4, t4⟩ := g_rd (k := 2) (x := x.dp) (be 6 (x.un).toNat ++ y) (by decide) (by decide) (by omega) (by omega)
  have w4 : ov st 4 = x.dp := by
    show gv 2 (os st 4) = _
    rw [s4]
    exact v4
  have s5 : os st 5 = some (be 6 (x.un).toNat ++ y) := by
    show gn 2 (os st 4) = _
    rw [s4]
    exact t4
  obtain ⟨v5, t5⟩ := g_rd (k := 6) (x := x.un) (y) (by decide) (by decide) (by omega) (by omega)
  have w5 : ov st 5 = x.un := by
    show gv 6 (os st 5) = _
    rw [s5]
    exact v5
  have s6 : os st 6 = some (y) := by
    show gn 6 (os st 5) = _
    rw [s5]
    exact t5
  refine ⟨s6, ?_⟩
  unfold oneV
  rw [w0, w1, w2, w3, w4, w5]
theorem recs_un : ∀ {k : Nat} {st : Option (List UInt8)} {y : List UInt8} (h : rcsE k st = some y), st = some (recsB (rcsV k st) ++ y)
  | 0, st, y, h => h
  | k + 1, st, y, h => by
    have h1 := recs_un (k := k) (st := oneE st) h
    have h2 := one_un h1
    have e : recsB (rcsV (k + 1) st) = recB (oneV st) ++ recsB (rcsV k (oneE st)) := rfl
    rw [e, List.append_assoc]
    exact h2
theorem recs_rd : ∀ {l : List Rc} (h : l.all rcR = true) (hn : ∀ x ∈ l, RcN x) (y : List UInt8), rcsE l.length (some (recsB l ++ y)) = some y ∧ rcsV l.length (some (recsB l ++ y)) = l
  | [], _, _, y => ⟨rfl, rfl⟩
  | x :: r, h, hn, y => by
    simp only [List.all_cons, Bool.and_eq_true] at h
    obtain ⟨a1, a2⟩ := one_rd h.1 (hn x (by simp)) (recsB r ++ y)
    obtain ⟨b1, b2⟩ := recs_rd (l := r) h.2 (fun z hz => hn z (by simp [hz])) y
    have e : recsB (x :: r) ++ y = recB x ++ (recsB r ++ y) := by simp [recsB]
    rw [e]
    show rcsE r.length (oneE (some (recB x ++ (recsB r ++ y)))) = some y ∧ oneV (some (recB x ++ (recsB r ++ y))) :: rcsV r.length (oneE (some (recB x ++ (recsB r ++ y)))) = x :: r
    rw [a1, a2, b1, b2]
    exact ⟨rfl, rfl⟩

/-- A message. -/
structure MV where
  kd : Int
  po : Int
  ma : Int
  ow : Int
  ta : Int
  ol : Int
  ge : Int
  ph : Int
  ve : Int
  si : Int
  pt : Int
  vr : Int
  l : List Rc
def MV.ok (m : MV) : Bool := msR m.kd m.po m.ma m.ow m.ta m.ol m.ge m.ph m.ve m.si m.pt m.vr m.l
def MV.bs (m : MV) : List UInt8 := msB m.kd m.po m.ma m.ow m.ta m.ol m.ge m.ph m.ve m.si m.pt m.vr m.l
def MV.nm (m : MV) : Prop := MsN m.kd m.po m.ma m.ow m.ta m.ol m.ge m.ph m.ve m.si m.pt m.vr m.l
def MV.zero : MV := ⟨0, 0, 0, 0, 0, 0, 0, 0, 0, 0, 0, 0, []⟩
/-- The numbers of bytes, as a reader tells them. -/
def cK (b : List UInt8) : Int := gv 1 (some b)
def cS1 (b : List UInt8) : Option (List UInt8) := gn 1 (some b)
def cPt (b : List UInt8) : Int := gv 1 (cS1 b)
def cS2 (b : List UInt8) : Option (List UInt8) := gn 1 (cS1 b)
def cVr (b : List UInt8) : Int := gv 6 (cS2 b)
def cS3 (b : List UInt8) : Option (List UInt8) := gn 6 (cS2 b)
def cNn (b : List UInt8) : Int := gv 1 (cS3 b)
def cS4 (b : List UInt8) : Option (List UInt8) := gn 1 (cS3 b)
def cRl (b : List UInt8) : List Rc := rcsV (cNn b).toNat (cS4 b)
def cS5 (b : List UInt8) : Option (List UInt8) := rcsE (cNn b).toNat (cS4 b)
def cm1 (b : List UInt8) : MV := ⟨1, rv (cS1 b) 0, rv (cS1 b) 1, rv (cS1 b) 2 - 1, rv (cS1 b) 3 - 1, rv (cS1 b) 4 - 1, rv (cS1 b) 6, rv (cS1 b) 5, rv (cS1 b) 7, rv (cS1 b) 8, 0, 0, []⟩
def cm2 (b : List UInt8) : MV := ⟨2, 0, 0, 0, 0, 0, 0, 0, 0, 0, cPt b, cVr b, []⟩
def cm3 (b : List UInt8) : MV := ⟨3, 0, 0, 0, 0, 0, 0, 0, 0, 0, cPt b, cVr b, cRl b⟩
def cV (b : List UInt8) : MV := if cK b = 1 then cm1 b else if cK b = 2 then cm2 b else cm3 b
def cE (b : List UInt8) : Option (List UInt8) := if cK b = 1 then rs (cS1 b) 9 else if cK b = 2 then cS3 b else cS5 b
/-- Are the bytes a message's? -/
def cOK (b : List UInt8) : Bool := (cK b == 1 || (cK b == 2 || cK b == 3)) && (doneS (cE b) == 0 && (cV b).ok)
/-- What is decoded, in letters. -/
def cM (b : List UInt8) : MV := if cOK b then cV b else MV.zero
def cX (b : List UInt8) : Int := if cOK b then 0 else 2
theorem cOK_1 {b : List UInt8} (h : cK b = 1) : cOK b = (doneS (rs (cS1 b) 9) == 0 && (cm1 b).ok) := by unfold cOK cE cV; rw [h]; rfl
theorem cOK_2 {b : List UInt8} (h : cK b = 2) : cOK b = (doneS (cS3 b) == 0 && (cm2 b).ok) := by unfold cOK cE cV; rw [h]; rfl
theorem cOK_3 {b : List UInt8} (h : cK b = 3) : cOK b = (doneS (cS5 b) == 0 && (cm3 b).ok) := by unfold cOK cE cV; rw [h]; rfl
theorem cOK_9 {b : List UInt8} (h1 : cK b ≠ 1) (h2 : cK b ≠ 2) (h3 : cK b ≠ 3) : cOK b = false := by
  unfold cOK
  have e1 : (cK b == 1) = false := by simpa using h1
  have e2 : (cK b == 2) = false := by simpa using h2
  have e3 : (cK b == 3) = false := by simpa using h3
  rw [e1, e2, e3]
  rfl
theorem cV_1 {b : List UInt8} (h : cK b = 1) : cV b = cm1 b := if_pos h
theorem cV_2 {b : List UInt8} (h : cK b = 2) : cV b = cm2 b := by unfold cV; rw [h]; rfl
theorem cV_3 {b : List UInt8} (h : cK b = 3) : cV b = cm3 b := by unfold cV; rw [h]; rfl
theorem cM_yes {b : List UInt8} (h : cOK b = true) : cM b = cV b := if_pos h
theorem cM_no {b : List UInt8} (h : cOK b = false) : cM b = MV.zero := by unfold cM; rw [h]; rfl
theorem cX_yes {b : List UInt8} (h : cOK b = true) : cX b = 0 := if_pos h
theorem cX_no {b : List UInt8} (h : cOK b = false) : cX b = 2 := by unfold cX; rw [h]; rfl
theorem done6_zero {st : Option (List UInt8)} (h : (doneS st == 0) = true) : st = some [] := by
  rcases st with _ | b
  · cases h
  · rcases b with _ | ⟨x, r⟩
    · rfl
    · cases h
theorem done6_app (y : List UInt8) : (doneS (some y) == 0) = y.isEmpty := by
  cases y <;> rfl
theorem cV_num (b : List UInt8) : (cV b).nm := by
  have h0 : ∀ st : Option (List UInt8), 0 ≤ rv st 1 ∧ rv st 1 ≤ 18446744073709551615 := fun st => ⟨(gv_range 6 _).1, by have h := (gv_range 6 (rs st 1)).2; show gv 6 (rs st 1) ≤ _; omega⟩
  unfold cV
  split
  · exact ⟨h0 _, fun x hx => by cases hx⟩
  · split
    · exact ⟨⟨Int.le_refl _, show (0 : Int) ≤ 18446744073709551615 by decide⟩, fun x hx => by cases hx⟩
    · exact ⟨⟨Int.le_refl _, show (0 : Int) ≤ 18446744073709551615 by decide⟩, rcsV_num _ _⟩
theorem cOK_cases {b : List UInt8} (h : cOK b = true) : cK b = 1 ∨ cK b = 2 ∨ cK b = 3 := by
  by_cases h1 : cK b = 1
  · exact .inl h1
  by_cases h2 : cK b = 2
  · exact .inr (.inl h2)
  by_cases h3 : cK b = 3
  · exact .inr (.inr h3)
  rw [cOK_9 h1 h2 h3] at h
  cases h
theorem and_two {a b : Bool} (h : (a && b) = true) : a = true ∧ b = true := by simpa using h
theorem cV_ok {b : List UInt8} (h : cOK b = true) : (cV b).ok = true := (and_two (and_two h).2).2
theorem cK_un {b y : List UInt8} (h : cS1 b = some y) : b = be 1 (cK b).toNat ++ y := by
  have h2 := g_un (k := 1) (by decide) (by decide) h
  injection h2 with h2
/-- What is decoded has just these bytes. -/
theorem cdc_yes {b : List UInt8} (h : cOK b = true) : (cV b).bs = b := by
  rcases cOK_cases h with hk | hk | hk
  · rw [cOK_1 hk] at h
    have h1 := row_un (done6_zero (and_two h).1)
    have h2 := cK_un h1
    rw [cV_1 hk]
    rw [hk, List.append_nil] at h2
    exact h2.symm
  · rw [cOK_2 hk] at h
    have h0 : cS3 b = some [] := done6_zero (and_two h).1
    have h1 : cS2 b = some (be 6 (cVr b).toNat ++ []) := g_un (k := 6) (by decide) (by decide) h0
    have h2 : cS1 b = some (be 1 (cPt b).toNat ++ (be 6 (cVr b).toNat ++ [])) := g_un (k := 1) (by decide) (by decide) h1
    have h3 := cK_un h2
    rw [cV_2 hk]
    rw [hk] at h3
    exact h3.symm
  · rw [cOK_3 hk] at h
    have hS : cS5 b = some [] := done6_zero (and_two h).1
    have h4 := recs_un hS
    have h0 : cS3 b = some (be 1 (cNn b).toNat ++ (recsB (cRl b) ++ [])) := g_un (k := 1) (by decide) (by decide) h4
    have h1 : cS2 b = some (be 6 (cVr b).toNat ++ (be 1 (cNn b).toNat ++ (recsB (cRl b) ++ []))) := g_un (k := 6) (by decide) (by decide) h0
    have h2 : cS1 b = some (be 1 (cPt b).toNat ++ (be 6 (cVr b).toNat ++ (be 1 (cNn b).toNat ++ (recsB (cRl b) ++ [])))) := g_un (k := 1) (by decide) (by decide) h1
    have h3 := cK_un h2
    rw [cV_3 hk]
    rw [hk, List.append_nil] at h3
    have e : (cRl b).length = (cNn b).toNat := rcsV_len _ _
    show be 1 (3 : Int).toNat ++ (be 1 (cPt b).toNat ++ (be 6 (cVr b).toNat ++ (be 1 (cRl b).length ++ recsB (cRl b)))) = b
    rw [e]
    exact h3.symm
/-- A message is decoded from its bytes; more behind them is none's. -/
theorem cdc_app {m : MV} (h : m.ok = true) (hn : m.nm) (r : List UInt8) : cOK (m.bs ++ r) = r.isEmpty ∧ cV (m.bs ++ r) = m := by
  obtain ⟨kd, po, ma, ow, ta, ol, ge, ph, ve, si, pt, vr, l⟩ := m
  have hN : MsN kd po ma ow ta ol ge ph ve si pt vr l := hn
  have hR : msR kd po ma ow ta ol ge ph ve si pt vr l = true := h
  obtain ⟨b, hb⟩ : ∃ b, b = (MV.bs ⟨kd, po, ma, ow, ta, ol, ge, ph, ve, si, pt, vr, l⟩) ++ r := ⟨_, rfl⟩
  have hb2 : b = msB kd po ma ow ta ol ge ph ve si pt vr l ++ r := hb
  rw [← hb]
  rcases msR_parts hR with ⟨rfl, hrw, rfl, rfl, rfl⟩ | ⟨rfl, hz, hnb, rfl⟩ | ⟨rfl, hz, hnb, hl, ha⟩
  · have e : b = be 1 (1 : Int).toNat ++ (rowB po ma ow ta ol ge ph ve si ++ r) := by
      rw [hb2]
      unfold msB
      rw [if_pos rfl, List.append_assoc]
    obtain ⟨v0, t0⟩ := g_rd (k := 1) (x := 1) (rowB po ma ow ta ol ge ph ve si ++ r) (by decide) (by decide) (by decide) (by decide)
    rw [← e] at v0 t0
    have hk : cK b = 1 := v0
    have hs : cS1 b = some (rowB po ma ow ta ol ge ph ve si ++ r) := t0
    obtain ⟨q9, q0, q1, q2, q3, q4, q5, q6, q7, q8⟩ := row_rd hrw hN.1.1 r
    have em : cm1 b = ⟨1, po, ma, ow, ta, ol, ge, ph, ve, si, 0, 0, []⟩ := by
      unfold cm1
      rw [hs, q0, q1, q2, q3, q4, q5, q6, q7, q8, Int.add_sub_cancel, Int.add_sub_cancel, Int.add_sub_cancel]
    refine ⟨?_, (cV_1 hk).trans em⟩
    rw [cOK_1 hk, em, hs, q9, done6_app]
    have : MV.ok ⟨1, po, ma, ow, ta, ol, ge, ph, ve, si, 0, 0, []⟩ = true := hR
    rw [this, Bool.and_true]
  · obtain ⟨hp1, hp2⟩ := named_parts hnb
    obtain ⟨rfl, rfl, rfl, rfl, rfl, rfl, rfl, rfl, rfl⟩ := rvE_zero hz
    have e : b = be 1 (2 : Int).toNat ++ (be 1 pt.toNat ++ (be 6 vr.toNat ++ r)) := by
      rw [hb2]
      simp [msB]
    obtain ⟨v0, t0⟩ := g_rd (k := 1) (x := 2) (be 1 pt.toNat ++ (be 6 vr.toNat ++ r)) (by decide) (by decide) (by decide) (by decide)
    rw [← e] at v0 t0
    have hk : cK b = 2 := v0
    have hs : cS1 b = some (be 1 pt.toNat ++ (be 6 vr.toNat ++ r)) := t0
    obtain ⟨v1, t1⟩ := g_rd (k := 1) (x := pt) (be 6 vr.toNat ++ r) (by decide) (by decide) (by omega) (by omega)
    obtain ⟨v2, t2⟩ := g_rd (k := 6) (x := vr) r (by decide) (by decide) (by omega) (by omega)
    have hpt : cPt b = pt := by unfold cPt; rw [hs]; exact v1
    have hs2 : cS2 b = some (be 6 vr.toNat ++ r) := by unfold cS2; rw [hs]; exact t1
    have hvr : cVr b = vr := by unfold cVr; rw [hs2]; exact v2
    have hs3 : cS3 b = some r := by unfold cS3; rw [hs2]; exact t2
    have em : cm2 b = ⟨2, 0, 0, 0, 0, 0, 0, 0, 0, 0, pt, vr, []⟩ := by
      unfold cm2
      rw [hpt, hvr]
    refine ⟨?_, (cV_2 hk).trans em⟩
    rw [cOK_2 hk, em, hs3, done6_app]
    have : MV.ok ⟨2, 0, 0, 0, 0, 0, 0, 0, 0, 0, pt, vr, []⟩ = true := hR
    rw [this, Bool.and_true]
  · obtain ⟨hp1, hp2⟩ := named_parts hnb
    obtain ⟨rfl, rfl, rfl, rfl, rfl, rfl, rfl, rfl, rfl⟩ := rvE_zero hz
    have e : b = be 1 (3 : Int).toNat ++ (be 1 pt.toNat ++ (be 6 vr.toNat ++ (be 1 ((l.length : Int)).toNat ++ (recsB l ++ r)))) := by
      rw [hb2]
      simp [msB]
    obtain ⟨v0, t0⟩ := g_rd (k := 1) (x := 3) (be 1 pt.toNat ++ (be 6 vr.toNat ++ (be 1 ((l.length : Int)).toNat ++ (recsB l ++ r)))) (by decide) (by decide) (by decide) (by decide)
    rw [← e] at v0 t0
    have hk : cK b = 3 := v0
    have hs : cS1 b = some (be 1 pt.toNat ++ (be 6 vr.toNat ++ (be 1 ((l.length : Int)).toNat ++ (recsB l ++ r)))) := t0
    obtain ⟨v1, t1⟩ := g_rd (k := 1) (x := pt) (be 6 vr.toNat ++ (be 1 ((l.length : Int)).toNat ++ (recsB l ++ r))) (by decide) (by decide) (by omega) (by omega)
    obtain ⟨v2, t2⟩ := g_rd (k := 6) (x := vr) (be 1 ((l.length : Int)).toNat ++ (recsB l ++ r)) (by decide) (by decide) (by omega) (by omega)
    obtain ⟨v3, t3⟩ := g_rd (k := 1) (x := (l.length : Int)) (recsB l ++ r) (by decide) (by decide) (by omega) (by omega)
    obtain ⟨q1, q2⟩ := recs_rd ha hN.2 r
    have hpt : cPt b = pt := by unfold cPt; rw [hs]; exact v1
    have hs2 : cS2 b = some (be 6 vr.toNat ++ (be 1 ((l.length : Int)).toNat ++ (recsB l ++ r))) := by unfold cS2; rw [hs]; exact t1
    have hvr : cVr b = vr := by unfold cVr; rw [hs2]; exact v2
    have hs3 : cS3 b = some (be 1 ((l.length : Int)).toNat ++ (recsB l ++ r)) := by unfold cS3; rw [hs2]; exact t2
    have hnn : cNn b = (l.length : Int) := by unfold cNn; rw [hs3]; exact v3
    have hs4 : cS4 b = some (recsB l ++ r) := by unfold cS4; rw [hs3]; exact t3
    have hrl : cRl b = l := by unfold cRl; rw [hnn, hs4, Int.toNat_natCast]; exact q2
    have hs5 : cS5 b = some r := by unfold cS5; rw [hnn, hs4, Int.toNat_natCast]; exact q1
    have em : cm3 b = ⟨3, 0, 0, 0, 0, 0, 0, 0, 0, 0, pt, vr, l⟩ := by
      unfold cm3
      rw [hpt, hvr, hrl]
    refine ⟨?_, (cV_3 hk).trans em⟩
    rw [cOK_3 hk, em, hs5, done6_app]
    have : MV.ok ⟨3, 0, 0, 0, 0, 0, 0, 0, 0, 0, pt, vr, l⟩ = true := hR
    rw [this, Bool.and_true]
theorem cdc_back {m : MV} (h : m.ok = true) (hn : m.nm) : cOK m.bs = true ∧ cV m.bs = m := by
  have := cdc_app h hn []
  rw [List.append_nil] at this
  exact this
theorem cdc_cut {m : MV} (h : m.ok = true) (hn : m.nm) (k : Nat) (hk : k < m.bs.length) : cOK (m.bs.take k) = false := by
  cases e : cOK (m.bs.take k)
  · rfl
  · exfalso
    have h1 := cdc_yes e
    have h2 := cdc_app (cV_ok e) (cV_num _) (m.bs.drop k)
    rw [h1, List.take_append_drop] at h2
    have h3 := (cdc_back h hn).1
    rw [h2.1] at h3
    have h4 := List.drop_eq_nil_iff.1 (List.isEmpty_iff.1 h3)
    omega
theorem recsB_len : ∀ l : List Rc, (recsB l).length = 19 * l.length
  | [] => rfl
  | x :: r => by
    have := recsB_len r
    have e : recsB (x :: r) = recB x ++ recsB r := rfl
    rw [e, List.length_append, this]
    have e2 : (recB x).length = 19 := by unfold recB; simp only [List.length_append, be_len]
    rw [e2, List.length_cons]
    omega
theorem bs_len {m : MV} (h : m.ok = true) : 1 ≤ m.bs.length ∧ m.bs.length ≤ 313 ∧ m.l.length ≤ 16 := by
  obtain ⟨kd, po, ma, ow, ta, ol, ge, ph, ve, si, pt, vr, l⟩ := m
  have hR : msR kd po ma ow ta ol ge ph ve si pt vr l = true := h
  show 1 ≤ (msB kd po ma ow ta ol ge ph ve si pt vr l).length ∧ (msB kd po ma ow ta ol ge ph ve si pt vr l).length ≤ 313 ∧ l.length ≤ 16
  rcases msR_parts hR with ⟨rfl, hrw, rfl, rfl, rfl⟩ | ⟨rfl, hz, hnb, rfl⟩ | ⟨rfl, hz, hnb, hl, ha⟩
  · have e : (msB 1 po ma ow ta ol ge ph ve si 0 0 []).length = 29 := by
      unfold msB rowB
      rw [if_pos rfl]
      simp only [List.length_append, be_len]
    rw [e]
    decide
  · have e : (msB 2 po ma ow ta ol ge ph ve si pt vr []).length = 8 := by simp [msB, be_len]
    rw [e]
    decide
  · have e : (msB 3 po ma ow ta ol ge ph ve si pt vr l).length = 9 + 19 * l.length := by
      simp [msB, be_len, recsB_len]
      omega
    rw [e]
    omega
theorem cdc_le {b : List UInt8} (h : 313 < b.length) : cOK b = false := by
  cases e : cOK b
  · rfl
  · exfalso
    have h1 := cdc_yes e
    have h2 := (bs_len (cV_ok e)).2.1
    rw [h1] at h2
    omega
theorem cM_len (b : List UInt8) : (cM b).l.length ≤ 16 := by
  cases e : cOK b
  · rw [cM_no e]
    decide
  · rw [cM_yes e]
    exact (bs_len (cV_ok e)).2.2

end Go.Proofs.Ytalfbijcjghemaa
