/-
  What a call of a writer leaves alone; the bytes of a row, a record, a message. No condition but those the lemmas name.
-/
import Derived.Test.YtclikcbgeolngaaUe
import Derived.Test.YtclikcbgeolngaaCh
import Derived.Test.YtclikcbgeolngaaSpb
namespace Go.Proofs.Ytclikcbgeolngaa
open Go.RowKit
set_option linter.unusedVariables false

theorem i64_wrap {x : Int} (h : -9223372036854775808 ≤ x ∧ x ≤ 9223372036854775807) : IntKind.i64.wrap x = x := by
  rw [IntKind.wrap_i64]
  omega

/-- What is written of a row; of a record; of records. -/
def rowP (po ma ow ta ol ge ph ve si : Int) (st : Option (List UInt8)) : Option (List UInt8) := putS 6 [ve, si] (putS 5 [ge] (putS 1 [ow + 1, ta + 1, ol + 1, ph] (putS 6 [ma] (putS 1 [po] st))))
def recP (x : Rc) (st : Option (List UInt8)) : Option (List UInt8) := putS 6 [x.un] (putS 2 [x.sp, x.dp] (putS 4 [x.sr, x.ds] (putS 1 [x.pr] st)))
def recsP (l : List Rc) (st : Option (List UInt8)) : Option (List UInt8) := l.foldl (fun s x => recP x s) st
/-- The bytes of a row, of a record, of a message. -/
def rowB (po ma ow ta ol ge ph ve si : Int) : List UInt8 := be 1 po.toNat ++ (be 6 ma.toNat ++ (be 1 (ow + 1).toNat ++ (be 1 (ta + 1).toNat ++ (be 1 (ol + 1).toNat ++ (be 1 ph.toNat ++ (be 5 ge.toNat ++ (be 6 ve.toNat ++ be 6 si.toNat)))))))
def recB (x : Rc) : List UInt8 := be 1 x.pr.toNat ++ (be 4 x.sr.toNat ++ (be 4 x.ds.toNat ++ (be 2 x.sp.toNat ++ (be 2 x.dp.toNat ++ be 6 x.un.toNat))))
def recsB (l : List Rc) : List UInt8 := l.flatMap recB
def msB (kd po ma ow ta ol ge ph ve si pt vr : Int) (l : List Rc) : List UInt8 :=
  be 1 kd.toNat ++ (if kd = 1 then rowB po ma ow ta ol ge ph ve si else be 1 pt.toNat ++ (be 6 vr.toNat ++ (if kd = 3 then be 1 l.length ++ recsB l else [])))
/-- The numbers of a record are of their types. -/
def RcN (x : Rc) : Prop := (0 ≤ x.sr ∧ x.sr ≤ 4294967295) ∧ (0 ≤ x.ds ∧ x.ds ≤ 4294967295)

theorem fits_w6 (n : Nat) {x : Int} (h : 0 ≤ x) (h2 : x < 256 ^ n) : fits n x = true := by
  unfold fits
  simp only [Bool.and_eq_true, decide_eq_true_eq]
  exact ⟨h, h2⟩
theorem wi_mem {lo hi : Int} {l : List Int} (h : withinB lo hi l = true) : ∀ x ∈ l, lo ≤ x ∧ x ≤ hi := by
  intro x hx
  unfold withinB at h
  have := List.all_eq_true.1 h x hx
  simpa using this
theorem wi_one' {lo hi x : Int} (h : withinB lo hi [x] = true) : lo ≤ x ∧ x ≤ hi := wi_mem h x (by simp)
theorem held_parts {ph ow ta ol : Int} (h : heldB ph ow ta ol = true) : (0 ≤ ph ∧ ph ≤ 3) ∧ (-1 ≤ ow ∧ ow ≤ 15) ∧ (-1 ≤ ta ∧ ta ≤ 15) ∧ (-1 ≤ ol ∧ ol ≤ 15) := by
  unfold heldB at h
  by_cases h0 : ph = 0
  · rw [if_pos h0] at h
    simp only [Bool.and_eq_true] at h
    have a := wi_mem h.1 ow (by simp)
    have b := wi_mem h.2 ta (by simp)
    have c := wi_mem h.2 ol (by simp)
    omega
  rw [if_neg h0] at h
  by_cases h1 : ph = 1
  · rw [if_pos h1] at h
    simp only [Bool.and_eq_true] at h
    have a := wi_mem h.1 ow (by simp)
    have b := wi_mem h.1 ta (by simp)
    have c := wi_mem h.2.2 ol (by simp)
    omega
  rw [if_neg h1] at h
  by_cases h2 : ph = 2
  · rw [if_pos h2] at h
    simp only [Bool.and_eq_true] at h
    have a := wi_mem h.1 ow (by simp)
    have b := wi_mem h.1 ol (by simp)
    have c := wi_mem h.2.2 ta (by simp)
    omega
  rw [if_neg h2] at h
  by_cases h3 : ph = 3
  · rw [if_pos h3] at h
    have a := wi_mem h ow (by simp)
    have b := wi_mem h ta (by simp)
    have c := wi_mem h ol (by simp)
    omega
  rw [if_neg h3] at h
  cases h
theorem row_parts {po ma ow ta ol ge ph ve si : Int} (h : rwR po ma ow ta ol ge ph ve si = true) : (0 ≤ po ∧ po ≤ 31) ∧ ma ≤ 281474976710655 ∧ (-1 ≤ ow ∧ ow ≤ 15) ∧ (-1 ≤ ta ∧ ta ≤ 15) ∧ (-1 ≤ ol ∧ ol ≤ 15) ∧ (1 ≤ ge ∧ ge ≤ 4294967296) ∧ (0 ≤ ph ∧ ph ≤ 3) ∧ (1 ≤ ve ∧ ve ≤ 1099511627776) ∧ (0 ≤ si ∧ si ≤ 1099511627776) := by
  unfold rwR namedB at h
  simp only [Bool.and_eq_true, decide_eq_true_eq] at h
  obtain ⟨⟨h1, h2⟩, h3, h4, h5, h6⟩ := h
  obtain ⟨a, b, c, d⟩ := held_parts h6
  exact ⟨wi_one' h1, h3, b, c, d, wi_one' h4, a, wi_one' h2, wi_one' h5⟩
theorem rec_parts {x : Rc} (h : rcR x = true) : (x.pr = 6 ∨ x.pr = 17) ∧ (0 ≤ x.sp ∧ x.sp ≤ 65535) ∧ (0 ≤ x.dp ∧ x.dp ≤ 65535) ∧ (0 ≤ x.un ∧ x.un ≤ 1099511627776) := by
  unfold rcR rcR1 flR portB at h
  simp only [Bool.and_eq_true, Bool.or_eq_true, beq_iff_eq, decide_eq_true_eq] at h
  exact ⟨h.1.1, h.1.2.1, h.1.2.2, wi_one' h.2⟩
theorem rowP_eq {po ma ow ta ol ge ph ve si : Int} (h : rwR po ma ow ta ol ge ph ve si = true) (hm : 0 ≤ ma) (b : List UInt8) : rowP po ma ow ta ol ge ph ve si (some b) = some (b ++ rowB po ma ow ta ol ge ph ve si) := by
  obtain ⟨h1, h2, h3, h4, h5, h6, h7, h8, h9⟩ := row_parts h
  have e1 : fits 1 po = true := fits_w6 1 (by omega) (by omega)
  have e2 : fits 6 ma = true := fits_w6 6 (by omega) (by omega)
  have e3 : fits 1 (ow + 1) = true := fits_w6 1 (by omega) (by omega)
  have e4 : fits 1 (ta + 1) = true := fits_w6 1 (by omega) (by omega)
  have e5 : fits 1 (ol + 1) = true := fits_w6 1 (by omega) (by omega)
  have e6 : fits 1 ph = true := fits_w6 1 (by omega) (by omega)
  have e7 : fits 5 ge = true := fits_w6 5 (by omega) (by omega)
  have e8 : fits 6 ve = true := fits_w6 6 (by omega) (by omega)
  have e9 : fits 6 si = true := fits_w6 6 (by omega) (by omega)
  simp [rowP, rowB, putS, puts, put1, e1, e2, e3, e4, e5, e6, e7, e8, e9]
theorem recP_eq {x : Rc} (h : rcR x = true) (hn : RcN x) (b : List UInt8) : recP x (some b) = some (b ++ recB x) := by
  obtain ⟨h1, h2, h3, h4⟩ := rec_parts h
  obtain ⟨h5, h6⟩ := hn
  have e1 : fits 1 x.pr = true := fits_w6 1 (by omega) (by omega)
  have e2 : fits 4 x.sr = true := fits_w6 4 (by omega) (by omega)
  have e3 : fits 4 x.ds = true := fits_w6 4 (by omega) (by omega)
  have e4 : fits 2 x.sp = true := fits_w6 2 (by omega) (by omega)
  have e5 : fits 2 x.dp = true := fits_w6 2 (by omega) (by omega)
  have e6 : fits 6 x.un = true := fits_w6 6 (by omega) (by omega)
  simp [recP, recB, putS, puts, put1, e1, e2, e3, e4, e5, e6]
theorem recsP_eq : ∀ {l : List Rc} (h : l.all rcR = true) (hn : ∀ x ∈ l, RcN x) (b : List UInt8), recsP l (some b) = some (b ++ recsB l)
  | [], _, _, b => by simp [recsP, recsB]
  | x :: r, h, hn, b => by
    simp only [List.all_cons, Bool.and_eq_true] at h
    have e := recsP_eq (l := r) h.2 (fun y hy => hn y (by simp [hy])) (b ++ recB x)
    have e2 := recP_eq h.1 (hn x (by simp)) b
    unfold recsP at e ⊢
    rw [List.foldl_cons, e2, e]
    simp [recsB]
theorem recsP_take {l : List Rc} {k : Nat} {x : Rc} (h : l[k]? = some x) (st : Option (List UInt8)) : recsP (l.take (k + 1)) st = recP x (recsP (l.take k) st) := by
  obtain ⟨hk, rfl⟩ := List.getElem?_eq_some_iff.1 h
  unfold recsP
  rw [List.take_succ_eq_append_getElem hk, List.foldl_append]
  rfl

end Go.Proofs.Ytclikcbgeolngaa
