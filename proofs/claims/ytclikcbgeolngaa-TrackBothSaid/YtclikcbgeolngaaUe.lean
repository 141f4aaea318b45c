/-
  Walks: slices.Equal, control.Same, rutterref06.Records, Same. Conditions: the records are read in memory.
-/
import Derived.Test.YtclikcbgeolngaaUd
import Derived.BigQuiet
namespace Go.Proofs.Ytclikcbgeolngaa
open Go.RowKit
set_option linter.unusedVariables false

def rcE2 (x y : Rc) : Bool := rcE x.pr x.sr x.ds x.sp x.dp x.un y.pr y.sr y.ds y.sp y.dp y.un
theorem rcE2_iff {x y : Rc} : rcE2 x y = true ↔ x = y := by
  obtain ⟨a1, a2, a3, a4, a5, a6⟩ := x
  obtain ⟨b1, b2, b3, b4, b5, b6⟩ := y
  simp [rcE2, rcE]
/-- Are two lists one? -/
def rsE : List Rc → List Rc → Bool
  | [], [] => true
  | x :: r, y :: s => rcE2 x y && rsE r s
  | [], _ :: _ => false
  | _ :: _, [] => false
theorem rsE_iff : ∀ {l l2 : List Rc}, rsE l l2 = true ↔ l = l2
  | [], [] => by simp [rsE]
  | x :: r, y :: s => by
    have := @rsE_iff r s
    simp [rsE, rcE2_iff, this]
  | [], y :: s => by simp [rsE]
  | x :: r, [] => by simp [rsE]
theorem rsE_refl (l : List Rc) : rsE l l = true := rsE_iff.2 rfl
theorem rsE_no {l l2 : List Rc} (h : l ≠ l2) : rsE l l2 = false := by
  cases e : rsE l l2
  · rfl
  · exact absurd (rsE_iff.1 e) h
theorem rsE_at {l l2 : List Rc} {i : Nat} {x y : Rc} (h1 : l[i]? = some x) (h2 : l2[i]? = some y) (h : rcE2 x y = false) : rsE l l2 = false := by
  refine rsE_no (fun e => ?_)
  subst e
  rw [h1] at h2
  injection h2 with h2
  subst h2
  rw [rcE2_iff.2 rfl] at h
  cases h
theorem rsE_all {l l2 : List Rc} (hl : l.length = l2.length) (h : ∀ (i : Nat) (x y : Rc), i < l.length → l[i]? = some x → l2[i]? = some y → x = y) : rsE l l2 = true := by
  refine rsE_iff.2 (List.ext_getElem hl (fun i h1 h2 => ?_))
  exact h i _ _ h1 (List.getElem?_eq_getElem h1) (List.getElem?_eq_getElem h2)

set_option maxRecDepth 100000 in
set_option maxHeartbeats 2000000 in
theorem rrecords_any (L L2 : Option Addr) (m m2 c c2 : Nat) (l l2 : List Rc) (S S2 : Nat → Prop) (w : World) (h : RcR w S L m l) (h2 : RcR w S2 L2 m2 l2) (hm : m ≤ 9223372036854775807) (hm2 : m2 ≤ 9223372036854775807) :
    Calls Try.prog 12 #[.slice L m c, .slice L2 m2 c2] w fun e w' => e = .returned (.bool (rsE l l2)) ∧ Chg (fun _ => False) w w' := by
  have HH := Lib.hid h
  have HH2 := Lib.hid h2
  have HL := Lib.hid h.1
  have HL2 := Lib.hid h2.1
  clear h h2
  by_cases hmm : m = m2
  case neg =>
    have hR := Lib.hid (show rsE l l2 = false from rsE_no (fun e => hmm (by rw [HL.out, HL2.out, e])))
    have tm : ((m : Int) == (m2 : Int)) = false := by simp; omega
    have sm : ((m : Int) != (m2 : Int)) = true := by simp; omega
    go_enter Try.func12, Try.ntmps12
    go_wp2_with fail
    go_ret
    exact ⟨ret_b hR.out.symm, Chg.refl _ _⟩
  subst hmm
  go_enter Try.func12, Try.ntmps12
  go_wp2_with fail
  go_loopg [5] m (fun g i wr => ∃ (j : Nat), g = m - j ∧ j ≤ m ∧ i = .int .i64 (j : Int) ∧ Hid (∀ (i : Nat) (x y : Rc), i < j → l[i]? = some x → l2[i]? = some y → x = y) ∧ Hid (Chg (fun _ => False) w wr))
  case atStart => exact ⟨0, rfl, Nat.zero_le _, rfl, fun i x y hi => absurd hi (by omega), Chg.refl _ _⟩
  case round =>
    obtain ⟨j, rfl, hj, rfl, HA, HX⟩ := hrel
    by_cases hlt : j < m
    · have hh := HH.out.chg HX.out (fun _ _ => id)
      have hh2 := HH2.out.chg HX.out (fun _ _ => id)
      obtain ⟨ad, rfl, _, _, _⟩ := hh.2 (by omega)
      obtain ⟨ad2, rfl, _, _, _⟩ := hh2.2 (by omega)
      have hjl : j < l.length := by have := HL.out; omega
      have hjl2 : j < l2.length := by have := HL2.out; omega
      have hx : l[j]? = some l[j] := List.getElem?_eq_getElem hjl
      have hy : l2[j]? = some l2[j] := List.getElem?_eq_getElem hjl2
      generalize l[j] = x at *
      generalize l2[j] = y at *
      obtain ⟨z0, z1, z2, z3, z4, z5⟩ := hh.at hx
      obtain ⟨u0, u1, u2, u3, u4, u5⟩ := hh2.at hy
      have hne := fun W => neRec W x.pr x.sr x.ds x.sp x.dp x.un y.pr y.sr y.ds y.sp y.dp y.un
      have hr : rcE x.pr x.sr x.ds x.sp x.dp x.un y.pr y.sr y.ds y.sp y.dp y.un = rcE2 x y := rfl
      rw [hr] at hne
      clear hr
      have HJ := Lib.hid hx
      have HJ2 := Lib.hid hy
      clear hx hy hh hh2
      cases hb : rcE2 x y with
      | false =>
        rw [hb] at hne
        have hR := Lib.hid (rsE_at HJ.out HJ2.out hb)
        clear hb
        go_wp2_with fail
        go_quiet (fail)
        have HX := Lib.hid (HX.out.drewN nq)
        go_wp2_with fail
        go_ret
        exact ⟨ret_b hR.out.symm, HX.out⟩
      | true =>
        rw [hb] at hne
        have HE := Lib.hid (rcE2_iff.1 hb)
        clear hb
        go_wp2_with fail
        go_quiet (fail)
        have HX := Lib.hid (HX.out.drewN nq)
        go_wp2_with fail
        go_roundg (m - (j + 1))
        case measure => omega
        case rel =>
          refine ⟨j + 1, rfl, by omega, by go_num, fun i x' y' hi hx' hy' => ?_, HX.out⟩
          by_cases e : i < j
          · exact HA.out i x' y' e hx' hy'
          · have : i = j := by omega
            subst this
            have k1 := HJ.out
            have k2 := HJ2.out
            rw [hx'] at k1
            rw [hy'] at k2
            injection k1 with k1
            injection k2 with k2
            rw [k1, k2]
            exact HE.out
    · have hjm : m = j := by omega
      have hR := Lib.hid (show rsE l l2 = true from rsE_all (by rw [← HL.out, ← HL2.out]) (fun i x y hi => HA.out i x y (by have := HL.out; omega)))
      subst hjm
      go_wp2_with fail
      go_ret
      exact ⟨ret_b hR.out.symm, HX.out⟩

/-- Have two messages the same? -/
def msS (kd po ma ow ta ol ge ph ve si pt vr : Int) (l : List Rc) (kd2 po2 ma2 ow2 ta2 ol2 ge2 ph2 ve2 si2 pt2 vr2 : Int) (l2 : List Rc) : Bool := kd == kd2 && (rvE po ma ow ta ol ge ph ve si po2 ma2 ow2 ta2 ol2 ge2 ph2 ve2 si2 && (pt == pt2 && (vr == vr2 && rsE l l2)))
theorem msS_iff {kd po ma ow ta ol ge ph ve si pt vr : Int} {l : List Rc} {kd2 po2 ma2 ow2 ta2 ol2 ge2 ph2 ve2 si2 pt2 vr2 : Int} {l2 : List Rc} : msS kd po ma ow ta ol ge ph ve si pt vr l kd2 po2 ma2 ow2 ta2 ol2 ge2 ph2 ve2 si2 pt2 vr2 l2 = true ↔ (kd = kd2 ∧ po = po2 ∧ ma = ma2 ∧ ow = ow2 ∧ ta = ta2 ∧ ol = ol2 ∧ ge = ge2 ∧ ph = ph2 ∧ ve = ve2 ∧ si = si2 ∧ pt = pt2 ∧ vr = vr2 ∧ l = l2) := by
  unfold msS rvE
  simp only [Bool.and_eq_true, beq_iff_eq, rsE_iff, and_assoc]
theorem msS_refl (kd po ma ow ta ol ge ph ve si pt vr : Int) (l : List Rc) : msS kd po ma ow ta ol ge ph ve si pt vr l kd po ma ow ta ol ge ph ve si pt vr l = true := msS_iff.2 ⟨rfl, rfl, rfl, rfl, rfl, rfl, rfl, rfl, rfl, rfl, rfl, rfl, rfl⟩

end Go.Proofs.Ytclikcbgeolngaa
