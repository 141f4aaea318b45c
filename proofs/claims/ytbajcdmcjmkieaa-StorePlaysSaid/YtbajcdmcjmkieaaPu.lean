/-
  Walk: rutterlaw10.step. Conditions: both stores, and the act, lie in memory; it has no more than 60 changes.
-/
import Derived.Test.YtbajcdmcjmkieaaPq
import Derived.Test.YtbajcdmcjmkieaaPr
import Derived.Test.YtbajcdmcjmkieaaPh
import Derived.Test.YtbajcdmcjmkieaaPj
namespace Go.Proofs.Ytbajcdmcjmkieaa
open Go.RowKit
set_option linter.unusedVariables false
set_option linter.unusedSimpArgs false

def stC10 (C : Int → Bool) (R : Int → Option RV) (x : At10) : Int → Bool := if x.k % 8 < 2 then addK C x.who else if x.k % 8 = 2 then remK C R x.who else C
def stR10 (C : Int → Bool) (R : Int → Option RV) (x : At10) : Int → Option RV := if x.k % 8 < 2 then R else if x.k % 8 = 2 then R else appK C x.l R
theorem WF.appK {C : Int → Bool} {R : Int → Option RV} (h : WF C R) (l : List CV) : WF C (appK C l R) := by
  unfold Go.Proofs.Ytbajcdmcjmkieaa.appK
  split
  · exact WF.app l R h
  · exact h
theorem WF.st {C : Int → Bool} {R : Int → Option RV} (h : WF C R) (x : At10) : WF (stC10 C R x) (stR10 C R x) := by
  unfold stC10 stR10
  split
  · exact h.addK _
  · split
    · exact h.remK _
    · exact h.appK _
/-- What an act on both stores hands back and leaves. -/
def StepP (B p q bc : Nat) (C : Int → Bool) (R : Int → Option RV) (x : At10) (w : World) (e : Ending) (w' : World) : Prop :=
  ∃ br', e = .returned (.bool true) ∧ CS B w' p bc br' (stC10 C R x) (stR10 C R x) ∧ DS w' q (stC10 C R x) (stR10 C R x) ∧ Chg (fun k => B ≤ k) w w'
set_option maxRecDepth 20000 in
set_option maxHeartbeats 1000000 in
theorem step10_any {B : Nat} {w : World} {p q bc br : Nat} {C : Int → Bool} {R : Int → Option RV} (hs : CS B w p bc br C R) (hd : DS w q C R) (hw : WF C R) (hq : B ≤ q) (x : At10) (hk : 0 ≤ x.k ∧ x.k ≤ 255) (hx : SR 10 CV.cs w (fun k => k < B) x.A x.n x.l) (hn : x.n ≤ 60) : Calls Try.prog 8 #[.pointer (some ⟨p, 0, none⟩), .pointer (some ⟨q, 0, none⟩), .agg #[.int .u8 x.k, .int .i64 x.who, .slice x.A x.n x.c]] w (StepP B p q bc C R x w) := by
  have hap := CS.apart hs hd (by decide)
  have HAP := Lib.hid hap
  have HB := Lib.hid (show B ≤ p ∧ B ≤ bc ∧ B ≤ br ∧ B ≤ w.heap.size ∧ bc < w.heap.size ∧ p < w.heap.size ∧ q < w.heap.size from ⟨hs.bp, hs.bbc, hs.bbr, Nat.le_of_lt (Nat.lt_of_le_of_lt hs.bp hs.blk.lt), hs.ch.lt, hs.blk.lt, Blk.lt hd⟩)
  have HQ : Blk (w.alloc (.cells #[.int .u8 x.k, .int .i64 x.who, .slice x.A x.n x.c] 40)) w.heap.size 40 #[.int .u8 x.k, .int .i64 x.who, .slice x.A x.n x.c] := blk_new rfl
  replace HQ := Lib.hid HQ
  have HX0 := Lib.hid ((Chg.refl (fun k => B ≤ k) w).alloc (.cells #[.int .u8 x.k, .int .i64 x.who, .slice x.A x.n x.c] 40))
  have HC0 := ((Chg.refl (fun _ => False) w).alloc (.cells #[.int .u8 x.k, .int .i64 x.who, .slice x.A x.n x.c] 40))
  have HS := Lib.hid (hs.keep HC0)
  have HD := Lib.hid (DS.keep hd HC0)
  have HL := Lib.hid (hx.chg HC0 (fun _ _ => id))
  have HW := Lib.hid hw
  clear hs hd hx HC0 hap hw
  have HCEL : Hid (∀ W, Blk W w.heap.size 40 #[.int .u8 x.k, .int .i64 x.who, .slice x.A x.n x.c] → (W.cell? ⟨w.heap.size, 0, none⟩ = some (.int .u8 x.k) ∧ W.cell? ⟨w.heap.size, 1, none⟩ = some (.int .i64 x.who) ∧ W.cell? ⟨w.heap.size, 2, none⟩ = some (.slice x.A x.n x.c))) := Lib.hid (fun W hW => by
    have x0 := hW.cell 0
    have x1 := hW.cell 1
    have x2 := hW.cell 2
    simp only [List.getElem?_toArray, List.getElem?_cons_zero, List.getElem?_cons_succ] at x0 x1 x2
    exact ⟨x0, x1, x2⟩)
  by_cases h1 : x.k % 8 < 2
  case pos =>
    have HV := Lib.hid (show stC10 C R x = addK C x.who ∧ stR10 C R x = R from ⟨by unfold stC10; rw [if_pos h1], by unfold stR10; rw [if_pos h1]⟩)
    go_enter Try.func8, Try.ntmps8
    go_upto_region 1 with fail
    generalize (w.alloc (.cells #[.int .u8 x.k, .int .i64 x.who, .slice x.A x.n x.c] 40)) = w1 at *
    obtain ⟨y0, y1, y2⟩ := HCEL.out _ HQ.out
    go_wp2_with fail
    refine (sadd_any HS.out x.who).mono ?_
    rintro e w2 ⟨rfl, hcs, hc⟩
    have hb := HB.out
    have hapo := HAP.out
    replace HX0 := Lib.hid (HX0.out.trans hc (fun k _ e => by subst e; exact hb.2.1))
    replace HQ := Lib.hid (HQ.out.chg hc (by omega))
    replace HD := Lib.hid (HD.out.chg hc hapo.2.1)
    replace HS := Lib.hid hcs
    clear hc hcs y0 y1 y2
    obtain ⟨y0, y1, y2⟩ := HCEL.out _ HQ.out
    go_wp2_with fail
    refine (dsadd_any HD.out HW.out x.who).mono ?_
    rintro e w3 ⟨rfl, hds, hc⟩
    replace HX0 := Lib.hid (HX0.out.trans hc (fun k _ e => by subst e; exact hq))
    replace HS := Lib.hid (HS.out.chg hc (fun e => hapo.1 e.symm) (fun e => hapo.2.1 e.symm) (fun e => hapo.2.2 e.symm))
    replace HD := Lib.hid hds
    clear hc hds y0 y1 y2
    generalize addP C x.who = v at *
    go_wp2_with fail
    go_ret
    exact ⟨br, ret_b (by simp), by rw [HV.out.1, HV.out.2]; exact HS.out, by rw [HV.out.1, HV.out.2]; exact HD.out, HX0.out⟩
  case neg =>
    by_cases h2 : x.k % 8 = 2
    case pos =>
      have t2 : (x.k % 8 == 2) = true := by simpa using h2
      have HV := Lib.hid (show stC10 C R x = remK C R x.who ∧ stR10 C R x = R from ⟨by unfold stC10; rw [if_neg h1, if_pos h2], by unfold stR10; rw [if_neg h1, if_pos h2]⟩)
      go_enter Try.func8, Try.ntmps8
      go_upto_region 1 with fail
      generalize (w.alloc (.cells #[.int .u8 x.k, .int .i64 x.who, .slice x.A x.n x.c] 40)) = w1 at *
      obtain ⟨y0, y1, y2⟩ := HCEL.out _ HQ.out
      go_wp2_with fail
      refine (srem_any HS.out x.who).mono ?_
      rintro e w2 ⟨rfl, hcs, hc⟩
      have hb := HB.out
      have hapo := HAP.out
      replace HX0 := Lib.hid (HX0.out.trans hc (fun k _ e => by subst e; exact hb.2.1))
      replace HQ := Lib.hid (HQ.out.chg hc (by omega))
      replace HD := Lib.hid (HD.out.chg hc hapo.2.1)
      replace HS := Lib.hid hcs
      clear hc hcs y0 y1 y2
      obtain ⟨y0, y1, y2⟩ := HCEL.out _ HQ.out
      go_wp2_with fail
      refine (dsrem_any HD.out HW.out x.who).mono ?_
      rintro e w3 ⟨rfl, hds, hc⟩
      replace HX0 := Lib.hid (HX0.out.trans hc (fun k _ e => by subst e; exact hq))
      replace HS := Lib.hid (HS.out.chg hc (fun e => hapo.1 e.symm) (fun e => hapo.2.1 e.symm) (fun e => hapo.2.2 e.symm))
      replace HD := Lib.hid hds
      clear hc hds y0 y1 y2
      generalize remP C R x.who = v at *
      go_wp2_with fail
      go_ret
      exact ⟨br, ret_b (by simp), by rw [HV.out.1, HV.out.2]; exact HS.out, by rw [HV.out.1, HV.out.2]; exact HD.out, HX0.out⟩
    case neg =>
      have t2 : (x.k % 8 == 2) = false := by simpa using h2
      have HV := Lib.hid (show stC10 C R x = C ∧ stR10 C R x = appK C x.l R from ⟨by unfold stC10; rw [if_neg h1, if_neg h2], by unfold stR10; rw [if_neg h1, if_neg h2]⟩)
      go_enter Try.func8, Try.ntmps8
      go_upto_region 1 with fail
      generalize (w.alloc (.cells #[.int .u8 x.k, .int .i64 x.who, .slice x.A x.n x.c] 40)) = w1 at *
      obtain ⟨y0, y1, y2⟩ := HCEL.out _ HQ.out
      go_wp2_with fail
      refine (sapply_any HS.out x.A x.n x.c x.l _ HL.out (by omega)).mono ?_
      rintro e w2 ⟨br2, rfl, hcs, hc⟩
      have hb := HB.out
      have hapo := HAP.out
      replace HX0 := Lib.hid (HX0.out.trans hc (fun k _ e => by subst e; exact hb.1))
      replace HQ := Lib.hid (HQ.out.chg hc (by omega))
      replace HD := Lib.hid (HD.out.chg hc hapo.1)
      replace HL := Lib.hid (HL.out.chg hc (fun k hk => by omega))
      replace HS := Lib.hid hcs
      clear hc hcs y0 y1 y2
      obtain ⟨y0, y1, y2⟩ := HCEL.out _ HQ.out
      go_wp2_with fail
      refine (of10_any x.A x.n x.c x.l _ w2 HL.out (by omega)).mono ?_
      rintro e w3 ⟨OA, on, oc, rfl, hon, hown, hc⟩
      replace HX0 := Lib.hid (HX0.out.trans hc (fun k _ e => e.elim))
      replace HD := Lib.hid (HD.out.keep hc)
      replace HS := Lib.hid (HS.out.keep hc)
      have HO := Lib.hid (own_sr cv_size hown hon)
      have HON := Lib.hid (show on ≤ 9223372036854775807 by have h1 : x.n = x.l.length := HL.out.1; omega)
      clear hc hown hon y0 y1 y2
      go_wp2_with fail
      refine (dsapply_any HD.out HW.out OA on oc x.l _ HO.out HON.out).mono ?_
      rintro e w4 ⟨rfl, hds, hc⟩
      have hap2 := CS.apart HS.out HD.out (by decide)
      replace HX0 := Lib.hid (HX0.out.trans hc (fun k _ e => by subst e; exact hq))
      replace HS := Lib.hid (HS.out.chg hc (fun e => hap2.1 e.symm) (fun e => hap2.2.1 e.symm) (fun e => hap2.2.2 e.symm))
      replace HD := Lib.hid hds
      clear hc hds
      generalize (appP C x.l R).1 = v at *
      go_wp2_with fail
      go_ret
      exact ⟨br2, ret_b (by simp), by rw [HV.out.1, HV.out.2]; exact HS.out, by rw [HV.out.1, HV.out.2]; exact HD.out, HX0.out⟩


end Go.Proofs.Ytbajcdmcjmkieaa
