/-
  Rows and records compared; may a message be? Walk: control.Right. Conditions: the records are read in memory.
-/
import Derived.Test.YtalfbijcjghemaaUb
namespace Go.Proofs.Ytalfbijcjghemaa
open Go.RowKit
set_option linter.unusedVariables false

def rvE (po ma ow ta ol ge ph ve si po2 ma2 ow2 ta2 ol2 ge2 ph2 ve2 si2 : Int) : Bool := po == po2 && (ma == ma2 && (ow == ow2 && (ta == ta2 && (ol == ol2 && (ge == ge2 && (ph == ph2 && (ve == ve2 && si == si2)))))))
def rcE (pr sr ds sp dp un pr2 sr2 ds2 sp2 dp2 un2 : Int) : Bool := pr == pr2 && (sr == sr2 && (ds == ds2 && (sp == sp2 && (dp == dp2 && un == un2))))
theorem stRow : Try.prog.underlying 25 = some (.struct (Try.prog.fieldsOf 25)) := by kernel_rfl
theorem hpRow : Try.prog.stoodInHeld 25 = false := by kernel_rfl
theorem stRec : Try.prog.underlying 46 = some (.struct (Try.prog.fieldsOf 46)) := by kernel_rfl
theorem hpRec : Try.prog.stoodInHeld 46 = false := by kernel_rfl
theorem eqRow (W : World) (po ma ow ta ol ge ph ve si po2 ma2 ow2 ta2 ol2 ge2 ph2 ve2 si2 : Int) : (binOp .eql 25 (.agg #[.int .i64 po, .int .u64 ma, .int .i64 ow, .int .i64 ta, .int .i64 ol, .int .i64 ge, .int .i64 ph, .int .i64 ve, .int .i64 si]) (.agg #[.int .i64 po2, .int .u64 ma2, .int .i64 ow2, .int .i64 ta2, .int .i64 ol2, .int .i64 ge2, .int .i64 ph2, .int .i64 ve2, .int .i64 si2])).run Try.prog W = .ok (.bool (rvE po ma ow ta ol ge ph ve si po2 ma2 ow2 ta2 ol2 ge2 ph2 ve2 si2)) W := by
  rw [run_eql_struct, show (10000 : Nat) = 9999 + 1 from rfl, run_equalIn_agg W 9999 25 _ _ stRow hpRow]
  unfold rvE
  go_simp
  by_cases h0 : po = po2
  case neg => simp [h0]
  subst h0
  by_cases h1 : ma = ma2
  case neg => simp [h1]
  subst h1
  by_cases h2 : ow = ow2
  case neg => simp [h2]
  subst h2
  by_cases h3 : ta = ta2
  case neg => simp [h3]
  subst h3
  by_cases h4 : ol = ol2
  case neg => simp [h4]
  subst h4
  by_cases h5 : ge = ge2
  case neg => simp [h5]
  subst h5
  by_cases h6 : ph = ph2
  case neg => simp [h6]
  subst h6
  by_cases h7 : ve = ve2
  case neg => simp [h7]
  subst h7
  by_cases h8 : si = si2
  case neg => simp [h8]
  subst h8
  simp
theorem neRec (W : World) (pr sr ds sp dp un pr2 sr2 ds2 sp2 dp2 un2 : Int) : (binOp .neq 46 (.agg #[.int .i64 pr, .int .u32 sr, .int .u32 ds, .int .i64 sp, .int .i64 dp, .int .i64 un]) (.agg #[.int .i64 pr2, .int .u32 sr2, .int .u32 ds2, .int .i64 sp2, .int .i64 dp2, .int .i64 un2])).run Try.prog W = .ok (.bool (!rcE pr sr ds sp dp un pr2 sr2 ds2 sp2 dp2 un2)) W := by
  rw [run_neq_struct, show (10000 : Nat) = 9999 + 1 from rfl, run_equalIn_agg W 9999 46 _ _ stRec hpRec]
  unfold rcE
  go_simp
  by_cases h0 : pr = pr2
  case neg => simp [h0]
  subst h0
  by_cases h1 : sr = sr2
  case neg => simp [h1]
  subst h1
  by_cases h2 : ds = ds2
  case neg => simp [h2]
  subst h2
  by_cases h3 : sp = sp2
  case neg => simp [h3]
  subst h3
  by_cases h4 : dp = dp2
  case neg => simp [h4]
  subst h4
  by_cases h5 : un = un2
  case neg => simp [h5]
  subst h5
  simp

/-- May a message be? -/
def msR (kd po ma ow ta ol ge ph ve si pt vr : Int) (l : List Rc) : Bool :=
  if kd = 1 then rwR po ma ow ta ol ge ph ve si && (pt == 0 && (vr == 0 && l.length == 0))
  else if kd = 2 then rvE po ma ow ta ol ge ph ve si 0 0 0 0 0 0 0 0 0 && (namedB pt vr && l.length == 0)
  else if kd = 3 then rvE po ma ow ta ol ge ph ve si 0 0 0 0 0 0 0 0 0 && (namedB pt vr && keptB l)
  else false
theorem len0 (n : Nat) : (n == 0) = ((n : Int) == 0) := by
  by_cases h : n = 0
  · subst h; rfl
  · have h2 : (n == 0) = false := by simpa using h
    have h3 : ((n : Int) == 0) = false := by simp; omega
    rw [h2, h3]

set_option maxHeartbeats 4000000 in
theorem cright_any (kd po ma ow ta ol ge ph ve si pt vr : Int) (A : Option Addr) (n c : Nat) (l : List Rc) (S : Nat → Prop) (w : World) (h : RcR w S A n l) (hn2 : n ≤ 9223372036854775807) :
    Calls Try.prog 8 #[.agg (msC kd po ma ow ta ol ge ph ve si pt vr A n c)] w fun e w' => e = .returned (.bool (msR kd po ma ow ta ol ge ph ve si pt vr l)) ∧ Chg (fun _ => False) w w' := by
  have HX := Lib.hid (Chg.refl (fun _ => False) (w.alloc (.cells #[.int .i64 kd, .int .i64 po, .int .u64 ma, .int .i64 ow, .int .i64 ta, .int .i64 ol, .int .i64 ge, .int .i64 ph, .int .i64 ve, .int .i64 si, .int .i64 pt, .int .i64 vr, .slice A n c] 28)))
  have HB0 : Hid (Blk (w.alloc (.cells #[.int .i64 kd, .int .i64 po, .int .u64 ma, .int .i64 ow, .int .i64 ta, .int .i64 ol, .int .i64 ge, .int .i64 ph, .int .i64 ve, .int .i64 si, .int .i64 pt, .int .i64 vr, .slice A n c] 28)) w.heap.size 28 (msC kd po ma ow ta ol ge ph ve si pt vr A n c)) := Lib.hid (blk_new rfl)
  have HC0 := Lib.hid ((Chg.refl (fun _ => False) w).alloc (.cells #[.int .i64 kd, .int .i64 po, .int .u64 ma, .int .i64 ow, .int .i64 ta, .int .i64 ol, .int .i64 ge, .int .i64 ph, .int .i64 ve, .int .i64 si, .int .i64 pt, .int .i64 vr, .slice A n c] 28))
  have HL := Lib.hid h.1
  have HH := Lib.hid h
  have HN2 := Lib.hid hn2
  clear h
  unfold msC
  by_cases h1 : kd = 1
  case pos =>
    subst h1
    have hh : msR 1 po ma ow ta ol ge ph ve si pt vr l = (rwR po ma ow ta ol ge ph ve si && (pt == 0 && (vr == 0 && l.length == 0))) := rfl
    rw [hh, ← HL.out, len0]
    clear hh
    have hr := fun W => crow_any po ma ow ta ol ge ph ve si W
    generalize rwR po ma ow ta ol ge ph ve si = b1 at *
    unfold rvC at hr
    have HR := Lib.hid hr
    clear hr
    cases b1 with
    | false =>
      have hR := Lib.hid (show (false && (pt == 0 && (vr == 0 && (n : Int) == 0))) = false from rfl)
      go_enter Try.func8, Try.ntmps8
      go_wp2_with fail
      refine (HR.out _).mono ?_
      rintro e w1 ⟨rfl, hc'⟩
      have HX := Lib.hid (HX.out.trans hc' (fun _ _ e => e))
      clear hc'
      obtain ⟨y0, y1, y2, y3, y4, y5, y6, y7, y8, y9, y10, y11, y12⟩ := ms_kept HB0.out HX.out
      go_wp2_with fail
      go_ret
      exact ⟨ret_b hR.out.symm, HC0.out.trans HX.out (fun _ _ e => e)⟩
    | true =>
      by_cases hpt : pt = 0
      case neg =>
        have tpt : (pt == 0) = false := by simpa using hpt
        have hR := Lib.hid (show (true && (pt == 0 && (vr == 0 && (n : Int) == 0))) = false by rw [tpt]; rfl)
        clear hpt
        go_enter Try.func8, Try.ntmps8
        go_wp2_with fail
        refine (HR.out _).mono ?_
        rintro e w1 ⟨rfl, hc'⟩
        have HX := Lib.hid (HX.out.trans hc' (fun _ _ e => e))
        clear hc'
        obtain ⟨y0, y1, y2, y3, y4, y5, y6, y7, y8, y9, y10, y11, y12⟩ := ms_kept HB0.out HX.out
        go_wp2_with fail
        go_ret
        exact ⟨ret_b hR.out.symm, HC0.out.trans HX.out (fun _ _ e => e)⟩
      subst hpt
      by_cases hvr : vr = 0
      case neg =>
        have tvr : (vr == 0) = false := by simpa using hvr
        have hR := Lib.hid (show (true && ((0 : Int) == 0 && (vr == 0 && (n : Int) == 0))) = false by rw [tvr]; rfl)
        clear hvr
        go_enter Try.func8, Try.ntmps8
        go_wp2_with fail
        refine (HR.out _).mono ?_
        rintro e w1 ⟨rfl, hc'⟩
        have HX := Lib.hid (HX.out.trans hc' (fun _ _ e => e))
        clear hc'
        obtain ⟨y0, y1, y2, y3, y4, y5, y6, y7, y8, y9, y10, y11, y12⟩ := ms_kept HB0.out HX.out
        go_wp2_with fail
        go_ret
        exact ⟨ret_b hR.out.symm, HC0.out.trans HX.out (fun _ _ e => e)⟩
      subst hvr
      go_enter Try.func8, Try.ntmps8
      go_wp2_with fail
      refine (HR.out _).mono ?_
      rintro e w1 ⟨rfl, hc'⟩
      have HX := Lib.hid (HX.out.trans hc' (fun _ _ e => e))
      clear hc'
      obtain ⟨y0, y1, y2, y3, y4, y5, y6, y7, y8, y9, y10, y11, y12⟩ := ms_kept HB0.out HX.out
      go_wp2_with fail
      go_ret
      exact ⟨ret_b (by simp), HC0.out.trans HX.out (fun _ _ e => e)⟩
  by_cases h2 : kd = 2
  case pos =>
    subst h2
    have hh : msR 2 po ma ow ta ol ge ph ve si pt vr l = (rvE po ma ow ta ol ge ph ve si 0 0 0 0 0 0 0 0 0 && (namedB pt vr && l.length == 0)) := rfl
    rw [hh, ← HL.out, len0]
    clear hh
    have he := fun W => eqRow W po ma ow ta ol ge ph ve si 0 0 0 0 0 0 0 0 0
    generalize rvE po ma ow ta ol ge ph ve si 0 0 0 0 0 0 0 0 0 = b0 at *
    have hn := fun W => named_any pt vr W
    generalize namedB pt vr = b1 at *
    have HN := Lib.hid hn
    clear hn
    cases b0 with
    | false =>
      go_enter Try.func8, Try.ntmps8
      go_wp2_with fail
      go_ret
      exact ⟨rfl, HC0.out.trans HX.out (fun _ _ e => e)⟩
    | true =>
      cases b1 with
      | false =>
        go_enter Try.func8, Try.ntmps8
        go_wp2_with fail
        refine (HN.out _).mono ?_
        rintro e w1 ⟨rfl, hc'⟩
        have HX := Lib.hid (HX.out.trans hc' (fun _ _ e => e))
        clear hc'
        obtain ⟨y0, y1, y2, y3, y4, y5, y6, y7, y8, y9, y10, y11, y12⟩ := ms_kept HB0.out HX.out
        go_wp2_with fail
        go_ret
        exact ⟨rfl, HC0.out.trans HX.out (fun _ _ e => e)⟩
      | true =>
        go_enter Try.func8, Try.ntmps8
        go_wp2_with fail
        refine (HN.out _).mono ?_
        rintro e w1 ⟨rfl, hc'⟩
        have HX := Lib.hid (HX.out.trans hc' (fun _ _ e => e))
        clear hc'
        obtain ⟨y0, y1, y2, y3, y4, y5, y6, y7, y8, y9, y10, y11, y12⟩ := ms_kept HB0.out HX.out
        go_wp2_with fail
        go_ret
        exact ⟨ret_b (by simp), HC0.out.trans HX.out (fun _ _ e => e)⟩
  by_cases h3 : kd = 3
  case pos =>
    subst h3
    have hh : msR 3 po ma ow ta ol ge ph ve si pt vr l = (rvE po ma ow ta ol ge ph ve si 0 0 0 0 0 0 0 0 0 && (namedB pt vr && keptB l)) := rfl
    rw [hh]
    clear hh
    have he := fun W => eqRow W po ma ow ta ol ge ph ve si 0 0 0 0 0 0 0 0 0
    generalize rvE po ma ow ta ol ge ph ve si 0 0 0 0 0 0 0 0 0 = b0 at *
    have hn := fun W => named_any pt vr W
    generalize namedB pt vr = b1 at *
    have HN := Lib.hid hn
    clear hn
    cases b0 with
    | false =>
      go_enter Try.func8, Try.ntmps8
      go_wp2_with fail
      go_ret
      exact ⟨rfl, HC0.out.trans HX.out (fun _ _ e => e)⟩
    | true =>
      cases b1 with
      | false =>
        go_enter Try.func8, Try.ntmps8
        go_wp2_with fail
        refine (HN.out _).mono ?_
        rintro e w1 ⟨rfl, hc'⟩
        have HX := Lib.hid (HX.out.trans hc' (fun _ _ e => e))
        clear hc'
        obtain ⟨y0, y1, y2, y3, y4, y5, y6, y7, y8, y9, y10, y11, y12⟩ := ms_kept HB0.out HX.out
        go_wp2_with fail
        go_ret
        exact ⟨rfl, HC0.out.trans HX.out (fun _ _ e => e)⟩
      | true =>
        have HK := Lib.hid (fun (W : World) (hc : Chg (fun _ => False) (w.alloc (.cells #[.int .i64 3, .int .i64 po, .int .u64 ma, .int .i64 ow, .int .i64 ta, .int .i64 ol, .int .i64 ge, .int .i64 ph, .int .i64 ve, .int .i64 si, .int .i64 pt, .int .i64 vr, .slice A n c] 28)) W) => ckept_any A n c l W S ((HH.out.alloc _).chg hc (fun _ _ => id)) HN2.out)
        generalize keptB l = b2 at *
        go_enter Try.func8, Try.ntmps8
        go_wp2_with fail
        refine (HN.out _).mono ?_
        rintro e w1 ⟨rfl, hc'⟩
        have HX := Lib.hid (HX.out.trans hc' (fun _ _ e => e))
        clear hc'
        obtain ⟨y0, y1, y2, y3, y4, y5, y6, y7, y8, y9, y10, y11, y12⟩ := ms_kept HB0.out HX.out
        go_wp2_with fail
        refine (HK.out _ HX.out).mono ?_
        rintro e w2 ⟨rfl, hc'⟩
        have HX := Lib.hid (HX.out.trans hc' (fun _ _ e => e))
        clear hc'
        go_wp2_with fail
        go_ret
        exact ⟨rfl, HC0.out.trans HX.out (fun _ _ e => e)⟩
  have t1 : (kd == 1) = false := by simpa using h1
  have t2 : (kd == 2) = false := by simpa using h2
  have t3 : (kd == 3) = false := by simpa using h3
  have hR := Lib.hid (show msR kd po ma ow ta ol ge ph ve si pt vr l = false by unfold msR; rw [if_neg h1, if_neg h2, if_neg h3])
  clear h1 h2 h3
  go_enter Try.func8, Try.ntmps8
  go_wp2_with fail
  go_ret
  exact ⟨ret_b hR.out.symm, HC0.out.trans HX.out (fun _ _ e => e)⟩


end Go.Proofs.Ytalfbijcjghemaa
