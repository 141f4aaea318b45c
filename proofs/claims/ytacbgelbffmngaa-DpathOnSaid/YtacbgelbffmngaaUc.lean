/-
  Rows and records compared; may a message be? Walk: control.Right. Conditions: the records are read in memory.
-/
import Derived.Test.YtacbgelbffmngaaUb
namespace Go.Proofs.Ytacbgelbffmngaa
open Go.RowKit
set_option linter.unusedVariables false

def rvE (po ma ow ta ol ge ph ve si po2 ma2 ow2 ta2 ol2 ge2 ph2 ve2 si2 : Int) : Bool := po == po2 && (ma == ma2 && (ow == ow2 && (ta == ta2 && (ol == ol2 && (ge == ge2 && (ph == ph2 && (ve == ve2 && si == si2)))))))
def rcE (pr sr ds sp dp un pr2 sr2 ds2 sp2 dp2 un2 : Int) : Bool := pr == pr2 && (sr == sr2 && (ds == ds2 && (sp == sp2 && (dp == dp2 && un == un2))))
theorem stRow : Try.prog.underlying 65 = some (.struct (Try.prog.fieldsOf 65)) := by kernel_rfl
theorem hpRow : Try.prog.stoodInHeld 65 = false := by kernel_rfl
theorem eqRow (W : World) (po ma ow ta ol ge ph ve si po2 ma2 ow2 ta2 ol2 ge2 ph2 ve2 si2 : Int) : (binOp .eql 65 (.agg #[.int .i64 po, .int .u64 ma, .int .i64 ow, .int .i64 ta, .int .i64 ol, .int .i64 ge, .int .i64 ph, .int .i64 ve, .int .i64 si]) (.agg #[.int .i64 po2, .int .u64 ma2, .int .i64 ow2, .int .i64 ta2, .int .i64 ol2, .int .i64 ge2, .int .i64 ph2, .int .i64 ve2, .int .i64 si2])).run Try.prog W = .ok (.bool (rvE po ma ow ta ol ge ph ve si po2 ma2 ow2 ta2 ol2 ge2 ph2 ve2 si2)) W := by
  rw [run_eql_struct, show (10000 : Nat) = 9999 + 1 from rfl, run_equalIn_agg W 9999 65 _ _ stRow hpRow]
  unfold rvE
  go_simp
  by_cases h0 : po = po2
  case neg => simp [h0]
  subst h0
  by_cases h1 : ma = ma2
  case neg => simp [h1]
  subst h1
  by_cases h2 : ow = ow2
  case neg => simp [h2]
  subst h2
  by_cases h3 : ta = ta2
  case neg => simp [h3]
  subst h3
  by_cases h4 : ol = ol2
  case neg => simp [h4]
  subst h4
  by_cases h5 : ge = ge2
  case neg => simp [h5]
  subst h5
  by_cases h6 : ph = ph2
  case neg => simp [h6]
  subst h6
  by_cases h7 : ve = ve2
  case neg => simp [h7]
  subst h7
  by_cases h8 : si = si2
  case neg => simp [h8]
  subst h8
  simp
/-- May a message be? -/
def msR (kd po ma ow ta ol ge ph ve si pt vr : Int) (l : List Rc) : Bool :=
  if kd = 1 then rwR po ma ow ta ol ge ph ve si && (pt == 0 && (vr == 0 && l.length == 0))
  else if kd = 2 then rvE po ma ow ta ol ge ph ve si 0 0 0 0 0 0 0 0 0 && (namedB pt vr && l.length == 0)
  else if kd = 3 then rvE po ma ow ta ol ge ph ve si 0 0 0 0 0 0 0 0 0 && (namedB pt vr && keptB l)
  else false
theorem len0 (n : Nat) : (n == 0) = ((n : Int) == 0) := by
  by_cases h : n = 0
  · subst h; rfl
  · have h2 : (n == 0) = false := by simpa using h
    have h3 : ((n : Int) == 0) = false := by simp; omega
    rw [h2, h3]

end Go.Proofs.Ytacbgelbffmngaa
