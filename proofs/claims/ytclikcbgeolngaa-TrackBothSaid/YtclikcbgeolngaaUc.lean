/-
  Rows and records compared; may a message be? Walk: control.Right. Conditions: the records are read in memory.
-/
import Derived.Test.YtclikcbgeolngaaUb
namespace Go.Proofs.Ytclikcbgeolngaa
open Go.RowKit
set_option linter.unusedVariables false

def rvE (po ma ow ta ol ge ph ve si po2 ma2 ow2 ta2 ol2 ge2 ph2 ve2 si2 : Int) : Bool := po == po2 && (ma == ma2 && (ow == ow2 && (ta == ta2 && (ol == ol2 && (ge == ge2 && (ph == ph2 && (ve == ve2 && si == si2)))))))
def rcE (pr sr ds sp dp un pr2 sr2 ds2 sp2 dp2 un2 : Int) : Bool := pr == pr2 && (sr == sr2 && (ds == ds2 && (sp == sp2 && (dp == dp2 && un == un2))))
theorem stRec : Try.prog.underlying 48 = some (.struct (Try.prog.fieldsOf 48)) := by kernel_rfl
theorem hpRec : Try.prog.stoodInHeld 48 = false := by kernel_rfl
theorem neRec (W : World) (pr sr ds sp dp un pr2 sr2 ds2 sp2 dp2 un2 : Int) : (binOp .neq 48 (.agg #[.int .i64 pr, .int .u32 sr, .int .u32 ds, .int .i64 sp, .int .i64 dp, .int .i64 un]) (.agg #[.int .i64 pr2, .int .u32 sr2, .int .u32 ds2, .int .i64 sp2, .int .i64 dp2, .int .i64 un2])).run Try.prog W = .ok (.bool (!rcE pr sr ds sp dp un pr2 sr2 ds2 sp2 dp2 un2)) W := by
  rw [run_neq_struct, show (10000 : Nat) = 9999 + 1 from rfl, run_equalIn_agg W 9999 48 _ _ stRec hpRec]
  unfold rcE
  go_simp
  by_cases h0 : pr = pr2
  case neg => simp [h0]
  subst h0
  by_cases h1 : sr = sr2
  case neg => simp [h1]
  subst h1
  by_cases h2 : ds = ds2
  case neg => simp [h2]
  subst h2
  by_cases h3 : sp = sp2
  case neg => simp [h3]
  subst h3
  by_cases h4 : dp = dp2
  case neg => simp [h4]
  subst h4
  by_cases h5 : un = un2
  case neg => simp [h5]
  subst h5
  simp

/-- May a message be? -/
def msR (kd po ma ow ta ol ge ph ve si pt vr : Int) (l : List Rc) : Bool :=
  if kd = 1 then rwR po ma ow ta ol ge ph ve si && (pt == 0 && (vr == 0 && l.length == 0))
  else if kd = 2 then rvE po ma ow ta ol ge ph ve si 0 0 0 0 0 0 0 0 0 && (namedB pt vr && l.length == 0)
  else if kd = 3 then rvE po ma ow ta ol ge ph ve si 0 0 0 0 0 0 0 0 0 && (namedB pt vr && keptB l)
  else false
theorem len0 (n : Nat) : (n == 0) = ((n : Int) == 0) := by
  by_cases h : n = 0
  · subst h; rfl
  · have h2 : (n == 0) = false := by simpa using h
    have h3 : ((n : Int) == 0) = false := by simp; omega
    rw [h2, h3]

end Go.Proofs.Ytclikcbgeolngaa
