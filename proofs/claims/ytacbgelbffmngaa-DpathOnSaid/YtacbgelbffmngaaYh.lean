/-
  Walk: rutterlaw13.alive. Actions and entries compared. No condition.
-/
import Derived.Test.YtacbgelbffmngaaYe
import Derived.Deep.RegionHeld3
import Derived.RegionTactic
import Derived.Laws.StructEq
import Derived.BigQuiet
namespace Go.Proofs.Ytacbgelbffmngaa
open Go.RowKit
set_option linter.unusedVariables false
set_option linter.unusedSimpArgs false

/-- Are two actions the same? -/
def acE13 (a b c d a2 b2 c2 d2 : Int) : Bool := (a == a2) && ((b == b2) && ((c == c2) && (d == d2)))
theorem acE13_refl (a b c d : Int) : acE13 a b c d a b c d = true := by simp [acE13]
theorem stAc13 : Try.prog.underlying 68 = some (.struct (Try.prog.fieldsOf 68)) := by kernel_rfl
theorem hpAc13 : Try.prog.stoodInHeld 68 = false := by kernel_rfl
theorem eqAc13 (W : World) (a b c d a2 b2 c2 d2 : Int) : (binOp .eql 68 (.agg #[.int .i64 a, .int .i64 b, .int .i64 c, .int .i64 d]) (.agg #[.int .i64 a2, .int .i64 b2, .int .i64 c2, .int .i64 d2])).run Try.prog W = .ok (.bool (acE13 a b c d a2 b2 c2 d2)) W := by
  rw [run_eql_struct, show (10000 : Nat) = 9999 + 1 from rfl, run_equalIn_agg W 9999 68 _ _ stAc13 hpAc13]
  unfold acE13
  go_simp
  by_cases h0 : a = a2
  case neg => simp [h0]
  subst h0
  by_cases h1 : b = b2
  case neg => simp [h1]
  subst h1
  by_cases h2 : c = c2
  case neg => simp [h2]
  subst h2
  by_cases h3 : d = d2
  case neg => simp [h3]
  subst h3
  simp
theorem enr_blk13 {w : World} {g : Nat} {T : TypeId} {l : List En} (h : Blk w g T (enF l).toArray) : EnR w (some ⟨g, 0, none⟩) l.length l := by
  refine ⟨rfl, fun _ => ⟨⟨g, 0, none⟩, rfl, h.lt, fun i x hi j u hu => ?_⟩⟩
  have hj : j < 11 := (Array.getElem?_eq_some_iff.1 hu).1
  have e : (⟨g, 0, none⟩ : Addr).add (i * 11 + j) = ⟨g, i * 11 + j, none⟩ := by unfold Addr.add; split <;> simp_all
  rw [e, h.cell]
  have h2 := enF_at l i x hi j hj
  rw [hu] at h2
  simpa using h2
theorem alook13 {w : World} {p : Nat} (h : TF w p [(⟨1, 3, 7, 2, 0, 9, -2, 1, 2, 0, 0⟩ : En), (⟨5, 2, 0, 2, 0, 4, 3, 2, 0, 6, 0⟩ : En)]) (k : Ky) (o : Option En) (hk : lk13 k [(⟨1, 3, 7, 2, 0, 9, -2, 1, 2, 0, 0⟩ : En), (⟨5, 2, 0, 2, 0, 4, 3, 2, 0, 6, 0⟩ : En)] = o) : Calls Try.prog 39 #[.pointer (some ⟨p, 0, none⟩), .agg k.cs] w (LkP13 o w) := by
  obtain ⟨k0, k1, k2, k3, k4⟩ := k
  have h2 := flook13_any h (by simp) k0 k1 k2 k3 k4
  rw [hk] at h2
  exact h2
end Go.Proofs.Ytacbgelbffmngaa
