/-
  Plain functions of a datagram that is parsed, and lemmas on them. No condition.
-/
import Derived.Test.YtecnicbicbgapaaDoorKd
import Derived.Test.YtecnicbicbgapaaDoorKe
namespace Go.Proofs.YtecnicbicbgapaaDoor
open Go.RowKit
set_option linter.unusedVariables false

theorem nAt_take (b : List UInt8) (m i k : Nat) (h : i + k ≤ m) : nAt (b.take m) i k = nAt b i k := by
  unfold nAt
  rw [List.drop_take, List.take_take, Nat.min_eq_left (by omega)]
/-- Are the first 4 bytes, and how many there are, a datagram's? -/
def okF (b : List UInt8) : Bool := nAt b 0 1 == 69 && nAt b 2 2 == (b.length : Int)
/-- What becomes of bytes: the error's number. -/
def parC (b : List UInt8) : Int :=
  if decide (24 ≤ b.length) && okF b then (if chkB (b.take 20) == 0 then (if nAt b 9 1 == 6 || nAt b 9 1 == 17 then 0 else 14) else 6) else 2
def pN (b : List UInt8) (i k : Nat) : Int := if parC b = 0 then nAt b i k else 0
def pB (b : List UInt8) : List UInt8 := if parC b = 0 then b.drop 24 else []
/-- What is handed back of bytes. -/
def Parsed (b : List UInt8) (w : World) (e : Ending) (w' : World) : Prop :=
  ∃ A k c, e = .returned (.tuple #[.agg (flC (pN b 9 1) (pN b 12 4) (pN b 16 4) (pN b 20 2) (pN b 22 2)), .slice A k c, .int .i64 (parC b)]) ∧ k = (pB b).length ∧ Rds w' (fun j => w.heap.size ≤ j) A k (bcs (pB b)) ∧ Chg (fun _ => False) w w'
theorem parsed_no {b : List UInt8} {w w' : World} {e : Ending} {x : Int} (hx : parC b = x) (h0 : x ≠ 0) (he : e = .returned (.tuple #[.agg #[.int .i64 0, .int .u32 0, .int .u32 0, .int .i64 0, .int .i64 0], .slice none 0 0, .int .i64 x])) (hc : Chg (fun _ => False) w w') : Parsed b w e w' := by
  have e1 : ∀ i k, pN b i k = 0 := fun i k => by unfold pN; rw [if_neg (by rw [hx]; exact h0)]
  have e2 : pB b = [] := by unfold pB; rw [if_neg (by rw [hx]; exact h0)]
  refine ⟨none, 0, 0, ?_, by rw [e2]; rfl, by rw [e2]; exact Rds.nil _ _ _, hc⟩
  rw [e1, e1, e1, e1, e1, hx]
  exact he
theorem parsed_yes {b : List UInt8} {w w' : World} {e : Ending} {A : Option Addr} {k c : Nat} (hx : parC b = 0) (he : e = .returned (.tuple #[.agg #[.int .i64 (nAt b 9 1), .int .u32 (nAt b 12 4), .int .u32 (nAt b 16 4), .int .i64 (nAt b 20 2), .int .i64 (nAt b 22 2)], .slice A k c, .int .i64 0]))
    (hk : k = b.length - 24) (hr : Rds w' (fun j => w.heap.size ≤ j) A k (bcs (b.drop 24))) (hc : Chg (fun _ => False) w w') : Parsed b w e w' := by
  have e1 : ∀ i k, pN b i k = nAt b i k := fun i k => by unfold pN; rw [if_pos hx]
  have e2 : pB b = b.drop 24 := by unfold pB; rw [if_pos hx]
  refine ⟨A, k, c, ?_, by rw [e2, List.length_drop, hk], by rw [e2]; exact hr, hc⟩
  rw [e1, e1, e1, e1, e1, hx]
  exact he
theorem parC_short {b : List UInt8} (h : b.length < 24) : parC b = 2 := by
  unfold parC
  have : decide (24 ≤ b.length) = false := by simpa using h
  rw [this]
  rfl
theorem parC_form {b : List UInt8} (h : okF b = false) : parC b = 2 := by
  unfold parC
  rw [h, Bool.and_false]
  rfl
theorem parC_sum {b : List UInt8} (hl : 24 ≤ b.length) (h : okF b = true) (h2 : (chkB (b.take 20) == 0) = false) : parC b = 6 := by
  unfold parC
  have : decide (24 ≤ b.length) = true := by simpa using hl
  rw [this, h, h2]
  rfl
theorem parC_kind {b : List UInt8} (hl : 24 ≤ b.length) (h : okF b = true) (h2 : (chkB (b.take 20) == 0) = true) (h3 : (nAt b 9 1 == 6 || nAt b 9 1 == 17) = false) : parC b = 14 := by
  unfold parC
  have : decide (24 ≤ b.length) = true := by simpa using hl
  rw [this, h, h2, h3]
  rfl
theorem parC_ok {b : List UInt8} (hl : 24 ≤ b.length) (h : okF b = true) (h2 : (chkB (b.take 20) == 0) = true) (h3 : (nAt b 9 1 == 6 || nAt b 9 1 == 17) = true) : parC b = 0 := by
  unfold parC
  have : decide (24 ≤ b.length) = true := by simpa using hl
  rw [this, h, h2, h3]
  rfl
theorem nAt_one (b : List UInt8) (i : Nat) (h : i < b.length) : nAt b i 1 = ((b[i]).toNat : Int) := by
  unfold nAt
  rw [List.drop_eq_getElem_cons h]
  show ((256 * 0 + (b[i]).toNat : Nat) : Int) = _
  omega
theorem nAt_two (b : List UInt8) (i : Nat) (h : i + 1 < b.length) : nAt b i 2 = 256 * ((b[i]).toNat : Int) + ((b[i + 1]).toNat : Int) := by
  unfold nAt
  rw [List.drop_eq_getElem_cons (by omega), List.drop_eq_getElem_cons h]
  show ((256 * (256 * 0 + (b[i]).toNat) + (b[i + 1]).toNat : Nat) : Int) = _
  omega

/-- A flow's datagram is parsed to it. -/
theorem dg_parse (pr src dst sp dp : Int) (l : List UInt8) (hr : flR pr sp dp = true) (hs : 0 ≤ src ∧ src ≤ 4294967295) (hd : 0 ≤ dst ∧ dst ≤ 4294967295) (hl : l.length ≤ 1400) :
    let b := dgB pr src dst sp dp l
    parC b = 0 ∧ nAt b 9 1 = pr ∧ nAt b 12 4 = src ∧ nAt b 16 4 = dst ∧ nAt b 20 2 = sp ∧ nAt b 22 2 = dp ∧ b.drop 24 = l ∧ b.take 20 = hdB (24 + (l.length : Int)) pr (ckOf (24 + (l.length : Int)) pr src dst) src dst := by
  intro b
  obtain ⟨hp, h1, h2⟩ := fl_right hr
  have hck := chkB_le (hdB (24 + (l.length : Int)) pr 0 src dst)
  have hb : b = dgB pr src dst sp dp l := rfl
  have hlen : b.length = 24 + l.length := dgB_len ..
  unfold dgB ahB at hb
  have ht : b.take 20 = hdB (24 + (l.length : Int)) pr (ckOf (24 + (l.length : Int)) pr src dst) src dst := by
    rw [hb, List.append_assoc]
    exact List.take_left' (hdB_len ..)
  have hd24 : b.drop 24 = l := List.drop_left' (ahB_len ..)
  have hz := ck_zero (24 + (l.length : Int)) pr src dst
  have hkk : 0 ≤ ckOf (24 + (l.length : Int)) pr src dst ∧ ckOf (24 + (l.length : Int)) pr src dst ≤ 65535 := hck
  generalize ckOf (24 + (l.length : Int)) pr src dst = ck at *
  unfold hdB at hb
  have hb2 : b = [69, 0] ++ (be 2 (24 + (l.length : Int)).toNat ++ ([0, 0, 0, 0, 64] ++ (be 1 pr.toNat ++ (be 2 ck.toNat ++ (be 4 src.toNat ++ (be 4 dst.toNat ++ (be 2 sp.toNat ++ (be 2 dp.toNat ++ l)))))))) := by
    rw [hb]
    simp only [List.append_assoc]
  have n0 : nAt b 0 1 = 69 := by
    rw [nAt_one b 0 (by omega)]
    have : b[0]'(by omega) = 69 := by simp [hb2]
    rw [this]
    rfl
  have n2 : nAt b 2 2 = (b.length : Int) := by
    rw [hb2, nAt_app _ _ 2 2 rfl, nAt_be _ _ _ (by omega) (by omega), ← hb2, hlen]
    omega
  have n9 : nAt b 9 1 = pr := by
    rw [hb2, ← List.append_assoc, ← List.append_assoc, nAt_app _ _ 9 1 (by simp [be_len]), nAt_be _ _ _ (by omega) (by omega)]
  have n12 : nAt b 12 4 = src := by
    rw [hb2, ← List.append_assoc, ← List.append_assoc, ← List.append_assoc, ← List.append_assoc, nAt_app _ _ 12 4 (by simp [be_len]), nAt_be _ _ _ (by omega) (by omega)]
  have n16 : nAt b 16 4 = dst := by
    rw [hb2, ← List.append_assoc, ← List.append_assoc, ← List.append_assoc, ← List.append_assoc, ← List.append_assoc, nAt_app _ _ 16 4 (by simp [be_len]), nAt_be _ _ _ (by omega) (by omega)]
  have n20 : nAt b 20 2 = sp := by
    rw [hb2, ← List.append_assoc, ← List.append_assoc, ← List.append_assoc, ← List.append_assoc, ← List.append_assoc, ← List.append_assoc, nAt_app _ _ 20 2 (by simp [be_len]), nAt_be _ _ _ (by omega) (by omega)]
  have n22 : nAt b 22 2 = dp := by
    rw [hb2, ← List.append_assoc, ← List.append_assoc, ← List.append_assoc, ← List.append_assoc, ← List.append_assoc, ← List.append_assoc, ← List.append_assoc, nAt_app _ _ 22 2 (by simp [be_len]), nAt_be _ _ _ (by omega) (by omega)]
  refine ⟨parC_ok (by omega) ?_ ?_ ?_, n9, n12, n16, n20, n22, hd24, ht⟩
  · unfold okF
    rw [n0, n2]
    simp
  · rw [ht, hz]
    rfl
  · rw [n9]
    rcases hp with rfl | rfl <;> rfl

end Go.Proofs.YtecnicbicbgapaaDoor
