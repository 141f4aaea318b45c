/-
  Plain functions of a datagram: the check of bytes, and a flow's head; lemmas on them. No condition.
-/
import Derived.Test.YteipeookmpnemaaJp
namespace Go.Proofs.Yteipeookmpnemaa
open Go.RowKit

/-- The sum of bytes as numbers of 2 bytes (true: the next byte is the high one). -/
def csum : Bool → List UInt8 → Nat
  | _, [] => 0
  | true, c :: r => 256 * c.toNat + csum false r
  | false, c :: r => c.toNat + csum true r
/-- Which half comes behind n bytes. -/
def par (p : Bool) (n : Nat) : Bool := if n % 2 = 0 then p else !p
theorem par_succ (p : Bool) (n : Nat) : par p (n + 1) = par (!p) n := by
  unfold par
  by_cases h : n % 2 = 0
  · rw [if_neg (by omega), if_pos h]
  · rw [if_pos (by omega), if_neg h, Bool.not_not]
theorem csum_app : ∀ (p : Bool) (l r : List UInt8), csum p (l ++ r) = csum p l + csum (par p l.length) r
  | p, [], r => by cases p <;> simp [csum, par]
  | true, c :: l, r => by
    rw [List.cons_append, List.length_cons, par_succ]
    simp only [csum, Bool.not_true]
    rw [csum_app false l r]
    omega
  | false, c :: l, r => by
    rw [List.cons_append, List.length_cons, par_succ]
    simp only [csum, Bool.not_false]
    rw [csum_app true l r]
    omega
theorem csum_le : ∀ (p : Bool) (l : List UInt8), csum p l ≤ 65280 * l.length
  | p, [] => by cases p <;> simp [csum]
  | true, c :: l => by
    have := csum_le false l
    have := c.toNat_lt
    simp only [csum, List.length_cons]
    omega
  | false, c :: l => by
    have := csum_le true l
    have := c.toNat_lt
    simp only [csum, List.length_cons]
    omega
theorem csum_even (b : List UInt8) (k : Nat) (h : k < b.length) (h2 : k % 2 = 0) : csum true (b.take (k + 1)) = csum true (b.take k) + 256 * (b[k]).toNat := by
  rw [List.take_succ_eq_append_getElem h, csum_app]
  have e : par true (b.take k).length = true := by
    rw [List.length_take, Nat.min_eq_left (by omega)]
    unfold par
    rw [if_pos h2]
  rw [e]
  simp [csum]
theorem csum_odd (b : List UInt8) (k : Nat) (h : k < b.length) (h2 : k % 2 = 1) : csum true (b.take (k + 1)) = csum true (b.take k) + (b[k]).toNat := by
  rw [List.take_succ_eq_append_getElem h, csum_app]
  have e : par true (b.take k).length = false := by
    rw [List.length_take, Nat.min_eq_left (by omega)]
    unfold par
    rw [if_neg (by omega)]
    rfl
  rw [e]
  simp [csum]
/-- What is left of a sum, turned. -/
def chk (s : Nat) : Nat := if s = 0 then 65535 else 65534 - (s - 1) % 65535
theorem chk_fold (y : Nat) (h : 65535 < y) : chk (y / 65536 + y % 65536) = chk y := by
  unfold chk
  rw [if_neg (by omega), if_neg (by omega)]
  omega
theorem chk_small (y : Nat) (h : y ≤ 65535) : chk y = 65535 - y := by
  unfold chk
  by_cases h0 : y = 0
  · rw [if_pos h0]; omega
  · rw [if_neg h0]; omega
theorem chk_le (s : Nat) : chk s ≤ 65535 := by
  unfold chk
  split <;> omega
/-- A sum, with its own check in it, has the check 0. -/
theorem chk_own (s : Nat) (h : 0 < s) : chk (s + chk s) = 0 := by
  unfold chk
  rw [if_neg (by omega), if_neg (by omega)]
  omega
/-- The check of bytes. -/
def chkB (b : List UInt8) : Int := (chk (csum true b) : Int)
theorem chkB_le (b : List UInt8) : 0 ≤ chkB b ∧ chkB b ≤ 65535 := by
  have := chk_le (csum true b)
  unfold chkB
  omega

/-- The numbers' widths. -/
def wds : List Nat := [1, 1, 2, 2, 2, 1, 1, 2, 4, 4, 2, 2]
/-- A datagram's numbers. -/
def dgL (n pr ck src dst sp dp : Int) : List Int := [69, 0, n, 0, 0, 64, pr, ck, src, dst, sp, dp]
/-- The bytes of numbers, by widths. -/
def putW : List Nat → List Int → List UInt8
  | k :: ks, x :: xs => be k x.toNat ++ putW ks xs
  | _, _ => []
theorem putW_take (l : List Int) (h : l.length = 12) (k : Nat) (hk : k < 12) : putW (wds.take (k + 1)) (l.take (k + 1)) = putW (wds.take k) (l.take k) ++ be (wds.getD k 0) (l.getD k 0).toNat := by
  match l, h with
  | [a0, a1, a2, a3, a4, a5, a6, a7, a8, a9, a10, a11], _ =>
    have hk' : k = 0 ∨ k = 1 ∨ k = 2 ∨ k = 3 ∨ k = 4 ∨ k = 5 ∨ k = 6 ∨ k = 7 ∨ k = 8 ∨ k = 9 ∨ k = 10 ∨ k = 11 := by omega
    rcases hk' with rfl | rfl | rfl | rfl | rfl | rfl | rfl | rfl | rfl | rfl | rfl | rfl <;> simp [wds, putW]

/-- The first 20 bytes. -/
def hdB (n pr ck src dst : Int) : List UInt8 := [69, 0] ++ (be 2 n.toNat ++ ([0, 0, 0, 0, 64] ++ (be 1 pr.toNat ++ (be 2 ck.toNat ++ (be 4 src.toNat ++ be 4 dst.toNat)))))
theorem hdB_len (n pr ck src dst : Int) : (hdB n pr ck src dst).length = 20 := by
  unfold hdB
  simp [be_len]
/-- The 24 ahead of a body. -/
def ahB (n pr ck src dst sp dp : Int) : List UInt8 := hdB n pr ck src dst ++ (be 2 sp.toNat ++ be 2 dp.toNat)
theorem ahB_len (n pr ck src dst sp dp : Int) : (ahB n pr ck src dst sp dp).length = 24 := by
  unfold ahB
  simp [be_len, hdB_len]
theorem putW_dg (n pr ck src dst sp dp : Int) : putW wds (dgL n pr ck src dst sp dp) = ahB n pr ck src dst sp dp := by
  unfold ahB hdB wds dgL
  simp only [putW, List.append_assoc, List.append_nil]
  rfl
/-- A flow's datagram, with its check, and its bytes. -/
def ckOf (n pr src dst : Int) : Int := chkB (hdB n pr 0 src dst)
def dgB (pr src dst sp dp : Int) (l : List UInt8) : List UInt8 := ahB (24 + (l.length : Int)) pr (ckOf (24 + (l.length : Int)) pr src dst) src dst sp dp ++ l
theorem dgB_len (pr src dst sp dp : Int) (l : List UInt8) : (dgB pr src dst sp dp l).length = 24 + l.length := by
  unfold dgB
  rw [List.length_append, ahB_len]
theorem be_two (x : Nat) (h : x ≤ 65535) : csum true (be 2 x) = x := by
  have e : be 2 x = [UInt8.ofNat (x / 256), UInt8.ofNat x] := by
    unfold be
    simp [List.range_succ]
  rw [e]
  simp only [csum, UInt8.toNat_ofNat']
  omega
theorem csum_hd (n pr ck src dst : Int) (h0 : 0 ≤ ck) (h : ck ≤ 65535) : csum true (hdB n pr ck src dst) = csum true (hdB n pr 0 src dst) + ck.toNat := by
  have e : ∀ c : Int, csum true (hdB n pr c src dst) = csum true ([69, 0] ++ (be 2 n.toNat ++ ([0, 0, 0, 0, 64] ++ be 1 pr.toNat))) + (csum true (be 2 c.toNat) + csum true (be 4 src.toNat ++ be 4 dst.toNat)) := by
    intro c
    have e2 : hdB n pr c src dst = ([69, 0] ++ (be 2 n.toNat ++ ([0, 0, 0, 0, 64] ++ be 1 pr.toNat))) ++ (be 2 c.toNat ++ (be 4 src.toNat ++ be 4 dst.toNat)) := by
      unfold hdB
      simp only [List.append_assoc]
    rw [e2, csum_app, csum_app _ (be 2 c.toNat)]
    have p1 : par true ([69, 0] ++ (be 2 n.toNat ++ ([0, 0, 0, 0, 64] ++ be 1 pr.toNat)) : List UInt8).length = true := by simp [be_len, par]
    rw [p1]
    have p2 : par true (be 2 c.toNat).length = true := by rw [be_len]; rfl
    rw [p2]
  rw [e ck, e 0, be_two _ (by omega), be_two _ (by decide)]
  have : (0 : Int).toNat = 0 := rfl
  omega
theorem csum_pos (n pr ck src dst : Int) : 0 < csum true (hdB n pr ck src dst) := by
  unfold hdB
  simp only [List.cons_append, csum]
  have : (69 : UInt8).toNat = 69 := rfl
  omega
/-- The check of a head that has its check is 0. -/
theorem ck_zero (n pr src dst : Int) : chkB (hdB n pr (ckOf n pr src dst) src dst) = 0 := by
  have h := chkB_le (hdB n pr 0 src dst)
  unfold ckOf
  have e := csum_hd n pr (chkB (hdB n pr 0 src dst)) src dst h.1 h.2
  have e2 : (chkB (hdB n pr 0 src dst)).toNat = chk (csum true (hdB n pr 0 src dst)) := by unfold chkB; omega
  rw [e2] at e
  show ((chk (csum true (hdB n pr (chkB (hdB n pr 0 src dst)) src dst)) : Nat) : Int) = 0
  rw [e, chk_own _ (csum_pos n pr 0 src dst)]
  rfl

end Go.Proofs.Yteipeookmpnemaa
