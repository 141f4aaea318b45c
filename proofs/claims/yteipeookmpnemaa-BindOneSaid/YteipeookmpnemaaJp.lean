/-
  Plain functions of an arp's bytes, and lemmas on them. No condition.
-/
import Derived.Test.YteipeookmpnemaaJa
import Derived.Test.YteipeookmpnemaaFp
namespace Go.Proofs.Yteipeookmpnemaa
open Go.RowKit

theorem bcs_take (l : List UInt8) (k : Nat) : bcs (l.take k) = (bcs l).take k := by simp [bcs, List.map_take]
theorem bcs_drop (l : List UInt8) (k : Nat) : bcs (l.drop k) = (bcs l).drop k := by simp [bcs, List.map_drop]

/-- The number of k bytes that stand at i. -/
def nAt (b : List UInt8) (i k : Nat) : Int := (num ((b.drop i).take k) : Int)
theorem nAt_nonneg (b : List UInt8) (i k : Nat) : 0 ≤ nAt b i k := by unfold nAt; omega
theorem nAt_lt (b : List UInt8) (i k : Nat) : nAt b i k < 256 ^ k := by
  have h := num_lt ((b.drop i).take k)
  have h2 : (256 : Nat) ^ ((b.drop i).take k).length ≤ 256 ^ k := Nat.pow_le_pow_right (by decide) (by rw [List.length_take]; omega)
  unfold nAt
  have h3 : ((256 : Int) ^ k) = ((256 ^ k : Nat) : Int) := by simp
  rw [h3]
  omega
theorem get_nat (l : List UInt8) (k : Nat) (h1 : 1 ≤ k) (h7 : k ≤ 7) (h : k ≤ l.length) : getS (k : Int) (some l) = ((num (l.take k) : Int), some (l.drop k)) := by
  have h2 := num_take_lt l k h
  have h3 : (256 : Nat) ^ k ≤ 256 ^ 7 := Nat.pow_le_pow_right (by decide) h7
  have h4 : (256 : Nat) ^ 7 = 72057594037927936 := by decide
  refine if_pos ⟨by omega, by omega, by rw [Int.toNat_natCast]; exact h, by rw [Int.toNat_natCast]; omega⟩
theorem get_upto (b : List UInt8) (m i k : Nat) (h1 : 1 ≤ k) (h7 : k ≤ 7) (h : i + k ≤ m) (hm : m ≤ b.length) : getS (k : Int) (some ((b.take m).drop i)) = (nAt b i k, some ((b.take m).drop (i + k))) := by
  rw [get_nat _ k h1 h7 (by rw [List.length_drop, List.length_take]; omega), List.drop_drop]
  unfold nAt
  rw [List.drop_take, List.take_take, Nat.min_eq_left (by omega)]
theorem get_from (b : List UInt8) (i k : Nat) (h1 : 1 ≤ k) (h7 : k ≤ 7) (h : i + k ≤ b.length) : getS (k : Int) (some (b.drop i)) = (nAt b i k, some (b.drop (i + k))) := by
  rw [get_nat _ k h1 h7 (by rw [List.length_drop]; omega), List.drop_drop]
  rfl
theorem be_at (b : List UInt8) (i k : Nat) (h : i + k ≤ b.length) : be k (nAt b i k).toNat = (b.drop i).take k := by
  unfold nAt
  rw [Int.toNat_natCast]
  exact be_num_take _ k (by rw [List.length_drop]; omega)
theorem nAt_be (x : Int) (k : Nat) (r : List UInt8) (h : 0 ≤ x) (h2 : x < 256 ^ k) : nAt (be k x.toNat ++ r) 0 k = x := by
  unfold nAt
  rw [List.drop_zero, take_be, num_be, Nat.mod_eq_of_lt]
  · omega
  · have h3 : ((256 : Int) ^ k) = ((256 ^ k : Nat) : Int) := by simp
    omega
theorem nAt_app (l r : List UInt8) (i k : Nat) (h : l.length = i) : nAt (l ++ r) i k = nAt r 0 k := by
  unfold nAt
  rw [← h, List.drop_left', List.drop_zero]
  rfl

/-- Are the first 6 bytes an arp's? -/
def headB (b : List UInt8) : Bool := nAt b 0 2 == 1 && (nAt b 2 2 == 2048 && (nAt b 4 1 == 6 && nAt b 5 1 == 4))
/-- Are the first 28? -/
def okA (b : List UInt8) : Bool := decide (28 ≤ b.length) && headB b
def head6 : List UInt8 := [0, 1, 8, 0, 6, 4]
theorem head_six (b : List UInt8) (h : 6 ≤ b.length) : b.take 6 = be 2 (nAt b 0 2).toNat ++ (be 2 (nAt b 2 2).toNat ++ (be 1 (nAt b 4 1).toNat ++ be 1 (nAt b 5 1).toNat)) := by
  rw [be_at b 0 2 (by omega), be_at b 2 2 (by omega), be_at b 4 1 (by omega), be_at b 5 1 (by omega)]
  match b, h with
  | a0 :: a1 :: a2 :: a3 :: a4 :: a5 :: r, _ => rfl
theorem head_iff (b : List UInt8) (h : 6 ≤ b.length) : headB b = (b.take 6 == head6) := by
  rw [Bool.eq_iff_iff]
  unfold headB
  simp only [Bool.and_eq_true, beq_iff_eq]
  constructor
  · rintro ⟨h1, h2, h3, h4⟩
    rw [head_six b h, h1, h2, h3, h4]
    decide
  · intro e
    have e2 : b = head6 ++ b.drop 6 := by rw [← e, List.take_append_drop]
    rw [e2]
    refine ⟨rfl, rfl, rfl, rfl⟩

/-- An arp's bytes. -/
def arpB (op sha tha spa tpa : Int) : List UInt8 := head6 ++ (be 2 op.toNat ++ (be 6 sha.toNat ++ (be 4 spa.toNat ++ (be 6 tha.toNat ++ be 4 tpa.toNat))))
theorem arpB_len (op sha tha spa tpa : Int) : (arpB op sha tha spa tpa).length = 28 := by
  unfold arpB
  simp only [List.length_append, be_len]
  rfl
/-- The arp of bytes. -/
def aO (b : List UInt8) : Int := nAt b 6 2
def aS (b : List UInt8) : Int := nAt b 8 6
def aP (b : List UInt8) : Int := nAt b 14 4
def aT (b : List UInt8) : Int := nAt b 18 6
def aQ (b : List UInt8) : Int := nAt b 24 4
theorem aO_lt (b : List UInt8) : 0 ≤ aO b ∧ aO b ≤ 65535 := by have := nAt_nonneg b 6 2; have := nAt_lt b 6 2; unfold aO; omega
theorem aS_lt (b : List UInt8) : 0 ≤ aS b ∧ aS b ≤ 281474976710655 := by have := nAt_nonneg b 8 6; have := nAt_lt b 8 6; unfold aS; omega
theorem aP_lt (b : List UInt8) : 0 ≤ aP b ∧ aP b ≤ 4294967295 := by have := nAt_nonneg b 14 4; have := nAt_lt b 14 4; unfold aP; omega
theorem aT_lt (b : List UInt8) : 0 ≤ aT b ∧ aT b ≤ 281474976710655 := by have := nAt_nonneg b 18 6; have := nAt_lt b 18 6; unfold aT; omega
theorem aQ_lt (b : List UInt8) : 0 ≤ aQ b ∧ aQ b ≤ 4294967295 := by have := nAt_nonneg b 24 4; have := nAt_lt b 24 4; unfold aQ; omega
theorem arp_right (b : List UInt8) : arpR (aO b) (aS b) (aT b) = true := by
  have h1 := aO_lt b
  have h2 := aS_lt b
  have h3 := aT_lt b
  unfold arpR
  simp only [Bool.and_eq_true, decide_eq_true_eq]
  omega
theorem arp_of (b : List UInt8) (h : okA b = true) : arpB (aO b) (aS b) (aT b) (aP b) (aQ b) = b.take 28 := by
  unfold okA at h
  simp only [Bool.and_eq_true, decide_eq_true_eq] at h
  obtain ⟨hl, hh⟩ := h
  rw [head_iff b (by omega), beq_iff_eq] at hh
  unfold arpB aO aS aT aP aQ
  rw [← hh, be_at b 6 2 (by omega), be_at b 8 6 (by omega), be_at b 14 4 (by omega), be_at b 18 6 (by omega), be_at b 24 4 (by omega)]
  have step : ∀ i k m : Nat, k ≤ m → (b.drop i).take k ++ (b.drop (i + k)).take (m - k) = (b.drop i).take m := by
    intro i k m hk
    have e := List.take_append_drop k ((b.drop i).take m)
    rw [List.take_take, Nat.min_eq_left hk, List.drop_take, List.drop_drop] at e
    exact e
  rw [step 18 6 10 (by omega), step 14 4 14 (by omega), step 8 6 20 (by omega), step 6 2 22 (by omega)]
  exact step 0 6 28 (by omega)
theorem arp_back (op sha tha spa tpa : Int) (r : List UInt8) (hr : arpR op sha tha = true) (hs : 0 ≤ sha) (ht : 0 ≤ tha) (hp : 0 ≤ spa ∧ spa ≤ 4294967295) (hq : 0 ≤ tpa ∧ tpa ≤ 4294967295) :
    let b := arpB op sha tha spa tpa ++ r
    okA b = true ∧ aO b = op ∧ aS b = sha ∧ aT b = tha ∧ aP b = spa ∧ aQ b = tpa := by
  intro b
  unfold arpR at hr
  simp only [Bool.and_eq_true, decide_eq_true_eq] at hr
  have hb : b = head6 ++ (be 2 op.toNat ++ (be 6 sha.toNat ++ (be 4 spa.toNat ++ (be 6 tha.toNat ++ (be 4 tpa.toNat ++ r))))) := by
    show arpB op sha tha spa tpa ++ r = _
    unfold arpB
    simp only [List.append_assoc]
  have hl : b.length = 28 + r.length := by
    show (arpB op sha tha spa tpa ++ r).length = _
    rw [List.length_append, arpB_len]
  have hh : headB b = true := by
    rw [head_iff b (by omega), hb]
    simp [head6]
  refine ⟨by unfold okA; simp [hh, hl], ?_, ?_, ?_, ?_, ?_⟩
  · unfold aO
    rw [hb, nAt_app _ _ 6 2 rfl, nAt_be _ _ _ (by omega) (by omega)]
  · unfold aS
    rw [hb, ← List.append_assoc, nAt_app _ _ 8 6 (by rw [List.length_append, be_len]; rfl), nAt_be _ _ _ (by omega) (by omega)]
  · unfold aT
    rw [hb, ← List.append_assoc, ← List.append_assoc, ← List.append_assoc, nAt_app _ _ 18 6 (by simp only [List.length_append, be_len]; rfl), nAt_be _ _ _ (by omega) (by omega)]
  · unfold aP
    rw [hb, ← List.append_assoc, ← List.append_assoc, nAt_app _ _ 14 4 (by simp only [List.length_append, be_len]; rfl), nAt_be _ _ _ (by omega) (by omega)]
  · unfold aQ
    rw [hb, ← List.append_assoc, ← List.append_assoc, ← List.append_assoc, ← List.append_assoc, nAt_app _ _ 24 4 (by simp only [List.length_append, be_len]; rfl), nAt_be _ _ _ (by omega) (by omega)]

end Go.Proofs.Yteipeookmpnemaa
