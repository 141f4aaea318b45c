/-
  The plain functions that the writers compute, and lemmas on them. No condition.
-/
import Derived.Test.YteipeookmpnemaaMem
import Derived.Laws.BitsAllLaws
namespace Go.Proofs.Yteipeookmpnemaa

/-- A number of n bytes, the highest first. -/
def be (n x : Nat) : List UInt8 := (List.range n).map fun j => UInt8.ofNat (x / 2 ^ (8 * (n - 1 - j)))
theorem be_len (n x : Nat) : (be n x).length = n := by simp [be]
theorem be_take (n x j : Nat) (h : j < n) : (be n x).take (j + 1) = (be n x).take j ++ [UInt8.ofNat (x / 2 ^ (8 * (n - 1 - j)))] := by
  rw [List.take_succ_eq_append_getElem (by rw [be_len]; exact h)]
  simp [be]
/-- Does a number fit in n bytes? -/
def fits (n : Nat) (x : Int) : Bool := decide (0 ≤ x) && decide (x < 256 ^ n)
def put1 (n : Nat) (st : Option (List UInt8)) (x : Int) : Option (List UInt8) := st.bind fun b => if fits n x then some (b ++ be n x.toNat) else none
def puts (n : Nat) (l : List Int) (st : Option (List UInt8)) : Option (List UInt8) := l.foldl (put1 n) st
def putS (n : Int) (l : List Int) (st : Option (List UInt8)) : Option (List UInt8) := if 1 ≤ n ∧ n ≤ 8 then puts n.toNat l st else none
def bytesS (b : List UInt8) (st : Option (List UInt8)) : Option (List UInt8) := (putS 2 [(b.length : Int)] st).map (· ++ b)

theorem puts_none (n : Nat) (l : List Int) : puts n l none = none := by
  unfold puts
  induction l with
  | nil => rfl
  | cons x l ih => exact ih
theorem puts_take (n : Nat) (l : List Int) (st : Option (List UInt8)) (k : Nat) (h : k < l.length) : puts n (l.take (k + 1)) st = put1 n (puts n (l.take k) st) l[k] := by
  unfold puts
  rw [List.take_succ_eq_append_getElem h, List.foldl_append]
  rfl
theorem puts_fail (n : Nat) (l : List Int) (st : Option (List UInt8)) (k : Nat) (h : k < l.length) (hf : fits n l[k] = false) : puts n l st = none := by
  have e : puts n (l.take (k + 1)) st = none := by
    rw [puts_take n l st k h]
    unfold put1
    cases puts n (l.take k) st <;> simp [hf]
  have : puts n l st = puts n (l.drop (k + 1)) (puts n (l.take (k + 1)) st) := by
    unfold puts
    rw [← List.foldl_append, List.take_append_drop]
  rw [this, e, puts_none]
theorem puts_len (n : Nat) (l : List Int) (b c : List UInt8) (h : puts n l (some b) = some c) : c.length = b.length + n * l.length := by
  unfold puts at h
  induction l generalizing b with
  | nil => simp at h; subst h; simp
  | cons x l ih =>
    simp only [List.foldl_cons] at h
    by_cases hf : fits n x
    · have e : put1 n (some b) x = some (b ++ be n x.toNat) := by simp [put1, hf]
      rw [e] at h
      rw [ih _ h, List.length_append, be_len, List.length_cons, Nat.mul_succ]
      omega
    · have e : put1 n (some b) x = none := by simp [put1, hf]
      rw [e] at h
      have := puts_none n l
      unfold puts at this
      rw [this] at h
      cases h
/-- Go's test 'x>>(8*n) != 0'. -/
theorem shr_fits (n : Nat) (x : Int) (h8 : n ≤ 8) (hx : 0 ≤ x) : fits n x = (x / 2 ^ min (8 * (n : Int)).toNat 64 == 0) := by
  have e : min (8 * (n : Int)).toNat 64 = 8 * n := by omega
  rw [e]
  have e2 : (256 : Int) ^ n = 2 ^ (8 * n) := by
    rw [Int.pow_mul]
    rfl
  have hp : (0 : Int) < 2 ^ (8 * n) := Int.pow_pos (by decide)
  unfold fits
  rw [e2]
  have hd : decide (0 ≤ x) = true := by simpa using hx
  rw [hd, Bool.true_and]
  rw [Bool.eq_iff_iff]
  simp only [decide_eq_true_eq, beq_iff_eq]
  constructor
  · intro h
    exact Int.ediv_eq_zero_of_lt hx h
  · intro h
    by_cases h1 : x < 2 ^ (8 * n)
    · exact h1
    · exfalso
      have : 1 ≤ x / 2 ^ (8 * n) := Int.le_ediv_of_mul_le hp (by rw [Int.one_mul]; exact Int.not_lt.1 h1)
      omega
theorem byte_of (x : Int) (s : Nat) (hx : 0 ≤ x) : ((UInt8.ofNat (x.toNat / 2 ^ (8 * s))).toNat : Int) = IntKind.u8.wrap (x / 2 ^ (8 * s)) := by
  rw [IntKind.wrap_u8']
  obtain ⟨X, rfl⟩ := Int.eq_ofNat_of_zero_le hx
  rw [Int.toNat_natCast, UInt8.toNat_ofNat']
  simp

/-- What readers compute: what is told, and the state behind it. -/
def takeS (n : Nat) : Option (List UInt8) → List UInt8 × Option (List UInt8)
  | none => ([], none)
  | some b => if n ≤ b.length then (b.take n, some (b.drop n)) else ([], none)
def num (l : List UInt8) : Nat := l.foldl (fun x c => 256 * x + c.toNat) 0
def getS (n : Int) : Option (List UInt8) → Int × Option (List UInt8)
  | none => (0, none)
  | some b => if 1 ≤ n ∧ n ≤ 8 ∧ n.toNat ≤ b.length ∧ num (b.take n.toNat) < 9223372036854775808 then ((num (b.take n.toNat) : Int), some (b.drop n.toNat)) else (0, none)
def bytesR (most : Int) (st : Option (List UInt8)) : List UInt8 × Option (List UInt8) := if most < (getS 2 st).1 then ([], none) else takeS (getS 2 st).1.toNat (getS 2 st).2
def restS : Option (List UInt8) → List UInt8 × Option (List UInt8)
  | none => ([], none)
  | some b => (b, some [])
def doneS : Option (List UInt8) → Int
  | some [] => 0
  | _ => 2
theorem num_snoc (l : List UInt8) (c : UInt8) : num (l ++ [c]) = 256 * num l + c.toNat := by simp [num, List.foldl_append]
theorem num_lt (l : List UInt8) : num l < 256 ^ l.length := by
  suffices h : ∀ (l : List UInt8) (x : Nat), l.foldl (fun x c => 256 * x + c.toNat) x < 256 ^ l.length * (x + 1) by
    have := h l 0
    simpa [num] using this
  intro l
  induction l with
  | nil => intro x; simp
  | cons c l ih =>
    intro x
    have h1 := ih (256 * x + c.toNat)
    have h2 : c.toNat < 256 := c.toNat_lt
    have h3 : 256 ^ l.length * (256 * x + c.toNat + 1) ≤ 256 ^ l.length * (256 * (x + 1)) := Nat.mul_le_mul_left _ (by omega)
    simp only [List.foldl_cons, List.length_cons, Nat.pow_succ]
    rw [Nat.mul_assoc]
    omega
theorem num_take (l : List UInt8) (k : Nat) (h : k < l.length) : num (l.take (k + 1)) = 256 * num (l.take k) + (l[k]).toNat := by
  rw [List.take_succ_eq_append_getElem h, num_snoc]
theorem get_len (n : Int) (st : Option (List UInt8)) : 0 ≤ (getS n st).1 ∧ (getS n st).1 ≤ 9223372036854775807 := by
  unfold getS
  split
  · simp
  · split
    · rename_i h
      have := h.2.2.2
      constructor
      · exact Int.natCast_nonneg _
      · simp only; omega
    · simp

theorem take_len8 (n : Nat) (st : Option (List UInt8)) : (takeS n st).1.length ≤ n := by
  unfold takeS
  split
  · simp
  · split
    · simp only [List.length_take]; omega
    · simp
theorem get_take (n : Nat) (st : Option (List UInt8)) (h1 : 1 ≤ n) (h8 : n ≤ 8) :
    getS (n : Int) st = if num (takeS n st).1 < 9223372036854775808 then ((num (takeS n st).1 : Int), (takeS n st).2) else (0, none) := by
  unfold getS takeS
  rw [Int.toNat_natCast]
  split
  · rw [if_pos (by simp [num])]
    rfl
  · rename_i b
    by_cases hl : n ≤ b.length
    · rw [if_pos hl]
      by_cases hn : num (b.take n) < 9223372036854775808
      · rw [if_pos hn, if_pos ⟨by omega, by omega, hl, hn⟩]
      · rw [if_neg hn, if_neg (fun h => hn h.2.2.2)]
    · rw [if_neg hl, if_neg (fun h => hl h.2.2.1), if_pos (by simp [num])]
      rfl
theorem get_width (n : Int) (st : Option (List UInt8)) (h : n < 1 ∨ 8 < n) : getS n st = (0, none) := by
  unfold getS
  split
  · rfl
  · rw [if_neg (by omega)]

theorem or_byte (x c : Nat) (hx : x < 72057594037927936) (hc : c < 256) : bits .or .u64 ((x : Int) * 256) (c : Int) = ((256 * x + c : Nat) : Int) := by
  have e : ((x : Int) * 256) = ((256 * x : Nat) : Int) := by omega
  rw [e]
  have h := Nat.two_pow_add_eq_or_of_lt (i := 8) (b := c) (by omega) x
  have h2 : (256 * x) ||| c = 256 * x + c := h.symm
  show IntKind.u64.wrap ((BitVec.ofInt 64 ((256 * x : Nat) : Int) ||| BitVec.ofInt 64 ((c : Nat) : Int)).toNat : Int) = _
  rw [BitVec.toNat_or, BitVec.ofInt_natCast, BitVec.ofInt_natCast, BitVec.toNat_ofNat, BitVec.toNat_ofNat, Nat.mod_eq_of_lt (by omega), Nat.mod_eq_of_lt (by omega), h2, IntKind.wrap_u64]
  omega

end Go.Proofs.Yteipeookmpnemaa
