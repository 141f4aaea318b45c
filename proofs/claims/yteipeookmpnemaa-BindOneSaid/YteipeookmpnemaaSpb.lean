/-
  Plain lemmas: what was written is read. No condition.
-/
import Derived.Test.YteipeookmpnemaaSpec
namespace Go.Proofs.Yteipeookmpnemaa

theorem be_succ (k x : Nat) : be (k + 1) x = UInt8.ofNat (x / 256 ^ k) :: be k x := by
  have e : (2 : Nat) ^ (8 * k) = 256 ^ k := by rw [Nat.pow_mul]
  unfold be
  rw [List.range_succ_eq_map, List.map_cons, List.map_map]
  congr 1
  · rw [← e]
    rfl
  · refine List.map_congr_left (fun j _ => ?_)
    show UInt8.ofNat (x / 2 ^ (8 * (k + 1 - 1 - (j + 1)))) = _
    rw [show k + 1 - 1 - (j + 1) = k - 1 - j by omega]
theorem num_from (l : List UInt8) : ∀ a : Nat, l.foldl (fun x c => 256 * x + c.toNat) a = a * 256 ^ l.length + num l := by
  induction l with
  | nil => intro a; simp [num]
  | cons c l ih =>
    intro a
    have h1 := ih (256 * a + c.toNat)
    have h2 := ih c.toNat
    unfold num
    simp only [List.foldl_cons, List.length_cons, Nat.pow_succ]
    rw [h1, show 256 * 0 + c.toNat = c.toNat by omega, h2, Nat.add_mul, Nat.add_assoc, Nat.mul_comm 256 a, Nat.mul_assoc, Nat.mul_comm 256]
theorem num_cons (c : UInt8) (l : List UInt8) : num (c :: l) = c.toNat * 256 ^ l.length + num l := by
  have := num_from l c.toNat
  unfold num at this ⊢
  simp only [List.foldl_cons, Nat.mul_zero, Nat.zero_add]
  exact this
theorem num_be (k x : Nat) : num (be k x) = x % 256 ^ k := by
  induction k with
  | zero => simp [be, num, Nat.mod_one]
  | succ k ih =>
    have h : x % 256 ^ (k + 1) = x % 256 ^ k + 256 ^ k * (x / 256 ^ k % 256) := Nat.mod_pow_succ
    have e : (UInt8.ofNat (x / 256 ^ k)).toNat = x / 256 ^ k % 256 := UInt8.toNat_ofNat'
    rw [be_succ, num_cons, ih, be_len, h, e, Nat.mul_comm, Nat.add_comm]
theorem fits_iff (n : Nat) (x : Int) : fits n x = true ↔ 0 ≤ x ∧ x < 256 ^ n := by unfold fits; simp
theorem fits_nat (n : Nat) (x : Int) (h : fits n x = true) : x.toNat < 256 ^ n ∧ (x.toNat : Int) = x := by
  obtain ⟨h1, h2⟩ := (fits_iff n x).1 h
  obtain ⟨X, rfl⟩ := Int.eq_ofNat_of_zero_le h1
  have : ((256 : Int) ^ n) = ((256 ^ n : Nat) : Int) := by simp
  rw [this] at h2
  rw [Int.toNat_natCast]
  exact ⟨by omega, rfl⟩
/-- A number that was written is read. -/
theorem get_be (k : Nat) (x : Int) (r : List UInt8) (h1 : 1 ≤ k) (h8 : k ≤ 8) (hx : fits k x = true) (hm : x ≤ 9223372036854775807) : getS (k : Int) (some (be k x.toNat ++ r)) = (x, some r) := by
  obtain ⟨hlt, hX⟩ := fits_nat k x hx
  have ht : takeS k (some (be k x.toNat ++ r)) = (be k x.toNat, some r) := by
    have hl := be_len k x.toNat
    refine (if_pos (by rw [List.length_append]; omega)).trans ?_
    rw [List.take_append_of_le_length (by omega), List.take_of_length_le (by omega), List.drop_append_of_le_length (by omega), List.drop_of_length_le (by omega), List.nil_append]
  rw [get_take k _ h1 h8, ht]
  simp only
  rw [num_be, Nat.mod_eq_of_lt hlt, if_pos (by omega), hX]
def encS (k : Nat) (l : List Int) : List UInt8 := l.flatMap fun x => be k x.toNat
theorem encS_len (k : Nat) (l : List Int) : (encS k l).length = k * l.length := by
  induction l with
  | nil => rfl
  | cons x l ih =>
    unfold encS at ih ⊢
    rw [List.flatMap_cons, List.length_append, be_len, ih, List.length_cons, Nat.mul_succ]
    omega
theorem puts_enc (k : Nat) (l : List Int) (b : List UInt8) : puts k l (some b) = if l.all (fits k) then some (b ++ encS k l) else none := by
  induction l generalizing b with
  | nil => simp [puts, encS]
  | cons x l ih =>
    have e : puts k (x :: l) (some b) = puts k l (put1 k (some b) x) := rfl
    rw [e]
    by_cases hf : fits k x = true
    · have e1 : put1 k (some b) x = some (b ++ be k x.toNat) := by simp [put1, hf]
      rw [e1, ih]
      simp only [List.all_cons, hf, Bool.true_and]
      congr 2
      simp [encS]
    · have hf' : fits k x = false := by simpa using hf
      have e1 : put1 k (some b) x = none := by simp [put1, hf']
      rw [e1, puts_none]
      simp [hf']
theorem bytes_enc (b c : List UInt8) : bytesS b (some c) = if b.length < 65536 then some (c ++ be 2 b.length ++ b) else none := by
  have hp : putS 2 [(b.length : Int)] (some c) = puts 2 [(b.length : Int)] (some c) := by unfold putS; rw [if_pos ⟨by omega, by omega⟩]; rfl
  unfold bytesS
  rw [hp, puts_enc]
  have hf : fits 2 (b.length : Int) = decide (b.length < 65536) := by
    rw [Bool.eq_iff_iff, fits_iff]
    simp only [decide_eq_true_eq]
    constructor
    · intro h; have := h.2; omega
    · intro h; exact ⟨by omega, by omega⟩
  by_cases hb : b.length < 65536
  · rw [if_pos hb, if_pos (by simp [hf, hb])]
    simp [encS]
  · rw [if_neg hb, if_neg (by simp [hf, hb])]
    rfl
theorem bytesS_none (b : List UInt8) : bytesS b none = none := by
  unfold bytesS putS
  split
  · rw [puts_none]; rfl
  · rfl
/-- Bytes that were written are read. -/
theorem bytes_back (b r : List UInt8) (h : b.length < 65536) : bytesR (b.length : Int) (some (be 2 b.length ++ (b ++ r))) = (b, some r) := by
  have hg : getS 2 (some (be 2 b.length ++ (b ++ r))) = ((b.length : Int), some (b ++ r)) := get_be 2 (b.length : Int) (b ++ r) (by omega) (by omega) ((fits_iff _ _).2 ⟨by omega, by omega⟩) (by omega)
  unfold bytesR
  rw [hg]
  simp only [Int.lt_irrefl, if_false, Int.toNat_natCast]
  refine (if_pos (by rw [List.length_append]; omega)).trans ?_
  rw [List.take_append_of_le_length (by omega), List.take_of_length_le (by omega), List.drop_append_of_le_length (by omega), List.drop_of_length_le (by omega), List.nil_append]
theorem bytes_cut (b : List UInt8) (h : b.length < 65536) : bytesR (b.length : Int) (some ((be 2 b.length ++ b).dropLast)) = ([], none) := by
  rcases List.eq_nil_or_concat b with rfl | ⟨b', x, rfl⟩
  · decide
  · simp only [List.concat_eq_append] at h ⊢
    rw [← List.append_assoc, List.dropLast_concat]
    have hl : (b' ++ [x]).length = b'.length + 1 := by simp
    have hg : getS 2 (some (be 2 (b' ++ [x]).length ++ b')) = (((b' ++ [x]).length : Int), some b') := get_be 2 ((b' ++ [x]).length : Int) b' (by omega) (by omega) ((fits_iff _ _).2 ⟨by omega, by omega⟩) (by omega)
    unfold bytesR
    rw [hg]
    simp only [Int.lt_irrefl, if_false, Int.toNat_natCast]
    exact if_neg (by omega)
/-- What is left of what was written, behind j numbers. -/
def leftS (k : Nat) (l : List Int) (b : List UInt8) (j : Nat) : List UInt8 := encS k (l.drop j) ++ (be 2 b.length ++ b)
theorem leftS_step (k : Nat) (l : List Int) (b : List UInt8) (j : Nat) (h : j < l.length) : leftS k l b j = be k l[j].toNat ++ leftS k l b (j + 1) := by
  unfold leftS
  rw [List.drop_eq_getElem_cons h]
  unfold encS
  rw [List.flatMap_cons, List.append_assoc]
theorem leftS_end (k : Nat) (l : List Int) (b : List UInt8) : leftS k l b l.length = be 2 b.length ++ b := by
  unfold leftS
  rw [List.drop_length]
  rfl
theorem leftS_ne (k : Nat) (l : List Int) (b : List UInt8) (j : Nat) : leftS k l b j ≠ [] := by
  intro h
  have h2 := congrArg List.length h
  unfold leftS at h2
  rw [List.length_append, List.length_append, be_len, List.length_nil] at h2
  omega
theorem leftS_cut (k : Nat) (l : List Int) (b : List UInt8) (j : Nat) (h : j < l.length) : (leftS k l b j).dropLast = be k l[j].toNat ++ (leftS k l b (j + 1)).dropLast := by
  rw [leftS_step k l b j h, List.dropLast_append_of_ne_nil (leftS_ne k l b (j + 1))]

theorem back_some (k : Nat) (l : List Int) (b c : List UInt8) (h1 : 1 ≤ k) (h8 : k ≤ 8) (h : bytesS b (putS (k : Int) l (some [])) = some c) :
    c = leftS k l b 0 ∧ b.length < 65536 ∧ (∀ x ∈ l, fits k x = true) ∧ c.length = k * l.length + 2 + b.length := by
  have hp : putS (k : Int) l (some []) = puts k l (some []) := by unfold putS; rw [if_pos ⟨by omega, by omega⟩, Int.toNat_natCast]
  rw [hp, puts_enc] at h
  by_cases ha : l.all (fits k) = true
  · rw [if_pos ha, bytes_enc] at h
    by_cases hb : b.length < 65536
    · rw [if_pos hb] at h
      injection h with h
      subst h
      refine ⟨by simp [leftS], hb, fun x hx => List.all_eq_true.1 ha x hx, ?_⟩
      rw [List.length_append, List.length_append, be_len, List.nil_append, encS_len]
    · rw [if_neg hb] at h
      cases h
  · rw [if_neg ha, bytesS_none] at h
    cases h

end Go.Proofs.Yteipeookmpnemaa
