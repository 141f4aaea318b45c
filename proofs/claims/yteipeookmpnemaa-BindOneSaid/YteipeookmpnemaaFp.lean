/-
  Plain lemmas: a frame's bytes, there and back. No condition.
-/
import Derived.Test.YteipeookmpnemaaSpb
import Derived.Test.YteipeookmpnemaaFd
namespace Go.Proofs.Yteipeookmpnemaa
open Go.RowKit

theorem be_low (k c x : Nat) : be k (c * 256 ^ k + x) = be k x := by
  unfold be
  refine List.map_congr_left (fun j hj => ?_)
  have hjk : j < k := by simpa using hj
  refine UInt8.toNat_inj.1 ?_
  rw [UInt8.toNat_ofNat', UInt8.toNat_ofNat']
  have e : (2 : Nat) ^ (8 * (k - 1 - j)) = 256 ^ (k - 1 - j) := by rw [Nat.pow_mul]
  rw [e]
  have hp : 256 ^ k = 256 ^ (k - 1 - j) * (256 * 256 ^ j) := by
    rw [← Nat.pow_succ', ← Nat.pow_add]
    congr 1
    omega
  have hq : 0 < 256 ^ (k - 1 - j) := Nat.pow_pos (by decide)
  rw [hp]
  have e2 : c * (256 ^ (k - 1 - j) * (256 * 256 ^ j)) + x = x + 256 ^ (k - 1 - j) * (c * (256 * 256 ^ j)) := by
    rw [Nat.add_comm, Nat.mul_left_comm]
  rw [e2, Nat.add_mul_div_left _ _ hq]
  have e3 : c * (256 * 256 ^ j) = 256 * (c * 256 ^ j) := Nat.mul_left_comm ..
  rw [e3, Nat.add_mul_mod_self_left]
theorem be_num (l : List UInt8) : be l.length (num l) = l := by
  induction l with
  | nil => rfl
  | cons c l ih =>
    have hlt := num_lt l
    rw [List.length_cons, be_succ, num_cons, be_low, ih]
    have hq : 0 < 256 ^ l.length := Nat.pow_pos (by decide)
    have e : (c.toNat * 256 ^ l.length + num l) / 256 ^ l.length = c.toNat := by
      rw [Nat.add_comm, Nat.add_mul_div_right _ _ hq, Nat.div_eq_of_lt hlt, Nat.zero_add]
    rw [e]
    congr 1
    exact UInt8.toNat_inj.1 (by rw [UInt8.toNat_ofNat']; have := c.toNat_lt; omega)
theorem be_num_take (b : List UInt8) (n : Nat) (h : n ≤ b.length) : be n (num (b.take n)) = b.take n := by
  have h2 := be_num (b.take n)
  rwa [List.length_take, Nat.min_eq_left h] at h2
theorem num_be_lt (k x : Nat) (h : x < 256 ^ k) : num (be k x) = x := by rw [num_be, Nat.mod_eq_of_lt h]

theorem take_be (k x : Nat) (r : List UInt8) : (be k x ++ r).take k = be k x := List.take_left' (be_len k x)
theorem drop_be (k x : Nat) (r : List UInt8) : (be k x ++ r).drop k = r := List.drop_left' (be_len k x)
theorem frame_drop6 (d s t : Int) (l : List UInt8) : (frameB d s t l).drop 6 = be 6 s.toNat ++ (be 2 t.toNat ++ l) := drop_be ..
theorem frame_drop12 (d s t : Int) (l : List UInt8) : (frameB d s t l).drop 12 = be 2 t.toNat ++ l := by
  have h : (frameB d s t l).drop 12 = ((frameB d s t l).drop 6).drop 6 := by rw [List.drop_drop]
  rw [h, frame_drop6, drop_be]
theorem frame_drop14 (d s t : Int) (l : List UInt8) : (frameB d s t l).drop 14 = l := by
  have h : (frameB d s t l).drop 14 = ((frameB d s t l).drop 12).drop 2 := by rw [List.drop_drop]
  rw [h, frame_drop12, drop_be]
theorem frame_len (d s t : Int) (l : List UInt8) : (frameB d s t l).length = 14 + l.length := by
  unfold frameB
  simp only [List.length_append, be_len]
  omega
theorem frame_fD (d s t : Int) (l : List UInt8) (h : 0 ≤ d) (h2 : d ≤ 281474976710655) : fD (frameB d s t l) = d := by
  have e : (frameB d s t l).take 6 = be 6 d.toNat := take_be ..
  unfold fD
  rw [e, num_be_lt _ _ (by omega)]
  omega
theorem frame_fS (d s t : Int) (l : List UInt8) (h : 0 ≤ s) (h2 : s ≤ 281474976710655) : fS (frameB d s t l) = s := by
  unfold fS
  rw [frame_drop6, take_be, num_be_lt _ _ (by omega)]
  omega
theorem frame_fT (d s t : Int) (l : List UInt8) (h : 0 ≤ t) (h2 : t ≤ 65535) : fT (frameB d s t l) = t := by
  unfold fT
  rw [frame_drop12, take_be, num_be_lt _ _ (by omega)]
  omega
theorem frame_of (b : List UInt8) (h : 14 ≤ b.length) : frameB (fD b) (fS b) (fT b) (b.drop 14) = b := by
  unfold frameB fD fS fT
  simp only [Int.toNat_natCast]
  rw [be_num_take b 6 (by omega), be_num_take _ 6 (by rw [List.length_drop]; omega), be_num_take _ 2 (by rw [List.length_drop]; omega)]
  have e1 : (b.drop 12).take 2 ++ b.drop 14 = b.drop 12 := by
    have := List.take_append_drop 2 (b.drop 12)
    rwa [List.drop_drop] at this
  have e2 : (b.drop 6).take 6 ++ b.drop 12 = b.drop 6 := by
    have := List.take_append_drop 6 (b.drop 6)
    rwa [List.drop_drop] at this
  rw [e1, e2, List.take_append_drop]
theorem right_fr (b : List UInt8) (h : 14 ≤ b.length) (h2 : b.length ≤ 1514) : rightB (fD b) (fS b) (fT b) (b.drop 14).length = true := by
  have h1 := fD_lt b h
  have h3 := fS_lt b h
  have h4 := fT_lt b h
  unfold rightB
  simp only [Bool.and_eq_true, decide_eq_true_eq, List.length_drop]
  omega

end Go.Proofs.Yteipeookmpnemaa
