/-
  The sum of bytes, plain. Walks: journal.Sum, rutterref08.Sum. Condition: the bytes are read in memory.
-/
import Derived.Test.YthljmebhbjeeiaaWc
import Derived.Test.YthljmebhbjeeiaaLa
import Derived.Laws.BitsAllLaws
namespace Go.Proofs.Ythljmebhbjeeiaa
open Go.RowKit
set_option linter.unusedVariables false

/-- One of the eight turns of a sum. -/
def sT (x : Nat) : Nat := if x % 2 = 1 then (x / 2) ^^^ 3988292384 else x / 2
def sTs : Nat → Nat → Nat
  | 0, x => x
  | k + 1, x => sT (sTs k x)
def sBy (x : Nat) (c : UInt8) : Nat := sTs 8 (x ^^^ c.toNat)
def sumS (l : List UInt8) : Nat := l.foldl sBy 4294967295
/-- The sum of bytes. -/
def sumN (l : List UInt8) : Nat := 4294967295 - sumS l
theorem sT_lt (x : Nat) (h : x < 4294967296) : sT x < 4294967296 := by
  unfold sT
  split
  · exact Nat.xor_lt_two_pow (n := 32) (by omega) (by decide)
  · omega
theorem sTs_lt (k x : Nat) (h : x < 4294967296) : sTs k x < 4294967296 := by
  induction k with
  | zero => exact h
  | succ k ih => exact sT_lt _ ih
theorem sX_lt (x : Nat) (c : UInt8) (h : x < 4294967296) : x ^^^ c.toNat < 4294967296 := Nat.xor_lt_two_pow (n := 32) h (by have := c.toNat_lt; omega)
theorem sBy_lt (x : Nat) (c : UInt8) (h : x < 4294967296) : sBy x c < 4294967296 := sTs_lt 8 _ (sX_lt x c h)
theorem sumS_take (l : List UInt8) (k : Nat) (h : k < l.length) : sumS (l.take (k + 1)) = sTs 8 (sumS (l.take k) ^^^ (l[k]).toNat) := by
  unfold sumS
  rw [List.take_succ_eq_append_getElem h, List.foldl_append]
  rfl
theorem sumS_lt (l : List UInt8) : sumS l < 4294967296 := by
  unfold sumS
  suffices h : ∀ (l : List UInt8) (x : Nat), x < 4294967296 → l.foldl sBy x < 4294967296 from h l _ (by decide)
  intro l
  induction l with
  | nil => intro x h; exact h
  | cons c l ih => intro x h; exact ih _ (sBy_lt x c h)
theorem sumN_le (l : List UInt8) : sumN l ≤ 4294967295 := by unfold sumN; omega
theorem sT_one (x : Nat) (h : x % 2 = 1) : sT x = (x / 2) ^^^ 3988292384 := if_pos h
theorem sT_zero (x : Nat) (h : x % 2 = 0) : sT x = x / 2 := if_neg (by omega)
theorem and_one (x : Nat) (h : x < 4294967296) : bits .and .u32 (x : Int) 1 = ((x % 2 : Nat) : Int) := by
  have e := u32_and_nat x 1 h (by decide)
  rw [nat_mask1] at e
  exact e
theorem xor_turn (x : Nat) (h : x < 4294967296) : bits .xor .u32 (x : Int) 3988292384 = ((x ^^^ 3988292384 : Nat) : Int) := u32_xor_nat x 3988292384 h (by decide)
theorem xor_all (y : Nat) (h : y < 4294967296) : bits .xor .u32 IntKind.u32.max (y : Int) = ((4294967295 - y : Nat) : Int) := by
  have e := u32_xor_nat 4294967295 y (by decide) h
  have h2 : 4294967295 ^^^ y = 4294967295 - y := by
    have h3 : (BitVec.allOnes 32 ^^^ BitVec.ofNat 32 y).toNat = (~~~ (BitVec.ofNat 32 y)).toNat := by rw [BitVec.allOnes_xor]
    rw [BitVec.toNat_xor, BitVec.toNat_not, BitVec.toNat_allOnes, BitVec.toNat_ofNat, Nat.mod_eq_of_lt (by omega)] at h3
    have h4 : (2 ^ 32 - 1 : Nat) = 4294967295 := by decide
    rw [h4] at h3
    omega
  rw [h2] at e
  exact e
theorem wrap64_small {x : Int} (h : -9223372036854775808 ≤ x) (h2 : x ≤ 9223372036854775807) : wrap64 x = x := by
  unfold wrap64
  omega

set_option maxHeartbeats 1000000 in
theorem sum_any (A : Option Addr) (n c : Nat) (b : List UInt8) (S : Nat → Prop) (w : World) (hn : n = b.length) (h : Rds w S A n (bcs b)) (hb : n ≤ 9223372036854775807) :
    Calls Try.prog 25 #[.slice A n c] w fun e w' => e = .returned (.int .i64 (sumN b : Int)) ∧ w = w' := by
  have HN := Lib.hid hn
  clear hn
  go_enter Try.func25, Try.ntmps25
  go_wp2_with fail
  go_loopg [3, 9] n (fun g v i wr => ∃ k y : Nat, g = n - k ∧ k ≤ n ∧ i = .int .i64 (k : Int) ∧ v = .int .u32 (y : Int) ∧ Hid (y = sumS (b.take k)) ∧ y < 4294967296 ∧ w = wr)
  case atStart => exact ⟨0, 4294967295, rfl, Nat.zero_le _, rfl, rfl, rfl, by omega, rfl⟩
  case round =>
    obtain ⟨k, y, rfl, hk, rfl, rfl, HY, hy, rfl⟩ := hrel
    by_cases hlt : k < n
    · obtain ⟨ad, rfl, hs, hbk, hcl⟩ := h.cellAt hlt
      have hkl : k < b.length := by have := HN.out; omega
      rw [bcs_at b k hkl] at hcl
      have hc8 : (b[k]).toNat < 256 := (b[k]).toNat_lt
      have HE := Lib.hid (sumS_take b k hkl)
      have hxl := sX_lt y b[k] hy
      generalize (b[k]).toNat = x at *
      have hxr := u32_xor_nat y x hy (by omega)
      generalize hz : y ^^^ x = z at *
      have HZ := Lib.hid hz
      clear hz
      go_wp2_with fail
      clear hcl hc8 hxr hs hbk hkl
      go_loopg [3, 17] 8 (fun g v i wr => ∃ t q : Nat, g = 8 - t ∧ t ≤ 8 ∧ i = .int .i64 (t : Int) ∧ v = .int .u32 (q : Int) ∧ Hid (q = sTs t z) ∧ q < 4294967296 ∧ w = wr)
      case atStart => exact ⟨0, z, rfl, Nat.zero_le _, rfl, rfl, rfl, hxl, rfl⟩
      case round =>
        obtain ⟨t, q, rfl, ht, rfl, rfl, HQ, hq, rfl⟩ := hrel
        by_cases ht8 : t < 8
        · have ha := and_one q hq
          have hlt2 := sT_lt q hq
          have hx := xor_turn (q / 2) (by omega)
          have e2 : ((q / 2 : Nat) : Int) = (q : Int) / 2 := by omega
          rw [e2] at hx
          rcases Nat.mod_two_eq_zero_or_one q with h0 | h0
          · have HT := Lib.hid (sT_zero q h0)
            rw [h0] at ha
            clear h0
            go_wp2_with fail
            go_roundg (8 - (t + 1))
            case measure => omega
            case rel => exact ⟨t + 1, q / 2, rfl, by omega, by go_num, by go_num, (by unfold Hid; rw [← HT.out, HQ.out]; rfl), by omega, rfl⟩
          · have HT := Lib.hid (sT_one q h0)
            rw [h0] at ha
            rw [HT.out] at hlt2
            clear h0
            go_wp2_with fail
            go_roundg (8 - (t + 1))
            case measure => omega
            case rel => exact ⟨t + 1, (q / 2) ^^^ 3988292384, rfl, by omega, by go_num, rfl, (by unfold Hid; rw [← HT.out, HQ.out]; rfl), hlt2, rfl⟩
        · obtain rfl : t = 8 := by omega
          go_wp2_with fail
          go_roundg (n - (k + 1))
          case measure => omega
          case rel => exact ⟨k + 1, q, rfl, by omega, by go_num, rfl, (by unfold Hid; rw [HE.out, ← HY.out, HZ.out, HQ.out]), hq, rfl⟩
    · obtain rfl : k = n := by omega
      have hfull : Hid (y = sumS b) := by
        unfold Hid
        have := HN.out
        rw [HY.out, List.take_of_length_le (by omega)]
      clear HY h HN
      have hxr : bits .xor .u32 IntKind.u32.max (y : Int) = ((4294967295 - y : Nat) : Int) := xor_all y hy
      have hw : wrap64 ((4294967295 - y : Nat) : Int) = ((4294967295 - y : Nat) : Int) := wrap64_small (by omega) (by omega)
      go_wp2_with fail
      go_ret
      refine ⟨?_, rfl⟩
      have := hfull.out
      unfold sumN
      rw [← this]
      rfl

set_option maxHeartbeats 1000000 in
theorem rsum_any (A : Option Addr) (n c : Nat) (b : List UInt8) (S : Nat → Prop) (w : World) (hn : n = b.length) (h : Rds w S A n (bcs b)) (hb : n ≤ 9223372036854775807) :
    Calls Try.prog 26 #[.slice A n c] w fun e w' => e = .returned (.int .i64 (sumN b : Int)) ∧ w = w' := by
  have HN := Lib.hid hn
  clear hn
  go_enter Try.func26, Try.ntmps26
  go_wp2_with fail
  go_loopg [3, 4] n (fun g v i wr => ∃ k y : Nat, g = n - k ∧ k ≤ n ∧ i = .int .i64 (k : Int) ∧ v = .int .u32 (y : Int) ∧ Hid (y = sumS (b.take k)) ∧ y < 4294967296 ∧ w = wr)
  case atStart => exact ⟨0, 4294967295, rfl, Nat.zero_le _, rfl, rfl, rfl, by omega, rfl⟩
  case round =>
    obtain ⟨k, y, rfl, hk, rfl, rfl, HY, hy, rfl⟩ := hrel
    by_cases hlt : k < n
    · obtain ⟨ad, rfl, hs, hbk, hcl⟩ := h.cellAt hlt
      have hkl : k < b.length := by have := HN.out; omega
      rw [bcs_at b k hkl] at hcl
      have hc8 : (b[k]).toNat < 256 := (b[k]).toNat_lt
      have HE := Lib.hid (sumS_take b k hkl)
      have hxl := sX_lt y b[k] hy
      generalize (b[k]).toNat = x at *
      have hxr := u32_xor_nat y x hy (by omega)
      generalize hz : y ^^^ x = z at *
      have HZ := Lib.hid hz
      clear hz
      go_upto_region 7 with fail
      clear hcl hc8 hxr hs hbk hkl
      go_loopg [3, 5] 8 (fun g v i wr => ∃ t q : Nat, g = 8 - t ∧ t ≤ 8 ∧ i = .int .i64 (t : Int) ∧ v = .int .u32 (q : Int) ∧ Hid (q = sTs t z) ∧ q < 4294967296 ∧ w = wr)
      case atStart => exact ⟨0, z, rfl, Nat.zero_le _, rfl, rfl, rfl, hxl, rfl⟩
      case round =>
        obtain ⟨t, q, rfl, ht, rfl, rfl, HQ, hq, rfl⟩ := hrel
        by_cases ht8 : t < 8
        · have hlt2 := sT_lt q hq
          have hx := xor_turn (q / 2) (by omega)
          have e2 : ((q / 2 : Nat) : Int) = (q : Int) / 2 := by omega
          rw [e2] at hx
          rcases Nat.mod_two_eq_zero_or_one q with h0 | h0
          · have HT := Lib.hid (sT_zero q h0)
            have hm : ((q : Int) % 2 == 1) = false := by simp; omega
            clear h0
            go_wp2_with fail
            go_roundg (8 - (t + 1))
            case measure => omega
            case rel => exact ⟨t + 1, q / 2, rfl, by omega, by go_num, by go_num, (by unfold Hid; rw [← HT.out, HQ.out]; rfl), by omega, rfl⟩
          · have HT := Lib.hid (sT_one q h0)
            have hm : ((q : Int) % 2 == 1) = true := by simp; omega
            rw [HT.out] at hlt2
            clear h0
            go_wp2_with fail
            go_roundg (8 - (t + 1))
            case measure => omega
            case rel => exact ⟨t + 1, (q / 2) ^^^ 3988292384, rfl, by omega, by go_num, rfl, (by unfold Hid; rw [← HT.out, HQ.out]; rfl), hlt2, rfl⟩
        · obtain rfl : t = 8 := by omega
          go_wp2_with fail
          go_roundg (n - (k + 1))
          case measure => omega
          case rel => exact ⟨k + 1, q, rfl, by omega, by go_num, rfl, (by unfold Hid; rw [HE.out, ← HY.out, HZ.out, HQ.out]), hq, rfl⟩
    · obtain rfl : k = n := by omega
      have hfull : Hid (y = sumS b) := by
        unfold Hid
        have := HN.out
        rw [HY.out, List.take_of_length_le (by omega)]
      clear HY h HN
      go_wp2_with fail
      go_ret
      refine ⟨?_, rfl⟩
      have := hfull.out
      unfold sumN
      rw [← this]
      have e : ((4294967295 - y : Nat) : Int) = 4294967295 - (y : Int) := by omega
      rw [e]
      rfl

end Go.Proofs.Ythljmebhbjeeiaa
