/-
  Walks: inet.Check, rutterref04.Check. Conditions: the bytes are read in memory, not more than 100000.
-/
import Derived.Test.YtecnicbicbgapaaDoorKp
import Derived.Test.YtecnicbicbgapaaDoorWc
import Derived.Laws.BitsAllLaws
namespace Go.Proofs.YtecnicbicbgapaaDoor
open Go.RowKit
set_option linter.unusedVariables false

theorem and_low (y : Nat) (h : y < 9223372036854775808) : bits .and .i64 (y : Int) 65535 = ((y % 65536 : Nat) : Int) := by
  show IntKind.i64.wrap ((BitVec.ofInt 64 (y : Int) &&& BitVec.ofInt 64 65535).toNat : Int) = _
  have e : (65535 : Int) = ((65535 : Nat) : Int) := rfl
  rw [e, BitVec.toNat_and, BitVec.ofInt_natCast, BitVec.ofInt_natCast, BitVec.toNat_ofNat, BitVec.toNat_ofNat, Nat.mod_eq_of_lt (by omega), Nat.mod_eq_of_lt (by decide)]
  have h2 : y &&& 65535 = y % 65536 := Nat.and_two_pow_sub_one_eq_mod y 16
  rw [h2]
  exact IntWalk.i64_in _ (by omega)
theorem xor_low (y : Nat) (h : y ≤ 65535) : bits .xor .i64 (y : Int) 65535 = ((65535 - y : Nat) : Int) := by
  show IntKind.i64.wrap ((BitVec.ofInt 64 (y : Int) ^^^ BitVec.ofInt 64 65535).toNat : Int) = _
  have e : (65535 : Int) = ((65535 : Nat) : Int) := rfl
  rw [e, BitVec.toNat_xor, BitVec.ofInt_natCast, BitVec.ofInt_natCast, BitVec.toNat_ofNat, BitVec.toNat_ofNat, Nat.mod_eq_of_lt (by omega), Nat.mod_eq_of_lt (by decide)]
  have h2 : y ^^^ 65535 = 65535 - y := by
    have h3 : (BitVec.ofNat 16 y ^^^ BitVec.allOnes 16).toNat = (~~~ (BitVec.ofNat 16 y)).toNat := by rw [BitVec.xor_allOnes]
    rw [BitVec.toNat_xor, BitVec.toNat_not, BitVec.toNat_allOnes, BitVec.toNat_ofNat, Nat.mod_eq_of_lt (by omega)] at h3
    have h4 : (2 ^ 16 - 1 : Nat) = 65535 := by decide
    rw [h4] at h3
    omega
  rw [h2]
  exact IntWalk.i64_in _ (by omega)

set_option maxHeartbeats 800000 in
theorem check_any (A : Option Addr) (n c : Nat) (b : List UInt8) (S : Nat → Prop) (w : World) (hn : n = b.length) (h : Rds w S A n (bcs b)) (hb : n ≤ 100000) :
    Calls Tryd.prog 10 #[.slice A n c] w fun e w' => e = .returned (.int .i64 (chkB b)) ∧ w = w' := by
  have HN := Lib.hid hn
  clear hn
  go_enter Tryd.func10, Tryd.ntmps10
  go_wp2_with fail
  go_loopg [3, 8] n (fun g v i wr => ∃ k y : Nat, g = n - k ∧ k ≤ n ∧ i = .int .i64 (k : Int) ∧ v = .int .i64 (y : Int) ∧ Hid (y = csum true (b.take k)) ∧ y ≤ 65280 * k ∧ w = wr)
  case atStart => exact ⟨0, 0, rfl, Nat.zero_le _, rfl, rfl, rfl, by omega, rfl⟩
  case round =>
    obtain ⟨k, y, rfl, hk, rfl, rfl, HY, hy, rfl⟩ := hrel
    by_cases hlt : k < n
    · obtain ⟨ad, rfl, hs, hbk, hcl⟩ := h.cellAt hlt
      have hkl : k < b.length := by have := HN.out; omega
      rw [bcs_at b k hkl] at hcl
      have hc8 : (b[k]).toNat < 256 := (b[k]).toNat_lt
      rcases Nat.mod_two_eq_zero_or_one k with h0 | h0
      · have HE := Lib.hid (csum_even b k hkl h0)
        have hm : ((k : Int) % 2 == 0) = true := by simp; omega
        generalize (b[k]).toNat = x at *
        go_wp2_with fail
        go_roundg (n - (k + 1))
        case measure => omega
        case rel => exact ⟨k + 1, y + x * 256, rfl, by omega, by go_num, by go_num, by have := HE.out; have := HY.out; unfold Hid; omega, by omega, rfl⟩
      · have HE := Lib.hid (csum_odd b k hkl h0)
        have hm : ((k : Int) % 2 == 0) = false := by simp; omega
        generalize (b[k]).toNat = x at *
        go_wp2_with fail
        go_roundg (n - (k + 1))
        case measure => omega
        case rel => exact ⟨k + 1, y + x, rfl, by omega, by go_num, by go_num, by have := HE.out; have := HY.out; unfold Hid; omega, by omega, rfl⟩
    · obtain rfl : k = n := by omega
      have hfull : Hid (chk y = chk (csum true b)) := by
        unfold Hid
        have := HN.out
        rw [HY.out, List.take_of_length_le (by omega)]
      clear HY h HN
      go_wp2_with fail
      go_loopg [3] y (fun g v wr => ∃ z : Nat, z = g ∧ v = .int .i64 (z : Int) ∧ Hid (chk z = chk (csum true b)) ∧ z ≤ y ∧ w = wr)
      case atStart => exact ⟨y, rfl, rfl, hfull, Nat.le_refl _, rfl⟩
      case round =>
        obtain ⟨z, rfl, rfl, HZ, hz, rfl⟩ := hrel
        by_cases hbig : 65535 < z
        · have hand := and_low z (by omega)
          have HF := Lib.hid (chk_fold z hbig)
          go_wp2_with fail
          go_roundg (z / 65536 + z % 65536)
          case measure => omega
          case rel => exact ⟨z / 65536 + z % 65536, rfl, by go_num, by unfold Hid; rw [HF.out, HZ.out], by omega, rfl⟩
        · have hx := xor_low z (by omega)
          have HS := Lib.hid (chk_small z (by omega))
          go_wp2_with fail
          go_ret
          refine ⟨?_, rfl⟩
          rw [← HS.out, HZ.out]
          rfl

set_option maxHeartbeats 800000 in
theorem rcheck_any (A : Option Addr) (n c : Nat) (b : List UInt8) (S : Nat → Prop) (w : World) (hn : n = b.length) (h : Rds w S A n (bcs b)) (hb : n ≤ 100000) :
    Calls Tryd.prog 11 #[.slice A n c] w fun e w' => e = .returned (.int .i64 (chkB b)) ∧ w = w' := by
  have HN := Lib.hid hn
  clear hn
  go_enter Tryd.func11, Tryd.ntmps11
  go_wp2_with fail
  go_loopg [3, 4] n (fun g v i wr => ∃ k y : Nat, g = n - k ∧ k ≤ n ∧ i = .int .i64 (k : Int) ∧ v = .int .i64 (y : Int) ∧ Hid (y = csum true (b.take k)) ∧ y ≤ 65280 * k ∧ w = wr)
  case atStart => exact ⟨0, 0, rfl, Nat.zero_le _, rfl, rfl, rfl, by omega, rfl⟩
  case round =>
    obtain ⟨k, y, rfl, hk, rfl, rfl, HY, hy, rfl⟩ := hrel
    by_cases hlt : k < n
    · obtain ⟨ad, rfl, hs, hbk, hcl⟩ := h.cellAt hlt
      have hkl : k < b.length := by have := HN.out; omega
      rw [bcs_at b k hkl] at hcl
      have hc8 : (b[k]).toNat < 256 := (b[k]).toNat_lt
      rcases Nat.mod_two_eq_zero_or_one k with h0 | h0
      · have HE := Lib.hid (csum_even b k hkl h0)
        have hm : ((k : Int) % 2 == 0) = true := by simp; omega
        generalize (b[k]).toNat = x at *
        go_wp2_with fail
        go_roundg (n - (k + 1))
        case measure => omega
        case rel => exact ⟨k + 1, y + 256 * x, rfl, by omega, by go_num, by go_num, by have := HE.out; have := HY.out; unfold Hid; omega, by omega, rfl⟩
      · have HE := Lib.hid (csum_odd b k hkl h0)
        have hm : ((k : Int) % 2 == 0) = false := by simp; omega
        generalize (b[k]).toNat = x at *
        go_wp2_with fail
        go_roundg (n - (k + 1))
        case measure => omega
        case rel => exact ⟨k + 1, y + x, rfl, by omega, by go_num, by go_num, by have := HE.out; have := HY.out; unfold Hid; omega, by omega, rfl⟩
    · obtain rfl : k = n := by omega
      have hfull : Hid (chk y = chk (csum true b)) := by
        unfold Hid
        have := HN.out
        rw [HY.out, List.take_of_length_le (by omega)]
      clear HY h HN
      go_wp2_with fail
      go_loopg [3] y (fun g v wr => ∃ z : Nat, z = g ∧ v = .int .i64 (z : Int) ∧ Hid (chk z = chk (csum true b)) ∧ z ≤ y ∧ w = wr)
      case atStart => exact ⟨y, rfl, rfl, hfull, Nat.le_refl _, rfl⟩
      case round =>
        obtain ⟨z, rfl, rfl, HZ, hz, rfl⟩ := hrel
        by_cases hbig : 65535 < z
        · have HF := Lib.hid (chk_fold z hbig)
          go_wp2_with fail
          go_roundg (z / 65536 + z % 65536)
          case measure => omega
          case rel => exact ⟨z / 65536 + z % 65536, rfl, by go_num, by unfold Hid; rw [HF.out, HZ.out], by omega, rfl⟩
        · have HS := Lib.hid (chk_small z (by omega))
          go_wp2_with fail
          go_ret
          refine ⟨?_, rfl⟩
          have e2 : (65535 : Int) - (z : Int) = chkB b := by
            have := HS.out
            have := HZ.out
            unfold chkB
            omega
          rw [e2]
          rfl
end Go.Proofs.YtecnicbicbgapaaDoor
