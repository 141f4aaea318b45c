/-
  Walks: (*buf.Reader).Get. Conditions: the receiver is a reader in memory or nil.
-/
import Derived.Test.YtbbjecjhkjjbkaaRa
import Derived.Laws.ShiftsVar
namespace Go.Proofs.Ytbbjecjhkjjbkaa
open Go.RowKit

theorem ret_num {a b : Int} (h : a = b) : Ending.returned (.int .i64 a) = .returned (.int .i64 b) := by rw [h]

set_option maxHeartbeats 400000 in
theorem get_nil (n : Int) (w : World) : Calls Try.prog 34 #[.pointer none, .int .i64 n] w fun e w' => e = .returned (.int .i64 0) ∧ w = w' := by
  go_enter Try.func34, Try.ntmps34
  go_wp2
  go_ret
  exact ⟨rfl, rfl⟩

set_option maxHeartbeats 400000 in
theorem get_bad (p : Nat) (S : Nat → Prop) (st : Option (List UInt8)) (n : Int) (w : World) (h : Rd 110 true w p S st) (hn : n < 1 ∨ 8 < n) :
    Calls Try.prog 34 #[.pointer (some ⟨p, 0, none⟩), .int .i64 n] w fun e w' => e = .returned (.int .i64 0) ∧
      Rd 110 true w' p S none ∧ Chg (fun k => k = p) w w' := by
  obtain ⟨hS, A, m, c, f, bs, hblk, hmc, hc, hm, hr, hst⟩ := h
  have hb : Blk w p _ _ := hblk
  clear hm hst
  go_enter Try.func34, Try.ntmps34
  go_wp2_with fail
  refine (wide_no _ _ hn).mono ?_
  rintro e w' ⟨rfl, rfl⟩
  go_wp2_with fail
  refine (rfail _ p _ _ _ hb).mono ?_
  rintro e w' ⟨rfl, hb', hc'⟩
  go_wp2_with fail
  go_ret
  exact ⟨rfl, rd_none hS hb', hc'⟩

set_option maxHeartbeats 400000 in
theorem get_ok (p : Nat) (S : Nat → Prop) (st : Option (List UInt8)) (n : Nat) (w : World) (h : Rd 110 true w p S st) (h1 : 1 ≤ n) (h8 : n ≤ 8) :
    Calls Try.prog 34 #[.pointer (some ⟨p, 0, none⟩), .int .i64 n] w fun e w' => e = .returned (.int .i64 (getS n st).1) ∧
      Rd 110 true w' p S (getS n st).2 ∧ Chg (fun k => k = p) w w' := by
  rw [get_take n st h1 h8]
  have htk := take_any p S st n w h (by omega)
  have hlen8 := take_len8 n st
  generalize takeS n st = ts at *
  obtain ⟨tk, st2⟩ := ts
  have HTK := Lib.hid htk
  clear htk h
  simp only at hlen8
  go_enter Try.func34, Try.ntmps34
  go_wp2_with fail
  refine (wide_yes _ _ (by omega) (by omega)).mono ?_
  rintro e w1 ⟨rfl, rfl⟩
  go_wp2_with fail
  refine HTK.out.mono ?_
  rintro e w1 ⟨A, k, c, rfl, hk, hkc, hcm, hr, hrd, hc⟩
  have HK := Lib.hid hk
  have hk8 : k ≤ 8 := by rw [hk]; omega
  clear hk HTK
  go_wp2_with fail
  go_loopg [5, 19] k (fun q x i wr => ∃ j : Nat, q = k - j ∧ j ≤ k ∧ i = .int .i64 (j : Int) ∧ x = .int .u64 (num (tk.take j) : Int) ∧ w1 = wr)
  case atStart => exact ⟨0, rfl, Nat.zero_le _, rfl, by simp [num], rfl⟩
  case round =>
    obtain ⟨j, rfl, hj, rfl, rfl, rfl⟩ := hrel
    by_cases hlt : j < k
    · obtain ⟨ad, rfl, hs, hbk, hcl⟩ := hr.cellAt hlt
      have hjl : j < tk.length := by have := HK.out; omega
      rw [bcs_at tk j hjl] at hcl
      have hnt := Lib.hid (num_take tk j hjl)
      have hnl := num_lt (tk.take j)
      have hc8 : ((tk[j]).toNat : Int) < 256 := by have := (tk[j]).toNat_lt; omega
      have hp : (256 : Nat) ^ (tk.take j).length ≤ 256 ^ 7 := Nat.pow_le_pow_right (by decide) (by rw [List.length_take]; omega)
      have hx : (num (tk.take j) : Int) < 72057594037927936 := by
        have : (256 : Nat) ^ 7 = 72057594037927936 := by decide
        omega
      clear hnl hp
      generalize num (tk.take j) = x at *
      go_wp2_with fail
      go_roundg (k - (j + 1))
      case measure => omega
      case rel =>
        refine ⟨j + 1, rfl, by omega, by go_num, ?_, rfl⟩
        rw [or_byte _ _ (by omega) (by omega), hnt.out]
    · obtain rfl : j = k := by omega
      have hnn : num tk < 18446744073709551616 := by
        have := num_lt tk
        have hp : (256 : Nat) ^ tk.length ≤ 256 ^ 8 := Nat.pow_le_pow_right (by decide) (by omega)
        have : (256 : Nat) ^ 8 = 18446744073709551616 := by decide
        omega
      have hkk := HK.out
      rw [List.take_of_length_le (by omega)]
      clear hkk
      by_cases hbig : num tk < 9223372036854775808
      · have t1 : ((num tk : Int) / 9223372036854775808 != 0) = false := by
          have : (num tk : Int) / 9223372036854775808 = 0 := Int.ediv_eq_zero_of_lt (by omega) (by omega)
          rw [this]; rfl
        have hb2 : (num tk : Int) ≤ 9223372036854775807 := by omega
        clear hbig hnn
        go_wp2_with fail
        go_ret
        refine ⟨?_, hrd, hc⟩
        first
          | rfl
          | exact ret_num (IntWalk.i64_in _ (by omega))
      · have t1 : ((num tk : Int) / 9223372036854775808 != 0) = true := by
          have : (num tk : Int) / 9223372036854775808 = 1 := by omega
          rw [this]; rfl
        have HNN := Lib.hid hnn
        clear hnn
        obtain ⟨hS, A', m', c', f', bs', hblk, _⟩ := hrd
        have hb' : Blk w1 p _ _ := hblk
        clear hblk hr
        go_wp2_with fail
        refine (rfail _ p _ _ _ hb').mono ?_
        rintro e w' ⟨rfl, hb2, hc'⟩
        go_wp2_with fail
        go_ret
        exact ⟨rfl, rd_none hS hb2, hc.trans hc' (fun _ _ e => e)⟩

end Go.Proofs.Ytbbjecjhkjjbkaa
