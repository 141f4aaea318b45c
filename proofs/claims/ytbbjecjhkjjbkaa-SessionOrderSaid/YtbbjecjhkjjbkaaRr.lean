/-
  Walks: the document's reader: (*rutterref01.Reader).Get, Bytes, Rest, Done. Conditions: the receiver is such a reader in memory.
-/
import Derived.Test.YtbbjecjhkjjbkaaRc
import Derived.Test.YtbbjecjhkjjbkaaSpb
namespace Go.Proofs.Ytbbjecjhkjjbkaa
open Go.RowKit

theorem rr_fail {T : TypeId} {w : World} {p : Nat} {S : Nat → Prop} {A : Option Addr} {n c : Nat} {f : Bool} {bs : List UInt8} (hS : ¬ S p) (hb : Blk w p T #[.slice A n c, .bool f]) (h2 : n ≤ c) (h3 : c ≤ maxLen) (h4 : n = bs.length) (h5 : Rds w S A n (bcs bs)) :
    Rd T false (w.setCell ⟨p, 1, none⟩ (.bool true)) p S none ∧ Chg (fun k => k = p) w (w.setCell ⟨p, 1, none⟩ (.bool true)) := by
  have hc := (Chg.refl (fun k => k = p) w).put p 1 (fun _ => rfl) (.bool true)
  exact ⟨⟨hS, A, n, c, true, bs, hb.set 1 _, h2, h3, h4, h5.chg hc (fun k hk e => by subst e; exact hS hk), rfl, fun h => by cases h⟩, hc⟩
theorem num8 (l : List UInt8) (h : l.length = 8) : (num l < 9223372036854775808) = ((l[0]'(by omega)).toNat ≤ 127) := by
  match l, h with
  | c :: r, h =>
    have hr : r.length = 7 := by simpa using h
    have h1 := num_lt r
    rw [hr] at h1
    have e7 : (256 : Nat) ^ 7 = 72057594037927936 := by decide
    rw [num_cons, hr, e7]
    rw [e7] at h1
    simp only [List.getElem_cons_zero]
    apply propext
    omega

set_option maxHeartbeats 400000 in
theorem rget_bad (p : Nat) (S : Nat → Prop) (st : Option (List UInt8)) (n : Int) (w : World) (h : Rd 89 false w p S st) (hn : n < 1 ∨ 8 < n ∨ st = none ∨ ∃ b, st = some b ∧ (b.length : Int) < n) :
    Calls Try.prog 37 #[.pointer (some ⟨p, 0, none⟩), .int .i64 n] w fun e w' => e = .returned (.int .i64 0) ∧
      Rd 89 false w' p S none ∧ Chg (fun k => k = p) w w' := by
  obtain ⟨hS, A, m, c, f, bs, hblk, hmc, hc, hm, hr, hst⟩ := h
  have hb : Blk w p _ _ := hblk
  have hres := rr_fail hS hb hmc hc hm hr
  have c0 := hb.cell 0
  have c1 := hb.cell 1
  have f1 := hb.frozen 1
  simp only [List.getElem?_toArray, List.getElem?_cons_zero, List.getElem?_cons_succ] at c0 c1
  have HR := Lib.hid hres
  have hmi : (m : Int) ≤ 9223372036854775807 := by unfold maxLen at hc; omega
  have hcase : f = true ∨ (f = false ∧ (n < 1 ∨ (1 ≤ n ∧ 8 < n) ∨ (1 ≤ n ∧ n ≤ 8 ∧ (m : Int) < n))) := by
    cases f
    · right
      refine ⟨rfl, ?_⟩
      rcases hn with h | h | h | ⟨b, h, hl⟩
      · omega
      · omega
      · subst h
        have hff : false = true := hst.1
        cases hff
      · subst h
        obtain ⟨_, rfl⟩ : false = false ∧ b = bs := hst
        omega
    · exact .inl rfl
  clear hn hst hres hm hr hblk
  rcases hcase with rfl | ⟨rfl, h | ⟨h, h2⟩ | ⟨h, h2, h3⟩⟩
  all_goals
    go_enter Try.func37, Try.ntmps37
    go_wp2
    go_ret
    exact ⟨rfl, HR.out.1, HR.out.2⟩

set_option maxHeartbeats 400000 in
theorem rget_big (p : Nat) (S : Nat → Prop) (b : List UInt8) (w : World) (h : Rd 89 false w p S (some b)) (hl : 8 ≤ b.length) (hx : 127 < (b[0]'(by omega)).toNat) :
    Calls Try.prog 37 #[.pointer (some ⟨p, 0, none⟩), .int .i64 8] w fun e w' => e = .returned (.int .i64 0) ∧
      Rd 89 false w' p S none ∧ Chg (fun k => k = p) w w' := by
  obtain ⟨hS, A, m, c, f, bs, hblk, hmc, hc, hm, hr, hst⟩ := h
  obtain ⟨rfl, rfl⟩ : f = false ∧ b = bs := hst
  have hb : Blk w p _ _ := hblk
  have hres := rr_fail hS hb hmc hc hm hr
  have c0 := hb.cell 0
  have c1 := hb.cell 1
  have f1 := hb.frozen 1
  simp only [List.getElem?_toArray, List.getElem?_cons_zero, List.getElem?_cons_succ] at c0 c1
  have HR := Lib.hid hres
  have hmi : (m : Int) ≤ 9223372036854775807 := by unfold maxLen at hc; omega
  obtain ⟨ad, rfl, _, _, hcl⟩ := hr.cellAt (k := 0) (by omega)
  rw [bcs_at b 0 (by omega)] at hcl
  have hm8 : (8 : Int) ≤ (m : Int) := by omega
  have hm8' : 8 ≤ m := by omega
  have hm0 : 0 < m := by omega
  generalize b[0]'(by omega) = x at *
  have hx' : (127 : Int) < (x.toNat : Int) := by omega
  have hcl' : w.cell? ad = some (.int .u8 (x.toNat : Int)) := hcl
  clear hres hm hr hblk hl
  go_enter Try.func37, Try.ntmps37
  go_wp2
  go_ret
  exact ⟨rfl, HR.out.1, HR.out.2⟩

theorem rr_close {w : World} {p : Nat} {S : Nat → Prop} {b : List UInt8} {A A' : Option Addr} {m c n : Nat} {T : TypeId} (hS : ¬ S p) (hb : Blk w p T #[.slice A m c, .bool false])
    (hmc : m ≤ c) (hcm : c ≤ maxLen) (hm : m = b.length) (hle : n ≤ m) (hd : Rds w S A' (m - n) ((bcs b).drop n)) (c2 : Nat) (hc2 : c2 = c - n) :
    Rd T false (w.setCell ⟨p, 0, none⟩ (.slice A' (m - n) c2)) p S (some (b.drop n)) ∧ Chg (fun k => k = p) w (w.setCell ⟨p, 0, none⟩ (.slice A' (m - n) c2)) := by
  subst hc2
  have hcc : Chg (fun k => k = p) w (w.setCell ⟨p, 0, none⟩ (.slice A' (m - n) (c - n))) := (Chg.refl (fun k => k = p) w).put p 0 (fun _ => rfl) _
  refine ⟨⟨hS, A', m - n, c - n, false, b.drop n, hb.set 0 _, by omega, by omega, by rw [List.length_drop]; omega, ?_, rfl, rfl⟩, hcc⟩
  unfold bcs at hd ⊢
  rw [← List.map_drop] at hd
  exact hd.chg hcc (fun k hk e => by subst e; exact hS hk)

theorem rr_close2 {w : World} {p : Nat} {S : Nat → Prop} {b : List UInt8} {A A' : Option Addr} {m c n : Nat} {T : TypeId} (hS : ¬ S p) (hb : Blk w p T #[.slice A m c, .bool false])
    (hmc : m ≤ c) (hcm : c ≤ maxLen) (hm : m = b.length) (hle : n ≤ m) (hd : Rds w S A' (m - n) ((bcs b).drop n)) (A2 : Option Addr) (m2 c2 : Nat) (hA2 : A2 = A') (hm2 : m2 = m - n) (hc2 : c2 = c - n) :
    Rd T false (w.setCell ⟨p, 0, none⟩ (.slice A2 m2 c2)) p S (some (b.drop n)) ∧ Chg (fun k => k = p) w (w.setCell ⟨p, 0, none⟩ (.slice A2 m2 c2)) := by
  subst hA2
  subst hm2
  exact rr_close hS hb hmc hcm hm hle hd c2 hc2

theorem num_mono (b : List UInt8) (j n : Nat) (h : j ≤ n) : num (b.take j) ≤ num (b.take n) := by
  induction n with
  | zero => rw [Nat.le_zero.1 h]; exact Nat.le_refl _
  | succ n ih =>
    rcases Nat.lt_or_ge j (n + 1) with h1 | h1
    · have h2 := ih (by omega)
      rcases Nat.lt_or_ge n b.length with h3 | h3
      · rw [num_take b n h3]
        omega
      · rw [List.take_of_length_le (by omega : b.length ≤ n + 1)]
        rwa [List.take_of_length_le (by omega : b.length ≤ n)] at h2
    · have : j = n + 1 := by omega
      rw [this]
      exact Nat.le_refl _

set_option maxRecDepth 100000 in
set_option maxHeartbeats 600000 in
theorem rget_loop (p : Nat) (S : Nat → Prop) (b : List UInt8) (n : Nat) (w : World) (h : Rd 89 false w p S (some b)) (h1 : 1 ≤ n) (h8 : n ≤ 8) (hl : n ≤ b.length) (hx : n = 8 → (b[0]'(by omega)).toNat ≤ 127) :
    Calls Try.prog 37 #[.pointer (some ⟨p, 0, none⟩), .int .i64 n] w fun e w' => e = .returned (.int .i64 (num (b.take n) : Int)) ∧
      Rd 89 false w' p S (some (b.drop n)) ∧ Chg (fun k => k = p) w w' := by
  have hnum : num (b.take n) < 9223372036854775808 := by
    by_cases hn8 : n = 8
    · have hl8 : (b.take n).length = 8 := by rw [List.length_take]; omega
      rw [num8 _ hl8, List.getElem_take]
      exact hx hn8
    · have h2 := num_lt (b.take n)
      have hp : (256 : Nat) ^ (b.take n).length ≤ 256 ^ 7 := Nat.pow_le_pow_right (by decide) (by rw [List.length_take]; omega)
      have : (256 : Nat) ^ 7 = 72057594037927936 := by decide
      omega
  obtain ⟨hS, A, m, c, f, bs, hblk, hmc, hc, hm, hr, hst⟩ := h
  obtain ⟨rfl, rfl⟩ : f = false ∧ b = bs := hst
  have hb : Blk w p _ _ := hblk
  have c0 := hb.cell 0
  have c1 := hb.cell 1
  have f0 := hb.frozen 0
  simp only [List.getElem?_toArray, List.getElem?_cons_zero, List.getElem?_cons_succ] at c0 c1
  have hcm := hc
  have hmi : (m : Int) ≤ 9223372036854775807 := by unfold maxLen at hc; omega
  have hci : c ≤ 9223372036854775807 := by unfold maxLen at hc; omega
  clear hc
  obtain ⟨ad, rfl, _, _, hcl⟩ := hr.cellAt (k := 0) (by omega)
  rw [bcs_at b 0 (by omega)] at hcl
  have hle : n ≤ m := by omega
  have hm0 : 0 < m := by omega
  generalize b[0]'(by omega) = x at *
  have hcl' : w.cell? ad = some (.int .u8 (x.toNat : Int)) := hcl
  have HNUM := Lib.hid hnum
  have HM := Lib.hid hm
  clear hnum hm hblk hl
  have hcase : n < 8 ∨ (8 ≤ n ∧ (x.toNat : Int) ≤ 127) := by
    by_cases hn8 : n = 8
    · exact .inr ⟨by omega, by have := hx hn8; omega⟩
    · exact .inl (by omega)
  clear hx
  rcases hcase with hn7 | ⟨hn7, hx⟩
  all_goals
    go_enter Try.func37, Try.ntmps37
    go_wp2
    go_loopg [5, 6] n (fun g v i wr => ∃ j : Nat, g = n - j ∧ j ≤ n ∧ i = .int .i64 (j : Int) ∧ v = .int .i64 (num (b.take j) : Int) ∧ w = wr)
    case atStart => exact ⟨0, rfl, Nat.zero_le _, rfl, by simp [num], rfl⟩
    case round =>
      obtain ⟨j, rfl, hj, rfl, rfl, rfl⟩ := hrel
      by_cases hlt : j < n
      · obtain ⟨ad', e, _, _, hcj⟩ := hr.cellAt (k := j) (by omega)
        injection e with e
        subst e
        have hjl : j < b.length := by have := HM.out; omega
        have hjm : j < m := by omega
        rw [bcs_at b j hjl] at hcj
        have hnt := Lib.hid (num_take b j hjl)
        have hmono := num_mono b (j + 1) n (by omega)
        have hy : 256 * (num (b.take j) : Int) + ((b[j]).toNat : Int) ≤ 9223372036854775807 := by
          have h1 := hnt.out
          have h2 := HNUM.out
          omega
        have hy0 : 0 ≤ (num (b.take j) : Int) := Int.natCast_nonneg _
        have hz0 : 0 ≤ ((b[j]).toNat : Int) := Int.natCast_nonneg _
        clear hmono
        generalize num (b.take j) = y at *
        generalize b[j] = z at *
        go_wp2
        go_roundg (n - (j + 1))
        case measure => omega
        case rel =>
          refine ⟨j + 1, rfl, by omega, by go_num, ?_, rfl⟩
          rw [hnt.out]
          go_num
      · obtain rfl : j = n := by omega
        have HJ := Lib.hid hle
        have hd := hr.drop j c hle hmc
        go_wp2
        all_goals
          go_ret
        · rw [if_pos (by omega)] at hd
          exact ⟨rfl, rr_close2 hS hb hmc hcm HM.out hle hd _ _ _ rfl (by omega) (by omega)⟩
        · rw [if_neg (by omega)] at hd
          refine ⟨rfl, rr_close2 hS hb hmc hcm HM.out hle hd _ _ _ ?_ (by omega) (by omega)⟩
          first
            | rfl
            | (have h8j : j = 8 := by omega
               subst h8j
               simp [Addr.add])

theorem rget_any (p : Nat) (S : Nat → Prop) (st : Option (List UInt8)) (n : Int) (w : World) (h : Rd 89 false w p S st) :
    Calls Try.prog 37 #[.pointer (some ⟨p, 0, none⟩), .int .i64 n] w fun e w' => e = .returned (.int .i64 (getS n st).1) ∧
      Rd 89 false w' p S (getS n st).2 ∧ Chg (fun k => k = p) w w' := by
  by_cases hn : 1 ≤ n ∧ n ≤ 8
  · rcases st with _ | b
    · exact rget_bad p S none n w h (.inr (.inr (.inl rfl)))
    · obtain ⟨q, rfl⟩ := Int.eq_ofNat_of_zero_le (show 0 ≤ n by omega)
      by_cases hl : q ≤ b.length
      · have e : getS (q : Int) (some b) = if num (b.take q) < 9223372036854775808 then ((num (b.take q) : Int), some (b.drop q)) else (0, none) := by
          have ht : takeS q (some b) = (b.take q, some (b.drop q)) := if_pos hl
          rw [get_take q _ (by omega) (by omega), ht]
        rw [e]
        by_cases hx : q = 8 ∧ ∃ h0 : 0 < b.length, 127 < (b[0]).toNat
        · obtain ⟨rfl, h0, hx⟩ := hx
          have hl8 : (b.take 8).length = 8 := by rw [List.length_take]; omega
          have hnum : ¬ num (b.take 8) < 9223372036854775808 := by
            rw [num8 _ hl8, List.getElem_take]
            omega
          rw [if_neg hnum]
          exact rget_big p S b w h hl hx
        · have hx8 : q = 8 → (b[0]'(by omega)).toNat ≤ 127 := by
            intro h8
            rcases Nat.lt_or_ge 127 (b[0]'(by omega)).toNat with h9 | h9
            · exact absurd ⟨h8, by omega, h9⟩ hx
            · exact h9
          have hnum : num (b.take q) < 9223372036854775808 := by
            by_cases hn8 : q = 8
            · have hl8 : (b.take q).length = 8 := by rw [List.length_take]; omega
              rw [num8 _ hl8, List.getElem_take]
              exact hx8 hn8
            · have h2 := num_lt (b.take q)
              have hp : (256 : Nat) ^ (b.take q).length ≤ 256 ^ 7 := Nat.pow_le_pow_right (by decide) (by rw [List.length_take]; omega)
              have : (256 : Nat) ^ 7 = 72057594037927936 := by decide
              omega
          rw [if_pos hnum]
          exact rget_loop p S b q w h (by omega) (by omega) hl hx8
      · have e : getS (q : Int) (some b) = (0, none) := if_neg (fun h => hl (by have := h.2.2.1; rwa [Int.toNat_natCast] at this))
        rw [e]
        exact rget_bad p S (some b) q w h (.inr (.inr (.inr ⟨b, rfl, by omega⟩)))
  · rw [get_width n st (by omega)]
    exact rget_bad p S st n w h (by omega)

end Go.Proofs.Ytbbjecjhkjjbkaa
