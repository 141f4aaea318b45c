/-
  Walks: disk.File's Sync, Cut, Crash, Bytes, Safe; each on nil. Conditions: the receiver is a file in memory, or nil; its bytes are no more than its room, which is at most 2^24.
-/
import Derived.Test.YthljmebhbjeeiaaLb
namespace Go.Proofs.Ythljmebhbjeeiaa
open Go.RowKit
set_option linter.unusedVariables false

set_option maxHeartbeats 400000 in
theorem dsync_any (p : Nat) (o : Option Nat) (bs : List UInt8) (s r : Nat) (w : World) (h : Fi 59 w p o bs s r) :
    Calls Try.prog 29 #[.pointer (some ⟨p, 0, none⟩)] w fun e w' => e = .returned (.int .i64 (bs.length : Int)) ∧ Fi 59 w' p o bs bs.length r ∧ Mvd p o o w w' := by
  obtain ⟨A, c, h⟩ := h
  obtain ⟨x0, x1, x2, f0, f1, f2⟩ := h.cells
  have HH := Lib.hid h
  clear h
  go_enter Try.func29, Try.ntmps29
  go_wp2
  go_ret
  obtain ⟨h1, h2⟩ := fl_sync (k := bs.length) HH.out
  exact ⟨rfl, ⟨A, c, h1⟩, mvd_set h2⟩

set_option maxHeartbeats 400000 in
theorem dsafe_any (p : Nat) (o : Option Nat) (bs : List UInt8) (s r : Nat) (w : World) (h : Fi 59 w p o bs s r) :
    Calls Try.prog 20 #[.pointer (some ⟨p, 0, none⟩)] w fun e w' => e = .returned (.int .i64 (s : Int)) ∧ w = w' := by
  obtain ⟨A, c, h⟩ := h
  obtain ⟨x0, x1, x2, f0, f1, f2⟩ := h.cells
  clear h
  go_enter Try.func20, Try.ntmps20
  go_wp2
  go_ret
  exact ⟨rfl, rfl⟩

set_option maxHeartbeats 400000 in
theorem dbytes_any (p : Nat) (o : Option Nat) (bs : List UInt8) (s r : Nat) (w : World) (h : Fi 59 w p o bs s r) (hbr : bs.length ≤ r) (hr24 : r ≤ 16777216) :
    Calls Try.prog 19 #[.pointer (some ⟨p, 0, none⟩)] w fun e w' => ∃ A' c', e = .returned (.slice A' bs.length c') ∧
      w'.ownsRow w.heap.size 5 1 (.slice A' bs.length c') bs.length (bcs bs) ∧ Chg (fun _ => False) w w' := by
  obtain ⟨A, c, h⟩ := h
  obtain ⟨x0, x1, x2, f0, f1, f2⟩ := h.cells
  have HC := Lib.hid (clone7_any A bs.length c bs _ w rfl h.rds (own_nil h.own) (by omega))
  clear h
  go_enter Try.func19, Try.ntmps19
  go_wp2_with fail
  refine HC.out.mono ?_
  rintro e w1 ⟨A1, c1, rfl, hown, hc⟩
  go_wp2_with fail
  go_ret
  exact ⟨A1, c1, rfl, hown, hc⟩

set_option maxHeartbeats 400000 in
theorem dcut_any (p : Nat) (o : Option Nat) (bs : List UInt8) (s r : Nat) (n : Int) (w : World) (h : Fi 59 w p o bs s r) (hbr : bs.length ≤ r) (hr24 : r ≤ 16777216) :
    Calls Try.prog 27 #[.pointer (some ⟨p, 0, none⟩), .int .i64 n] w fun e w' => e = .returned (.int .i64 (cutE bs n)) ∧ Fi 59 w' p o (cutB bs n) (cutS bs s n) r ∧ Mvd p o o w w' := by
  unfold cutE cutB cutS
  by_cases hn : n < 0
  · have hor : n < 0 ∨ (bs.length : Int) < n := .inl hn
    rw [if_pos hor, if_pos hor, if_pos hor]
    have HH := Lib.hid h
    obtain ⟨A, c, h⟩ := h
    obtain ⟨x0, x1, x2, f0, f1, f2⟩ := h.cells
    clear h hor
    go_enter Try.func27, Try.ntmps27
    go_wp2_with fail
    go_ret
    exact ⟨rfl, HH.out, Mvd.refl _ _ _⟩
  · by_cases hb : (bs.length : Int) < n
    · have hor : n < 0 ∨ (bs.length : Int) < n := .inr hb
      rw [if_pos hor, if_pos hor, if_pos hor]
      have HH := Lib.hid h
      obtain ⟨A, c, h⟩ := h
      obtain ⟨x0, x1, x2, f0, f1, f2⟩ := h.cells
      clear h hor
      go_enter Try.func27, Try.ntmps27
      go_wp2_with fail
      go_ret
      exact ⟨rfl, HH.out, Mvd.refl _ _ _⟩
    · rw [if_neg (by omega), if_neg (by omega), if_neg (by omega)]
      obtain ⟨k, rfl⟩ := Int.eq_ofNat_of_zero_le (show 0 ≤ n by omega)
      have HS := Lib.hid (stay7 p o bs s r k w h (by omega))
      obtain ⟨A, c, h⟩ := h
      obtain ⟨x0, x1, x2, f0, f1, f2⟩ := h.cells
      clear h
      go_enter Try.func27, Try.ntmps27
      go_wp2_with fail
      refine HS.out.mono ?_
      rintro e w1 ⟨rfl, hf, hm⟩
      go_wp2_with fail
      go_ret
      exact ⟨rfl, hf, hm⟩

set_option maxHeartbeats 400000 in
theorem dcrash_any (p : Nat) (o : Option Nat) (bs : List UInt8) (s r : Nat) (keep : Int) (w : World) (h : Fi 59 w p o bs s r) (hs : s ≤ bs.length) (hbr : bs.length ≤ r) (hr24 : r ≤ 16777216) :
    Calls Try.prog 13 #[.pointer (some ⟨p, 0, none⟩), .int .i64 keep] w fun e w' => e = .returned (.int .i64 ((bs.length : Int) - (crN bs s keep : Int))) ∧
      Fi 59 w' p o (bs.take (crN bs s keep)) (crN bs s keep) r ∧ Mvd p o o w w' := by
  have hk : ∃ k : Nat, crN bs s keep = s + k ∧ s + k ≤ bs.length ∧ ((keep ≤ 0 ∧ k = 0) ∨ (0 < keep ∧ keep ≤ (bs.length : Int) - s ∧ keep = (k : Int)) ∨ (0 < keep ∧ (bs.length : Int) - s < keep ∧ k = bs.length - s)) :=
    ⟨min keep.toNat (bs.length - s), rfl, by omega, by omega⟩
  obtain ⟨k, hk1, hk2, hk3⟩ := hk
  rw [hk1]
  have HS := Lib.hid (fun (z : Int) (hz : z = ((s + k : Nat) : Int)) (W : World) (hw : Chg (fun _ => False) w W) => (show Calls Try.prog 30 #[.pointer (some ⟨p, 0, none⟩), .int .i64 z] W fun e w' => e = .returned (.tuple #[]) ∧ Fi 59 w' p o (bs.take (s + k)) (s + k) r ∧ Mvd p o o W w' from hz ▸ stay7 p o bs s r (s + k) W (h.chg hw id (fun _ _ => id)) hk2))
  obtain ⟨A, c, h⟩ := h
  obtain ⟨x0, x1, x2, f0, f1, f2⟩ := h.cells
  have e1 : IntKind.i64.wrap ((bs.length : Int) - (s : Int)) = (bs.length : Int) - (s : Int) := IntWalk.i64_in _ (by omega)
  have HX := Lib.hid (Chg.refl (fun _ => False) w).drew
  have hz : ∀ z : Int, z = (bs.length : Int) - ((s + k : Nat) : Int) → Ending.returned (.int .i64 z) = .returned (.int .i64 ((bs.length : Int) - ((s + k : Nat) : Int))) := fun z hz => by rw [hz]
  have HZ := Lib.hid hz
  clear h hk1 hz
  rcases hk3 with ⟨h1, h2⟩ | ⟨h1, h2, h3⟩ | ⟨h1, h2, h3⟩
  all_goals
    go_enter Try.func13, Try.ntmps13
    go_wp2_with fail
    go_region
    all_goals
      go_wp2_with fail
      all_goals first
        | (exfalso; omega)
        | (refine (HS.out _ (by omega) _ HX.out).mono ?_
           rintro e w1 ⟨rfl, hf, hm⟩
           go_wp2_with fail
           go_ret
           exact ⟨HZ.out _ (by omega), hf, Mvd.pre HX.out hm⟩)

/-- On nil. -/
theorem dadd_nil (B : Option Addr) (q c : Nat) (w : World) : Calls Try.prog 31 #[.pointer none, .slice B q c] w fun e w' => e = .returned (.int .i64 1) ∧ w = w' := by
  go_enter Try.func31, Try.ntmps31
  go_wp2
  go_ret
  exact ⟨rfl, rfl⟩
theorem dcut_nil (n : Int) (w : World) : Calls Try.prog 27 #[.pointer none, .int .i64 n] w fun e w' => e = .returned (.int .i64 1) ∧ w = w' := by
  go_enter Try.func27, Try.ntmps27
  go_wp2
  go_ret
  exact ⟨rfl, rfl⟩
theorem dcrash_nil (n : Int) (w : World) : Calls Try.prog 13 #[.pointer none, .int .i64 n] w fun e w' => e = .returned (.int .i64 0) ∧ w = w' := by
  go_enter Try.func13, Try.ntmps13
  go_wp2
  go_ret
  exact ⟨rfl, rfl⟩
theorem dsync_nil (w : World) : Calls Try.prog 29 #[.pointer none] w fun e w' => e = .returned (.int .i64 0) ∧ w = w' := by
  go_enter Try.func29, Try.ntmps29
  go_wp2
  go_ret
  exact ⟨rfl, rfl⟩
theorem dsafe_nil (w : World) : Calls Try.prog 20 #[.pointer none] w fun e w' => e = .returned (.int .i64 0) ∧ w = w' := by
  go_enter Try.func20, Try.ntmps20
  go_wp2
  go_ret
  exact ⟨rfl, rfl⟩
theorem dbytes_nil (w : World) : Calls Try.prog 19 #[.pointer none] w fun e w' => e = .returned (.slice none 0 0) ∧ w = w' := by
  go_enter Try.func19, Try.ntmps19
  go_wp2
  go_ret
  exact ⟨rfl, rfl⟩

end Go.Proofs.Ythljmebhbjeeiaa
