/-
  Walk: rutterlaw07.DiskPlays. Conditions: the arguments are read in memory.
-/
import Derived.Test.YtmgnnpdogmmopaaLg
namespace Go.Proofs.Ytmgnnpdogmmopaa
open Go.RowKit
set_option linter.unusedVariables false
set_option linter.unusedSimpArgs false

theorem dx_start {W w1 : World} {r : Nat} (hf : Fi 44 w1 W.heap.size none [] 0 r) (hs : w1.heap.size = W.heap.size + 1) (hc : Chg (fun _ => False) W w1) :
    DX W W.heap.size w1.heap.size r (w1.alloc (.cells #[.slice none 0 0, .int .i64 0, .int .i64 (r : Int)] 32)) := by
  have ha : Chg (fun _ => False) w1 (w1.alloc (.cells #[.slice none 0 0, .int .i64 0, .int .i64 (r : Int)] 32)) := (Chg.refl _ w1).alloc _
  refine ⟨[], 0, none, none, ⟨hc.trans ha (fun _ _ e => e), Nat.le_refl _, hc.size, hf.chg ha id (fun _ _ => id), ⟨none, 0, blk_new rfl, World.ownsRow_nil _ 0 _ 1, rfl, by simp⟩, (fun k hk => by cases hk), (fun k hk => by cases hk), (by omega), (fun k hk => by cases hk)⟩, Nat.le_refl _, Nat.zero_le _⟩

set_option maxRecDepth 100000 in
set_option maxHeartbeats 4000000 in
theorem plays7_any (room : Int) (L : Option Addr) (m lc : Nat) (l : List At7) (W : World) (hl : AR7 W (fun k => k < W.heap.size) L m l) (hmc : m ≤ 9223372036854775807) :
    Calls Try.prog 3 #[.int .i64 room, .slice L m lc] W fun e w' => e = .returned (.bool true) ∧ Chg (fun _ => False) W w' := by
  have HF := Lib.hid (fits7_any L m lc l W _ hl hmc)
  have HAL := Lib.hid alive7_any
  go_enter Try.func3, Try.ntmps3
  go_wp2_with fail
  refine HF.out.mono ?_
  rintro e w0 ⟨b, rfl, hb, rfl⟩
  clear HF
  cases b with
  | false =>
    clear hb
    go_wp2_with fail
    refine (HAL.out _).mono ?_
    rintro e w1 ⟨rfl, hc⟩
    go_wp2_with fail
    go_ret
    exact ⟨rfl, hc⟩
  | true =>
    have HS := Lib.hid (hb rfl)
    clear hb
    have hroom : room < 0 ∨ (¬ room < 0 ∧ 16777216 < room) ∨ ∃ r : Nat, room = (r : Int) ∧ r ≤ 16777216 := by
      by_cases h1 : room < 0
      · exact .inl h1
      · by_cases h2 : 16777216 < room
        · exact .inr (.inl ⟨h1, h2⟩)
        · exact .inr (.inr ⟨room.toNat, by omega, by omega⟩)
    rcases hroom with h1 | ⟨h1, h2⟩ | ⟨r, rfl, hr24⟩
    · have HN := Lib.hid (new7_bad room W (.inl h1))
      go_wp2_with fail
      refine HN.out.mono ?_
      rintro e w1 ⟨rfl, rfl⟩
      go_wp2_with fail
      refine (HAL.out _).mono ?_
      rintro e w1 ⟨rfl, hc⟩
      go_wp2_with fail
      go_ret
      exact ⟨rfl, hc⟩
    · have HN := Lib.hid (new7_bad room W (.inr h2))
      go_wp2_with fail
      refine HN.out.mono ?_
      rintro e w1 ⟨rfl, rfl⟩
      go_wp2_with fail
      refine (HAL.out _).mono ?_
      rintro e w1 ⟨rfl, hc⟩
      go_wp2_with fail
      go_ret
      exact ⟨rfl, hc⟩
    · have HN := Lib.hid (new7_ok r W hr24)
      go_wp2_with fail
      refine HN.out.mono ?_
      rintro e w1 ⟨rfl, hf1, hsz, hc1⟩
      have HD0 := Lib.hid (dx_start hf1 hsz hc1)
      clear HN hf1 hsz hc1
      have HL := Lib.hid hl
      clear hl
      go_wp2_with fail
      go_loopg [9, 10] m (fun g i s10 wr => ∃ j : Nat, g = m - j ∧ j ≤ m ∧ i = .int .i64 (j : Int) ∧ Hid (DX W W.heap.size w1.heap.size r wr))
      case atStart => exact ⟨0, rfl, Nat.zero_le _, rfl, HD0⟩
      case round =>
        obtain ⟨j, rfl, hj, rfl, HD⟩ := hrel
        obtain ⟨_, _, _, _, hdf, -⟩ := HD.out
        have HC := Lib.hid hdf.chg
        clear hdf
        by_cases hlt : j < m
        · have hll := HL.out.1
          obtain ⟨ad, rfl, -⟩ := HL.out.2 (by omega)
          have hx : l[j]? = some (l[j]'(by omega)) := List.getElem?_eq_getElem (by omega)
          obtain ⟨-, -, -, hk, hq, -, hrb⟩ := HL.out.at hx
          obtain ⟨z0, z1, z2, -⟩ := (HL.out.chg HC.out (S' := fun _ => False) (fun _ _ => id)).at hx
          have hq3 := HS.out j _ hx
          generalize l[j] = x at *
          have HST := Lib.hid (step7_any x.k x.n x.BA x.bq x.bc x.b W.heap.size w1.heap.size r W wr HD.out hr24 hk hq (by omega) hrb)
          clear hx hk hq hrb hq3 hll HC
          go_wp2_with fail
          refine HST.out.mono ?_
          rintro e w2 ⟨rfl, hd2⟩
          have HD2 := Lib.hid hd2
          clear hd2 HST HD
          go_wp2_with fail
          go_roundg (m - (j + 1))
          case measure => omega
          case rel => exact ⟨j + 1, rfl, by omega, by go_num, HD2⟩
        · go_wp2_with fail
          refine (HAL.out _).mono ?_
          rintro e w2 ⟨rfl, hc2⟩
          replace HC := Lib.hid (HC.out.trans hc2 (fun _ _ e => e))
          clear hc2 HD HS HL HD0 HAL
          go_wp2_with fail
          refine (dadd_nil _ _ _ _).mono ?_
          rintro e w4 ⟨rfl, rfl⟩
          go_wp2_with fail
          refine (dcut_nil _ _).mono ?_
          rintro e w4 ⟨rfl, rfl⟩
          go_wp2_with fail
          refine (dsync_nil _).mono ?_
          rintro e w4 ⟨rfl, rfl⟩
          go_wp2_with fail
          refine (dcrash_nil _ _).mono ?_
          rintro e w4 ⟨rfl, rfl⟩
          go_wp2_with fail
          refine (dsafe_nil _).mono ?_
          rintro e w4 ⟨rfl, rfl⟩
          go_wp2_with fail
          refine (dbytes_nil _).mono ?_
          rintro e w4 ⟨rfl, rfl⟩
          go_wp2_with fail
          go_ret
          exact ⟨rfl, HC.out⟩

end Go.Proofs.Ytmgnnpdogmmopaa
