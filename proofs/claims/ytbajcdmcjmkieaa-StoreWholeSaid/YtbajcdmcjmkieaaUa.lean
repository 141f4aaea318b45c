/-
  The cells of a row, a message and a record; may a row be? Walks: control.within, chassis, nobody, named, held, Row. Conditions: none.
-/
import Derived.Test.YtbajcdmcjmkieaaM1
namespace Go.Proofs.Ytbajcdmcjmkieaa
open Go.RowKit
set_option linter.unusedVariables false

/-- A row's, a message's, a record's cells. -/
def rvC (po ma ow ta ol ge ph ve si : Int) : Array Value := #[.int .i64 po, .int .u64 ma, .int .i64 ow, .int .i64 ta, .int .i64 ol, .int .i64 ge, .int .i64 ph, .int .i64 ve, .int .i64 si]
def msC (kd po ma ow ta ol ge ph ve si pt vr : Int) (A : Option Addr) (n c : Nat) : Array Value := #[.int .i64 kd, .int .i64 po, .int .u64 ma, .int .i64 ow, .int .i64 ta, .int .i64 ol, .int .i64 ge, .int .i64 ph, .int .i64 ve, .int .i64 si, .int .i64 pt, .int .i64 vr, .slice A n c]
def rcC (pr sr ds sp dp un : Int) : Array Value := #[.int .i64 pr, .int .u32 sr, .int .u32 ds, .int .i64 sp, .int .i64 dp, .int .i64 un]
theorem chg_eq6 {S : Nat → Prop} {a w w' : World} {o : Obj} (h : Chg S a w) (e : w.alloc o = w') : Chg S a w' := e ▸ h.alloc o
theorem rv_cells {w : World} {q : Nat} {po ma ow ta ol ge ph ve si : Int} {T : TypeId} (hb : Blk w q T (rvC po ma ow ta ol ge ph ve si)) :
    w.cell? ⟨q, 0, none⟩ = some (.int .i64 po) ∧ w.cell? ⟨q, 1, none⟩ = some (.int .u64 ma) ∧ w.cell? ⟨q, 2, none⟩ = some (.int .i64 ow) ∧ w.cell? ⟨q, 3, none⟩ = some (.int .i64 ta) ∧ w.cell? ⟨q, 4, none⟩ = some (.int .i64 ol) ∧ w.cell? ⟨q, 5, none⟩ = some (.int .i64 ge) ∧ w.cell? ⟨q, 6, none⟩ = some (.int .i64 ph) ∧ w.cell? ⟨q, 7, none⟩ = some (.int .i64 ve) ∧ w.cell? ⟨q, 8, none⟩ = some (.int .i64 si) := by
  have x0 := hb.cell 0
  have x1 := hb.cell 1
  have x2 := hb.cell 2
  have x3 := hb.cell 3
  have x4 := hb.cell 4
  have x5 := hb.cell 5
  have x6 := hb.cell 6
  have x7 := hb.cell 7
  have x8 := hb.cell 8
  simp only [rvC, List.getElem?_toArray, List.getElem?_cons_zero, List.getElem?_cons_succ] at x0 x1 x2 x3 x4 x5 x6 x7 x8
  exact ⟨x0, x1, x2, x3, x4, x5, x6, x7, x8⟩
theorem rv_kept {w w' : World} {q : Nat} {po ma ow ta ol ge ph ve si : Int} {T : TypeId} (hb : Blk w q T (rvC po ma ow ta ol ge ph ve si)) (h : Chg (fun _ => False) w w') :
    w'.cell? ⟨q, 0, none⟩ = some (.int .i64 po) ∧ w'.cell? ⟨q, 1, none⟩ = some (.int .u64 ma) ∧ w'.cell? ⟨q, 2, none⟩ = some (.int .i64 ow) ∧ w'.cell? ⟨q, 3, none⟩ = some (.int .i64 ta) ∧ w'.cell? ⟨q, 4, none⟩ = some (.int .i64 ol) ∧ w'.cell? ⟨q, 5, none⟩ = some (.int .i64 ge) ∧ w'.cell? ⟨q, 6, none⟩ = some (.int .i64 ph) ∧ w'.cell? ⟨q, 7, none⟩ = some (.int .i64 ve) ∧ w'.cell? ⟨q, 8, none⟩ = some (.int .i64 si) := rv_cells (hb.chg h id)
theorem ms_cells {w : World} {q : Nat} {kd po ma ow ta ol ge ph ve si pt vr : Int} {A : Option Addr} {n c : Nat} {T : TypeId} (hb : Blk w q T (msC kd po ma ow ta ol ge ph ve si pt vr A n c)) :
    w.cell? ⟨q, 0, none⟩ = some (.int .i64 kd) ∧ w.cell? ⟨q, 1, none⟩ = some (.int .i64 po) ∧ w.cell? ⟨q, 2, none⟩ = some (.int .u64 ma) ∧ w.cell? ⟨q, 3, none⟩ = some (.int .i64 ow) ∧ w.cell? ⟨q, 4, none⟩ = some (.int .i64 ta) ∧ w.cell? ⟨q, 5, none⟩ = some (.int .i64 ol) ∧ w.cell? ⟨q, 6, none⟩ = some (.int .i64 ge) ∧ w.cell? ⟨q, 7, none⟩ = some (.int .i64 ph) ∧ w.cell? ⟨q, 8, none⟩ = some (.int .i64 ve) ∧ w.cell? ⟨q, 9, none⟩ = some (.int .i64 si) ∧ w.cell? ⟨q, 10, none⟩ = some (.int .i64 pt) ∧ w.cell? ⟨q, 11, none⟩ = some (.int .i64 vr) ∧ w.cell? ⟨q, 12, none⟩ = some (.slice A n c) := by
  have x0 := hb.cell 0
  have x1 := hb.cell 1
  have x2 := hb.cell 2
  have x3 := hb.cell 3
  have x4 := hb.cell 4
  have x5 := hb.cell 5
  have x6 := hb.cell 6
  have x7 := hb.cell 7
  have x8 := hb.cell 8
  have x9 := hb.cell 9
  have x10 := hb.cell 10
  have x11 := hb.cell 11
  have x12 := hb.cell 12
  simp only [msC, List.getElem?_toArray, List.getElem?_cons_zero, List.getElem?_cons_succ] at x0 x1 x2 x3 x4 x5 x6 x7 x8 x9 x10 x11 x12
  exact ⟨x0, x1, x2, x3, x4, x5, x6, x7, x8, x9, x10, x11, x12⟩
theorem ms_kept {w w' : World} {q : Nat} {kd po ma ow ta ol ge ph ve si pt vr : Int} {A : Option Addr} {n c : Nat} {T : TypeId} (hb : Blk w q T (msC kd po ma ow ta ol ge ph ve si pt vr A n c)) (h : Chg (fun _ => False) w w') :
    w'.cell? ⟨q, 0, none⟩ = some (.int .i64 kd) ∧ w'.cell? ⟨q, 1, none⟩ = some (.int .i64 po) ∧ w'.cell? ⟨q, 2, none⟩ = some (.int .u64 ma) ∧ w'.cell? ⟨q, 3, none⟩ = some (.int .i64 ow) ∧ w'.cell? ⟨q, 4, none⟩ = some (.int .i64 ta) ∧ w'.cell? ⟨q, 5, none⟩ = some (.int .i64 ol) ∧ w'.cell? ⟨q, 6, none⟩ = some (.int .i64 ge) ∧ w'.cell? ⟨q, 7, none⟩ = some (.int .i64 ph) ∧ w'.cell? ⟨q, 8, none⟩ = some (.int .i64 ve) ∧ w'.cell? ⟨q, 9, none⟩ = some (.int .i64 si) ∧ w'.cell? ⟨q, 10, none⟩ = some (.int .i64 pt) ∧ w'.cell? ⟨q, 11, none⟩ = some (.int .i64 vr) ∧ w'.cell? ⟨q, 12, none⟩ = some (.slice A n c) := ms_cells (hb.chg h id)
theorem rc_cells {w : World} {q : Nat} {pr sr ds sp dp un : Int} {T : TypeId} (hb : Blk w q T (rcC pr sr ds sp dp un)) :
    w.cell? ⟨q, 0, none⟩ = some (.int .i64 pr) ∧ w.cell? ⟨q, 1, none⟩ = some (.int .u32 sr) ∧ w.cell? ⟨q, 2, none⟩ = some (.int .u32 ds) ∧ w.cell? ⟨q, 3, none⟩ = some (.int .i64 sp) ∧ w.cell? ⟨q, 4, none⟩ = some (.int .i64 dp) ∧ w.cell? ⟨q, 5, none⟩ = some (.int .i64 un) := by
  have x0 := hb.cell 0
  have x1 := hb.cell 1
  have x2 := hb.cell 2
  have x3 := hb.cell 3
  have x4 := hb.cell 4
  have x5 := hb.cell 5
  simp only [rcC, List.getElem?_toArray, List.getElem?_cons_zero, List.getElem?_cons_succ] at x0 x1 x2 x3 x4 x5
  exact ⟨x0, x1, x2, x3, x4, x5⟩
theorem rc_kept {w w' : World} {q : Nat} {pr sr ds sp dp un : Int} {T : TypeId} (hb : Blk w q T (rcC pr sr ds sp dp un)) (h : Chg (fun _ => False) w w') :
    w'.cell? ⟨q, 0, none⟩ = some (.int .i64 pr) ∧ w'.cell? ⟨q, 1, none⟩ = some (.int .u32 sr) ∧ w'.cell? ⟨q, 2, none⟩ = some (.int .u32 ds) ∧ w'.cell? ⟨q, 3, none⟩ = some (.int .i64 sp) ∧ w'.cell? ⟨q, 4, none⟩ = some (.int .i64 dp) ∧ w'.cell? ⟨q, 5, none⟩ = some (.int .i64 un) := rc_cells (hb.chg h id)

def heldB (ph ow ta ol : Int) : Bool :=
  if ph = 0 then withinB 0 15 [ow] && withinB (-1) (-1) [ta, ol]
  else if ph = 1 then withinB 0 15 [ow, ta] && (!(ow == ta) && withinB (-1) (-1) [ol])
  else if ph = 2 then withinB 0 15 [ow, ol] && (!(ow == ol) && withinB (-1) (-1) [ta])
  else if ph = 3 then withinB (-1) (-1) [ow, ta, ol]
  else false
def namedB (p v : Int) : Bool := withinB 0 31 [p] && withinB 1 1099511627776 [v]
/-- May a row be? -/
def rwR (po ma ow ta ol ge ph ve si : Int) : Bool := namedB po ve && (decide (ma ≤ 281474976710655) && (withinB 1 4294967296 [ge] && (withinB 0 1099511627776 [si] && heldB ph ow ta ol)))

set_option maxHeartbeats 400000 in
theorem cwithin_t (lo hi : Int) (l : List Int) (A : Option Addr) (n c : Nat) (S : Nat → Prop) (w : World) (hn : n = l.length) (hr : Rds w S A n (l.map (Value.int .i64))) (hb : n ≤ 1000) :
    Calls Try.prog 62 #[.int .i64 lo, .int .i64 hi, .slice A n c] w fun e w' => e = .returned (.bool (withinB lo hi l)) ∧ w = w' := by
  have HN := Lib.hid hn
  clear hn
  go_enter Try.func62, Try.ntmps62
  go_wp2
  go_loop [8, 11] (fun _ i => ∃ k : Nat, k ≤ n ∧ i = .int .i64 k ∧ ∀ j (hj : j < l.length), j < k → lo ≤ l[j] ∧ l[j] ≤ hi) (fun _ i => n - (intOf i).toNat)
  case atStart => exact ⟨0, Nat.zero_le _, rfl, fun j _ h => absurd h (Nat.not_lt_zero _)⟩
  case round =>
    obtain ⟨k, hk, rfl, hall⟩ := hrel
    have HA := Lib.hid hall
    clear hall
    by_cases hlt : k < n
    · obtain ⟨ad, rfl, _, _, hc⟩ := hr.cellAt hlt
      have hkl : k < l.length := by have := HN.out; omega
      rw [List.getElem?_map, List.getElem?_eq_getElem hkl] at hc
      simp only [Option.map_some] at hc
      have hv : ∃ x, x = l[k] := ⟨_, rfl⟩
      obtain ⟨x, hxe⟩ := hv
      rw [← hxe] at hc
      have HX := Lib.hid hxe
      clear hxe
      by_cases h1 : x < lo
      · go_wp2
        go_ret
        exact ⟨ret_b (within_false k hkl (by have := HX.out; omega)).symm, rfl⟩
      · by_cases h2 : hi < x
        · go_wp2
          go_ret
          exact ⟨ret_b (within_false k hkl (by have := HX.out; omega)).symm, rfl⟩
        · go_wp2
          go_round
          case rel => exact ⟨k + 1, by omega, by go_num, fun j hj hjk => by
            by_cases e : j < k
            · exact HA.out j hj e
            · have : j = k := by omega
              subst this
              have := HX.out
              omega⟩
          case measure => simp [intOf]; omega
    · have : k = n := by omega
      subst this
      go_wp2
      go_ret
      exact ⟨ret_b (within_true (fun j hj => HA.out j hj (by have := HN.out; omega))).symm, rfl⟩

set_option maxHeartbeats 400000 in
theorem chassis_t (l : List Int) (A : Option Addr) (n c : Nat) (S : Nat → Prop) (w : World) (hn : n = l.length) (hr : Rds w S A n (l.map (Value.int .i64))) (hb : n ≤ 1000) :
    Calls Try.prog 76 #[.slice A n c] w fun e w' => e = .returned (.bool (withinB 0 15 l)) ∧ w = w' := by
  have HW := Lib.hid (cwithin_t 0 15 l A n c S w hn hr hb)
  clear hn hr
  go_enter Try.func76, Try.ntmps76
  go_wp2_with fail
  refine HW.out.mono ?_
  rintro e w' ⟨rfl, rfl⟩
  go_wp2_with fail
  go_ret
  exact ⟨rfl, rfl⟩

set_option maxHeartbeats 400000 in
theorem nobody_t (l : List Int) (A : Option Addr) (n c : Nat) (S : Nat → Prop) (w : World) (hn : n = l.length) (hr : Rds w S A n (l.map (Value.int .i64))) (hb : n ≤ 1000) :
    Calls Try.prog 77 #[.slice A n c] w fun e w' => e = .returned (.bool (withinB (-1) (-1) l)) ∧ w = w' := by
  have HW := Lib.hid (cwithin_t (-1) (-1) l A n c S w hn hr hb)
  clear hn hr
  go_enter Try.func77, Try.ntmps77
  go_wp2_with fail
  refine HW.out.mono ?_
  rintro e w' ⟨rfl, rfl⟩
  go_wp2_with fail
  go_ret
  exact ⟨rfl, rfl⟩

set_option maxHeartbeats 400000 in
theorem named_any (p v : Int) (w : World) : Calls Try.prog 61 #[.int .i64 p, .int .i64 v] w fun e w' => e = .returned (.bool (namedB p v)) ∧ Chg (fun _ => False) w w' := by
  have HX := Lib.hid (Chg.refl (fun _ => False) w)
  unfold namedB
  generalize hb1 : withinB 0 31 [p] = b1
  generalize hb2 : withinB 1 1099511627776 [v] = b2
  have HB1 := Lib.hid hb1
  have HB2 := Lib.hid hb2
  clear hb1 hb2
  cases b1 with
  | false =>
    go_enter Try.func61, Try.ntmps61
    go_wp2_with fail
    refine (cwithin_t 0 31 [p] _ 1 1 _ _ rfl (rds_new1 _ _ _ _ _ rfl _ _ rfl rfl) (by decide)).mono ?_
    rw [HB1.out]
    rintro e w1 ⟨rfl, hw⟩
    have HX := Lib.hid (chg_eq6 HX.out hw)
    clear hw
    go_wp2_with fail
    go_ret
    exact ⟨rfl, HX.out⟩
  | true =>
    go_enter Try.func61, Try.ntmps61
    go_wp2_with fail
    refine (cwithin_t 0 31 [p] _ 1 1 _ _ rfl (rds_new1 _ _ _ _ _ rfl _ _ rfl rfl) (by decide)).mono ?_
    rw [HB1.out]
    rintro e w1 ⟨rfl, hw⟩
    have HX := Lib.hid (chg_eq6 HX.out hw)
    clear hw
    go_wp2_with fail
    refine (cwithin_t 1 1099511627776 [v] _ 1 1 _ _ rfl (rds_new1 _ _ _ _ _ rfl _ _ rfl rfl) (by decide)).mono ?_
    rw [HB2.out]
    rintro e w2 ⟨rfl, hw⟩
    have HX := Lib.hid (chg_eq6 HX.out hw)
    clear hw
    go_wp2_with fail
    go_ret
    exact ⟨rfl, HX.out⟩

set_option maxHeartbeats 2000000 in
theorem held_any (po ma ow ta ol ge ph ve si : Int) (w : World) : Calls Try.prog 63 #[.agg (rvC po ma ow ta ol ge ph ve si)] w fun e w' => e = .returned (.bool (heldB ph ow ta ol)) ∧ Chg (fun _ => False) w w' := by
  have HX := Lib.hid (Chg.refl (fun _ => False) (w.alloc (.cells #[.int .i64 po, .int .u64 ma, .int .i64 ow, .int .i64 ta, .int .i64 ol, .int .i64 ge, .int .i64 ph, .int .i64 ve, .int .i64 si] 33)))
  have HB0 : Hid (Blk (w.alloc (.cells #[.int .i64 po, .int .u64 ma, .int .i64 ow, .int .i64 ta, .int .i64 ol, .int .i64 ge, .int .i64 ph, .int .i64 ve, .int .i64 si] 33)) w.heap.size 33 (rvC po ma ow ta ol ge ph ve si)) := Lib.hid (blk_new rfl)
  have HC0 := Lib.hid ((Chg.refl (fun _ => False) w).alloc (.cells #[.int .i64 po, .int .u64 ma, .int .i64 ow, .int .i64 ta, .int .i64 ol, .int .i64 ge, .int .i64 ph, .int .i64 ve, .int .i64 si] 33))
  unfold rvC
  by_cases h0 : ph = 0
  case pos =>
    subst h0
    have hh : heldB 0 ow ta ol = (withinB 0 15 [ow] && withinB (-1) (-1) [ta, ol]) := rfl
    rw [hh]
    clear hh
    generalize hb1 : withinB 0 15 [ow] = b1
    have HB1 := Lib.hid hb1
    clear hb1
    generalize hb2 : withinB (-1) (-1) [ta, ol] = b2
    have HB2 := Lib.hid hb2
    clear hb2
    cases b1 with
    | false =>
      go_enter Try.func63, Try.ntmps63
      go_wp2_with fail
      refine (chassis_t  [ow] _ 1 1 _ _ rfl (rds_new1 _ _ _ _ _ (by simp) _ _ rfl rfl) (by decide)).mono ?_
      rw [HB1.out]
      rintro e w1 ⟨rfl, hw⟩
      have HX := Lib.hid (chg_eq6 HX.out hw)
      clear hw
      obtain ⟨y0, y1, y2, y3, y4, y5, y6, y7, y8⟩ := rv_kept HB0.out HX.out
      go_wp2_with fail
      go_ret
      exact ⟨rfl, HC0.out.trans HX.out (fun _ _ e => e)⟩
    | true =>
      go_enter Try.func63, Try.ntmps63
      go_wp2_with fail
      refine (chassis_t  [ow] _ 1 1 _ _ rfl (rds_new1 _ _ _ _ _ (by simp) _ _ rfl rfl) (by decide)).mono ?_
      rw [HB1.out]
      rintro e w1 ⟨rfl, hw⟩
      have HX := Lib.hid (chg_eq6 HX.out hw)
      clear hw
      obtain ⟨y0, y1, y2, y3, y4, y5, y6, y7, y8⟩ := rv_kept HB0.out HX.out
      go_wp2_with fail
      refine (nobody_t  [ta, ol] _ 2 2 _ _ rfl (rds_new1 _ _ _ _ _ rfl _ _ rfl rfl) (by decide)).mono ?_
      rw [HB2.out]
      rintro e w2 ⟨rfl, hw⟩
      have HX := Lib.hid (chg_eq6 HX.out hw)
      clear hw
      clear y0 y1 y2 y3 y4 y5 y6 y7 y8
      obtain ⟨y0, y1, y2, y3, y4, y5, y6, y7, y8⟩ := rv_kept HB0.out HX.out
      go_wp2_with fail
      go_ret
      exact ⟨rfl, HC0.out.trans HX.out (fun _ _ e => e)⟩
  by_cases h1 : ph = 1
  case pos =>
    subst h1
    have hh : heldB 1 ow ta ol = (withinB 0 15 [ow, ta] && (!(ow == ta) && withinB (-1) (-1) [ol])) := rfl
    rw [hh]
    clear hh
    generalize hb1 : withinB 0 15 [ow, ta] = b1
    have HB1 := Lib.hid hb1
    clear hb1
    generalize hb2 : withinB (-1) (-1) [ol] = b2
    have HB2 := Lib.hid hb2
    clear hb2
    cases b1 with
    | false =>
      go_enter Try.func63, Try.ntmps63
      go_wp2_with fail
      refine (chassis_t  [ow, ta] _ 2 2 _ _ rfl (rds_new1 _ _ _ _ _ (by simp) _ _ rfl rfl) (by decide)).mono ?_
      rw [HB1.out]
      rintro e w1 ⟨rfl, hw⟩
      have HX := Lib.hid (chg_eq6 HX.out hw)
      clear hw
      obtain ⟨y0, y1, y2, y3, y4, y5, y6, y7, y8⟩ := rv_kept HB0.out HX.out
      go_wp2_with fail
      go_ret
      exact ⟨rfl, HC0.out.trans HX.out (fun _ _ e => e)⟩
    | true =>
      by_cases he : ow = ta
      · subst he
        have hR := Lib.hid (show (true && (!(ow == ow) && b2)) = false by simp)
        go_enter Try.func63, Try.ntmps63
        go_wp2_with fail
        refine (chassis_t  [ow, ow] _ 2 2 _ _ rfl (rds_new1 _ _ _ _ _ (by simp) _ _ rfl rfl) (by decide)).mono ?_
        rw [HB1.out]
        rintro e w1 ⟨rfl, hw⟩
        have HX := Lib.hid (chg_eq6 HX.out hw)
        clear hw
        obtain ⟨y0, y1, y2, y3, y4, y5, y6, y7, y8⟩ := rv_kept HB0.out HX.out
        go_wp2_with fail
        go_ret
        exact ⟨ret_b hR.out.symm, HC0.out.trans HX.out (fun _ _ e => e)⟩
      · have te : (ow == ta) = false := by simpa using he
        have se : (ow != ta) = true := by simpa using he
        have hR := Lib.hid (show (true && (!(ow == ta) && b2)) = b2 by rw [te]; rfl)
        clear he
        go_enter Try.func63, Try.ntmps63
        go_wp2_with fail
        refine (chassis_t  [ow, ta] _ 2 2 _ _ rfl (rds_new1 _ _ _ _ _ (by simp) _ _ rfl rfl) (by decide)).mono ?_
        rw [HB1.out]
        rintro e w1 ⟨rfl, hw⟩
        have HX := Lib.hid (chg_eq6 HX.out hw)
        clear hw
        obtain ⟨y0, y1, y2, y3, y4, y5, y6, y7, y8⟩ := rv_kept HB0.out HX.out
        go_wp2_with fail
        refine (nobody_t  [ol] _ 1 1 _ _ rfl (rds_new1 _ _ _ _ _ rfl _ _ rfl rfl) (by decide)).mono ?_
        rw [HB2.out]
        rintro e w2 ⟨rfl, hw⟩
        have HX := Lib.hid (chg_eq6 HX.out hw)
        clear hw
        clear y0 y1 y2 y3 y4 y5 y6 y7 y8
        obtain ⟨y0, y1, y2, y3, y4, y5, y6, y7, y8⟩ := rv_kept HB0.out HX.out
        go_wp2_with fail
        go_ret
        exact ⟨ret_b hR.out.symm, HC0.out.trans HX.out (fun _ _ e => e)⟩
  by_cases h2 : ph = 2
  case pos =>
    subst h2
    have hh : heldB 2 ow ta ol = (withinB 0 15 [ow, ol] && (!(ow == ol) && withinB (-1) (-1) [ta])) := rfl
    rw [hh]
    clear hh
    generalize hb1 : withinB 0 15 [ow, ol] = b1
    have HB1 := Lib.hid hb1
    clear hb1
    generalize hb2 : withinB (-1) (-1) [ta] = b2
    have HB2 := Lib.hid hb2
    clear hb2
    cases b1 with
    | false =>
      go_enter Try.func63, Try.ntmps63
      go_wp2_with fail
      refine (chassis_t  [ow, ol] _ 2 2 _ _ rfl (rds_new1 _ _ _ _ _ (by simp) _ _ rfl rfl) (by decide)).mono ?_
      rw [HB1.out]
      rintro e w1 ⟨rfl, hw⟩
      have HX := Lib.hid (chg_eq6 HX.out hw)
      clear hw
      obtain ⟨y0, y1, y2, y3, y4, y5, y6, y7, y8⟩ := rv_kept HB0.out HX.out
      go_wp2_with fail
      go_ret
      exact ⟨rfl, HC0.out.trans HX.out (fun _ _ e => e)⟩
    | true =>
      by_cases he : ow = ol
      · subst he
        have hR := Lib.hid (show (true && (!(ow == ow) && b2)) = false by simp)
        go_enter Try.func63, Try.ntmps63
        go_wp2_with fail
        refine (chassis_t  [ow, ow] _ 2 2 _ _ rfl (rds_new1 _ _ _ _ _ (by simp) _ _ rfl rfl) (by decide)).mono ?_
        rw [HB1.out]
        rintro e w1 ⟨rfl, hw⟩
        have HX := Lib.hid (chg_eq6 HX.out hw)
        clear hw
        obtain ⟨y0, y1, y2, y3, y4, y5, y6, y7, y8⟩ := rv_kept HB0.out HX.out
        go_wp2_with fail
        go_ret
        exact ⟨ret_b hR.out.symm, HC0.out.trans HX.out (fun _ _ e => e)⟩
      · have te : (ow == ol) = false := by simpa using he
        have se : (ow != ol) = true := by simpa using he
        have hR := Lib.hid (show (true && (!(ow == ol) && b2)) = b2 by rw [te]; rfl)
        clear he
        go_enter Try.func63, Try.ntmps63
        go_wp2_with fail
        refine (chassis_t  [ow, ol] _ 2 2 _ _ rfl (rds_new1 _ _ _ _ _ (by simp) _ _ rfl rfl) (by decide)).mono ?_
        rw [HB1.out]
        rintro e w1 ⟨rfl, hw⟩
        have HX := Lib.hid (chg_eq6 HX.out hw)
        clear hw
        obtain ⟨y0, y1, y2, y3, y4, y5, y6, y7, y8⟩ := rv_kept HB0.out HX.out
        go_wp2_with fail
        refine (nobody_t  [ta] _ 1 1 _ _ rfl (rds_new1 _ _ _ _ _ rfl _ _ rfl rfl) (by decide)).mono ?_
        rw [HB2.out]
        rintro e w2 ⟨rfl, hw⟩
        have HX := Lib.hid (chg_eq6 HX.out hw)
        clear hw
        clear y0 y1 y2 y3 y4 y5 y6 y7 y8
        obtain ⟨y0, y1, y2, y3, y4, y5, y6, y7, y8⟩ := rv_kept HB0.out HX.out
        go_wp2_with fail
        go_ret
        exact ⟨ret_b hR.out.symm, HC0.out.trans HX.out (fun _ _ e => e)⟩
  by_cases h3 : ph = 3
  case pos =>
    subst h3
    have hh : heldB 3 ow ta ol = withinB (-1) (-1) [ow, ta, ol] := rfl
    rw [hh]
    clear hh
    generalize hb1 : withinB (-1) (-1) [ow, ta, ol] = b1
    have HB1 := Lib.hid hb1
    clear hb1
    go_enter Try.func63, Try.ntmps63
    go_wp2_with fail
    refine (nobody_t  [ow, ta, ol] _ 3 3 _ _ rfl (rds_new1 _ _ _ _ _ (by simp) _ _ rfl rfl) (by decide)).mono ?_
    rw [HB1.out]
    rintro e w1 ⟨rfl, hw⟩
    have HX := Lib.hid (chg_eq6 HX.out hw)
    clear hw
    go_wp2_with fail
    go_ret
    exact ⟨rfl, HC0.out.trans HX.out (fun _ _ e => e)⟩
  have t0 : (ph == 0) = false := by simpa using h0
  have t1 : (ph == 1) = false := by simpa using h1
  have t2 : (ph == 2) = false := by simpa using h2
  have t3 : (ph == 3) = false := by simpa using h3
  have hR := Lib.hid (show heldB ph ow ta ol = false by unfold heldB; rw [if_neg h0, if_neg h1, if_neg h2, if_neg h3])
  clear h0 h1 h2 h3
  go_enter Try.func63, Try.ntmps63
  go_wp2_with fail
  go_ret
  exact ⟨ret_b hR.out.symm, HC0.out.trans HX.out (fun _ _ e => e)⟩

set_option maxHeartbeats 2000000 in
theorem crow_any (po ma ow ta ol ge ph ve si : Int) (w : World) : Calls Try.prog 46 #[.agg (rvC po ma ow ta ol ge ph ve si)] w fun e w' => e = .returned (.bool (rwR po ma ow ta ol ge ph ve si)) ∧ Chg (fun _ => False) w w' := by
  have HX := Lib.hid (Chg.refl (fun _ => False) (w.alloc (.cells #[.int .i64 po, .int .u64 ma, .int .i64 ow, .int .i64 ta, .int .i64 ol, .int .i64 ge, .int .i64 ph, .int .i64 ve, .int .i64 si] 33)))
  have HB0 : Hid (Blk (w.alloc (.cells #[.int .i64 po, .int .u64 ma, .int .i64 ow, .int .i64 ta, .int .i64 ol, .int .i64 ge, .int .i64 ph, .int .i64 ve, .int .i64 si] 33)) w.heap.size 33 (rvC po ma ow ta ol ge ph ve si)) := Lib.hid (blk_new rfl)
  have HC0 := Lib.hid ((Chg.refl (fun _ => False) w).alloc (.cells #[.int .i64 po, .int .u64 ma, .int .i64 ow, .int .i64 ta, .int .i64 ol, .int .i64 ge, .int .i64 ph, .int .i64 ve, .int .i64 si] 33))
  have hn := fun W => named_any po ve W
  have hh := fun W => held_any po ma ow ta ol ge ph ve si W
  unfold rwR
  generalize namedB po ve = b1 at *
  generalize heldB ph ow ta ol = b4 at *
  generalize hb2 : withinB 1 4294967296 [ge] = b2
  have HB2 := Lib.hid hb2
  clear hb2
  generalize hb3 : withinB 0 1099511627776 [si] = b3
  have HB3 := Lib.hid hb3
  clear hb3
  unfold rvC at hh ⊢
  have HN := Lib.hid hn
  have HH := Lib.hid hh
  clear hn hh
  cases b1 with
  | false =>
    have hR := Lib.hid (show (false && (decide (ma ≤ 281474976710655) && (b2 && (b3 && b4)))) = false from rfl)
    go_enter Try.func46, Try.ntmps46
    go_wp2_with fail
    refine (HN.out _).mono ?_
    rintro e w1 ⟨rfl, hc'⟩
    have HX := Lib.hid (HX.out.trans hc' (fun _ _ e => e))
    clear hc'
    obtain ⟨y0, y1, y2, y3, y4, y5, y6, y7, y8⟩ := rv_kept HB0.out HX.out
    go_wp2_with fail
    go_ret
    exact ⟨ret_b hR.out.symm, HC0.out.trans HX.out (fun _ _ e => e)⟩
  | true =>
    by_cases hm : ma ≤ 281474976710655
    case neg =>
      have hR := Lib.hid (show (true && (decide (ma ≤ 281474976710655) && (b2 && (b3 && b4)))) = false by simp [hm])
      go_enter Try.func46, Try.ntmps46
      go_wp2_with fail
      refine (HN.out _).mono ?_
      rintro e w1 ⟨rfl, hc'⟩
      have HX := Lib.hid (HX.out.trans hc' (fun _ _ e => e))
      clear hc'
      obtain ⟨y0, y1, y2, y3, y4, y5, y6, y7, y8⟩ := rv_kept HB0.out HX.out
      go_wp2_with fail
      go_ret
      exact ⟨ret_b hR.out.symm, HC0.out.trans HX.out (fun _ _ e => e)⟩
    cases b2 with
    | false =>
      have hR := Lib.hid (show (true && (decide (ma ≤ 281474976710655) && (false && (b3 && b4)))) = false by simp [hm])
      go_enter Try.func46, Try.ntmps46
      go_wp2_with fail
      refine (HN.out _).mono ?_
      rintro e w1 ⟨rfl, hc'⟩
      have HX := Lib.hid (HX.out.trans hc' (fun _ _ e => e))
      clear hc'
      obtain ⟨y0, y1, y2, y3, y4, y5, y6, y7, y8⟩ := rv_kept HB0.out HX.out
      go_wp2_with fail
      refine (cwithin_t 1 4294967296 [ge] _ 1 1 _ _ rfl (rds_new1 _ _ _ _ _ rfl _ _ rfl rfl) (by decide)).mono ?_
      rw [HB2.out]
      rintro e w2 ⟨rfl, hw⟩
      have HX := Lib.hid (chg_eq6 HX.out hw)
      clear hw
      clear y0 y1 y2 y3 y4 y5 y6 y7 y8
      obtain ⟨y0, y1, y2, y3, y4, y5, y6, y7, y8⟩ := rv_kept HB0.out HX.out
      go_wp2_with fail
      go_ret
      exact ⟨ret_b hR.out.symm, HC0.out.trans HX.out (fun _ _ e => e)⟩
    | true =>
      cases b3 with
      | false =>
        have hR := Lib.hid (show (true && (decide (ma ≤ 281474976710655) && (true && (false && b4)))) = false by simp [hm])
        go_enter Try.func46, Try.ntmps46
        go_wp2_with fail
        refine (HN.out _).mono ?_
        rintro e w1 ⟨rfl, hc'⟩
        have HX := Lib.hid (HX.out.trans hc' (fun _ _ e => e))
        clear hc'
        obtain ⟨y0, y1, y2, y3, y4, y5, y6, y7, y8⟩ := rv_kept HB0.out HX.out
        go_wp2_with fail
        refine (cwithin_t 1 4294967296 [ge] _ 1 1 _ _ rfl (rds_new1 _ _ _ _ _ rfl _ _ rfl rfl) (by decide)).mono ?_
        rw [HB2.out]
        rintro e w2 ⟨rfl, hw⟩
        have HX := Lib.hid (chg_eq6 HX.out hw)
        clear hw
        clear y0 y1 y2 y3 y4 y5 y6 y7 y8
        obtain ⟨y0, y1, y2, y3, y4, y5, y6, y7, y8⟩ := rv_kept HB0.out HX.out
        go_wp2_with fail
        refine (cwithin_t 0 1099511627776 [si] _ 1 1 _ _ rfl (rds_new1 _ _ _ _ _ rfl _ _ rfl rfl) (by decide)).mono ?_
        rw [HB3.out]
        rintro e w3 ⟨rfl, hw⟩
        have HX := Lib.hid (chg_eq6 HX.out hw)
        clear hw
        clear y0 y1 y2 y3 y4 y5 y6 y7 y8
        obtain ⟨y0, y1, y2, y3, y4, y5, y6, y7, y8⟩ := rv_kept HB0.out HX.out
        go_wp2_with fail
        go_ret
        exact ⟨ret_b hR.out.symm, HC0.out.trans HX.out (fun _ _ e => e)⟩
      | true =>
        have hR := Lib.hid (show (true && (decide (ma ≤ 281474976710655) && (true && (true && b4)))) = b4 by simp [hm])
        go_enter Try.func46, Try.ntmps46
        go_wp2_with fail
        refine (HN.out _).mono ?_
        rintro e w1 ⟨rfl, hc'⟩
        have HX := Lib.hid (HX.out.trans hc' (fun _ _ e => e))
        clear hc'
        obtain ⟨y0, y1, y2, y3, y4, y5, y6, y7, y8⟩ := rv_kept HB0.out HX.out
        go_wp2_with fail
        refine (cwithin_t 1 4294967296 [ge] _ 1 1 _ _ rfl (rds_new1 _ _ _ _ _ rfl _ _ rfl rfl) (by decide)).mono ?_
        rw [HB2.out]
        rintro e w2 ⟨rfl, hw⟩
        have HX := Lib.hid (chg_eq6 HX.out hw)
        clear hw
        clear y0 y1 y2 y3 y4 y5 y6 y7 y8
        obtain ⟨y0, y1, y2, y3, y4, y5, y6, y7, y8⟩ := rv_kept HB0.out HX.out
        go_wp2_with fail
        refine (cwithin_t 0 1099511627776 [si] _ 1 1 _ _ rfl (rds_new1 _ _ _ _ _ rfl _ _ rfl rfl) (by decide)).mono ?_
        rw [HB3.out]
        rintro e w3 ⟨rfl, hw⟩
        have HX := Lib.hid (chg_eq6 HX.out hw)
        clear hw
        clear y0 y1 y2 y3 y4 y5 y6 y7 y8
        obtain ⟨y0, y1, y2, y3, y4, y5, y6, y7, y8⟩ := rv_kept HB0.out HX.out
        go_wp2_with fail
        refine (HH.out _).mono ?_
        rintro e w4 ⟨rfl, hc'⟩
        have HX := Lib.hid (HX.out.trans hc' (fun _ _ e => e))
        clear hc'
        go_wp2_with fail
        go_ret
        exact ⟨ret_b hR.out.symm, HC0.out.trans HX.out (fun _ _ e => e)⟩


end Go.Proofs.Ytbajcdmcjmkieaa
