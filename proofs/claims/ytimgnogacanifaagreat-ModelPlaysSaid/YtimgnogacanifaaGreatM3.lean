/-
  The cells of a row, a message and a record; may a row be? Walks: control.within, chassis, nobody, named, held, Row. Conditions: none.
  Records that lie in memory; may a message be? Walks: the closure of control.kept, slices.IndexFunc, slices.ContainsFunc, control.kept, Right. Conditions: the records are read in memory.
  Rows and records compared; may a message be? Walk: control.Right. Conditions: the records are read in memory.
  Walks: rutterref05.In, rutterref06.chassis, who, Row, record, Right. Conditions: the records are read in memory.
-/
import Derived.Test.YtimgnogacanifaaGreatM1
import Derived.Deep.LoopGhost
import Derived.Laws.StructEq
import Derived.Lib.SmallJoins
import Derived.Deep.DeepCutAuto
section
namespace Go.Proofs.YtimgnogacanifaaGreat
open Go.RowKit
set_option linter.unusedVariables false

/-- A row's, a message's, a record's cells. -/
def rvC (po ma ow ta ol ge ph ve si : Int) : Array Value := #[.int .i64 po, .int .u64 ma, .int .i64 ow, .int .i64 ta, .int .i64 ol, .int .i64 ge, .int .i64 ph, .int .i64 ve, .int .i64 si]
def msC (kd po ma ow ta ol ge ph ve si pt vr : Int) (A : Option Addr) (n c : Nat) : Array Value := #[.int .i64 kd, .int .i64 po, .int .u64 ma, .int .i64 ow, .int .i64 ta, .int .i64 ol, .int .i64 ge, .int .i64 ph, .int .i64 ve, .int .i64 si, .int .i64 pt, .int .i64 vr, .slice A n c]
def rcC (pr sr ds sp dp un : Int) : Array Value := #[.int .i64 pr, .int .u32 sr, .int .u32 ds, .int .i64 sp, .int .i64 dp, .int .i64 un]
theorem chg_eq6 {S : Nat → Prop} {a w w' : World} {o : Obj} (h : Chg S a w) (e : w.alloc o = w') : Chg S a w' := e ▸ h.alloc o
theorem rv_cells {w : World} {q : Nat} {po ma ow ta ol ge ph ve si : Int} {T : TypeId} (hb : Blk w q T (rvC po ma ow ta ol ge ph ve si)) :
    w.cell? ⟨q, 0, none⟩ = some (.int .i64 po) ∧ w.cell? ⟨q, 1, none⟩ = some (.int .u64 ma) ∧ w.cell? ⟨q, 2, none⟩ = some (.int .i64 ow) ∧ w.cell? ⟨q, 3, none⟩ = some (.int .i64 ta) ∧ w.cell? ⟨q, 4, none⟩ = some (.int .i64 ol) ∧ w.cell? ⟨q, 5, none⟩ = some (.int .i64 ge) ∧ w.cell? ⟨q, 6, none⟩ = some (.int .i64 ph) ∧ w.cell? ⟨q, 7, none⟩ = some (.int .i64 ve) ∧ w.cell? ⟨q, 8, none⟩ = some (.int .i64 si) := by
  have x0 := hb.cell 0
  have x1 := hb.cell 1
  have x2 := hb.cell 2
  have x3 := hb.cell 3
  have x4 := hb.cell 4
  have x5 := hb.cell 5
  have x6 := hb.cell 6
  have x7 := hb.cell 7
  have x8 := hb.cell 8
  simp only [rvC, List.getElem?_toArray, List.getElem?_cons_zero, List.getElem?_cons_succ] at x0 x1 x2 x3 x4 x5 x6 x7 x8
  exact ⟨x0, x1, x2, x3, x4, x5, x6, x7, x8⟩
theorem rv_kept {w w' : World} {q : Nat} {po ma ow ta ol ge ph ve si : Int} {T : TypeId} (hb : Blk w q T (rvC po ma ow ta ol ge ph ve si)) (h : Chg (fun _ => False) w w') :
    w'.cell? ⟨q, 0, none⟩ = some (.int .i64 po) ∧ w'.cell? ⟨q, 1, none⟩ = some (.int .u64 ma) ∧ w'.cell? ⟨q, 2, none⟩ = some (.int .i64 ow) ∧ w'.cell? ⟨q, 3, none⟩ = some (.int .i64 ta) ∧ w'.cell? ⟨q, 4, none⟩ = some (.int .i64 ol) ∧ w'.cell? ⟨q, 5, none⟩ = some (.int .i64 ge) ∧ w'.cell? ⟨q, 6, none⟩ = some (.int .i64 ph) ∧ w'.cell? ⟨q, 7, none⟩ = some (.int .i64 ve) ∧ w'.cell? ⟨q, 8, none⟩ = some (.int .i64 si) := rv_cells (hb.chg h id)
theorem ms_cells {w : World} {q : Nat} {kd po ma ow ta ol ge ph ve si pt vr : Int} {A : Option Addr} {n c : Nat} {T : TypeId} (hb : Blk w q T (msC kd po ma ow ta ol ge ph ve si pt vr A n c)) :
    w.cell? ⟨q, 0, none⟩ = some (.int .i64 kd) ∧ w.cell? ⟨q, 1, none⟩ = some (.int .i64 po) ∧ w.cell? ⟨q, 2, none⟩ = some (.int .u64 ma) ∧ w.cell? ⟨q, 3, none⟩ = some (.int .i64 ow) ∧ w.cell? ⟨q, 4, none⟩ = some (.int .i64 ta) ∧ w.cell? ⟨q, 5, none⟩ = some (.int .i64 ol) ∧ w.cell? ⟨q, 6, none⟩ = some (.int .i64 ge) ∧ w.cell? ⟨q, 7, none⟩ = some (.int .i64 ph) ∧ w.cell? ⟨q, 8, none⟩ = some (.int .i64 ve) ∧ w.cell? ⟨q, 9, none⟩ = some (.int .i64 si) ∧ w.cell? ⟨q, 10, none⟩ = some (.int .i64 pt) ∧ w.cell? ⟨q, 11, none⟩ = some (.int .i64 vr) ∧ w.cell? ⟨q, 12, none⟩ = some (.slice A n c) := by
  have x0 := hb.cell 0
  have x1 := hb.cell 1
  have x2 := hb.cell 2
  have x3 := hb.cell 3
  have x4 := hb.cell 4
  have x5 := hb.cell 5
  have x6 := hb.cell 6
  have x7 := hb.cell 7
  have x8 := hb.cell 8
  have x9 := hb.cell 9
  have x10 := hb.cell 10
  have x11 := hb.cell 11
  have x12 := hb.cell 12
  simp only [msC, List.getElem?_toArray, List.getElem?_cons_zero, List.getElem?_cons_succ] at x0 x1 x2 x3 x4 x5 x6 x7 x8 x9 x10 x11 x12
  exact ⟨x0, x1, x2, x3, x4, x5, x6, x7, x8, x9, x10, x11, x12⟩
theorem ms_kept {w w' : World} {q : Nat} {kd po ma ow ta ol ge ph ve si pt vr : Int} {A : Option Addr} {n c : Nat} {T : TypeId} (hb : Blk w q T (msC kd po ma ow ta ol ge ph ve si pt vr A n c)) (h : Chg (fun _ => False) w w') :
    w'.cell? ⟨q, 0, none⟩ = some (.int .i64 kd) ∧ w'.cell? ⟨q, 1, none⟩ = some (.int .i64 po) ∧ w'.cell? ⟨q, 2, none⟩ = some (.int .u64 ma) ∧ w'.cell? ⟨q, 3, none⟩ = some (.int .i64 ow) ∧ w'.cell? ⟨q, 4, none⟩ = some (.int .i64 ta) ∧ w'.cell? ⟨q, 5, none⟩ = some (.int .i64 ol) ∧ w'.cell? ⟨q, 6, none⟩ = some (.int .i64 ge) ∧ w'.cell? ⟨q, 7, none⟩ = some (.int .i64 ph) ∧ w'.cell? ⟨q, 8, none⟩ = some (.int .i64 ve) ∧ w'.cell? ⟨q, 9, none⟩ = some (.int .i64 si) ∧ w'.cell? ⟨q, 10, none⟩ = some (.int .i64 pt) ∧ w'.cell? ⟨q, 11, none⟩ = some (.int .i64 vr) ∧ w'.cell? ⟨q, 12, none⟩ = some (.slice A n c) := ms_cells (hb.chg h id)
theorem rc_cells {w : World} {q : Nat} {pr sr ds sp dp un : Int} {T : TypeId} (hb : Blk w q T (rcC pr sr ds sp dp un)) :
    w.cell? ⟨q, 0, none⟩ = some (.int .i64 pr) ∧ w.cell? ⟨q, 1, none⟩ = some (.int .u32 sr) ∧ w.cell? ⟨q, 2, none⟩ = some (.int .u32 ds) ∧ w.cell? ⟨q, 3, none⟩ = some (.int .i64 sp) ∧ w.cell? ⟨q, 4, none⟩ = some (.int .i64 dp) ∧ w.cell? ⟨q, 5, none⟩ = some (.int .i64 un) := by
  have x0 := hb.cell 0
  have x1 := hb.cell 1
  have x2 := hb.cell 2
  have x3 := hb.cell 3
  have x4 := hb.cell 4
  have x5 := hb.cell 5
  simp only [rcC, List.getElem?_toArray, List.getElem?_cons_zero, List.getElem?_cons_succ] at x0 x1 x2 x3 x4 x5
  exact ⟨x0, x1, x2, x3, x4, x5⟩
theorem rc_kept {w w' : World} {q : Nat} {pr sr ds sp dp un : Int} {T : TypeId} (hb : Blk w q T (rcC pr sr ds sp dp un)) (h : Chg (fun _ => False) w w') :
    w'.cell? ⟨q, 0, none⟩ = some (.int .i64 pr) ∧ w'.cell? ⟨q, 1, none⟩ = some (.int .u32 sr) ∧ w'.cell? ⟨q, 2, none⟩ = some (.int .u32 ds) ∧ w'.cell? ⟨q, 3, none⟩ = some (.int .i64 sp) ∧ w'.cell? ⟨q, 4, none⟩ = some (.int .i64 dp) ∧ w'.cell? ⟨q, 5, none⟩ = some (.int .i64 un) := rc_cells (hb.chg h id)

def heldB (ph ow ta ol : Int) : Bool :=
  if ph = 0 then withinB 0 15 [ow] && withinB (-1) (-1) [ta, ol]
  else if ph = 1 then withinB 0 15 [ow, ta] && (!(ow == ta) && withinB (-1) (-1) [ol])
  else if ph = 2 then withinB 0 15 [ow, ol] && (!(ow == ol) && withinB (-1) (-1) [ta])
  else if ph = 3 then withinB (-1) (-1) [ow, ta, ol]
  else false
def namedB (p v : Int) : Bool := withinB 0 31 [p] && withinB 1 1099511627776 [v]
/-- May a row be? -/
def rwR (po ma ow ta ol ge ph ve si : Int) : Bool := namedB po ve && (decide (ma ≤ 281474976710655) && (withinB 1 4294967296 [ge] && (withinB 0 1099511627776 [si] && heldB ph ow ta ol)))

set_option maxRecDepth 100000 in
set_option maxHeartbeats 400000 in
theorem cwithin_t (lo hi : Int) (l : List Int) (A : Option Addr) (n c : Nat) (S : Nat → Prop) (w : World) (hn : n = l.length) (hr : Rds w S A n (l.map (Value.int .i64))) (hb : n ≤ 1000) :
    Calls Tryz.prog 117 #[.int .i64 lo, .int .i64 hi, .slice A n c] w fun e w' => e = .returned (.bool (withinB lo hi l)) ∧ w = w' := by
  have HN := Lib.hid hn
  clear hn
  go_enter Tryz.func117, Tryz.ntmps117
  go_wp2
  go_loop [8, 11] (fun _ i => ∃ k : Nat, k ≤ n ∧ i = .int .i64 k ∧ ∀ j (hj : j < l.length), j < k → lo ≤ l[j] ∧ l[j] ≤ hi) (fun _ i => n - (intOf i).toNat)
  case atStart => exact ⟨0, Nat.zero_le _, rfl, fun j _ h => absurd h (Nat.not_lt_zero _)⟩
  case round =>
    obtain ⟨k, hk, rfl, hall⟩ := hrel
    have HA := Lib.hid hall
    clear hall
    by_cases hlt : k < n
    · obtain ⟨ad, rfl, _, _, hc⟩ := hr.cellAt hlt
      have hkl : k < l.length := by have := HN.out; omega
      rw [List.getElem?_map, List.getElem?_eq_getElem hkl] at hc
      simp only [Option.map_some] at hc
      have hv : ∃ x, x = l[k] := ⟨_, rfl⟩
      obtain ⟨x, hxe⟩ := hv
      rw [← hxe] at hc
      have HX := Lib.hid hxe
      clear hxe
      by_cases h1 : x < lo
      · go_wp2
        go_ret
        exact ⟨ret_b (within_false k hkl (by have := HX.out; omega)).symm, rfl⟩
      · by_cases h2 : hi < x
        · go_wp2
          go_ret
          exact ⟨ret_b (within_false k hkl (by have := HX.out; omega)).symm, rfl⟩
        · go_wp2
          go_round
          case rel => exact ⟨k + 1, by omega, by go_num, fun j hj hjk => by
            by_cases e : j < k
            · exact HA.out j hj e
            · have : j = k := by omega
              subst this
              have := HX.out
              omega⟩
          case measure => simp [intOf]; omega
    · have : k = n := by omega
      subst this
      go_wp2
      go_ret
      exact ⟨ret_b (within_true (fun j hj => HA.out j hj (by have := HN.out; omega))).symm, rfl⟩

set_option maxRecDepth 100000 in
set_option maxHeartbeats 400000 in
theorem chassis_t (l : List Int) (A : Option Addr) (n c : Nat) (S : Nat → Prop) (w : World) (hn : n = l.length) (hr : Rds w S A n (l.map (Value.int .i64))) (hb : n ≤ 1000) :
    Calls Tryz.prog 131 #[.slice A n c] w fun e w' => e = .returned (.bool (withinB 0 15 l)) ∧ w = w' := by
  have HW := Lib.hid (cwithin_t 0 15 l A n c S w hn hr hb)
  clear hn hr
  go_enter Tryz.func131, Tryz.ntmps131
  go_wp2_with fail
  refine HW.out.mono ?_
  rintro e w' ⟨rfl, rfl⟩
  go_wp2_with fail
  go_ret
  exact ⟨rfl, rfl⟩

set_option maxRecDepth 100000 in
set_option maxHeartbeats 400000 in
theorem nobody_t (l : List Int) (A : Option Addr) (n c : Nat) (S : Nat → Prop) (w : World) (hn : n = l.length) (hr : Rds w S A n (l.map (Value.int .i64))) (hb : n ≤ 1000) :
    Calls Tryz.prog 132 #[.slice A n c] w fun e w' => e = .returned (.bool (withinB (-1) (-1) l)) ∧ w = w' := by
  have HW := Lib.hid (cwithin_t (-1) (-1) l A n c S w hn hr hb)
  clear hn hr
  go_enter Tryz.func132, Tryz.ntmps132
  go_wp2_with fail
  refine HW.out.mono ?_
  rintro e w' ⟨rfl, rfl⟩
  go_wp2_with fail
  go_ret
  exact ⟨rfl, rfl⟩

set_option maxRecDepth 100000 in
set_option maxHeartbeats 400000 in
theorem named_any (p v : Int) (w : World) : Calls Tryz.prog 116 #[.int .i64 p, .int .i64 v] w fun e w' => e = .returned (.bool (namedB p v)) ∧ Chg (fun _ => False) w w' := by
  have HX := Lib.hid (Chg.refl (fun _ => False) w)
  unfold namedB
  generalize hb1 : withinB 0 31 [p] = b1
  generalize hb2 : withinB 1 1099511627776 [v] = b2
  have HB1 := Lib.hid hb1
  have HB2 := Lib.hid hb2
  clear hb1 hb2
  cases b1 with
  | false =>
    go_enter Tryz.func116, Tryz.ntmps116
    go_wp2_with fail
    refine (cwithin_t 0 31 [p] _ 1 1 _ _ rfl (rds_new1 _ _ _ _ _ rfl _ _ rfl rfl) (by decide)).mono ?_
    rw [HB1.out]
    rintro e w1 ⟨rfl, hw⟩
    have HX := Lib.hid (chg_eq6 HX.out hw)
    clear hw
    go_wp2_with fail
    go_ret
    exact ⟨rfl, HX.out⟩
  | true =>
    go_enter Tryz.func116, Tryz.ntmps116
    go_wp2_with fail
    refine (cwithin_t 0 31 [p] _ 1 1 _ _ rfl (rds_new1 _ _ _ _ _ rfl _ _ rfl rfl) (by decide)).mono ?_
    rw [HB1.out]
    rintro e w1 ⟨rfl, hw⟩
    have HX := Lib.hid (chg_eq6 HX.out hw)
    clear hw
    go_wp2_with fail
    refine (cwithin_t 1 1099511627776 [v] _ 1 1 _ _ rfl (rds_new1 _ _ _ _ _ rfl _ _ rfl rfl) (by decide)).mono ?_
    rw [HB2.out]
    rintro e w2 ⟨rfl, hw⟩
    have HX := Lib.hid (chg_eq6 HX.out hw)
    clear hw
    go_wp2_with fail
    go_ret
    exact ⟨rfl, HX.out⟩

set_option maxRecDepth 100000 in
set_option maxHeartbeats 2000000 in
theorem held_any (po ma ow ta ol ge ph ve si : Int) (w : World) : Calls Tryz.prog 118 #[.agg (rvC po ma ow ta ol ge ph ve si)] w fun e w' => e = .returned (.bool (heldB ph ow ta ol)) ∧ Chg (fun _ => False) w w' := by
  have HX := Lib.hid (Chg.refl (fun _ => False) (w.alloc (.cells #[.int .i64 po, .int .u64 ma, .int .i64 ow, .int .i64 ta, .int .i64 ol, .int .i64 ge, .int .i64 ph, .int .i64 ve, .int .i64 si] 40)))
  have HB0 : Hid (Blk (w.alloc (.cells #[.int .i64 po, .int .u64 ma, .int .i64 ow, .int .i64 ta, .int .i64 ol, .int .i64 ge, .int .i64 ph, .int .i64 ve, .int .i64 si] 40)) w.heap.size 40 (rvC po ma ow ta ol ge ph ve si)) := Lib.hid (blk_new rfl)
  have HC0 := Lib.hid ((Chg.refl (fun _ => False) w).alloc (.cells #[.int .i64 po, .int .u64 ma, .int .i64 ow, .int .i64 ta, .int .i64 ol, .int .i64 ge, .int .i64 ph, .int .i64 ve, .int .i64 si] 40))
  unfold rvC
  by_cases h0 : ph = 0
  case pos =>
    subst h0
    have hh : heldB 0 ow ta ol = (withinB 0 15 [ow] && withinB (-1) (-1) [ta, ol]) := rfl
    rw [hh]
    clear hh
    generalize hb1 : withinB 0 15 [ow] = b1
    have HB1 := Lib.hid hb1
    clear hb1
    generalize hb2 : withinB (-1) (-1) [ta, ol] = b2
    have HB2 := Lib.hid hb2
    clear hb2
    cases b1 with
    | false =>
      go_enter Tryz.func118, Tryz.ntmps118
      go_wp2_with fail
      refine (chassis_t  [ow] _ 1 1 _ _ rfl (rds_new1 _ _ _ _ _ (by simp) _ _ rfl rfl) (by decide)).mono ?_
      rw [HB1.out]
      rintro e w1 ⟨rfl, hw⟩
      have HX := Lib.hid (chg_eq6 HX.out hw)
      clear hw
      obtain ⟨y0, y1, y2, y3, y4, y5, y6, y7, y8⟩ := rv_kept HB0.out HX.out
      go_wp2_with fail
      go_ret
      exact ⟨rfl, HC0.out.trans HX.out (fun _ _ e => e)⟩
    | true =>
      go_enter Tryz.func118, Tryz.ntmps118
      go_wp2_with fail
      refine (chassis_t  [ow] _ 1 1 _ _ rfl (rds_new1 _ _ _ _ _ (by simp) _ _ rfl rfl) (by decide)).mono ?_
      rw [HB1.out]
      rintro e w1 ⟨rfl, hw⟩
      have HX := Lib.hid (chg_eq6 HX.out hw)
      clear hw
      obtain ⟨y0, y1, y2, y3, y4, y5, y6, y7, y8⟩ := rv_kept HB0.out HX.out
      go_wp2_with fail
      refine (nobody_t  [ta, ol] _ 2 2 _ _ rfl (rds_new1 _ _ _ _ _ rfl _ _ rfl rfl) (by decide)).mono ?_
      rw [HB2.out]
      rintro e w2 ⟨rfl, hw⟩
      have HX := Lib.hid (chg_eq6 HX.out hw)
      clear hw
      clear y0 y1 y2 y3 y4 y5 y6 y7 y8
      obtain ⟨y0, y1, y2, y3, y4, y5, y6, y7, y8⟩ := rv_kept HB0.out HX.out
      go_wp2_with fail
      go_ret
      exact ⟨rfl, HC0.out.trans HX.out (fun _ _ e => e)⟩
  by_cases h1 : ph = 1
  case pos =>
    subst h1
    have hh : heldB 1 ow ta ol = (withinB 0 15 [ow, ta] && (!(ow == ta) && withinB (-1) (-1) [ol])) := rfl
    rw [hh]
    clear hh
    generalize hb1 : withinB 0 15 [ow, ta] = b1
    have HB1 := Lib.hid hb1
    clear hb1
    generalize hb2 : withinB (-1) (-1) [ol] = b2
    have HB2 := Lib.hid hb2
    clear hb2
    cases b1 with
    | false =>
      go_enter Tryz.func118, Tryz.ntmps118
      go_wp2_with fail
      refine (chassis_t  [ow, ta] _ 2 2 _ _ rfl (rds_new1 _ _ _ _ _ (by simp) _ _ rfl rfl) (by decide)).mono ?_
      rw [HB1.out]
      rintro e w1 ⟨rfl, hw⟩
      have HX := Lib.hid (chg_eq6 HX.out hw)
      clear hw
      obtain ⟨y0, y1, y2, y3, y4, y5, y6, y7, y8⟩ := rv_kept HB0.out HX.out
      go_wp2_with fail
      go_ret
      exact ⟨rfl, HC0.out.trans HX.out (fun _ _ e => e)⟩
    | true =>
      by_cases he : ow = ta
      · subst he
        have hR := Lib.hid (show (true && (!(ow == ow) && b2)) = false by simp)
        go_enter Tryz.func118, Tryz.ntmps118
        go_wp2_with fail
        refine (chassis_t  [ow, ow] _ 2 2 _ _ rfl (rds_new1 _ _ _ _ _ (by simp) _ _ rfl rfl) (by decide)).mono ?_
        rw [HB1.out]
        rintro e w1 ⟨rfl, hw⟩
        have HX := Lib.hid (chg_eq6 HX.out hw)
        clear hw
        obtain ⟨y0, y1, y2, y3, y4, y5, y6, y7, y8⟩ := rv_kept HB0.out HX.out
        go_wp2_with fail
        go_ret
        exact ⟨ret_b hR.out.symm, HC0.out.trans HX.out (fun _ _ e => e)⟩
      · have te : (ow == ta) = false := by simpa using he
        have se : (ow != ta) = true := by simpa using he
        have hR := Lib.hid (show (true && (!(ow == ta) && b2)) = b2 by rw [te]; rfl)
        clear he
        go_enter Tryz.func118, Tryz.ntmps118
        go_wp2_with fail
        refine (chassis_t  [ow, ta] _ 2 2 _ _ rfl (rds_new1 _ _ _ _ _ (by simp) _ _ rfl rfl) (by decide)).mono ?_
        rw [HB1.out]
        rintro e w1 ⟨rfl, hw⟩
        have HX := Lib.hid (chg_eq6 HX.out hw)
        clear hw
        obtain ⟨y0, y1, y2, y3, y4, y5, y6, y7, y8⟩ := rv_kept HB0.out HX.out
        go_wp2_with fail
        refine (nobody_t  [ol] _ 1 1 _ _ rfl (rds_new1 _ _ _ _ _ rfl _ _ rfl rfl) (by decide)).mono ?_
        rw [HB2.out]
        rintro e w2 ⟨rfl, hw⟩
        have HX := Lib.hid (chg_eq6 HX.out hw)
        clear hw
        clear y0 y1 y2 y3 y4 y5 y6 y7 y8
        obtain ⟨y0, y1, y2, y3, y4, y5, y6, y7, y8⟩ := rv_kept HB0.out HX.out
        go_wp2_with fail
        go_ret
        exact ⟨ret_b hR.out.symm, HC0.out.trans HX.out (fun _ _ e => e)⟩
  by_cases h2 : ph = 2
  case pos =>
    subst h2
    have hh : heldB 2 ow ta ol = (withinB 0 15 [ow, ol] && (!(ow == ol) && withinB (-1) (-1) [ta])) := rfl
    rw [hh]
    clear hh
    generalize hb1 : withinB 0 15 [ow, ol] = b1
    have HB1 := Lib.hid hb1
    clear hb1
    generalize hb2 : withinB (-1) (-1) [ta] = b2
    have HB2 := Lib.hid hb2
    clear hb2
    cases b1 with
    | false =>
      go_enter Tryz.func118, Tryz.ntmps118
      go_wp2_with fail
      refine (chassis_t  [ow, ol] _ 2 2 _ _ rfl (rds_new1 _ _ _ _ _ (by simp) _ _ rfl rfl) (by decide)).mono ?_
      rw [HB1.out]
      rintro e w1 ⟨rfl, hw⟩
      have HX := Lib.hid (chg_eq6 HX.out hw)
      clear hw
      obtain ⟨y0, y1, y2, y3, y4, y5, y6, y7, y8⟩ := rv_kept HB0.out HX.out
      go_wp2_with fail
      go_ret
      exact ⟨rfl, HC0.out.trans HX.out (fun _ _ e => e)⟩
    | true =>
      by_cases he : ow = ol
      · subst he
        have hR := Lib.hid (show (true && (!(ow == ow) && b2)) = false by simp)
        go_enter Tryz.func118, Tryz.ntmps118
        go_wp2_with fail
        refine (chassis_t  [ow, ow] _ 2 2 _ _ rfl (rds_new1 _ _ _ _ _ (by simp) _ _ rfl rfl) (by decide)).mono ?_
        rw [HB1.out]
        rintro e w1 ⟨rfl, hw⟩
        have HX := Lib.hid (chg_eq6 HX.out hw)
        clear hw
        obtain ⟨y0, y1, y2, y3, y4, y5, y6, y7, y8⟩ := rv_kept HB0.out HX.out
        go_wp2_with fail
        go_ret
        exact ⟨ret_b hR.out.symm, HC0.out.trans HX.out (fun _ _ e => e)⟩
      · have te : (ow == ol) = false := by simpa using he
        have se : (ow != ol) = true := by simpa using he
        have hR := Lib.hid (show (true && (!(ow == ol) && b2)) = b2 by rw [te]; rfl)
        clear he
        go_enter Tryz.func118, Tryz.ntmps118
        go_wp2_with fail
        refine (chassis_t  [ow, ol] _ 2 2 _ _ rfl (rds_new1 _ _ _ _ _ (by simp) _ _ rfl rfl) (by decide)).mono ?_
        rw [HB1.out]
        rintro e w1 ⟨rfl, hw⟩
        have HX := Lib.hid (chg_eq6 HX.out hw)
        clear hw
        obtain ⟨y0, y1, y2, y3, y4, y5, y6, y7, y8⟩ := rv_kept HB0.out HX.out
        go_wp2_with fail
        refine (nobody_t  [ta] _ 1 1 _ _ rfl (rds_new1 _ _ _ _ _ rfl _ _ rfl rfl) (by decide)).mono ?_
        rw [HB2.out]
        rintro e w2 ⟨rfl, hw⟩
        have HX := Lib.hid (chg_eq6 HX.out hw)
        clear hw
        clear y0 y1 y2 y3 y4 y5 y6 y7 y8
        obtain ⟨y0, y1, y2, y3, y4, y5, y6, y7, y8⟩ := rv_kept HB0.out HX.out
        go_wp2_with fail
        go_ret
        exact ⟨ret_b hR.out.symm, HC0.out.trans HX.out (fun _ _ e => e)⟩
  by_cases h3 : ph = 3
  case pos =>
    subst h3
    have hh : heldB 3 ow ta ol = withinB (-1) (-1) [ow, ta, ol] := rfl
    rw [hh]
    clear hh
    generalize hb1 : withinB (-1) (-1) [ow, ta, ol] = b1
    have HB1 := Lib.hid hb1
    clear hb1
    go_enter Tryz.func118, Tryz.ntmps118
    go_wp2_with fail
    refine (nobody_t  [ow, ta, ol] _ 3 3 _ _ rfl (rds_new1 _ _ _ _ _ (by simp) _ _ rfl rfl) (by decide)).mono ?_
    rw [HB1.out]
    rintro e w1 ⟨rfl, hw⟩
    have HX := Lib.hid (chg_eq6 HX.out hw)
    clear hw
    go_wp2_with fail
    go_ret
    exact ⟨rfl, HC0.out.trans HX.out (fun _ _ e => e)⟩
  have t0 : (ph == 0) = false := by simpa using h0
  have t1 : (ph == 1) = false := by simpa using h1
  have t2 : (ph == 2) = false := by simpa using h2
  have t3 : (ph == 3) = false := by simpa using h3
  have hR := Lib.hid (show heldB ph ow ta ol = false by unfold heldB; rw [if_neg h0, if_neg h1, if_neg h2, if_neg h3])
  clear h0 h1 h2 h3
  go_enter Tryz.func118, Tryz.ntmps118
  go_wp2_with fail
  go_ret
  exact ⟨ret_b hR.out.symm, HC0.out.trans HX.out (fun _ _ e => e)⟩

set_option maxRecDepth 100000 in
set_option maxHeartbeats 2000000 in
theorem crow_any (po ma ow ta ol ge ph ve si : Int) (w : World) : Calls Tryz.prog 95 #[.agg (rvC po ma ow ta ol ge ph ve si)] w fun e w' => e = .returned (.bool (rwR po ma ow ta ol ge ph ve si)) ∧ Chg (fun _ => False) w w' := by
  have HX := Lib.hid (Chg.refl (fun _ => False) (w.alloc (.cells #[.int .i64 po, .int .u64 ma, .int .i64 ow, .int .i64 ta, .int .i64 ol, .int .i64 ge, .int .i64 ph, .int .i64 ve, .int .i64 si] 40)))
  have HB0 : Hid (Blk (w.alloc (.cells #[.int .i64 po, .int .u64 ma, .int .i64 ow, .int .i64 ta, .int .i64 ol, .int .i64 ge, .int .i64 ph, .int .i64 ve, .int .i64 si] 40)) w.heap.size 40 (rvC po ma ow ta ol ge ph ve si)) := Lib.hid (blk_new rfl)
  have HC0 := Lib.hid ((Chg.refl (fun _ => False) w).alloc (.cells #[.int .i64 po, .int .u64 ma, .int .i64 ow, .int .i64 ta, .int .i64 ol, .int .i64 ge, .int .i64 ph, .int .i64 ve, .int .i64 si] 40))
  have hn := fun W => named_any po ve W
  have hh := fun W => held_any po ma ow ta ol ge ph ve si W
  unfold rwR
  generalize namedB po ve = b1 at *
  generalize heldB ph ow ta ol = b4 at *
  generalize hb2 : withinB 1 4294967296 [ge] = b2
  have HB2 := Lib.hid hb2
  clear hb2
  generalize hb3 : withinB 0 1099511627776 [si] = b3
  have HB3 := Lib.hid hb3
  clear hb3
  unfold rvC at hh ⊢
  have HN := Lib.hid hn
  have HH := Lib.hid hh
  clear hn hh
  cases b1 with
  | false =>
    have hR := Lib.hid (show (false && (decide (ma ≤ 281474976710655) && (b2 && (b3 && b4)))) = false from rfl)
    go_enter Tryz.func95, Tryz.ntmps95
    go_wp2_with fail
    refine (HN.out _).mono ?_
    rintro e w1 ⟨rfl, hc'⟩
    have HX := Lib.hid (HX.out.trans hc' (fun _ _ e => e))
    clear hc'
    obtain ⟨y0, y1, y2, y3, y4, y5, y6, y7, y8⟩ := rv_kept HB0.out HX.out
    go_wp2_with fail
    go_ret
    exact ⟨ret_b hR.out.symm, HC0.out.trans HX.out (fun _ _ e => e)⟩
  | true =>
    by_cases hm : ma ≤ 281474976710655
    case neg =>
      have hR := Lib.hid (show (true && (decide (ma ≤ 281474976710655) && (b2 && (b3 && b4)))) = false by simp [hm])
      go_enter Tryz.func95, Tryz.ntmps95
      go_wp2_with fail
      refine (HN.out _).mono ?_
      rintro e w1 ⟨rfl, hc'⟩
      have HX := Lib.hid (HX.out.trans hc' (fun _ _ e => e))
      clear hc'
      obtain ⟨y0, y1, y2, y3, y4, y5, y6, y7, y8⟩ := rv_kept HB0.out HX.out
      go_wp2_with fail
      go_ret
      exact ⟨ret_b hR.out.symm, HC0.out.trans HX.out (fun _ _ e => e)⟩
    cases b2 with
    | false =>
      have hR := Lib.hid (show (true && (decide (ma ≤ 281474976710655) && (false && (b3 && b4)))) = false by simp [hm])
      go_enter Tryz.func95, Tryz.ntmps95
      go_wp2_with fail
      refine (HN.out _).mono ?_
      rintro e w1 ⟨rfl, hc'⟩
      have HX := Lib.hid (HX.out.trans hc' (fun _ _ e => e))
      clear hc'
      obtain ⟨y0, y1, y2, y3, y4, y5, y6, y7, y8⟩ := rv_kept HB0.out HX.out
      go_wp2_with fail
      refine (cwithin_t 1 4294967296 [ge] _ 1 1 _ _ rfl (rds_new1 _ _ _ _ _ rfl _ _ rfl rfl) (by decide)).mono ?_
      rw [HB2.out]
      rintro e w2 ⟨rfl, hw⟩
      have HX := Lib.hid (chg_eq6 HX.out hw)
      clear hw
      clear y0 y1 y2 y3 y4 y5 y6 y7 y8
      obtain ⟨y0, y1, y2, y3, y4, y5, y6, y7, y8⟩ := rv_kept HB0.out HX.out
      go_wp2_with fail
      go_ret
      exact ⟨ret_b hR.out.symm, HC0.out.trans HX.out (fun _ _ e => e)⟩
    | true =>
      cases b3 with
      | false =>
        have hR := Lib.hid (show (true && (decide (ma ≤ 281474976710655) && (true && (false && b4)))) = false by simp [hm])
        go_enter Tryz.func95, Tryz.ntmps95
        go_wp2_with fail
        refine (HN.out _).mono ?_
        rintro e w1 ⟨rfl, hc'⟩
        have HX := Lib.hid (HX.out.trans hc' (fun _ _ e => e))
        clear hc'
        obtain ⟨y0, y1, y2, y3, y4, y5, y6, y7, y8⟩ := rv_kept HB0.out HX.out
        go_wp2_with fail
        refine (cwithin_t 1 4294967296 [ge] _ 1 1 _ _ rfl (rds_new1 _ _ _ _ _ rfl _ _ rfl rfl) (by decide)).mono ?_
        rw [HB2.out]
        rintro e w2 ⟨rfl, hw⟩
        have HX := Lib.hid (chg_eq6 HX.out hw)
        clear hw
        clear y0 y1 y2 y3 y4 y5 y6 y7 y8
        obtain ⟨y0, y1, y2, y3, y4, y5, y6, y7, y8⟩ := rv_kept HB0.out HX.out
        go_wp2_with fail
        refine (cwithin_t 0 1099511627776 [si] _ 1 1 _ _ rfl (rds_new1 _ _ _ _ _ rfl _ _ rfl rfl) (by decide)).mono ?_
        rw [HB3.out]
        rintro e w3 ⟨rfl, hw⟩
        have HX := Lib.hid (chg_eq6 HX.out hw)
        clear hw
        clear y0 y1 y2 y3 y4 y5 y6 y7 y8
        obtain ⟨y0, y1, y2, y3, y4, y5, y6, y7, y8⟩ := rv_kept HB0.out HX.out
        go_wp2_with fail
        go_ret
        exact ⟨ret_b hR.out.symm, HC0.out.trans HX.out (fun _ _ e => e)⟩
      | true =>
        have hR := Lib.hid (show (true && (decide (ma ≤ 281474976710655) && (true && (true && b4)))) = b4 by simp [hm])
        go_enter Tryz.func95, Tryz.ntmps95
        go_wp2_with fail
        refine (HN.out _).mono ?_
        rintro e w1 ⟨rfl, hc'⟩
        have HX := Lib.hid (HX.out.trans hc' (fun _ _ e => e))
        clear hc'
        obtain ⟨y0, y1, y2, y3, y4, y5, y6, y7, y8⟩ := rv_kept HB0.out HX.out
        go_wp2_with fail
        refine (cwithin_t 1 4294967296 [ge] _ 1 1 _ _ rfl (rds_new1 _ _ _ _ _ rfl _ _ rfl rfl) (by decide)).mono ?_
        rw [HB2.out]
        rintro e w2 ⟨rfl, hw⟩
        have HX := Lib.hid (chg_eq6 HX.out hw)
        clear hw
        clear y0 y1 y2 y3 y4 y5 y6 y7 y8
        obtain ⟨y0, y1, y2, y3, y4, y5, y6, y7, y8⟩ := rv_kept HB0.out HX.out
        go_wp2_with fail
        refine (cwithin_t 0 1099511627776 [si] _ 1 1 _ _ rfl (rds_new1 _ _ _ _ _ rfl _ _ rfl rfl) (by decide)).mono ?_
        rw [HB3.out]
        rintro e w3 ⟨rfl, hw⟩
        have HX := Lib.hid (chg_eq6 HX.out hw)
        clear hw
        clear y0 y1 y2 y3 y4 y5 y6 y7 y8
        obtain ⟨y0, y1, y2, y3, y4, y5, y6, y7, y8⟩ := rv_kept HB0.out HX.out
        go_wp2_with fail
        refine (HH.out _).mono ?_
        rintro e w4 ⟨rfl, hc'⟩
        have HX := Lib.hid (HX.out.trans hc' (fun _ _ e => e))
        clear hc'
        go_wp2_with fail
        go_ret
        exact ⟨ret_b hR.out.symm, HC0.out.trans HX.out (fun _ _ e => e)⟩


end Go.Proofs.YtimgnogacanifaaGreat
end

section
namespace Go.Proofs.YtimgnogacanifaaGreat
open Go.RowKit
set_option linter.unusedVariables false

/-- A record. -/
structure Rc where
  pr : Int
  sr : Int
  ds : Int
  sp : Int
  dp : Int
  un : Int
def Rc.cs (x : Rc) : Array Value := rcC x.pr x.sr x.ds x.sp x.dp x.un
/-- A slice of m records, of six cells each. -/
def RcR (w : World) (S : Nat → Prop) (L : Option Addr) (m : Nat) (l : List Rc) : Prop :=
  m = l.length ∧ (0 < m → ∃ ad, L = some ad ∧ S ad.block ∧ ad.block < w.heap.size ∧ ∀ (i : Nat) (x : Rc), l[i]? = some x → ∀ (j : Nat) (u : Value), x.cs[j]? = some u → w.cell? (ad.add (i * 6 + j)) = some u)
section
variable {w w' : World} {S S' : Nat → Prop} {L : Option Addr} {m : Nat} {l : List Rc}
theorem RcR.keep (h : RcR w S L m l) (hz : w.heap.size ≤ w'.heap.size) (hk : ∀ k, S k → k < w.heap.size → w'.heap[k]? = w.heap[k]?) : RcR w' S L m l := by
  refine ⟨h.1, fun hm => ?_⟩
  obtain ⟨ad, e, hs, hb, hc⟩ := h.2 hm
  refine ⟨ad, e, hs, Nat.lt_of_lt_of_le hb hz, fun i x hi j u hu => ?_⟩
  rw [← hc i x hi j u hu]
  exact World.cell?_of_block (by rw [block_add]; exact hk _ hs hb)
theorem RcR.chg (h : RcR w S L m l) (hc : Chg S' w w') (hd : ∀ k, S k → ¬ S' k) : RcR w' S L m l := h.keep hc.size fun k hs hk => hc.block k hk (hd k hs)
theorem RcR.alloc (h : RcR w S L m l) (o : Obj) : RcR (w.alloc o) S L m l := h.chg ((Chg.refl (fun _ => False) w).alloc o) (fun _ _ => id)
theorem RcR.mono (h : RcR w S L m l) (hs : ∀ k, S k → S' k) : RcR w S' L m l :=
  ⟨h.1, fun hm => by obtain ⟨ad, e, h1, h2⟩ := h.2 hm; exact ⟨ad, e, hs _ h1, h2⟩⟩
theorem RcR.nil (w : World) (S : Nat → Prop) (L : Option Addr) : RcR w S L 0 [] := ⟨rfl, fun h => absurd h (by omega)⟩
theorem RcR.old (h : RcR w S L m l) : RcR w (fun k => S k ∧ k < w.heap.size) L m l :=
  ⟨h.1, fun hm => by obtain ⟨ad, e, h1, h2, h3⟩ := h.2 hm; exact ⟨ad, e, ⟨h1, h2⟩, h2, h3⟩⟩
theorem RcR.back {w0 : World} (h : RcR w' S L m l) (hc : Chg S' w0 w') (hS : ∀ k, S k → k < w0.heap.size ∧ ¬ S' k) : RcR w0 S L m l := by
  refine ⟨h.1, fun hm => ?_⟩
  obtain ⟨ad, e, hs, hb, hcell⟩ := h.2 hm
  obtain ⟨h1, h2⟩ := hS _ hs
  refine ⟨ad, e, hs, h1, fun i x hi j u hu => ?_⟩
  rw [← hcell i x hi j u hu]
  exact (World.cell?_of_block (by rw [block_add]; exact hc.block _ h1 h2)).symm
/-- The cells of a record, as the walk spells them. -/
theorem RcR.at {ad : Addr} {i : Nat} {x : Rc} (h : RcR w S (some ad) m l) (hi : l[i]? = some x) :
    w.cell? (ad.add (i * 6)) = some (.int .i64 x.pr) ∧ w.cell? ⟨(ad.add (i * 6)).block, (ad.add (i * 6)).off + 1, none⟩ = some (.int .u32 x.sr) ∧ w.cell? ⟨(ad.add (i * 6)).block, (ad.add (i * 6)).off + 2, none⟩ = some (.int .u32 x.ds) ∧
    w.cell? ⟨(ad.add (i * 6)).block, (ad.add (i * 6)).off + 3, none⟩ = some (.int .i64 x.sp) ∧ w.cell? ⟨(ad.add (i * 6)).block, (ad.add (i * 6)).off + 4, none⟩ = some (.int .i64 x.dp) ∧ w.cell? ⟨(ad.add (i * 6)).block, (ad.add (i * 6)).off + 5, none⟩ = some (.int .i64 x.un) := by
  have hl : i < l.length := (List.getElem?_eq_some_iff.1 hi).1
  obtain ⟨ad', e, _, _, hc⟩ := h.2 (by have := h.1; omega)
  injection e with e
  subst e
  have h2 := hc i x hi
  have g0 := h2 0 (.int .i64 x.pr) rfl
  have g1 := h2 1 (.int .u32 x.sr) rfl
  have g2 := h2 2 (.int .u32 x.ds) rfl
  have g3 := h2 3 (.int .i64 x.sp) rfl
  have g4 := h2 4 (.int .i64 x.dp) rfl
  have g5 := h2 5 (.int .i64 x.un) rfl
  rw [← off_add] at g0 g1 g2 g3 g4 g5
  exact ⟨g0, g1, g2, g3, g4, g5⟩
end
/-- May a record be? -/
def rcR1 (pr sp dp un : Int) : Bool := flR pr sp dp && withinB 0 1099511627776 [un]
def rcR (x : Rc) : Bool := rcR1 x.pr x.sp x.dp x.un

/-- May these records stand in a message? -/
def keptB (l : List Rc) : Bool := decide (l.length ≤ 16) && l.all rcR
end Go.Proofs.YtimgnogacanifaaGreat
end

section
namespace Go.Proofs.YtimgnogacanifaaGreat
open Go.RowKit
set_option linter.unusedVariables false

def rvE (po ma ow ta ol ge ph ve si po2 ma2 ow2 ta2 ol2 ge2 ph2 ve2 si2 : Int) : Bool := po == po2 && (ma == ma2 && (ow == ow2 && (ta == ta2 && (ol == ol2 && (ge == ge2 && (ph == ph2 && (ve == ve2 && si == si2)))))))
def rcE (pr sr ds sp dp un pr2 sr2 ds2 sp2 dp2 un2 : Int) : Bool := pr == pr2 && (sr == sr2 && (ds == ds2 && (sp == sp2 && (dp == dp2 && un == un2))))
theorem stRow : Tryz.prog.underlying 40 = some (.struct (Tryz.prog.fieldsOf 40)) := by kernel_rfl
theorem hpRow : Tryz.prog.stoodInHeld 40 = false := by kernel_rfl
theorem eqRow (W : World) (po ma ow ta ol ge ph ve si po2 ma2 ow2 ta2 ol2 ge2 ph2 ve2 si2 : Int) : (binOp .eql 40 (.agg #[.int .i64 po, .int .u64 ma, .int .i64 ow, .int .i64 ta, .int .i64 ol, .int .i64 ge, .int .i64 ph, .int .i64 ve, .int .i64 si]) (.agg #[.int .i64 po2, .int .u64 ma2, .int .i64 ow2, .int .i64 ta2, .int .i64 ol2, .int .i64 ge2, .int .i64 ph2, .int .i64 ve2, .int .i64 si2])).run Tryz.prog W = .ok (.bool (rvE po ma ow ta ol ge ph ve si po2 ma2 ow2 ta2 ol2 ge2 ph2 ve2 si2)) W := by
  rw [run_eql_struct, show (10000 : Nat) = 9999 + 1 from rfl, run_equalIn_agg W 9999 40 _ _ stRow hpRow]
  unfold rvE
  go_simp
  by_cases h0 : po = po2
  case neg => simp [h0]
  subst h0
  by_cases h1 : ma = ma2
  case neg => simp [h1]
  subst h1
  by_cases h2 : ow = ow2
  case neg => simp [h2]
  subst h2
  by_cases h3 : ta = ta2
  case neg => simp [h3]
  subst h3
  by_cases h4 : ol = ol2
  case neg => simp [h4]
  subst h4
  by_cases h5 : ge = ge2
  case neg => simp [h5]
  subst h5
  by_cases h6 : ph = ph2
  case neg => simp [h6]
  subst h6
  by_cases h7 : ve = ve2
  case neg => simp [h7]
  subst h7
  by_cases h8 : si = si2
  case neg => simp [h8]
  subst h8
  simp
/-- May a message be? -/
def msR (kd po ma ow ta ol ge ph ve si pt vr : Int) (l : List Rc) : Bool :=
  if kd = 1 then rwR po ma ow ta ol ge ph ve si && (pt == 0 && (vr == 0 && l.length == 0))
  else if kd = 2 then rvE po ma ow ta ol ge ph ve si 0 0 0 0 0 0 0 0 0 && (namedB pt vr && l.length == 0)
  else if kd = 3 then rvE po ma ow ta ol ge ph ve si 0 0 0 0 0 0 0 0 0 && (namedB pt vr && keptB l)
  else false
theorem len0 (n : Nat) : (n == 0) = ((n : Int) == 0) := by
  by_cases h : n = 0
  · subst h; rfl
  · have h2 : (n == 0) = false := by simpa using h
    have h3 : ((n : Int) == 0) = false := by simp; omega
    rw [h2, h3]

end Go.Proofs.YtimgnogacanifaaGreat
end

section
namespace Go.Proofs.YtimgnogacanifaaGreat
open Go.RowKit
set_option linter.unusedVariables false

theorem wi_one (lo hi x : Int) : withinB lo hi [x] = (decide (lo ≤ x) && decide (x ≤ hi)) := by simp [withinB]
theorem wi_cons (lo hi x : Int) (l : List Int) : withinB lo hi (x :: l) = (withinB lo hi [x] && withinB lo hi l) := by simp [withinB]
theorem wi_nob (x : Int) : withinB (-1) (-1) [x] = (x == -1) := by
  rw [wi_one]
  by_cases h : x = -1
  · subst h; rfl
  · have h1 : (x == -1) = false := by simpa using h
    rw [h1]
    by_cases h2 : -1 ≤ x
    · have : ¬ x ≤ -1 := by omega
      simp [this]
    · simp [h2]
set_option maxRecDepth 100000 in
set_option maxHeartbeats 400000 in
theorem in6_any (x lo hi : Int) (w : World) : Calls Tryz.prog 125 #[.int .i64 x, .int .i64 lo, .int .i64 hi] w fun e w' => e = .returned (.bool (withinB lo hi [x])) ∧ w = w' := by
  by_cases h : lo ≤ x
  · have hR := Lib.hid (show withinB lo hi [x] = decide (x ≤ hi) by rw [wi_one]; simp [h])
    go_enter Tryz.func125, Tryz.ntmps125
    go_wp2_with fail
    go_ret
    exact ⟨ret_b hR.out.symm, rfl⟩
  · have hR := Lib.hid (show withinB lo hi [x] = false by rw [wi_one]; simp [h])
    go_enter Tryz.func125, Tryz.ntmps125
    go_wp2_with fail
    go_ret
    exact ⟨ret_b hR.out.symm, rfl⟩

set_option maxRecDepth 100000 in
set_option maxHeartbeats 400000 in
theorem rchassis_any (x : Int) (w : World) : Calls Tryz.prog 146 #[.int .i64 x] w fun e w' => e = .returned (.bool (withinB 0 15 [x])) ∧ w = w' := by
  have HI := Lib.hid (in6_any x 0 15 w)
  go_enter Tryz.func146, Tryz.ntmps146
  go_wp2_with fail
  refine HI.out.mono ?_
  rintro e w' ⟨rfl, rfl⟩
  go_wp2_with fail
  go_ret
  exact ⟨rfl, rfl⟩

def whoB (ph ow ta ol : Int) (b1 b2 b3 : Bool) : Bool :=
  if ph = 0 then b1 && (ta == -1 && ol == -1)
  else if ph = 1 then b1 && (b2 && (ol == -1 && ow != ta))
  else if ph = 2 then b1 && (b3 && (ta == -1 && ow != ol))
  else if ph = 3 then ow == -1 && (ta == -1 && ol == -1)
  else false
theorem held_who (ph ow ta ol : Int) : heldB ph ow ta ol = whoB ph ow ta ol (withinB 0 15 [ow]) (withinB 0 15 [ta]) (withinB 0 15 [ol]) := by
  unfold heldB whoB
  rw [wi_cons (-1) (-1) ow, wi_cons (-1) (-1) ta, wi_cons 0 15 ow [ta], wi_cons 0 15 ow [ol], wi_nob, wi_nob, wi_nob]
  unfold bne
  generalize withinB 0 15 [ow] = b1
  generalize withinB 0 15 [ta] = b2
  generalize withinB 0 15 [ol] = b3
  generalize (ta == -1) = b4
  generalize (ol == -1) = b5
  generalize (ow == -1) = b6
  split
  · rfl
  · split
    · cases b1 <;> cases b2 <;> cases b5 <;> simp
    · split
      · cases b1 <;> cases b3 <;> cases b4 <;> simp
      · rfl

set_option maxRecDepth 100000 in
set_option maxHeartbeats 4000000 in
theorem who_any (po ma ow ta ol ge ph ve si : Int) (w : World) : Calls Tryz.prog 134 #[.agg (rvC po ma ow ta ol ge ph ve si)] w fun e w' => e = .returned (.bool (heldB ph ow ta ol)) ∧ Chg (fun _ => False) w w' := by
  have HC0 := Lib.hid ((Chg.refl (fun _ => False) w).alloc (.cells #[.int .i64 po, .int .u64 ma, .int .i64 ow, .int .i64 ta, .int .i64 ol, .int .i64 ge, .int .i64 ph, .int .i64 ve, .int .i64 si] 40))
  rw [held_who]
  have q1 := fun W => rchassis_any ow W
  have q2 := fun W => rchassis_any ta W
  have q3 := fun W => rchassis_any ol W
  generalize withinB 0 15 [ow] = b1 at *
  generalize withinB 0 15 [ta] = b2 at *
  generalize withinB 0 15 [ol] = b3 at *
  have H1 := Lib.hid q1
  have H2 := Lib.hid q2
  have H3 := Lib.hid q3
  clear q1 q2 q3
  unfold rvC
  by_cases h0 : ph = 0
  case pos =>
    subst h0
    cases b1 with
    | false =>
      have hR := Lib.hid (show whoB 0 ow ta ol false b2 b3 = false by simp [whoB])
      go_enter Tryz.func134, Tryz.ntmps134
      go_wp2_with fail
      refine (H1.out _).mono ?_
      rintro e w' ⟨rfl, rfl⟩
      go_wp2_with fail
      refine (H2.out _).mono ?_
      rintro e w' ⟨rfl, rfl⟩
      go_wp2_with fail
      refine (H3.out _).mono ?_
      rintro e w' ⟨rfl, rfl⟩
      go_wp2_with fail
      go_ret
      exact ⟨ret_b hR.out.symm, HC0.out⟩
    | true =>
      by_cases hq1 : ta = -1
      case neg =>
        have tq : (ta == -1) = false := by simpa using hq1
        have hR := Lib.hid (show whoB 0 ow ta ol true b2 b3 = false by simp [whoB, tq])
        clear hq1
        go_enter Tryz.func134, Tryz.ntmps134
        go_wp2_with fail
        refine (H1.out _).mono ?_
        rintro e w' ⟨rfl, rfl⟩
        go_wp2_with fail
        refine (H2.out _).mono ?_
        rintro e w' ⟨rfl, rfl⟩
        go_wp2_with fail
        refine (H3.out _).mono ?_
        rintro e w' ⟨rfl, rfl⟩
        go_wp2_with fail
        go_ret
        exact ⟨ret_b hR.out.symm, HC0.out⟩
      subst hq1
      have hR := Lib.hid (show whoB 0 ow (-1) ol true b2 b3 = (ol == -1) by simp [whoB])
      go_enter Tryz.func134, Tryz.ntmps134
      go_wp2_with fail
      refine (H1.out _).mono ?_
      rintro e w' ⟨rfl, rfl⟩
      go_wp2_with fail
      refine (H2.out _).mono ?_
      rintro e w' ⟨rfl, rfl⟩
      go_wp2_with fail
      refine (H3.out _).mono ?_
      rintro e w' ⟨rfl, rfl⟩
      go_wp2_with fail
      go_ret
      exact ⟨ret_b hR.out.symm, HC0.out⟩
  by_cases h1 : ph = 1
  case pos =>
    subst h1
    cases b1 with
    | false =>
      have hR := Lib.hid (show whoB 1 ow ta ol false b2 b3 = false by simp [whoB])
      go_enter Tryz.func134, Tryz.ntmps134
      go_wp2_with fail
      refine (H1.out _).mono ?_
      rintro e w' ⟨rfl, rfl⟩
      go_wp2_with fail
      refine (H2.out _).mono ?_
      rintro e w' ⟨rfl, rfl⟩
      go_wp2_with fail
      refine (H3.out _).mono ?_
      rintro e w' ⟨rfl, rfl⟩
      go_wp2_with fail
      go_ret
      exact ⟨ret_b hR.out.symm, HC0.out⟩
    | true =>
      cases b2 with
      | false =>
        have hR := Lib.hid (show whoB 1 ow ta ol true false b3 = false by simp [whoB])
        go_enter Tryz.func134, Tryz.ntmps134
        go_wp2_with fail
        refine (H1.out _).mono ?_
        rintro e w' ⟨rfl, rfl⟩
        go_wp2_with fail
        refine (H2.out _).mono ?_
        rintro e w' ⟨rfl, rfl⟩
        go_wp2_with fail
        refine (H3.out _).mono ?_
        rintro e w' ⟨rfl, rfl⟩
        go_wp2_with fail
        go_ret
        exact ⟨ret_b hR.out.symm, HC0.out⟩
      | true =>
        by_cases hq2 : ol = -1
        case neg =>
          have tq : (ol == -1) = false := by simpa using hq2
          have hR := Lib.hid (show whoB 1 ow ta ol true true b3 = false by simp [whoB, tq])
          clear hq2
          go_enter Tryz.func134, Tryz.ntmps134
          go_wp2_with fail
          refine (H1.out _).mono ?_
          rintro e w' ⟨rfl, rfl⟩
          go_wp2_with fail
          refine (H2.out _).mono ?_
          rintro e w' ⟨rfl, rfl⟩
          go_wp2_with fail
          refine (H3.out _).mono ?_
          rintro e w' ⟨rfl, rfl⟩
          go_wp2_with fail
          go_ret
          exact ⟨ret_b hR.out.symm, HC0.out⟩
        subst hq2
        have hR := Lib.hid (show whoB 1 ow ta (-1) true true b3 = (ow != ta) by simp [whoB])
        go_enter Tryz.func134, Tryz.ntmps134
        go_wp2_with fail
        refine (H1.out _).mono ?_
        rintro e w' ⟨rfl, rfl⟩
        go_wp2_with fail
        refine (H2.out _).mono ?_
        rintro e w' ⟨rfl, rfl⟩
        go_wp2_with fail
        refine (H3.out _).mono ?_
        rintro e w' ⟨rfl, rfl⟩
        go_wp2_with fail
        go_ret
        exact ⟨ret_b hR.out.symm, HC0.out⟩
  by_cases h2 : ph = 2
  case pos =>
    subst h2
    cases b1 with
    | false =>
      have hR := Lib.hid (show whoB 2 ow ta ol false b2 b3 = false by simp [whoB])
      go_enter Tryz.func134, Tryz.ntmps134
      go_wp2_with fail
      refine (H1.out _).mono ?_
      rintro e w' ⟨rfl, rfl⟩
      go_wp2_with fail
      refine (H2.out _).mono ?_
      rintro e w' ⟨rfl, rfl⟩
      go_wp2_with fail
      refine (H3.out _).mono ?_
      rintro e w' ⟨rfl, rfl⟩
      go_wp2_with fail
      go_ret
      exact ⟨ret_b hR.out.symm, HC0.out⟩
    | true =>
      cases b3 with
      | false =>
        have hR := Lib.hid (show whoB 2 ow ta ol true b2 false = false by simp [whoB])
        go_enter Tryz.func134, Tryz.ntmps134
        go_wp2_with fail
        refine (H1.out _).mono ?_
        rintro e w' ⟨rfl, rfl⟩
        go_wp2_with fail
        refine (H2.out _).mono ?_
        rintro e w' ⟨rfl, rfl⟩
        go_wp2_with fail
        refine (H3.out _).mono ?_
        rintro e w' ⟨rfl, rfl⟩
        go_wp2_with fail
        go_ret
        exact ⟨ret_b hR.out.symm, HC0.out⟩
      | true =>
        by_cases hq2 : ta = -1
        case neg =>
          have tq : (ta == -1) = false := by simpa using hq2
          have hR := Lib.hid (show whoB 2 ow ta ol true b2 true = false by simp [whoB, tq])
          clear hq2
          go_enter Tryz.func134, Tryz.ntmps134
          go_wp2_with fail
          refine (H1.out _).mono ?_
          rintro e w' ⟨rfl, rfl⟩
          go_wp2_with fail
          refine (H2.out _).mono ?_
          rintro e w' ⟨rfl, rfl⟩
          go_wp2_with fail
          refine (H3.out _).mono ?_
          rintro e w' ⟨rfl, rfl⟩
          go_wp2_with fail
          go_ret
          exact ⟨ret_b hR.out.symm, HC0.out⟩
        subst hq2
        have hR := Lib.hid (show whoB 2 ow (-1) ol true b2 true = (ow != ol) by simp [whoB])
        go_enter Tryz.func134, Tryz.ntmps134
        go_wp2_with fail
        refine (H1.out _).mono ?_
        rintro e w' ⟨rfl, rfl⟩
        go_wp2_with fail
        refine (H2.out _).mono ?_
        rintro e w' ⟨rfl, rfl⟩
        go_wp2_with fail
        refine (H3.out _).mono ?_
        rintro e w' ⟨rfl, rfl⟩
        go_wp2_with fail
        go_ret
        exact ⟨ret_b hR.out.symm, HC0.out⟩
  by_cases h3 : ph = 3
  case pos =>
    subst h3
    by_cases hq0 : ow = -1
    case neg =>
      have tq : (ow == -1) = false := by simpa using hq0
      have hR := Lib.hid (show whoB 3 ow ta ol b1 b2 b3 = false by simp [whoB, tq])
      clear hq0
      go_enter Tryz.func134, Tryz.ntmps134
      go_wp2_with fail
      refine (H1.out _).mono ?_
      rintro e w' ⟨rfl, rfl⟩
      go_wp2_with fail
      refine (H2.out _).mono ?_
      rintro e w' ⟨rfl, rfl⟩
      go_wp2_with fail
      refine (H3.out _).mono ?_
      rintro e w' ⟨rfl, rfl⟩
      go_wp2_with fail
      go_ret
      exact ⟨ret_b hR.out.symm, HC0.out⟩
    subst hq0
    by_cases hq1 : ta = -1
    case neg =>
      have tq : (ta == -1) = false := by simpa using hq1
      have hR := Lib.hid (show whoB 3 (-1) ta ol b1 b2 b3 = false by simp [whoB, tq])
      clear hq1
      go_enter Tryz.func134, Tryz.ntmps134
      go_wp2_with fail
      refine (H1.out _).mono ?_
      rintro e w' ⟨rfl, rfl⟩
      go_wp2_with fail
      refine (H2.out _).mono ?_
      rintro e w' ⟨rfl, rfl⟩
      go_wp2_with fail
      refine (H3.out _).mono ?_
      rintro e w' ⟨rfl, rfl⟩
      go_wp2_with fail
      go_ret
      exact ⟨ret_b hR.out.symm, HC0.out⟩
    subst hq1
    have hR := Lib.hid (show whoB 3 (-1) (-1) ol b1 b2 b3 = (ol == -1) by simp [whoB])
    go_enter Tryz.func134, Tryz.ntmps134
    go_wp2_with fail
    refine (H1.out _).mono ?_
    rintro e w' ⟨rfl, rfl⟩
    go_wp2_with fail
    refine (H2.out _).mono ?_
    rintro e w' ⟨rfl, rfl⟩
    go_wp2_with fail
    refine (H3.out _).mono ?_
    rintro e w' ⟨rfl, rfl⟩
    go_wp2_with fail
    go_ret
    exact ⟨ret_b hR.out.symm, HC0.out⟩
  have t0 : (ph == 0) = false := by simpa using h0
  have t1 : (ph == 1) = false := by simpa using h1
  have t2 : (ph == 2) = false := by simpa using h2
  have t3 : (ph == 3) = false := by simpa using h3
  have hR := Lib.hid (show whoB ph ow ta ol b1 b2 b3 = false by unfold whoB; rw [if_neg h0, if_neg h1, if_neg h2, if_neg h3])
  clear h0 h1 h2 h3
  go_enter Tryz.func134, Tryz.ntmps134
  go_wp2_with fail
  refine (H1.out _).mono ?_
  rintro e w' ⟨rfl, rfl⟩
  go_wp2_with fail
  refine (H2.out _).mono ?_
  rintro e w' ⟨rfl, rfl⟩
  go_wp2_with fail
  refine (H3.out _).mono ?_
  rintro e w' ⟨rfl, rfl⟩
  go_wp2_with fail
  go_ret
  exact ⟨ret_b hR.out.symm, HC0.out⟩

theorem rw_three (po ma ow ta ol ge ph ve si : Int) : rwR po ma ow ta ol ge ph ve si = (heldB ph ow ta ol && ((withinB 0 31 [po] && (withinB 1 4294967296 [ge] && (withinB 1 1099511627776 [ve] && withinB 0 1099511627776 [si]))) && decide (ma ≤ 281474976710655))) := by
  unfold rwR namedB
  generalize heldB ph ow ta ol = x1
  generalize withinB 0 31 [po] = x2
  generalize withinB 1 4294967296 [ge] = x3
  generalize withinB 1 1099511627776 [ve] = x4
  generalize withinB 0 1099511627776 [si] = x5
  generalize decide (ma ≤ 281474976710655) = x6
  ac_rfl
set_option maxRecDepth 100000 in
set_option maxHeartbeats 4000000 in
theorem rrow_any (po ma ow ta ol ge ph ve si : Int) (w : World) : Calls Tryz.prog 122 #[.agg (rvC po ma ow ta ol ge ph ve si)] w fun e w' => e = .returned (.bool (rwR po ma ow ta ol ge ph ve si)) ∧ Chg (fun _ => False) w w' := by
  have HX := Lib.hid (Chg.refl (fun _ => False) (w.alloc (.cells #[.int .i64 po, .int .u64 ma, .int .i64 ow, .int .i64 ta, .int .i64 ol, .int .i64 ge, .int .i64 ph, .int .i64 ve, .int .i64 si] 40)))
  have HB0 : Hid (Blk (w.alloc (.cells #[.int .i64 po, .int .u64 ma, .int .i64 ow, .int .i64 ta, .int .i64 ol, .int .i64 ge, .int .i64 ph, .int .i64 ve, .int .i64 si] 40)) w.heap.size 40 (rvC po ma ow ta ol ge ph ve si)) := Lib.hid (blk_new rfl)
  have HC0 := Lib.hid ((Chg.refl (fun _ => False) w).alloc (.cells #[.int .i64 po, .int .u64 ma, .int .i64 ow, .int .i64 ta, .int .i64 ol, .int .i64 ge, .int .i64 ph, .int .i64 ve, .int .i64 si] 40))
  have hw := fun W => who_any po ma ow ta ol ge ph ve si W
  have q1 := fun W => in6_any po 0 31 W
  have q2 := fun W => in6_any ge 1 4294967296 W
  have q3 := fun W => in6_any ve 1 1099511627776 W
  have q4 := fun W => in6_any si 0 1099511627776 W
  rw [rw_three]
  generalize heldB ph ow ta ol = b0 at *
  have hu : ∀ x1 x2 x3 x4 : Bool, (x1 && (x2 && (x3 && x4))) = (x1 && (x2 && (x3 && x4))) := fun _ _ _ _ => rfl
  replace hu := hu (withinB 0 31 [po]) (withinB 1 4294967296 [ge]) (withinB 1 1099511627776 [ve]) (withinB 0 1099511627776 [si])
  generalize hu1 : (withinB 0 31 [po] && (withinB 1 4294967296 [ge] && (withinB 1 1099511627776 [ve] && withinB 0 1099511627776 [si]))) = u at *
  clear hu
  have hu2 := hu1.symm
  clear hu1
  generalize withinB 0 31 [po] = b1 at *
  generalize withinB 1 4294967296 [ge] = b2 at *
  generalize withinB 1 1099511627776 [ve] = b3 at *
  generalize withinB 0 1099511627776 [si] = b4 at *
  have HU := Lib.hid hu2
  unfold rvC at hw ⊢
  have HW := Lib.hid hw
  have H1 := Lib.hid q1
  have H2 := Lib.hid q2
  have H3 := Lib.hid q3
  have H4 := Lib.hid q4
  clear hw q1 q2 q3 q4 hu2
  go_enter Tryz.func122, Tryz.ntmps122
  go_wp2_with fail
  refine (HW.out _).mono ?_
  rintro e w1 ⟨rfl, hc1⟩
  have HX := Lib.hid (HX.out.trans hc1 (fun _ _ e => e))
  clear hc1
  obtain ⟨y0, y1, y2, y3, y4, y5, y6, y7, y8⟩ := rv_kept HB0.out HX.out
  go_upto_region 2 with fail
  go_cut [4] (fun s4 wx => s4 = .bool u ∧ wx = w1)
  case first =>
    cases b1 with
    | false =>
      go_wp2_with fail
      refine (H1.out _).mono ?_
      rintro e w' ⟨rfl, rfl⟩
      go_wp2_with fail
      go_meet
      exact ⟨by rw [HU.out]; rfl, rfl⟩
    | true =>
      cases b2 with
      | false =>
        go_wp2_with fail
        refine (H1.out _).mono ?_
        rintro e w' ⟨rfl, rfl⟩
        go_wp2_with fail
        refine (H2.out _).mono ?_
        rintro e w' ⟨rfl, rfl⟩
        go_wp2_with fail
        go_meet
        exact ⟨by rw [HU.out]; rfl, rfl⟩
      | true =>
        cases b3 with
        | false =>
          go_wp2_with fail
          refine (H1.out _).mono ?_
          rintro e w' ⟨rfl, rfl⟩
          go_wp2_with fail
          refine (H2.out _).mono ?_
          rintro e w' ⟨rfl, rfl⟩
          go_wp2_with fail
          refine (H3.out _).mono ?_
          rintro e w' ⟨rfl, rfl⟩
          go_wp2_with fail
          go_meet
          exact ⟨by rw [HU.out]; rfl, rfl⟩
        | true =>
          go_wp2_with fail
          refine (H1.out _).mono ?_
          rintro e w' ⟨rfl, rfl⟩
          go_wp2_with fail
          refine (H2.out _).mono ?_
          rintro e w' ⟨rfl, rfl⟩
          go_wp2_with fail
          refine (H3.out _).mono ?_
          rintro e w' ⟨rfl, rfl⟩
          go_wp2_with fail
          refine (H4.out _).mono ?_
          rintro e w' ⟨rfl, rfl⟩
          go_wp2_with fail
          go_meet
          exact ⟨by rw [HU.out]; rfl, rfl⟩
  obtain ⟨rfl, rfl⟩ := hcut
  cases b0 with
  | false =>
    go_wp2_with fail
    go_ret
    exact ⟨rfl, HC0.out.trans HX.out (fun _ _ e => e)⟩
  | true =>
    cases u with
    | false =>
      go_wp2_with fail
      go_ret
      exact ⟨rfl, HC0.out.trans HX.out (fun _ _ e => e)⟩
    | true =>
      go_wp2_with fail
      go_ret
      exact ⟨ret_b (by simp), HC0.out.trans HX.out (fun _ _ e => e)⟩

theorem ms_bad (kd po ma ow ta ol ge ph ve si pt vr : Int) {l : List Rc} (h : l.all rcR = false) : msR kd po ma ow ta ol ge ph ve si pt vr l = false := by
  have h0 : (l.length == 0) = false := by
    cases l with
    | nil => cases h
    | cons x r => rfl
  unfold msR keptB
  rw [h0, h]
  simp
end Go.Proofs.YtimgnogacanifaaGreat
end
