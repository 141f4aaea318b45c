/-
  Rows as structures, what each act makes of one (plain), the cells of a row that is written. No condition.
  Walks: phase.chassis, moment, spent, arrived, checked. Condition of arrived: its generation is a small number.
  Walks: what phase.Again, Start, Awake, Commit, Abort and Drop hand over: the closures. Conditions: what they captured lies in memory; the generation is a small number.
  Walks: what phase.Again, Start and Awake hand over: closures over what was asked. Conditions: what they captured lies in memory; the generation is a small number.
  Walks: phase.do over the closures of Commit, Abort and Drop. Condition: what the closure makes of a row that may be is known.
  Walks: phase.do over the closures of Abort, Drop and Start. Condition: what the closure makes of a row that may be is known.
  Walks: phase.do over the closures of Awake and Again. Condition: what the closure makes of a row that may be is known.
  Walks: phase.Commit, Abort, Drop, New. No condition.
  Walks: phase.Start, Awake. No condition.
  Walk: phase.Again. No condition.
-/
import Derived.Test.YtimgnogacanifaaGreatM3
import Derived.RegionTactic
import Derived.Deep.RegionHeld3
section
namespace Go.Proofs.YtimgnogacanifaaGreat
open Go.RowKit
set_option linter.unusedVariables false

/-- A row. -/
structure RV where
  po : Int
  ma : Int
  ow : Int
  ta : Int
  ol : Int
  ge : Int
  ph : Int
  ve : Int
  si : Int
def RV.cs (x : RV) : Array Value := rvC x.po x.ma x.ow x.ta x.ol x.ge x.ph x.ve x.si
def RV.ok (x : RV) : Bool := rwR x.po x.ma x.ow x.ta x.ol x.ge x.ph x.ve x.si
def z9 : RV := ⟨0, 0, 0, 0, 0, 0, 0, 0, 0⟩
/-- A row that came, if it may be. -/
def chk9 (x : RV) : RV × Int := if x.ok = true then (x, 0) else (z9, 1)
theorem chk_yes {x : RV} (h : x.ok = true) : chk9 x = (x, 0) := if_pos h
theorem chk_no {x : RV} (h : x.ok = false) : chk9 x = (z9, 1) := if_neg (by rw [h]; decide)
def tm9 (now : Int) : Bool := withinB 0 1099511627776 [now]
def ch9 (c : Int) : Bool := withinB 0 15 [c]
/-- An act that makes y of a row, or an error, as it ends. -/
def fin9 (x : RV) (now : Int) (may : Bool) (a : RV × Int) : RV × Int :=
  if may = true ∧ tm9 now = true ∧ x.ok = true then (if a.2 = 0 then chk9 { a.1 with ve := x.ve + 1, si := now } else (z9, a.2)) else (z9, 1)
def spn9 (x : RV) : Bool := x.ge == 4294967296 || decide (1099511627760 < x.ve)
def arr9 (x : RV) : RV := { x with ph := 2, ol := x.ow, ow := x.ta, ta := -1, ge := x.ge + 1 }
def agA (x : RV) (mac ow : Int) : RV × Int := if x.ph = 3 then (if spn9 x = true then (x, 10) else ({ x with ph := 0, ma := mac, ow := ow, ge := x.ge + 1 }, 0)) else (x, 8)
def stA9 (x : RV) (t : Int) : RV × Int := if x.ph = 0 then (if t = x.ow then (x, 9) else if spn9 x = true then (x, 10) else ({ x with ph := 1, ta := t }, 0)) else (x, 8)
def awA (x : RV) (by_ ver : Int) : RV × Int := if x.ph = 1 then (if ver = x.ve then (if by_ = x.ta then (arr9 x, 0) else (x, 11)) else (x, 8)) else (x, 8)
def coA (x : RV) : RV × Int := if x.ph = 1 then (arr9 x, 0) else if x.ph = 2 then ({ x with ph := 0, ol := -1 }, 0) else (x, 8)
def abA (x : RV) : RV × Int := if x.ph = 1 then ({ x with ph := 0, ta := -1 }, 0) else (x, 8)
def drA (x : RV) : RV × Int := if x.ph = 0 then ({ x with ph := 3, ow := -1 }, 0) else (x, 8)
def new9 (po ma ow si : Int) : RV × Int := chk9 ⟨po, ma, ow, -1, -1, 1, 0, 1, si⟩
def ag9 (x : RV) (mac ow now : Int) : RV × Int := fin9 x now (ch9 ow && decide (mac ≤ 281474976710655)) (agA x mac ow)
def st9 (x : RV) (t now : Int) : RV × Int := fin9 x now (ch9 t) (stA9 x t)
def aw9 (x : RV) (by_ ver now : Int) : RV × Int := fin9 x now (ch9 by_) (awA x by_ ver)
def co9 (x : RV) (now : Int) : RV × Int := fin9 x now true (coA x)
def ab9 (x : RV) (now : Int) : RV × Int := fin9 x now true (abA x)
def dr9 (x : RV) (now : Int) : RV × Int := fin9 x now true (drA x)
def en9 (x : RV) (now : Int) : RV × Int := if x.ph = 2 then co9 x now else ab9 x now
def mx9 (n : Int) : Int := if 0 ≤ n then n else 0
def lt9 (x : RV) (now span : Int) : RV × Bool := if (en9 x now).2 = 0 ∧ mx9 span ≤ now - x.si then ((en9 x now).1, true) else (x, false)

/-- What a call hands back that answers a row and an error's number, in letters. -/
def HR9 (po ma ow ta ol ge ph ve si er : Int) (w : World) (E : Ending) (w' : World) : Prop := E = .returned (.tuple #[.agg #[.int .i64 po, .int .u64 ma, .int .i64 ow, .int .i64 ta, .int .i64 ol, .int .i64 ge, .int .i64 ph, .int .i64 ve, .int .i64 si], .int .i64 er]) ∧ Chg (fun _ => False) w w'
def HR (r : RV × Int) (w : World) : Ending → World → Prop := HR9 r.1.po r.1.ma r.1.ow r.1.ta r.1.ol r.1.ge r.1.ph r.1.ve r.1.si r.2 w
def HB9 (po ma ow ta ol ge ph ve si : Int) (b : Bool) (w : World) (E : Ending) (w' : World) : Prop := E = .returned (.tuple #[.agg #[.int .i64 po, .int .u64 ma, .int .i64 ow, .int .i64 ta, .int .i64 ol, .int .i64 ge, .int .i64 ph, .int .i64 ve, .int .i64 si], .bool b]) ∧ Chg (fun _ => False) w w'
def HB (r : RV × Bool) (w : World) : Ending → World → Prop := HB9 r.1.po r.1.ma r.1.ow r.1.ta r.1.ol r.1.ge r.1.ph r.1.ve r.1.si r.2 w
theorem HR9.pre {po ma ow ta ol ge ph ve si er : Int} {a w w' : World} {E : Ending} (h : HR9 po ma ow ta ol ge ph ve si er w E w') (hc : Chg (fun _ => False) a w) : HR9 po ma ow ta ol ge ph ve si er a E w' := ⟨h.1, hc.trans h.2 (fun _ _ e => e)⟩
theorem num9 {r : RV × Int} : ∃ po ma ow ta ol ge ph ve si e : Int, r = (⟨po, ma, ow, ta, ol, ge, ph, ve, si⟩, e) := by
  obtain ⟨x, e⟩ := r
  obtain ⟨po, ma, ow, ta, ol, ge, ph, ve, si⟩ := x
  exact ⟨_, _, _, _, _, _, _, _, _, _, rfl⟩
theorem rv_put9 {w : World} {r : Nat} {po ma ow ta ol ge ph ve si : Int} {T : TypeId} (hb : Blk w r T (rvC po ma ow ta ol ge ph ve si)) (po' ma' ow' ta' ol' ge' ph' ve' si' : Int) :
    (w.setCell ⟨r, 0, none⟩ (.int .i64 po')).cell? ⟨r, 0, none⟩ = some (.int .i64 po') ∧
    ((w.setCell ⟨r, 0, none⟩ (.int .i64 po')).setCell ⟨r, 1, none⟩ (.int .u64 ma')).cell? ⟨r, 1, none⟩ = some (.int .u64 ma') ∧
    (((w.setCell ⟨r, 0, none⟩ (.int .i64 po')).setCell ⟨r, 1, none⟩ (.int .u64 ma')).setCell ⟨r, 2, none⟩ (.int .i64 ow')).cell? ⟨r, 2, none⟩ = some (.int .i64 ow') ∧
    ((((w.setCell ⟨r, 0, none⟩ (.int .i64 po')).setCell ⟨r, 1, none⟩ (.int .u64 ma')).setCell ⟨r, 2, none⟩ (.int .i64 ow')).setCell ⟨r, 3, none⟩ (.int .i64 ta')).cell? ⟨r, 3, none⟩ = some (.int .i64 ta') ∧
    (((((w.setCell ⟨r, 0, none⟩ (.int .i64 po')).setCell ⟨r, 1, none⟩ (.int .u64 ma')).setCell ⟨r, 2, none⟩ (.int .i64 ow')).setCell ⟨r, 3, none⟩ (.int .i64 ta')).setCell ⟨r, 4, none⟩ (.int .i64 ol')).cell? ⟨r, 4, none⟩ = some (.int .i64 ol') ∧
    ((((((w.setCell ⟨r, 0, none⟩ (.int .i64 po')).setCell ⟨r, 1, none⟩ (.int .u64 ma')).setCell ⟨r, 2, none⟩ (.int .i64 ow')).setCell ⟨r, 3, none⟩ (.int .i64 ta')).setCell ⟨r, 4, none⟩ (.int .i64 ol')).setCell ⟨r, 5, none⟩ (.int .i64 ge')).cell? ⟨r, 5, none⟩ = some (.int .i64 ge') ∧
    (((((((w.setCell ⟨r, 0, none⟩ (.int .i64 po')).setCell ⟨r, 1, none⟩ (.int .u64 ma')).setCell ⟨r, 2, none⟩ (.int .i64 ow')).setCell ⟨r, 3, none⟩ (.int .i64 ta')).setCell ⟨r, 4, none⟩ (.int .i64 ol')).setCell ⟨r, 5, none⟩ (.int .i64 ge')).setCell ⟨r, 6, none⟩ (.int .i64 ph')).cell? ⟨r, 6, none⟩ = some (.int .i64 ph') ∧
    ((((((((w.setCell ⟨r, 0, none⟩ (.int .i64 po')).setCell ⟨r, 1, none⟩ (.int .u64 ma')).setCell ⟨r, 2, none⟩ (.int .i64 ow')).setCell ⟨r, 3, none⟩ (.int .i64 ta')).setCell ⟨r, 4, none⟩ (.int .i64 ol')).setCell ⟨r, 5, none⟩ (.int .i64 ge')).setCell ⟨r, 6, none⟩ (.int .i64 ph')).setCell ⟨r, 7, none⟩ (.int .i64 ve')).cell? ⟨r, 7, none⟩ = some (.int .i64 ve') ∧
    (((((((((w.setCell ⟨r, 0, none⟩ (.int .i64 po')).setCell ⟨r, 1, none⟩ (.int .u64 ma')).setCell ⟨r, 2, none⟩ (.int .i64 ow')).setCell ⟨r, 3, none⟩ (.int .i64 ta')).setCell ⟨r, 4, none⟩ (.int .i64 ol')).setCell ⟨r, 5, none⟩ (.int .i64 ge')).setCell ⟨r, 6, none⟩ (.int .i64 ph')).setCell ⟨r, 7, none⟩ (.int .i64 ve')).setCell ⟨r, 8, none⟩ (.int .i64 si')).cell? ⟨r, 8, none⟩ = some (.int .i64 si') ∧
    Blk (((((((((w.setCell ⟨r, 0, none⟩ (.int .i64 po')).setCell ⟨r, 1, none⟩ (.int .u64 ma')).setCell ⟨r, 2, none⟩ (.int .i64 ow')).setCell ⟨r, 3, none⟩ (.int .i64 ta')).setCell ⟨r, 4, none⟩ (.int .i64 ol')).setCell ⟨r, 5, none⟩ (.int .i64 ge')).setCell ⟨r, 6, none⟩ (.int .i64 ph')).setCell ⟨r, 7, none⟩ (.int .i64 ve')).setCell ⟨r, 8, none⟩ (.int .i64 si')) r T (rvC po' ma' ow' ta' ol' ge' ph' ve' si') ∧ Chg (fun k => k = r) w (((((((((w.setCell ⟨r, 0, none⟩ (.int .i64 po')).setCell ⟨r, 1, none⟩ (.int .u64 ma')).setCell ⟨r, 2, none⟩ (.int .i64 ow')).setCell ⟨r, 3, none⟩ (.int .i64 ta')).setCell ⟨r, 4, none⟩ (.int .i64 ol')).setCell ⟨r, 5, none⟩ (.int .i64 ge')).setCell ⟨r, 6, none⟩ (.int .i64 ph')).setCell ⟨r, 7, none⟩ (.int .i64 ve')).setCell ⟨r, 8, none⟩ (.int .i64 si')) := by
  have h0 := (hb.set 0 (.int .i64 po'))
  have r0 := h0.cell 0
  have h1 := ((hb.set 0 (.int .i64 po')).set 1 (.int .u64 ma'))
  have r1 := h1.cell 1
  have h2 := (((hb.set 0 (.int .i64 po')).set 1 (.int .u64 ma')).set 2 (.int .i64 ow'))
  have r2 := h2.cell 2
  have h3 := ((((hb.set 0 (.int .i64 po')).set 1 (.int .u64 ma')).set 2 (.int .i64 ow')).set 3 (.int .i64 ta'))
  have r3 := h3.cell 3
  have h4 := (((((hb.set 0 (.int .i64 po')).set 1 (.int .u64 ma')).set 2 (.int .i64 ow')).set 3 (.int .i64 ta')).set 4 (.int .i64 ol'))
  have r4 := h4.cell 4
  have h5 := ((((((hb.set 0 (.int .i64 po')).set 1 (.int .u64 ma')).set 2 (.int .i64 ow')).set 3 (.int .i64 ta')).set 4 (.int .i64 ol')).set 5 (.int .i64 ge'))
  have r5 := h5.cell 5
  have h6 := (((((((hb.set 0 (.int .i64 po')).set 1 (.int .u64 ma')).set 2 (.int .i64 ow')).set 3 (.int .i64 ta')).set 4 (.int .i64 ol')).set 5 (.int .i64 ge')).set 6 (.int .i64 ph'))
  have r6 := h6.cell 6
  have h7 := ((((((((hb.set 0 (.int .i64 po')).set 1 (.int .u64 ma')).set 2 (.int .i64 ow')).set 3 (.int .i64 ta')).set 4 (.int .i64 ol')).set 5 (.int .i64 ge')).set 6 (.int .i64 ph')).set 7 (.int .i64 ve'))
  have r7 := h7.cell 7
  have h8 := (((((((((hb.set 0 (.int .i64 po')).set 1 (.int .u64 ma')).set 2 (.int .i64 ow')).set 3 (.int .i64 ta')).set 4 (.int .i64 ol')).set 5 (.int .i64 ge')).set 6 (.int .i64 ph')).set 7 (.int .i64 ve')).set 8 (.int .i64 si'))
  have r8 := h8.cell 8
  simp only [rvC, List.setIfInBounds_toArray, List.set_cons_succ, List.set_cons_zero, List.getElem?_toArray, List.getElem?_cons_zero, List.getElem?_cons_succ] at r0 r1 r2 r3 r4 r5 r6 r7 r8 h8
  exact ⟨r0, r1, r2, r3, r4, r5, r6, r7, r8, h8, ((((((((((Chg.refl (fun k => k = r) w).put r 0 (fun _ => rfl) (.int .i64 po')).put r 1 (fun _ => rfl) (.int .u64 ma')).put r 2 (fun _ => rfl) (.int .i64 ow')).put r 3 (fun _ => rfl) (.int .i64 ta')).put r 4 (fun _ => rfl) (.int .i64 ol')).put r 5 (fun _ => rfl) (.int .i64 ge')).put r 6 (fun _ => rfl) (.int .i64 ph')).put r 7 (fun _ => rfl) (.int .i64 ve')).put r 8 (fun _ => rfl) (.int .i64 si'))⟩
theorem rv_free9 {w : World} {r : Nat} {T : TypeId} {cs : Array Value} (hb : Blk w r T cs) : w.frozen? ⟨r, 0, none⟩ = false ∧ w.frozen? ⟨r, 1, none⟩ = false ∧ w.frozen? ⟨r, 2, none⟩ = false ∧ w.frozen? ⟨r, 3, none⟩ = false ∧ w.frozen? ⟨r, 4, none⟩ = false ∧ w.frozen? ⟨r, 5, none⟩ = false ∧ w.frozen? ⟨r, 6, none⟩ = false ∧ w.frozen? ⟨r, 7, none⟩ = false ∧ w.frozen? ⟨r, 8, none⟩ = false :=
  ⟨hb.frozen 0, hb.frozen 1, hb.frozen 2, hb.frozen 3, hb.frozen 4, hb.frozen 5, hb.frozen 6, hb.frozen 7, hb.frozen 8⟩
theorem rv_set0 {w : World} {r : Nat} {po ma ow ta ol ge ph ve si : Int} {T : TypeId} (hb : Blk w r T (rvC po ma ow ta ol ge ph ve si)) (v : Int) : Blk (w.setCell ⟨r, 0, none⟩ (.int .i64 v)) r T (rvC v ma ow ta ol ge ph ve si) := hb.set 0 (.int .i64 v)
theorem rv_set1 {w : World} {r : Nat} {po ma ow ta ol ge ph ve si : Int} {T : TypeId} (hb : Blk w r T (rvC po ma ow ta ol ge ph ve si)) (v : Int) : Blk (w.setCell ⟨r, 1, none⟩ (.int .u64 v)) r T (rvC po v ow ta ol ge ph ve si) := hb.set 1 (.int .u64 v)
theorem rv_set2 {w : World} {r : Nat} {po ma ow ta ol ge ph ve si : Int} {T : TypeId} (hb : Blk w r T (rvC po ma ow ta ol ge ph ve si)) (v : Int) : Blk (w.setCell ⟨r, 2, none⟩ (.int .i64 v)) r T (rvC po ma v ta ol ge ph ve si) := hb.set 2 (.int .i64 v)
theorem rv_set3 {w : World} {r : Nat} {po ma ow ta ol ge ph ve si : Int} {T : TypeId} (hb : Blk w r T (rvC po ma ow ta ol ge ph ve si)) (v : Int) : Blk (w.setCell ⟨r, 3, none⟩ (.int .i64 v)) r T (rvC po ma ow v ol ge ph ve si) := hb.set 3 (.int .i64 v)
theorem rv_set4 {w : World} {r : Nat} {po ma ow ta ol ge ph ve si : Int} {T : TypeId} (hb : Blk w r T (rvC po ma ow ta ol ge ph ve si)) (v : Int) : Blk (w.setCell ⟨r, 4, none⟩ (.int .i64 v)) r T (rvC po ma ow ta v ge ph ve si) := hb.set 4 (.int .i64 v)
theorem rv_set5 {w : World} {r : Nat} {po ma ow ta ol ge ph ve si : Int} {T : TypeId} (hb : Blk w r T (rvC po ma ow ta ol ge ph ve si)) (v : Int) : Blk (w.setCell ⟨r, 5, none⟩ (.int .i64 v)) r T (rvC po ma ow ta ol v ph ve si) := hb.set 5 (.int .i64 v)
theorem rv_set6 {w : World} {r : Nat} {po ma ow ta ol ge ph ve si : Int} {T : TypeId} (hb : Blk w r T (rvC po ma ow ta ol ge ph ve si)) (v : Int) : Blk (w.setCell ⟨r, 6, none⟩ (.int .i64 v)) r T (rvC po ma ow ta ol ge v ve si) := hb.set 6 (.int .i64 v)
theorem rv_set7 {w : World} {r : Nat} {po ma ow ta ol ge ph ve si : Int} {T : TypeId} (hb : Blk w r T (rvC po ma ow ta ol ge ph ve si)) (v : Int) : Blk (w.setCell ⟨r, 7, none⟩ (.int .i64 v)) r T (rvC po ma ow ta ol ge ph v si) := hb.set 7 (.int .i64 v)
theorem rv_set8 {w : World} {r : Nat} {po ma ow ta ol ge ph ve si : Int} {T : TypeId} (hb : Blk w r T (rvC po ma ow ta ol ge ph ve si)) (v : Int) : Blk (w.setCell ⟨r, 8, none⟩ (.int .i64 v)) r T (rvC po ma ow ta ol ge ph ve v) := hb.set 8 (.int .i64 v)

theorem ok_bounds {po ma ow ta ol ge ph ve si : Int} (h : rwR po ma ow ta ol ge ph ve si = true) : (0 ≤ po ∧ po ≤ 31) ∧ (1 ≤ ve ∧ ve ≤ 1099511627776) ∧ ma ≤ 281474976710655 ∧ (1 ≤ ge ∧ ge ≤ 4294967296) ∧ (0 ≤ si ∧ si ≤ 1099511627776) := by
  simp only [rwR, namedB, withinB, List.all_cons, List.all_nil, Bool.and_true, Bool.and_eq_true, decide_eq_true_eq] at h
  obtain ⟨⟨⟨h1, h2⟩, h3, h4⟩, h5, ⟨h6, h7⟩, ⟨h8, h9⟩, _⟩ := h
  exact ⟨⟨h1, h2⟩, ⟨h3, h4⟩, h5, ⟨h6, h7⟩, h8, h9⟩
theorem tm_bounds {n : Int} (h : tm9 n = true) : 0 ≤ n ∧ n ≤ 1099511627776 := by
  simp only [tm9, withinB, List.all_cons, List.all_nil, Bool.and_true, Bool.and_eq_true, decide_eq_true_eq] at h
  exact h

end Go.Proofs.YtimgnogacanifaaGreat
end

section
namespace Go.Proofs.YtimgnogacanifaaGreat
open Go.RowKit
set_option linter.unusedVariables false

set_option maxRecDepth 100000 in
set_option maxHeartbeats 400000 in
theorem pchas_any (n : Int) (w : World) : Calls Tryz.prog 71 #[.int .i64 n] w fun e w' => e = .returned (.bool (withinB 0 15 [n])) ∧ w = w' := by
  by_cases h : 0 ≤ n
  · have hR := Lib.hid (show withinB 0 15 [n] = decide (n < 16) by rw [wi_one, decide_eq_true h, Bool.true_and]; try exact decide_eq_decide.2 (by omega))
    go_enter Tryz.func71, Tryz.ntmps71
    go_wp2_with fail
    go_ret
    exact ⟨ret_b hR.out.symm, rfl⟩
  · have hR := Lib.hid (show withinB 0 15 [n] = false by rw [wi_one]; simp [h])
    go_enter Tryz.func71, Tryz.ntmps71
    go_wp2_with fail
    go_ret
    exact ⟨ret_b hR.out.symm, rfl⟩

set_option maxRecDepth 100000 in
set_option maxHeartbeats 400000 in
theorem pmom_any (n : Int) (w : World) : Calls Tryz.prog 104 #[.int .i64 n] w fun e w' => e = .returned (.bool (withinB 0 1099511627776 [n])) ∧ w = w' := by
  by_cases h : 0 ≤ n
  · have hR := Lib.hid (show withinB 0 1099511627776 [n] = decide (n ≤ 1099511627776) by rw [wi_one, decide_eq_true h, Bool.true_and]; try exact decide_eq_decide.2 (by omega))
    go_enter Tryz.func104, Tryz.ntmps104
    go_wp2_with fail
    go_ret
    exact ⟨ret_b hR.out.symm, rfl⟩
  · have hR := Lib.hid (show withinB 0 1099511627776 [n] = false by rw [wi_one]; simp [h])
    go_enter Tryz.func104, Tryz.ntmps104
    go_wp2_with fail
    go_ret
    exact ⟨ret_b hR.out.symm, rfl⟩

set_option maxRecDepth 100000 in
set_option maxHeartbeats 400000 in
theorem pspent_any (po ma ow ta ol ge ph ve si : Int) (w : World) : Calls Tryz.prog 83 #[.agg #[.int .i64 po, .int .u64 ma, .int .i64 ow, .int .i64 ta, .int .i64 ol, .int .i64 ge, .int .i64 ph, .int .i64 ve, .int .i64 si]] w fun e w' => e = .returned (.bool (spn9 ⟨po, ma, ow, ta, ol, ge, ph, ve, si⟩)) ∧ Chg (fun _ => False) w w' := by
  have HX := Lib.hid ((Chg.refl (fun _ => False) w).alloc (.cells #[.int .i64 po, .int .u64 ma, .int .i64 ow, .int .i64 ta, .int .i64 ol, .int .i64 ge, .int .i64 ph, .int .i64 ve, .int .i64 si] 40))
  by_cases h : ge = 4294967296
  · subst h
    have hR := Lib.hid (show spn9 ⟨po, ma, ow, ta, ol, 4294967296, ph, ve, si⟩ = true by simp [spn9])
    go_enter Tryz.func83, Tryz.ntmps83
    go_wp2_with fail
    go_ret
    exact ⟨ret_b hR.out.symm, HX.out⟩
  · have t1 : (ge == 4294967296) = false := by simpa using h
    have hR := Lib.hid (show spn9 ⟨po, ma, ow, ta, ol, ge, ph, ve, si⟩ = decide (1099511627760 < ve) by simp only [spn9]; rw [t1]; rfl)
    clear h
    go_enter Tryz.func83, Tryz.ntmps83
    go_wp2_with fail
    go_ret
    exact ⟨ret_b hR.out.symm, HX.out⟩

set_option maxRecDepth 100000 in
set_option maxHeartbeats 2000000 in
theorem arrived_any (po ma ow ta ol ge ph ve si : Int) (w : World) (hg : 1 ≤ ge ∧ ge ≤ 4294967296) : Calls Tryz.prog 73 #[.agg #[.int .i64 po, .int .u64 ma, .int .i64 ow, .int .i64 ta, .int .i64 ol, .int .i64 ge, .int .i64 ph, .int .i64 ve, .int .i64 si]] w fun e w' => e = .returned (.agg #[.int .i64 po, .int .u64 ma, .int .i64 ta, .int .i64 (-1), .int .i64 ow, .int .i64 (ge + 1), .int .i64 2, .int .i64 ve, .int .i64 si]) ∧ Chg (fun _ => False) w w' := by
  have HQ0 : Blk ((w.alloc (.cells #[.int .i64 po, .int .u64 ma, .int .i64 ow, .int .i64 ta, .int .i64 ol, .int .i64 ge, .int .i64 ph, .int .i64 ve, .int .i64 si] 40)).alloc (.cells #[.int .i64 0, .int .u64 0, .int .i64 0, .int .i64 0, .int .i64 0, .int .i64 0, .int .i64 0, .int .i64 0, .int .i64 0] 40)) w.heap.size 40 (rvC po ma ow ta ol ge ph ve si) := (Blk.alloc (blk_new rfl) _)
  replace HQ0 := Lib.hid HQ0
  have HR0 : Blk ((w.alloc (.cells #[.int .i64 po, .int .u64 ma, .int .i64 ow, .int .i64 ta, .int .i64 ol, .int .i64 ge, .int .i64 ph, .int .i64 ve, .int .i64 si] 40)).alloc (.cells #[.int .i64 0, .int .u64 0, .int .i64 0, .int .i64 0, .int .i64 0, .int .i64 0, .int .i64 0, .int .i64 0, .int .i64 0] 40)) (w.heap.size + 1) 40 (rvC 0 0 0 0 0 0 0 0 0) := (blk_new (by simp))
  replace HR0 := Lib.hid HR0
  have HX0 := Lib.hid (((Chg.refl (fun _ => False) w).alloc (.cells #[.int .i64 po, .int .u64 ma, .int .i64 ow, .int .i64 ta, .int .i64 ol, .int .i64 ge, .int .i64 ph, .int .i64 ve, .int .i64 si] 40)).alloc (.cells #[.int .i64 0, .int .u64 0, .int .i64 0, .int .i64 0, .int .i64 0, .int .i64 0, .int .i64 0, .int .i64 0, .int .i64 0] 40))
  go_enter Tryz.func73, Tryz.ntmps73
  go_upto_region 1 with fail
  generalize ((w.alloc (.cells #[.int .i64 po, .int .u64 ma, .int .i64 ow, .int .i64 ta, .int .i64 ol, .int .i64 ge, .int .i64 ph, .int .i64 ve, .int .i64 si] 40)).alloc (.cells #[.int .i64 0, .int .u64 0, .int .i64 0, .int .i64 0, .int .i64 0, .int .i64 0, .int .i64 0, .int .i64 0, .int .i64 0] 40)) = w1 at *
  have fHQ00 := HQ0.out.frozen 6
  obtain ⟨-, -, yHQ00_2, yHQ00_3, -, yHQ00_5, yHQ00_6, -, -⟩ := rv_cells HQ0.out
  replace HQ0 := Lib.hid (rv_set6 HQ0.out (2))
  have fHQ01 := HQ0.out.frozen 4
  obtain ⟨-, -, -, -, yHQ01_4, -, -, -, -⟩ := rv_cells HQ0.out
  replace HQ0 := Lib.hid (rv_set4 HQ0.out (ow))
  have fHQ02 := HQ0.out.frozen 2
  obtain ⟨-, -, yHQ02_2, -, -, -, -, -, -⟩ := rv_cells HQ0.out
  replace HQ0 := Lib.hid (rv_set2 HQ0.out (ta))
  have fHQ03 := HQ0.out.frozen 3
  obtain ⟨-, -, -, yHQ03_3, -, -, -, -, -⟩ := rv_cells HQ0.out
  replace HQ0 := Lib.hid (rv_set3 HQ0.out (-1))
  have fHQ04 := HQ0.out.frozen 5
  obtain ⟨-, -, -, -, -, yHQ04_5, -, -, -⟩ := rv_cells HQ0.out
  replace HQ0 := Lib.hid (rv_set5 HQ0.out (ge + 1))
  have hcs := ((((((Chg.refl (fun k => k = w.heap.size) w1).put w.heap.size 6 (fun _ => rfl) (.int .i64 (2))).put w.heap.size 4 (fun _ => rfl) (.int .i64 (ow))).put w.heap.size 2 (fun _ => rfl) (.int .i64 (ta))).put w.heap.size 3 (fun _ => rfl) (.int .i64 (-1))).put w.heap.size 5 (fun _ => rfl) (.int .i64 (ge + 1)))
  replace HR0 := Lib.hid (HR0.out.chg hcs (by omega))
  replace HX0 := Lib.hid (fresh_set HX0.out hcs (by first | exact Nat.le_refl _ | omega))
  clear hcs
  obtain ⟨y0, y1, y2, y3, y4, y5, y6, y7, y8⟩ := rv_cells HQ0.out
  obtain ⟨x0, x1, x2, x3, x4, x5, x6, x7, x8⟩ := rv_cells HR0.out
  obtain ⟨u0, u1, u2, u3, u4, u5, u6, u7, u8⟩ := rv_free9 HR0.out
  obtain ⟨r0, r1, r2, r3, r4, r5, r6, r7, r8, -, hcs⟩ := rv_put9 HR0.out po ma ta (-1) ow (ge + 1) 2 ve si
  have HF := Lib.hid (fresh_set HX0.out hcs (by omega))
  have RR := Lib.hid (And.intro r0 (And.intro r1 (And.intro r2 (And.intro r3 (And.intro r4 (And.intro r5 (And.intro r6 (And.intro r7 r8))))))))
  clear r0 r1 r2 r3 r4 r5 r6 r7 r8 hcs HR0 HX0
  go_wp2_with fail
  obtain ⟨r0, r1, r2, r3, r4, r5, r6, r7, r8⟩ := RR.out
  exact bodyPost_ret (v := .agg (rvC po ma ta (-1) ow (ge + 1) 2 ve si)) (by simp [results, Tryz.results73, go_sem, rvC, r0, r1, r2, r3, r4, r5, r6, r7, r8]) rfl ⟨rfl, HF.out⟩

set_option maxRecDepth 100000 in
set_option maxHeartbeats 2000000 in
theorem checked_any (po ma ow ta ol ge ph ve si : Int) (w : World) : Calls Tryz.prog 105 #[.agg #[.int .i64 po, .int .u64 ma, .int .i64 ow, .int .i64 ta, .int .i64 ol, .int .i64 ge, .int .i64 ph, .int .i64 ve, .int .i64 si]] w (HR (chk9 ⟨po, ma, ow, ta, ol, ge, ph, ve, si⟩) w) := by
  have hr := fun W => crow_any po ma ow ta ol ge ph ve si W
  unfold rvC at hr
  by_cases h : rwR po ma ow ta ol ge ph ve si = true
  case pos =>
    rw [chk_yes (x := ⟨po, ma, ow, ta, ol, ge, ph, ve, si⟩) h]
    rw [h] at hr
    have HRW := Lib.hid hr
    clear hr h
    have HQ0 : Blk ((w.alloc (.cells #[.int .i64 po, .int .u64 ma, .int .i64 ow, .int .i64 ta, .int .i64 ol, .int .i64 ge, .int .i64 ph, .int .i64 ve, .int .i64 si] 40)).alloc (.cells #[.int .i64 0, .int .u64 0, .int .i64 0, .int .i64 0, .int .i64 0, .int .i64 0, .int .i64 0, .int .i64 0, .int .i64 0] 40)) w.heap.size 40 (rvC po ma ow ta ol ge ph ve si) := (Blk.alloc (blk_new rfl) _)
    replace HQ0 := Lib.hid HQ0
    have HR0 : Blk ((w.alloc (.cells #[.int .i64 po, .int .u64 ma, .int .i64 ow, .int .i64 ta, .int .i64 ol, .int .i64 ge, .int .i64 ph, .int .i64 ve, .int .i64 si] 40)).alloc (.cells #[.int .i64 0, .int .u64 0, .int .i64 0, .int .i64 0, .int .i64 0, .int .i64 0, .int .i64 0, .int .i64 0, .int .i64 0] 40)) (w.heap.size + 1) 40 (rvC 0 0 0 0 0 0 0 0 0) := (blk_new (by simp))
    replace HR0 := Lib.hid HR0
    have HX0 := Lib.hid (((Chg.refl (fun _ => False) w).alloc (.cells #[.int .i64 po, .int .u64 ma, .int .i64 ow, .int .i64 ta, .int .i64 ol, .int .i64 ge, .int .i64 ph, .int .i64 ve, .int .i64 si] 40)).alloc (.cells #[.int .i64 0, .int .u64 0, .int .i64 0, .int .i64 0, .int .i64 0, .int .i64 0, .int .i64 0, .int .i64 0, .int .i64 0] 40))
    go_enter Tryz.func105, Tryz.ntmps105
    go_upto_region 1 with fail
    generalize ((w.alloc (.cells #[.int .i64 po, .int .u64 ma, .int .i64 ow, .int .i64 ta, .int .i64 ol, .int .i64 ge, .int .i64 ph, .int .i64 ve, .int .i64 si] 40)).alloc (.cells #[.int .i64 0, .int .u64 0, .int .i64 0, .int .i64 0, .int .i64 0, .int .i64 0, .int .i64 0, .int .i64 0, .int .i64 0] 40)) = w1 at *
    obtain ⟨y0, y1, y2, y3, y4, y5, y6, y7, y8⟩ := rv_cells HQ0.out
    go_wp2_with fail
    refine (HRW.out _).mono ?_
    rintro e w2 ⟨rfl, hc⟩
    replace HX0 := Lib.hid (HX0.out.trans hc (fun _ _ e => e))
    replace HQ0 := Lib.hid (HQ0.out.chg hc id)
    replace HR0 := Lib.hid (HR0.out.chg hc id)
    clear hc
    clear y0 y1 y2 y3 y4 y5 y6 y7 y8
    obtain ⟨y0, y1, y2, y3, y4, y5, y6, y7, y8⟩ := rv_cells HQ0.out
    obtain ⟨x0, x1, x2, x3, x4, x5, x6, x7, x8⟩ := rv_cells HR0.out
    obtain ⟨u0, u1, u2, u3, u4, u5, u6, u7, u8⟩ := rv_free9 HR0.out
    obtain ⟨r0, r1, r2, r3, r4, r5, r6, r7, r8, -, hcs⟩ := rv_put9 HR0.out po ma ow ta ol ge ph ve si
    have HF := Lib.hid (fresh_set HX0.out hcs (by omega))
    have RR := Lib.hid (And.intro r0 (And.intro r1 (And.intro r2 (And.intro r3 (And.intro r4 (And.intro r5 (And.intro r6 (And.intro r7 r8))))))))
    clear r0 r1 r2 r3 r4 r5 r6 r7 r8 hcs HR0 HX0
    go_wp2_with fail
    obtain ⟨r0, r1, r2, r3, r4, r5, r6, r7, r8⟩ := RR.out
    exact bodyPost_ret (v := .tuple #[.agg (rvC po ma ow ta ol ge ph ve si), .int .i64 0]) (by simp [results, Tryz.results105, go_sem, rvC, r0, r1, r2, r3, r4, r5, r6, r7, r8]) rfl ⟨rfl, HF.out⟩
  case neg =>
    have h : rwR po ma ow ta ol ge ph ve si = false := by simpa using h
    rw [chk_no (x := ⟨po, ma, ow, ta, ol, ge, ph, ve, si⟩) h]
    rw [h] at hr
    have HRW := Lib.hid hr
    clear hr h
    have HQ0 : Blk ((w.alloc (.cells #[.int .i64 po, .int .u64 ma, .int .i64 ow, .int .i64 ta, .int .i64 ol, .int .i64 ge, .int .i64 ph, .int .i64 ve, .int .i64 si] 40)).alloc (.cells #[.int .i64 0, .int .u64 0, .int .i64 0, .int .i64 0, .int .i64 0, .int .i64 0, .int .i64 0, .int .i64 0, .int .i64 0] 40)) w.heap.size 40 (rvC po ma ow ta ol ge ph ve si) := (Blk.alloc (blk_new rfl) _)
    replace HQ0 := Lib.hid HQ0
    have HR0 : Blk ((w.alloc (.cells #[.int .i64 po, .int .u64 ma, .int .i64 ow, .int .i64 ta, .int .i64 ol, .int .i64 ge, .int .i64 ph, .int .i64 ve, .int .i64 si] 40)).alloc (.cells #[.int .i64 0, .int .u64 0, .int .i64 0, .int .i64 0, .int .i64 0, .int .i64 0, .int .i64 0, .int .i64 0, .int .i64 0] 40)) (w.heap.size + 1) 40 (rvC 0 0 0 0 0 0 0 0 0) := (blk_new (by simp))
    replace HR0 := Lib.hid HR0
    have HX0 := Lib.hid (((Chg.refl (fun _ => False) w).alloc (.cells #[.int .i64 po, .int .u64 ma, .int .i64 ow, .int .i64 ta, .int .i64 ol, .int .i64 ge, .int .i64 ph, .int .i64 ve, .int .i64 si] 40)).alloc (.cells #[.int .i64 0, .int .u64 0, .int .i64 0, .int .i64 0, .int .i64 0, .int .i64 0, .int .i64 0, .int .i64 0, .int .i64 0] 40))
    go_enter Tryz.func105, Tryz.ntmps105
    go_upto_region 1 with fail
    generalize ((w.alloc (.cells #[.int .i64 po, .int .u64 ma, .int .i64 ow, .int .i64 ta, .int .i64 ol, .int .i64 ge, .int .i64 ph, .int .i64 ve, .int .i64 si] 40)).alloc (.cells #[.int .i64 0, .int .u64 0, .int .i64 0, .int .i64 0, .int .i64 0, .int .i64 0, .int .i64 0, .int .i64 0, .int .i64 0] 40)) = w1 at *
    obtain ⟨y0, y1, y2, y3, y4, y5, y6, y7, y8⟩ := rv_cells HQ0.out
    go_wp2_with fail
    refine (HRW.out _).mono ?_
    rintro e w2 ⟨rfl, hc⟩
    replace HX0 := Lib.hid (HX0.out.trans hc (fun _ _ e => e))
    replace HQ0 := Lib.hid (HQ0.out.chg hc id)
    replace HR0 := Lib.hid (HR0.out.chg hc id)
    clear hc
    clear y0 y1 y2 y3 y4 y5 y6 y7 y8
    obtain ⟨x0, x1, x2, x3, x4, x5, x6, x7, x8⟩ := rv_cells HR0.out
    obtain ⟨u0, u1, u2, u3, u4, u5, u6, u7, u8⟩ := rv_free9 HR0.out
    obtain ⟨r0, r1, r2, r3, r4, r5, r6, r7, r8, -, hcs⟩ := rv_put9 HR0.out 0 0 0 0 0 0 0 0 0
    have HF := Lib.hid (fresh_set HX0.out hcs (by omega))
    have RR := Lib.hid (And.intro r0 (And.intro r1 (And.intro r2 (And.intro r3 (And.intro r4 (And.intro r5 (And.intro r6 (And.intro r7 r8))))))))
    clear r0 r1 r2 r3 r4 r5 r6 r7 r8 hcs HR0 HX0
    go_wp2_with fail
    obtain ⟨r0, r1, r2, r3, r4, r5, r6, r7, r8⟩ := RR.out
    exact bodyPost_ret (v := .tuple #[.agg (rvC 0 0 0 0 0 0 0 0 0), .int .i64 1]) (by simp [results, Tryz.results105, go_sem, rvC, r0, r1, r2, r3, r4, r5, r6, r7, r8]) rfl ⟨rfl, HF.out⟩

end Go.Proofs.YtimgnogacanifaaGreat
end

section
namespace Go.Proofs.YtimgnogacanifaaGreat
open Go.RowKit
set_option linter.unusedVariables false

set_option maxRecDepth 100000 in
set_option maxHeartbeats 2000000 in
theorem ab1_any (po ma ow ta ol ge ph ve si : Int) (w : World) : Calls Tryz.prog 85 #[.agg #[.int .i64 po, .int .u64 ma, .int .i64 ow, .int .i64 ta, .int .i64 ol, .int .i64 ge, .int .i64 ph, .int .i64 ve, .int .i64 si]] w (HR (abA ⟨po, ma, ow, ta, ol, ge, ph, ve, si⟩) w) := by
  by_cases h1 : ph = 1
  case pos =>
    subst h1
    rw [show abA ⟨po, ma, ow, ta, ol, ge, 1, ve, si⟩ = (⟨po, ma, ow, -1, ol, ge, 0, ve, si⟩, 0) from rfl]
    have HQ0 : Blk ((w.alloc (.cells #[.int .i64 po, .int .u64 ma, .int .i64 ow, .int .i64 ta, .int .i64 ol, .int .i64 ge, .int .i64 1, .int .i64 ve, .int .i64 si] 40)).alloc (.cells #[.int .i64 0, .int .u64 0, .int .i64 0, .int .i64 0, .int .i64 0, .int .i64 0, .int .i64 0, .int .i64 0, .int .i64 0] 40)) w.heap.size 40 (rvC po ma ow ta ol ge 1 ve si) := (Blk.alloc (blk_new rfl) _)
    replace HQ0 := Lib.hid HQ0
    have HR0 : Blk ((w.alloc (.cells #[.int .i64 po, .int .u64 ma, .int .i64 ow, .int .i64 ta, .int .i64 ol, .int .i64 ge, .int .i64 1, .int .i64 ve, .int .i64 si] 40)).alloc (.cells #[.int .i64 0, .int .u64 0, .int .i64 0, .int .i64 0, .int .i64 0, .int .i64 0, .int .i64 0, .int .i64 0, .int .i64 0] 40)) (w.heap.size + 1) 40 (rvC 0 0 0 0 0 0 0 0 0) := (blk_new (by simp))
    replace HR0 := Lib.hid HR0
    have HX0 := Lib.hid (((Chg.refl (fun _ => False) w).alloc (.cells #[.int .i64 po, .int .u64 ma, .int .i64 ow, .int .i64 ta, .int .i64 ol, .int .i64 ge, .int .i64 1, .int .i64 ve, .int .i64 si] 40)).alloc (.cells #[.int .i64 0, .int .u64 0, .int .i64 0, .int .i64 0, .int .i64 0, .int .i64 0, .int .i64 0, .int .i64 0, .int .i64 0] 40))
    go_enter Tryz.func85, Tryz.ntmps85
    go_upto_region 1 with fail
    generalize ((w.alloc (.cells #[.int .i64 po, .int .u64 ma, .int .i64 ow, .int .i64 ta, .int .i64 ol, .int .i64 ge, .int .i64 1, .int .i64 ve, .int .i64 si] 40)).alloc (.cells #[.int .i64 0, .int .u64 0, .int .i64 0, .int .i64 0, .int .i64 0, .int .i64 0, .int .i64 0, .int .i64 0, .int .i64 0] 40)) = w1 at *
    obtain ⟨-, -, -, -, -, -, y6, -⟩ := rv_cells HQ0.out
    have fHQ00 := HQ0.out.frozen 6
    obtain ⟨-, -, -, -, -, -, yHQ00_6, -, -⟩ := rv_cells HQ0.out
    replace HQ0 := Lib.hid (rv_set6 HQ0.out (0))
    have fHQ01 := HQ0.out.frozen 3
    obtain ⟨-, -, -, yHQ01_3, -, -, -, -, -⟩ := rv_cells HQ0.out
    replace HQ0 := Lib.hid (rv_set3 HQ0.out (-1))
    have hcs := (((Chg.refl (fun k => k = w.heap.size) w1).put w.heap.size 6 (fun _ => rfl) (.int .i64 (0))).put w.heap.size 3 (fun _ => rfl) (.int .i64 (-1)))
    replace HR0 := Lib.hid (HR0.out.chg hcs (by omega))
    replace HX0 := Lib.hid (fresh_set HX0.out hcs (by first | exact Nat.le_refl _ | omega))
    clear hcs
    obtain ⟨y0, y1, y2, y3, y4, y5, y6, y7, y8⟩ := rv_cells HQ0.out
    obtain ⟨x0, x1, x2, x3, x4, x5, x6, x7, x8⟩ := rv_cells HR0.out
    obtain ⟨u0, u1, u2, u3, u4, u5, u6, u7, u8⟩ := rv_free9 HR0.out
    obtain ⟨r0, r1, r2, r3, r4, r5, r6, r7, r8, -, hcs⟩ := rv_put9 HR0.out po ma ow (-1) ol ge 0 ve si
    have HF := Lib.hid (fresh_set HX0.out hcs (by omega))
    have RR := Lib.hid (And.intro r0 (And.intro r1 (And.intro r2 (And.intro r3 (And.intro r4 (And.intro r5 (And.intro r6 (And.intro r7 r8))))))))
    clear r0 r1 r2 r3 r4 r5 r6 r7 r8 hcs HR0 HX0
    go_wp2_with fail
    obtain ⟨r0, r1, r2, r3, r4, r5, r6, r7, r8⟩ := RR.out
    exact bodyPost_ret (v := .tuple #[.agg (rvC po ma ow (-1) ol ge 0 ve si), .int .i64 0]) (by simp [results, Tryz.results85, go_sem, rvC, r0, r1, r2, r3, r4, r5, r6, r7, r8]) rfl ⟨rfl, HF.out⟩
  have t1 : (ph == 1) = false := by simpa using h1
  have s1 : (ph != 1) = true := by simpa using h1
  rw [show abA ⟨po, ma, ow, ta, ol, ge, ph, ve, si⟩ = (⟨po, ma, ow, ta, ol, ge, ph, ve, si⟩, 8) from by simp [abA, h1]]
  clear h1
  have HQ0 : Blk ((w.alloc (.cells #[.int .i64 po, .int .u64 ma, .int .i64 ow, .int .i64 ta, .int .i64 ol, .int .i64 ge, .int .i64 ph, .int .i64 ve, .int .i64 si] 40)).alloc (.cells #[.int .i64 0, .int .u64 0, .int .i64 0, .int .i64 0, .int .i64 0, .int .i64 0, .int .i64 0, .int .i64 0, .int .i64 0] 40)) w.heap.size 40 (rvC po ma ow ta ol ge ph ve si) := (Blk.alloc (blk_new rfl) _)
  replace HQ0 := Lib.hid HQ0
  have HR0 : Blk ((w.alloc (.cells #[.int .i64 po, .int .u64 ma, .int .i64 ow, .int .i64 ta, .int .i64 ol, .int .i64 ge, .int .i64 ph, .int .i64 ve, .int .i64 si] 40)).alloc (.cells #[.int .i64 0, .int .u64 0, .int .i64 0, .int .i64 0, .int .i64 0, .int .i64 0, .int .i64 0, .int .i64 0, .int .i64 0] 40)) (w.heap.size + 1) 40 (rvC 0 0 0 0 0 0 0 0 0) := (blk_new (by simp))
  replace HR0 := Lib.hid HR0
  have HX0 := Lib.hid (((Chg.refl (fun _ => False) w).alloc (.cells #[.int .i64 po, .int .u64 ma, .int .i64 ow, .int .i64 ta, .int .i64 ol, .int .i64 ge, .int .i64 ph, .int .i64 ve, .int .i64 si] 40)).alloc (.cells #[.int .i64 0, .int .u64 0, .int .i64 0, .int .i64 0, .int .i64 0, .int .i64 0, .int .i64 0, .int .i64 0, .int .i64 0] 40))
  go_enter Tryz.func85, Tryz.ntmps85
  go_upto_region 1 with fail
  generalize ((w.alloc (.cells #[.int .i64 po, .int .u64 ma, .int .i64 ow, .int .i64 ta, .int .i64 ol, .int .i64 ge, .int .i64 ph, .int .i64 ve, .int .i64 si] 40)).alloc (.cells #[.int .i64 0, .int .u64 0, .int .i64 0, .int .i64 0, .int .i64 0, .int .i64 0, .int .i64 0, .int .i64 0, .int .i64 0] 40)) = w1 at *
  obtain ⟨y0, y1, y2, y3, y4, y5, y6, y7, y8⟩ := rv_cells HQ0.out
  obtain ⟨x0, x1, x2, x3, x4, x5, x6, x7, x8⟩ := rv_cells HR0.out
  obtain ⟨u0, u1, u2, u3, u4, u5, u6, u7, u8⟩ := rv_free9 HR0.out
  obtain ⟨r0, r1, r2, r3, r4, r5, r6, r7, r8, -, hcs⟩ := rv_put9 HR0.out po ma ow ta ol ge ph ve si
  have HF := Lib.hid (fresh_set HX0.out hcs (by omega))
  have RR := Lib.hid (And.intro r0 (And.intro r1 (And.intro r2 (And.intro r3 (And.intro r4 (And.intro r5 (And.intro r6 (And.intro r7 r8))))))))
  clear r0 r1 r2 r3 r4 r5 r6 r7 r8 hcs HR0 HX0
  go_wp2_with fail
  obtain ⟨r0, r1, r2, r3, r4, r5, r6, r7, r8⟩ := RR.out
  exact bodyPost_ret (v := .tuple #[.agg (rvC po ma ow ta ol ge ph ve si), .int .i64 8]) (by simp [results, Tryz.results85, go_sem, rvC, r0, r1, r2, r3, r4, r5, r6, r7, r8]) rfl ⟨rfl, HF.out⟩

set_option maxRecDepth 100000 in
set_option maxHeartbeats 2000000 in
theorem dr1_any (po ma ow ta ol ge ph ve si : Int) (w : World) : Calls Tryz.prog 81 #[.agg #[.int .i64 po, .int .u64 ma, .int .i64 ow, .int .i64 ta, .int .i64 ol, .int .i64 ge, .int .i64 ph, .int .i64 ve, .int .i64 si]] w (HR (drA ⟨po, ma, ow, ta, ol, ge, ph, ve, si⟩) w) := by
  by_cases h0 : ph = 0
  case pos =>
    subst h0
    rw [show drA ⟨po, ma, ow, ta, ol, ge, 0, ve, si⟩ = (⟨po, ma, -1, ta, ol, ge, 3, ve, si⟩, 0) from rfl]
    have HQ0 : Blk ((w.alloc (.cells #[.int .i64 po, .int .u64 ma, .int .i64 ow, .int .i64 ta, .int .i64 ol, .int .i64 ge, .int .i64 0, .int .i64 ve, .int .i64 si] 40)).alloc (.cells #[.int .i64 0, .int .u64 0, .int .i64 0, .int .i64 0, .int .i64 0, .int .i64 0, .int .i64 0, .int .i64 0, .int .i64 0] 40)) w.heap.size 40 (rvC po ma ow ta ol ge 0 ve si) := (Blk.alloc (blk_new rfl) _)
    replace HQ0 := Lib.hid HQ0
    have HR0 : Blk ((w.alloc (.cells #[.int .i64 po, .int .u64 ma, .int .i64 ow, .int .i64 ta, .int .i64 ol, .int .i64 ge, .int .i64 0, .int .i64 ve, .int .i64 si] 40)).alloc (.cells #[.int .i64 0, .int .u64 0, .int .i64 0, .int .i64 0, .int .i64 0, .int .i64 0, .int .i64 0, .int .i64 0, .int .i64 0] 40)) (w.heap.size + 1) 40 (rvC 0 0 0 0 0 0 0 0 0) := (blk_new (by simp))
    replace HR0 := Lib.hid HR0
    have HX0 := Lib.hid (((Chg.refl (fun _ => False) w).alloc (.cells #[.int .i64 po, .int .u64 ma, .int .i64 ow, .int .i64 ta, .int .i64 ol, .int .i64 ge, .int .i64 0, .int .i64 ve, .int .i64 si] 40)).alloc (.cells #[.int .i64 0, .int .u64 0, .int .i64 0, .int .i64 0, .int .i64 0, .int .i64 0, .int .i64 0, .int .i64 0, .int .i64 0] 40))
    go_enter Tryz.func81, Tryz.ntmps81
    go_upto_region 1 with fail
    generalize ((w.alloc (.cells #[.int .i64 po, .int .u64 ma, .int .i64 ow, .int .i64 ta, .int .i64 ol, .int .i64 ge, .int .i64 0, .int .i64 ve, .int .i64 si] 40)).alloc (.cells #[.int .i64 0, .int .u64 0, .int .i64 0, .int .i64 0, .int .i64 0, .int .i64 0, .int .i64 0, .int .i64 0, .int .i64 0] 40)) = w1 at *
    obtain ⟨-, -, -, -, -, -, y6, -⟩ := rv_cells HQ0.out
    have fHQ00 := HQ0.out.frozen 6
    obtain ⟨-, -, -, -, -, -, yHQ00_6, -, -⟩ := rv_cells HQ0.out
    replace HQ0 := Lib.hid (rv_set6 HQ0.out (3))
    have fHQ01 := HQ0.out.frozen 2
    obtain ⟨-, -, yHQ01_2, -, -, -, -, -, -⟩ := rv_cells HQ0.out
    replace HQ0 := Lib.hid (rv_set2 HQ0.out (-1))
    have hcs := (((Chg.refl (fun k => k = w.heap.size) w1).put w.heap.size 6 (fun _ => rfl) (.int .i64 (3))).put w.heap.size 2 (fun _ => rfl) (.int .i64 (-1)))
    replace HR0 := Lib.hid (HR0.out.chg hcs (by omega))
    replace HX0 := Lib.hid (fresh_set HX0.out hcs (by first | exact Nat.le_refl _ | omega))
    clear hcs
    obtain ⟨y0, y1, y2, y3, y4, y5, y6, y7, y8⟩ := rv_cells HQ0.out
    obtain ⟨x0, x1, x2, x3, x4, x5, x6, x7, x8⟩ := rv_cells HR0.out
    obtain ⟨u0, u1, u2, u3, u4, u5, u6, u7, u8⟩ := rv_free9 HR0.out
    obtain ⟨r0, r1, r2, r3, r4, r5, r6, r7, r8, -, hcs⟩ := rv_put9 HR0.out po ma (-1) ta ol ge 3 ve si
    have HF := Lib.hid (fresh_set HX0.out hcs (by omega))
    have RR := Lib.hid (And.intro r0 (And.intro r1 (And.intro r2 (And.intro r3 (And.intro r4 (And.intro r5 (And.intro r6 (And.intro r7 r8))))))))
    clear r0 r1 r2 r3 r4 r5 r6 r7 r8 hcs HR0 HX0
    go_wp2_with fail
    obtain ⟨r0, r1, r2, r3, r4, r5, r6, r7, r8⟩ := RR.out
    exact bodyPost_ret (v := .tuple #[.agg (rvC po ma (-1) ta ol ge 3 ve si), .int .i64 0]) (by simp [results, Tryz.results81, go_sem, rvC, r0, r1, r2, r3, r4, r5, r6, r7, r8]) rfl ⟨rfl, HF.out⟩
  have t0 : (ph == 0) = false := by simpa using h0
  have s0 : (ph != 0) = true := by simpa using h0
  rw [show drA ⟨po, ma, ow, ta, ol, ge, ph, ve, si⟩ = (⟨po, ma, ow, ta, ol, ge, ph, ve, si⟩, 8) from by simp [drA, h0]]
  clear h0
  have HQ0 : Blk ((w.alloc (.cells #[.int .i64 po, .int .u64 ma, .int .i64 ow, .int .i64 ta, .int .i64 ol, .int .i64 ge, .int .i64 ph, .int .i64 ve, .int .i64 si] 40)).alloc (.cells #[.int .i64 0, .int .u64 0, .int .i64 0, .int .i64 0, .int .i64 0, .int .i64 0, .int .i64 0, .int .i64 0, .int .i64 0] 40)) w.heap.size 40 (rvC po ma ow ta ol ge ph ve si) := (Blk.alloc (blk_new rfl) _)
  replace HQ0 := Lib.hid HQ0
  have HR0 : Blk ((w.alloc (.cells #[.int .i64 po, .int .u64 ma, .int .i64 ow, .int .i64 ta, .int .i64 ol, .int .i64 ge, .int .i64 ph, .int .i64 ve, .int .i64 si] 40)).alloc (.cells #[.int .i64 0, .int .u64 0, .int .i64 0, .int .i64 0, .int .i64 0, .int .i64 0, .int .i64 0, .int .i64 0, .int .i64 0] 40)) (w.heap.size + 1) 40 (rvC 0 0 0 0 0 0 0 0 0) := (blk_new (by simp))
  replace HR0 := Lib.hid HR0
  have HX0 := Lib.hid (((Chg.refl (fun _ => False) w).alloc (.cells #[.int .i64 po, .int .u64 ma, .int .i64 ow, .int .i64 ta, .int .i64 ol, .int .i64 ge, .int .i64 ph, .int .i64 ve, .int .i64 si] 40)).alloc (.cells #[.int .i64 0, .int .u64 0, .int .i64 0, .int .i64 0, .int .i64 0, .int .i64 0, .int .i64 0, .int .i64 0, .int .i64 0] 40))
  go_enter Tryz.func81, Tryz.ntmps81
  go_upto_region 1 with fail
  generalize ((w.alloc (.cells #[.int .i64 po, .int .u64 ma, .int .i64 ow, .int .i64 ta, .int .i64 ol, .int .i64 ge, .int .i64 ph, .int .i64 ve, .int .i64 si] 40)).alloc (.cells #[.int .i64 0, .int .u64 0, .int .i64 0, .int .i64 0, .int .i64 0, .int .i64 0, .int .i64 0, .int .i64 0, .int .i64 0] 40)) = w1 at *
  obtain ⟨y0, y1, y2, y3, y4, y5, y6, y7, y8⟩ := rv_cells HQ0.out
  obtain ⟨x0, x1, x2, x3, x4, x5, x6, x7, x8⟩ := rv_cells HR0.out
  obtain ⟨u0, u1, u2, u3, u4, u5, u6, u7, u8⟩ := rv_free9 HR0.out
  obtain ⟨r0, r1, r2, r3, r4, r5, r6, r7, r8, -, hcs⟩ := rv_put9 HR0.out po ma ow ta ol ge ph ve si
  have HF := Lib.hid (fresh_set HX0.out hcs (by omega))
  have RR := Lib.hid (And.intro r0 (And.intro r1 (And.intro r2 (And.intro r3 (And.intro r4 (And.intro r5 (And.intro r6 (And.intro r7 r8))))))))
  clear r0 r1 r2 r3 r4 r5 r6 r7 r8 hcs HR0 HX0
  go_wp2_with fail
  obtain ⟨r0, r1, r2, r3, r4, r5, r6, r7, r8⟩ := RR.out
  exact bodyPost_ret (v := .tuple #[.agg (rvC po ma ow ta ol ge ph ve si), .int .i64 8]) (by simp [results, Tryz.results81, go_sem, rvC, r0, r1, r2, r3, r4, r5, r6, r7, r8]) rfl ⟨rfl, HF.out⟩

set_option maxRecDepth 100000 in
set_option maxHeartbeats 2000000 in
theorem co1_any (po ma ow ta ol ge ph ve si : Int) (w : World) (hg : 1 ≤ ge ∧ ge ≤ 4294967296) : Calls Tryz.prog 84 #[.agg #[.int .i64 po, .int .u64 ma, .int .i64 ow, .int .i64 ta, .int .i64 ol, .int .i64 ge, .int .i64 ph, .int .i64 ve, .int .i64 si]] w (HR (coA ⟨po, ma, ow, ta, ol, ge, ph, ve, si⟩) w) := by
  by_cases h1 : ph = 1
  case pos =>
    subst h1
    rw [show coA ⟨po, ma, ow, ta, ol, ge, 1, ve, si⟩ = (⟨po, ma, ta, -1, ow, ge + 1, 2, ve, si⟩, 0) from rfl]
    have HQ0 : Blk ((w.alloc (.cells #[.int .i64 po, .int .u64 ma, .int .i64 ow, .int .i64 ta, .int .i64 ol, .int .i64 ge, .int .i64 1, .int .i64 ve, .int .i64 si] 40)).alloc (.cells #[.int .i64 0, .int .u64 0, .int .i64 0, .int .i64 0, .int .i64 0, .int .i64 0, .int .i64 0, .int .i64 0, .int .i64 0] 40)) w.heap.size 40 (rvC po ma ow ta ol ge 1 ve si) := (Blk.alloc (blk_new rfl) _)
    replace HQ0 := Lib.hid HQ0
    have HR0 : Blk ((w.alloc (.cells #[.int .i64 po, .int .u64 ma, .int .i64 ow, .int .i64 ta, .int .i64 ol, .int .i64 ge, .int .i64 1, .int .i64 ve, .int .i64 si] 40)).alloc (.cells #[.int .i64 0, .int .u64 0, .int .i64 0, .int .i64 0, .int .i64 0, .int .i64 0, .int .i64 0, .int .i64 0, .int .i64 0] 40)) (w.heap.size + 1) 40 (rvC 0 0 0 0 0 0 0 0 0) := (blk_new (by simp))
    replace HR0 := Lib.hid HR0
    have HX0 := Lib.hid (((Chg.refl (fun _ => False) w).alloc (.cells #[.int .i64 po, .int .u64 ma, .int .i64 ow, .int .i64 ta, .int .i64 ol, .int .i64 ge, .int .i64 1, .int .i64 ve, .int .i64 si] 40)).alloc (.cells #[.int .i64 0, .int .u64 0, .int .i64 0, .int .i64 0, .int .i64 0, .int .i64 0, .int .i64 0, .int .i64 0, .int .i64 0] 40))
    go_enter Tryz.func84, Tryz.ntmps84
    go_upto_region 1 with fail
    generalize ((w.alloc (.cells #[.int .i64 po, .int .u64 ma, .int .i64 ow, .int .i64 ta, .int .i64 ol, .int .i64 ge, .int .i64 1, .int .i64 ve, .int .i64 si] 40)).alloc (.cells #[.int .i64 0, .int .u64 0, .int .i64 0, .int .i64 0, .int .i64 0, .int .i64 0, .int .i64 0, .int .i64 0, .int .i64 0] 40)) = w1 at *
    obtain ⟨y0, y1, y2, y3, y4, y5, y6, y7, y8⟩ := rv_cells HQ0.out
    go_wp2_with fail
    refine (arrived_any po ma ow ta ol ge 1 ve si _ hg).mono ?_
    rintro e w2 ⟨rfl, hc⟩
    replace HX0 := Lib.hid (HX0.out.trans hc (fun _ _ e => e))
    replace HQ0 := Lib.hid (HQ0.out.chg hc id)
    replace HR0 := Lib.hid (HR0.out.chg hc id)
    clear hc
    clear y0 y1 y2 y3 y4 y5 y6 y7 y8
    obtain ⟨x0, x1, x2, x3, x4, x5, x6, x7, x8⟩ := rv_cells HR0.out
    obtain ⟨u0, u1, u2, u3, u4, u5, u6, u7, u8⟩ := rv_free9 HR0.out
    obtain ⟨r0, r1, r2, r3, r4, r5, r6, r7, r8, -, hcs⟩ := rv_put9 HR0.out po ma ta (-1) ow (ge + 1) 2 ve si
    have HF := Lib.hid (fresh_set HX0.out hcs (by omega))
    have RR := Lib.hid (And.intro r0 (And.intro r1 (And.intro r2 (And.intro r3 (And.intro r4 (And.intro r5 (And.intro r6 (And.intro r7 r8))))))))
    clear r0 r1 r2 r3 r4 r5 r6 r7 r8 hcs HR0 HX0
    go_wp2_with fail
    obtain ⟨r0, r1, r2, r3, r4, r5, r6, r7, r8⟩ := RR.out
    exact bodyPost_ret (v := .tuple #[.agg (rvC po ma ta (-1) ow (ge + 1) 2 ve si), .int .i64 0]) (by simp [results, Tryz.results84, go_sem, rvC, r0, r1, r2, r3, r4, r5, r6, r7, r8]) rfl ⟨rfl, HF.out⟩
  by_cases h2 : ph = 2
  case pos =>
    subst h2
    rw [show coA ⟨po, ma, ow, ta, ol, ge, 2, ve, si⟩ = (⟨po, ma, ow, ta, -1, ge, 0, ve, si⟩, 0) from rfl]
    have HQ0 : Blk ((w.alloc (.cells #[.int .i64 po, .int .u64 ma, .int .i64 ow, .int .i64 ta, .int .i64 ol, .int .i64 ge, .int .i64 2, .int .i64 ve, .int .i64 si] 40)).alloc (.cells #[.int .i64 0, .int .u64 0, .int .i64 0, .int .i64 0, .int .i64 0, .int .i64 0, .int .i64 0, .int .i64 0, .int .i64 0] 40)) w.heap.size 40 (rvC po ma ow ta ol ge 2 ve si) := (Blk.alloc (blk_new rfl) _)
    replace HQ0 := Lib.hid HQ0
    have HR0 : Blk ((w.alloc (.cells #[.int .i64 po, .int .u64 ma, .int .i64 ow, .int .i64 ta, .int .i64 ol, .int .i64 ge, .int .i64 2, .int .i64 ve, .int .i64 si] 40)).alloc (.cells #[.int .i64 0, .int .u64 0, .int .i64 0, .int .i64 0, .int .i64 0, .int .i64 0, .int .i64 0, .int .i64 0, .int .i64 0] 40)) (w.heap.size + 1) 40 (rvC 0 0 0 0 0 0 0 0 0) := (blk_new (by simp))
    replace HR0 := Lib.hid HR0
    have HX0 := Lib.hid (((Chg.refl (fun _ => False) w).alloc (.cells #[.int .i64 po, .int .u64 ma, .int .i64 ow, .int .i64 ta, .int .i64 ol, .int .i64 ge, .int .i64 2, .int .i64 ve, .int .i64 si] 40)).alloc (.cells #[.int .i64 0, .int .u64 0, .int .i64 0, .int .i64 0, .int .i64 0, .int .i64 0, .int .i64 0, .int .i64 0, .int .i64 0] 40))
    go_enter Tryz.func84, Tryz.ntmps84
    go_upto_region 1 with fail
    generalize ((w.alloc (.cells #[.int .i64 po, .int .u64 ma, .int .i64 ow, .int .i64 ta, .int .i64 ol, .int .i64 ge, .int .i64 2, .int .i64 ve, .int .i64 si] 40)).alloc (.cells #[.int .i64 0, .int .u64 0, .int .i64 0, .int .i64 0, .int .i64 0, .int .i64 0, .int .i64 0, .int .i64 0, .int .i64 0] 40)) = w1 at *
    obtain ⟨-, -, -, -, -, -, y6, -⟩ := rv_cells HQ0.out
    have fHQ00 := HQ0.out.frozen 6
    obtain ⟨-, -, -, -, -, -, yHQ00_6, -, -⟩ := rv_cells HQ0.out
    replace HQ0 := Lib.hid (rv_set6 HQ0.out (0))
    have fHQ01 := HQ0.out.frozen 4
    obtain ⟨-, -, -, -, yHQ01_4, -, -, -, -⟩ := rv_cells HQ0.out
    replace HQ0 := Lib.hid (rv_set4 HQ0.out (-1))
    have hcs := (((Chg.refl (fun k => k = w.heap.size) w1).put w.heap.size 6 (fun _ => rfl) (.int .i64 (0))).put w.heap.size 4 (fun _ => rfl) (.int .i64 (-1)))
    replace HR0 := Lib.hid (HR0.out.chg hcs (by omega))
    replace HX0 := Lib.hid (fresh_set HX0.out hcs (by first | exact Nat.le_refl _ | omega))
    clear hcs
    obtain ⟨y0, y1, y2, y3, y4, y5, y6, y7, y8⟩ := rv_cells HQ0.out
    obtain ⟨x0, x1, x2, x3, x4, x5, x6, x7, x8⟩ := rv_cells HR0.out
    obtain ⟨u0, u1, u2, u3, u4, u5, u6, u7, u8⟩ := rv_free9 HR0.out
    obtain ⟨r0, r1, r2, r3, r4, r5, r6, r7, r8, -, hcs⟩ := rv_put9 HR0.out po ma ow ta (-1) ge 0 ve si
    have HF := Lib.hid (fresh_set HX0.out hcs (by omega))
    have RR := Lib.hid (And.intro r0 (And.intro r1 (And.intro r2 (And.intro r3 (And.intro r4 (And.intro r5 (And.intro r6 (And.intro r7 r8))))))))
    clear r0 r1 r2 r3 r4 r5 r6 r7 r8 hcs HR0 HX0
    go_wp2_with fail
    obtain ⟨r0, r1, r2, r3, r4, r5, r6, r7, r8⟩ := RR.out
    exact bodyPost_ret (v := .tuple #[.agg (rvC po ma ow ta (-1) ge 0 ve si), .int .i64 0]) (by simp [results, Tryz.results84, go_sem, rvC, r0, r1, r2, r3, r4, r5, r6, r7, r8]) rfl ⟨rfl, HF.out⟩
  have t1 : (ph == 1) = false := by simpa using h1
  have s1 : (ph != 1) = true := by simpa using h1
  have t2 : (ph == 2) = false := by simpa using h2
  have s2 : (ph != 2) = true := by simpa using h2
  rw [show coA ⟨po, ma, ow, ta, ol, ge, ph, ve, si⟩ = (⟨po, ma, ow, ta, ol, ge, ph, ve, si⟩, 8) from by simp [coA, h1, h2]]
  clear h1 h2
  have HQ0 : Blk ((w.alloc (.cells #[.int .i64 po, .int .u64 ma, .int .i64 ow, .int .i64 ta, .int .i64 ol, .int .i64 ge, .int .i64 ph, .int .i64 ve, .int .i64 si] 40)).alloc (.cells #[.int .i64 0, .int .u64 0, .int .i64 0, .int .i64 0, .int .i64 0, .int .i64 0, .int .i64 0, .int .i64 0, .int .i64 0] 40)) w.heap.size 40 (rvC po ma ow ta ol ge ph ve si) := (Blk.alloc (blk_new rfl) _)
  replace HQ0 := Lib.hid HQ0
  have HR0 : Blk ((w.alloc (.cells #[.int .i64 po, .int .u64 ma, .int .i64 ow, .int .i64 ta, .int .i64 ol, .int .i64 ge, .int .i64 ph, .int .i64 ve, .int .i64 si] 40)).alloc (.cells #[.int .i64 0, .int .u64 0, .int .i64 0, .int .i64 0, .int .i64 0, .int .i64 0, .int .i64 0, .int .i64 0, .int .i64 0] 40)) (w.heap.size + 1) 40 (rvC 0 0 0 0 0 0 0 0 0) := (blk_new (by simp))
  replace HR0 := Lib.hid HR0
  have HX0 := Lib.hid (((Chg.refl (fun _ => False) w).alloc (.cells #[.int .i64 po, .int .u64 ma, .int .i64 ow, .int .i64 ta, .int .i64 ol, .int .i64 ge, .int .i64 ph, .int .i64 ve, .int .i64 si] 40)).alloc (.cells #[.int .i64 0, .int .u64 0, .int .i64 0, .int .i64 0, .int .i64 0, .int .i64 0, .int .i64 0, .int .i64 0, .int .i64 0] 40))
  go_enter Tryz.func84, Tryz.ntmps84
  go_upto_region 1 with fail
  generalize ((w.alloc (.cells #[.int .i64 po, .int .u64 ma, .int .i64 ow, .int .i64 ta, .int .i64 ol, .int .i64 ge, .int .i64 ph, .int .i64 ve, .int .i64 si] 40)).alloc (.cells #[.int .i64 0, .int .u64 0, .int .i64 0, .int .i64 0, .int .i64 0, .int .i64 0, .int .i64 0, .int .i64 0, .int .i64 0] 40)) = w1 at *
  obtain ⟨y0, y1, y2, y3, y4, y5, y6, y7, y8⟩ := rv_cells HQ0.out
  obtain ⟨x0, x1, x2, x3, x4, x5, x6, x7, x8⟩ := rv_cells HR0.out
  obtain ⟨u0, u1, u2, u3, u4, u5, u6, u7, u8⟩ := rv_free9 HR0.out
  obtain ⟨r0, r1, r2, r3, r4, r5, r6, r7, r8, -, hcs⟩ := rv_put9 HR0.out po ma ow ta ol ge ph ve si
  have HF := Lib.hid (fresh_set HX0.out hcs (by omega))
  have RR := Lib.hid (And.intro r0 (And.intro r1 (And.intro r2 (And.intro r3 (And.intro r4 (And.intro r5 (And.intro r6 (And.intro r7 r8))))))))
  clear r0 r1 r2 r3 r4 r5 r6 r7 r8 hcs HR0 HX0
  go_wp2_with fail
  obtain ⟨r0, r1, r2, r3, r4, r5, r6, r7, r8⟩ := RR.out
  exact bodyPost_ret (v := .tuple #[.agg (rvC po ma ow ta ol ge ph ve si), .int .i64 8]) (by simp [results, Tryz.results84, go_sem, rvC, r0, r1, r2, r3, r4, r5, r6, r7, r8]) rfl ⟨rfl, HF.out⟩


end Go.Proofs.YtimgnogacanifaaGreat
end

section
namespace Go.Proofs.YtimgnogacanifaaGreat
open Go.RowKit
set_option linter.unusedVariables false

set_option maxRecDepth 100000 in
set_option maxHeartbeats 2000000 in
theorem st1_any (po ma ow ta ol ge ph ve si tg : Int) (p : Nat) (w : World) (hp : Blk w p 3 #[.int .i64 tg]) (hg : 1 ≤ ge ∧ ge ≤ 4294967296) : Calls Tryz.prog 82 #[.agg #[.int .i64 po, .int .u64 ma, .int .i64 ow, .int .i64 ta, .int .i64 ol, .int .i64 ge, .int .i64 ph, .int .i64 ve, .int .i64 si], .pointer (some ⟨p, 0, none⟩)] w (HR (stA9 ⟨po, ma, ow, ta, ol, ge, ph, ve, si⟩ tg) w) := by
  by_cases h0 : ph = 0
  case pos =>
    subst h0
    by_cases h1 : tg = ow
    case pos =>
      subst h1
      rw [show stA9 ⟨po, ma, tg, ta, ol, ge, 0, ve, si⟩ tg = (⟨po, ma, tg, ta, ol, ge, 0, ve, si⟩, 9) from by simp [stA9]]
      have HQ0 : Blk ((w.alloc (.cells #[.int .i64 po, .int .u64 ma, .int .i64 tg, .int .i64 ta, .int .i64 ol, .int .i64 ge, .int .i64 0, .int .i64 ve, .int .i64 si] 40)).alloc (.cells #[.int .i64 0, .int .u64 0, .int .i64 0, .int .i64 0, .int .i64 0, .int .i64 0, .int .i64 0, .int .i64 0, .int .i64 0] 40)) w.heap.size 40 (rvC po ma tg ta ol ge 0 ve si) := (Blk.alloc (blk_new rfl) _)
      replace HQ0 := Lib.hid HQ0
      have HR0 : Blk ((w.alloc (.cells #[.int .i64 po, .int .u64 ma, .int .i64 tg, .int .i64 ta, .int .i64 ol, .int .i64 ge, .int .i64 0, .int .i64 ve, .int .i64 si] 40)).alloc (.cells #[.int .i64 0, .int .u64 0, .int .i64 0, .int .i64 0, .int .i64 0, .int .i64 0, .int .i64 0, .int .i64 0, .int .i64 0] 40)) (w.heap.size + 1) 40 (rvC 0 0 0 0 0 0 0 0 0) := (blk_new (by simp))
      replace HR0 := Lib.hid HR0
      have HP0 := Lib.hid (Blk.alloc (Blk.alloc hp (.cells #[.int .i64 po, .int .u64 ma, .int .i64 tg, .int .i64 ta, .int .i64 ol, .int .i64 ge, .int .i64 0, .int .i64 ve, .int .i64 si] 40)) (.cells #[.int .i64 0, .int .u64 0, .int .i64 0, .int .i64 0, .int .i64 0, .int .i64 0, .int .i64 0, .int .i64 0, .int .i64 0] 40))
      have HX0 := Lib.hid (((Chg.refl (fun _ => False) w).alloc (.cells #[.int .i64 po, .int .u64 ma, .int .i64 tg, .int .i64 ta, .int .i64 ol, .int .i64 ge, .int .i64 0, .int .i64 ve, .int .i64 si] 40)).alloc (.cells #[.int .i64 0, .int .u64 0, .int .i64 0, .int .i64 0, .int .i64 0, .int .i64 0, .int .i64 0, .int .i64 0, .int .i64 0] 40))
      go_enter Tryz.func82, Tryz.ntmps82
      go_upto_region 1 with fail
      generalize ((w.alloc (.cells #[.int .i64 po, .int .u64 ma, .int .i64 tg, .int .i64 ta, .int .i64 ol, .int .i64 ge, .int .i64 0, .int .i64 ve, .int .i64 si] 40)).alloc (.cells #[.int .i64 0, .int .u64 0, .int .i64 0, .int .i64 0, .int .i64 0, .int .i64 0, .int .i64 0, .int .i64 0, .int .i64 0] 40)) = w1 at *
      have hpc := HP0.out.cell 0
      simp only [List.getElem?_toArray, List.getElem?_cons_zero] at hpc
      obtain ⟨y0, y1, y2, y3, y4, y5, y6, y7, y8⟩ := rv_cells HQ0.out
      go_upto_region 4 with fail
      clear y0 y1 y2 y3 y4 y5 y6 y7 y8
      obtain ⟨y0, y1, y2, y3, y4, y5, y6, y7, y8⟩ := rv_cells HQ0.out
      obtain ⟨x0, x1, x2, x3, x4, x5, x6, x7, x8⟩ := rv_cells HR0.out
      obtain ⟨u0, u1, u2, u3, u4, u5, u6, u7, u8⟩ := rv_free9 HR0.out
      obtain ⟨r0, r1, r2, r3, r4, r5, r6, r7, r8, -, hcs⟩ := rv_put9 HR0.out po ma tg ta ol ge 0 ve si
      have HF := Lib.hid (fresh_set HX0.out hcs (by omega))
      have RR := Lib.hid (And.intro r0 (And.intro r1 (And.intro r2 (And.intro r3 (And.intro r4 (And.intro r5 (And.intro r6 (And.intro r7 r8))))))))
      clear r0 r1 r2 r3 r4 r5 r6 r7 r8 hcs HR0 HX0
      go_wp2_with fail
      obtain ⟨r0, r1, r2, r3, r4, r5, r6, r7, r8⟩ := RR.out
      exact bodyPost_ret (v := .tuple #[.agg (rvC po ma tg ta ol ge 0 ve si), .int .i64 9]) (by simp [results, Tryz.results82, go_sem, rvC, r0, r1, r2, r3, r4, r5, r6, r7, r8]) rfl ⟨rfl, HF.out⟩
    have t1 : (tg == ow) = false := by simpa using h1
    cases hsp : spn9 ⟨po, ma, ow, ta, ol, ge, 0, ve, si⟩ with
    | true =>
      rw [show stA9 ⟨po, ma, ow, ta, ol, ge, 0, ve, si⟩ tg = (⟨po, ma, ow, ta, ol, ge, 0, ve, si⟩, 10) from by simp [stA9, h1, hsp]]
      have hs := fun W => pspent_any po ma ow ta ol ge 0 ve si W
      rw [hsp] at hs
      have HS := Lib.hid hs
      clear hs
      clear h1 hsp
      have HQ0 : Blk ((w.alloc (.cells #[.int .i64 po, .int .u64 ma, .int .i64 ow, .int .i64 ta, .int .i64 ol, .int .i64 ge, .int .i64 0, .int .i64 ve, .int .i64 si] 40)).alloc (.cells #[.int .i64 0, .int .u64 0, .int .i64 0, .int .i64 0, .int .i64 0, .int .i64 0, .int .i64 0, .int .i64 0, .int .i64 0] 40)) w.heap.size 40 (rvC po ma ow ta ol ge 0 ve si) := (Blk.alloc (blk_new rfl) _)
      replace HQ0 := Lib.hid HQ0
      have HR0 : Blk ((w.alloc (.cells #[.int .i64 po, .int .u64 ma, .int .i64 ow, .int .i64 ta, .int .i64 ol, .int .i64 ge, .int .i64 0, .int .i64 ve, .int .i64 si] 40)).alloc (.cells #[.int .i64 0, .int .u64 0, .int .i64 0, .int .i64 0, .int .i64 0, .int .i64 0, .int .i64 0, .int .i64 0, .int .i64 0] 40)) (w.heap.size + 1) 40 (rvC 0 0 0 0 0 0 0 0 0) := (blk_new (by simp))
      replace HR0 := Lib.hid HR0
      have HP0 := Lib.hid (Blk.alloc (Blk.alloc hp (.cells #[.int .i64 po, .int .u64 ma, .int .i64 ow, .int .i64 ta, .int .i64 ol, .int .i64 ge, .int .i64 0, .int .i64 ve, .int .i64 si] 40)) (.cells #[.int .i64 0, .int .u64 0, .int .i64 0, .int .i64 0, .int .i64 0, .int .i64 0, .int .i64 0, .int .i64 0, .int .i64 0] 40))
      have HX0 := Lib.hid (((Chg.refl (fun _ => False) w).alloc (.cells #[.int .i64 po, .int .u64 ma, .int .i64 ow, .int .i64 ta, .int .i64 ol, .int .i64 ge, .int .i64 0, .int .i64 ve, .int .i64 si] 40)).alloc (.cells #[.int .i64 0, .int .u64 0, .int .i64 0, .int .i64 0, .int .i64 0, .int .i64 0, .int .i64 0, .int .i64 0, .int .i64 0] 40))
      go_enter Tryz.func82, Tryz.ntmps82
      go_upto_region 1 with fail
      generalize ((w.alloc (.cells #[.int .i64 po, .int .u64 ma, .int .i64 ow, .int .i64 ta, .int .i64 ol, .int .i64 ge, .int .i64 0, .int .i64 ve, .int .i64 si] 40)).alloc (.cells #[.int .i64 0, .int .u64 0, .int .i64 0, .int .i64 0, .int .i64 0, .int .i64 0, .int .i64 0, .int .i64 0, .int .i64 0] 40)) = w1 at *
      have hpc := HP0.out.cell 0
      simp only [List.getElem?_toArray, List.getElem?_cons_zero] at hpc
      obtain ⟨y0, y1, y2, y3, y4, y5, y6, y7, y8⟩ := rv_cells HQ0.out
      go_wp2_with fail
      refine (HS.out _).mono ?_
      rintro e w2 ⟨rfl, hc⟩
      replace HX0 := Lib.hid (HX0.out.trans hc (fun _ _ e => e))
      replace HQ0 := Lib.hid (HQ0.out.chg hc id)
      replace HR0 := Lib.hid (HR0.out.chg hc id)
      replace HP0 := Lib.hid (HP0.out.chg hc id)
      clear hc
      clear y0 y1 y2 y3 y4 y5 y6 y7 y8 hpc
      obtain ⟨y0, y1, y2, y3, y4, y5, y6, y7, y8⟩ := rv_cells HQ0.out
      obtain ⟨x0, x1, x2, x3, x4, x5, x6, x7, x8⟩ := rv_cells HR0.out
      obtain ⟨u0, u1, u2, u3, u4, u5, u6, u7, u8⟩ := rv_free9 HR0.out
      obtain ⟨r0, r1, r2, r3, r4, r5, r6, r7, r8, -, hcs⟩ := rv_put9 HR0.out po ma ow ta ol ge 0 ve si
      have HF := Lib.hid (fresh_set HX0.out hcs (by omega))
      have RR := Lib.hid (And.intro r0 (And.intro r1 (And.intro r2 (And.intro r3 (And.intro r4 (And.intro r5 (And.intro r6 (And.intro r7 r8))))))))
      clear r0 r1 r2 r3 r4 r5 r6 r7 r8 hcs HR0 HX0
      go_wp2_with fail
      obtain ⟨r0, r1, r2, r3, r4, r5, r6, r7, r8⟩ := RR.out
      exact bodyPost_ret (v := .tuple #[.agg (rvC po ma ow ta ol ge 0 ve si), .int .i64 10]) (by simp [results, Tryz.results82, go_sem, rvC, r0, r1, r2, r3, r4, r5, r6, r7, r8]) rfl ⟨rfl, HF.out⟩
    | false =>
      rw [show stA9 ⟨po, ma, ow, ta, ol, ge, 0, ve, si⟩ tg = (⟨po, ma, ow, tg, ol, ge, 1, ve, si⟩, 0) from by simp [stA9, h1, hsp]]
      have hs := fun W => pspent_any po ma ow ta ol ge 0 ve si W
      rw [hsp] at hs
      have HS := Lib.hid hs
      clear hs
      clear h1 hsp
      have HQ0 : Blk ((w.alloc (.cells #[.int .i64 po, .int .u64 ma, .int .i64 ow, .int .i64 ta, .int .i64 ol, .int .i64 ge, .int .i64 0, .int .i64 ve, .int .i64 si] 40)).alloc (.cells #[.int .i64 0, .int .u64 0, .int .i64 0, .int .i64 0, .int .i64 0, .int .i64 0, .int .i64 0, .int .i64 0, .int .i64 0] 40)) w.heap.size 40 (rvC po ma ow ta ol ge 0 ve si) := (Blk.alloc (blk_new rfl) _)
      replace HQ0 := Lib.hid HQ0
      have HR0 : Blk ((w.alloc (.cells #[.int .i64 po, .int .u64 ma, .int .i64 ow, .int .i64 ta, .int .i64 ol, .int .i64 ge, .int .i64 0, .int .i64 ve, .int .i64 si] 40)).alloc (.cells #[.int .i64 0, .int .u64 0, .int .i64 0, .int .i64 0, .int .i64 0, .int .i64 0, .int .i64 0, .int .i64 0, .int .i64 0] 40)) (w.heap.size + 1) 40 (rvC 0 0 0 0 0 0 0 0 0) := (blk_new (by simp))
      replace HR0 := Lib.hid HR0
      have HP0 := Lib.hid (Blk.alloc (Blk.alloc hp (.cells #[.int .i64 po, .int .u64 ma, .int .i64 ow, .int .i64 ta, .int .i64 ol, .int .i64 ge, .int .i64 0, .int .i64 ve, .int .i64 si] 40)) (.cells #[.int .i64 0, .int .u64 0, .int .i64 0, .int .i64 0, .int .i64 0, .int .i64 0, .int .i64 0, .int .i64 0, .int .i64 0] 40))
      have HX0 := Lib.hid (((Chg.refl (fun _ => False) w).alloc (.cells #[.int .i64 po, .int .u64 ma, .int .i64 ow, .int .i64 ta, .int .i64 ol, .int .i64 ge, .int .i64 0, .int .i64 ve, .int .i64 si] 40)).alloc (.cells #[.int .i64 0, .int .u64 0, .int .i64 0, .int .i64 0, .int .i64 0, .int .i64 0, .int .i64 0, .int .i64 0, .int .i64 0] 40))
      go_enter Tryz.func82, Tryz.ntmps82
      go_upto_region 1 with fail
      generalize ((w.alloc (.cells #[.int .i64 po, .int .u64 ma, .int .i64 ow, .int .i64 ta, .int .i64 ol, .int .i64 ge, .int .i64 0, .int .i64 ve, .int .i64 si] 40)).alloc (.cells #[.int .i64 0, .int .u64 0, .int .i64 0, .int .i64 0, .int .i64 0, .int .i64 0, .int .i64 0, .int .i64 0, .int .i64 0] 40)) = w1 at *
      have hpc := HP0.out.cell 0
      simp only [List.getElem?_toArray, List.getElem?_cons_zero] at hpc
      obtain ⟨y0, y1, y2, y3, y4, y5, y6, y7, y8⟩ := rv_cells HQ0.out
      go_wp2_with fail
      refine (HS.out _).mono ?_
      rintro e w2 ⟨rfl, hc⟩
      replace HX0 := Lib.hid (HX0.out.trans hc (fun _ _ e => e))
      replace HQ0 := Lib.hid (HQ0.out.chg hc id)
      replace HR0 := Lib.hid (HR0.out.chg hc id)
      replace HP0 := Lib.hid (HP0.out.chg hc id)
      clear hc
      clear y0 y1 y2 y3 y4 y5 y6 y7 y8 hpc
      have hpc := HP0.out.cell 0
      simp only [List.getElem?_toArray, List.getElem?_cons_zero] at hpc
      obtain ⟨-, -, -, y3, -, -, y6, -⟩ := rv_cells HQ0.out
      have f3 := HQ0.out.frozen 3
      have f6 := HQ0.out.frozen 6
      go_wp2_with fail
      go_region
      clear hpc y3 y6 f3 f6
      replace HQ0 := Lib.hid (rv_set6 HQ0.out (1))
      replace HQ0 := Lib.hid (rv_set3 HQ0.out (tg))
      have hcs := (((Chg.refl (fun k => k = w.heap.size) w2).put w.heap.size 6 (fun _ => rfl) (.int .i64 (1))).put w.heap.size 3 (fun _ => rfl) (.int .i64 (tg)))
      replace HR0 := Lib.hid (HR0.out.chg hcs (by omega))
      replace HX0 := Lib.hid (fresh_set HX0.out hcs (Nat.le_refl _))
      clear hcs
      replace HQ0 := Lib.hid HQ0.out.drew
      replace HR0 := Lib.hid HR0.out.drew
      replace HX0 := Lib.hid HX0.out.drew
      generalize World.drew ((w2.setCell ⟨w.heap.size, 6, none⟩ (.int .i64 (1))).setCell ⟨w.heap.size, 3, none⟩ (.int .i64 (tg))) = w3 at *
      obtain ⟨y0, y1, y2, y3, y4, y5, y6, y7, y8⟩ := rv_cells HQ0.out
      obtain ⟨x0, x1, x2, x3, x4, x5, x6, x7, x8⟩ := rv_cells HR0.out
      obtain ⟨u0, u1, u2, u3, u4, u5, u6, u7, u8⟩ := rv_free9 HR0.out
      obtain ⟨r0, r1, r2, r3, r4, r5, r6, r7, r8, -, hcs⟩ := rv_put9 HR0.out po ma ow tg ol ge 1 ve si
      have HF := Lib.hid (fresh_set HX0.out hcs (by omega))
      have RR := Lib.hid (And.intro r0 (And.intro r1 (And.intro r2 (And.intro r3 (And.intro r4 (And.intro r5 (And.intro r6 (And.intro r7 r8))))))))
      clear r0 r1 r2 r3 r4 r5 r6 r7 r8 hcs HR0 HX0
      go_wp2_with fail
      obtain ⟨r0, r1, r2, r3, r4, r5, r6, r7, r8⟩ := RR.out
      exact bodyPost_ret (v := .tuple #[.agg (rvC po ma ow tg ol ge 1 ve si), .int .i64 0]) (by simp [results, Tryz.results82, go_sem, rvC, r0, r1, r2, r3, r4, r5, r6, r7, r8]) rfl ⟨rfl, HF.out⟩
  have t0 : (ph == 0) = false := by simpa using h0
  have s0 : (ph != 0) = true := by simpa using h0
  rw [show stA9 ⟨po, ma, ow, ta, ol, ge, ph, ve, si⟩ tg = (⟨po, ma, ow, ta, ol, ge, ph, ve, si⟩, 8) from by simp [stA9, h0]]
  clear h0
  have HQ0 : Blk ((w.alloc (.cells #[.int .i64 po, .int .u64 ma, .int .i64 ow, .int .i64 ta, .int .i64 ol, .int .i64 ge, .int .i64 ph, .int .i64 ve, .int .i64 si] 40)).alloc (.cells #[.int .i64 0, .int .u64 0, .int .i64 0, .int .i64 0, .int .i64 0, .int .i64 0, .int .i64 0, .int .i64 0, .int .i64 0] 40)) w.heap.size 40 (rvC po ma ow ta ol ge ph ve si) := (Blk.alloc (blk_new rfl) _)
  replace HQ0 := Lib.hid HQ0
  have HR0 : Blk ((w.alloc (.cells #[.int .i64 po, .int .u64 ma, .int .i64 ow, .int .i64 ta, .int .i64 ol, .int .i64 ge, .int .i64 ph, .int .i64 ve, .int .i64 si] 40)).alloc (.cells #[.int .i64 0, .int .u64 0, .int .i64 0, .int .i64 0, .int .i64 0, .int .i64 0, .int .i64 0, .int .i64 0, .int .i64 0] 40)) (w.heap.size + 1) 40 (rvC 0 0 0 0 0 0 0 0 0) := (blk_new (by simp))
  replace HR0 := Lib.hid HR0
  have HX0 := Lib.hid (((Chg.refl (fun _ => False) w).alloc (.cells #[.int .i64 po, .int .u64 ma, .int .i64 ow, .int .i64 ta, .int .i64 ol, .int .i64 ge, .int .i64 ph, .int .i64 ve, .int .i64 si] 40)).alloc (.cells #[.int .i64 0, .int .u64 0, .int .i64 0, .int .i64 0, .int .i64 0, .int .i64 0, .int .i64 0, .int .i64 0, .int .i64 0] 40))
  go_enter Tryz.func82, Tryz.ntmps82
  go_upto_region 1 with fail
  generalize ((w.alloc (.cells #[.int .i64 po, .int .u64 ma, .int .i64 ow, .int .i64 ta, .int .i64 ol, .int .i64 ge, .int .i64 ph, .int .i64 ve, .int .i64 si] 40)).alloc (.cells #[.int .i64 0, .int .u64 0, .int .i64 0, .int .i64 0, .int .i64 0, .int .i64 0, .int .i64 0, .int .i64 0, .int .i64 0] 40)) = w1 at *
  obtain ⟨y0, y1, y2, y3, y4, y5, y6, y7, y8⟩ := rv_cells HQ0.out
  obtain ⟨x0, x1, x2, x3, x4, x5, x6, x7, x8⟩ := rv_cells HR0.out
  obtain ⟨u0, u1, u2, u3, u4, u5, u6, u7, u8⟩ := rv_free9 HR0.out
  obtain ⟨r0, r1, r2, r3, r4, r5, r6, r7, r8, -, hcs⟩ := rv_put9 HR0.out po ma ow ta ol ge ph ve si
  have HF := Lib.hid (fresh_set HX0.out hcs (by omega))
  have RR := Lib.hid (And.intro r0 (And.intro r1 (And.intro r2 (And.intro r3 (And.intro r4 (And.intro r5 (And.intro r6 (And.intro r7 r8))))))))
  clear r0 r1 r2 r3 r4 r5 r6 r7 r8 hcs HR0 HX0
  go_wp2_with fail
  obtain ⟨r0, r1, r2, r3, r4, r5, r6, r7, r8⟩ := RR.out
  exact bodyPost_ret (v := .tuple #[.agg (rvC po ma ow ta ol ge ph ve si), .int .i64 8]) (by simp [results, Tryz.results82, go_sem, rvC, r0, r1, r2, r3, r4, r5, r6, r7, r8]) rfl ⟨rfl, HF.out⟩

set_option maxRecDepth 100000 in
set_option maxHeartbeats 2000000 in
theorem aw1_any (po ma ow ta ol ge ph ve si vr ch : Int) (p m : Nat) (w : World) (hp : Blk w p 3 #[.int .i64 vr]) (hm : Blk w m 3 #[.int .i64 ch]) (hg : 1 ≤ ge ∧ ge ≤ 4294967296) : Calls Tryz.prog 72 #[.agg #[.int .i64 po, .int .u64 ma, .int .i64 ow, .int .i64 ta, .int .i64 ol, .int .i64 ge, .int .i64 ph, .int .i64 ve, .int .i64 si], .pointer (some ⟨p, 0, none⟩), .pointer (some ⟨m, 0, none⟩)] w (HR (awA ⟨po, ma, ow, ta, ol, ge, ph, ve, si⟩ ch vr) w) := by
  by_cases h0 : ph = 1
  case pos =>
    subst h0
    by_cases h1 : vr = ve
    case pos =>
      subst h1
      by_cases h2 : ch = ta
      case pos =>
        subst h2
        rw [show awA ⟨po, ma, ow, ch, ol, ge, 1, vr, si⟩ ch vr = (⟨po, ma, ch, -1, ow, ge + 1, 2, vr, si⟩, 0) from by simp [awA, arr9]]
        have HQ0 : Blk ((w.alloc (.cells #[.int .i64 po, .int .u64 ma, .int .i64 ow, .int .i64 ch, .int .i64 ol, .int .i64 ge, .int .i64 1, .int .i64 vr, .int .i64 si] 40)).alloc (.cells #[.int .i64 0, .int .u64 0, .int .i64 0, .int .i64 0, .int .i64 0, .int .i64 0, .int .i64 0, .int .i64 0, .int .i64 0] 40)) w.heap.size 40 (rvC po ma ow ch ol ge 1 vr si) := (Blk.alloc (blk_new rfl) _)
        replace HQ0 := Lib.hid HQ0
        have HR0 : Blk ((w.alloc (.cells #[.int .i64 po, .int .u64 ma, .int .i64 ow, .int .i64 ch, .int .i64 ol, .int .i64 ge, .int .i64 1, .int .i64 vr, .int .i64 si] 40)).alloc (.cells #[.int .i64 0, .int .u64 0, .int .i64 0, .int .i64 0, .int .i64 0, .int .i64 0, .int .i64 0, .int .i64 0, .int .i64 0] 40)) (w.heap.size + 1) 40 (rvC 0 0 0 0 0 0 0 0 0) := (blk_new (by simp))
        replace HR0 := Lib.hid HR0
        have HP0 := Lib.hid (Blk.alloc (Blk.alloc hp (.cells #[.int .i64 po, .int .u64 ma, .int .i64 ow, .int .i64 ch, .int .i64 ol, .int .i64 ge, .int .i64 1, .int .i64 vr, .int .i64 si] 40)) (.cells #[.int .i64 0, .int .u64 0, .int .i64 0, .int .i64 0, .int .i64 0, .int .i64 0, .int .i64 0, .int .i64 0, .int .i64 0] 40))
        have HM0 := Lib.hid (Blk.alloc (Blk.alloc hm (.cells #[.int .i64 po, .int .u64 ma, .int .i64 ow, .int .i64 ch, .int .i64 ol, .int .i64 ge, .int .i64 1, .int .i64 vr, .int .i64 si] 40)) (.cells #[.int .i64 0, .int .u64 0, .int .i64 0, .int .i64 0, .int .i64 0, .int .i64 0, .int .i64 0, .int .i64 0, .int .i64 0] 40))
        have HX0 := Lib.hid (((Chg.refl (fun _ => False) w).alloc (.cells #[.int .i64 po, .int .u64 ma, .int .i64 ow, .int .i64 ch, .int .i64 ol, .int .i64 ge, .int .i64 1, .int .i64 vr, .int .i64 si] 40)).alloc (.cells #[.int .i64 0, .int .u64 0, .int .i64 0, .int .i64 0, .int .i64 0, .int .i64 0, .int .i64 0, .int .i64 0, .int .i64 0] 40))
        go_enter Tryz.func72, Tryz.ntmps72
        go_upto_region 1 with fail
        generalize ((w.alloc (.cells #[.int .i64 po, .int .u64 ma, .int .i64 ow, .int .i64 ch, .int .i64 ol, .int .i64 ge, .int .i64 1, .int .i64 vr, .int .i64 si] 40)).alloc (.cells #[.int .i64 0, .int .u64 0, .int .i64 0, .int .i64 0, .int .i64 0, .int .i64 0, .int .i64 0, .int .i64 0, .int .i64 0] 40)) = w1 at *
        have hpc := HP0.out.cell 0
        simp only [List.getElem?_toArray, List.getElem?_cons_zero] at hpc
        have hmc := HM0.out.cell 0
        simp only [List.getElem?_toArray, List.getElem?_cons_zero] at hmc
        obtain ⟨y0, y1, y2, y3, y4, y5, y6, y7, y8⟩ := rv_cells HQ0.out
        go_wp2_with fail
        refine (arrived_any po ma ow ch ol ge 1 vr si _ hg).mono ?_
        rintro e w2 ⟨rfl, hc⟩
        replace HX0 := Lib.hid (HX0.out.trans hc (fun _ _ e => e))
        replace HQ0 := Lib.hid (HQ0.out.chg hc id)
        replace HR0 := Lib.hid (HR0.out.chg hc id)
        clear hc
        clear y0 y1 y2 y3 y4 y5 y6 y7 y8 hpc hmc
        obtain ⟨x0, x1, x2, x3, x4, x5, x6, x7, x8⟩ := rv_cells HR0.out
        obtain ⟨u0, u1, u2, u3, u4, u5, u6, u7, u8⟩ := rv_free9 HR0.out
        obtain ⟨r0, r1, r2, r3, r4, r5, r6, r7, r8, -, hcs⟩ := rv_put9 HR0.out po ma ch (-1) ow (ge + 1) 2 vr si
        have HF := Lib.hid (fresh_set HX0.out hcs (by omega))
        have RR := Lib.hid (And.intro r0 (And.intro r1 (And.intro r2 (And.intro r3 (And.intro r4 (And.intro r5 (And.intro r6 (And.intro r7 r8))))))))
        clear r0 r1 r2 r3 r4 r5 r6 r7 r8 hcs HR0 HX0
        go_wp2_with fail
        obtain ⟨r0, r1, r2, r3, r4, r5, r6, r7, r8⟩ := RR.out
        exact bodyPost_ret (v := .tuple #[.agg (rvC po ma ch (-1) ow (ge + 1) 2 vr si), .int .i64 0]) (by simp [results, Tryz.results72, go_sem, rvC, r0, r1, r2, r3, r4, r5, r6, r7, r8]) rfl ⟨rfl, HF.out⟩
      have t2 : (ch == ta) = false := by simpa using h2
      have s2 : (ch != ta) = true := by simpa using h2
      rw [show awA ⟨po, ma, ow, ta, ol, ge, 1, vr, si⟩ ch vr = (⟨po, ma, ow, ta, ol, ge, 1, vr, si⟩, 11) from by simp [awA, h2]]
      clear h2
      have HQ0 : Blk ((w.alloc (.cells #[.int .i64 po, .int .u64 ma, .int .i64 ow, .int .i64 ta, .int .i64 ol, .int .i64 ge, .int .i64 1, .int .i64 vr, .int .i64 si] 40)).alloc (.cells #[.int .i64 0, .int .u64 0, .int .i64 0, .int .i64 0, .int .i64 0, .int .i64 0, .int .i64 0, .int .i64 0, .int .i64 0] 40)) w.heap.size 40 (rvC po ma ow ta ol ge 1 vr si) := (Blk.alloc (blk_new rfl) _)
      replace HQ0 := Lib.hid HQ0
      have HR0 : Blk ((w.alloc (.cells #[.int .i64 po, .int .u64 ma, .int .i64 ow, .int .i64 ta, .int .i64 ol, .int .i64 ge, .int .i64 1, .int .i64 vr, .int .i64 si] 40)).alloc (.cells #[.int .i64 0, .int .u64 0, .int .i64 0, .int .i64 0, .int .i64 0, .int .i64 0, .int .i64 0, .int .i64 0, .int .i64 0] 40)) (w.heap.size + 1) 40 (rvC 0 0 0 0 0 0 0 0 0) := (blk_new (by simp))
      replace HR0 := Lib.hid HR0
      have HP0 := Lib.hid (Blk.alloc (Blk.alloc hp (.cells #[.int .i64 po, .int .u64 ma, .int .i64 ow, .int .i64 ta, .int .i64 ol, .int .i64 ge, .int .i64 1, .int .i64 vr, .int .i64 si] 40)) (.cells #[.int .i64 0, .int .u64 0, .int .i64 0, .int .i64 0, .int .i64 0, .int .i64 0, .int .i64 0, .int .i64 0, .int .i64 0] 40))
      have HM0 := Lib.hid (Blk.alloc (Blk.alloc hm (.cells #[.int .i64 po, .int .u64 ma, .int .i64 ow, .int .i64 ta, .int .i64 ol, .int .i64 ge, .int .i64 1, .int .i64 vr, .int .i64 si] 40)) (.cells #[.int .i64 0, .int .u64 0, .int .i64 0, .int .i64 0, .int .i64 0, .int .i64 0, .int .i64 0, .int .i64 0, .int .i64 0] 40))
      have HX0 := Lib.hid (((Chg.refl (fun _ => False) w).alloc (.cells #[.int .i64 po, .int .u64 ma, .int .i64 ow, .int .i64 ta, .int .i64 ol, .int .i64 ge, .int .i64 1, .int .i64 vr, .int .i64 si] 40)).alloc (.cells #[.int .i64 0, .int .u64 0, .int .i64 0, .int .i64 0, .int .i64 0, .int .i64 0, .int .i64 0, .int .i64 0, .int .i64 0] 40))
      go_enter Tryz.func72, Tryz.ntmps72
      go_upto_region 1 with fail
      generalize ((w.alloc (.cells #[.int .i64 po, .int .u64 ma, .int .i64 ow, .int .i64 ta, .int .i64 ol, .int .i64 ge, .int .i64 1, .int .i64 vr, .int .i64 si] 40)).alloc (.cells #[.int .i64 0, .int .u64 0, .int .i64 0, .int .i64 0, .int .i64 0, .int .i64 0, .int .i64 0, .int .i64 0, .int .i64 0] 40)) = w1 at *
      have hpc := HP0.out.cell 0
      simp only [List.getElem?_toArray, List.getElem?_cons_zero] at hpc
      have hmc := HM0.out.cell 0
      simp only [List.getElem?_toArray, List.getElem?_cons_zero] at hmc
      obtain ⟨y0, y1, y2, y3, y4, y5, y6, y7, y8⟩ := rv_cells HQ0.out
      go_upto_region 4 with fail
      clear y0 y1 y2 y3 y4 y5 y6 y7 y8
      obtain ⟨y0, y1, y2, y3, y4, y5, y6, y7, y8⟩ := rv_cells HQ0.out
      obtain ⟨x0, x1, x2, x3, x4, x5, x6, x7, x8⟩ := rv_cells HR0.out
      obtain ⟨u0, u1, u2, u3, u4, u5, u6, u7, u8⟩ := rv_free9 HR0.out
      obtain ⟨r0, r1, r2, r3, r4, r5, r6, r7, r8, -, hcs⟩ := rv_put9 HR0.out po ma ow ta ol ge 1 vr si
      have HF := Lib.hid (fresh_set HX0.out hcs (by omega))
      have RR := Lib.hid (And.intro r0 (And.intro r1 (And.intro r2 (And.intro r3 (And.intro r4 (And.intro r5 (And.intro r6 (And.intro r7 r8))))))))
      clear r0 r1 r2 r3 r4 r5 r6 r7 r8 hcs HR0 HX0
      go_wp2_with fail
      obtain ⟨r0, r1, r2, r3, r4, r5, r6, r7, r8⟩ := RR.out
      exact bodyPost_ret (v := .tuple #[.agg (rvC po ma ow ta ol ge 1 vr si), .int .i64 11]) (by simp [results, Tryz.results72, go_sem, rvC, r0, r1, r2, r3, r4, r5, r6, r7, r8]) rfl ⟨rfl, HF.out⟩
    have t1 : (vr == ve) = false := by simpa using h1
    have s1 : (vr != ve) = true := by simpa using h1
    rw [show awA ⟨po, ma, ow, ta, ol, ge, 1, ve, si⟩ ch vr = (⟨po, ma, ow, ta, ol, ge, 1, ve, si⟩, 8) from by simp [awA, h1]]
    clear h1
    have HQ0 : Blk ((w.alloc (.cells #[.int .i64 po, .int .u64 ma, .int .i64 ow, .int .i64 ta, .int .i64 ol, .int .i64 ge, .int .i64 1, .int .i64 ve, .int .i64 si] 40)).alloc (.cells #[.int .i64 0, .int .u64 0, .int .i64 0, .int .i64 0, .int .i64 0, .int .i64 0, .int .i64 0, .int .i64 0, .int .i64 0] 40)) w.heap.size 40 (rvC po ma ow ta ol ge 1 ve si) := (Blk.alloc (blk_new rfl) _)
    replace HQ0 := Lib.hid HQ0
    have HR0 : Blk ((w.alloc (.cells #[.int .i64 po, .int .u64 ma, .int .i64 ow, .int .i64 ta, .int .i64 ol, .int .i64 ge, .int .i64 1, .int .i64 ve, .int .i64 si] 40)).alloc (.cells #[.int .i64 0, .int .u64 0, .int .i64 0, .int .i64 0, .int .i64 0, .int .i64 0, .int .i64 0, .int .i64 0, .int .i64 0] 40)) (w.heap.size + 1) 40 (rvC 0 0 0 0 0 0 0 0 0) := (blk_new (by simp))
    replace HR0 := Lib.hid HR0
    have HP0 := Lib.hid (Blk.alloc (Blk.alloc hp (.cells #[.int .i64 po, .int .u64 ma, .int .i64 ow, .int .i64 ta, .int .i64 ol, .int .i64 ge, .int .i64 1, .int .i64 ve, .int .i64 si] 40)) (.cells #[.int .i64 0, .int .u64 0, .int .i64 0, .int .i64 0, .int .i64 0, .int .i64 0, .int .i64 0, .int .i64 0, .int .i64 0] 40))
    have HM0 := Lib.hid (Blk.alloc (Blk.alloc hm (.cells #[.int .i64 po, .int .u64 ma, .int .i64 ow, .int .i64 ta, .int .i64 ol, .int .i64 ge, .int .i64 1, .int .i64 ve, .int .i64 si] 40)) (.cells #[.int .i64 0, .int .u64 0, .int .i64 0, .int .i64 0, .int .i64 0, .int .i64 0, .int .i64 0, .int .i64 0, .int .i64 0] 40))
    have HX0 := Lib.hid (((Chg.refl (fun _ => False) w).alloc (.cells #[.int .i64 po, .int .u64 ma, .int .i64 ow, .int .i64 ta, .int .i64 ol, .int .i64 ge, .int .i64 1, .int .i64 ve, .int .i64 si] 40)).alloc (.cells #[.int .i64 0, .int .u64 0, .int .i64 0, .int .i64 0, .int .i64 0, .int .i64 0, .int .i64 0, .int .i64 0, .int .i64 0] 40))
    go_enter Tryz.func72, Tryz.ntmps72
    go_upto_region 1 with fail
    generalize ((w.alloc (.cells #[.int .i64 po, .int .u64 ma, .int .i64 ow, .int .i64 ta, .int .i64 ol, .int .i64 ge, .int .i64 1, .int .i64 ve, .int .i64 si] 40)).alloc (.cells #[.int .i64 0, .int .u64 0, .int .i64 0, .int .i64 0, .int .i64 0, .int .i64 0, .int .i64 0, .int .i64 0, .int .i64 0] 40)) = w1 at *
    have hpc := HP0.out.cell 0
    simp only [List.getElem?_toArray, List.getElem?_cons_zero] at hpc
    have hmc := HM0.out.cell 0
    simp only [List.getElem?_toArray, List.getElem?_cons_zero] at hmc
    obtain ⟨y0, y1, y2, y3, y4, y5, y6, y7, y8⟩ := rv_cells HQ0.out
    go_upto_region 2 with fail
    clear y0 y1 y2 y3 y4 y5 y6 y7 y8
    obtain ⟨y0, y1, y2, y3, y4, y5, y6, y7, y8⟩ := rv_cells HQ0.out
    obtain ⟨x0, x1, x2, x3, x4, x5, x6, x7, x8⟩ := rv_cells HR0.out
    obtain ⟨u0, u1, u2, u3, u4, u5, u6, u7, u8⟩ := rv_free9 HR0.out
    obtain ⟨r0, r1, r2, r3, r4, r5, r6, r7, r8, -, hcs⟩ := rv_put9 HR0.out po ma ow ta ol ge 1 ve si
    have HF := Lib.hid (fresh_set HX0.out hcs (by omega))
    have RR := Lib.hid (And.intro r0 (And.intro r1 (And.intro r2 (And.intro r3 (And.intro r4 (And.intro r5 (And.intro r6 (And.intro r7 r8))))))))
    clear r0 r1 r2 r3 r4 r5 r6 r7 r8 hcs HR0 HX0
    go_wp2_with fail
    obtain ⟨r0, r1, r2, r3, r4, r5, r6, r7, r8⟩ := RR.out
    exact bodyPost_ret (v := .tuple #[.agg (rvC po ma ow ta ol ge 1 ve si), .int .i64 8]) (by simp [results, Tryz.results72, go_sem, rvC, r0, r1, r2, r3, r4, r5, r6, r7, r8]) rfl ⟨rfl, HF.out⟩
  have t0 : (ph == 1) = false := by simpa using h0
  have s0 : (ph != 1) = true := by simpa using h0
  rw [show awA ⟨po, ma, ow, ta, ol, ge, ph, ve, si⟩ ch vr = (⟨po, ma, ow, ta, ol, ge, ph, ve, si⟩, 8) from by simp [awA, h0]]
  clear h0
  have HQ0 : Blk ((w.alloc (.cells #[.int .i64 po, .int .u64 ma, .int .i64 ow, .int .i64 ta, .int .i64 ol, .int .i64 ge, .int .i64 ph, .int .i64 ve, .int .i64 si] 40)).alloc (.cells #[.int .i64 0, .int .u64 0, .int .i64 0, .int .i64 0, .int .i64 0, .int .i64 0, .int .i64 0, .int .i64 0, .int .i64 0] 40)) w.heap.size 40 (rvC po ma ow ta ol ge ph ve si) := (Blk.alloc (blk_new rfl) _)
  replace HQ0 := Lib.hid HQ0
  have HR0 : Blk ((w.alloc (.cells #[.int .i64 po, .int .u64 ma, .int .i64 ow, .int .i64 ta, .int .i64 ol, .int .i64 ge, .int .i64 ph, .int .i64 ve, .int .i64 si] 40)).alloc (.cells #[.int .i64 0, .int .u64 0, .int .i64 0, .int .i64 0, .int .i64 0, .int .i64 0, .int .i64 0, .int .i64 0, .int .i64 0] 40)) (w.heap.size + 1) 40 (rvC 0 0 0 0 0 0 0 0 0) := (blk_new (by simp))
  replace HR0 := Lib.hid HR0
  have HP0 := Lib.hid (Blk.alloc (Blk.alloc hp (.cells #[.int .i64 po, .int .u64 ma, .int .i64 ow, .int .i64 ta, .int .i64 ol, .int .i64 ge, .int .i64 ph, .int .i64 ve, .int .i64 si] 40)) (.cells #[.int .i64 0, .int .u64 0, .int .i64 0, .int .i64 0, .int .i64 0, .int .i64 0, .int .i64 0, .int .i64 0, .int .i64 0] 40))
  have HM0 := Lib.hid (Blk.alloc (Blk.alloc hm (.cells #[.int .i64 po, .int .u64 ma, .int .i64 ow, .int .i64 ta, .int .i64 ol, .int .i64 ge, .int .i64 ph, .int .i64 ve, .int .i64 si] 40)) (.cells #[.int .i64 0, .int .u64 0, .int .i64 0, .int .i64 0, .int .i64 0, .int .i64 0, .int .i64 0, .int .i64 0, .int .i64 0] 40))
  have HX0 := Lib.hid (((Chg.refl (fun _ => False) w).alloc (.cells #[.int .i64 po, .int .u64 ma, .int .i64 ow, .int .i64 ta, .int .i64 ol, .int .i64 ge, .int .i64 ph, .int .i64 ve, .int .i64 si] 40)).alloc (.cells #[.int .i64 0, .int .u64 0, .int .i64 0, .int .i64 0, .int .i64 0, .int .i64 0, .int .i64 0, .int .i64 0, .int .i64 0] 40))
  go_enter Tryz.func72, Tryz.ntmps72
  go_upto_region 1 with fail
  generalize ((w.alloc (.cells #[.int .i64 po, .int .u64 ma, .int .i64 ow, .int .i64 ta, .int .i64 ol, .int .i64 ge, .int .i64 ph, .int .i64 ve, .int .i64 si] 40)).alloc (.cells #[.int .i64 0, .int .u64 0, .int .i64 0, .int .i64 0, .int .i64 0, .int .i64 0, .int .i64 0, .int .i64 0, .int .i64 0] 40)) = w1 at *
  have hpc := HP0.out.cell 0
  simp only [List.getElem?_toArray, List.getElem?_cons_zero] at hpc
  have hmc := HM0.out.cell 0
  simp only [List.getElem?_toArray, List.getElem?_cons_zero] at hmc
  obtain ⟨y0, y1, y2, y3, y4, y5, y6, y7, y8⟩ := rv_cells HQ0.out
  obtain ⟨x0, x1, x2, x3, x4, x5, x6, x7, x8⟩ := rv_cells HR0.out
  obtain ⟨u0, u1, u2, u3, u4, u5, u6, u7, u8⟩ := rv_free9 HR0.out
  obtain ⟨r0, r1, r2, r3, r4, r5, r6, r7, r8, -, hcs⟩ := rv_put9 HR0.out po ma ow ta ol ge ph ve si
  have HF := Lib.hid (fresh_set HX0.out hcs (by omega))
  have RR := Lib.hid (And.intro r0 (And.intro r1 (And.intro r2 (And.intro r3 (And.intro r4 (And.intro r5 (And.intro r6 (And.intro r7 r8))))))))
  clear r0 r1 r2 r3 r4 r5 r6 r7 r8 hcs HR0 HX0
  go_wp2_with fail
  obtain ⟨r0, r1, r2, r3, r4, r5, r6, r7, r8⟩ := RR.out
  exact bodyPost_ret (v := .tuple #[.agg (rvC po ma ow ta ol ge ph ve si), .int .i64 8]) (by simp [results, Tryz.results72, go_sem, rvC, r0, r1, r2, r3, r4, r5, r6, r7, r8]) rfl ⟨rfl, HF.out⟩

set_option maxRecDepth 100000 in
set_option maxHeartbeats 2000000 in
theorem ag1_any (po ma ow ta ol ge ph ve si mc no : Int) (p m : Nat) (w : World) (hp : Blk w p 31 #[.int .u64 mc]) (hm : Blk w m 3 #[.int .i64 no]) (hg : 1 ≤ ge ∧ ge ≤ 4294967296) : Calls Tryz.prog 113 #[.agg #[.int .i64 po, .int .u64 ma, .int .i64 ow, .int .i64 ta, .int .i64 ol, .int .i64 ge, .int .i64 ph, .int .i64 ve, .int .i64 si], .pointer (some ⟨p, 0, none⟩), .pointer (some ⟨m, 0, none⟩)] w (HR (agA ⟨po, ma, ow, ta, ol, ge, ph, ve, si⟩ mc no) w) := by
  by_cases h0 : ph = 3
  case pos =>
    subst h0
    cases hsp : spn9 ⟨po, ma, ow, ta, ol, ge, 3, ve, si⟩ with
    | true =>
      rw [show agA ⟨po, ma, ow, ta, ol, ge, 3, ve, si⟩ mc no = (⟨po, ma, ow, ta, ol, ge, 3, ve, si⟩, 10) from by simp [agA, hsp]]
      have hs := fun W => pspent_any po ma ow ta ol ge 3 ve si W
      rw [hsp] at hs
      have HS := Lib.hid hs
      clear hs
      clear hsp
      have HQ0 : Blk ((w.alloc (.cells #[.int .i64 po, .int .u64 ma, .int .i64 ow, .int .i64 ta, .int .i64 ol, .int .i64 ge, .int .i64 3, .int .i64 ve, .int .i64 si] 40)).alloc (.cells #[.int .i64 0, .int .u64 0, .int .i64 0, .int .i64 0, .int .i64 0, .int .i64 0, .int .i64 0, .int .i64 0, .int .i64 0] 40)) w.heap.size 40 (rvC po ma ow ta ol ge 3 ve si) := (Blk.alloc (blk_new rfl) _)
      replace HQ0 := Lib.hid HQ0
      have HR0 : Blk ((w.alloc (.cells #[.int .i64 po, .int .u64 ma, .int .i64 ow, .int .i64 ta, .int .i64 ol, .int .i64 ge, .int .i64 3, .int .i64 ve, .int .i64 si] 40)).alloc (.cells #[.int .i64 0, .int .u64 0, .int .i64 0, .int .i64 0, .int .i64 0, .int .i64 0, .int .i64 0, .int .i64 0, .int .i64 0] 40)) (w.heap.size + 1) 40 (rvC 0 0 0 0 0 0 0 0 0) := (blk_new (by simp))
      replace HR0 := Lib.hid HR0
      have HP0 := Lib.hid (Blk.alloc (Blk.alloc hp (.cells #[.int .i64 po, .int .u64 ma, .int .i64 ow, .int .i64 ta, .int .i64 ol, .int .i64 ge, .int .i64 3, .int .i64 ve, .int .i64 si] 40)) (.cells #[.int .i64 0, .int .u64 0, .int .i64 0, .int .i64 0, .int .i64 0, .int .i64 0, .int .i64 0, .int .i64 0, .int .i64 0] 40))
      have HM0 := Lib.hid (Blk.alloc (Blk.alloc hm (.cells #[.int .i64 po, .int .u64 ma, .int .i64 ow, .int .i64 ta, .int .i64 ol, .int .i64 ge, .int .i64 3, .int .i64 ve, .int .i64 si] 40)) (.cells #[.int .i64 0, .int .u64 0, .int .i64 0, .int .i64 0, .int .i64 0, .int .i64 0, .int .i64 0, .int .i64 0, .int .i64 0] 40))
      have HX0 := Lib.hid (((Chg.refl (fun _ => False) w).alloc (.cells #[.int .i64 po, .int .u64 ma, .int .i64 ow, .int .i64 ta, .int .i64 ol, .int .i64 ge, .int .i64 3, .int .i64 ve, .int .i64 si] 40)).alloc (.cells #[.int .i64 0, .int .u64 0, .int .i64 0, .int .i64 0, .int .i64 0, .int .i64 0, .int .i64 0, .int .i64 0, .int .i64 0] 40))
      go_enter Tryz.func113, Tryz.ntmps113
      go_upto_region 1 with fail
      generalize ((w.alloc (.cells #[.int .i64 po, .int .u64 ma, .int .i64 ow, .int .i64 ta, .int .i64 ol, .int .i64 ge, .int .i64 3, .int .i64 ve, .int .i64 si] 40)).alloc (.cells #[.int .i64 0, .int .u64 0, .int .i64 0, .int .i64 0, .int .i64 0, .int .i64 0, .int .i64 0, .int .i64 0, .int .i64 0] 40)) = w1 at *
      obtain ⟨y0, y1, y2, y3, y4, y5, y6, y7, y8⟩ := rv_cells HQ0.out
      go_wp2_with fail
      refine (HS.out _).mono ?_
      rintro e w2 ⟨rfl, hc⟩
      replace HX0 := Lib.hid (HX0.out.trans hc (fun _ _ e => e))
      replace HQ0 := Lib.hid (HQ0.out.chg hc id)
      replace HR0 := Lib.hid (HR0.out.chg hc id)
      replace HP0 := Lib.hid (HP0.out.chg hc id)
      replace HM0 := Lib.hid (HM0.out.chg hc id)
      clear hc
      clear y0 y1 y2 y3 y4 y5 y6 y7 y8
      obtain ⟨y0, y1, y2, y3, y4, y5, y6, y7, y8⟩ := rv_cells HQ0.out
      obtain ⟨x0, x1, x2, x3, x4, x5, x6, x7, x8⟩ := rv_cells HR0.out
      obtain ⟨u0, u1, u2, u3, u4, u5, u6, u7, u8⟩ := rv_free9 HR0.out
      obtain ⟨r0, r1, r2, r3, r4, r5, r6, r7, r8, -, hcs⟩ := rv_put9 HR0.out po ma ow ta ol ge 3 ve si
      have HF := Lib.hid (fresh_set HX0.out hcs (by omega))
      have RR := Lib.hid (And.intro r0 (And.intro r1 (And.intro r2 (And.intro r3 (And.intro r4 (And.intro r5 (And.intro r6 (And.intro r7 r8))))))))
      clear r0 r1 r2 r3 r4 r5 r6 r7 r8 hcs HR0 HX0
      go_wp2_with fail
      obtain ⟨r0, r1, r2, r3, r4, r5, r6, r7, r8⟩ := RR.out
      exact bodyPost_ret (v := .tuple #[.agg (rvC po ma ow ta ol ge 3 ve si), .int .i64 10]) (by simp [results, Tryz.results113, go_sem, rvC, r0, r1, r2, r3, r4, r5, r6, r7, r8]) rfl ⟨rfl, HF.out⟩
    | false =>
      rw [show agA ⟨po, ma, ow, ta, ol, ge, 3, ve, si⟩ mc no = (⟨po, mc, no, ta, ol, ge + 1, 0, ve, si⟩, 0) from by simp [agA, hsp]]
      have hs := fun W => pspent_any po ma ow ta ol ge 3 ve si W
      rw [hsp] at hs
      have HS := Lib.hid hs
      clear hs
      clear hsp
      have HQ0 : Blk ((w.alloc (.cells #[.int .i64 po, .int .u64 ma, .int .i64 ow, .int .i64 ta, .int .i64 ol, .int .i64 ge, .int .i64 3, .int .i64 ve, .int .i64 si] 40)).alloc (.cells #[.int .i64 0, .int .u64 0, .int .i64 0, .int .i64 0, .int .i64 0, .int .i64 0, .int .i64 0, .int .i64 0, .int .i64 0] 40)) w.heap.size 40 (rvC po ma ow ta ol ge 3 ve si) := (Blk.alloc (blk_new rfl) _)
      replace HQ0 := Lib.hid HQ0
      have HR0 : Blk ((w.alloc (.cells #[.int .i64 po, .int .u64 ma, .int .i64 ow, .int .i64 ta, .int .i64 ol, .int .i64 ge, .int .i64 3, .int .i64 ve, .int .i64 si] 40)).alloc (.cells #[.int .i64 0, .int .u64 0, .int .i64 0, .int .i64 0, .int .i64 0, .int .i64 0, .int .i64 0, .int .i64 0, .int .i64 0] 40)) (w.heap.size + 1) 40 (rvC 0 0 0 0 0 0 0 0 0) := (blk_new (by simp))
      replace HR0 := Lib.hid HR0
      have HP0 := Lib.hid (Blk.alloc (Blk.alloc hp (.cells #[.int .i64 po, .int .u64 ma, .int .i64 ow, .int .i64 ta, .int .i64 ol, .int .i64 ge, .int .i64 3, .int .i64 ve, .int .i64 si] 40)) (.cells #[.int .i64 0, .int .u64 0, .int .i64 0, .int .i64 0, .int .i64 0, .int .i64 0, .int .i64 0, .int .i64 0, .int .i64 0] 40))
      have HM0 := Lib.hid (Blk.alloc (Blk.alloc hm (.cells #[.int .i64 po, .int .u64 ma, .int .i64 ow, .int .i64 ta, .int .i64 ol, .int .i64 ge, .int .i64 3, .int .i64 ve, .int .i64 si] 40)) (.cells #[.int .i64 0, .int .u64 0, .int .i64 0, .int .i64 0, .int .i64 0, .int .i64 0, .int .i64 0, .int .i64 0, .int .i64 0] 40))
      have HX0 := Lib.hid (((Chg.refl (fun _ => False) w).alloc (.cells #[.int .i64 po, .int .u64 ma, .int .i64 ow, .int .i64 ta, .int .i64 ol, .int .i64 ge, .int .i64 3, .int .i64 ve, .int .i64 si] 40)).alloc (.cells #[.int .i64 0, .int .u64 0, .int .i64 0, .int .i64 0, .int .i64 0, .int .i64 0, .int .i64 0, .int .i64 0, .int .i64 0] 40))
      go_enter Tryz.func113, Tryz.ntmps113
      go_upto_region 1 with fail
      generalize ((w.alloc (.cells #[.int .i64 po, .int .u64 ma, .int .i64 ow, .int .i64 ta, .int .i64 ol, .int .i64 ge, .int .i64 3, .int .i64 ve, .int .i64 si] 40)).alloc (.cells #[.int .i64 0, .int .u64 0, .int .i64 0, .int .i64 0, .int .i64 0, .int .i64 0, .int .i64 0, .int .i64 0, .int .i64 0] 40)) = w1 at *
      obtain ⟨y0, y1, y2, y3, y4, y5, y6, y7, y8⟩ := rv_cells HQ0.out
      go_wp2_with fail
      refine (HS.out _).mono ?_
      rintro e w2 ⟨rfl, hc⟩
      replace HX0 := Lib.hid (HX0.out.trans hc (fun _ _ e => e))
      replace HQ0 := Lib.hid (HQ0.out.chg hc id)
      replace HR0 := Lib.hid (HR0.out.chg hc id)
      replace HP0 := Lib.hid (HP0.out.chg hc id)
      replace HM0 := Lib.hid (HM0.out.chg hc id)
      clear hc
      clear y0 y1 y2 y3 y4 y5 y6 y7 y8
      have hpc := HP0.out.cell 0
      simp only [List.getElem?_toArray, List.getElem?_cons_zero] at hpc
      have hmc := HM0.out.cell 0
      simp only [List.getElem?_toArray, List.getElem?_cons_zero] at hmc
      obtain ⟨-, y1, y2, -, -, y5, y6, -⟩ := rv_cells HQ0.out
      have f1 := HQ0.out.frozen 1
      have f2 := HQ0.out.frozen 2
      have f5 := HQ0.out.frozen 5
      have f6 := HQ0.out.frozen 6
      go_wp2_with fail
      go_region
      clear hpc hmc y1 y2 y5 y6 f1 f2 f5 f6
      replace HQ0 := Lib.hid (rv_set6 HQ0.out (0))
      replace HQ0 := Lib.hid (rv_set1 HQ0.out (mc))
      replace HQ0 := Lib.hid (rv_set2 HQ0.out (no))
      replace HQ0 := Lib.hid (rv_set5 HQ0.out (ge + 1))
      have hcs := (((((Chg.refl (fun k => k = w.heap.size) w2).put w.heap.size 6 (fun _ => rfl) (.int .i64 (0))).put w.heap.size 1 (fun _ => rfl) (.int .u64 (mc))).put w.heap.size 2 (fun _ => rfl) (.int .i64 (no))).put w.heap.size 5 (fun _ => rfl) (.int .i64 (ge + 1)))
      replace HR0 := Lib.hid (HR0.out.chg hcs (by omega))
      replace HX0 := Lib.hid (fresh_set HX0.out hcs (Nat.le_refl _))
      clear hcs
      replace HQ0 := Lib.hid HQ0.out.drew
      replace HR0 := Lib.hid HR0.out.drew
      replace HX0 := Lib.hid HX0.out.drew
      generalize World.drew ((((w2.setCell ⟨w.heap.size, 6, none⟩ (.int .i64 (0))).setCell ⟨w.heap.size, 1, none⟩ (.int .u64 (mc))).setCell ⟨w.heap.size, 2, none⟩ (.int .i64 (no))).setCell ⟨w.heap.size, 5, none⟩ (.int .i64 (ge + 1))) = w3 at *
      obtain ⟨y0, y1, y2, y3, y4, y5, y6, y7, y8⟩ := rv_cells HQ0.out
      obtain ⟨x0, x1, x2, x3, x4, x5, x6, x7, x8⟩ := rv_cells HR0.out
      obtain ⟨u0, u1, u2, u3, u4, u5, u6, u7, u8⟩ := rv_free9 HR0.out
      obtain ⟨r0, r1, r2, r3, r4, r5, r6, r7, r8, -, hcs⟩ := rv_put9 HR0.out po mc no ta ol (ge + 1) 0 ve si
      have HF := Lib.hid (fresh_set HX0.out hcs (by omega))
      have RR := Lib.hid (And.intro r0 (And.intro r1 (And.intro r2 (And.intro r3 (And.intro r4 (And.intro r5 (And.intro r6 (And.intro r7 r8))))))))
      clear r0 r1 r2 r3 r4 r5 r6 r7 r8 hcs HR0 HX0
      go_wp2_with fail
      obtain ⟨r0, r1, r2, r3, r4, r5, r6, r7, r8⟩ := RR.out
      exact bodyPost_ret (v := .tuple #[.agg (rvC po mc no ta ol (ge + 1) 0 ve si), .int .i64 0]) (by simp [results, Tryz.results113, go_sem, rvC, r0, r1, r2, r3, r4, r5, r6, r7, r8]) rfl ⟨rfl, HF.out⟩
  have t0 : (ph == 3) = false := by simpa using h0
  have s0 : (ph != 3) = true := by simpa using h0
  rw [show agA ⟨po, ma, ow, ta, ol, ge, ph, ve, si⟩ mc no = (⟨po, ma, ow, ta, ol, ge, ph, ve, si⟩, 8) from by simp [agA, h0]]
  clear h0
  have HQ0 : Blk ((w.alloc (.cells #[.int .i64 po, .int .u64 ma, .int .i64 ow, .int .i64 ta, .int .i64 ol, .int .i64 ge, .int .i64 ph, .int .i64 ve, .int .i64 si] 40)).alloc (.cells #[.int .i64 0, .int .u64 0, .int .i64 0, .int .i64 0, .int .i64 0, .int .i64 0, .int .i64 0, .int .i64 0, .int .i64 0] 40)) w.heap.size 40 (rvC po ma ow ta ol ge ph ve si) := (Blk.alloc (blk_new rfl) _)
  replace HQ0 := Lib.hid HQ0
  have HR0 : Blk ((w.alloc (.cells #[.int .i64 po, .int .u64 ma, .int .i64 ow, .int .i64 ta, .int .i64 ol, .int .i64 ge, .int .i64 ph, .int .i64 ve, .int .i64 si] 40)).alloc (.cells #[.int .i64 0, .int .u64 0, .int .i64 0, .int .i64 0, .int .i64 0, .int .i64 0, .int .i64 0, .int .i64 0, .int .i64 0] 40)) (w.heap.size + 1) 40 (rvC 0 0 0 0 0 0 0 0 0) := (blk_new (by simp))
  replace HR0 := Lib.hid HR0
  have HX0 := Lib.hid (((Chg.refl (fun _ => False) w).alloc (.cells #[.int .i64 po, .int .u64 ma, .int .i64 ow, .int .i64 ta, .int .i64 ol, .int .i64 ge, .int .i64 ph, .int .i64 ve, .int .i64 si] 40)).alloc (.cells #[.int .i64 0, .int .u64 0, .int .i64 0, .int .i64 0, .int .i64 0, .int .i64 0, .int .i64 0, .int .i64 0, .int .i64 0] 40))
  go_enter Tryz.func113, Tryz.ntmps113
  go_upto_region 1 with fail
  generalize ((w.alloc (.cells #[.int .i64 po, .int .u64 ma, .int .i64 ow, .int .i64 ta, .int .i64 ol, .int .i64 ge, .int .i64 ph, .int .i64 ve, .int .i64 si] 40)).alloc (.cells #[.int .i64 0, .int .u64 0, .int .i64 0, .int .i64 0, .int .i64 0, .int .i64 0, .int .i64 0, .int .i64 0, .int .i64 0] 40)) = w1 at *
  obtain ⟨y0, y1, y2, y3, y4, y5, y6, y7, y8⟩ := rv_cells HQ0.out
  obtain ⟨x0, x1, x2, x3, x4, x5, x6, x7, x8⟩ := rv_cells HR0.out
  obtain ⟨u0, u1, u2, u3, u4, u5, u6, u7, u8⟩ := rv_free9 HR0.out
  obtain ⟨r0, r1, r2, r3, r4, r5, r6, r7, r8, -, hcs⟩ := rv_put9 HR0.out po ma ow ta ol ge ph ve si
  have HF := Lib.hid (fresh_set HX0.out hcs (by omega))
  have RR := Lib.hid (And.intro r0 (And.intro r1 (And.intro r2 (And.intro r3 (And.intro r4 (And.intro r5 (And.intro r6 (And.intro r7 r8))))))))
  clear r0 r1 r2 r3 r4 r5 r6 r7 r8 hcs HR0 HX0
  go_wp2_with fail
  obtain ⟨r0, r1, r2, r3, r4, r5, r6, r7, r8⟩ := RR.out
  exact bodyPost_ret (v := .tuple #[.agg (rvC po ma ow ta ol ge ph ve si), .int .i64 8]) (by simp [results, Tryz.results113, go_sem, rvC, r0, r1, r2, r3, r4, r5, r6, r7, r8]) rfl ⟨rfl, HF.out⟩


end Go.Proofs.YtimgnogacanifaaGreat
end

section
namespace Go.Proofs.YtimgnogacanifaaGreat
open Go.RowKit
set_option linter.unusedVariables false

set_option maxRecDepth 100000 in
set_option maxHeartbeats 4000000 in
theorem do_gen (n : Nat) (caps : Array Value) (hcf : ∀ (xs : Array Value) (W : World), (callFunc n xs).run Tryz.prog W = .ok (.enter n xs) W) (po ma ow ta ol ge ph ve si now : Int) (may : Bool) (po_ ma_ ow_ ta_ ol_ ge_ ph_ ve_ si_ er : Int) (w : World) (hk : rwR po ma ow ta ol ge ph ve si = true → ∀ W, Chg (fun _ => False) w W → Calls Tryz.prog n (#[.agg #[.int .i64 po, .int .u64 ma, .int .i64 ow, .int .i64 ta, .int .i64 ol, .int .i64 ge, .int .i64 ph, .int .i64 ve, .int .i64 si]] ++ caps) W (HR9 po_ ma_ ow_ ta_ ol_ ge_ ph_ ve_ si_ er W)) :
    Calls Tryz.prog 70 #[.agg #[.int .i64 po, .int .u64 ma, .int .i64 ow, .int .i64 ta, .int .i64 ol, .int .i64 ge, .int .i64 ph, .int .i64 ve, .int .i64 si], .int .i64 now, .bool may, .func (.func n) #[] caps] w (HR (fin9 ⟨po, ma, ow, ta, ol, ge, ph, ve, si⟩ now may (⟨po_, ma_, ow_, ta_, ol_, ge_, ph_, ve_, si_⟩, er)) w) := by
  cases may with
  | false =>
    rw [show fin9 ⟨po, ma, ow, ta, ol, ge, ph, ve, si⟩ now false (⟨po_, ma_, ow_, ta_, ol_, ge_, ph_, ve_, si_⟩, er) = (z9, 1) from by simp [fin9]]
    have HQ0 : Blk ((w.alloc (.cells #[.int .i64 po, .int .u64 ma, .int .i64 ow, .int .i64 ta, .int .i64 ol, .int .i64 ge, .int .i64 ph, .int .i64 ve, .int .i64 si] 40)).alloc (.cells #[.int .i64 0, .int .u64 0, .int .i64 0, .int .i64 0, .int .i64 0, .int .i64 0, .int .i64 0, .int .i64 0, .int .i64 0] 40)) w.heap.size 40 (rvC po ma ow ta ol ge ph ve si) := (Blk.alloc (blk_new rfl) _)
    replace HQ0 := Lib.hid HQ0
    have HR0 : Blk ((w.alloc (.cells #[.int .i64 po, .int .u64 ma, .int .i64 ow, .int .i64 ta, .int .i64 ol, .int .i64 ge, .int .i64 ph, .int .i64 ve, .int .i64 si] 40)).alloc (.cells #[.int .i64 0, .int .u64 0, .int .i64 0, .int .i64 0, .int .i64 0, .int .i64 0, .int .i64 0, .int .i64 0, .int .i64 0] 40)) (w.heap.size + 1) 40 (rvC 0 0 0 0 0 0 0 0 0) := (blk_new (by simp))
    replace HR0 := Lib.hid HR0
    have HX0 := Lib.hid (((Chg.refl (fun _ => False) w).alloc (.cells #[.int .i64 po, .int .u64 ma, .int .i64 ow, .int .i64 ta, .int .i64 ol, .int .i64 ge, .int .i64 ph, .int .i64 ve, .int .i64 si] 40)).alloc (.cells #[.int .i64 0, .int .u64 0, .int .i64 0, .int .i64 0, .int .i64 0, .int .i64 0, .int .i64 0, .int .i64 0, .int .i64 0] 40))
    go_enter Tryz.func70, Tryz.ntmps70
    go_upto_region 1 with fail
    generalize ((w.alloc (.cells #[.int .i64 po, .int .u64 ma, .int .i64 ow, .int .i64 ta, .int .i64 ol, .int .i64 ge, .int .i64 ph, .int .i64 ve, .int .i64 si] 40)).alloc (.cells #[.int .i64 0, .int .u64 0, .int .i64 0, .int .i64 0, .int .i64 0, .int .i64 0, .int .i64 0, .int .i64 0, .int .i64 0] 40)) = w1 at *
    obtain ⟨x0, x1, x2, x3, x4, x5, x6, x7, x8⟩ := rv_cells HR0.out
    obtain ⟨u0, u1, u2, u3, u4, u5, u6, u7, u8⟩ := rv_free9 HR0.out
    obtain ⟨r0, r1, r2, r3, r4, r5, r6, r7, r8, -, hcs⟩ := rv_put9 HR0.out 0 0 0 0 0 0 0 0 0
    have HF := Lib.hid (fresh_set HX0.out hcs (by omega))
    have RR := Lib.hid (And.intro r0 (And.intro r1 (And.intro r2 (And.intro r3 (And.intro r4 (And.intro r5 (And.intro r6 (And.intro r7 r8))))))))
    clear r0 r1 r2 r3 r4 r5 r6 r7 r8 hcs HR0 HX0
    go_wp2_with fail
    obtain ⟨r0, r1, r2, r3, r4, r5, r6, r7, r8⟩ := RR.out
    exact bodyPost_ret (v := .tuple #[.agg (rvC 0 0 0 0 0 0 0 0 0), .int .i64 1]) (by simp [results, Tryz.results70, go_sem, rvC, r0, r1, r2, r3, r4, r5, r6, r7, r8]) rfl ⟨rfl, HF.out⟩
  | true =>
    have hm := fun W => pmom_any now W
    cases ht : tm9 now with
    | false =>
      rw [show fin9 ⟨po, ma, ow, ta, ol, ge, ph, ve, si⟩ now true (⟨po_, ma_, ow_, ta_, ol_, ge_, ph_, ve_, si_⟩, er) = (z9, 1) from by simp [fin9, ht]]
      rw [show withinB 0 1099511627776 [now] = false from ht] at hm
      have HM := Lib.hid hm
      clear hm ht hk
      have HQ0 : Blk ((w.alloc (.cells #[.int .i64 po, .int .u64 ma, .int .i64 ow, .int .i64 ta, .int .i64 ol, .int .i64 ge, .int .i64 ph, .int .i64 ve, .int .i64 si] 40)).alloc (.cells #[.int .i64 0, .int .u64 0, .int .i64 0, .int .i64 0, .int .i64 0, .int .i64 0, .int .i64 0, .int .i64 0, .int .i64 0] 40)) w.heap.size 40 (rvC po ma ow ta ol ge ph ve si) := (Blk.alloc (blk_new rfl) _)
      replace HQ0 := Lib.hid HQ0
      have HR0 : Blk ((w.alloc (.cells #[.int .i64 po, .int .u64 ma, .int .i64 ow, .int .i64 ta, .int .i64 ol, .int .i64 ge, .int .i64 ph, .int .i64 ve, .int .i64 si] 40)).alloc (.cells #[.int .i64 0, .int .u64 0, .int .i64 0, .int .i64 0, .int .i64 0, .int .i64 0, .int .i64 0, .int .i64 0, .int .i64 0] 40)) (w.heap.size + 1) 40 (rvC 0 0 0 0 0 0 0 0 0) := (blk_new (by simp))
      replace HR0 := Lib.hid HR0
      have HX0 := Lib.hid (((Chg.refl (fun _ => False) w).alloc (.cells #[.int .i64 po, .int .u64 ma, .int .i64 ow, .int .i64 ta, .int .i64 ol, .int .i64 ge, .int .i64 ph, .int .i64 ve, .int .i64 si] 40)).alloc (.cells #[.int .i64 0, .int .u64 0, .int .i64 0, .int .i64 0, .int .i64 0, .int .i64 0, .int .i64 0, .int .i64 0, .int .i64 0] 40))
      go_enter Tryz.func70, Tryz.ntmps70
      go_upto_region 1 with fail
      generalize ((w.alloc (.cells #[.int .i64 po, .int .u64 ma, .int .i64 ow, .int .i64 ta, .int .i64 ol, .int .i64 ge, .int .i64 ph, .int .i64 ve, .int .i64 si] 40)).alloc (.cells #[.int .i64 0, .int .u64 0, .int .i64 0, .int .i64 0, .int .i64 0, .int .i64 0, .int .i64 0, .int .i64 0, .int .i64 0] 40)) = w1 at *
      go_wp2_with fail
      refine (HM.out _).mono ?_
      rintro e wq ⟨rfl, rfl⟩
      obtain ⟨x0, x1, x2, x3, x4, x5, x6, x7, x8⟩ := rv_cells HR0.out
      obtain ⟨u0, u1, u2, u3, u4, u5, u6, u7, u8⟩ := rv_free9 HR0.out
      obtain ⟨r0, r1, r2, r3, r4, r5, r6, r7, r8, -, hcs⟩ := rv_put9 HR0.out 0 0 0 0 0 0 0 0 0
      have HF := Lib.hid (fresh_set HX0.out hcs (by omega))
      have RR := Lib.hid (And.intro r0 (And.intro r1 (And.intro r2 (And.intro r3 (And.intro r4 (And.intro r5 (And.intro r6 (And.intro r7 r8))))))))
      clear r0 r1 r2 r3 r4 r5 r6 r7 r8 hcs HR0 HX0
      go_wp2_with fail
      obtain ⟨r0, r1, r2, r3, r4, r5, r6, r7, r8⟩ := RR.out
      exact bodyPost_ret (v := .tuple #[.agg (rvC 0 0 0 0 0 0 0 0 0), .int .i64 1]) (by simp [results, Tryz.results70, go_sem, rvC, r0, r1, r2, r3, r4, r5, r6, r7, r8]) rfl ⟨rfl, HF.out⟩
    | true =>
      rw [show withinB 0 1099511627776 [now] = true from ht] at hm
      have HM := Lib.hid hm
      clear hm
      have hr := fun W => crow_any po ma ow ta ol ge ph ve si W
      unfold rvC at hr
      by_cases h : rwR po ma ow ta ol ge ph ve si = true
      case neg =>
        have h : rwR po ma ow ta ol ge ph ve si = false := by simpa using h
        rw [show fin9 ⟨po, ma, ow, ta, ol, ge, ph, ve, si⟩ now true (⟨po_, ma_, ow_, ta_, ol_, ge_, ph_, ve_, si_⟩, er) = (z9, 1) from if_neg (fun hh => by have h2 : rwR po ma ow ta ol ge ph ve si = true := hh.2.2; rw [h] at h2; cases h2)]
        rw [h] at hr
        have HRW := Lib.hid hr
        clear hr h ht hk
        have HQ0 : Blk ((w.alloc (.cells #[.int .i64 po, .int .u64 ma, .int .i64 ow, .int .i64 ta, .int .i64 ol, .int .i64 ge, .int .i64 ph, .int .i64 ve, .int .i64 si] 40)).alloc (.cells #[.int .i64 0, .int .u64 0, .int .i64 0, .int .i64 0, .int .i64 0, .int .i64 0, .int .i64 0, .int .i64 0, .int .i64 0] 40)) w.heap.size 40 (rvC po ma ow ta ol ge ph ve si) := (Blk.alloc (blk_new rfl) _)
        replace HQ0 := Lib.hid HQ0
        have HR0 : Blk ((w.alloc (.cells #[.int .i64 po, .int .u64 ma, .int .i64 ow, .int .i64 ta, .int .i64 ol, .int .i64 ge, .int .i64 ph, .int .i64 ve, .int .i64 si] 40)).alloc (.cells #[.int .i64 0, .int .u64 0, .int .i64 0, .int .i64 0, .int .i64 0, .int .i64 0, .int .i64 0, .int .i64 0, .int .i64 0] 40)) (w.heap.size + 1) 40 (rvC 0 0 0 0 0 0 0 0 0) := (blk_new (by simp))
        replace HR0 := Lib.hid HR0
        have HX0 := Lib.hid (((Chg.refl (fun _ => False) w).alloc (.cells #[.int .i64 po, .int .u64 ma, .int .i64 ow, .int .i64 ta, .int .i64 ol, .int .i64 ge, .int .i64 ph, .int .i64 ve, .int .i64 si] 40)).alloc (.cells #[.int .i64 0, .int .u64 0, .int .i64 0, .int .i64 0, .int .i64 0, .int .i64 0, .int .i64 0, .int .i64 0, .int .i64 0] 40))
        go_enter Tryz.func70, Tryz.ntmps70
        go_upto_region 1 with fail
        generalize ((w.alloc (.cells #[.int .i64 po, .int .u64 ma, .int .i64 ow, .int .i64 ta, .int .i64 ol, .int .i64 ge, .int .i64 ph, .int .i64 ve, .int .i64 si] 40)).alloc (.cells #[.int .i64 0, .int .u64 0, .int .i64 0, .int .i64 0, .int .i64 0, .int .i64 0, .int .i64 0, .int .i64 0, .int .i64 0] 40)) = w1 at *
        obtain ⟨y0, y1, y2, y3, y4, y5, y6, y7, y8⟩ := rv_cells HQ0.out
        go_wp2_with fail
        refine (HM.out _).mono ?_
        rintro e wq ⟨rfl, rfl⟩
        go_wp2_with fail
        refine (HRW.out _).mono ?_
        rintro e w2 ⟨rfl, hc⟩
        replace HX0 := Lib.hid (HX0.out.trans hc (fun _ _ e => e))
        replace HQ0 := Lib.hid (HQ0.out.chg hc id)
        replace HR0 := Lib.hid (HR0.out.chg hc id)
        clear hc
        clear y0 y1 y2 y3 y4 y5 y6 y7 y8
        obtain ⟨x0, x1, x2, x3, x4, x5, x6, x7, x8⟩ := rv_cells HR0.out
        obtain ⟨u0, u1, u2, u3, u4, u5, u6, u7, u8⟩ := rv_free9 HR0.out
        obtain ⟨r0, r1, r2, r3, r4, r5, r6, r7, r8, -, hcs⟩ := rv_put9 HR0.out 0 0 0 0 0 0 0 0 0
        have HF := Lib.hid (fresh_set HX0.out hcs (by omega))
        have RR := Lib.hid (And.intro r0 (And.intro r1 (And.intro r2 (And.intro r3 (And.intro r4 (And.intro r5 (And.intro r6 (And.intro r7 r8))))))))
        clear r0 r1 r2 r3 r4 r5 r6 r7 r8 hcs HR0 HX0
        go_wp2_with fail
        obtain ⟨r0, r1, r2, r3, r4, r5, r6, r7, r8⟩ := RR.out
        exact bodyPost_ret (v := .tuple #[.agg (rvC 0 0 0 0 0 0 0 0 0), .int .i64 1]) (by simp [results, Tryz.results70, go_sem, rvC, r0, r1, r2, r3, r4, r5, r6, r7, r8]) rfl ⟨rfl, HF.out⟩
      have hK := Lib.hid (hk h)
      have hb := ok_bounds h
      have hbt := tm_bounds ht
      rw [h] at hr
      have HRW := Lib.hid hr
      clear hr hk
      by_cases he : er = 0
      case neg =>
        rw [show fin9 ⟨po, ma, ow, ta, ol, ge, ph, ve, si⟩ now true (⟨po_, ma_, ow_, ta_, ol_, ge_, ph_, ve_, si_⟩, er) = (z9, er) from by unfold fin9; rw [if_pos ⟨rfl, ht, h⟩]; exact if_neg he]
        have te : (er != 0) = true := by simpa using he
        have te2 : (er == 0) = false := by simpa using he
        clear he h ht
        have HQ0 : Blk ((w.alloc (.cells #[.int .i64 po, .int .u64 ma, .int .i64 ow, .int .i64 ta, .int .i64 ol, .int .i64 ge, .int .i64 ph, .int .i64 ve, .int .i64 si] 40)).alloc (.cells #[.int .i64 0, .int .u64 0, .int .i64 0, .int .i64 0, .int .i64 0, .int .i64 0, .int .i64 0, .int .i64 0, .int .i64 0] 40)) w.heap.size 40 (rvC po ma ow ta ol ge ph ve si) := (Blk.alloc (blk_new rfl) _)
        replace HQ0 := Lib.hid HQ0
        have HR0 : Blk ((w.alloc (.cells #[.int .i64 po, .int .u64 ma, .int .i64 ow, .int .i64 ta, .int .i64 ol, .int .i64 ge, .int .i64 ph, .int .i64 ve, .int .i64 si] 40)).alloc (.cells #[.int .i64 0, .int .u64 0, .int .i64 0, .int .i64 0, .int .i64 0, .int .i64 0, .int .i64 0, .int .i64 0, .int .i64 0] 40)) (w.heap.size + 1) 40 (rvC 0 0 0 0 0 0 0 0 0) := (blk_new (by simp))
        replace HR0 := Lib.hid HR0
        have HX0 := Lib.hid (((Chg.refl (fun _ => False) w).alloc (.cells #[.int .i64 po, .int .u64 ma, .int .i64 ow, .int .i64 ta, .int .i64 ol, .int .i64 ge, .int .i64 ph, .int .i64 ve, .int .i64 si] 40)).alloc (.cells #[.int .i64 0, .int .u64 0, .int .i64 0, .int .i64 0, .int .i64 0, .int .i64 0, .int .i64 0, .int .i64 0, .int .i64 0] 40))
        go_enter Tryz.func70, Tryz.ntmps70
        go_upto_region 1 with fail
        generalize ((w.alloc (.cells #[.int .i64 po, .int .u64 ma, .int .i64 ow, .int .i64 ta, .int .i64 ol, .int .i64 ge, .int .i64 ph, .int .i64 ve, .int .i64 si] 40)).alloc (.cells #[.int .i64 0, .int .u64 0, .int .i64 0, .int .i64 0, .int .i64 0, .int .i64 0, .int .i64 0, .int .i64 0, .int .i64 0] 40)) = w1 at *
        obtain ⟨y0, y1, y2, y3, y4, y5, y6, y7, y8⟩ := rv_cells HQ0.out
        go_wp2_with fail
        refine (HM.out _).mono ?_
        rintro e wq ⟨rfl, rfl⟩
        go_wp2_with fail
        refine (HRW.out _).mono ?_
        rintro e w2 ⟨rfl, hc⟩
        replace HX0 := Lib.hid (HX0.out.trans hc (fun _ _ e => e))
        replace HQ0 := Lib.hid (HQ0.out.chg hc id)
        replace HR0 := Lib.hid (HR0.out.chg hc id)
        clear hc
        clear y0 y1 y2 y3 y4 y5 y6 y7 y8
        obtain ⟨y0, y1, y2, y3, y4, y5, y6, y7, y8⟩ := rv_cells HQ0.out
        go_wp2_with fail
        refine (hK.out _ HX0.out).mono ?_
        rintro e w3 ⟨rfl, hc⟩
        replace HX0 := Lib.hid (HX0.out.trans hc (fun _ _ e => e))
        replace HQ0 := Lib.hid (HQ0.out.chg hc id)
        replace HR0 := Lib.hid (HR0.out.chg hc id)
        clear hc
        clear y0 y1 y2 y3 y4 y5 y6 y7 y8
        replace HX0 := Lib.hid (HX0.out.alloc (.cells #[.int .i64 po_, .int .u64 ma_, .int .i64 ow_, .int .i64 ta_, .int .i64 ol_, .int .i64 ge_, .int .i64 ph_, .int .i64 ve_, .int .i64 si_] 40))
        replace HR0 := Lib.hid (HR0.out.alloc (.cells #[.int .i64 po_, .int .u64 ma_, .int .i64 ow_, .int .i64 ta_, .int .i64 ol_, .int .i64 ge_, .int .i64 ph_, .int .i64 ve_, .int .i64 si_] 40))
        replace HQ0 := Lib.hid (HQ0.out.alloc (.cells #[.int .i64 po_, .int .u64 ma_, .int .i64 ow_, .int .i64 ta_, .int .i64 ol_, .int .i64 ge_, .int .i64 ph_, .int .i64 ve_, .int .i64 si_] 40))
        go_upto_region 4 with fail
        generalize w3.alloc (.cells #[.int .i64 po_, .int .u64 ma_, .int .i64 ow_, .int .i64 ta_, .int .i64 ol_, .int .i64 ge_, .int .i64 ph_, .int .i64 ve_, .int .i64 si_] 40) = w4 at *
        obtain ⟨x0, x1, x2, x3, x4, x5, x6, x7, x8⟩ := rv_cells HR0.out
        obtain ⟨u0, u1, u2, u3, u4, u5, u6, u7, u8⟩ := rv_free9 HR0.out
        obtain ⟨r0, r1, r2, r3, r4, r5, r6, r7, r8, -, hcs⟩ := rv_put9 HR0.out 0 0 0 0 0 0 0 0 0
        have HF := Lib.hid (fresh_set HX0.out hcs (by omega))
        have RR := Lib.hid (And.intro r0 (And.intro r1 (And.intro r2 (And.intro r3 (And.intro r4 (And.intro r5 (And.intro r6 (And.intro r7 r8))))))))
        clear r0 r1 r2 r3 r4 r5 r6 r7 r8 hcs HR0 HX0
        go_wp2_with fail
        obtain ⟨r0, r1, r2, r3, r4, r5, r6, r7, r8⟩ := RR.out
        exact bodyPost_ret (v := .tuple #[.agg (rvC 0 0 0 0 0 0 0 0 0), .int .i64 er]) (by simp [results, Tryz.results70, go_sem, rvC, r0, r1, r2, r3, r4, r5, r6, r7, r8]) rfl ⟨rfl, HF.out⟩
      subst he
      rw [show fin9 ⟨po, ma, ow, ta, ol, ge, ph, ve, si⟩ now true (⟨po_, ma_, ow_, ta_, ol_, ge_, ph_, ve_, si_⟩, 0) = chk9 ⟨po_, ma_, ow_, ta_, ol_, ge_, ph_, ve + 1, now⟩ from by unfold fin9; rw [if_pos ⟨rfl, ht, h⟩]; exact if_pos rfl]
      have hck := fun W => checked_any po_ ma_ ow_ ta_ ol_ ge_ ph_ (ve + 1) now W
      obtain ⟨z0, z1, z2, z3, z4, z5, z6, z7, z8, ze, hz⟩ := num9 (r := chk9 ⟨po_, ma_, ow_, ta_, ol_, ge_, ph_, ve + 1, now⟩)
      rw [hz] at hck ⊢
      have HCK : Hid (∀ W, Calls _ _ _ W (HR9 z0 z1 z2 z3 z4 z5 z6 z7 z8 ze W)) := Lib.hid hck
      clear hck hz h ht
      have HQ0 : Blk ((w.alloc (.cells #[.int .i64 po, .int .u64 ma, .int .i64 ow, .int .i64 ta, .int .i64 ol, .int .i64 ge, .int .i64 ph, .int .i64 ve, .int .i64 si] 40)).alloc (.cells #[.int .i64 0, .int .u64 0, .int .i64 0, .int .i64 0, .int .i64 0, .int .i64 0, .int .i64 0, .int .i64 0, .int .i64 0] 40)) w.heap.size 40 (rvC po ma ow ta ol ge ph ve si) := (Blk.alloc (blk_new rfl) _)
      replace HQ0 := Lib.hid HQ0
      have HR0 : Blk ((w.alloc (.cells #[.int .i64 po, .int .u64 ma, .int .i64 ow, .int .i64 ta, .int .i64 ol, .int .i64 ge, .int .i64 ph, .int .i64 ve, .int .i64 si] 40)).alloc (.cells #[.int .i64 0, .int .u64 0, .int .i64 0, .int .i64 0, .int .i64 0, .int .i64 0, .int .i64 0, .int .i64 0, .int .i64 0] 40)) (w.heap.size + 1) 40 (rvC 0 0 0 0 0 0 0 0 0) := (blk_new (by simp))
      replace HR0 := Lib.hid HR0
      have HX0 := Lib.hid (((Chg.refl (fun _ => False) w).alloc (.cells #[.int .i64 po, .int .u64 ma, .int .i64 ow, .int .i64 ta, .int .i64 ol, .int .i64 ge, .int .i64 ph, .int .i64 ve, .int .i64 si] 40)).alloc (.cells #[.int .i64 0, .int .u64 0, .int .i64 0, .int .i64 0, .int .i64 0, .int .i64 0, .int .i64 0, .int .i64 0, .int .i64 0] 40))
      go_enter Tryz.func70, Tryz.ntmps70
      go_upto_region 1 with fail
      generalize ((w.alloc (.cells #[.int .i64 po, .int .u64 ma, .int .i64 ow, .int .i64 ta, .int .i64 ol, .int .i64 ge, .int .i64 ph, .int .i64 ve, .int .i64 si] 40)).alloc (.cells #[.int .i64 0, .int .u64 0, .int .i64 0, .int .i64 0, .int .i64 0, .int .i64 0, .int .i64 0, .int .i64 0, .int .i64 0] 40)) = w1 at *
      obtain ⟨y0, y1, y2, y3, y4, y5, y6, y7, y8⟩ := rv_cells HQ0.out
      go_wp2_with fail
      refine (HM.out _).mono ?_
      rintro e wq ⟨rfl, rfl⟩
      go_wp2_with fail
      refine (HRW.out _).mono ?_
      rintro e w2 ⟨rfl, hc⟩
      replace HX0 := Lib.hid (HX0.out.trans hc (fun _ _ e => e))
      replace HQ0 := Lib.hid (HQ0.out.chg hc id)
      replace HR0 := Lib.hid (HR0.out.chg hc id)
      clear hc
      clear y0 y1 y2 y3 y4 y5 y6 y7 y8
      obtain ⟨y0, y1, y2, y3, y4, y5, y6, y7, y8⟩ := rv_cells HQ0.out
      go_wp2_with fail
      refine (hK.out _ HX0.out).mono ?_
      rintro e w3 ⟨rfl, hc⟩
      replace HX0 := Lib.hid (HX0.out.trans hc (fun _ _ e => e))
      replace HQ0 := Lib.hid (HQ0.out.chg hc id)
      replace HR0 := Lib.hid (HR0.out.chg hc id)
      clear hc
      clear y0 y1 y2 y3 y4 y5 y6 y7 y8
      go_upto_region 4 with fail
      have hN := Lib.hid (Blk.new w3 40 #[.int .i64 po_, .int .u64 ma_, .int .i64 ow_, .int .i64 ta_, .int .i64 ol_, .int .i64 ge_, .int .i64 ph_, .int .i64 ve_, .int .i64 si_])
      have hsz := HX0.out.size
      have hg3 : w.heap.size + 2 ≤ w3.heap.size := by have := (Blk.lt HR0.out); omega
      generalize hgn : w3.heap.size = g at *
      replace HX0 := Lib.hid (HX0.out.alloc (.cells #[.int .i64 po_, .int .u64 ma_, .int .i64 ow_, .int .i64 ta_, .int .i64 ol_, .int .i64 ge_, .int .i64 ph_, .int .i64 ve_, .int .i64 si_] 40))
      replace HR0 := Lib.hid (HR0.out.alloc (.cells #[.int .i64 po_, .int .u64 ma_, .int .i64 ow_, .int .i64 ta_, .int .i64 ol_, .int .i64 ge_, .int .i64 ph_, .int .i64 ve_, .int .i64 si_] 40))
      replace HQ0 := Lib.hid (HQ0.out.alloc (.cells #[.int .i64 po_, .int .u64 ma_, .int .i64 ow_, .int .i64 ta_, .int .i64 ol_, .int .i64 ge_, .int .i64 ph_, .int .i64 ve_, .int .i64 si_] 40))
      replace hN : Hid (Blk _ g 40 (rvC po_ ma_ ow_ ta_ ol_ ge_ ph_ ve_ si_)) := hN
      clear hgn
      generalize w3.alloc (.cells #[.int .i64 po_, .int .u64 ma_, .int .i64 ow_, .int .i64 ta_, .int .i64 ol_, .int .i64 ge_, .int .i64 ph_, .int .i64 ve_, .int .i64 si_] 40) = w4 at *
      obtain ⟨-, -, -, -, -, -, -, q7, -⟩ := rv_cells HQ0.out
      have fhN0 := hN.out.frozen 7
      obtain ⟨-, -, -, -, -, -, -, yhN0_7, -⟩ := rv_cells hN.out
      replace hN := Lib.hid (rv_set7 hN.out (ve + 1))
      have fhN1 := hN.out.frozen 8
      obtain ⟨-, -, -, -, -, -, -, -, yhN1_8⟩ := rv_cells hN.out
      replace hN := Lib.hid (rv_set8 hN.out (now))
      have hcs := (((Chg.refl (fun k => k = g) w4).put g 7 (fun _ => rfl) (.int .i64 (ve + 1))).put g 8 (fun _ => rfl) (.int .i64 (now)))
      replace HR0 := Lib.hid (HR0.out.chg hcs (by omega))
      replace HX0 := Lib.hid (fresh_set HX0.out hcs (by first | exact Nat.le_refl _ | omega))
      clear hcs
      obtain ⟨y0, y1, y2, y3, y4, y5, y6, y7, y8⟩ := rv_cells hN.out
      go_wp2_with fail
      refine (HCK.out _).mono ?_
      rintro e w5 ⟨rfl, hc⟩
      replace HX0 := Lib.hid (HX0.out.trans hc (fun _ _ e => e))
      replace HR0 := Lib.hid (HR0.out.chg hc id)
      clear hc y0 y1 y2 y3 y4 y5 y6 y7 y8
      obtain ⟨x0, x1, x2, x3, x4, x5, x6, x7, x8⟩ := rv_cells HR0.out
      obtain ⟨u0, u1, u2, u3, u4, u5, u6, u7, u8⟩ := rv_free9 HR0.out
      obtain ⟨r0, r1, r2, r3, r4, r5, r6, r7, r8, -, hcs⟩ := rv_put9 HR0.out z0 z1 z2 z3 z4 z5 z6 z7 z8
      have HF := Lib.hid (fresh_set HX0.out hcs (by omega))
      have RR := Lib.hid (And.intro r0 (And.intro r1 (And.intro r2 (And.intro r3 (And.intro r4 (And.intro r5 (And.intro r6 (And.intro r7 r8))))))))
      clear r0 r1 r2 r3 r4 r5 r6 r7 r8 hcs HR0 HX0
      go_wp2_with fail
      obtain ⟨r0, r1, r2, r3, r4, r5, r6, r7, r8⟩ := RR.out
      exact bodyPost_ret (v := .tuple #[.agg (rvC z0 z1 z2 z3 z4 z5 z6 z7 z8), .int .i64 ze]) (by simp [results, Tryz.results70, go_sem, rvC, r0, r1, r2, r3, r4, r5, r6, r7, r8]) rfl ⟨rfl, HF.out⟩
theorem do_co (po ma ow ta ol ge ph ve si now : Int) (may : Bool) (po_ ma_ ow_ ta_ ol_ ge_ ph_ ve_ si_ er : Int) (w : World) (hk : rwR po ma ow ta ol ge ph ve si = true → ∀ W, Chg (fun _ => False) w W → Calls Tryz.prog 84 #[.agg #[.int .i64 po, .int .u64 ma, .int .i64 ow, .int .i64 ta, .int .i64 ol, .int .i64 ge, .int .i64 ph, .int .i64 ve, .int .i64 si]] W (HR9 po_ ma_ ow_ ta_ ol_ ge_ ph_ ve_ si_ er W)) :
    Calls Tryz.prog 70 #[.agg #[.int .i64 po, .int .u64 ma, .int .i64 ow, .int .i64 ta, .int .i64 ol, .int .i64 ge, .int .i64 ph, .int .i64 ve, .int .i64 si], .int .i64 now, .bool may, .func (.func 84) #[] #[]] w (HR (fin9 ⟨po, ma, ow, ta, ol, ge, ph, ve, si⟩ now may (⟨po_, ma_, ow_, ta_, ol_, ge_, ph_, ve_, si_⟩, er)) w) :=
  do_gen 84 #[] (fun _ _ => by go_simp) po ma ow ta ol ge ph ve si now may po_ ma_ ow_ ta_ ol_ ge_ ph_ ve_ si_ er w hk
theorem do_ab (po ma ow ta ol ge ph ve si now : Int) (may : Bool) (po_ ma_ ow_ ta_ ol_ ge_ ph_ ve_ si_ er : Int) (w : World) (hk : rwR po ma ow ta ol ge ph ve si = true → ∀ W, Chg (fun _ => False) w W → Calls Tryz.prog 85 #[.agg #[.int .i64 po, .int .u64 ma, .int .i64 ow, .int .i64 ta, .int .i64 ol, .int .i64 ge, .int .i64 ph, .int .i64 ve, .int .i64 si]] W (HR9 po_ ma_ ow_ ta_ ol_ ge_ ph_ ve_ si_ er W)) :
    Calls Tryz.prog 70 #[.agg #[.int .i64 po, .int .u64 ma, .int .i64 ow, .int .i64 ta, .int .i64 ol, .int .i64 ge, .int .i64 ph, .int .i64 ve, .int .i64 si], .int .i64 now, .bool may, .func (.func 85) #[] #[]] w (HR (fin9 ⟨po, ma, ow, ta, ol, ge, ph, ve, si⟩ now may (⟨po_, ma_, ow_, ta_, ol_, ge_, ph_, ve_, si_⟩, er)) w) :=
  do_gen 85 #[] (fun _ _ => by go_simp) po ma ow ta ol ge ph ve si now may po_ ma_ ow_ ta_ ol_ ge_ ph_ ve_ si_ er w hk
theorem do_dr (po ma ow ta ol ge ph ve si now : Int) (may : Bool) (po_ ma_ ow_ ta_ ol_ ge_ ph_ ve_ si_ er : Int) (w : World) (hk : rwR po ma ow ta ol ge ph ve si = true → ∀ W, Chg (fun _ => False) w W → Calls Tryz.prog 81 #[.agg #[.int .i64 po, .int .u64 ma, .int .i64 ow, .int .i64 ta, .int .i64 ol, .int .i64 ge, .int .i64 ph, .int .i64 ve, .int .i64 si]] W (HR9 po_ ma_ ow_ ta_ ol_ ge_ ph_ ve_ si_ er W)) :
    Calls Tryz.prog 70 #[.agg #[.int .i64 po, .int .u64 ma, .int .i64 ow, .int .i64 ta, .int .i64 ol, .int .i64 ge, .int .i64 ph, .int .i64 ve, .int .i64 si], .int .i64 now, .bool may, .func (.func 81) #[] #[]] w (HR (fin9 ⟨po, ma, ow, ta, ol, ge, ph, ve, si⟩ now may (⟨po_, ma_, ow_, ta_, ol_, ge_, ph_, ve_, si_⟩, er)) w) :=
  do_gen 81 #[] (fun _ _ => by go_simp) po ma ow ta ol ge ph ve si now may po_ ma_ ow_ ta_ ol_ ge_ ph_ ve_ si_ er w hk
theorem do_st (po ma ow ta ol ge ph ve si now : Int) (may : Bool) (po_ ma_ ow_ ta_ ol_ ge_ ph_ ve_ si_ er : Int) (p : Nat) (w : World) (hk : rwR po ma ow ta ol ge ph ve si = true → ∀ W, Chg (fun _ => False) w W → Calls Tryz.prog 82 #[.agg #[.int .i64 po, .int .u64 ma, .int .i64 ow, .int .i64 ta, .int .i64 ol, .int .i64 ge, .int .i64 ph, .int .i64 ve, .int .i64 si], .pointer (some ⟨p, 0, none⟩)] W (HR9 po_ ma_ ow_ ta_ ol_ ge_ ph_ ve_ si_ er W)) :
    Calls Tryz.prog 70 #[.agg #[.int .i64 po, .int .u64 ma, .int .i64 ow, .int .i64 ta, .int .i64 ol, .int .i64 ge, .int .i64 ph, .int .i64 ve, .int .i64 si], .int .i64 now, .bool may, .func (.func 82) #[] #[.pointer (some ⟨p, 0, none⟩)]] w (HR (fin9 ⟨po, ma, ow, ta, ol, ge, ph, ve, si⟩ now may (⟨po_, ma_, ow_, ta_, ol_, ge_, ph_, ve_, si_⟩, er)) w) :=
  do_gen 82 #[.pointer (some ⟨p, 0, none⟩)] (fun _ _ => by go_simp) po ma ow ta ol ge ph ve si now may po_ ma_ ow_ ta_ ol_ ge_ ph_ ve_ si_ er w hk
theorem do_aw (po ma ow ta ol ge ph ve si now : Int) (may : Bool) (po_ ma_ ow_ ta_ ol_ ge_ ph_ ve_ si_ er : Int) (p m : Nat) (w : World) (hk : rwR po ma ow ta ol ge ph ve si = true → ∀ W, Chg (fun _ => False) w W → Calls Tryz.prog 72 #[.agg #[.int .i64 po, .int .u64 ma, .int .i64 ow, .int .i64 ta, .int .i64 ol, .int .i64 ge, .int .i64 ph, .int .i64 ve, .int .i64 si], .pointer (some ⟨p, 0, none⟩), .pointer (some ⟨m, 0, none⟩)] W (HR9 po_ ma_ ow_ ta_ ol_ ge_ ph_ ve_ si_ er W)) :
    Calls Tryz.prog 70 #[.agg #[.int .i64 po, .int .u64 ma, .int .i64 ow, .int .i64 ta, .int .i64 ol, .int .i64 ge, .int .i64 ph, .int .i64 ve, .int .i64 si], .int .i64 now, .bool may, .func (.func 72) #[] #[.pointer (some ⟨p, 0, none⟩), .pointer (some ⟨m, 0, none⟩)]] w (HR (fin9 ⟨po, ma, ow, ta, ol, ge, ph, ve, si⟩ now may (⟨po_, ma_, ow_, ta_, ol_, ge_, ph_, ve_, si_⟩, er)) w) :=
  do_gen 72 #[.pointer (some ⟨p, 0, none⟩), .pointer (some ⟨m, 0, none⟩)] (fun _ _ => by go_simp) po ma ow ta ol ge ph ve si now may po_ ma_ ow_ ta_ ol_ ge_ ph_ ve_ si_ er w hk
theorem do_ag (po ma ow ta ol ge ph ve si now : Int) (may : Bool) (po_ ma_ ow_ ta_ ol_ ge_ ph_ ve_ si_ er : Int) (p m : Nat) (w : World) (hk : rwR po ma ow ta ol ge ph ve si = true → ∀ W, Chg (fun _ => False) w W → Calls Tryz.prog 113 #[.agg #[.int .i64 po, .int .u64 ma, .int .i64 ow, .int .i64 ta, .int .i64 ol, .int .i64 ge, .int .i64 ph, .int .i64 ve, .int .i64 si], .pointer (some ⟨p, 0, none⟩), .pointer (some ⟨m, 0, none⟩)] W (HR9 po_ ma_ ow_ ta_ ol_ ge_ ph_ ve_ si_ er W)) :
    Calls Tryz.prog 70 #[.agg #[.int .i64 po, .int .u64 ma, .int .i64 ow, .int .i64 ta, .int .i64 ol, .int .i64 ge, .int .i64 ph, .int .i64 ve, .int .i64 si], .int .i64 now, .bool may, .func (.func 113) #[] #[.pointer (some ⟨p, 0, none⟩), .pointer (some ⟨m, 0, none⟩)]] w (HR (fin9 ⟨po, ma, ow, ta, ol, ge, ph, ve, si⟩ now may (⟨po_, ma_, ow_, ta_, ol_, ge_, ph_, ve_, si_⟩, er)) w) :=
  do_gen 113 #[.pointer (some ⟨p, 0, none⟩), .pointer (some ⟨m, 0, none⟩)] (fun _ _ => by go_simp) po ma ow ta ol ge ph ve si now may po_ ma_ ow_ ta_ ol_ ge_ ph_ ve_ si_ er w hk

end Go.Proofs.YtimgnogacanifaaGreat
end

section
namespace Go.Proofs.YtimgnogacanifaaGreat
open Go.RowKit
set_option linter.unusedVariables false

end Go.Proofs.YtimgnogacanifaaGreat
end

section
namespace Go.Proofs.YtimgnogacanifaaGreat
open Go.RowKit
set_option linter.unusedVariables false

end Go.Proofs.YtimgnogacanifaaGreat
end

section
namespace Go.Proofs.YtimgnogacanifaaGreat
open Go.RowKit
set_option linter.unusedVariables false

set_option maxRecDepth 100000 in
set_option maxHeartbeats 2000000 in
theorem pcom_any (po ma ow ta ol ge ph ve si now : Int) (w : World) : Calls Tryz.prog 52 #[.agg #[.int .i64 po, .int .u64 ma, .int .i64 ow, .int .i64 ta, .int .i64 ol, .int .i64 ge, .int .i64 ph, .int .i64 ve, .int .i64 si], .int .i64 now] w (HR (co9 ⟨po, ma, ow, ta, ol, ge, ph, ve, si⟩ now) w) := by
  obtain ⟨y0, y1, y2, y3, y4, y5, y6, y7, y8, er, hy⟩ := num9 (r := coA ⟨po, ma, ow, ta, ol, ge, ph, ve, si⟩)
  have hd := fun W => do_co po ma ow ta ol ge ph ve si now true y0 y1 y2 y3 y4 y5 y6 y7 y8 er W (fun h W' _ => by
    have := co1_any po ma ow ta ol ge ph ve si W' (ok_bounds h).2.2.2.1
    rw [hy] at this
    exact this)
  rw [show fin9 ⟨po, ma, ow, ta, ol, ge, ph, ve, si⟩ now true (⟨y0, y1, y2, y3, y4, y5, y6, y7, y8⟩, er) = co9 ⟨po, ma, ow, ta, ol, ge, ph, ve, si⟩ now from by rw [← hy]; rfl] at hd
  clear hy
  obtain ⟨z0, z1, z2, z3, z4, z5, z6, z7, z8, ze, hz⟩ := num9 (r := co9 ⟨po, ma, ow, ta, ol, ge, ph, ve, si⟩ now)
  rw [hz] at hd ⊢
  have HD : Hid (∀ W, Calls _ _ _ W (HR9 z0 z1 z2 z3 z4 z5 z6 z7 z8 ze W)) := Lib.hid hd
  clear hd hz
  have HQ0 : Blk ((w.alloc (.cells #[.int .i64 po, .int .u64 ma, .int .i64 ow, .int .i64 ta, .int .i64 ol, .int .i64 ge, .int .i64 ph, .int .i64 ve, .int .i64 si] 40)).alloc (.cells #[.int .i64 0, .int .u64 0, .int .i64 0, .int .i64 0, .int .i64 0, .int .i64 0, .int .i64 0, .int .i64 0, .int .i64 0] 40)) w.heap.size 40 (rvC po ma ow ta ol ge ph ve si) := (Blk.alloc (blk_new rfl) _)
  replace HQ0 := Lib.hid HQ0
  have HR0 : Blk ((w.alloc (.cells #[.int .i64 po, .int .u64 ma, .int .i64 ow, .int .i64 ta, .int .i64 ol, .int .i64 ge, .int .i64 ph, .int .i64 ve, .int .i64 si] 40)).alloc (.cells #[.int .i64 0, .int .u64 0, .int .i64 0, .int .i64 0, .int .i64 0, .int .i64 0, .int .i64 0, .int .i64 0, .int .i64 0] 40)) (w.heap.size + 1) 40 (rvC 0 0 0 0 0 0 0 0 0) := (blk_new (by simp))
  replace HR0 := Lib.hid HR0
  have HX0 := Lib.hid (((Chg.refl (fun _ => False) w).alloc (.cells #[.int .i64 po, .int .u64 ma, .int .i64 ow, .int .i64 ta, .int .i64 ol, .int .i64 ge, .int .i64 ph, .int .i64 ve, .int .i64 si] 40)).alloc (.cells #[.int .i64 0, .int .u64 0, .int .i64 0, .int .i64 0, .int .i64 0, .int .i64 0, .int .i64 0, .int .i64 0, .int .i64 0] 40))
  go_enter Tryz.func52, Tryz.ntmps52
  go_upto_region 1 with fail
  generalize ((w.alloc (.cells #[.int .i64 po, .int .u64 ma, .int .i64 ow, .int .i64 ta, .int .i64 ol, .int .i64 ge, .int .i64 ph, .int .i64 ve, .int .i64 si] 40)).alloc (.cells #[.int .i64 0, .int .u64 0, .int .i64 0, .int .i64 0, .int .i64 0, .int .i64 0, .int .i64 0, .int .i64 0, .int .i64 0] 40)) = w1 at *
  obtain ⟨x0, x1, x2, x3, x4, x5, x6, x7, x8⟩ := rv_cells HQ0.out
  go_wp2_with fail
  refine (HD.out _).mono ?_
  rintro e w2 ⟨rfl, hc⟩
  replace HX0 := Lib.hid (HX0.out.trans hc (fun _ _ e => e))
  replace HQ0 := Lib.hid (HQ0.out.chg hc id)
  replace HR0 := Lib.hid (HR0.out.chg hc id)
  clear hc
  clear x0 x1 x2 x3 x4 x5 x6 x7 x8
  obtain ⟨x0, x1, x2, x3, x4, x5, x6, x7, x8⟩ := rv_cells HR0.out
  obtain ⟨u0, u1, u2, u3, u4, u5, u6, u7, u8⟩ := rv_free9 HR0.out
  obtain ⟨r0, r1, r2, r3, r4, r5, r6, r7, r8, -, hcs⟩ := rv_put9 HR0.out z0 z1 z2 z3 z4 z5 z6 z7 z8
  have HF := Lib.hid (fresh_set HX0.out hcs (by omega))
  have RR := Lib.hid (And.intro r0 (And.intro r1 (And.intro r2 (And.intro r3 (And.intro r4 (And.intro r5 (And.intro r6 (And.intro r7 r8))))))))
  clear r0 r1 r2 r3 r4 r5 r6 r7 r8 hcs HR0 HX0
  go_wp2_with fail
  obtain ⟨r0, r1, r2, r3, r4, r5, r6, r7, r8⟩ := RR.out
  exact bodyPost_ret (v := .tuple #[.agg (rvC z0 z1 z2 z3 z4 z5 z6 z7 z8), .int .i64 ze]) (by simp [results, Tryz.results52, go_sem, rvC, r0, r1, r2, r3, r4, r5, r6, r7, r8]) rfl ⟨rfl, HF.out⟩

set_option maxRecDepth 100000 in
set_option maxHeartbeats 2000000 in
theorem pabo_any (po ma ow ta ol ge ph ve si now : Int) (w : World) : Calls Tryz.prog 55 #[.agg #[.int .i64 po, .int .u64 ma, .int .i64 ow, .int .i64 ta, .int .i64 ol, .int .i64 ge, .int .i64 ph, .int .i64 ve, .int .i64 si], .int .i64 now] w (HR (ab9 ⟨po, ma, ow, ta, ol, ge, ph, ve, si⟩ now) w) := by
  obtain ⟨y0, y1, y2, y3, y4, y5, y6, y7, y8, er, hy⟩ := num9 (r := abA ⟨po, ma, ow, ta, ol, ge, ph, ve, si⟩)
  have hd := fun W => do_ab po ma ow ta ol ge ph ve si now true y0 y1 y2 y3 y4 y5 y6 y7 y8 er W (fun h W' _ => by
    have := ab1_any po ma ow ta ol ge ph ve si W'
    rw [hy] at this
    exact this)
  rw [show fin9 ⟨po, ma, ow, ta, ol, ge, ph, ve, si⟩ now true (⟨y0, y1, y2, y3, y4, y5, y6, y7, y8⟩, er) = ab9 ⟨po, ma, ow, ta, ol, ge, ph, ve, si⟩ now from by rw [← hy]; rfl] at hd
  clear hy
  obtain ⟨z0, z1, z2, z3, z4, z5, z6, z7, z8, ze, hz⟩ := num9 (r := ab9 ⟨po, ma, ow, ta, ol, ge, ph, ve, si⟩ now)
  rw [hz] at hd ⊢
  have HD : Hid (∀ W, Calls _ _ _ W (HR9 z0 z1 z2 z3 z4 z5 z6 z7 z8 ze W)) := Lib.hid hd
  clear hd hz
  have HQ0 : Blk ((w.alloc (.cells #[.int .i64 po, .int .u64 ma, .int .i64 ow, .int .i64 ta, .int .i64 ol, .int .i64 ge, .int .i64 ph, .int .i64 ve, .int .i64 si] 40)).alloc (.cells #[.int .i64 0, .int .u64 0, .int .i64 0, .int .i64 0, .int .i64 0, .int .i64 0, .int .i64 0, .int .i64 0, .int .i64 0] 40)) w.heap.size 40 (rvC po ma ow ta ol ge ph ve si) := (Blk.alloc (blk_new rfl) _)
  replace HQ0 := Lib.hid HQ0
  have HR0 : Blk ((w.alloc (.cells #[.int .i64 po, .int .u64 ma, .int .i64 ow, .int .i64 ta, .int .i64 ol, .int .i64 ge, .int .i64 ph, .int .i64 ve, .int .i64 si] 40)).alloc (.cells #[.int .i64 0, .int .u64 0, .int .i64 0, .int .i64 0, .int .i64 0, .int .i64 0, .int .i64 0, .int .i64 0, .int .i64 0] 40)) (w.heap.size + 1) 40 (rvC 0 0 0 0 0 0 0 0 0) := (blk_new (by simp))
  replace HR0 := Lib.hid HR0
  have HX0 := Lib.hid (((Chg.refl (fun _ => False) w).alloc (.cells #[.int .i64 po, .int .u64 ma, .int .i64 ow, .int .i64 ta, .int .i64 ol, .int .i64 ge, .int .i64 ph, .int .i64 ve, .int .i64 si] 40)).alloc (.cells #[.int .i64 0, .int .u64 0, .int .i64 0, .int .i64 0, .int .i64 0, .int .i64 0, .int .i64 0, .int .i64 0, .int .i64 0] 40))
  go_enter Tryz.func55, Tryz.ntmps55
  go_upto_region 1 with fail
  generalize ((w.alloc (.cells #[.int .i64 po, .int .u64 ma, .int .i64 ow, .int .i64 ta, .int .i64 ol, .int .i64 ge, .int .i64 ph, .int .i64 ve, .int .i64 si] 40)).alloc (.cells #[.int .i64 0, .int .u64 0, .int .i64 0, .int .i64 0, .int .i64 0, .int .i64 0, .int .i64 0, .int .i64 0, .int .i64 0] 40)) = w1 at *
  obtain ⟨x0, x1, x2, x3, x4, x5, x6, x7, x8⟩ := rv_cells HQ0.out
  go_wp2_with fail
  refine (HD.out _).mono ?_
  rintro e w2 ⟨rfl, hc⟩
  replace HX0 := Lib.hid (HX0.out.trans hc (fun _ _ e => e))
  replace HQ0 := Lib.hid (HQ0.out.chg hc id)
  replace HR0 := Lib.hid (HR0.out.chg hc id)
  clear hc
  clear x0 x1 x2 x3 x4 x5 x6 x7 x8
  obtain ⟨x0, x1, x2, x3, x4, x5, x6, x7, x8⟩ := rv_cells HR0.out
  obtain ⟨u0, u1, u2, u3, u4, u5, u6, u7, u8⟩ := rv_free9 HR0.out
  obtain ⟨r0, r1, r2, r3, r4, r5, r6, r7, r8, -, hcs⟩ := rv_put9 HR0.out z0 z1 z2 z3 z4 z5 z6 z7 z8
  have HF := Lib.hid (fresh_set HX0.out hcs (by omega))
  have RR := Lib.hid (And.intro r0 (And.intro r1 (And.intro r2 (And.intro r3 (And.intro r4 (And.intro r5 (And.intro r6 (And.intro r7 r8))))))))
  clear r0 r1 r2 r3 r4 r5 r6 r7 r8 hcs HR0 HX0
  go_wp2_with fail
  obtain ⟨r0, r1, r2, r3, r4, r5, r6, r7, r8⟩ := RR.out
  exact bodyPost_ret (v := .tuple #[.agg (rvC z0 z1 z2 z3 z4 z5 z6 z7 z8), .int .i64 ze]) (by simp [results, Tryz.results55, go_sem, rvC, r0, r1, r2, r3, r4, r5, r6, r7, r8]) rfl ⟨rfl, HF.out⟩

set_option maxRecDepth 100000 in
set_option maxHeartbeats 2000000 in
theorem pdro_any (po ma ow ta ol ge ph ve si now : Int) (w : World) : Calls Tryz.prog 46 #[.agg #[.int .i64 po, .int .u64 ma, .int .i64 ow, .int .i64 ta, .int .i64 ol, .int .i64 ge, .int .i64 ph, .int .i64 ve, .int .i64 si], .int .i64 now] w (HR (dr9 ⟨po, ma, ow, ta, ol, ge, ph, ve, si⟩ now) w) := by
  obtain ⟨y0, y1, y2, y3, y4, y5, y6, y7, y8, er, hy⟩ := num9 (r := drA ⟨po, ma, ow, ta, ol, ge, ph, ve, si⟩)
  have hd := fun W => do_dr po ma ow ta ol ge ph ve si now true y0 y1 y2 y3 y4 y5 y6 y7 y8 er W (fun h W' _ => by
    have := dr1_any po ma ow ta ol ge ph ve si W'
    rw [hy] at this
    exact this)
  rw [show fin9 ⟨po, ma, ow, ta, ol, ge, ph, ve, si⟩ now true (⟨y0, y1, y2, y3, y4, y5, y6, y7, y8⟩, er) = dr9 ⟨po, ma, ow, ta, ol, ge, ph, ve, si⟩ now from by rw [← hy]; rfl] at hd
  clear hy
  obtain ⟨z0, z1, z2, z3, z4, z5, z6, z7, z8, ze, hz⟩ := num9 (r := dr9 ⟨po, ma, ow, ta, ol, ge, ph, ve, si⟩ now)
  rw [hz] at hd ⊢
  have HD : Hid (∀ W, Calls _ _ _ W (HR9 z0 z1 z2 z3 z4 z5 z6 z7 z8 ze W)) := Lib.hid hd
  clear hd hz
  have HQ0 : Blk ((w.alloc (.cells #[.int .i64 po, .int .u64 ma, .int .i64 ow, .int .i64 ta, .int .i64 ol, .int .i64 ge, .int .i64 ph, .int .i64 ve, .int .i64 si] 40)).alloc (.cells #[.int .i64 0, .int .u64 0, .int .i64 0, .int .i64 0, .int .i64 0, .int .i64 0, .int .i64 0, .int .i64 0, .int .i64 0] 40)) w.heap.size 40 (rvC po ma ow ta ol ge ph ve si) := (Blk.alloc (blk_new rfl) _)
  replace HQ0 := Lib.hid HQ0
  have HR0 : Blk ((w.alloc (.cells #[.int .i64 po, .int .u64 ma, .int .i64 ow, .int .i64 ta, .int .i64 ol, .int .i64 ge, .int .i64 ph, .int .i64 ve, .int .i64 si] 40)).alloc (.cells #[.int .i64 0, .int .u64 0, .int .i64 0, .int .i64 0, .int .i64 0, .int .i64 0, .int .i64 0, .int .i64 0, .int .i64 0] 40)) (w.heap.size + 1) 40 (rvC 0 0 0 0 0 0 0 0 0) := (blk_new (by simp))
  replace HR0 := Lib.hid HR0
  have HX0 := Lib.hid (((Chg.refl (fun _ => False) w).alloc (.cells #[.int .i64 po, .int .u64 ma, .int .i64 ow, .int .i64 ta, .int .i64 ol, .int .i64 ge, .int .i64 ph, .int .i64 ve, .int .i64 si] 40)).alloc (.cells #[.int .i64 0, .int .u64 0, .int .i64 0, .int .i64 0, .int .i64 0, .int .i64 0, .int .i64 0, .int .i64 0, .int .i64 0] 40))
  go_enter Tryz.func46, Tryz.ntmps46
  go_upto_region 1 with fail
  generalize ((w.alloc (.cells #[.int .i64 po, .int .u64 ma, .int .i64 ow, .int .i64 ta, .int .i64 ol, .int .i64 ge, .int .i64 ph, .int .i64 ve, .int .i64 si] 40)).alloc (.cells #[.int .i64 0, .int .u64 0, .int .i64 0, .int .i64 0, .int .i64 0, .int .i64 0, .int .i64 0, .int .i64 0, .int .i64 0] 40)) = w1 at *
  obtain ⟨x0, x1, x2, x3, x4, x5, x6, x7, x8⟩ := rv_cells HQ0.out
  go_wp2_with fail
  refine (HD.out _).mono ?_
  rintro e w2 ⟨rfl, hc⟩
  replace HX0 := Lib.hid (HX0.out.trans hc (fun _ _ e => e))
  replace HQ0 := Lib.hid (HQ0.out.chg hc id)
  replace HR0 := Lib.hid (HR0.out.chg hc id)
  clear hc
  clear x0 x1 x2 x3 x4 x5 x6 x7 x8
  obtain ⟨x0, x1, x2, x3, x4, x5, x6, x7, x8⟩ := rv_cells HR0.out
  obtain ⟨u0, u1, u2, u3, u4, u5, u6, u7, u8⟩ := rv_free9 HR0.out
  obtain ⟨r0, r1, r2, r3, r4, r5, r6, r7, r8, -, hcs⟩ := rv_put9 HR0.out z0 z1 z2 z3 z4 z5 z6 z7 z8
  have HF := Lib.hid (fresh_set HX0.out hcs (by omega))
  have RR := Lib.hid (And.intro r0 (And.intro r1 (And.intro r2 (And.intro r3 (And.intro r4 (And.intro r5 (And.intro r6 (And.intro r7 r8))))))))
  clear r0 r1 r2 r3 r4 r5 r6 r7 r8 hcs HR0 HX0
  go_wp2_with fail
  obtain ⟨r0, r1, r2, r3, r4, r5, r6, r7, r8⟩ := RR.out
  exact bodyPost_ret (v := .tuple #[.agg (rvC z0 z1 z2 z3 z4 z5 z6 z7 z8), .int .i64 ze]) (by simp [results, Tryz.results46, go_sem, rvC, r0, r1, r2, r3, r4, r5, r6, r7, r8]) rfl ⟨rfl, HF.out⟩

set_option maxRecDepth 100000 in
set_option maxHeartbeats 2000000 in
theorem pnew_any (po ma ow si : Int) (w : World) : Calls Tryz.prog 79 #[.int .i64 po, .int .u64 ma, .int .i64 ow, .int .i64 si] w (HR (new9 po ma ow si) w) := by
  have hd := fun W => checked_any po ma ow (-1) (-1) 1 0 1 si W
  rw [show chk9 ⟨po, ma, ow, -1, -1, 1, 0, 1, si⟩ = new9 po ma ow si from rfl] at hd
  obtain ⟨z0, z1, z2, z3, z4, z5, z6, z7, z8, ze, hz⟩ := num9 (r := new9 po ma ow si)
  rw [hz] at hd ⊢
  have HD : Hid (∀ W, Calls _ _ _ W (HR9 z0 z1 z2 z3 z4 z5 z6 z7 z8 ze W)) := Lib.hid hd
  clear hd hz
  have HR0 : Blk (w.alloc (.cells #[.int .i64 0, .int .u64 0, .int .i64 0, .int .i64 0, .int .i64 0, .int .i64 0, .int .i64 0, .int .i64 0, .int .i64 0] 40)) w.heap.size 40 (rvC 0 0 0 0 0 0 0 0 0) := (blk_new rfl)
  replace HR0 := Lib.hid HR0
  have HX0 := Lib.hid ((Chg.refl (fun _ => False) w).alloc (.cells #[.int .i64 0, .int .u64 0, .int .i64 0, .int .i64 0, .int .i64 0, .int .i64 0, .int .i64 0, .int .i64 0, .int .i64 0] 40))
  go_enter Tryz.func79, Tryz.ntmps79
  go_upto_region 1 with fail
  generalize (w.alloc (.cells #[.int .i64 0, .int .u64 0, .int .i64 0, .int .i64 0, .int .i64 0, .int .i64 0, .int .i64 0, .int .i64 0, .int .i64 0] 40)) = w1 at *
  go_wp2_with fail
  refine (HD.out _).mono ?_
  rintro e w2 ⟨rfl, hc⟩
  replace HX0 := Lib.hid (HX0.out.trans hc (fun _ _ e => e))
  replace HR0 := Lib.hid (HR0.out.chg hc id)
  clear hc
  obtain ⟨x0, x1, x2, x3, x4, x5, x6, x7, x8⟩ := rv_cells HR0.out
  obtain ⟨u0, u1, u2, u3, u4, u5, u6, u7, u8⟩ := rv_free9 HR0.out
  obtain ⟨r0, r1, r2, r3, r4, r5, r6, r7, r8, -, hcs⟩ := rv_put9 HR0.out z0 z1 z2 z3 z4 z5 z6 z7 z8
  have HF := Lib.hid (fresh_set HX0.out hcs (by omega))
  have RR := Lib.hid (And.intro r0 (And.intro r1 (And.intro r2 (And.intro r3 (And.intro r4 (And.intro r5 (And.intro r6 (And.intro r7 r8))))))))
  clear r0 r1 r2 r3 r4 r5 r6 r7 r8 hcs HR0 HX0
  go_wp2_with fail
  obtain ⟨r0, r1, r2, r3, r4, r5, r6, r7, r8⟩ := RR.out
  exact bodyPost_ret (v := .tuple #[.agg (rvC z0 z1 z2 z3 z4 z5 z6 z7 z8), .int .i64 ze]) (by simp [results, Tryz.results79, go_sem, rvC, r0, r1, r2, r3, r4, r5, r6, r7, r8]) rfl ⟨rfl, HF.out⟩


end Go.Proofs.YtimgnogacanifaaGreat
end

section
namespace Go.Proofs.YtimgnogacanifaaGreat
open Go.RowKit
set_option linter.unusedVariables false

set_option maxRecDepth 100000 in
set_option maxHeartbeats 4000000 in
theorem psta_any (po ma ow ta ol ge ph ve si tg now : Int) (w : World) : Calls Tryz.prog 49 #[.agg #[.int .i64 po, .int .u64 ma, .int .i64 ow, .int .i64 ta, .int .i64 ol, .int .i64 ge, .int .i64 ph, .int .i64 ve, .int .i64 si], .int .i64 tg, .int .i64 now] w (HR (st9 ⟨po, ma, ow, ta, ol, ge, ph, ve, si⟩ tg now) w) := by
  obtain ⟨y0, y1, y2, y3, y4, y5, y6, y7, y8, er, hy⟩ := num9 (r := stA9 ⟨po, ma, ow, ta, ol, ge, ph, ve, si⟩ tg)
  obtain ⟨z0, z1, z2, z3, z4, z5, z6, z7, z8, ze, hz⟩ := num9 (r := st9 ⟨po, ma, ow, ta, ol, ge, ph, ve, si⟩ tg now)
  rw [hz]
  have HQ0 : Blk (((w.alloc (.cells #[.int .i64 po, .int .u64 ma, .int .i64 ow, .int .i64 ta, .int .i64 ol, .int .i64 ge, .int .i64 ph, .int .i64 ve, .int .i64 si] 40)).alloc (.cells #[.int .i64 tg] 3)).alloc (.cells #[.int .i64 0, .int .u64 0, .int .i64 0, .int .i64 0, .int .i64 0, .int .i64 0, .int .i64 0, .int .i64 0, .int .i64 0] 40)) w.heap.size 40 (rvC po ma ow ta ol ge ph ve si) := (Blk.alloc (Blk.alloc (blk_new rfl) _) _)
  replace HQ0 := Lib.hid HQ0
  have HR0 : Blk (((w.alloc (.cells #[.int .i64 po, .int .u64 ma, .int .i64 ow, .int .i64 ta, .int .i64 ol, .int .i64 ge, .int .i64 ph, .int .i64 ve, .int .i64 si] 40)).alloc (.cells #[.int .i64 tg] 3)).alloc (.cells #[.int .i64 0, .int .u64 0, .int .i64 0, .int .i64 0, .int .i64 0, .int .i64 0, .int .i64 0, .int .i64 0, .int .i64 0] 40)) (w.heap.size + 1 + 1) 40 (rvC 0 0 0 0 0 0 0 0 0) := (blk_new (by simp))
  replace HR0 := Lib.hid HR0
  have HT0 : Blk (((w.alloc (.cells #[.int .i64 po, .int .u64 ma, .int .i64 ow, .int .i64 ta, .int .i64 ol, .int .i64 ge, .int .i64 ph, .int .i64 ve, .int .i64 si] 40)).alloc (.cells #[.int .i64 tg] 3)).alloc (.cells #[.int .i64 0, .int .u64 0, .int .i64 0, .int .i64 0, .int .i64 0, .int .i64 0, .int .i64 0, .int .i64 0, .int .i64 0] 40)) (w.heap.size + 1) 3 #[.int .i64 tg] := (Blk.alloc (blk_new (by simp)) _)
  replace HT0 := Lib.hid HT0
  have HX0 := Lib.hid ((((Chg.refl (fun _ => False) w).alloc (.cells #[.int .i64 po, .int .u64 ma, .int .i64 ow, .int .i64 ta, .int .i64 ol, .int .i64 ge, .int .i64 ph, .int .i64 ve, .int .i64 si] 40)).alloc (.cells #[.int .i64 tg] 3)).alloc (.cells #[.int .i64 0, .int .u64 0, .int .i64 0, .int .i64 0, .int .i64 0, .int .i64 0, .int .i64 0, .int .i64 0, .int .i64 0] 40))
  go_enter Tryz.func49, Tryz.ntmps49
  go_upto_region 1 with fail
  generalize (((w.alloc (.cells #[.int .i64 po, .int .u64 ma, .int .i64 ow, .int .i64 ta, .int .i64 ol, .int .i64 ge, .int .i64 ph, .int .i64 ve, .int .i64 si] 40)).alloc (.cells #[.int .i64 tg] 3)).alloc (.cells #[.int .i64 0, .int .u64 0, .int .i64 0, .int .i64 0, .int .i64 0, .int .i64 0, .int .i64 0, .int .i64 0, .int .i64 0] 40)) = w1 at *
  have hd := fun (W : World) (hw : Chg (fun _ => False) w1 W) => do_st po ma ow ta ol ge ph ve si now (ch9 tg) y0 y1 y2 y3 y4 y5 y6 y7 y8 er (w.heap.size + 1) W (fun h W' hc => by
    have := st1_any po ma ow ta ol ge ph ve si tg (w.heap.size + 1) W' (HT0.out.chg (hw.trans hc (fun _ _ e => e)) id) (ok_bounds h).2.2.2.1
    rw [hy] at this
    exact this)
  rw [show fin9 ⟨po, ma, ow, ta, ol, ge, ph, ve, si⟩ now (ch9 tg) (⟨y0, y1, y2, y3, y4, y5, y6, y7, y8⟩, er) = st9 ⟨po, ma, ow, ta, ol, ge, ph, ve, si⟩ tg now from by rw [← hy]; rfl] at hd
  clear hy
  rw [hz] at hd
  have HD : Hid (∀ W, Chg (fun _ => False) w1 W → Calls _ _ _ W (HR9 z0 z1 z2 z3 z4 z5 z6 z7 z8 ze W)) := Lib.hid hd
  clear hd hz
  have hch := fun W => pchas_any tg W
  rw [show withinB 0 15 [tg] = ch9 tg from rfl] at hch
  have HKEEP : Hid (∀ W : World, Chg (fun k => k = (w.heap.size + 1 + 1)) w1 W → (W.cell? ⟨w.heap.size, 0, none⟩ = some (.int .i64 po) ∧ W.cell? ⟨w.heap.size, 1, none⟩ = some (.int .u64 ma) ∧ W.cell? ⟨w.heap.size, 2, none⟩ = some (.int .i64 ow) ∧ W.cell? ⟨w.heap.size, 3, none⟩ = some (.int .i64 ta) ∧ W.cell? ⟨w.heap.size, 4, none⟩ = some (.int .i64 ol) ∧ W.cell? ⟨w.heap.size, 5, none⟩ = some (.int .i64 ge) ∧ W.cell? ⟨w.heap.size, 6, none⟩ = some (.int .i64 ph) ∧ W.cell? ⟨w.heap.size, 7, none⟩ = some (.int .i64 ve) ∧ W.cell? ⟨w.heap.size, 8, none⟩ = some (.int .i64 si) ∧ W.cell? ⟨w.heap.size + 1, 0, none⟩ = some (.int .i64 tg))) := Lib.hid (fun W hw => by
    obtain ⟨x0, x1, x2, x3, x4, x5, x6, x7, x8⟩ := rv_cells (HQ0.out.chg hw (by omega))
    have b0 := Blk.cell (HT0.out.chg hw (by omega)) 0
    simp only [List.getElem?_toArray, List.getElem?_cons_zero] at b0
    exact ⟨x0, x1, x2, x3, x4, x5, x6, x7, x8, b0⟩)
  have hmf : ∀ (fn : Fn) (first cap : Array Value) (w : World), (Instr.makeFunc fn first cap).run Tryz.prog w = .ok (.func fn first cap) w := fun _ _ _ _ => rfl
  have HX := Lib.hid (Chg.refl (fun _ => False) w1).drew
  have HXA := Lib.hid (Chg.refl (fun k => k = (w.heap.size + 1 + 1)) w1).drew
  generalize ch9 tg = cb at *
  have HCH := Lib.hid hch
  clear hch
  go_wp2_with fail
  go_region_held3 (fun w' => w'.cell? ⟨w.heap.size, 0, none⟩ = some (.int .i64 po) ∧ w'.cell? ⟨w.heap.size, 1, none⟩ = some (.int .u64 ma) ∧ w'.cell? ⟨w.heap.size, 2, none⟩ = some (.int .i64 ow) ∧ w'.cell? ⟨w.heap.size, 3, none⟩ = some (.int .i64 ta) ∧ w'.cell? ⟨w.heap.size, 4, none⟩ = some (.int .i64 ol) ∧ w'.cell? ⟨w.heap.size, 5, none⟩ = some (.int .i64 ge) ∧ w'.cell? ⟨w.heap.size, 6, none⟩ = some (.int .i64 ph) ∧ w'.cell? ⟨w.heap.size, 7, none⟩ = some (.int .i64 ve) ∧ w'.cell? ⟨w.heap.size, 8, none⟩ = some (.int .i64 si) ∧ w'.cell? ⟨w.heap.size + 1, 0, none⟩ = some (.int .i64 tg))
    (first | with_reducible exact HKEEP.out _ HXA.out | with_reducible exact HKEEP.out _ HXB.out | with_reducible exact HKEEP.out _ HXC.out | fail)
    (first
      | (go_at_call 71; (with_reducible refine (HCH.out _).mono ?_); rintro e wz ⟨rfl, hwz⟩; subst hwz)
      | (go_at_call 70; (with_reducible refine (HD.out _ HX.out).mono ?_); rintro e wz ⟨rfl, hc⟩; have HX := Lib.hid (HX.out.trans hc (fun _ _ e => e)); have HXB := Lib.hid (HXA.out.trans (hc.mono (S' := fun k => k = (w.heap.size + 1 + 1)) (fun _ _ h => h.elim)) (fun _ _ e => e)); clear hc; replace HX0 := Lib.hid (HX0.out.trans HX.out (fun _ _ e => e)); replace HR0 := Lib.hid (HR0.out.chg HX.out id); obtain ⟨x0, x1, x2, x3, x4, x5, x6, x7, x8⟩ := rv_cells HR0.out; obtain ⟨u0, u1, u2, u3, u4, u5, u6, u7, u8⟩ := rv_free9 HR0.out; obtain ⟨r0, r1, r2, r3, r4, r5, r6, r7, r8, -, hcs⟩ := rv_put9 HR0.out z0 z1 z2 z3 z4 z5 z6 z7 z8; have HXC := Lib.hid (HXB.out.trans hcs (fun _ _ e => e)); have HF := Lib.hid (fresh_set HX0.out hcs (by omega)); have RR := Lib.hid (And.intro r0 (And.intro r1 (And.intro r2 (And.intro r3 (And.intro r4 (And.intro r5 (And.intro r6 (And.intro r7 r8)))))))); clear r0 r1 r2 r3 r4 r5 r6 r7 r8 hcs HR0 HX0)
      | fail)
  all_goals
    go_wp2_with fail
    obtain ⟨r0, r1, r2, r3, r4, r5, r6, r7, r8⟩ := RR.out
    exact bodyPost_ret (v := .tuple #[.agg (rvC z0 z1 z2 z3 z4 z5 z6 z7 z8), .int .i64 ze]) (by simp [results, Tryz.results49, go_sem, rvC, r0, r1, r2, r3, r4, r5, r6, r7, r8]) rfl ⟨rfl, HF.out⟩

set_option maxRecDepth 100000 in
set_option maxHeartbeats 4000000 in
theorem pawa_any (po ma ow ta ol ge ph ve si ch vr now : Int) (w : World) : Calls Tryz.prog 35 #[.agg #[.int .i64 po, .int .u64 ma, .int .i64 ow, .int .i64 ta, .int .i64 ol, .int .i64 ge, .int .i64 ph, .int .i64 ve, .int .i64 si], .int .i64 ch, .int .i64 vr, .int .i64 now] w (HR (aw9 ⟨po, ma, ow, ta, ol, ge, ph, ve, si⟩ ch vr now) w) := by
  obtain ⟨y0, y1, y2, y3, y4, y5, y6, y7, y8, er, hy⟩ := num9 (r := awA ⟨po, ma, ow, ta, ol, ge, ph, ve, si⟩ ch vr)
  obtain ⟨z0, z1, z2, z3, z4, z5, z6, z7, z8, ze, hz⟩ := num9 (r := aw9 ⟨po, ma, ow, ta, ol, ge, ph, ve, si⟩ ch vr now)
  rw [hz]
  have HQ0 : Blk ((((w.alloc (.cells #[.int .i64 po, .int .u64 ma, .int .i64 ow, .int .i64 ta, .int .i64 ol, .int .i64 ge, .int .i64 ph, .int .i64 ve, .int .i64 si] 40)).alloc (.cells #[.int .i64 ch] 3)).alloc (.cells #[.int .i64 vr] 3)).alloc (.cells #[.int .i64 0, .int .u64 0, .int .i64 0, .int .i64 0, .int .i64 0, .int .i64 0, .int .i64 0, .int .i64 0, .int .i64 0] 40)) w.heap.size 40 (rvC po ma ow ta ol ge ph ve si) := (Blk.alloc (Blk.alloc (Blk.alloc (blk_new rfl) _) _) _)
  replace HQ0 := Lib.hid HQ0
  have HR0 : Blk ((((w.alloc (.cells #[.int .i64 po, .int .u64 ma, .int .i64 ow, .int .i64 ta, .int .i64 ol, .int .i64 ge, .int .i64 ph, .int .i64 ve, .int .i64 si] 40)).alloc (.cells #[.int .i64 ch] 3)).alloc (.cells #[.int .i64 vr] 3)).alloc (.cells #[.int .i64 0, .int .u64 0, .int .i64 0, .int .i64 0, .int .i64 0, .int .i64 0, .int .i64 0, .int .i64 0, .int .i64 0] 40)) (w.heap.size + 1 + 1 + 1) 40 (rvC 0 0 0 0 0 0 0 0 0) := (blk_new (by simp))
  replace HR0 := Lib.hid HR0
  have HC0 : Blk ((((w.alloc (.cells #[.int .i64 po, .int .u64 ma, .int .i64 ow, .int .i64 ta, .int .i64 ol, .int .i64 ge, .int .i64 ph, .int .i64 ve, .int .i64 si] 40)).alloc (.cells #[.int .i64 ch] 3)).alloc (.cells #[.int .i64 vr] 3)).alloc (.cells #[.int .i64 0, .int .u64 0, .int .i64 0, .int .i64 0, .int .i64 0, .int .i64 0, .int .i64 0, .int .i64 0, .int .i64 0] 40)) (w.heap.size + 1) 3 #[.int .i64 ch] := (Blk.alloc (Blk.alloc (blk_new (by simp)) _) _)
  replace HC0 := Lib.hid HC0
  have HV0 : Blk ((((w.alloc (.cells #[.int .i64 po, .int .u64 ma, .int .i64 ow, .int .i64 ta, .int .i64 ol, .int .i64 ge, .int .i64 ph, .int .i64 ve, .int .i64 si] 40)).alloc (.cells #[.int .i64 ch] 3)).alloc (.cells #[.int .i64 vr] 3)).alloc (.cells #[.int .i64 0, .int .u64 0, .int .i64 0, .int .i64 0, .int .i64 0, .int .i64 0, .int .i64 0, .int .i64 0, .int .i64 0] 40)) (w.heap.size + 1 + 1) 3 #[.int .i64 vr] := (Blk.alloc (blk_new (by simp)) _)
  replace HV0 := Lib.hid HV0
  have HX0 := Lib.hid (((((Chg.refl (fun _ => False) w).alloc (.cells #[.int .i64 po, .int .u64 ma, .int .i64 ow, .int .i64 ta, .int .i64 ol, .int .i64 ge, .int .i64 ph, .int .i64 ve, .int .i64 si] 40)).alloc (.cells #[.int .i64 ch] 3)).alloc (.cells #[.int .i64 vr] 3)).alloc (.cells #[.int .i64 0, .int .u64 0, .int .i64 0, .int .i64 0, .int .i64 0, .int .i64 0, .int .i64 0, .int .i64 0, .int .i64 0] 40))
  go_enter Tryz.func35, Tryz.ntmps35
  go_upto_region 1 with fail
  generalize ((((w.alloc (.cells #[.int .i64 po, .int .u64 ma, .int .i64 ow, .int .i64 ta, .int .i64 ol, .int .i64 ge, .int .i64 ph, .int .i64 ve, .int .i64 si] 40)).alloc (.cells #[.int .i64 ch] 3)).alloc (.cells #[.int .i64 vr] 3)).alloc (.cells #[.int .i64 0, .int .u64 0, .int .i64 0, .int .i64 0, .int .i64 0, .int .i64 0, .int .i64 0, .int .i64 0, .int .i64 0] 40)) = w1 at *
  have hd := fun (W : World) (hw : Chg (fun _ => False) w1 W) => do_aw po ma ow ta ol ge ph ve si now (ch9 ch) y0 y1 y2 y3 y4 y5 y6 y7 y8 er (w.heap.size + 1 + 1) (w.heap.size + 1) W (fun h W' hc => by
    have := aw1_any po ma ow ta ol ge ph ve si vr ch (w.heap.size + 1 + 1) (w.heap.size + 1) W' (HV0.out.chg (hw.trans hc (fun _ _ e => e)) id) (HC0.out.chg (hw.trans hc (fun _ _ e => e)) id) (ok_bounds h).2.2.2.1
    rw [hy] at this
    exact this)
  rw [show fin9 ⟨po, ma, ow, ta, ol, ge, ph, ve, si⟩ now (ch9 ch) (⟨y0, y1, y2, y3, y4, y5, y6, y7, y8⟩, er) = aw9 ⟨po, ma, ow, ta, ol, ge, ph, ve, si⟩ ch vr now from by rw [← hy]; rfl] at hd
  clear hy
  rw [hz] at hd
  have HD : Hid (∀ W, Chg (fun _ => False) w1 W → Calls _ _ _ W (HR9 z0 z1 z2 z3 z4 z5 z6 z7 z8 ze W)) := Lib.hid hd
  clear hd hz
  have hch := fun W => pchas_any ch W
  rw [show withinB 0 15 [ch] = ch9 ch from rfl] at hch
  have HKEEP : Hid (∀ W : World, Chg (fun k => k = (w.heap.size + 1 + 1 + 1)) w1 W → (W.cell? ⟨w.heap.size, 0, none⟩ = some (.int .i64 po) ∧ W.cell? ⟨w.heap.size, 1, none⟩ = some (.int .u64 ma) ∧ W.cell? ⟨w.heap.size, 2, none⟩ = some (.int .i64 ow) ∧ W.cell? ⟨w.heap.size, 3, none⟩ = some (.int .i64 ta) ∧ W.cell? ⟨w.heap.size, 4, none⟩ = some (.int .i64 ol) ∧ W.cell? ⟨w.heap.size, 5, none⟩ = some (.int .i64 ge) ∧ W.cell? ⟨w.heap.size, 6, none⟩ = some (.int .i64 ph) ∧ W.cell? ⟨w.heap.size, 7, none⟩ = some (.int .i64 ve) ∧ W.cell? ⟨w.heap.size, 8, none⟩ = some (.int .i64 si) ∧ W.cell? ⟨w.heap.size + 1, 0, none⟩ = some (.int .i64 ch) ∧ W.cell? ⟨w.heap.size + 1 + 1, 0, none⟩ = some (.int .i64 vr))) := Lib.hid (fun W hw => by
    obtain ⟨x0, x1, x2, x3, x4, x5, x6, x7, x8⟩ := rv_cells (HQ0.out.chg hw (by omega))
    have b0 := Blk.cell (HC0.out.chg hw (by omega)) 0
    simp only [List.getElem?_toArray, List.getElem?_cons_zero] at b0
    have b1 := Blk.cell (HV0.out.chg hw (by omega)) 0
    simp only [List.getElem?_toArray, List.getElem?_cons_zero] at b1
    exact ⟨x0, x1, x2, x3, x4, x5, x6, x7, x8, b0, b1⟩)
  have hmf : ∀ (fn : Fn) (first cap : Array Value) (w : World), (Instr.makeFunc fn first cap).run Tryz.prog w = .ok (.func fn first cap) w := fun _ _ _ _ => rfl
  have HX := Lib.hid (Chg.refl (fun _ => False) w1).drew
  have HXA := Lib.hid (Chg.refl (fun k => k = (w.heap.size + 1 + 1 + 1)) w1).drew
  generalize ch9 ch = cb at *
  have HCH := Lib.hid hch
  clear hch
  go_wp2_with fail
  go_region_held3 (fun w' => w'.cell? ⟨w.heap.size, 0, none⟩ = some (.int .i64 po) ∧ w'.cell? ⟨w.heap.size, 1, none⟩ = some (.int .u64 ma) ∧ w'.cell? ⟨w.heap.size, 2, none⟩ = some (.int .i64 ow) ∧ w'.cell? ⟨w.heap.size, 3, none⟩ = some (.int .i64 ta) ∧ w'.cell? ⟨w.heap.size, 4, none⟩ = some (.int .i64 ol) ∧ w'.cell? ⟨w.heap.size, 5, none⟩ = some (.int .i64 ge) ∧ w'.cell? ⟨w.heap.size, 6, none⟩ = some (.int .i64 ph) ∧ w'.cell? ⟨w.heap.size, 7, none⟩ = some (.int .i64 ve) ∧ w'.cell? ⟨w.heap.size, 8, none⟩ = some (.int .i64 si) ∧ w'.cell? ⟨w.heap.size + 1, 0, none⟩ = some (.int .i64 ch) ∧ w'.cell? ⟨w.heap.size + 1 + 1, 0, none⟩ = some (.int .i64 vr))
    (first | with_reducible exact HKEEP.out _ HXA.out | with_reducible exact HKEEP.out _ HXB.out | with_reducible exact HKEEP.out _ HXC.out | fail)
    (first
      | (go_at_call 71; (with_reducible refine (HCH.out _).mono ?_); rintro e wz ⟨rfl, hwz⟩; subst hwz)
      | (go_at_call 70; (with_reducible refine (HD.out _ HX.out).mono ?_); rintro e wz ⟨rfl, hc⟩; have HX := Lib.hid (HX.out.trans hc (fun _ _ e => e)); have HXB := Lib.hid (HXA.out.trans (hc.mono (S' := fun k => k = (w.heap.size + 1 + 1 + 1)) (fun _ _ h => h.elim)) (fun _ _ e => e)); clear hc; replace HX0 := Lib.hid (HX0.out.trans HX.out (fun _ _ e => e)); replace HR0 := Lib.hid (HR0.out.chg HX.out id); obtain ⟨x0, x1, x2, x3, x4, x5, x6, x7, x8⟩ := rv_cells HR0.out; obtain ⟨u0, u1, u2, u3, u4, u5, u6, u7, u8⟩ := rv_free9 HR0.out; obtain ⟨r0, r1, r2, r3, r4, r5, r6, r7, r8, -, hcs⟩ := rv_put9 HR0.out z0 z1 z2 z3 z4 z5 z6 z7 z8; have HXC := Lib.hid (HXB.out.trans hcs (fun _ _ e => e)); have HF := Lib.hid (fresh_set HX0.out hcs (by omega)); have RR := Lib.hid (And.intro r0 (And.intro r1 (And.intro r2 (And.intro r3 (And.intro r4 (And.intro r5 (And.intro r6 (And.intro r7 r8)))))))); clear r0 r1 r2 r3 r4 r5 r6 r7 r8 hcs HR0 HX0)
      | fail)
  all_goals
    go_wp2_with fail
    obtain ⟨r0, r1, r2, r3, r4, r5, r6, r7, r8⟩ := RR.out
    exact bodyPost_ret (v := .tuple #[.agg (rvC z0 z1 z2 z3 z4 z5 z6 z7 z8), .int .i64 ze]) (by simp [results, Tryz.results35, go_sem, rvC, r0, r1, r2, r3, r4, r5, r6, r7, r8]) rfl ⟨rfl, HF.out⟩


end Go.Proofs.YtimgnogacanifaaGreat
end

section
namespace Go.Proofs.YtimgnogacanifaaGreat
open Go.RowKit
set_option linter.unusedVariables false
set_option linter.unusedSimpArgs false

set_option maxRecDepth 100000 in
set_option maxHeartbeats 4000000 in
theorem paga_any (po ma ow ta ol ge ph ve si mc no now : Int) (w : World) : Calls Tryz.prog 80 #[.agg #[.int .i64 po, .int .u64 ma, .int .i64 ow, .int .i64 ta, .int .i64 ol, .int .i64 ge, .int .i64 ph, .int .i64 ve, .int .i64 si], .int .u64 mc, .int .i64 no, .int .i64 now] w (HR (ag9 ⟨po, ma, ow, ta, ol, ge, ph, ve, si⟩ mc no now) w) := by
  obtain ⟨y0, y1, y2, y3, y4, y5, y6, y7, y8, er, hy⟩ := num9 (r := agA ⟨po, ma, ow, ta, ol, ge, ph, ve, si⟩ mc no)
  obtain ⟨z0, z1, z2, z3, z4, z5, z6, z7, z8, ze, hz⟩ := num9 (r := ag9 ⟨po, ma, ow, ta, ol, ge, ph, ve, si⟩ mc no now)
  rw [hz]
  have HQ0 : Blk ((((w.alloc (.cells #[.int .i64 po, .int .u64 ma, .int .i64 ow, .int .i64 ta, .int .i64 ol, .int .i64 ge, .int .i64 ph, .int .i64 ve, .int .i64 si] 40)).alloc (.cells #[.int .u64 mc] 31)).alloc (.cells #[.int .i64 no] 3)).alloc (.cells #[.int .i64 0, .int .u64 0, .int .i64 0, .int .i64 0, .int .i64 0, .int .i64 0, .int .i64 0, .int .i64 0, .int .i64 0] 40)) w.heap.size 40 (rvC po ma ow ta ol ge ph ve si) := (Blk.alloc (Blk.alloc (Blk.alloc (blk_new rfl) _) _) _)
  replace HQ0 := Lib.hid HQ0
  have HR0 : Blk ((((w.alloc (.cells #[.int .i64 po, .int .u64 ma, .int .i64 ow, .int .i64 ta, .int .i64 ol, .int .i64 ge, .int .i64 ph, .int .i64 ve, .int .i64 si] 40)).alloc (.cells #[.int .u64 mc] 31)).alloc (.cells #[.int .i64 no] 3)).alloc (.cells #[.int .i64 0, .int .u64 0, .int .i64 0, .int .i64 0, .int .i64 0, .int .i64 0, .int .i64 0, .int .i64 0, .int .i64 0] 40)) (w.heap.size + 1 + 1 + 1) 40 (rvC 0 0 0 0 0 0 0 0 0) := (blk_new (by simp))
  replace HR0 := Lib.hid HR0
  have HM0 : Blk ((((w.alloc (.cells #[.int .i64 po, .int .u64 ma, .int .i64 ow, .int .i64 ta, .int .i64 ol, .int .i64 ge, .int .i64 ph, .int .i64 ve, .int .i64 si] 40)).alloc (.cells #[.int .u64 mc] 31)).alloc (.cells #[.int .i64 no] 3)).alloc (.cells #[.int .i64 0, .int .u64 0, .int .i64 0, .int .i64 0, .int .i64 0, .int .i64 0, .int .i64 0, .int .i64 0, .int .i64 0] 40)) (w.heap.size + 1) 31 #[.int .u64 mc] := (Blk.alloc (Blk.alloc (blk_new (by simp)) _) _)
  replace HM0 := Lib.hid HM0
  have HN0 : Blk ((((w.alloc (.cells #[.int .i64 po, .int .u64 ma, .int .i64 ow, .int .i64 ta, .int .i64 ol, .int .i64 ge, .int .i64 ph, .int .i64 ve, .int .i64 si] 40)).alloc (.cells #[.int .u64 mc] 31)).alloc (.cells #[.int .i64 no] 3)).alloc (.cells #[.int .i64 0, .int .u64 0, .int .i64 0, .int .i64 0, .int .i64 0, .int .i64 0, .int .i64 0, .int .i64 0, .int .i64 0] 40)) (w.heap.size + 1 + 1) 3 #[.int .i64 no] := (Blk.alloc (blk_new (by simp)) _)
  replace HN0 := Lib.hid HN0
  have HX0 := Lib.hid (((((Chg.refl (fun _ => False) w).alloc (.cells #[.int .i64 po, .int .u64 ma, .int .i64 ow, .int .i64 ta, .int .i64 ol, .int .i64 ge, .int .i64 ph, .int .i64 ve, .int .i64 si] 40)).alloc (.cells #[.int .u64 mc] 31)).alloc (.cells #[.int .i64 no] 3)).alloc (.cells #[.int .i64 0, .int .u64 0, .int .i64 0, .int .i64 0, .int .i64 0, .int .i64 0, .int .i64 0, .int .i64 0, .int .i64 0] 40))
  go_enter Tryz.func80, Tryz.ntmps80
  go_upto_region 1 with fail
  generalize ((((w.alloc (.cells #[.int .i64 po, .int .u64 ma, .int .i64 ow, .int .i64 ta, .int .i64 ol, .int .i64 ge, .int .i64 ph, .int .i64 ve, .int .i64 si] 40)).alloc (.cells #[.int .u64 mc] 31)).alloc (.cells #[.int .i64 no] 3)).alloc (.cells #[.int .i64 0, .int .u64 0, .int .i64 0, .int .i64 0, .int .i64 0, .int .i64 0, .int .i64 0, .int .i64 0, .int .i64 0] 40)) = w1 at *
  have hd := fun (W : World) (hw : Chg (fun _ => False) w1 W) => do_ag po ma ow ta ol ge ph ve si now (ch9 no && decide (mc ≤ 281474976710655)) y0 y1 y2 y3 y4 y5 y6 y7 y8 er (w.heap.size + 1) (w.heap.size + 1 + 1) W (fun h W' hc => by
    have := ag1_any po ma ow ta ol ge ph ve si mc no (w.heap.size + 1) (w.heap.size + 1 + 1) W' (HM0.out.chg (hw.trans hc (fun _ _ e => e)) id) (HN0.out.chg (hw.trans hc (fun _ _ e => e)) id) (ok_bounds h).2.2.2.1
    rw [hy] at this
    exact this)
  rw [show fin9 ⟨po, ma, ow, ta, ol, ge, ph, ve, si⟩ now (ch9 no && decide (mc ≤ 281474976710655)) (⟨y0, y1, y2, y3, y4, y5, y6, y7, y8⟩, er) = ag9 ⟨po, ma, ow, ta, ol, ge, ph, ve, si⟩ mc no now from by rw [← hy]; rfl] at hd
  clear hy
  rw [hz] at hd
  have HD : Hid (∀ W, Chg (fun _ => False) w1 W → Calls _ _ _ W (HR9 z0 z1 z2 z3 z4 z5 z6 z7 z8 ze W)) := Lib.hid hd
  clear hd hz
  have hch := fun W => pchas_any no W
  rw [show withinB 0 15 [no] = ch9 no from rfl] at hch
  have HKEEP : Hid (∀ W : World, Chg (fun k => k = (w.heap.size + 1 + 1 + 1)) w1 W → (W.cell? ⟨w.heap.size, 0, none⟩ = some (.int .i64 po) ∧ W.cell? ⟨w.heap.size, 1, none⟩ = some (.int .u64 ma) ∧ W.cell? ⟨w.heap.size, 2, none⟩ = some (.int .i64 ow) ∧ W.cell? ⟨w.heap.size, 3, none⟩ = some (.int .i64 ta) ∧ W.cell? ⟨w.heap.size, 4, none⟩ = some (.int .i64 ol) ∧ W.cell? ⟨w.heap.size, 5, none⟩ = some (.int .i64 ge) ∧ W.cell? ⟨w.heap.size, 6, none⟩ = some (.int .i64 ph) ∧ W.cell? ⟨w.heap.size, 7, none⟩ = some (.int .i64 ve) ∧ W.cell? ⟨w.heap.size, 8, none⟩ = some (.int .i64 si) ∧ W.cell? ⟨w.heap.size + 1, 0, none⟩ = some (.int .u64 mc) ∧ W.cell? ⟨w.heap.size + 1 + 1, 0, none⟩ = some (.int .i64 no))) := Lib.hid (fun W hw => by
    obtain ⟨x0, x1, x2, x3, x4, x5, x6, x7, x8⟩ := rv_cells (HQ0.out.chg hw (by omega))
    have b0 := Blk.cell (HM0.out.chg hw (by omega)) 0
    simp only [List.getElem?_toArray, List.getElem?_cons_zero] at b0
    have b1 := Blk.cell (HN0.out.chg hw (by omega)) 0
    simp only [List.getElem?_toArray, List.getElem?_cons_zero] at b1
    exact ⟨x0, x1, x2, x3, x4, x5, x6, x7, x8, b0, b1⟩)
  have hmf : ∀ (fn : Fn) (first cap : Array Value) (w : World), (Instr.makeFunc fn first cap).run Tryz.prog w = .ok (.func fn first cap) w := fun _ _ _ _ => rfl
  have HX := Lib.hid (Chg.refl (fun _ => False) w1).drew
  have HXA := Lib.hid (Chg.refl (fun k => k = (w.heap.size + 1 + 1 + 1)) w1).drew
  cases hcb : ch9 no with
  | false =>
    rw [hcb] at hch HD
    rw [Bool.false_and] at HD
    have HCH := Lib.hid hch
    clear hch
    have s2 := HKEEP.out _ HXA.out
    go_wp2_with fail
    refine wp_region_noPanic ?_
    refine wp_region_held_drew (S := fun w' => w'.cell? ⟨w.heap.size, 0, none⟩ = some (.int .i64 po) ∧ w'.cell? ⟨w.heap.size, 1, none⟩ = some (.int .u64 ma) ∧ w'.cell? ⟨w.heap.size, 2, none⟩ = some (.int .i64 ow) ∧ w'.cell? ⟨w.heap.size, 3, none⟩ = some (.int .i64 ta) ∧ w'.cell? ⟨w.heap.size, 4, none⟩ = some (.int .i64 ol) ∧ w'.cell? ⟨w.heap.size, 5, none⟩ = some (.int .i64 ge) ∧ w'.cell? ⟨w.heap.size, 6, none⟩ = some (.int .i64 ph) ∧ w'.cell? ⟨w.heap.size, 7, none⟩ = some (.int .i64 ve) ∧ w'.cell? ⟨w.heap.size, 8, none⟩ = some (.int .i64 si) ∧ w'.cell? ⟨w.heap.size + 1, 0, none⟩ = some (.int .u64 mc) ∧ w'.cell? ⟨w.heap.size + 1 + 1, 0, none⟩ = some (.int .i64 no)) (by kernel_rfl) s2 (fun hHeld => ?_)
    refine wpAnyH_take (i := 0) (v := ?_) rfl (by kernel_rfl) (by kernel_rfl) (by kernel_rfl) (fun _ _ _ h => h) (Or.inl ⟨by rfl, ?_⟩) (by assumption) ?_
    rotate_left
    · intro w' hSw
      try dsimp only at hSw
      go_simp
      first | done | (with_reducible rfl)
    try simp only [List.getElem_toArray, List.getElem_cons_succ, List.getElem_cons_zero, Act.put, List.setIfInBounds_toArray, List.set_cons_zero, List.set_cons_succ]
    refine wpAnyH_take (i := 1) (v := ?_) rfl (by kernel_rfl) (by kernel_rfl) (by kernel_rfl) (fun _ _ _ h => h) (Or.inl ⟨by rfl, ?_⟩) (by assumption) ?_
    rotate_left
    · intro w' hSw
      try dsimp only at hSw
      go_simp
      first | done | (with_reducible rfl)
    try simp only [List.getElem_toArray, List.getElem_cons_succ, List.getElem_cons_zero, Act.put, List.setIfInBounds_toArray, List.set_cons_zero, List.set_cons_succ]
    refine wpAnyH_take (i := 2) (v := ?_) rfl (by kernel_rfl) (by kernel_rfl) (by kernel_rfl) (fun _ _ _ h => h) (Or.inl ⟨by rfl, ?_⟩) (by assumption) ?_
    rotate_left
    · intro w' hSw
      try dsimp only at hSw
      go_simp
      first | done | (with_reducible rfl)
    try simp only [List.getElem_toArray, List.getElem_cons_succ, List.getElem_cons_zero, Act.put, List.setIfInBounds_toArray, List.set_cons_zero, List.set_cons_succ]
    refine wpAnyH_take (i := 8) (v := ?_) rfl (by kernel_rfl) (by kernel_rfl) (by kernel_rfl) (fun _ _ _ h => h) (Or.inl ⟨by rfl, ?_⟩) (by assumption) ?_
    rotate_left
    · intro w' hSw
      try dsimp only at hSw
      go_simp
      first | done | (with_reducible rfl)
    try simp only [List.getElem_toArray, List.getElem_cons_succ, List.getElem_cons_zero, Act.put, List.setIfInBounds_toArray, List.set_cons_zero, List.set_cons_succ]
    refine wpAnyH_ready (rs := [3]) (by kernel_rfl) (by simp) ?_
    refine AllReadyH.cons rfl (fun K hK => ?_) AllReadyH.nil
    go_simp
    refine (HCH.out _).mono ?_
    rintro e wz ⟨rfl, hwz⟩
    subst hwz
    go_wp2_with fail
    refine hK.out _ _ s2 (fun hHeld => ?_)
    clear hK K
    try simp only [List.getElem_toArray, List.getElem_cons_succ, List.getElem_cons_zero, Act.put, List.setIfInBounds_toArray, List.set_cons_zero, List.set_cons_succ]
    refine wpAnyH_take (i := 4) (v := ?_) rfl (by kernel_rfl) (by kernel_rfl) (by kernel_rfl) (fun _ _ _ h => h) (Or.inl ⟨by rfl, ?_⟩) (by assumption) ?_
    rotate_left
    · intro w' hSw
      try dsimp only at hSw
      go_simp
      first | done | (with_reducible rfl)
    try simp only [List.getElem_toArray, List.getElem_cons_succ, List.getElem_cons_zero, Act.put, List.setIfInBounds_toArray, List.set_cons_zero, List.set_cons_succ]
    refine wpAnyH_ready (rs := [5]) (by kernel_rfl) (by simp) ?_
    refine AllReadyH.cons rfl (fun K hK => ?_) AllReadyH.nil
    go_simp
    refine hK.out _ _ s2 (fun hHeld => ?_)
    clear hK K
    try simp only [List.getElem_toArray, List.getElem_cons_succ, List.getElem_cons_zero, Act.put, List.setIfInBounds_toArray, List.set_cons_zero, List.set_cons_succ]
    refine wpAnyH_ready (rs := [6]) (by kernel_rfl) (by simp) ?_
    refine AllReadyH.cons rfl (fun K hK => ?_) AllReadyH.nil
    go_simp
    refine hK.out _ _ s2 (fun hHeld => ?_)
    clear hK K
    try simp only [List.getElem_toArray, List.getElem_cons_succ, List.getElem_cons_zero, Act.put, List.setIfInBounds_toArray, List.set_cons_zero, List.set_cons_succ]
    refine wpAnyH_take (i := 7) (v := ?_) rfl (by kernel_rfl) (by kernel_rfl) (by kernel_rfl) (fun _ _ _ h => h) (Or.inl ⟨by rfl, ?_⟩) (by assumption) ?_
    rotate_left
    · intro w' hSw
      try dsimp only at hSw
      go_simp
      first | done | (with_reducible rfl)
    try simp only [List.getElem_toArray, List.getElem_cons_succ, List.getElem_cons_zero, Act.put, List.setIfInBounds_toArray, List.set_cons_zero, List.set_cons_succ]
    refine wpAnyH_ready (rs := [9]) (by kernel_rfl) (by simp) ?_
    refine AllReadyH.cons rfl (fun K hK => ?_) AllReadyH.nil
    go_simp
    refine (HD.out _ HX.out).mono ?_
    rintro e wz ⟨rfl, hc⟩
    have HX := Lib.hid (HX.out.trans hc (fun _ _ e => e))
    have HXB := Lib.hid (HXA.out.trans (hc.mono (S' := fun k => k = (w.heap.size + 1 + 1 + 1)) (fun _ _ h => h.elim)) (fun _ _ e => e))
    have s3 := HKEEP.out _ HXB.out
    clear hc
    replace HX0 := Lib.hid (HX0.out.trans HX.out (fun _ _ e => e))
    replace HR0 := Lib.hid (HR0.out.chg HX.out id)
    obtain ⟨x0, x1, x2, x3, x4, x5, x6, x7, x8⟩ := rv_cells HR0.out
    obtain ⟨u0, u1, u2, u3, u4, u5, u6, u7, u8⟩ := rv_free9 HR0.out
    obtain ⟨r0, r1, r2, r3, r4, r5, r6, r7, r8, -, hcs⟩ := rv_put9 HR0.out z0 z1 z2 z3 z4 z5 z6 z7 z8
    have HXC := Lib.hid (HXB.out.trans hcs (fun _ _ e => e))
    have HF := Lib.hid (fresh_set HX0.out hcs (by omega))
    have RR := Lib.hid (And.intro r0 (And.intro r1 (And.intro r2 (And.intro r3 (And.intro r4 (And.intro r5 (And.intro r6 (And.intro r7 r8))))))))
    clear r0 r1 r2 r3 r4 r5 r6 r7 r8 hcs HR0 HX0
    have s4 := HKEEP.out _ HXC.out
    go_wp2_with fail
    refine hK.out _ _ s3 (fun hHeld => ?_)
    clear hK K
    try simp only [List.getElem_toArray, List.getElem_cons_succ, List.getElem_cons_zero, Act.put, List.setIfInBounds_toArray, List.set_cons_zero, List.set_cons_succ]
    refine wpAnyH_take (i := 10) (v := ?_) rfl (by kernel_rfl) (by kernel_rfl) (by kernel_rfl) (fun _ _ _ h => h) (Or.inl ⟨by rfl, ?_⟩) (by assumption) ?_
    rotate_left
    · intro w' hSw
      try dsimp only at hSw
      go_simp
      first | done | (with_reducible rfl)
    try simp only [List.getElem_toArray, List.getElem_cons_succ, List.getElem_cons_zero, Act.put, List.setIfInBounds_toArray, List.set_cons_zero, List.set_cons_succ]
    refine wpAnyH_take (i := 11) (v := ?_) rfl (by kernel_rfl) (by kernel_rfl) (by kernel_rfl) (fun _ _ _ h => h) (Or.inl ⟨by rfl, ?_⟩) (by assumption) ?_
    rotate_left
    · intro w' hSw
      try dsimp only at hSw
      go_simp
      first | done | (with_reducible rfl)
    try simp only [List.getElem_toArray, List.getElem_cons_succ, List.getElem_cons_zero, Act.put, List.setIfInBounds_toArray, List.set_cons_zero, List.set_cons_succ]
    refine wpAnyH_ready (rs := [12]) (by kernel_rfl) (by simp) ?_
    refine AllReadyH.cons rfl (fun K hK => ?_) AllReadyH.nil
    go_simp
    refine hK.out _ _ s4 (fun hHeld => ?_)
    clear hK K
    try simp only [List.getElem_toArray, List.getElem_cons_succ, List.getElem_cons_zero, Act.put, List.setIfInBounds_toArray, List.set_cons_zero, List.set_cons_succ]
    refine wpAnyH_take (i := 13) (v := ?_) rfl (by kernel_rfl) (by kernel_rfl) (by kernel_rfl) (fun _ _ _ h => h) (Or.inl ⟨by rfl, ?_⟩) (by assumption) ?_
    rotate_left
    · intro w' hSw
      try dsimp only at hSw
      go_simp
      first | done | (with_reducible rfl)
    try simp only [List.getElem_toArray, List.getElem_cons_succ, List.getElem_cons_zero, Act.put, List.setIfInBounds_toArray, List.set_cons_zero, List.set_cons_succ]
    refine wpAnyH_done (by kernel_rfl) ?_ _
    refine NoPanic.normal ?_
    go_wp2_with fail
    obtain ⟨r0, r1, r2, r3, r4, r5, r6, r7, r8⟩ := RR.out
    exact bodyPost_ret (v := .tuple #[.agg (rvC z0 z1 z2 z3 z4 z5 z6 z7 z8), .int .i64 ze]) (by simp [results, Tryz.results80, go_sem, rvC, r0, r1, r2, r3, r4, r5, r6, r7, r8]) rfl ⟨rfl, HF.out⟩
  | true =>
    rw [hcb] at hch HD
    rw [Bool.true_and] at HD
    have HCH := Lib.hid hch
    clear hch
    go_wp2_with fail
    go_region_held3 (fun w' => w'.cell? ⟨w.heap.size, 0, none⟩ = some (.int .i64 po) ∧ w'.cell? ⟨w.heap.size, 1, none⟩ = some (.int .u64 ma) ∧ w'.cell? ⟨w.heap.size, 2, none⟩ = some (.int .i64 ow) ∧ w'.cell? ⟨w.heap.size, 3, none⟩ = some (.int .i64 ta) ∧ w'.cell? ⟨w.heap.size, 4, none⟩ = some (.int .i64 ol) ∧ w'.cell? ⟨w.heap.size, 5, none⟩ = some (.int .i64 ge) ∧ w'.cell? ⟨w.heap.size, 6, none⟩ = some (.int .i64 ph) ∧ w'.cell? ⟨w.heap.size, 7, none⟩ = some (.int .i64 ve) ∧ w'.cell? ⟨w.heap.size, 8, none⟩ = some (.int .i64 si) ∧ w'.cell? ⟨w.heap.size + 1, 0, none⟩ = some (.int .u64 mc) ∧ w'.cell? ⟨w.heap.size + 1 + 1, 0, none⟩ = some (.int .i64 no))
      (first | with_reducible exact HKEEP.out _ HXA.out | with_reducible exact HKEEP.out _ HXB.out | with_reducible exact HKEEP.out _ HXC.out | fail)
      (first
        | (go_at_call 71; (with_reducible refine (HCH.out _).mono ?_); rintro e wz ⟨rfl, hwz⟩; subst hwz)
        | (go_at_call 70; (with_reducible refine (HD.out _ HX.out).mono ?_); rintro e wz ⟨rfl, hc⟩; have HX := Lib.hid (HX.out.trans hc (fun _ _ e => e)); have HXB := Lib.hid (HXA.out.trans (hc.mono (S' := fun k => k = (w.heap.size + 1 + 1 + 1)) (fun _ _ h => h.elim)) (fun _ _ e => e)); clear hc; replace HX0 := Lib.hid (HX0.out.trans HX.out (fun _ _ e => e)); replace HR0 := Lib.hid (HR0.out.chg HX.out id); obtain ⟨x0, x1, x2, x3, x4, x5, x6, x7, x8⟩ := rv_cells HR0.out; obtain ⟨u0, u1, u2, u3, u4, u5, u6, u7, u8⟩ := rv_free9 HR0.out; obtain ⟨r0, r1, r2, r3, r4, r5, r6, r7, r8, -, hcs⟩ := rv_put9 HR0.out z0 z1 z2 z3 z4 z5 z6 z7 z8; have HXC := Lib.hid (HXB.out.trans hcs (fun _ _ e => e)); have HF := Lib.hid (fresh_set HX0.out hcs (by omega)); have RR := Lib.hid (And.intro r0 (And.intro r1 (And.intro r2 (And.intro r3 (And.intro r4 (And.intro r5 (And.intro r6 (And.intro r7 r8)))))))); clear r0 r1 r2 r3 r4 r5 r6 r7 r8 hcs HR0 HX0)
        | fail)
    all_goals
      go_wp2_with fail
      obtain ⟨r0, r1, r2, r3, r4, r5, r6, r7, r8⟩ := RR.out
      exact bodyPost_ret (v := .tuple #[.agg (rvC z0 z1 z2 z3 z4 z5 z6 z7 z8), .int .i64 ze]) (by simp [results, Tryz.results80, go_sem, rvC, r0, r1, r2, r3, r4, r5, r6, r7, r8]) rfl ⟨rfl, HF.out⟩


end Go.Proofs.YtimgnogacanifaaGreat
end
