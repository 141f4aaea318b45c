/-
  What the events ahead told, in memory. Walks: elsewhere, note, fault. Conditions: the past lies in memory; note: it holds no number near the greatest.
-/
import Derived.Test.YtmfgbonlhoffaaaDd
namespace Go.Proofs.Ytmfgbonlhoffaaa
open Go.RowKit
set_option linter.unusedVariables false
set_option linter.unusedSimpArgs false

abbrev ik21 : Int → Value := fun k => Value.int .i64 k
/-- The past: a block of two maps. -/
structure PA (w : World) (p o l : Nat) (fo : Int × Int → Option Int) (fl : Int → Option Int) : Prop where
  b : Blk w p 43 #[.map (some o), .map (some l)]
  om : GM pk21 w o fo
  lm : GM ik21 w l fl
  ne : o ≠ l
section
variable {w w' : World} {p o l : Nat} {fo : Int × Int → Option Int} {fl : Int → Option Int}
theorem PA.chg {S : Nat → Prop} (h : PA w p o l fo fl) (hc : Chg S w w') (hp : ¬ S p) (ho : ¬ S o) (hl : ¬ S l) : PA w' p o l fo fl := ⟨h.b.chg hc hp, h.om.chg hc ho, h.lm.chg hc hl, h.ne⟩
theorem PA.keep (h : PA w p o l fo fl) (hc : Chg (fun _ => False) w w') : PA w' p o l fo fl := h.chg hc id id id
theorem PA.cells (h : PA w p o l fo fl) : w.cell? ⟨p, 0, none⟩ = some (.map (some o)) ∧ w.cell? ⟨p, 1, none⟩ = some (.map (some l)) := by
  have k0 := h.b.cell 0
  have k1 := h.b.cell 1
  simpa using And.intro k0 k1
theorem PA.owner (h : PA w p o l fo fl) (x : Ev) : (Instr.lookup 40 (.map (some o)) (.agg #[.int .i64 x.po, .int .i64 x.ge]) true).run Try.prog w = .ok (.tuple #[.int .i64 ((fo (x.po, x.ge)).getD 0), .bool (fo (x.po, x.ge)).isSome]) w := h.om.look kr21_owners (x.po, x.ge) true
theorem PA.left (h : PA w p o l fo fl) (k : Int) : (Instr.lookup 41 (.map (some l)) (.int .i64 k) false).run Try.prog w = .ok (.int .i64 ((fl k).getD 0)) w := h.lm.look kr21_left k false
theorem PA.put_l (h : PA w p o l fo fl) (k v : Int) : ∃ w', (Instr.mapUpdate 41 (.map (some l)) (.int .i64 k) (.int .i64 v)).run Try.prog w = .ok () w' ∧ PA w' p o l fo (up21 fl k v) ∧ Chg (fun k => k = l) w w' := by
  obtain ⟨w', h1, h2, h3⟩ := h.lm.put kr21_left k v
  exact ⟨w', h1, ⟨h.b.chg h3 (h.lm.ne h.b), h.om.chg h3 h.ne, h2, h.ne⟩, h3⟩
theorem PA.put_o (h : PA w p o l fo fl) (a b v : Int) : ∃ w', (Instr.mapUpdate 40 (.map (some o)) (.agg #[.int .i64 a, .int .i64 b]) (.int .i64 v)).run Try.prog w = .ok () w' ∧ PA w' p o l (up21 fo (a, b) v) fl ∧ Chg (fun k => k = o) w w' := by
  obtain ⟨w', h1, h2, h3⟩ := h.om.put kr21_owners (a, b) v
  exact ⟨w', h1, ⟨h.b.chg h3 (h.om.ne h.b), h2, h.lm.chg h3 (Ne.symm h.ne), h.ne⟩, h3⟩
theorem ev_cells21 {q : Nat} {T : TypeId} {x : Ev} (h : Blk w q T x.cs) : w.cell? ⟨q, 0, none⟩ = some (.int .i64 x.wh) ∧ w.cell? ⟨q, 1, none⟩ = some (.int .i64 x.ti) ∧ w.cell? ⟨q, 2, none⟩ = some (.int .i64 x.ch) ∧ w.cell? ⟨q, 3, none⟩ = some (.int .i64 x.po) ∧ w.cell? ⟨q, 4, none⟩ = some (.int .i64 x.ve) ∧ w.cell? ⟨q, 5, none⟩ = some (.int .i64 x.ki) ∧ w.cell? ⟨q, 6, none⟩ = some (.int .i64 x.id) ∧ w.cell? ⟨q, 7, none⟩ = some (.int .i64 x.og) ∧ w.cell? ⟨q, 8, none⟩ = some (.int .i64 x.fr) ∧ w.cell? ⟨q, 9, none⟩ = some (.int .i64 x.dn) ∧ w.cell? ⟨q, 10, none⟩ = some (.int .i64 x.tg) ∧ w.cell? ⟨q, 11, none⟩ = some (.int .i64 x.ge) ∧ w.cell? ⟨q, 12, none⟩ = some (.int .i64 x.sp) := ⟨h.cell 0, h.cell 1, h.cell 2, h.cell 3, h.cell 4, h.cell 5, h.cell 6, h.cell 7, h.cell 8, h.cell 9, h.cell 10, h.cell 11, h.cell 12⟩
end
/-- Does an event deliver where another chassis did so? -/
def el21 (fo : Int × Int → Option Int) (x : Ev) : Bool := (fo (x.po, x.ge)).isSome && ((fo (x.po, x.ge)).getD 0 != x.ch)
def tl21 (fl : Int → Option Int) (k : Int) : Int := (fl k).getD 0
/-- What is wrong with an event. -/
def ft21 (fo : Int × Int → Option Int) (fl : Int → Option Int) (x : Ev) : Int := if gv21 x && el21 fo x then 1 else if gv21 x && decide (tl21 fl x.id < 0) then 2 else if gv21 x && decide (x.ge < x.sp) then 3 else if lk21 x && as21 x then 4 else if sn21 x && ag21 x then 5 else 0
/-- What the events ahead tell behind an event. -/
def nO21 (fo : Int × Int → Option Int) (x : Ev) : Int × Int → Option Int := if gv21 x then up21 fo (x.po, x.ge) x.ch else fo
def nM21 (fl : Int → Option Int) (x : Ev) : Int → Option Int := if x.wh == 3 then up21 fl x.id (tl21 fl x.id + 1) else fl
def nL21 (fl : Int → Option Int) (x : Ev) : Int → Option Int := if gv21 x then up21 (nM21 fl x) x.id (tl21 (nM21 fl x) x.id - 1) else nM21 fl x
section
variable {w : World} {p o l : Nat} {fo : Int × Int → Option Int} {fl : Int → Option Int}
set_option maxRecDepth 100000 in
set_option maxHeartbeats 4000000 in
theorem elsewhere21_any (h : PA w p o l fo fl) (x : Ev) : Calls Try.prog 18 #[.pointer (some ⟨p, 0, none⟩), .agg x.cs] w (SayB (el21 fo x) w) := by
  have HP0 := Lib.hid (h.keep ((Chg.refl (fun _ => False) w).alloc (.cells x.cs 38)))
  have HX0 := Lib.hid ((Chg.refl (fun _ => False) w).alloc (.cells x.cs 38))
  have HB0 : Hid (Blk (w.alloc (.cells x.cs 38)) w.heap.size 38 x.cs) := Lib.hid (blk_new rfl)
  clear h
  go_enter Try.func18, Try.ntmps18
  go_upto_region 1 with fail
  generalize w.alloc (.cells x.cs 38) = w1 at *
  generalize w.heap.size = q at *
  obtain ⟨y0, y1, y2, y3, y4, y5, y6, y7, y8, y9, y10, y11, y12⟩ := ev_cells21 HB0.out
  obtain ⟨k0, k1⟩ := HP0.out.cells
  have hlk := (show PA w1.drew p o l fo fl from HP0.out.keep (Chg.refl (fun _ => False) w1).drew).owner x
  have HE : Hid (el21 fo x = ((fo (x.po, x.ge)).isSome && ((fo (x.po, x.ge)).getD 0 != x.ch))) := Lib.hid rfl
  generalize (fo (x.po, x.ge)).isSome = s at *
  generalize (fo (x.po, x.ge)).getD 0 = c at *
  go_region
  clear hlk k0 k1 y0 y1 y2 y3 y4 y5 y6 y7 y8 y9 y10 y11 y12
  replace HB0 := Lib.hid (HB0.out.chg (Chg.refl (fun _ => False) w1).drew id)
  replace HX0 := Lib.hid HX0.out.drew
  generalize w1.drew = w2 at *
  obtain ⟨y0, y1, y2, y3, y4, y5, y6, y7, y8, y9, y10, y11, y12⟩ := ev_cells21 HB0.out
  cases s
  · go_wp2_with fail
    go_ret
    exact ⟨by rw [HE.out]; rfl, HX0.out⟩
  · cases e : (c != x.ch)
    · go_wp2_with fail
      go_ret
      exact ⟨by rw [HE.out, e]; rfl, HX0.out⟩
    · go_wp2_with fail
      go_ret
      exact ⟨by rw [HE.out, e]; rfl, HX0.out⟩
end

end Go.Proofs.Ytmfgbonlhoffaaa
