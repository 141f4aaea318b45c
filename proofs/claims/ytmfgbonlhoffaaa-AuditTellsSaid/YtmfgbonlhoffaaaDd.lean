/-
  Events, plain: what is wrong with one, behind others; their cells in memory. Walks: what is asked of an event alone, in the code and in the document. No condition.
-/
import Derived.Test.YtmfgbonlhoffaaaBw
import Derived.Test.YtmfgbonlhoffaaaDc
import Derived.WalkKit
import Derived.WalkSpells
import Derived.WalkLawsBesides
import Derived.RegionTactic
import Derived.ChangeAlike
import Derived.Deep.LoopGhost
import Derived.Lib.SmallJoins
import Derived.Deep.Cut
import Derived.Deep.DeepCutAuto
import Derived.BigQuiet
namespace Go.Proofs.Ytmfgbonlhoffaaa
open Go.RowKit
set_option linter.unusedVariables false
set_option linter.unusedSimpArgs false
set_option linter.unusedSectionVars false

/-- An event. -/
structure Ev where
  wh : Int
  ti : Int
  ch : Int
  po : Int
  ve : Int
  ki : Int
  id : Int
  og : Int
  fr : Int
  dn : Int
  tg : Int
  ge : Int
  sp : Int
def Ev.cs (x : Ev) : Array Value := #[.int .i64 x.wh, .int .i64 x.ti, .int .i64 x.ch, .int .i64 x.po, .int .i64 x.ve, .int .i64 x.ki, .int .i64 x.id, .int .i64 x.og, .int .i64 x.fr, .int .i64 x.dn, .int .i64 x.tg, .int .i64 x.ge, .int .i64 x.sp]
def lk21 (x : Ev) : Bool := x.wh == 1 || x.wh == 2
def gv21 (x : Ev) : Bool := lk21 x && x.dn == 1
def sn21 (x : Ev) : Bool := lk21 x && x.dn == 2
/-- Can what was looked at not have come from where it says? -/
def as21 (x : Ev) : Bool := if x.wh == 1 then (x.og != x.ch || x.fr != x.ch) else (x.og == x.ch || x.fr == x.ch || x.ki != (if x.fr == x.og then 1 else 2))
/-- Was what was sent forwarded already, or does it go to where it was? -/
def ag21 (x : Ev) : Bool := (x.wh == 2 && x.ki == 2) || x.tg == x.ch || x.tg == x.og || x.tg == x.fr
/-- The document's: is it wrong by its way? -/
def rd21 (x : Ev) : Bool := if x.wh == 1 then (x.og != x.ch || x.fr != x.ch) else (x.wh == 2 && (x.og == x.ch || x.fr == x.ch || (x.fr == x.og && x.ki != 1) || (x.fr != x.og && x.ki != 2)))
theorem rd21_eq (x : Ev) : rd21 x = (lk21 x && as21 x) := by
  unfold rd21 as21 lk21
  cases e1 : (x.wh == 1)
  · cases e2 : (x.fr == x.og)
    · have e3 : (x.fr != x.og) = true := by rw [bne, e2]; rfl
      simp [e3]
    · have e3 : (x.fr != x.og) = false := by rw [bne, e2]; rfl
      simp [e3]
  · simp
/-! ### a walk over one event -/
theorem szE21 : (Try.prog.info? 38).map (·.size) = some 13 := by kernel_rfl
theorem szR21 : (Try.prog.info? 47).map (·.size) = some 13 := by kernel_rfl
section
variable {P : Program} {ops : Array Oper} {rest : List Oper} {o : Oper} {a : Act} {Q : Exit → Act → World → Prop} {S : Nat → Prop} {w0 w : World} {q : Nat} {T : TypeId} {cs : Array Value} {post : List (Nat × TypeId × Array Value)}
/-- A struct in a box is read whole, by an operation that is guarded, where it is carried out. -/
theorem st_ldg {ty : TypeId} {x : Operand} {d : TypeDesc} (pre : List (Nat × TypeId × Array Value)) (H : Hid (St S w0 w (pre ++ (q, T, cs) :: post))) (hw : Region.wanted o (yielded ops a.tmps) = true) (ho : o.op = .load ty x) (hx : a.eval x = .pointer (some ⟨q, 0, none⟩)) (hu : P.underlying ty = some d) (hd : (match d with | .struct _ | .array _ _ => true | _ => false) = true) (hi : (P.info? ty).map (·.size) = some cs.size)
    (h : wpList P ops Q rest (a.put o.dst (.agg cs)) w) : wpList P ops Q (o :: rest) a w := by
  refine wpList_step fun K hK => ?_
  rw [if_pos hw]
  have hl := run_loadVar_row (P := P) w q T ty cs (0, 0) _ H.out.at.2 hu hd hi
  unfold Oper.wp execOp
  simp only [ho, hx, Instr.loadAt, Instr.sureAddr, Sem.run_bind, Sem.run_pure, Result.andThen_ok, hl]
  exact hK _ _ h
end
theorem go4 {p : Prop} (h : p := by
  go_in
  go_wp2_with (first
    | ((with_reducible refine wl_ld ?_); first
      | refine st_ld [] H rfl rfl rfl Try.underlying38 rfl szE21 ?_
      | refine st_ld [] H rfl rfl rfl Try.underlying47 rfl szR21 ?_
      | refine st_ldg [] H rfl rfl rfl Try.underlying38 rfl szE21 ?_
      | refine st_lc [] H rfl rfl rfl rfl (fun _ => by kernel_rfl) ?_
      | refine st_lcg [] H rfl rfl rfl rfl (fun _ => by kernel_rfl) ?_
      | refine st_ld [_] H rfl rfl rfl Try.underlying38 rfl szE21 ?_
      | refine st_ld [_] H rfl rfl rfl Try.underlying47 rfl szR21 ?_
      | refine st_ldg [_] H rfl rfl rfl Try.underlying38 rfl szE21 ?_
      | refine st_lc [_] H rfl rfl rfl rfl (fun _ => by kernel_rfl) ?_
      | refine st_lcg [_] H rfl rfl rfl rfl (fun _ => by kernel_rfl) ?_
      | refine st_ld [_, _] H rfl rfl rfl Try.underlying38 rfl szE21 ?_
      | refine st_ld [_, _] H rfl rfl rfl Try.underlying47 rfl szR21 ?_
      | refine st_ldg [_, _] H rfl rfl rfl Try.underlying38 rfl szE21 ?_
      | refine st_lc [_, _] H rfl rfl rfl rfl (fun _ => by kernel_rfl) ?_
      | refine st_lcg [_, _] H rfl rfl rfl rfl (fun _ => by kernel_rfl) ?_)
    | ((with_reducible refine wl_bx ?_); refine st_bx H rfl rfl rfl ?_; intro w2 q H; try simp [go_sem] at H)
    | ((with_reducible refine cl_id ?_); first
      | (refine (C1.out _).mono ?_; rintro e w2 ⟨rfl, hc⟩; first | subst hc | (have H := Lib.hid (H.out.k hc); clear hc))
      | (refine (C2.out _).mono ?_; rintro e w2 ⟨rfl, hc⟩; first | subst hc | (have H := Lib.hid (H.out.k hc); clear hc))
      | (refine (C3.out _).mono ?_; rintro e w2 ⟨rfl, hc⟩; first | subst hc | (have H := Lib.hid (H.out.k hc); clear hc))
      | (refine (C4.out _).mono ?_; rintro e w2 ⟨rfl, hc⟩; first | subst hc | (have H := Lib.hid (H.out.k hc); clear hc))))
  all_goals (go_ret; exact ⟨by first | rfl | (simp [*]; done), H.out.x⟩)) : p := h
/-- What is said of an event. -/
def SayB (b : Bool) (w : World) (e : Ending) (w' : World) : Prop := e = .returned (.bool b) ∧ Chg (fun _ => False) w w'

/-! ### the walks -/
set_option maxRecDepth 100000 in
set_option maxHeartbeats 4000000 in
theorem looks21_any (x : Ev) (w : World) : Calls Try.prog 16 #[.agg x.cs] w (SayB (lk21 x) w) := by
  have H := st_new (fun _ => False) w
  obtain ⟨wh, ti, ch, po, ve, ki, id, og, fr, dn, tg, ge, sp⟩ := x
  unfold lk21
  unfold Ev.cs SayB at *
  cases e1 : (wh == 1)
  · cases e2 : (wh == 2)
    · exact go4
    · exact go4
  · exact go4
set_option maxRecDepth 100000 in
set_option maxHeartbeats 4000000 in
theorem gives21_any (x : Ev) (w : World) : Calls Try.prog 17 #[.agg x.cs] w (SayB (gv21 x) w) := by
  have H := st_new (fun _ => False) w
  obtain ⟨wh, ti, ch, po, ve, ki, id, og, fr, dn, tg, ge, sp⟩ := x
  have c0 := fun W => looks21_any ⟨wh, ti, ch, po, ve, ki, id, og, fr, dn, tg, ge, sp⟩ W
  unfold gv21
  generalize lk21 ⟨wh, ti, ch, po, ve, ki, id, og, fr, dn, tg, ge, sp⟩ = b at *
  unfold Ev.cs SayB at *
  have C1 := Lib.hid c0
  clear c0
  cases e1 : (b)
  · exact go4
  · cases e2 : (dn == 1)
    · exact go4
    · exact go4
set_option maxRecDepth 100000 in
set_option maxHeartbeats 4000000 in
theorem sends21_any (x : Ev) (w : World) : Calls Try.prog 20 #[.agg x.cs] w (SayB (sn21 x) w) := by
  have H := st_new (fun _ => False) w
  obtain ⟨wh, ti, ch, po, ve, ki, id, og, fr, dn, tg, ge, sp⟩ := x
  have c0 := fun W => looks21_any ⟨wh, ti, ch, po, ve, ki, id, og, fr, dn, tg, ge, sp⟩ W
  unfold sn21
  generalize lk21 ⟨wh, ti, ch, po, ve, ki, id, og, fr, dn, tg, ge, sp⟩ = b at *
  unfold Ev.cs SayB at *
  have C1 := Lib.hid c0
  clear c0
  cases e1 : (b)
  · exact go4
  · cases e2 : (dn == 2)
    · exact go4
    · exact go4
set_option maxRecDepth 100000 in
set_option maxHeartbeats 4000000 in
theorem again21_any (x : Ev) (w : World) : Calls Try.prog 21 #[.agg x.cs] w (SayB (ag21 x) w) := by
  have H := st_new (fun _ => False) w
  obtain ⟨wh, ti, ch, po, ve, ki, id, og, fr, dn, tg, ge, sp⟩ := x
  unfold ag21
  unfold Ev.cs SayB at *
  cases e1 : (wh == 2)
  · cases e2 : (tg == ch)
    · cases e3 : (tg == og)
      · cases e4 : (tg == fr)
        · exact go4
        · exact go4
      · exact go4
    · exact go4
  · cases e5 : (ki == 2)
    · cases e6 : (tg == ch)
      · cases e7 : (tg == og)
        · cases e8 : (tg == fr)
          · exact go4
          · exact go4
        · exact go4
      · exact go4
    · exact go4
set_option maxRecDepth 100000 in
set_option maxHeartbeats 4000000 in
theorem astray21_any (x : Ev) (w : World) : Calls Try.prog 19 #[.agg x.cs] w (SayB (as21 x) w) := by
  have H := st_new (fun _ => False) w
  obtain ⟨wh, ti, ch, po, ve, ki, id, og, fr, dn, tg, ge, sp⟩ := x
  unfold as21
  unfold Ev.cs SayB at *
  cases e1 : (wh == 1)
  · cases e2 : (fr == og)
    · cases e3 : (og == ch)
      · cases e4 : (fr == ch)
        · cases e5 : (ki != 2)
          · exact go4
          · exact go4
        · exact go4
      · exact go4
    · cases e6 : (og == ch)
      · cases e7 : (fr == ch)
        · cases e8 : (ki != 1)
          · exact go4
          · exact go4
        · exact go4
      · exact go4
  · cases e9 : (og != ch)
    · cases e10 : (fr != ch)
      · exact go4
      · exact go4
    · exact go4
set_option maxRecDepth 100000 in
set_option maxHeartbeats 4000000 in
theorem rlooks21_1 (x : Ev) (w : World) : Calls Try.prog 22 #[.agg x.cs, .int .i64 1] w (SayB (gv21 x) w) := by
  have H := st_new (fun _ => False) w
  obtain ⟨wh, ti, ch, po, ve, ki, id, og, fr, dn, tg, ge, sp⟩ := x
  unfold gv21 lk21
  unfold Ev.cs SayB at *
  cases e1 : (wh == 1)
  · cases e2 : (wh == 2)
    · exact go4
    · cases e3 : (dn == 1)
      · exact go4
      · exact go4
  · cases e4 : (dn == 1)
    · exact go4
    · exact go4
set_option maxRecDepth 100000 in
set_option maxHeartbeats 4000000 in
theorem rlooks21_2 (x : Ev) (w : World) : Calls Try.prog 22 #[.agg x.cs, .int .i64 2] w (SayB (sn21 x) w) := by
  have H := st_new (fun _ => False) w
  obtain ⟨wh, ti, ch, po, ve, ki, id, og, fr, dn, tg, ge, sp⟩ := x
  unfold sn21 lk21
  unfold Ev.cs SayB at *
  cases e1 : (wh == 1)
  · cases e2 : (wh == 2)
    · exact go4
    · cases e3 : (dn == 2)
      · exact go4
      · exact go4
  · cases e4 : (dn == 2)
    · exact go4
    · exact go4
set_option maxRecDepth 100000 in
set_option maxHeartbeats 4000000 in
theorem round21_any (x : Ev) (w : World) : Calls Try.prog 23 #[.agg x.cs] w (SayB (rd21 x) w) := by
  have H := st_new (fun _ => False) w
  obtain ⟨wh, ti, ch, po, ve, ki, id, og, fr, dn, tg, ge, sp⟩ := x
  unfold rd21
  unfold Ev.cs SayB at *
  cases e1 : (wh == 1)
  · cases e2 : (wh == 2)
    · exact go4
    · cases e3 : (og == ch)
      · cases e4 : (fr == ch)
        · cases e5 : (fr == og)
          · have n1 : (fr != og) = true := by simp_all [bne]
            cases e6 : (ki != 2)
            · exact go4
            · exact go4
          · have n1 : (fr != og) = false := by simp_all [bne]
            cases e7 : (ki != 1)
            · exact go4
            · exact go4
        · exact go4
      · exact go4
  · cases e8 : (og != ch)
    · cases e9 : (fr != ch)
      · exact go4
      · exact go4
    · exact go4
end Go.Proofs.Ytmfgbonlhoffaaa
