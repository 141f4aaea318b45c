/-
  Walk: rutterref06.Bytes. Conditions: the message may be, its numbers are of their types, the records are read in memory.
-/
import Derived.Test.YtalfbijcjghemaaUi
import Derived.Test.YtalfbijcjghemaaVb
namespace Go.Proofs.Ytalfbijcjghemaa
open Go.RowKit
set_option linter.unusedVariables false

/-- Blocks that are no writer's of the document's are as they were. -/
def Kp7 (w w' : World) : Prop := ∀ (q : Nat) (T : TypeId) (cs : Array Value), T ≠ 68 → T ≠ 5 → Blk w q T cs → Blk w' q T cs
/-- The document's writer p, laid since w1: its state. -/
def Rat (w1 : World) (p : Nat) (st : Option (List UInt8)) (N : Nat) (w : World) : Prop :=
  ∃ o, Wr 68 5 w p o st N ∧ Chg (fun _ => False) w1 w ∧ w1.heap.size ≤ p ∧ (∀ k, o = some k → w1.heap.size ≤ k)
section
variable {w1 w w' : World} {p : Nat} {st : Option (List UInt8)} {N : Nat}
theorem Rat.was (h : Rat w1 p st N w) : Chg (fun _ => False) w1 w := by
  obtain ⟨o, _, hc, _⟩ := h
  exact hc
theorem Rat.chg (h : Rat w1 p st N w) (hc : Chg (fun _ => False) w w') : Rat w1 p st N w' := by
  obtain ⟨o, hw, hC, hp, ho⟩ := h
  exact ⟨o, hw.chg hc id (fun _ _ => id), hC.trans hc (fun _ _ e => e), hp, ho⟩
theorem Rat.alloc (h : Rat w1 p st N w) (o : Obj) : Rat w1 p st N (w.alloc o) := h.chg ((Chg.refl _ w).alloc o)
theorem Rat.start (hC : Chg (fun _ => False) w1 w) (hp : w1.heap.size ≤ p) (hb : Blk w p 68 #[.slice none 0 0, .bool false]) : Rat w1 p (some []) 0 w :=
  ⟨none, ⟨[], false, none, 0, ⟨hb, World.ownsRow_nil _ 0 _ 1, rfl, by simp⟩, Nat.le_refl _, rfl, rfl⟩, hC, hp, fun k hk => by cases hk⟩
/-- What the field B shows. -/
theorem Rat.shows {b : List UInt8} (h : Rat w1 p (some b) N w) : ∃ A c, w.cell? ⟨p, 0, none⟩ = some (.slice A b.length c) ∧ w.cell? ⟨p, 1, none⟩ = some (.bool false) ∧ Rds w (fun _ => True) A b.length (bcs b) ∧ (A = none → c = 0) := by
  obtain ⟨o, ⟨bs, f, A, c, hob, _, hf, rfl⟩, _⟩ := h
  subst hf
  have hb : Blk w p 68 #[.slice A b.length c, .bool false] := hob.blk
  have c0 := hb.cell 0
  have c1 := hb.cell 1
  simp only [List.getElem?_toArray, List.getElem?_cons_zero, List.getElem?_cons_succ] at c0 c1
  exact ⟨A, c, c0, c1, (own_rds hob.own).mono (fun _ _ => trivial), own_nil hob.own⟩
end
theorem rat_put (p N : Nat) (n x : Int) (st : Option (List UInt8)) (w1 W : World) (h : Rat w1 p st N W) (hx : x ≤ 9223372036854775807) (hN : N + 8 ≤ 1000000000000) :
    Calls Try.prog 35 #[.pointer (some ⟨p, 0, none⟩), .int .i64 n, .int .i64 x] W fun e w' => e = .returned (.tuple #[]) ∧ Rat w1 p (rput1 n st x) (N + 8) w' ∧ Kp7 W w' := by
  obtain ⟨o, hwr, hC, hp, ho⟩ := h
  have hkeep : ∀ (q : Nat) (T : TypeId) (cs : Array Value), T ≠ 68 → T ≠ 5 → Blk W q T cs → q ≠ p ∧ o ≠ some q := by
    intro q T cs hT1 hT2 hq
    obtain ⟨bs, f, A, c, hob, _⟩ := hwr
    refine ⟨?_, ?_⟩
    · rintro rfl
      have h : Blk W q _ _ := hob.blk
      have h := h.symm.trans hq
      simp only [Option.some.injEq, Obj.cells.injEq] at h
      exact hT1 h.2.1.symm
    · rintro rfl
      have ha := hob.at_
      rcases hob.own.2 with ⟨e, _⟩ | ⟨g, cap, cur, e, _, hh, _⟩
      · injection e with e
        subst e
        cases ha
      · injection e with e
        subst e
        injection ha with ha
        have ha : g = q := ha
        subst ha
        have h := hh.symm.trans hq
        simp only [Option.some.injEq, Obj.cells.injEq] at h
        exact hT2 h.2.1.symm
  refine (rput_any p o st N n x W hwr hx hN).mono fun e w' ⟨he, o', hw', hm'⟩ => ?_
  obtain ⟨h1, h2⟩ := fresh_mvd hC hm' hp ho
  refine ⟨he, ⟨o', hw', h1, hp, h2⟩, fun q' T cs hT1 hT2 hb => hb.chg hm'.1 ?_⟩
  obtain ⟨e1, e2⟩ := hkeep q' T cs hT1 hT2 hb
  rintro (h | h)
  · exact e1 h
  · exact e2 h
theorem rput1_ok (n : Nat) {x : Int} (b : List UInt8) (hn : 1 ≤ n ∧ n ≤ 8) (hf : fits n x = true) : rput1 (n : Int) (some b) x = some (b ++ be n x.toNat) := by
  unfold rput1
  rw [if_pos (by unfold fitsR; rw [Int.toNat_natCast, hf]; simp; omega), Int.toNat_natCast]
  rfl
def rrowP (po ma ow ta ol ge ph ve si : Int) (st : Option (List UInt8)) : Option (List UInt8) := rput1 6 (rput1 6 (rput1 5 (rput1 1 (rput1 1 (rput1 1 (rput1 1 (rput1 6 (rput1 1 st po) ma) (ow + 1)) (ta + 1)) (ol + 1)) ph) ge) ve) si
def rrecP (x : Rc) (st : Option (List UInt8)) : Option (List UInt8) := rput1 6 (rput1 2 (rput1 2 (rput1 4 (rput1 4 (rput1 1 st x.pr) x.sr) x.ds) x.sp) x.dp) x.un
def rrecsP (l : List Rc) (st : Option (List UInt8)) : Option (List UInt8) := l.foldl (fun s x => rrecP x s) st
theorem rrowP_eq {po ma ow ta ol ge ph ve si : Int} (h : rwR po ma ow ta ol ge ph ve si = true) (hm : 0 ≤ ma) (b : List UInt8) : rrowP po ma ow ta ol ge ph ve si (some b) = some (b ++ rowB po ma ow ta ol ge ph ve si) := by
  obtain ⟨h1, h2, h3, h4, h5, h6, h7, h8, h9⟩ := row_parts h
  have e1 := fun b => rput1_ok 1 (x := po) b (by decide) (fits_w6 1 (by omega) (by omega))
  have e2 := fun b => rput1_ok 6 (x := ma) b (by decide) (fits_w6 6 (by omega) (by omega))
  have e3 := fun b => rput1_ok 1 (x := ow + 1) b (by decide) (fits_w6 1 (by omega) (by omega))
  have e4 := fun b => rput1_ok 1 (x := ta + 1) b (by decide) (fits_w6 1 (by omega) (by omega))
  have e5 := fun b => rput1_ok 1 (x := ol + 1) b (by decide) (fits_w6 1 (by omega) (by omega))
  have e6 := fun b => rput1_ok 1 (x := ph) b (by decide) (fits_w6 1 (by omega) (by omega))
  have e7 := fun b => rput1_ok 5 (x := ge) b (by decide) (fits_w6 5 (by omega) (by omega))
  have e8 := fun b => rput1_ok 6 (x := ve) b (by decide) (fits_w6 6 (by omega) (by omega))
  have e9 := fun b => rput1_ok 6 (x := si) b (by decide) (fits_w6 6 (by omega) (by omega))
  have n1 : ((1 : Nat) : Int) = 1 := rfl
  have n5 : ((5 : Nat) : Int) = 5 := rfl
  have n6 : ((6 : Nat) : Int) = 6 := rfl
  rw [n1] at e1 e3 e4 e5 e6
  rw [n5] at e7
  rw [n6] at e2 e8 e9
  unfold rrowP
  rw [e1, e2, e3, e4, e5, e6, e7, e8, e9]
  simp [rowB]
theorem rrecP_eq {x : Rc} (h : rcR x = true) (hn : RcN x) (b : List UInt8) : rrecP x (some b) = some (b ++ recB x) := by
  obtain ⟨h1, h2, h3, h4⟩ := rec_parts h
  obtain ⟨h5, h6⟩ := hn
  have e1 := fun b => rput1_ok 1 (x := x.pr) b (by decide) (fits_w6 1 (by omega) (by omega))
  have e2 := fun b => rput1_ok 4 (x := x.sr) b (by decide) (fits_w6 4 (by omega) (by omega))
  have e3 := fun b => rput1_ok 4 (x := x.ds) b (by decide) (fits_w6 4 (by omega) (by omega))
  have e4 := fun b => rput1_ok 2 (x := x.sp) b (by decide) (fits_w6 2 (by omega) (by omega))
  have e5 := fun b => rput1_ok 2 (x := x.dp) b (by decide) (fits_w6 2 (by omega) (by omega))
  have e6 := fun b => rput1_ok 6 (x := x.un) b (by decide) (fits_w6 6 (by omega) (by omega))
  have n1 : ((1 : Nat) : Int) = 1 := rfl
  have n2 : ((2 : Nat) : Int) = 2 := rfl
  have n4 : ((4 : Nat) : Int) = 4 := rfl
  have n6 : ((6 : Nat) : Int) = 6 := rfl
  rw [n1] at e1
  rw [n4] at e2 e3
  rw [n2] at e4 e5
  rw [n6] at e6
  unfold rrecP
  rw [e1, e2, e3, e4, e5, e6]
  simp [recB]
theorem rrecsP_eq : ∀ {l : List Rc} (h : l.all rcR = true) (hn : ∀ x ∈ l, RcN x) (b : List UInt8), rrecsP l (some b) = some (b ++ recsB l)
  | [], _, _, b => by simp [rrecsP, recsB]
  | x :: r, h, hn, b => by
    simp only [List.all_cons, Bool.and_eq_true] at h
    have e := rrecsP_eq (l := r) h.2 (fun y hy => hn y (by simp [hy])) (b ++ recB x)
    have e2 := rrecP_eq h.1 (hn x (by simp)) b
    unfold rrecsP at e ⊢
    rw [List.foldl_cons, e2, e]
    simp [recsB]
theorem rrecsP_take {l : List Rc} {k : Nat} {x : Rc} (h : l[k]? = some x) (st : Option (List UInt8)) : rrecsP (l.take (k + 1)) st = rrecP x (rrecsP (l.take k) st) := by
  obtain ⟨hk, rfl⟩ := List.getElem?_eq_some_iff.1 h
  unfold rrecsP
  rw [List.take_succ_eq_append_getElem hk, List.foldl_append]
  rfl
theorem rrecsP_zero (l : List Rc) (st : Option (List UInt8)) : rrecsP (l.take 0) st = st := rfl
theorem rput1_one (n x : Int) (b : List UInt8) (hn : 1 ≤ n ∧ n ≤ 8) (hf : fits n.toNat x = true) : rput1 n (some b) x = some (b ++ be n.toNat x.toNat) := by
  unfold rput1
  rw [if_pos (by unfold fitsR; rw [hf]; simp; omega)]
  rfl
theorem rst_one (po ma ow ta ol ge ph ve si : Int) (h : rwR po ma ow ta ol ge ph ve si = true) (hm : 0 ≤ ma) (pt vr : Int) (l : List Rc) : rrowP po ma ow ta ol ge ph ve si (rput1 1 (some []) 1) = some (msB 1 po ma ow ta ol ge ph ve si pt vr l) := by
  rw [rput1_one 1 1 [] (by decide) (by decide), rrowP_eq h hm]
  rfl
theorem rst_two (po ma ow ta ol ge ph ve si pt vr : Int) (h : namedB pt vr = true) (l : List Rc) (hl : l = []) : rrecsP l (rput1 6 (rput1 1 (rput1 1 (some []) 2) pt) vr) = some (msB 2 po ma ow ta ol ge ph ve si pt vr l) := by
  obtain ⟨h1, h2⟩ := named_parts h
  subst hl
  rw [rput1_one 1 2 [] (by decide) (by decide), rput1_one 1 pt _ (by decide) (fits_w6 1 (by omega) (by omega)), rput1_one 6 vr _ (by decide) (fits_w6 6 (by omega) (by omega))]
  simp [msB, rrecsP]
theorem rst_three (po ma ow ta ol ge ph ve si pt vr : Int) (h : namedB pt vr = true) (l : List Rc) (hl : l.length ≤ 16) (ha : l.all rcR = true) (hn : ∀ x ∈ l, RcN x) :
    rrecsP l (rput1 1 (rput1 6 (rput1 1 (rput1 1 (some []) 3) pt) vr) (l.length : Int)) = some (msB 3 po ma ow ta ol ge ph ve si pt vr l) := by
  obtain ⟨h1, h2⟩ := named_parts h
  rw [rput1_one 1 3 [] (by decide) (by decide), rput1_one 1 pt _ (by decide) (fits_w6 1 (by omega) (by omega)), rput1_one 6 vr _ (by decide) (fits_w6 6 (by omega) (by omega)), rput1_one 1 (l.length : Int) _ (by decide) (fits_w6 1 (by omega) (by omega)), rrecsP_eq ha hn]
  simp [msB]

/-- What the document's bytes are, in letters. -/
def Bt (m : List UInt8) (w : World) (e : Ending) (w' : World) : Prop := ∃ E d, e = .returned (.slice E m.length d) ∧ Rds w' (fun _ => True) E m.length (bcs m) ∧ (E = none → d = 0) ∧ Chg (fun _ => False) w w'
set_option maxHeartbeats 8000000 in
theorem rbytes6_1 (po ma ow ta ol ge ph ve si pt vr : Int) (A : Option Addr) (n c : Nat) (l : List Rc) (S : Nat → Prop) (w : World) (h : RcR w S A n l) (hn2 : n ≤ 9223372036854775807) (hrw : rwR po ma ow ta ol ge ph ve si = true) (hm : 0 ≤ ma) :
    Calls Try.prog 15 #[.agg (msC 1 po ma ow ta ol ge ph ve si pt vr A n c)] w (Bt (msB 1 po ma ow ta ol ge ph ve si pt vr l) w) := by
  have HST := Lib.hid (rst_one po ma ow ta ol ge ph ve si hrw hm pt vr l)
  obtain ⟨h1, h2, h3, h4, h5, h6, h7, h8, h9⟩ := row_parts hrw
  have a1 : IntKind.i64.wrap ma = ma := i64_wrap (by omega)
  have a2 : IntKind.i64.wrap (ow + 1) = ow + 1 := i64_wrap (by omega)
  have a3 : IntKind.i64.wrap (ta + 1) = ta + 1 := i64_wrap (by omega)
  have a4 : IntKind.i64.wrap (ol + 1) = ol + 1 := i64_wrap (by omega)
  clear hrw
  have HQ : Hid (Blk ((w.alloc (.cells #[.int .i64 1, .int .i64 po, .int .u64 ma, .int .i64 ow, .int .i64 ta, .int .i64 ol, .int .i64 ge, .int .i64 ph, .int .i64 ve, .int .i64 si, .int .i64 pt, .int .i64 vr, .slice A n c] 28)).alloc (.cells #[.slice none 0 0, .bool false] 68)) w.heap.size 28 (msC 1 po ma ow ta ol ge ph ve si pt vr A n c)) := Lib.hid ((blk_new rfl).alloc _)
  have HW : Hid (Rat w (w.heap.size + 1) (some []) 0 ((w.alloc (.cells #[.int .i64 1, .int .i64 po, .int .u64 ma, .int .i64 ow, .int .i64 ta, .int .i64 ol, .int .i64 ge, .int .i64 ph, .int .i64 ve, .int .i64 si, .int .i64 pt, .int .i64 vr, .slice A n c] 28)).alloc (.cells #[.slice none 0 0, .bool false] 68))) := Lib.hid (Rat.start (((Chg.refl _ _).alloc _).alloc _) (Nat.le_succ _) (blk_new (by simp)))
  have HH := Lib.hid h
  have HL := Lib.hid h.1
  clear h
  unfold msC
  generalize hpp : w.heap.size + 1 = pp at HW
  go_enter Try.func15, Try.ntmps15
  go_upto_region 2 with fail
  generalize ((w.alloc (.cells #[.int .i64 1, .int .i64 po, .int .u64 ma, .int .i64 ow, .int .i64 ta, .int .i64 ol, .int .i64 ge, .int .i64 ph, .int .i64 ve, .int .i64 si, .int .i64 pt, .int .i64 vr, .slice A n c] 28)).alloc (.cells #[.slice none 0 0, .bool false] 68)) = W0 at *
  have HPP := Lib.hid hpp
  clear hpp
  obtain ⟨y0, y1, y2, y3, y4, y5, y6, y7, y8, y9, y10, y11, y12⟩ := ms_cells HQ.out
  have HP := Lib.hid (rat_put pp _ 1 1 _ w _ HW.out (by omega) (by omega))
  go_wp2_with fail
  refine HP.out.mono ?_
  rintro e v0 ⟨rfl, hw', hk'⟩
  replace HW := Lib.hid hw'
  replace HQ := Lib.hid (hk' _ _ _ (by decide) (by decide) HQ.out)
  clear hw' hk' HP y0 y1 y2 y3 y4 y5 y6 y7 y8 y9 y10 y11 y12
  obtain ⟨y0, y1, y2, y3, y4, y5, y6, y7, y8, y9, y10, y11, y12⟩ := ms_cells HQ.out
  have HB : Hid (Blk (v0.alloc (.cells #[.int .i64 po, .int .u64 ma, .int .i64 ow, .int .i64 ta, .int .i64 ol, .int .i64 ge, .int .i64 ph, .int .i64 ve, .int .i64 si] 25)) v0.heap.size 25 (rvC po ma ow ta ol ge ph ve si)) := Lib.hid (blk_new rfl)
  replace HW := Lib.hid (HW.out.alloc (.cells #[.int .i64 po, .int .u64 ma, .int .i64 ow, .int .i64 ta, .int .i64 ol, .int .i64 ge, .int .i64 ph, .int .i64 ve, .int .i64 si] 25))
  clear HQ
  have HP := Lib.hid (rat_put pp _ 1 po _ w _ HW.out (by omega) (by omega))
  go_wp2_with fail
  refine HP.out.mono ?_
  rintro e v1 ⟨rfl, hw', hk'⟩
  replace HW := Lib.hid hw'
  replace HB := Lib.hid (hk' _ _ _ (by decide) (by decide) HB.out)
  clear hw' hk' HP y0 y1 y2 y3 y4 y5 y6 y7 y8 y9 y10 y11 y12
  obtain ⟨z0, z1, z2, z3, z4, z5, z6, z7, z8⟩ := rv_cells HB.out
  have HP := Lib.hid (rat_put pp _ 6 ma _ w _ HW.out (by omega) (by omega))
  go_wp2_with fail
  refine HP.out.mono ?_
  rintro e v2 ⟨rfl, hw', hk'⟩
  replace HW := Lib.hid hw'
  replace HB := Lib.hid (hk' _ _ _ (by decide) (by decide) HB.out)
  clear hw' hk' HP z0 z1 z2 z3 z4 z5 z6 z7 z8
  obtain ⟨z0, z1, z2, z3, z4, z5, z6, z7, z8⟩ := rv_cells HB.out
  have HP := Lib.hid (rat_put pp _ 1 (ow + 1) _ w _ HW.out (by omega) (by omega))
  go_wp2_with fail
  refine HP.out.mono ?_
  rintro e v3 ⟨rfl, hw', hk'⟩
  replace HW := Lib.hid hw'
  replace HB := Lib.hid (hk' _ _ _ (by decide) (by decide) HB.out)
  clear hw' hk' HP z0 z1 z2 z3 z4 z5 z6 z7 z8
  obtain ⟨z0, z1, z2, z3, z4, z5, z6, z7, z8⟩ := rv_cells HB.out
  have HP := Lib.hid (rat_put pp _ 1 (ta + 1) _ w _ HW.out (by omega) (by omega))
  go_wp2_with fail
  refine HP.out.mono ?_
  rintro e v4 ⟨rfl, hw', hk'⟩
  replace HW := Lib.hid hw'
  replace HB := Lib.hid (hk' _ _ _ (by decide) (by decide) HB.out)
  clear hw' hk' HP z0 z1 z2 z3 z4 z5 z6 z7 z8
  obtain ⟨z0, z1, z2, z3, z4, z5, z6, z7, z8⟩ := rv_cells HB.out
  have HP := Lib.hid (rat_put pp _ 1 (ol + 1) _ w _ HW.out (by omega) (by omega))
  go_wp2_with fail
  refine HP.out.mono ?_
  rintro e v5 ⟨rfl, hw', hk'⟩
  replace HW := Lib.hid hw'
  replace HB := Lib.hid (hk' _ _ _ (by decide) (by decide) HB.out)
  clear hw' hk' HP z0 z1 z2 z3 z4 z5 z6 z7 z8
  obtain ⟨z0, z1, z2, z3, z4, z5, z6, z7, z8⟩ := rv_cells HB.out
  have HP := Lib.hid (rat_put pp _ 1 ph _ w _ HW.out (by omega) (by omega))
  go_wp2_with fail
  refine HP.out.mono ?_
  rintro e v6 ⟨rfl, hw', hk'⟩
  replace HW := Lib.hid hw'
  replace HB := Lib.hid (hk' _ _ _ (by decide) (by decide) HB.out)
  clear hw' hk' HP z0 z1 z2 z3 z4 z5 z6 z7 z8
  obtain ⟨z0, z1, z2, z3, z4, z5, z6, z7, z8⟩ := rv_cells HB.out
  have HP := Lib.hid (rat_put pp _ 5 ge _ w _ HW.out (by omega) (by omega))
  go_wp2_with fail
  refine HP.out.mono ?_
  rintro e v7 ⟨rfl, hw', hk'⟩
  replace HW := Lib.hid hw'
  replace HB := Lib.hid (hk' _ _ _ (by decide) (by decide) HB.out)
  clear hw' hk' HP z0 z1 z2 z3 z4 z5 z6 z7 z8
  obtain ⟨z0, z1, z2, z3, z4, z5, z6, z7, z8⟩ := rv_cells HB.out
  have HP := Lib.hid (rat_put pp _ 6 ve _ w _ HW.out (by omega) (by omega))
  go_wp2_with fail
  refine HP.out.mono ?_
  rintro e v8 ⟨rfl, hw', hk'⟩
  replace HW := Lib.hid hw'
  replace HB := Lib.hid (hk' _ _ _ (by decide) (by decide) HB.out)
  clear hw' hk' HP z0 z1 z2 z3 z4 z5 z6 z7 z8
  obtain ⟨z0, z1, z2, z3, z4, z5, z6, z7, z8⟩ := rv_cells HB.out
  have HP := Lib.hid (rat_put pp _ 6 si _ w _ HW.out (by omega) (by omega))
  go_wp2_with fail
  refine HP.out.mono ?_
  rintro e v9 ⟨rfl, hw', hk'⟩
  replace HW := Lib.hid hw'
  replace HB := Lib.hid (hk' _ _ _ (by decide) (by decide) HB.out)
  clear hw' hk' HP z0 z1 z2 z3 z4 z5 z6 z7 z8
  obtain ⟨z0, z1, z2, z3, z4, z5, z6, z7, z8⟩ := rv_cells HB.out
  have hw : Rat w pp (rrowP po ma ow ta ol ge ph ve si (rput1 1 (some []) 1)) 80 v9 := HW.out
  rw [HST.out] at hw
  replace HW := Lib.hid hw
  clear hw z0 z1 z2 z3 z4 z5 z6 z7 z8
  obtain ⟨E, d, x0, x1, hrd, hnil⟩ := HW.out.shows
  have HRD := Lib.hid hrd
  clear hrd
  go_wp2_with fail
  go_ret
  exact ⟨E, d, rfl, HRD.out, hnil, HW.out.was⟩

set_option maxHeartbeats 8000000 in
theorem rbytes6_2 (po ma ow ta ol ge ph ve si pt vr : Int) (A : Option Addr) (n c : Nat) (l : List Rc) (S : Nat → Prop) (w : World) (h : RcR w S A n l) (hn2 : n ≤ 9223372036854775807) (hnb : namedB pt vr = true) (hl : l = []) :
    Calls Try.prog 15 #[.agg (msC 2 po ma ow ta ol ge ph ve si pt vr A n c)] w (Bt (msB 2 po ma ow ta ol ge ph ve si pt vr l) w) := by
  have HST := Lib.hid (rst_two po ma ow ta ol ge ph ve si pt vr hnb l hl)
  obtain ⟨hb1, hb2⟩ := named_parts hnb
  have HALL : Hid (l.all rcR = true) := Lib.hid (by rw [hl]; rfl)
  have HN : Hid (∀ x ∈ l, RcN x) := Lib.hid (by rw [hl]; simp)
  have hn0 : n ≤ 16 := by rw [h.1, hl]; decide
  clear hl
  have HQ : Hid (Blk ((w.alloc (.cells #[.int .i64 2, .int .i64 po, .int .u64 ma, .int .i64 ow, .int .i64 ta, .int .i64 ol, .int .i64 ge, .int .i64 ph, .int .i64 ve, .int .i64 si, .int .i64 pt, .int .i64 vr, .slice A n c] 28)).alloc (.cells #[.slice none 0 0, .bool false] 68)) w.heap.size 28 (msC 2 po ma ow ta ol ge ph ve si pt vr A n c)) := Lib.hid ((blk_new rfl).alloc _)
  have HW : Hid (Rat w (w.heap.size + 1) (some []) 0 ((w.alloc (.cells #[.int .i64 2, .int .i64 po, .int .u64 ma, .int .i64 ow, .int .i64 ta, .int .i64 ol, .int .i64 ge, .int .i64 ph, .int .i64 ve, .int .i64 si, .int .i64 pt, .int .i64 vr, .slice A n c] 28)).alloc (.cells #[.slice none 0 0, .bool false] 68))) := Lib.hid (Rat.start (((Chg.refl _ _).alloc _).alloc _) (Nat.le_succ _) (blk_new (by simp)))
  have HH := Lib.hid h
  have HL := Lib.hid h.1
  clear h
  unfold msC
  generalize hpp : w.heap.size + 1 = pp at HW
  go_enter Try.func15, Try.ntmps15
  go_upto_region 2 with fail
  generalize ((w.alloc (.cells #[.int .i64 2, .int .i64 po, .int .u64 ma, .int .i64 ow, .int .i64 ta, .int .i64 ol, .int .i64 ge, .int .i64 ph, .int .i64 ve, .int .i64 si, .int .i64 pt, .int .i64 vr, .slice A n c] 28)).alloc (.cells #[.slice none 0 0, .bool false] 68)) = W0 at *
  have HPP := Lib.hid hpp
  clear hpp
  obtain ⟨y0, y1, y2, y3, y4, y5, y6, y7, y8, y9, y10, y11, y12⟩ := ms_cells HQ.out
  have HP := Lib.hid (rat_put pp _ 1 2 _ w _ HW.out (by omega) (by omega))
  go_wp2_with fail
  refine HP.out.mono ?_
  rintro e v0 ⟨rfl, hw', hk'⟩
  replace HW := Lib.hid hw'
  replace HQ := Lib.hid (hk' _ _ _ (by decide) (by decide) HQ.out)
  clear hw' hk' HP y0 y1 y2 y3 y4 y5 y6 y7 y8 y9 y10 y11 y12
  obtain ⟨y0, y1, y2, y3, y4, y5, y6, y7, y8, y9, y10, y11, y12⟩ := ms_cells HQ.out
  have HP := Lib.hid (rat_put pp _ 1 pt _ w _ HW.out (by omega) (by omega))
  go_wp2_with fail
  refine HP.out.mono ?_
  rintro e v1 ⟨rfl, hw', hk'⟩
  replace HW := Lib.hid hw'
  replace HQ := Lib.hid (hk' _ _ _ (by decide) (by decide) HQ.out)
  clear hw' hk' HP y0 y1 y2 y3 y4 y5 y6 y7 y8 y9 y10 y11 y12
  obtain ⟨y0, y1, y2, y3, y4, y5, y6, y7, y8, y9, y10, y11, y12⟩ := ms_cells HQ.out
  have HP := Lib.hid (rat_put pp _ 6 vr _ w _ HW.out (by omega) (by omega))
  go_wp2_with fail
  refine HP.out.mono ?_
  rintro e v2 ⟨rfl, hw', hk'⟩
  replace HW := Lib.hid hw'
  replace HQ := Lib.hid (hk' _ _ _ (by decide) (by decide) HQ.out)
  clear hw' hk' HP y0 y1 y2 y3 y4 y5 y6 y7 y8 y9 y10 y11 y12
  obtain ⟨y0, y1, y2, y3, y4, y5, y6, y7, y8, y9, y10, y11, y12⟩ := ms_cells HQ.out
  have HW1 : Hid (Rat w pp (rrecsP (l.take 0) (rput1 6 (rput1 1 (rput1 1 (some []) 2) pt) vr)) (24 + 48 * 0) v2) := Lib.hid (by rw [rrecsP_zero]; exact HW.out)
  clear HW
  have HM := Lib.hid HQ.out
  go_wp2_with fail
  clear y0 y1 y2 y3 y4 y5 y6 y7 y8 y9 y10 y11 y12
  go_loopg [5, 6] n (fun g i s6 wr => ∃ j : Nat, g = n - j ∧ j ≤ n ∧ i = .int .i64 (j : Int) ∧ Hid (Rat w pp (rrecsP (l.take j) (rput1 6 (rput1 1 (rput1 1 (some []) 2) pt) vr)) (24 + 48 * j) wr) ∧ Hid (Blk wr w.heap.size 28 (msC 2 po ma ow ta ol ge ph ve si pt vr A n c)))
  case atStart => exact ⟨0, rfl, Nat.zero_le _, rfl, HW1, HQ⟩
  case round =>
    obtain ⟨j, rfl, hj, rfl, HW, HQ⟩ := hrel
    obtain ⟨y0, y1, y2, y3, y4, y5, y6, y7, y8, y9, y10, y11, y12⟩ := ms_cells HQ.out
    by_cases hlt : j < n
    · have hh := HH.out.chg HW.out.was (fun _ _ => id)
      obtain ⟨ad, rfl, _, _, _⟩ := hh.2 (by omega)
      have hjl : j < l.length := by have := HL.out; omega
      have hx : l[j]? = some l[j] := List.getElem?_eq_getElem hjl
      generalize l[j] = x at *
      obtain ⟨z0, z1, z2, z3, z4, z5⟩ := hh.at hx
      have HX := Lib.hid hx
      have hxr : rcR x = true := List.all_eq_true.1 HALL.out x (List.mem_of_getElem? hx)
      have hxn := HN.out x (List.mem_of_getElem? hx)
      obtain ⟨hp1, hp2, hp3, hp4⟩ := rec_parts hxr
      obtain ⟨hp5, hp6⟩ := hxn
      clear hx hh hxr
      obtain ⟨pr, sr, ds, sp, dp, un⟩ := x
      dsimp only at z0 z1 z2 z3 z4 z5 hp1 hp2 hp3 hp4 hp5 hp6
      have a1 : IntKind.i64.wrap sr = sr := i64_wrap (by omega)
      have a2 : IntKind.i64.wrap ds = ds := i64_wrap (by omega)
      have HB : Hid (Blk (wr.alloc (.cells #[.int .i64 pr, .int .u32 sr, .int .u32 ds, .int .i64 sp, .int .i64 dp, .int .i64 un] 46)) wr.heap.size 46 (rcC pr sr ds sp dp un)) := Lib.hid (blk_new rfl)
      replace HW := Lib.hid (HW.out.alloc (.cells #[.int .i64 pr, .int .u32 sr, .int .u32 ds, .int .i64 sp, .int .i64 dp, .int .i64 un] 46))
      replace HQ := Lib.hid (HQ.out.alloc (.cells #[.int .i64 pr, .int .u32 sr, .int .u32 ds, .int .i64 sp, .int .i64 dp, .int .i64 un] 46))
      have HP := Lib.hid (rat_put pp _ 1 pr _ w _ HW.out (by omega) (by omega))
      go_wp2_with fail
      refine HP.out.mono ?_
      rintro e u1 ⟨rfl, hw', hk'⟩
      replace HW := Lib.hid hw'
      replace HB := Lib.hid (hk' _ _ _ (by decide) (by decide) HB.out)
      replace HQ := Lib.hid (hk' _ _ _ (by decide) (by decide) HQ.out)
      clear hw' hk' HP y0 y1 y2 y3 y4 y5 y6 y7 y8 y9 y10 y11 y12
      obtain ⟨x0, x1, x2, x3, x4, x5⟩ := rc_cells HB.out
      obtain ⟨y0, y1, y2, y3, y4, y5, y6, y7, y8, y9, y10, y11, y12⟩ := ms_cells HQ.out
      have HP := Lib.hid (rat_put pp _ 4 sr _ w _ HW.out (by omega) (by omega))
      go_wp2_with fail
      refine HP.out.mono ?_
      rintro e u2 ⟨rfl, hw', hk'⟩
      replace HW := Lib.hid hw'
      replace HB := Lib.hid (hk' _ _ _ (by decide) (by decide) HB.out)
      replace HQ := Lib.hid (hk' _ _ _ (by decide) (by decide) HQ.out)
      clear hw' hk' HP x0 x1 x2 x3 x4 x5 y0 y1 y2 y3 y4 y5 y6 y7 y8 y9 y10 y11 y12
      obtain ⟨x0, x1, x2, x3, x4, x5⟩ := rc_cells HB.out
      obtain ⟨y0, y1, y2, y3, y4, y5, y6, y7, y8, y9, y10, y11, y12⟩ := ms_cells HQ.out
      have HP := Lib.hid (rat_put pp _ 4 ds _ w _ HW.out (by omega) (by omega))
      go_wp2_with fail
      refine HP.out.mono ?_
      rintro e u3 ⟨rfl, hw', hk'⟩
      replace HW := Lib.hid hw'
      replace HB := Lib.hid (hk' _ _ _ (by decide) (by decide) HB.out)
      replace HQ := Lib.hid (hk' _ _ _ (by decide) (by decide) HQ.out)
      clear hw' hk' HP x0 x1 x2 x3 x4 x5 y0 y1 y2 y3 y4 y5 y6 y7 y8 y9 y10 y11 y12
      obtain ⟨x0, x1, x2, x3, x4, x5⟩ := rc_cells HB.out
      obtain ⟨y0, y1, y2, y3, y4, y5, y6, y7, y8, y9, y10, y11, y12⟩ := ms_cells HQ.out
      have HP := Lib.hid (rat_put pp _ 2 sp _ w _ HW.out (by omega) (by omega))
      go_wp2_with fail
      refine HP.out.mono ?_
      rintro e u4 ⟨rfl, hw', hk'⟩
      replace HW := Lib.hid hw'
      replace HB := Lib.hid (hk' _ _ _ (by decide) (by decide) HB.out)
      replace HQ := Lib.hid (hk' _ _ _ (by decide) (by decide) HQ.out)
      clear hw' hk' HP x0 x1 x2 x3 x4 x5 y0 y1 y2 y3 y4 y5 y6 y7 y8 y9 y10 y11 y12
      obtain ⟨x0, x1, x2, x3, x4, x5⟩ := rc_cells HB.out
      obtain ⟨y0, y1, y2, y3, y4, y5, y6, y7, y8, y9, y10, y11, y12⟩ := ms_cells HQ.out
      have HP := Lib.hid (rat_put pp _ 2 dp _ w _ HW.out (by omega) (by omega))
      go_wp2_with fail
      refine HP.out.mono ?_
      rintro e u5 ⟨rfl, hw', hk'⟩
      replace HW := Lib.hid hw'
      replace HB := Lib.hid (hk' _ _ _ (by decide) (by decide) HB.out)
      replace HQ := Lib.hid (hk' _ _ _ (by decide) (by decide) HQ.out)
      clear hw' hk' HP x0 x1 x2 x3 x4 x5 y0 y1 y2 y3 y4 y5 y6 y7 y8 y9 y10 y11 y12
      obtain ⟨x0, x1, x2, x3, x4, x5⟩ := rc_cells HB.out
      obtain ⟨y0, y1, y2, y3, y4, y5, y6, y7, y8, y9, y10, y11, y12⟩ := ms_cells HQ.out
      have HP := Lib.hid (rat_put pp _ 6 un _ w _ HW.out (by omega) (by omega))
      go_wp2_with fail
      refine HP.out.mono ?_
      rintro e u6 ⟨rfl, hw', hk'⟩
      replace HW := Lib.hid hw'
      replace HB := Lib.hid (hk' _ _ _ (by decide) (by decide) HB.out)
      replace HQ := Lib.hid (hk' _ _ _ (by decide) (by decide) HQ.out)
      clear hw' hk' HP x0 x1 x2 x3 x4 x5 y0 y1 y2 y3 y4 y5 y6 y7 y8 y9 y10 y11 y12
      obtain ⟨x0, x1, x2, x3, x4, x5⟩ := rc_cells HB.out
      obtain ⟨y0, y1, y2, y3, y4, y5, y6, y7, y8, y9, y10, y11, y12⟩ := ms_cells HQ.out
      go_wp2_with fail
      go_roundg (n - (j + 1))
      case measure => omega
      case rel =>
        refine ⟨j + 1, rfl, by omega, by go_num, ?_, HQ⟩
        rw [rrecsP_take HX.out]
        have e : 24 + 48 * (j + 1) = 24 + 48 * j + 8 + 8 + 8 + 8 + 8 + 8 := by omega
        rw [e]
        exact HW
    · have hjn : n = j := by omega
      subst hjn
      have e : l.take n = l := List.take_of_length_le (by rw [HL.out]; exact Nat.le_refl _)
      have hw := HW.out
      rw [e, HST.out] at hw
      replace HW := Lib.hid hw
      clear hw
      obtain ⟨E, d, x0, x1, hrd, hnil⟩ := HW.out.shows
      have HRD := Lib.hid hrd
      clear hrd
      go_wp2_with fail
      go_ret
      exact ⟨E, d, rfl, HRD.out, hnil, HW.out.was⟩

set_option maxHeartbeats 8000000 in
theorem rbytes6_3 (po ma ow ta ol ge ph ve si pt vr : Int) (A : Option Addr) (n c : Nat) (l : List Rc) (S : Nat → Prop) (w : World) (h : RcR w S A n l) (hn2 : n ≤ 9223372036854775807) (hnb : namedB pt vr = true) (hl : l.length ≤ 16) (ha : l.all rcR = true) (hn : ∀ x ∈ l, RcN x) :
    Calls Try.prog 15 #[.agg (msC 3 po ma ow ta ol ge ph ve si pt vr A n c)] w (Bt (msB 3 po ma ow ta ol ge ph ve si pt vr l) w) := by
  have HST := Lib.hid (rst_three po ma ow ta ol ge ph ve si pt vr hnb l hl ha hn)
  obtain ⟨hb1, hb2⟩ := named_parts hnb
  have HALL := Lib.hid ha
  have HN := Lib.hid hn
  have hn0 : n ≤ 16 := by rw [h.1]; exact hl
  clear hl ha hn
  have HQ : Hid (Blk ((w.alloc (.cells #[.int .i64 3, .int .i64 po, .int .u64 ma, .int .i64 ow, .int .i64 ta, .int .i64 ol, .int .i64 ge, .int .i64 ph, .int .i64 ve, .int .i64 si, .int .i64 pt, .int .i64 vr, .slice A n c] 28)).alloc (.cells #[.slice none 0 0, .bool false] 68)) w.heap.size 28 (msC 3 po ma ow ta ol ge ph ve si pt vr A n c)) := Lib.hid ((blk_new rfl).alloc _)
  have HW : Hid (Rat w (w.heap.size + 1) (some []) 0 ((w.alloc (.cells #[.int .i64 3, .int .i64 po, .int .u64 ma, .int .i64 ow, .int .i64 ta, .int .i64 ol, .int .i64 ge, .int .i64 ph, .int .i64 ve, .int .i64 si, .int .i64 pt, .int .i64 vr, .slice A n c] 28)).alloc (.cells #[.slice none 0 0, .bool false] 68))) := Lib.hid (Rat.start (((Chg.refl _ _).alloc _).alloc _) (Nat.le_succ _) (blk_new (by simp)))
  have HH := Lib.hid h
  have HL := Lib.hid h.1
  clear h
  unfold msC
  generalize hpp : w.heap.size + 1 = pp at HW
  go_enter Try.func15, Try.ntmps15
  go_upto_region 2 with fail
  generalize ((w.alloc (.cells #[.int .i64 3, .int .i64 po, .int .u64 ma, .int .i64 ow, .int .i64 ta, .int .i64 ol, .int .i64 ge, .int .i64 ph, .int .i64 ve, .int .i64 si, .int .i64 pt, .int .i64 vr, .slice A n c] 28)).alloc (.cells #[.slice none 0 0, .bool false] 68)) = W0 at *
  have HPP := Lib.hid hpp
  clear hpp
  obtain ⟨y0, y1, y2, y3, y4, y5, y6, y7, y8, y9, y10, y11, y12⟩ := ms_cells HQ.out
  have HP := Lib.hid (rat_put pp _ 1 3 _ w _ HW.out (by omega) (by omega))
  go_wp2_with fail
  refine HP.out.mono ?_
  rintro e v0 ⟨rfl, hw', hk'⟩
  replace HW := Lib.hid hw'
  replace HQ := Lib.hid (hk' _ _ _ (by decide) (by decide) HQ.out)
  clear hw' hk' HP y0 y1 y2 y3 y4 y5 y6 y7 y8 y9 y10 y11 y12
  obtain ⟨y0, y1, y2, y3, y4, y5, y6, y7, y8, y9, y10, y11, y12⟩ := ms_cells HQ.out
  have HP := Lib.hid (rat_put pp _ 1 pt _ w _ HW.out (by omega) (by omega))
  go_wp2_with fail
  refine HP.out.mono ?_
  rintro e v1 ⟨rfl, hw', hk'⟩
  replace HW := Lib.hid hw'
  replace HQ := Lib.hid (hk' _ _ _ (by decide) (by decide) HQ.out)
  clear hw' hk' HP y0 y1 y2 y3 y4 y5 y6 y7 y8 y9 y10 y11 y12
  obtain ⟨y0, y1, y2, y3, y4, y5, y6, y7, y8, y9, y10, y11, y12⟩ := ms_cells HQ.out
  have HP := Lib.hid (rat_put pp _ 6 vr _ w _ HW.out (by omega) (by omega))
  go_wp2_with fail
  refine HP.out.mono ?_
  rintro e v2 ⟨rfl, hw', hk'⟩
  replace HW := Lib.hid hw'
  replace HQ := Lib.hid (hk' _ _ _ (by decide) (by decide) HQ.out)
  clear hw' hk' HP y0 y1 y2 y3 y4 y5 y6 y7 y8 y9 y10 y11 y12
  obtain ⟨y0, y1, y2, y3, y4, y5, y6, y7, y8, y9, y10, y11, y12⟩ := ms_cells HQ.out
  have HP := Lib.hid (rat_put pp _ 1 (n : Int) _ w _ HW.out (by omega) (by omega))
  go_wp2_with fail
  refine HP.out.mono ?_
  rintro e v3 ⟨rfl, hw', hk'⟩
  replace HW := Lib.hid hw'
  replace HQ := Lib.hid (hk' _ _ _ (by decide) (by decide) HQ.out)
  clear hw' hk' HP y0 y1 y2 y3 y4 y5 y6 y7 y8 y9 y10 y11 y12
  obtain ⟨y0, y1, y2, y3, y4, y5, y6, y7, y8, y9, y10, y11, y12⟩ := ms_cells HQ.out
  have HW1 : Hid (Rat w pp (rrecsP (l.take 0) (rput1 1 (rput1 6 (rput1 1 (rput1 1 (some []) 3) pt) vr) (n : Int))) (32 + 48 * 0) v3) := Lib.hid (by rw [rrecsP_zero]; exact HW.out)
  clear HW
  have HM := Lib.hid HQ.out
  go_wp2_with fail
  clear y0 y1 y2 y3 y4 y5 y6 y7 y8 y9 y10 y11 y12
  go_loopg [5, 6] n (fun g i s6 wr => ∃ j : Nat, g = n - j ∧ j ≤ n ∧ i = .int .i64 (j : Int) ∧ Hid (Rat w pp (rrecsP (l.take j) (rput1 1 (rput1 6 (rput1 1 (rput1 1 (some []) 3) pt) vr) (n : Int))) (32 + 48 * j) wr) ∧ Hid (Blk wr w.heap.size 28 (msC 3 po ma ow ta ol ge ph ve si pt vr A n c)))
  case atStart => exact ⟨0, rfl, Nat.zero_le _, rfl, HW1, HQ⟩
  case round =>
    obtain ⟨j, rfl, hj, rfl, HW, HQ⟩ := hrel
    obtain ⟨y0, y1, y2, y3, y4, y5, y6, y7, y8, y9, y10, y11, y12⟩ := ms_cells HQ.out
    by_cases hlt : j < n
    · have hh := HH.out.chg HW.out.was (fun _ _ => id)
      obtain ⟨ad, rfl, _, _, _⟩ := hh.2 (by omega)
      have hjl : j < l.length := by have := HL.out; omega
      have hx : l[j]? = some l[j] := List.getElem?_eq_getElem hjl
      generalize l[j] = x at *
      obtain ⟨z0, z1, z2, z3, z4, z5⟩ := hh.at hx
      have HX := Lib.hid hx
      have hxr : rcR x = true := List.all_eq_true.1 HALL.out x (List.mem_of_getElem? hx)
      have hxn := HN.out x (List.mem_of_getElem? hx)
      obtain ⟨hp1, hp2, hp3, hp4⟩ := rec_parts hxr
      obtain ⟨hp5, hp6⟩ := hxn
      clear hx hh hxr
      obtain ⟨pr, sr, ds, sp, dp, un⟩ := x
      dsimp only at z0 z1 z2 z3 z4 z5 hp1 hp2 hp3 hp4 hp5 hp6
      have a1 : IntKind.i64.wrap sr = sr := i64_wrap (by omega)
      have a2 : IntKind.i64.wrap ds = ds := i64_wrap (by omega)
      have HB : Hid (Blk (wr.alloc (.cells #[.int .i64 pr, .int .u32 sr, .int .u32 ds, .int .i64 sp, .int .i64 dp, .int .i64 un] 46)) wr.heap.size 46 (rcC pr sr ds sp dp un)) := Lib.hid (blk_new rfl)
      replace HW := Lib.hid (HW.out.alloc (.cells #[.int .i64 pr, .int .u32 sr, .int .u32 ds, .int .i64 sp, .int .i64 dp, .int .i64 un] 46))
      replace HQ := Lib.hid (HQ.out.alloc (.cells #[.int .i64 pr, .int .u32 sr, .int .u32 ds, .int .i64 sp, .int .i64 dp, .int .i64 un] 46))
      have HP := Lib.hid (rat_put pp _ 1 pr _ w _ HW.out (by omega) (by omega))
      go_wp2_with fail
      refine HP.out.mono ?_
      rintro e u1 ⟨rfl, hw', hk'⟩
      replace HW := Lib.hid hw'
      replace HB := Lib.hid (hk' _ _ _ (by decide) (by decide) HB.out)
      replace HQ := Lib.hid (hk' _ _ _ (by decide) (by decide) HQ.out)
      clear hw' hk' HP y0 y1 y2 y3 y4 y5 y6 y7 y8 y9 y10 y11 y12
      obtain ⟨x0, x1, x2, x3, x4, x5⟩ := rc_cells HB.out
      obtain ⟨y0, y1, y2, y3, y4, y5, y6, y7, y8, y9, y10, y11, y12⟩ := ms_cells HQ.out
      have HP := Lib.hid (rat_put pp _ 4 sr _ w _ HW.out (by omega) (by omega))
      go_wp2_with fail
      refine HP.out.mono ?_
      rintro e u2 ⟨rfl, hw', hk'⟩
      replace HW := Lib.hid hw'
      replace HB := Lib.hid (hk' _ _ _ (by decide) (by decide) HB.out)
      replace HQ := Lib.hid (hk' _ _ _ (by decide) (by decide) HQ.out)
      clear hw' hk' HP x0 x1 x2 x3 x4 x5 y0 y1 y2 y3 y4 y5 y6 y7 y8 y9 y10 y11 y12
      obtain ⟨x0, x1, x2, x3, x4, x5⟩ := rc_cells HB.out
      obtain ⟨y0, y1, y2, y3, y4, y5, y6, y7, y8, y9, y10, y11, y12⟩ := ms_cells HQ.out
      have HP := Lib.hid (rat_put pp _ 4 ds _ w _ HW.out (by omega) (by omega))
      go_wp2_with fail
      refine HP.out.mono ?_
      rintro e u3 ⟨rfl, hw', hk'⟩
      replace HW := Lib.hid hw'
      replace HB := Lib.hid (hk' _ _ _ (by decide) (by decide) HB.out)
      replace HQ := Lib.hid (hk' _ _ _ (by decide) (by decide) HQ.out)
      clear hw' hk' HP x0 x1 x2 x3 x4 x5 y0 y1 y2 y3 y4 y5 y6 y7 y8 y9 y10 y11 y12
      obtain ⟨x0, x1, x2, x3, x4, x5⟩ := rc_cells HB.out
      obtain ⟨y0, y1, y2, y3, y4, y5, y6, y7, y8, y9, y10, y11, y12⟩ := ms_cells HQ.out
      have HP := Lib.hid (rat_put pp _ 2 sp _ w _ HW.out (by omega) (by omega))
      go_wp2_with fail
      refine HP.out.mono ?_
      rintro e u4 ⟨rfl, hw', hk'⟩
      replace HW := Lib.hid hw'
      replace HB := Lib.hid (hk' _ _ _ (by decide) (by decide) HB.out)
      replace HQ := Lib.hid (hk' _ _ _ (by decide) (by decide) HQ.out)
      clear hw' hk' HP x0 x1 x2 x3 x4 x5 y0 y1 y2 y3 y4 y5 y6 y7 y8 y9 y10 y11 y12
      obtain ⟨x0, x1, x2, x3, x4, x5⟩ := rc_cells HB.out
      obtain ⟨y0, y1, y2, y3, y4, y5, y6, y7, y8, y9, y10, y11, y12⟩ := ms_cells HQ.out
      have HP := Lib.hid (rat_put pp _ 2 dp _ w _ HW.out (by omega) (by omega))
      go_wp2_with fail
      refine HP.out.mono ?_
      rintro e u5 ⟨rfl, hw', hk'⟩
      replace HW := Lib.hid hw'
      replace HB := Lib.hid (hk' _ _ _ (by decide) (by decide) HB.out)
      replace HQ := Lib.hid (hk' _ _ _ (by decide) (by decide) HQ.out)
      clear hw' hk' HP x0 x1 x2 x3 x4 x5 y0 y1 y2 y3 y4 y5 y6 y7 y8 y9 y10 y11 y12
      obtain ⟨x0, x1, x2, x3, x4, x5⟩ := rc_cells HB.out
      obtain ⟨y0, y1, y2, y3, y4, y5, y6, y7, y8, y9, y10, y11, y12⟩ := ms_cells HQ.out
      have HP := Lib.hid (rat_put pp _ 6 un _ w _ HW.out (by omega) (by omega))
      go_wp2_with fail
      refine HP.out.mono ?_
      rintro e u6 ⟨rfl, hw', hk'⟩
      replace HW := Lib.hid hw'
      replace HB := Lib.hid (hk' _ _ _ (by decide) (by decide) HB.out)
      replace HQ := Lib.hid (hk' _ _ _ (by decide) (by decide) HQ.out)
      clear hw' hk' HP x0 x1 x2 x3 x4 x5 y0 y1 y2 y3 y4 y5 y6 y7 y8 y9 y10 y11 y12
      obtain ⟨x0, x1, x2, x3, x4, x5⟩ := rc_cells HB.out
      obtain ⟨y0, y1, y2, y3, y4, y5, y6, y7, y8, y9, y10, y11, y12⟩ := ms_cells HQ.out
      go_wp2_with fail
      go_roundg (n - (j + 1))
      case measure => omega
      case rel =>
        refine ⟨j + 1, rfl, by omega, by go_num, ?_, HQ⟩
        rw [rrecsP_take HX.out]
        have e : 32 + 48 * (j + 1) = 32 + 48 * j + 8 + 8 + 8 + 8 + 8 + 8 := by omega
        rw [e]
        exact HW
    · have hjn : n = j := by omega
      subst hjn
      have e : l.take n = l := List.take_of_length_le (by rw [HL.out]; exact Nat.le_refl _)
      have hw := HW.out
      rw [e, HL.out, HST.out] at hw
      replace HW := Lib.hid hw
      clear hw
      obtain ⟨E, d, x0, x1, hrd, hnil⟩ := HW.out.shows
      have HRD := Lib.hid hrd
      clear hrd
      go_wp2_with fail
      go_ret
      exact ⟨E, d, rfl, HRD.out, hnil, HW.out.was⟩

theorem rbytes6_any (kd po ma ow ta ol ge ph ve si pt vr : Int) (A : Option Addr) (n c : Nat) (l : List Rc) (S : Nat → Prop) (w : World) (h : RcR w S A n l) (hn2 : n ≤ 9223372036854775807) (hN : MsN kd po ma ow ta ol ge ph ve si pt vr l) (hr : msR kd po ma ow ta ol ge ph ve si pt vr l = true) :
    Calls Try.prog 15 #[.agg (msC kd po ma ow ta ol ge ph ve si pt vr A n c)] w (Bt (msB kd po ma ow ta ol ge ph ve si pt vr l) w) := by
  rcases msR_parts hr with ⟨rfl, hrw, _⟩ | ⟨rfl, _, hnb, hl⟩ | ⟨rfl, _, hnb, hl, ha⟩
  · exact rbytes6_1 po ma ow ta ol ge ph ve si pt vr A n c l S w h hn2 hrw hN.1.1
  · exact rbytes6_2 po ma ow ta ol ge ph ve si pt vr A n c l S w h hn2 hnb hl
  · exact rbytes6_3 po ma ow ta ol ge ph ve si pt vr A n c l S w h hn2 hnb hl ha hN.2

end Go.Proofs.Ytalfbijcjghemaa
