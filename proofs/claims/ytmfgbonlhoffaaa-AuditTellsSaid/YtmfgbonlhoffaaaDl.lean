/-
  Walks: rutterref21.Fault, Look. Condition: the events are read in memory, at most 80.
-/
import Derived.Test.YtmfgbonlhoffaaaDg
namespace Go.Proofs.Ytmfgbonlhoffaaa
open Go.RowKit
set_option linter.unusedVariables false
set_option linter.unusedSimpArgs false
theorem df21_1 {r : List Ev} {x : Ev} (h : (gv21 x && r.any (ah21 x)) = true) : df21 r x = 1 := if_pos h
theorem df21_2 {r : List Ev} {x : Ev} (h : (gv21 x && r.any (ah21 x)) = false) (h2 : (gv21 x && decide (0 < tm21 x.id r)) = true) : df21 r x = 2 := by unfold df21; rw [h, h2]; rfl
theorem df21_3 {r : List Ev} {x : Ev} (h : (gv21 x && r.any (ah21 x)) = false) (h2 : (gv21 x && decide (0 < tm21 x.id r)) = false) (h3 : (gv21 x && decide (x.ge < x.sp)) = true) : df21 r x = 3 := by unfold df21; rw [h, h2, h3]; rfl
theorem df21_r {r : List Ev} {x : Ev} (h : (gv21 x && r.any (ah21 x)) = false) (h2 : (gv21 x && decide (0 < tm21 x.id r)) = false) (h3 : (gv21 x && decide (x.ge < x.sp)) = false) : df21 r x = if rd21 x then 4 else if sn21 x && ((x.wh == 2 && x.ki == 2) || x.tg == x.ch || x.tg == x.og || x.tg == x.fr) then 5 else 0 := by unfold df21; rw [h, h2, h3]; rfl
theorem any21_no {r : List Ev} {j : Nat} {x y : Ev} (h : (r.take j).any (ah21 x) = false) (hy : r[j]? = some y) (h2 : ah21 x y = false) : (r.take (j + 1)).any (ah21 x) = false := by
  rw [take21 hy, List.any_append, h]
  simp [h2]
theorem tm21_next {r : List Ev} {j : Nat} {y : Ev} (k : Int) (hy : r[j]? = some y) : tm21 k (r.take (j + 1)) = tm21 k (r.take j) + ((if gv21 y && y.id == k then 1 else 0) - (if y.wh == 3 && y.id == k then 1 else 0)) := by rw [take21 hy, tm21_app, tm21_one]
/-- Guards that no simplifier sees. -/
def Yes21 (b : Bool) : Prop := b = true
def No21 (b : Bool) : Prop := b = false
set_option maxRecDepth 100000 in
set_option maxHeartbeats 40000000 in
theorem rfault21_any {w : World} {L : Option Addr} {m lc : Nat} {l : List Ev} (h : EvR w L m l) (hm : m ≤ 80) {i : Nat} {x : Ev} (hx : l[i]? = some x) : Calls Try.prog 14 #[.slice L m lc, .int .i64 (i : Int)] w fun e w' => e = .returned (.int .i64 (dF21 l i)) ∧ Chg (fun _ => False) w w' := by
  have hil : i < m := by rw [h.1]; exact (List.getElem?_eq_some_iff.1 hx).1
  obtain ⟨ad, rfl, -⟩ := h.2 (by omega)
  obtain ⟨z0, z1, z2, z3, z4, z5, z6, z7, z8, z9, z10, z11, z12⟩ := h.at hx
  have HH := Lib.hid h
  have HL := Lib.hid h.1
  have HM := Lib.hid hm
  have HDF := Lib.hid (dF21_at hx)
  have hca := (Chg.refl (fun _ => False) w).alloc (.cells #[.int .i64 x.wh, .int .i64 x.ti, .int .i64 x.ch, .int .i64 x.po, .int .i64 x.ve, .int .i64 x.ki, .int .i64 x.id, .int .i64 x.og, .int .i64 x.fr, .int .i64 x.dn, .int .i64 x.tg, .int .i64 x.ge, .int .i64 x.sp] 47)
  have HB : Hid (Blk (w.alloc (.cells #[.int .i64 x.wh, .int .i64 x.ti, .int .i64 x.ch, .int .i64 x.po, .int .i64 x.ve, .int .i64 x.ki, .int .i64 x.id, .int .i64 x.og, .int .i64 x.fr, .int .i64 x.dn, .int .i64 x.tg, .int .i64 x.ge, .int .i64 x.sp] 47)) w.heap.size 47 x.cs) := Lib.hid (blk_new rfl)
  have HX := Lib.hid hca
  clear h hx hca
  go_enter Try.func14, Try.ntmps14
  go_upto_region 2 with fail
  generalize w.alloc (.cells #[.int .i64 x.wh, .int .i64 x.ti, .int .i64 x.ch, .int .i64 x.po, .int .i64 x.ve, .int .i64 x.ki, .int .i64 x.id, .int .i64 x.og, .int .i64 x.fr, .int .i64 x.dn, .int .i64 x.tg, .int .i64 x.ge, .int .i64 x.sp] 47) = wa at *
  generalize w.heap.size = q at *
  clear z0 z1 z2 z3 z4 z5 z6 z7 z8 z9 z10 z11 z12
  have HA := Lib.hid (fun (W : World) (hW : Blk W q 47 x.cs) => ev_cells21 hW)
  obtain ⟨y0, y1, y2, y3, y4, y5, y6, y7, y8, y9, y10, y11, y12⟩ := HA.out _ HB.out
  have c1 := fun W => rlooks21_1 x W
  have c2 := fun W => rlooks21_2 x W
  have c3 := fun W => round21_any x W
  have HF1 := Lib.hid (fun h => (df21_1 (r := l.take i) (x := x) h))
  have HF2 := Lib.hid (fun h h2 => (df21_2 (r := l.take i) (x := x) h h2))
  have HF3 := Lib.hid (fun h h2 h3 => (df21_3 (r := l.take i) (x := x) h h2 h3))
  have HF4 := Lib.hid (fun h h2 h3 => (df21_r (r := l.take i) (x := x) h h2 h3))
  generalize gv21 x = g at *
  generalize sn21 x = sn at *
  generalize rd21 x = rd at *
  have C1 := Lib.hid c1
  have C2 := Lib.hid c2
  have C3 := Lib.hid c3
  clear c1 c2 c3
  generalize df21 (l.take i) x = res at *
  go_wp2_with fail
  refine (C1.out _).mono ?_; rintro e w5 ⟨rfl, hc⟩; replace HB := Lib.hid (HB.out.chg hc id); replace HX := Lib.hid (HX.out.trans hc (fun _ _ e => e)); clear hc y0 y1 y2 y3 y4 y5 y6 y7 y8 y9 y10 y11 y12; obtain ⟨y0, y1, y2, y3, y4, y5, y6, y7, y8, y9, y10, y11, y12⟩ := HA.out _ HB.out
  go_wp2_with fail
  refine (C2.out _).mono ?_; rintro e w5 ⟨rfl, hc⟩; replace HB := Lib.hid (HB.out.chg hc id); replace HX := Lib.hid (HX.out.trans hc (fun _ _ e => e)); clear hc y0 y1 y2 y3 y4 y5 y6 y7 y8 y9 y10 y11 y12; obtain ⟨y0, y1, y2, y3, y4, y5, y6, y7, y8, y9, y10, y11, y12⟩ := HA.out _ HB.out
  go_wp2_with fail
  go_loopg [8, 9] i (fun f s8 s9 wr => ∃ (j : Nat) (t : Int), f = i - j ∧ j ≤ i ∧ s9 = .int .i64 (j : Int) ∧ s8 = .int .i64 t ∧ -80 ≤ t ∧ t ≤ 80 ∧ Hid (Yes21 g → t = tm21 x.id (l.take j) ∧ (l.take j).any (ah21 x) = false) ∧ Hid (No21 g → j = 0) ∧ Hid (Blk wr q 47 x.cs) ∧ Hid (Chg (fun _ => False) w wr))
  case atStart => exact ⟨0, 0, rfl, Nat.zero_le _, rfl, rfl, by decide, by decide, Lib.hid (fun _ => by simp [tm21]), Lib.hid (fun _ => rfl), HB, HX⟩
  case round =>
    clear HB HX y0 y1 y2 y3 y4 y5 y6 y7 y8 y9 y10 y11 y12
    obtain ⟨j, t, rfl, hj, rfl, rfl, ht1, ht2, HT, hg0, HB, HX⟩ := hrel
    obtain ⟨y0, y1, y2, y3, y4, y5, y6, y7, y8, y9, y10, y11, y12⟩ := HA.out _ HB.out
    cases g
    · obtain rfl := hg0.out (show No21 false from rfl)
      by_cases hlt : (0 : Nat) < i
      · skip
        go_wp2_with fail
        refine (C3.out _).mono ?_; rintro e w5 ⟨rfl, hc⟩; replace HB := Lib.hid (HB.out.chg hc id); replace HX := Lib.hid (HX.out.trans hc (fun _ _ e => e)); clear hc y0 y1 y2 y3 y4 y5 y6 y7 y8 y9 y10 y11 y12; obtain ⟨y0, y1, y2, y3, y4, y5, y6, y7, y8, y9, y10, y11, y12⟩ := HA.out _ HB.out
        cases rd
        · cases sn
          · go_wp2_with fail
            go_ret; exact ⟨by rw [HDF.out, HF4.out rfl rfl rfl]; simp only [Bool.false_or, Bool.true_or, Bool.or_false, Bool.or_true, Bool.true_and, Bool.false_and, Bool.and_true, Bool.and_false, Bool.false_eq_true, ↓reduceIte]; rfl, HX.out⟩
          · cases e1 : (x.wh == 2)
            · cases e3 : (x.tg == x.ch)
              · cases e4 : (x.tg == x.og)
                · cases e5 : (x.tg == x.fr)
                  · go_wp2_with fail
                    go_ret; exact ⟨by rw [HDF.out, HF4.out rfl rfl rfl]; simp only [e1, e3, e4, e5, Bool.false_or, Bool.true_or, Bool.or_false, Bool.or_true, Bool.true_and, Bool.false_and, Bool.and_true, Bool.and_false, Bool.false_eq_true, ↓reduceIte]; rfl, HX.out⟩
                  · go_wp2_with fail
                    go_ret; exact ⟨by rw [HDF.out, HF4.out rfl rfl rfl]; simp only [e1, e3, e4, e5, Bool.false_or, Bool.true_or, Bool.or_false, Bool.or_true, Bool.true_and, Bool.false_and, Bool.and_true, Bool.and_false, Bool.false_eq_true, ↓reduceIte]; rfl, HX.out⟩
                · go_wp2_with fail
                  go_ret; exact ⟨by rw [HDF.out, HF4.out rfl rfl rfl]; simp only [e1, e3, e4, Bool.false_or, Bool.true_or, Bool.or_false, Bool.or_true, Bool.true_and, Bool.false_and, Bool.and_true, Bool.and_false, Bool.false_eq_true, ↓reduceIte]; rfl, HX.out⟩
              · go_wp2_with fail
                go_ret; exact ⟨by rw [HDF.out, HF4.out rfl rfl rfl]; simp only [e1, e3, Bool.false_or, Bool.true_or, Bool.or_false, Bool.or_true, Bool.true_and, Bool.false_and, Bool.and_true, Bool.and_false, Bool.false_eq_true, ↓reduceIte]; rfl, HX.out⟩
            · cases e2 : (x.ki == 2)
              · cases e3 : (x.tg == x.ch)
                · cases e4 : (x.tg == x.og)
                  · cases e5 : (x.tg == x.fr)
                    · go_wp2_with fail
                      go_ret; exact ⟨by rw [HDF.out, HF4.out rfl rfl rfl]; simp only [e1, e2, e3, e4, e5, Bool.false_or, Bool.true_or, Bool.or_false, Bool.or_true, Bool.true_and, Bool.false_and, Bool.and_true, Bool.and_false, Bool.false_eq_true, ↓reduceIte]; rfl, HX.out⟩
                    · go_wp2_with fail
                      go_ret; exact ⟨by rw [HDF.out, HF4.out rfl rfl rfl]; simp only [e1, e2, e3, e4, e5, Bool.false_or, Bool.true_or, Bool.or_false, Bool.or_true, Bool.true_and, Bool.false_and, Bool.and_true, Bool.and_false, Bool.false_eq_true, ↓reduceIte]; rfl, HX.out⟩
                  · go_wp2_with fail
                    go_ret; exact ⟨by rw [HDF.out, HF4.out rfl rfl rfl]; simp only [e1, e2, e3, e4, Bool.false_or, Bool.true_or, Bool.or_false, Bool.or_true, Bool.true_and, Bool.false_and, Bool.and_true, Bool.and_false, Bool.false_eq_true, ↓reduceIte]; rfl, HX.out⟩
                · go_wp2_with fail
                  go_ret; exact ⟨by rw [HDF.out, HF4.out rfl rfl rfl]; simp only [e1, e2, e3, Bool.false_or, Bool.true_or, Bool.or_false, Bool.or_true, Bool.true_and, Bool.false_and, Bool.and_true, Bool.and_false, Bool.false_eq_true, ↓reduceIte]; rfl, HX.out⟩
              · go_wp2_with fail
                go_ret; exact ⟨by rw [HDF.out, HF4.out rfl rfl rfl]; simp only [e1, e2, Bool.false_or, Bool.true_or, Bool.or_false, Bool.or_true, Bool.true_and, Bool.false_and, Bool.and_true, Bool.and_false, Bool.false_eq_true, ↓reduceIte]; rfl, HX.out⟩
        · go_wp2_with fail
          go_ret; exact ⟨by rw [HDF.out, HF4.out rfl rfl rfl]; simp only [Bool.false_or, Bool.true_or, Bool.or_false, Bool.or_true, Bool.true_and, Bool.false_and, Bool.and_true, Bool.and_false, Bool.false_eq_true, ↓reduceIte]; rfl, HX.out⟩
      · skip
        go_wp2_with fail
        refine (C3.out _).mono ?_; rintro e w5 ⟨rfl, hc⟩; replace HB := Lib.hid (HB.out.chg hc id); replace HX := Lib.hid (HX.out.trans hc (fun _ _ e => e)); clear hc y0 y1 y2 y3 y4 y5 y6 y7 y8 y9 y10 y11 y12; obtain ⟨y0, y1, y2, y3, y4, y5, y6, y7, y8, y9, y10, y11, y12⟩ := HA.out _ HB.out
        cases rd
        · cases sn
          · go_wp2_with fail
            go_ret; exact ⟨by rw [HDF.out, HF4.out rfl rfl rfl]; simp only [Bool.false_or, Bool.true_or, Bool.or_false, Bool.or_true, Bool.true_and, Bool.false_and, Bool.and_true, Bool.and_false, Bool.false_eq_true, ↓reduceIte]; rfl, HX.out⟩
          · cases e1 : (x.wh == 2)
            · cases e3 : (x.tg == x.ch)
              · cases e4 : (x.tg == x.og)
                · cases e5 : (x.tg == x.fr)
                  · go_wp2_with fail
                    go_ret; exact ⟨by rw [HDF.out, HF4.out rfl rfl rfl]; simp only [e1, e3, e4, e5, Bool.false_or, Bool.true_or, Bool.or_false, Bool.or_true, Bool.true_and, Bool.false_and, Bool.and_true, Bool.and_false, Bool.false_eq_true, ↓reduceIte]; rfl, HX.out⟩
                  · go_wp2_with fail
                    go_ret; exact ⟨by rw [HDF.out, HF4.out rfl rfl rfl]; simp only [e1, e3, e4, e5, Bool.false_or, Bool.true_or, Bool.or_false, Bool.or_true, Bool.true_and, Bool.false_and, Bool.and_true, Bool.and_false, Bool.false_eq_true, ↓reduceIte]; rfl, HX.out⟩
                · go_wp2_with fail
                  go_ret; exact ⟨by rw [HDF.out, HF4.out rfl rfl rfl]; simp only [e1, e3, e4, Bool.false_or, Bool.true_or, Bool.or_false, Bool.or_true, Bool.true_and, Bool.false_and, Bool.and_true, Bool.and_false, Bool.false_eq_true, ↓reduceIte]; rfl, HX.out⟩
              · go_wp2_with fail
                go_ret; exact ⟨by rw [HDF.out, HF4.out rfl rfl rfl]; simp only [e1, e3, Bool.false_or, Bool.true_or, Bool.or_false, Bool.or_true, Bool.true_and, Bool.false_and, Bool.and_true, Bool.and_false, Bool.false_eq_true, ↓reduceIte]; rfl, HX.out⟩
            · cases e2 : (x.ki == 2)
              · cases e3 : (x.tg == x.ch)
                · cases e4 : (x.tg == x.og)
                  · cases e5 : (x.tg == x.fr)
                    · go_wp2_with fail
                      go_ret; exact ⟨by rw [HDF.out, HF4.out rfl rfl rfl]; simp only [e1, e2, e3, e4, e5, Bool.false_or, Bool.true_or, Bool.or_false, Bool.or_true, Bool.true_and, Bool.false_and, Bool.and_true, Bool.and_false, Bool.false_eq_true, ↓reduceIte]; rfl, HX.out⟩
                    · go_wp2_with fail
                      go_ret; exact ⟨by rw [HDF.out, HF4.out rfl rfl rfl]; simp only [e1, e2, e3, e4, e5, Bool.false_or, Bool.true_or, Bool.or_false, Bool.or_true, Bool.true_and, Bool.false_and, Bool.and_true, Bool.and_false, Bool.false_eq_true, ↓reduceIte]; rfl, HX.out⟩
                  · go_wp2_with fail
                    go_ret; exact ⟨by rw [HDF.out, HF4.out rfl rfl rfl]; simp only [e1, e2, e3, e4, Bool.false_or, Bool.true_or, Bool.or_false, Bool.or_true, Bool.true_and, Bool.false_and, Bool.and_true, Bool.and_false, Bool.false_eq_true, ↓reduceIte]; rfl, HX.out⟩
                · go_wp2_with fail
                  go_ret; exact ⟨by rw [HDF.out, HF4.out rfl rfl rfl]; simp only [e1, e2, e3, Bool.false_or, Bool.true_or, Bool.or_false, Bool.or_true, Bool.true_and, Bool.false_and, Bool.and_true, Bool.and_false, Bool.false_eq_true, ↓reduceIte]; rfl, HX.out⟩
              · go_wp2_with fail
                go_ret; exact ⟨by rw [HDF.out, HF4.out rfl rfl rfl]; simp only [e1, e2, Bool.false_or, Bool.true_or, Bool.or_false, Bool.or_true, Bool.true_and, Bool.false_and, Bool.and_true, Bool.and_false, Bool.false_eq_true, ↓reduceIte]; rfl, HX.out⟩
        · go_wp2_with fail
          go_ret; exact ⟨by rw [HDF.out, HF4.out rfl rfl rfl]; simp only [Bool.false_or, Bool.true_or, Bool.or_false, Bool.or_true, Bool.true_and, Bool.false_and, Bool.and_true, Bool.and_false, Bool.false_eq_true, ↓reduceIte]; rfl, HX.out⟩
    · by_cases hlt : j < i
      · have hjm : j < m := by omega
        have hh := HH.out.chg HX.out
        have hjl : j < l.length := by have := HL.out; omega
        have hy : l[j]? = some l[j] := List.getElem?_eq_getElem hjl
        generalize l[j] = y at *
        have HZ := Lib.hid (fun (W : World) (hW : Chg (fun _ => False) w W) => (HH.out.chg hW).at hy)
        obtain ⟨z0, z1, z2, z3, z4, z5, z6, z7, z8, z9, z10, z11, z12⟩ := HZ.out _ HX.out
        have HJ := Lib.hid hy
        clear hy hh hjl
        have D1 := Lib.hid (fun W => rlooks21_1 y W)
        replace D1 : Hid (∀ W, Calls _ _ #[.agg #[.int .i64 y.wh, .int .i64 y.ti, .int .i64 y.ch, .int .i64 y.po, .int .i64 y.ve, .int .i64 y.ki, .int .i64 y.id, .int .i64 y.og, .int .i64 y.fr, .int .i64 y.dn, .int .i64 y.tg, .int .i64 y.ge, .int .i64 y.sp], .int .i64 1] W (SayB (gv21 y) W)) := D1
        have HAH : Hid (ah21 x y = (gv21 y && (y.po == x.po && (y.ge == x.ge && y.ch != x.ch)))) := Lib.hid rfl
        have HTN := Lib.hid (tm21_next x.id HJ.out)
        have HBT := Lib.hid (tm21_le x.id (l.take (j + 1)))
        have HLE : Hid ((l.take (j + 1)).length ≤ 80) := Lib.hid (by rw [List.length_take]; have := HM.out; omega)
        generalize gv21 y = a at *
        go_wp2_with fail
        refine (D1.out _).mono ?_; rintro e w5 ⟨rfl, hc⟩; replace HB := Lib.hid (HB.out.chg hc id); replace HX := Lib.hid (HX.out.trans hc (fun _ _ e => e)); clear hc y0 y1 y2 y3 y4 y5 y6 y7 y8 y9 y10 y11 y12 z0 z1 z2 z3 z4 z5 z6 z7 z8 z9 z10 z11 z12; obtain ⟨y0, y1, y2, y3, y4, y5, y6, y7, y8, y9, y10, y11, y12⟩ := HA.out _ HB.out; obtain ⟨z0, z1, z2, z3, z4, z5, z6, z7, z8, z9, z10, z11, z12⟩ := HZ.out _ HX.out
        cases a
        · have han : ah21 x y = false := by rw [HAH.out]; simp only [Bool.false_or, Bool.true_or, Bool.or_false, Bool.or_true, Bool.true_and, Bool.false_and, Bool.and_true, Bool.and_false, Bool.false_eq_true, ↓reduceIte]
          have HAN := Lib.hid (any21_no (HT.out (show Yes21 true from rfl)).2 HJ.out han)
          clear han
          go_wp2_with fail
          go_quiet (fail)
          replace HB := Lib.hid (HB.out.chg ((Chg.refl (fun _ => False) _).drewN nq) id); replace HX := Lib.hid (HX.out.trans ((Chg.refl (fun _ => False) _).drewN nq) (fun _ _ e => e)); generalize World.drewN _ nq = w6 at *; clear y0 y1 y2 y3 y4 y5 y6 y7 y8 y9 y10 y11 y12 z0 z1 z2 z3 z4 z5 z6 z7 z8 z9 z10 z11 z12 nq; obtain ⟨y0, y1, y2, y3, y4, y5, y6, y7, y8, y9, y10, y11, y12⟩ := HA.out _ HB.out; obtain ⟨z0, z1, z2, z3, z4, z5, z6, z7, z8, z9, z10, z11, z12⟩ := HZ.out _ HX.out
          cases ei : (y.id == x.id)
          · go_wp2_with fail
            go_quiet (fail)
            replace HB := Lib.hid (HB.out.chg ((Chg.refl (fun _ => False) _).drewN nq) id); replace HX := Lib.hid (HX.out.trans ((Chg.refl (fun _ => False) _).drewN nq) (fun _ _ e => e)); generalize World.drewN _ nq = w6 at *; clear y0 y1 y2 y3 y4 y5 y6 y7 y8 y9 y10 y11 y12 z0 z1 z2 z3 z4 z5 z6 z7 z8 z9 z10 z11 z12 nq; obtain ⟨y0, y1, y2, y3, y4, y5, y6, y7, y8, y9, y10, y11, y12⟩ := HA.out _ HB.out; obtain ⟨z0, z1, z2, z3, z4, z5, z6, z7, z8, z9, z10, z11, z12⟩ := HZ.out _ HX.out
            cases eh : (y.wh == 3)
            · go_wp2_with fail
              go_quiet (fail)
              replace HB := Lib.hid (HB.out.chg ((Chg.refl (fun _ => False) _).drewN nq) id); replace HX := Lib.hid (HX.out.trans ((Chg.refl (fun _ => False) _).drewN nq) (fun _ _ e => e)); generalize World.drewN _ nq = w6 at *; clear y0 y1 y2 y3 y4 y5 y6 y7 y8 y9 y10 y11 y12 z0 z1 z2 z3 z4 z5 z6 z7 z8 z9 z10 z11 z12 nq; obtain ⟨y0, y1, y2, y3, y4, y5, y6, y7, y8, y9, y10, y11, y12⟩ := HA.out _ HB.out; obtain ⟨z0, z1, z2, z3, z4, z5, z6, z7, z8, z9, z10, z11, z12⟩ := HZ.out _ HX.out
              go_wp2_with fail
              have hnew : t = tm21 x.id (l.take (j + 1)) := by
                rw [HTN.out, ← (HT.out (show Yes21 true from rfl)).1]
                simp only [ei, eh, Bool.false_or, Bool.true_or, Bool.or_false, Bool.or_true, Bool.true_and, Bool.false_and, Bool.and_true, Bool.and_false, Bool.false_eq_true, ↓reduceIte]
                try omega
              go_roundg (i - (j + 1))
              case measure => omega
              case rel => exact ⟨j + 1, t, rfl, by omega, by go_num, rfl, by have := HBT.out; have := HLE.out; omega, by have := HBT.out; have := HLE.out; omega, Lib.hid (fun _ => ⟨hnew, HAN.out⟩), Lib.hid (fun (e : No21 true) => by cases e), HB, HX⟩
            · go_wp2_with fail
              go_quiet (fail)
              replace HB := Lib.hid (HB.out.chg ((Chg.refl (fun _ => False) _).drewN nq) id); replace HX := Lib.hid (HX.out.trans ((Chg.refl (fun _ => False) _).drewN nq) (fun _ _ e => e)); generalize World.drewN _ nq = w6 at *; clear y0 y1 y2 y3 y4 y5 y6 y7 y8 y9 y10 y11 y12 z0 z1 z2 z3 z4 z5 z6 z7 z8 z9 z10 z11 z12 nq; obtain ⟨y0, y1, y2, y3, y4, y5, y6, y7, y8, y9, y10, y11, y12⟩ := HA.out _ HB.out; obtain ⟨z0, z1, z2, z3, z4, z5, z6, z7, z8, z9, z10, z11, z12⟩ := HZ.out _ HX.out
              go_wp2_with fail
              have hnew : t = tm21 x.id (l.take (j + 1)) := by
                rw [HTN.out, ← (HT.out (show Yes21 true from rfl)).1]
                simp only [ei, eh, Bool.false_or, Bool.true_or, Bool.or_false, Bool.or_true, Bool.true_and, Bool.false_and, Bool.and_true, Bool.and_false, Bool.false_eq_true, ↓reduceIte]
                try omega
              go_roundg (i - (j + 1))
              case measure => omega
              case rel => exact ⟨j + 1, t, rfl, by omega, by go_num, rfl, by have := HBT.out; have := HLE.out; omega, by have := HBT.out; have := HLE.out; omega, Lib.hid (fun _ => ⟨hnew, HAN.out⟩), Lib.hid (fun (e : No21 true) => by cases e), HB, HX⟩
          · go_wp2_with fail
            go_quiet (fail)
            replace HB := Lib.hid (HB.out.chg ((Chg.refl (fun _ => False) _).drewN nq) id); replace HX := Lib.hid (HX.out.trans ((Chg.refl (fun _ => False) _).drewN nq) (fun _ _ e => e)); generalize World.drewN _ nq = w6 at *; clear y0 y1 y2 y3 y4 y5 y6 y7 y8 y9 y10 y11 y12 z0 z1 z2 z3 z4 z5 z6 z7 z8 z9 z10 z11 z12 nq; obtain ⟨y0, y1, y2, y3, y4, y5, y6, y7, y8, y9, y10, y11, y12⟩ := HA.out _ HB.out; obtain ⟨z0, z1, z2, z3, z4, z5, z6, z7, z8, z9, z10, z11, z12⟩ := HZ.out _ HX.out
            cases eh : (y.wh == 3)
            · go_wp2_with fail
              go_quiet (fail)
              replace HB := Lib.hid (HB.out.chg ((Chg.refl (fun _ => False) _).drewN nq) id); replace HX := Lib.hid (HX.out.trans ((Chg.refl (fun _ => False) _).drewN nq) (fun _ _ e => e)); generalize World.drewN _ nq = w6 at *; clear y0 y1 y2 y3 y4 y5 y6 y7 y8 y9 y10 y11 y12 z0 z1 z2 z3 z4 z5 z6 z7 z8 z9 z10 z11 z12 nq; obtain ⟨y0, y1, y2, y3, y4, y5, y6, y7, y8, y9, y10, y11, y12⟩ := HA.out _ HB.out; obtain ⟨z0, z1, z2, z3, z4, z5, z6, z7, z8, z9, z10, z11, z12⟩ := HZ.out _ HX.out
              go_wp2_with fail
              have hnew : t = tm21 x.id (l.take (j + 1)) := by
                rw [HTN.out, ← (HT.out (show Yes21 true from rfl)).1]
                simp only [ei, eh, Bool.false_or, Bool.true_or, Bool.or_false, Bool.or_true, Bool.true_and, Bool.false_and, Bool.and_true, Bool.and_false, Bool.false_eq_true, ↓reduceIte]
                try omega
              go_roundg (i - (j + 1))
              case measure => omega
              case rel => exact ⟨j + 1, t, rfl, by omega, by go_num, rfl, by have := HBT.out; have := HLE.out; omega, by have := HBT.out; have := HLE.out; omega, Lib.hid (fun _ => ⟨hnew, HAN.out⟩), Lib.hid (fun (e : No21 true) => by cases e), HB, HX⟩
            · go_wp2_with fail
              go_quiet (fail)
              replace HB := Lib.hid (HB.out.chg ((Chg.refl (fun _ => False) _).drewN nq) id); replace HX := Lib.hid (HX.out.trans ((Chg.refl (fun _ => False) _).drewN nq) (fun _ _ e => e)); generalize World.drewN _ nq = w6 at *; clear y0 y1 y2 y3 y4 y5 y6 y7 y8 y9 y10 y11 y12 z0 z1 z2 z3 z4 z5 z6 z7 z8 z9 z10 z11 z12 nq; obtain ⟨y0, y1, y2, y3, y4, y5, y6, y7, y8, y9, y10, y11, y12⟩ := HA.out _ HB.out; obtain ⟨z0, z1, z2, z3, z4, z5, z6, z7, z8, z9, z10, z11, z12⟩ := HZ.out _ HX.out
              go_wp2_with fail
              have hnew : t - 1 = tm21 x.id (l.take (j + 1)) := by
                rw [HTN.out, ← (HT.out (show Yes21 true from rfl)).1]
                simp only [ei, eh, Bool.false_or, Bool.true_or, Bool.or_false, Bool.or_true, Bool.true_and, Bool.false_and, Bool.and_true, Bool.and_false, Bool.false_eq_true, ↓reduceIte]
                try omega
              go_roundg (i - (j + 1))
              case measure => omega
              case rel => exact ⟨j + 1, t - 1, rfl, by omega, by go_num, rfl, by have := HBT.out; have := HLE.out; omega, by have := HBT.out; have := HLE.out; omega, Lib.hid (fun _ => ⟨hnew, HAN.out⟩), Lib.hid (fun (e : No21 true) => by cases e), HB, HX⟩
        · cases e1 : (y.po == x.po)
          · have han : ah21 x y = false := by rw [HAH.out]; simp only [e1, Bool.false_or, Bool.true_or, Bool.or_false, Bool.or_true, Bool.true_and, Bool.false_and, Bool.and_true, Bool.and_false, Bool.false_eq_true, ↓reduceIte]
            have HAN := Lib.hid (any21_no (HT.out (show Yes21 true from rfl)).2 HJ.out han)
            clear han
            go_wp2_with fail
            go_quiet (fail)
            replace HB := Lib.hid (HB.out.chg ((Chg.refl (fun _ => False) _).drewN nq) id); replace HX := Lib.hid (HX.out.trans ((Chg.refl (fun _ => False) _).drewN nq) (fun _ _ e => e)); generalize World.drewN _ nq = w6 at *; clear y0 y1 y2 y3 y4 y5 y6 y7 y8 y9 y10 y11 y12 z0 z1 z2 z3 z4 z5 z6 z7 z8 z9 z10 z11 z12 nq; obtain ⟨y0, y1, y2, y3, y4, y5, y6, y7, y8, y9, y10, y11, y12⟩ := HA.out _ HB.out; obtain ⟨z0, z1, z2, z3, z4, z5, z6, z7, z8, z9, z10, z11, z12⟩ := HZ.out _ HX.out
            cases ei : (y.id == x.id)
            · go_wp2_with fail
              go_quiet (fail)
              replace HB := Lib.hid (HB.out.chg ((Chg.refl (fun _ => False) _).drewN nq) id); replace HX := Lib.hid (HX.out.trans ((Chg.refl (fun _ => False) _).drewN nq) (fun _ _ e => e)); generalize World.drewN _ nq = w6 at *; clear y0 y1 y2 y3 y4 y5 y6 y7 y8 y9 y10 y11 y12 z0 z1 z2 z3 z4 z5 z6 z7 z8 z9 z10 z11 z12 nq; obtain ⟨y0, y1, y2, y3, y4, y5, y6, y7, y8, y9, y10, y11, y12⟩ := HA.out _ HB.out; obtain ⟨z0, z1, z2, z3, z4, z5, z6, z7, z8, z9, z10, z11, z12⟩ := HZ.out _ HX.out
              cases eh : (y.wh == 3)
              · go_wp2_with fail
                go_quiet (fail)
                replace HB := Lib.hid (HB.out.chg ((Chg.refl (fun _ => False) _).drewN nq) id); replace HX := Lib.hid (HX.out.trans ((Chg.refl (fun _ => False) _).drewN nq) (fun _ _ e => e)); generalize World.drewN _ nq = w6 at *; clear y0 y1 y2 y3 y4 y5 y6 y7 y8 y9 y10 y11 y12 z0 z1 z2 z3 z4 z5 z6 z7 z8 z9 z10 z11 z12 nq; obtain ⟨y0, y1, y2, y3, y4, y5, y6, y7, y8, y9, y10, y11, y12⟩ := HA.out _ HB.out; obtain ⟨z0, z1, z2, z3, z4, z5, z6, z7, z8, z9, z10, z11, z12⟩ := HZ.out _ HX.out
                go_wp2_with fail
                have hnew : t = tm21 x.id (l.take (j + 1)) := by
                  rw [HTN.out, ← (HT.out (show Yes21 true from rfl)).1]
                  simp only [ei, eh, Bool.false_or, Bool.true_or, Bool.or_false, Bool.or_true, Bool.true_and, Bool.false_and, Bool.and_true, Bool.and_false, Bool.false_eq_true, ↓reduceIte]
                  try omega
                go_roundg (i - (j + 1))
                case measure => omega
                case rel => exact ⟨j + 1, t, rfl, by omega, by go_num, rfl, by have := HBT.out; have := HLE.out; omega, by have := HBT.out; have := HLE.out; omega, Lib.hid (fun _ => ⟨hnew, HAN.out⟩), Lib.hid (fun (e : No21 true) => by cases e), HB, HX⟩
              · go_wp2_with fail
                go_quiet (fail)
                replace HB := Lib.hid (HB.out.chg ((Chg.refl (fun _ => False) _).drewN nq) id); replace HX := Lib.hid (HX.out.trans ((Chg.refl (fun _ => False) _).drewN nq) (fun _ _ e => e)); generalize World.drewN _ nq = w6 at *; clear y0 y1 y2 y3 y4 y5 y6 y7 y8 y9 y10 y11 y12 z0 z1 z2 z3 z4 z5 z6 z7 z8 z9 z10 z11 z12 nq; obtain ⟨y0, y1, y2, y3, y4, y5, y6, y7, y8, y9, y10, y11, y12⟩ := HA.out _ HB.out; obtain ⟨z0, z1, z2, z3, z4, z5, z6, z7, z8, z9, z10, z11, z12⟩ := HZ.out _ HX.out
                go_wp2_with fail
                have hnew : t = tm21 x.id (l.take (j + 1)) := by
                  rw [HTN.out, ← (HT.out (show Yes21 true from rfl)).1]
                  simp only [ei, eh, Bool.false_or, Bool.true_or, Bool.or_false, Bool.or_true, Bool.true_and, Bool.false_and, Bool.and_true, Bool.and_false, Bool.false_eq_true, ↓reduceIte]
                  try omega
                go_roundg (i - (j + 1))
                case measure => omega
                case rel => exact ⟨j + 1, t, rfl, by omega, by go_num, rfl, by have := HBT.out; have := HLE.out; omega, by have := HBT.out; have := HLE.out; omega, Lib.hid (fun _ => ⟨hnew, HAN.out⟩), Lib.hid (fun (e : No21 true) => by cases e), HB, HX⟩
            · go_wp2_with fail
              go_quiet (fail)
              replace HB := Lib.hid (HB.out.chg ((Chg.refl (fun _ => False) _).drewN nq) id); replace HX := Lib.hid (HX.out.trans ((Chg.refl (fun _ => False) _).drewN nq) (fun _ _ e => e)); generalize World.drewN _ nq = w6 at *; clear y0 y1 y2 y3 y4 y5 y6 y7 y8 y9 y10 y11 y12 z0 z1 z2 z3 z4 z5 z6 z7 z8 z9 z10 z11 z12 nq; obtain ⟨y0, y1, y2, y3, y4, y5, y6, y7, y8, y9, y10, y11, y12⟩ := HA.out _ HB.out; obtain ⟨z0, z1, z2, z3, z4, z5, z6, z7, z8, z9, z10, z11, z12⟩ := HZ.out _ HX.out
              cases eh : (y.wh == 3)
              · go_wp2_with fail
                go_quiet (fail)
                replace HB := Lib.hid (HB.out.chg ((Chg.refl (fun _ => False) _).drewN nq) id); replace HX := Lib.hid (HX.out.trans ((Chg.refl (fun _ => False) _).drewN nq) (fun _ _ e => e)); generalize World.drewN _ nq = w6 at *; clear y0 y1 y2 y3 y4 y5 y6 y7 y8 y9 y10 y11 y12 z0 z1 z2 z3 z4 z5 z6 z7 z8 z9 z10 z11 z12 nq; obtain ⟨y0, y1, y2, y3, y4, y5, y6, y7, y8, y9, y10, y11, y12⟩ := HA.out _ HB.out; obtain ⟨z0, z1, z2, z3, z4, z5, z6, z7, z8, z9, z10, z11, z12⟩ := HZ.out _ HX.out
                go_wp2_with fail
                have hnew : t + 1 = tm21 x.id (l.take (j + 1)) := by
                  rw [HTN.out, ← (HT.out (show Yes21 true from rfl)).1]
                  simp only [ei, eh, Bool.false_or, Bool.true_or, Bool.or_false, Bool.or_true, Bool.true_and, Bool.false_and, Bool.and_true, Bool.and_false, Bool.false_eq_true, ↓reduceIte]
                  try omega
                go_roundg (i - (j + 1))
                case measure => omega
                case rel => exact ⟨j + 1, t + 1, rfl, by omega, by go_num, rfl, by have := HBT.out; have := HLE.out; omega, by have := HBT.out; have := HLE.out; omega, Lib.hid (fun _ => ⟨hnew, HAN.out⟩), Lib.hid (fun (e : No21 true) => by cases e), HB, HX⟩
              · go_wp2_with fail
                go_quiet (fail)
                replace HB := Lib.hid (HB.out.chg ((Chg.refl (fun _ => False) _).drewN nq) id); replace HX := Lib.hid (HX.out.trans ((Chg.refl (fun _ => False) _).drewN nq) (fun _ _ e => e)); generalize World.drewN _ nq = w6 at *; clear y0 y1 y2 y3 y4 y5 y6 y7 y8 y9 y10 y11 y12 z0 z1 z2 z3 z4 z5 z6 z7 z8 z9 z10 z11 z12 nq; obtain ⟨y0, y1, y2, y3, y4, y5, y6, y7, y8, y9, y10, y11, y12⟩ := HA.out _ HB.out; obtain ⟨z0, z1, z2, z3, z4, z5, z6, z7, z8, z9, z10, z11, z12⟩ := HZ.out _ HX.out
                go_wp2_with fail
                have hnew : t = tm21 x.id (l.take (j + 1)) := by
                  rw [HTN.out, ← (HT.out (show Yes21 true from rfl)).1]
                  simp only [ei, eh, Bool.false_or, Bool.true_or, Bool.or_false, Bool.or_true, Bool.true_and, Bool.false_and, Bool.and_true, Bool.and_false, Bool.false_eq_true, ↓reduceIte]
                  try omega
                go_roundg (i - (j + 1))
                case measure => omega
                case rel => exact ⟨j + 1, t, rfl, by omega, by go_num, rfl, by have := HBT.out; have := HLE.out; omega, by have := HBT.out; have := HLE.out; omega, Lib.hid (fun _ => ⟨hnew, HAN.out⟩), Lib.hid (fun (e : No21 true) => by cases e), HB, HX⟩
          · cases e2 : (y.ge == x.ge)
            · have han : ah21 x y = false := by rw [HAH.out]; simp only [e1, e2, Bool.false_or, Bool.true_or, Bool.or_false, Bool.or_true, Bool.true_and, Bool.false_and, Bool.and_true, Bool.and_false, Bool.false_eq_true, ↓reduceIte]
              have HAN := Lib.hid (any21_no (HT.out (show Yes21 true from rfl)).2 HJ.out han)
              clear han
              go_wp2_with fail
              go_quiet (fail)
              replace HB := Lib.hid (HB.out.chg ((Chg.refl (fun _ => False) _).drewN nq) id); replace HX := Lib.hid (HX.out.trans ((Chg.refl (fun _ => False) _).drewN nq) (fun _ _ e => e)); generalize World.drewN _ nq = w6 at *; clear y0 y1 y2 y3 y4 y5 y6 y7 y8 y9 y10 y11 y12 z0 z1 z2 z3 z4 z5 z6 z7 z8 z9 z10 z11 z12 nq; obtain ⟨y0, y1, y2, y3, y4, y5, y6, y7, y8, y9, y10, y11, y12⟩ := HA.out _ HB.out; obtain ⟨z0, z1, z2, z3, z4, z5, z6, z7, z8, z9, z10, z11, z12⟩ := HZ.out _ HX.out
              cases ei : (y.id == x.id)
              · go_wp2_with fail
                go_quiet (fail)
                replace HB := Lib.hid (HB.out.chg ((Chg.refl (fun _ => False) _).drewN nq) id); replace HX := Lib.hid (HX.out.trans ((Chg.refl (fun _ => False) _).drewN nq) (fun _ _ e => e)); generalize World.drewN _ nq = w6 at *; clear y0 y1 y2 y3 y4 y5 y6 y7 y8 y9 y10 y11 y12 z0 z1 z2 z3 z4 z5 z6 z7 z8 z9 z10 z11 z12 nq; obtain ⟨y0, y1, y2, y3, y4, y5, y6, y7, y8, y9, y10, y11, y12⟩ := HA.out _ HB.out; obtain ⟨z0, z1, z2, z3, z4, z5, z6, z7, z8, z9, z10, z11, z12⟩ := HZ.out _ HX.out
                cases eh : (y.wh == 3)
                · go_wp2_with fail
                  go_quiet (fail)
                  replace HB := Lib.hid (HB.out.chg ((Chg.refl (fun _ => False) _).drewN nq) id); replace HX := Lib.hid (HX.out.trans ((Chg.refl (fun _ => False) _).drewN nq) (fun _ _ e => e)); generalize World.drewN _ nq = w6 at *; clear y0 y1 y2 y3 y4 y5 y6 y7 y8 y9 y10 y11 y12 z0 z1 z2 z3 z4 z5 z6 z7 z8 z9 z10 z11 z12 nq; obtain ⟨y0, y1, y2, y3, y4, y5, y6, y7, y8, y9, y10, y11, y12⟩ := HA.out _ HB.out; obtain ⟨z0, z1, z2, z3, z4, z5, z6, z7, z8, z9, z10, z11, z12⟩ := HZ.out _ HX.out
                  go_wp2_with fail
                  have hnew : t = tm21 x.id (l.take (j + 1)) := by
                    rw [HTN.out, ← (HT.out (show Yes21 true from rfl)).1]
                    simp only [ei, eh, Bool.false_or, Bool.true_or, Bool.or_false, Bool.or_true, Bool.true_and, Bool.false_and, Bool.and_true, Bool.and_false, Bool.false_eq_true, ↓reduceIte]
                    try omega
                  go_roundg (i - (j + 1))
                  case measure => omega
                  case rel => exact ⟨j + 1, t, rfl, by omega, by go_num, rfl, by have := HBT.out; have := HLE.out; omega, by have := HBT.out; have := HLE.out; omega, Lib.hid (fun _ => ⟨hnew, HAN.out⟩), Lib.hid (fun (e : No21 true) => by cases e), HB, HX⟩
                · go_wp2_with fail
                  go_quiet (fail)
                  replace HB := Lib.hid (HB.out.chg ((Chg.refl (fun _ => False) _).drewN nq) id); replace HX := Lib.hid (HX.out.trans ((Chg.refl (fun _ => False) _).drewN nq) (fun _ _ e => e)); generalize World.drewN _ nq = w6 at *; clear y0 y1 y2 y3 y4 y5 y6 y7 y8 y9 y10 y11 y12 z0 z1 z2 z3 z4 z5 z6 z7 z8 z9 z10 z11 z12 nq; obtain ⟨y0, y1, y2, y3, y4, y5, y6, y7, y8, y9, y10, y11, y12⟩ := HA.out _ HB.out; obtain ⟨z0, z1, z2, z3, z4, z5, z6, z7, z8, z9, z10, z11, z12⟩ := HZ.out _ HX.out
                  go_wp2_with fail
                  have hnew : t = tm21 x.id (l.take (j + 1)) := by
                    rw [HTN.out, ← (HT.out (show Yes21 true from rfl)).1]
                    simp only [ei, eh, Bool.false_or, Bool.true_or, Bool.or_false, Bool.or_true, Bool.true_and, Bool.false_and, Bool.and_true, Bool.and_false, Bool.false_eq_true, ↓reduceIte]
                    try omega
                  go_roundg (i - (j + 1))
                  case measure => omega
                  case rel => exact ⟨j + 1, t, rfl, by omega, by go_num, rfl, by have := HBT.out; have := HLE.out; omega, by have := HBT.out; have := HLE.out; omega, Lib.hid (fun _ => ⟨hnew, HAN.out⟩), Lib.hid (fun (e : No21 true) => by cases e), HB, HX⟩
              · go_wp2_with fail
                go_quiet (fail)
                replace HB := Lib.hid (HB.out.chg ((Chg.refl (fun _ => False) _).drewN nq) id); replace HX := Lib.hid (HX.out.trans ((Chg.refl (fun _ => False) _).drewN nq) (fun _ _ e => e)); generalize World.drewN _ nq = w6 at *; clear y0 y1 y2 y3 y4 y5 y6 y7 y8 y9 y10 y11 y12 z0 z1 z2 z3 z4 z5 z6 z7 z8 z9 z10 z11 z12 nq; obtain ⟨y0, y1, y2, y3, y4, y5, y6, y7, y8, y9, y10, y11, y12⟩ := HA.out _ HB.out; obtain ⟨z0, z1, z2, z3, z4, z5, z6, z7, z8, z9, z10, z11, z12⟩ := HZ.out _ HX.out
                cases eh : (y.wh == 3)
                · go_wp2_with fail
                  go_quiet (fail)
                  replace HB := Lib.hid (HB.out.chg ((Chg.refl (fun _ => False) _).drewN nq) id); replace HX := Lib.hid (HX.out.trans ((Chg.refl (fun _ => False) _).drewN nq) (fun _ _ e => e)); generalize World.drewN _ nq = w6 at *; clear y0 y1 y2 y3 y4 y5 y6 y7 y8 y9 y10 y11 y12 z0 z1 z2 z3 z4 z5 z6 z7 z8 z9 z10 z11 z12 nq; obtain ⟨y0, y1, y2, y3, y4, y5, y6, y7, y8, y9, y10, y11, y12⟩ := HA.out _ HB.out; obtain ⟨z0, z1, z2, z3, z4, z5, z6, z7, z8, z9, z10, z11, z12⟩ := HZ.out _ HX.out
                  go_wp2_with fail
                  have hnew : t + 1 = tm21 x.id (l.take (j + 1)) := by
                    rw [HTN.out, ← (HT.out (show Yes21 true from rfl)).1]
                    simp only [ei, eh, Bool.false_or, Bool.true_or, Bool.or_false, Bool.or_true, Bool.true_and, Bool.false_and, Bool.and_true, Bool.and_false, Bool.false_eq_true, ↓reduceIte]
                    try omega
                  go_roundg (i - (j + 1))
                  case measure => omega
                  case rel => exact ⟨j + 1, t + 1, rfl, by omega, by go_num, rfl, by have := HBT.out; have := HLE.out; omega, by have := HBT.out; have := HLE.out; omega, Lib.hid (fun _ => ⟨hnew, HAN.out⟩), Lib.hid (fun (e : No21 true) => by cases e), HB, HX⟩
                · go_wp2_with fail
                  go_quiet (fail)
                  replace HB := Lib.hid (HB.out.chg ((Chg.refl (fun _ => False) _).drewN nq) id); replace HX := Lib.hid (HX.out.trans ((Chg.refl (fun _ => False) _).drewN nq) (fun _ _ e => e)); generalize World.drewN _ nq = w6 at *; clear y0 y1 y2 y3 y4 y5 y6 y7 y8 y9 y10 y11 y12 z0 z1 z2 z3 z4 z5 z6 z7 z8 z9 z10 z11 z12 nq; obtain ⟨y0, y1, y2, y3, y4, y5, y6, y7, y8, y9, y10, y11, y12⟩ := HA.out _ HB.out; obtain ⟨z0, z1, z2, z3, z4, z5, z6, z7, z8, z9, z10, z11, z12⟩ := HZ.out _ HX.out
                  go_wp2_with fail
                  have hnew : t = tm21 x.id (l.take (j + 1)) := by
                    rw [HTN.out, ← (HT.out (show Yes21 true from rfl)).1]
                    simp only [ei, eh, Bool.false_or, Bool.true_or, Bool.or_false, Bool.or_true, Bool.true_and, Bool.false_and, Bool.and_true, Bool.and_false, Bool.false_eq_true, ↓reduceIte]
                    try omega
                  go_roundg (i - (j + 1))
                  case measure => omega
                  case rel => exact ⟨j + 1, t, rfl, by omega, by go_num, rfl, by have := HBT.out; have := HLE.out; omega, by have := HBT.out; have := HLE.out; omega, Lib.hid (fun _ => ⟨hnew, HAN.out⟩), Lib.hid (fun (e : No21 true) => by cases e), HB, HX⟩
            · cases e3 : (y.ch != x.ch)
              · have han : ah21 x y = false := by rw [HAH.out]; simp only [e1, e2, e3, Bool.false_or, Bool.true_or, Bool.or_false, Bool.or_true, Bool.true_and, Bool.false_and, Bool.and_true, Bool.and_false, Bool.false_eq_true, ↓reduceIte]
                have HAN := Lib.hid (any21_no (HT.out (show Yes21 true from rfl)).2 HJ.out han)
                clear han
                go_wp2_with fail
                go_quiet (fail)
                replace HB := Lib.hid (HB.out.chg ((Chg.refl (fun _ => False) _).drewN nq) id); replace HX := Lib.hid (HX.out.trans ((Chg.refl (fun _ => False) _).drewN nq) (fun _ _ e => e)); generalize World.drewN _ nq = w6 at *; clear y0 y1 y2 y3 y4 y5 y6 y7 y8 y9 y10 y11 y12 z0 z1 z2 z3 z4 z5 z6 z7 z8 z9 z10 z11 z12 nq; obtain ⟨y0, y1, y2, y3, y4, y5, y6, y7, y8, y9, y10, y11, y12⟩ := HA.out _ HB.out; obtain ⟨z0, z1, z2, z3, z4, z5, z6, z7, z8, z9, z10, z11, z12⟩ := HZ.out _ HX.out
                cases ei : (y.id == x.id)
                · go_wp2_with fail
                  go_quiet (fail)
                  replace HB := Lib.hid (HB.out.chg ((Chg.refl (fun _ => False) _).drewN nq) id); replace HX := Lib.hid (HX.out.trans ((Chg.refl (fun _ => False) _).drewN nq) (fun _ _ e => e)); generalize World.drewN _ nq = w6 at *; clear y0 y1 y2 y3 y4 y5 y6 y7 y8 y9 y10 y11 y12 z0 z1 z2 z3 z4 z5 z6 z7 z8 z9 z10 z11 z12 nq; obtain ⟨y0, y1, y2, y3, y4, y5, y6, y7, y8, y9, y10, y11, y12⟩ := HA.out _ HB.out; obtain ⟨z0, z1, z2, z3, z4, z5, z6, z7, z8, z9, z10, z11, z12⟩ := HZ.out _ HX.out
                  cases eh : (y.wh == 3)
                  · go_wp2_with fail
                    go_quiet (fail)
                    replace HB := Lib.hid (HB.out.chg ((Chg.refl (fun _ => False) _).drewN nq) id); replace HX := Lib.hid (HX.out.trans ((Chg.refl (fun _ => False) _).drewN nq) (fun _ _ e => e)); generalize World.drewN _ nq = w6 at *; clear y0 y1 y2 y3 y4 y5 y6 y7 y8 y9 y10 y11 y12 z0 z1 z2 z3 z4 z5 z6 z7 z8 z9 z10 z11 z12 nq; obtain ⟨y0, y1, y2, y3, y4, y5, y6, y7, y8, y9, y10, y11, y12⟩ := HA.out _ HB.out; obtain ⟨z0, z1, z2, z3, z4, z5, z6, z7, z8, z9, z10, z11, z12⟩ := HZ.out _ HX.out
                    go_wp2_with fail
                    have hnew : t = tm21 x.id (l.take (j + 1)) := by
                      rw [HTN.out, ← (HT.out (show Yes21 true from rfl)).1]
                      simp only [ei, eh, Bool.false_or, Bool.true_or, Bool.or_false, Bool.or_true, Bool.true_and, Bool.false_and, Bool.and_true, Bool.and_false, Bool.false_eq_true, ↓reduceIte]
                      try omega
                    go_roundg (i - (j + 1))
                    case measure => omega
                    case rel => exact ⟨j + 1, t, rfl, by omega, by go_num, rfl, by have := HBT.out; have := HLE.out; omega, by have := HBT.out; have := HLE.out; omega, Lib.hid (fun _ => ⟨hnew, HAN.out⟩), Lib.hid (fun (e : No21 true) => by cases e), HB, HX⟩
                  · go_wp2_with fail
                    go_quiet (fail)
                    replace HB := Lib.hid (HB.out.chg ((Chg.refl (fun _ => False) _).drewN nq) id); replace HX := Lib.hid (HX.out.trans ((Chg.refl (fun _ => False) _).drewN nq) (fun _ _ e => e)); generalize World.drewN _ nq = w6 at *; clear y0 y1 y2 y3 y4 y5 y6 y7 y8 y9 y10 y11 y12 z0 z1 z2 z3 z4 z5 z6 z7 z8 z9 z10 z11 z12 nq; obtain ⟨y0, y1, y2, y3, y4, y5, y6, y7, y8, y9, y10, y11, y12⟩ := HA.out _ HB.out; obtain ⟨z0, z1, z2, z3, z4, z5, z6, z7, z8, z9, z10, z11, z12⟩ := HZ.out _ HX.out
                    go_wp2_with fail
                    have hnew : t = tm21 x.id (l.take (j + 1)) := by
                      rw [HTN.out, ← (HT.out (show Yes21 true from rfl)).1]
                      simp only [ei, eh, Bool.false_or, Bool.true_or, Bool.or_false, Bool.or_true, Bool.true_and, Bool.false_and, Bool.and_true, Bool.and_false, Bool.false_eq_true, ↓reduceIte]
                      try omega
                    go_roundg (i - (j + 1))
                    case measure => omega
                    case rel => exact ⟨j + 1, t, rfl, by omega, by go_num, rfl, by have := HBT.out; have := HLE.out; omega, by have := HBT.out; have := HLE.out; omega, Lib.hid (fun _ => ⟨hnew, HAN.out⟩), Lib.hid (fun (e : No21 true) => by cases e), HB, HX⟩
                · go_wp2_with fail
                  go_quiet (fail)
                  replace HB := Lib.hid (HB.out.chg ((Chg.refl (fun _ => False) _).drewN nq) id); replace HX := Lib.hid (HX.out.trans ((Chg.refl (fun _ => False) _).drewN nq) (fun _ _ e => e)); generalize World.drewN _ nq = w6 at *; clear y0 y1 y2 y3 y4 y5 y6 y7 y8 y9 y10 y11 y12 z0 z1 z2 z3 z4 z5 z6 z7 z8 z9 z10 z11 z12 nq; obtain ⟨y0, y1, y2, y3, y4, y5, y6, y7, y8, y9, y10, y11, y12⟩ := HA.out _ HB.out; obtain ⟨z0, z1, z2, z3, z4, z5, z6, z7, z8, z9, z10, z11, z12⟩ := HZ.out _ HX.out
                  cases eh : (y.wh == 3)
                  · go_wp2_with fail
                    go_quiet (fail)
                    replace HB := Lib.hid (HB.out.chg ((Chg.refl (fun _ => False) _).drewN nq) id); replace HX := Lib.hid (HX.out.trans ((Chg.refl (fun _ => False) _).drewN nq) (fun _ _ e => e)); generalize World.drewN _ nq = w6 at *; clear y0 y1 y2 y3 y4 y5 y6 y7 y8 y9 y10 y11 y12 z0 z1 z2 z3 z4 z5 z6 z7 z8 z9 z10 z11 z12 nq; obtain ⟨y0, y1, y2, y3, y4, y5, y6, y7, y8, y9, y10, y11, y12⟩ := HA.out _ HB.out; obtain ⟨z0, z1, z2, z3, z4, z5, z6, z7, z8, z9, z10, z11, z12⟩ := HZ.out _ HX.out
                    go_wp2_with fail
                    have hnew : t + 1 = tm21 x.id (l.take (j + 1)) := by
                      rw [HTN.out, ← (HT.out (show Yes21 true from rfl)).1]
                      simp only [ei, eh, Bool.false_or, Bool.true_or, Bool.or_false, Bool.or_true, Bool.true_and, Bool.false_and, Bool.and_true, Bool.and_false, Bool.false_eq_true, ↓reduceIte]
                      try omega
                    go_roundg (i - (j + 1))
                    case measure => omega
                    case rel => exact ⟨j + 1, t + 1, rfl, by omega, by go_num, rfl, by have := HBT.out; have := HLE.out; omega, by have := HBT.out; have := HLE.out; omega, Lib.hid (fun _ => ⟨hnew, HAN.out⟩), Lib.hid (fun (e : No21 true) => by cases e), HB, HX⟩
                  · go_wp2_with fail
                    go_quiet (fail)
                    replace HB := Lib.hid (HB.out.chg ((Chg.refl (fun _ => False) _).drewN nq) id); replace HX := Lib.hid (HX.out.trans ((Chg.refl (fun _ => False) _).drewN nq) (fun _ _ e => e)); generalize World.drewN _ nq = w6 at *; clear y0 y1 y2 y3 y4 y5 y6 y7 y8 y9 y10 y11 y12 z0 z1 z2 z3 z4 z5 z6 z7 z8 z9 z10 z11 z12 nq; obtain ⟨y0, y1, y2, y3, y4, y5, y6, y7, y8, y9, y10, y11, y12⟩ := HA.out _ HB.out; obtain ⟨z0, z1, z2, z3, z4, z5, z6, z7, z8, z9, z10, z11, z12⟩ := HZ.out _ HX.out
                    go_wp2_with fail
                    have hnew : t = tm21 x.id (l.take (j + 1)) := by
                      rw [HTN.out, ← (HT.out (show Yes21 true from rfl)).1]
                      simp only [ei, eh, Bool.false_or, Bool.true_or, Bool.or_false, Bool.or_true, Bool.true_and, Bool.false_and, Bool.and_true, Bool.and_false, Bool.false_eq_true, ↓reduceIte]
                      try omega
                    go_roundg (i - (j + 1))
                    case measure => omega
                    case rel => exact ⟨j + 1, t, rfl, by omega, by go_num, rfl, by have := HBT.out; have := HLE.out; omega, by have := HBT.out; have := HLE.out; omega, Lib.hid (fun _ => ⟨hnew, HAN.out⟩), Lib.hid (fun (e : No21 true) => by cases e), HB, HX⟩
              · go_wp2_with fail
                go_quiet (fail)
                replace HB := Lib.hid (HB.out.chg ((Chg.refl (fun _ => False) _).drewN nq) id); replace HX := Lib.hid (HX.out.trans ((Chg.refl (fun _ => False) _).drewN nq) (fun _ _ e => e)); generalize World.drewN _ nq = w6 at *; clear y0 y1 y2 y3 y4 y5 y6 y7 y8 y9 y10 y11 y12 z0 z1 z2 z3 z4 z5 z6 z7 z8 z9 z10 z11 z12 nq; obtain ⟨y0, y1, y2, y3, y4, y5, y6, y7, y8, y9, y10, y11, y12⟩ := HA.out _ HB.out; obtain ⟨z0, z1, z2, z3, z4, z5, z6, z7, z8, z9, z10, z11, z12⟩ := HZ.out _ HX.out
                go_wp2_with fail
                go_ret; exact ⟨by rw [HDF.out, HF1.out (by
                  rw [Bool.true_and, List.any_eq_true]
                  refine ⟨y, ?_, by rw [HAH.out, e1, e2, e3]; rfl⟩
                  rw [List.mem_iff_getElem?]
                  exact ⟨j, by rw [List.getElem?_take_of_lt hlt]; exact HJ.out⟩)]; rfl, HX.out⟩
      · have hji : j = i := by omega
        subst hji
        have HAN := Lib.hid (HT.out (show Yes21 true from rfl)).2
        have HTT := Lib.hid (HT.out (show Yes21 true from rfl)).1
        rw [HAN.out] at HF1 HF2 HF3 HF4
        rw [← HTT.out] at HF2 HF3 HF4
        cases tg : decide (0 < t)
        · rw [tg] at HF2 HF3 HF4
          cases sg : decide (x.ge < x.sp)
          · rw [sg] at HF3 HF4
            go_wp2_with fail
            refine (C3.out _).mono ?_; rintro e w5 ⟨rfl, hc⟩; replace HB := Lib.hid (HB.out.chg hc id); replace HX := Lib.hid (HX.out.trans hc (fun _ _ e => e)); clear hc y0 y1 y2 y3 y4 y5 y6 y7 y8 y9 y10 y11 y12; obtain ⟨y0, y1, y2, y3, y4, y5, y6, y7, y8, y9, y10, y11, y12⟩ := HA.out _ HB.out
            cases rd
            · cases sn
              · go_wp2_with fail
                go_ret; exact ⟨by rw [HDF.out, HF4.out rfl rfl rfl]; simp only [Bool.false_or, Bool.true_or, Bool.or_false, Bool.or_true, Bool.true_and, Bool.false_and, Bool.and_true, Bool.and_false, Bool.false_eq_true, ↓reduceIte]; rfl, HX.out⟩
              · cases e1 : (x.wh == 2)
                · cases e3 : (x.tg == x.ch)
                  · cases e4 : (x.tg == x.og)
                    · cases e5 : (x.tg == x.fr)
                      · go_wp2_with fail
                        go_ret; exact ⟨by rw [HDF.out, HF4.out rfl rfl rfl]; simp only [e1, e3, e4, e5, Bool.false_or, Bool.true_or, Bool.or_false, Bool.or_true, Bool.true_and, Bool.false_and, Bool.and_true, Bool.and_false, Bool.false_eq_true, ↓reduceIte]; rfl, HX.out⟩
                      · go_wp2_with fail
                        go_ret; exact ⟨by rw [HDF.out, HF4.out rfl rfl rfl]; simp only [e1, e3, e4, e5, Bool.false_or, Bool.true_or, Bool.or_false, Bool.or_true, Bool.true_and, Bool.false_and, Bool.and_true, Bool.and_false, Bool.false_eq_true, ↓reduceIte]; rfl, HX.out⟩
                    · go_wp2_with fail
                      go_ret; exact ⟨by rw [HDF.out, HF4.out rfl rfl rfl]; simp only [e1, e3, e4, Bool.false_or, Bool.true_or, Bool.or_false, Bool.or_true, Bool.true_and, Bool.false_and, Bool.and_true, Bool.and_false, Bool.false_eq_true, ↓reduceIte]; rfl, HX.out⟩
                  · go_wp2_with fail
                    go_ret; exact ⟨by rw [HDF.out, HF4.out rfl rfl rfl]; simp only [e1, e3, Bool.false_or, Bool.true_or, Bool.or_false, Bool.or_true, Bool.true_and, Bool.false_and, Bool.and_true, Bool.and_false, Bool.false_eq_true, ↓reduceIte]; rfl, HX.out⟩
                · cases e2 : (x.ki == 2)
                  · cases e3 : (x.tg == x.ch)
                    · cases e4 : (x.tg == x.og)
                      · cases e5 : (x.tg == x.fr)
                        · go_wp2_with fail
                          go_ret; exact ⟨by rw [HDF.out, HF4.out rfl rfl rfl]; simp only [e1, e2, e3, e4, e5, Bool.false_or, Bool.true_or, Bool.or_false, Bool.or_true, Bool.true_and, Bool.false_and, Bool.and_true, Bool.and_false, Bool.false_eq_true, ↓reduceIte]; rfl, HX.out⟩
                        · go_wp2_with fail
                          go_ret; exact ⟨by rw [HDF.out, HF4.out rfl rfl rfl]; simp only [e1, e2, e3, e4, e5, Bool.false_or, Bool.true_or, Bool.or_false, Bool.or_true, Bool.true_and, Bool.false_and, Bool.and_true, Bool.and_false, Bool.false_eq_true, ↓reduceIte]; rfl, HX.out⟩
                      · go_wp2_with fail
                        go_ret; exact ⟨by rw [HDF.out, HF4.out rfl rfl rfl]; simp only [e1, e2, e3, e4, Bool.false_or, Bool.true_or, Bool.or_false, Bool.or_true, Bool.true_and, Bool.false_and, Bool.and_true, Bool.and_false, Bool.false_eq_true, ↓reduceIte]; rfl, HX.out⟩
                    · go_wp2_with fail
                      go_ret; exact ⟨by rw [HDF.out, HF4.out rfl rfl rfl]; simp only [e1, e2, e3, Bool.false_or, Bool.true_or, Bool.or_false, Bool.or_true, Bool.true_and, Bool.false_and, Bool.and_true, Bool.and_false, Bool.false_eq_true, ↓reduceIte]; rfl, HX.out⟩
                  · go_wp2_with fail
                    go_ret; exact ⟨by rw [HDF.out, HF4.out rfl rfl rfl]; simp only [e1, e2, Bool.false_or, Bool.true_or, Bool.or_false, Bool.or_true, Bool.true_and, Bool.false_and, Bool.and_true, Bool.and_false, Bool.false_eq_true, ↓reduceIte]; rfl, HX.out⟩
            · go_wp2_with fail
              go_ret; exact ⟨by rw [HDF.out, HF4.out rfl rfl rfl]; simp only [Bool.false_or, Bool.true_or, Bool.or_false, Bool.or_true, Bool.true_and, Bool.false_and, Bool.and_true, Bool.and_false, Bool.false_eq_true, ↓reduceIte]; rfl, HX.out⟩
          · rw [sg] at HF3 HF4
            go_wp2_with fail
            go_ret; exact ⟨by rw [HDF.out, HF3.out rfl rfl rfl]; rfl, HX.out⟩
        · rw [tg] at HF2 HF3 HF4
          go_wp2_with fail
          go_ret; exact ⟨by rw [HDF.out, HF2.out rfl rfl]; rfl, HX.out⟩
set_option maxRecDepth 100000 in
set_option maxHeartbeats 8000000 in
theorem rlook21_any {w : World} {L : Option Addr} {m lc : Nat} {l : List Ev} (h : EvR w L m l) (hm : m ≤ 80) : Calls Try.prog 7 #[.slice L m lc] w (LkP21 l w) := by
  have HH := Lib.hid h
  have HL := Lib.hid h.1
  have HM := Lib.hid hm
  clear h
  go_enter Try.func7, Try.ntmps7
  go_wp2_with fail
  go_loopg [4] m (fun g s4 wr => ∃ (j : Nat), g = m - j ∧ j ≤ m ∧ s4 = .int .i64 (j : Int) ∧ Hid (∀ k, k < j → dF21 l k = 0) ∧ Hid (Chg (fun _ => False) w wr))
  case atStart => exact ⟨0, rfl, Nat.zero_le _, rfl, Lib.hid (fun k h => absurd h (by omega)), Lib.hid (Chg.refl _ _)⟩
  case round =>
    obtain ⟨j, rfl, hj, rfl, HN, HX0⟩ := hrel
    by_cases hlt : j < m
    · have hjl : j < l.length := by have := HL.out; omega
      have hx : l[j]? = some l[j] := List.getElem?_eq_getElem hjl
      have HFC := Lib.hid (rfault21_any (lc := lc) (HH.out.chg HX0.out) HM.out hx)
      obtain ⟨d, hd⟩ : ∃ d, dF21 l j = d := ⟨_, rfl⟩
      have HD := Lib.hid hd
      rw [hd] at HFC
      clear hd hx hjl
      by_cases hd0 : d = 0
      · subst hd0
        go_wp2_with fail
        refine HFC.out.mono ?_
        rintro e w5 ⟨rfl, hc⟩
        have HX5 := Lib.hid (HX0.out.trans hc (fun _ _ e => e))
        clear hc
        go_wp2_with fail
        go_roundg (m - (j + 1))
        case measure => omega
        case rel => exact ⟨j + 1, rfl, by omega, by go_num, Lib.hid (fun k hk => by
          by_cases e : k = j
          · rw [e]; exact HD.out
          · exact HN.out k (by omega)), HX5⟩
      · have td : (d != 0) = true := by simpa using hd0
        have HD0 := Lib.hid hd0
        clear hd0
        go_wp2_with fail
        refine HFC.out.mono ?_
        rintro e w5 ⟨rfl, hc⟩
        have HX5 := Lib.hid (HX0.out.trans hc (fun _ _ e => e))
        clear hc
        go_wp2_with fail
        exact bodyPost_ret (v := .tuple #[.int .i64 (j : Int), .int .i64 d]) (by simp [results, Try.results7, go_sem]) rfl ⟨_, _, rfl, .inl ⟨j, by have := HL.out; omega, rfl, HD.out.symm, HD0.out, HN.out⟩, HX5.out⟩
    · have : j = m := by omega
      subst this
      go_wp2_with fail
      exact bodyPost_ret (v := .tuple #[.int .i64 (-1), .int .i64 0]) (by simp [results, Try.results7, go_sem]) rfl ⟨_, _, rfl, .inr ⟨rfl, rfl, fun k hk => HN.out k (by have := HL.out; omega)⟩, HX0.out⟩

end Go.Proofs.Ytmfgbonlhoffaaa
