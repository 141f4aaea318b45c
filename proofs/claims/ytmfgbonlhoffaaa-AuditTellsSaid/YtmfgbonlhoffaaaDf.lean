/-
  Walks: audit's note, fault. Conditions: the past lies in memory; note: it holds no number near the greatest.
-/
import Derived.Test.YtmfgbonlhoffaaaDe
namespace Go.Proofs.Ytmfgbonlhoffaaa
open Go.RowKit
set_option linter.unusedVariables false
set_option linter.unusedSimpArgs false
section
variable {w : World} {p o l : Nat} {fo : Int × Int → Option Int} {fl : Int → Option Int}
/-- What note leaves. -/
def NtP (w : World) (p o l : Nat) (fo : Int × Int → Option Int) (fl : Int → Option Int) (e : Ending) (w' : World) : Prop := e = .returned (.tuple #[]) ∧ PA w' p o l fo fl ∧ Chg (fun k => k = o ∨ k = l) w w'
set_option maxRecDepth 100000 in
set_option maxHeartbeats 8000000 in
theorem note21_any (h : PA w p o l fo fl) (x : Ev) (hb : -1000 ≤ tl21 fl x.id ∧ tl21 fl x.id ≤ 1000) : Calls Try.prog 13 #[.pointer (some ⟨p, 0, none⟩), .agg x.cs] w (NtP w p o l (nO21 fo x) (nL21 fl x)) := by
  have HP := Lib.hid (h.keep ((Chg.refl (fun _ => False) w).alloc (.cells x.cs 38)))
  have HX := Lib.hid (((Chg.refl (fun _ => False) w).alloc (.cells x.cs 38)).mono (S' := fun k => k = o ∨ k = l) (fun _ _ e => e.elim))
  have HB : Hid (Blk (w.alloc (.cells x.cs 38)) w.heap.size 38 x.cs) := Lib.hid (blk_new rfl)
  have HQ : Hid (¬ (w.heap.size = o ∨ w.heap.size = l)) := Lib.hid (by have := h.om.lt; have := h.lm.lt; omega)
  have C1 := Lib.hid (fun W => gives21_any x W)
  have HG : Hid (∀ f, nL21 f x = if gv21 x then up21 (nM21 f x) x.id (tl21 (nM21 f x) x.id - 1) else nM21 f x) := Lib.hid (fun _ => rfl)
  have HO : Hid (nO21 fo x = if gv21 x then up21 fo (x.po, x.ge) x.ch else fo) := Lib.hid rfl
  generalize gv21 x = g at *
  clear h
  go_enter Try.func13, Try.ntmps13
  go_upto_region 1 with fail
  generalize w.alloc (.cells x.cs 38) = w1 at *
  generalize w.heap.size = q at *
  obtain ⟨y0, y1, y2, y3, y4, y5, y6, y7, y8, y9, y10, y11, y12⟩ := ev_cells21 HB.out
  cases e3 : (x.wh == 3)
  · have HM : Hid (nM21 fl x = fl) := Lib.hid (by unfold nM21; rw [e3]; rfl)
    have HBD := Lib.hid hb
    clear hb
    go_wp2_with fail
    refine (C1.out _).mono ?_
    rintro e w4 ⟨rfl, hc⟩
    replace HP := Lib.hid (HP.out.keep hc)
    replace HB := Lib.hid (HB.out.chg hc id)
    replace HX := Lib.hid (HX.out.trans hc (fun _ _ e => e.elim))
    clear hc y0 y1 y2 y3 y4 y5 y6 y7 y8 y9 y10 y11 y12
    cases g
    · go_wp2_with fail
      exact bodyPost_end (results_none rfl _ _ _) rfl ⟨rfl, by rw [HO.out, HG.out, if_neg (by decide), if_neg (by decide), HM.out]; exact HP.out, HX.out⟩
    · obtain ⟨y0, y1, y2, y3, y4, y5, y6, y7, y8, y9, y10, y11, y12⟩ := ev_cells21 HB.out
      obtain ⟨k0, k1⟩ := HP.out.cells
      obtain ⟨w5, hup, hp5, hc5⟩ := (show PA w4.drew p o l fo fl from HP.out.keep (Chg.refl (fun _ => False) w4).drew).put_o x.po x.ge x.ch
      have HP5 := Lib.hid hp5
      have HX5 := Lib.hid (HX.out.trans (((Chg.refl _ w4).drew).trans hc5 (fun _ _ e => e)) (fun _ _ e => .inl e))
      have HB5 : Hid (Blk w5 q 38 x.cs) := Lib.hid ((HB.out.chg (Chg.refl (fun _ => False) w4).drew id).chg hc5 (fun e => HQ.out (.inl e)))
      clear hp5 hc5
      go_wp2_with fail
      go_region
      clear y0 y1 y2 y3 y4 y5 y6 y7 y8 y9 y10 y11 y12 k0 k1 hup
      obtain ⟨y0, y1, y2, y3, y4, y5, y6, y7, y8, y9, y10, y11, y12⟩ := ev_cells21 HB5.out
      obtain ⟨k0, k1⟩ := HP5.out.cells
      have hdr := (show PA w5.drew p o l (up21 fo (x.po, x.ge) x.ch) fl from HP5.out.keep (Chg.refl (fun _ => False) w5).drew)
      have hlk := hdr.left x.id
      obtain ⟨w6, hup, hp6, hc6⟩ := hdr.put_l x.id (tl21 fl x.id - 1)
      have HP6 := Lib.hid hp6
      have HX6 := Lib.hid (HX5.out.trans (((Chg.refl _ w5).drew).trans hc6 (fun _ _ e => e)) (fun _ _ e => .inr e))
      have b1 := HBD.out.1
      have b2 := HBD.out.2
      unfold tl21 at hup b1 b2
      have HV : Hid ((fl x.id).getD 0 = tl21 fl x.id) := Lib.hid rfl
      generalize (fl x.id).getD 0 = v at *
      clear hp6 hc6 hdr
      go_wp2_with fail
      go_region
      go_wp2_with fail
      exact bodyPost_end (results_none rfl _ _ _) rfl ⟨rfl, by rw [HO.out, HG.out, if_pos trivial, if_pos trivial, HM.out]; exact HP6.out, HX6.out⟩
  · have HM : Hid (nM21 fl x = up21 fl x.id (tl21 fl x.id + 1)) := Lib.hid (by unfold nM21; rw [e3]; rfl)
    obtain ⟨k0, k1⟩ := HP.out.cells
    have hdr := (show PA w1.drew p o l fo fl from HP.out.keep (Chg.refl (fun _ => False) w1).drew)
    have hlk := hdr.left x.id
    obtain ⟨w3, hup, hp3, hc3⟩ := hdr.put_l x.id (tl21 fl x.id + 1)
    have b1 := hb.1
    have b2 := hb.2
    have HBD : Hid (-1000 ≤ tl21 (up21 fl x.id (tl21 fl x.id + 1)) x.id ∧ tl21 (up21 fl x.id (tl21 fl x.id + 1)) x.id ≤ 1001) := Lib.hid (by
      have : tl21 (up21 fl x.id (tl21 fl x.id + 1)) x.id = tl21 fl x.id + 1 := by simp [tl21, up21]
      omega)
    generalize hf1 : up21 fl x.id (tl21 fl x.id + 1) = f1 at *
    replace HP := Lib.hid hp3
    replace HX := Lib.hid (HX.out.trans (((Chg.refl _ w1).drew).trans hc3 (fun _ _ e => e)) (fun _ _ e => .inr e))
    replace HB : Hid (Blk w3 q 38 x.cs) := Lib.hid ((HB.out.chg (Chg.refl (fun _ => False) w1).drew id).chg hc3 (fun e => HQ.out (.inr e)))
    unfold tl21 at hup b1 b2
    clear hb hp3 hc3 hdr hf1
    generalize (fl x.id).getD 0 = v at *
    go_wp2_with fail
    go_region
    clear hlk hup k0 k1 b1 b2 y0 y1 y2 y3 y4 y5 y6 y7 y8 y9 y10 y11 y12
    obtain ⟨y0, y1, y2, y3, y4, y5, y6, y7, y8, y9, y10, y11, y12⟩ := ev_cells21 HB.out
    go_wp2_with fail
    refine (C1.out _).mono ?_
    rintro e w4 ⟨rfl, hc⟩
    replace HP := Lib.hid (HP.out.keep hc)
    replace HB := Lib.hid (HB.out.chg hc id)
    replace HX := Lib.hid (HX.out.trans hc (fun _ _ e => e.elim))
    clear hc y0 y1 y2 y3 y4 y5 y6 y7 y8 y9 y10 y11 y12
    cases g
    · go_wp2_with fail
      exact bodyPost_end (results_none rfl _ _ _) rfl ⟨rfl, by rw [HO.out, HG.out, if_neg (by decide), if_neg (by decide), HM.out]; exact HP.out, HX.out⟩
    · obtain ⟨y0, y1, y2, y3, y4, y5, y6, y7, y8, y9, y10, y11, y12⟩ := ev_cells21 HB.out
      obtain ⟨k0, k1⟩ := HP.out.cells
      obtain ⟨w5, hup, hp5, hc5⟩ := (show PA w4.drew p o l fo f1 from HP.out.keep (Chg.refl (fun _ => False) w4).drew).put_o x.po x.ge x.ch
      have HP5 := Lib.hid hp5
      have HX5 := Lib.hid (HX.out.trans (((Chg.refl _ w4).drew).trans hc5 (fun _ _ e => e)) (fun _ _ e => .inl e))
      have HB5 : Hid (Blk w5 q 38 x.cs) := Lib.hid ((HB.out.chg (Chg.refl (fun _ => False) w4).drew id).chg hc5 (fun e => HQ.out (.inl e)))
      clear hp5 hc5
      go_wp2_with fail
      go_region
      clear y0 y1 y2 y3 y4 y5 y6 y7 y8 y9 y10 y11 y12 k0 k1 hup
      obtain ⟨y0, y1, y2, y3, y4, y5, y6, y7, y8, y9, y10, y11, y12⟩ := ev_cells21 HB5.out
      obtain ⟨k0, k1⟩ := HP5.out.cells
      have hdr := (show PA w5.drew p o l (up21 fo (x.po, x.ge) x.ch) f1 from HP5.out.keep (Chg.refl (fun _ => False) w5).drew)
      have hlk := hdr.left x.id
      obtain ⟨w6, hup, hp6, hc6⟩ := hdr.put_l x.id (tl21 f1 x.id - 1)
      have HP6 := Lib.hid hp6
      have HX6 := Lib.hid (HX5.out.trans (((Chg.refl _ w5).drew).trans hc6 (fun _ _ e => e)) (fun _ _ e => .inr e))
      have b1 := HBD.out.1
      have b2 := HBD.out.2
      unfold tl21 at hup b1 b2
      have HV : Hid ((f1 x.id).getD 0 = tl21 f1 x.id) := Lib.hid rfl
      generalize (f1 x.id).getD 0 = v at *
      clear hp6 hc6 hdr
      go_wp2_with fail
      go_region
      go_wp2_with fail
      exact bodyPost_end (results_none rfl _ _ _) rfl ⟨rfl, by rw [HO.out, HG.out, if_pos trivial, if_pos trivial, HM.out]; exact HP6.out, HX6.out⟩
theorem ft21_1 {x : Ev} (h : (gv21 x && el21 fo x) = true) : ft21 fo fl x = 1 := if_pos h
theorem ft21_2 {x : Ev} (h : (gv21 x && el21 fo x) = false) (h2 : (gv21 x && decide (tl21 fl x.id < 0)) = true) : ft21 fo fl x = 2 := by unfold ft21; rw [h, h2]; rfl
theorem ft21_3 {x : Ev} (h : (gv21 x && el21 fo x) = false) (h2 : (gv21 x && decide (tl21 fl x.id < 0)) = false) (h3 : (gv21 x && decide (x.ge < x.sp)) = true) : ft21 fo fl x = 3 := by unfold ft21; rw [h, h2, h3]; rfl
theorem ft21_r {x : Ev} (h : (gv21 x && el21 fo x) = false) (h2 : (gv21 x && decide (tl21 fl x.id < 0)) = false) (h3 : (gv21 x && decide (x.ge < x.sp)) = false) : ft21 fo fl x = if lk21 x && as21 x then 4 else if sn21 x && ag21 x then 5 else 0 := by unfold ft21; rw [h, h2, h3]; rfl
set_option maxRecDepth 100000 in
set_option maxHeartbeats 16000000 in
theorem fault21_any (h : PA w p o l fo fl) (x : Ev) : Calls Try.prog 12 #[.pointer (some ⟨p, 0, none⟩), .agg x.cs] w fun e w' => e = .returned (.int .i64 (ft21 fo fl x)) ∧ Chg (fun _ => False) w w' := by
  have HP := Lib.hid (h.keep ((Chg.refl (fun _ => False) w).alloc (.cells x.cs 38)))
  have HX := Lib.hid ((Chg.refl (fun _ => False) w).alloc (.cells x.cs 38))
  have HB : Hid (Blk (w.alloc (.cells x.cs 38)) w.heap.size 38 x.cs) := Lib.hid (blk_new rfl)
  clear h
  have C1 := Lib.hid (fun W => gives21_any x W)
  have C2 : Hid (∀ W, PA W p o l fo fl → _) := Lib.hid (fun W hW => elsewhere21_any hW x)
  have C3 := Lib.hid (fun W => looks21_any x W)
  have C4 := Lib.hid (fun W => astray21_any x W)
  have C5 := Lib.hid (fun W => sends21_any x W)
  have C6 := Lib.hid (fun W => again21_any x W)
  have F1 := Lib.hid (ft21_1 (fo := fo) (fl := fl) (x := x))
  have F2 := Lib.hid (ft21_2 (fo := fo) (fl := fl) (x := x))
  have F3 := Lib.hid (ft21_3 (fo := fo) (fl := fl) (x := x))
  have F4 := Lib.hid (ft21_r (fo := fo) (fl := fl) (x := x))
  generalize ft21 fo fl x = res at *
  generalize gv21 x = g at *
  generalize el21 fo x = el at *
  generalize lk21 x = lk at *
  generalize as21 x = as_ at *
  generalize sn21 x = sn at *
  generalize ag21 x = ag at *
  go_enter Try.func12, Try.ntmps12
  go_upto_region 1 with fail
  generalize w.alloc (.cells x.cs 38) = w1 at *
  generalize w.heap.size = q at *
  have ha : ∀ W, Blk W q 38 x.cs → W.cell? ⟨q, 0, none⟩ = some (.int .i64 x.wh) ∧ W.cell? ⟨q, 1, none⟩ = some (.int .i64 x.ti) ∧ W.cell? ⟨q, 2, none⟩ = some (.int .i64 x.ch) ∧ W.cell? ⟨q, 3, none⟩ = some (.int .i64 x.po) ∧ W.cell? ⟨q, 4, none⟩ = some (.int .i64 x.ve) ∧ W.cell? ⟨q, 5, none⟩ = some (.int .i64 x.ki) ∧ W.cell? ⟨q, 6, none⟩ = some (.int .i64 x.id) ∧ W.cell? ⟨q, 7, none⟩ = some (.int .i64 x.og) ∧ W.cell? ⟨q, 8, none⟩ = some (.int .i64 x.fr) ∧ W.cell? ⟨q, 9, none⟩ = some (.int .i64 x.dn) ∧ W.cell? ⟨q, 10, none⟩ = some (.int .i64 x.tg) ∧ W.cell? ⟨q, 11, none⟩ = some (.int .i64 x.ge) ∧ W.cell? ⟨q, 12, none⟩ = some (.int .i64 x.sp) := fun W hW => ev_cells21 hW
  have HA := Lib.hid ha
  clear ha
  obtain ⟨y0, y1, y2, y3, y4, y5, y6, y7, y8, y9, y10, y11, y12⟩ := HA.out _ HB.out
  go_wp2_with fail
  refine (C1.out _).mono ?_; rintro e w5 ⟨rfl, hc⟩; replace HP := Lib.hid (HP.out.keep hc); replace HB := Lib.hid (HB.out.chg hc id); replace HX := Lib.hid (HX.out.trans hc (fun _ _ e => e)); clear hc y0 y1 y2 y3 y4 y5 y6 y7 y8 y9 y10 y11 y12; obtain ⟨y0, y1, y2, y3, y4, y5, y6, y7, y8, y9, y10, y11, y12⟩ := HA.out _ HB.out
  cases g
  · go_wp2_with fail
    go_quiet (fail)
    replace HP := Lib.hid (HP.out.keep ((Chg.refl (fun _ => False) _).drewN nq)); replace HB := Lib.hid (HB.out.chg ((Chg.refl (fun _ => False) _).drewN nq) id); replace HX := Lib.hid (HX.out.trans ((Chg.refl (fun _ => False) _).drewN nq) (fun _ _ e => e)); generalize World.drewN _ nq = w6 at *; clear y0 y1 y2 y3 y4 y5 y6 y7 y8 y9 y10 y11 y12; obtain ⟨y0, y1, y2, y3, y4, y5, y6, y7, y8, y9, y10, y11, y12⟩ := HA.out _ HB.out
    go_wp2_with fail
    refine (C3.out _).mono ?_; rintro e w5 ⟨rfl, hc⟩; replace HP := Lib.hid (HP.out.keep hc); replace HB := Lib.hid (HB.out.chg hc id); replace HX := Lib.hid (HX.out.trans hc (fun _ _ e => e)); clear hc y0 y1 y2 y3 y4 y5 y6 y7 y8 y9 y10 y11 y12; obtain ⟨y0, y1, y2, y3, y4, y5, y6, y7, y8, y9, y10, y11, y12⟩ := HA.out _ HB.out
    cases lk
    · go_wp2_with fail
      refine (C5.out _).mono ?_; rintro e w5 ⟨rfl, hc⟩; replace HP := Lib.hid (HP.out.keep hc); replace HB := Lib.hid (HB.out.chg hc id); replace HX := Lib.hid (HX.out.trans hc (fun _ _ e => e)); clear hc y0 y1 y2 y3 y4 y5 y6 y7 y8 y9 y10 y11 y12; obtain ⟨y0, y1, y2, y3, y4, y5, y6, y7, y8, y9, y10, y11, y12⟩ := HA.out _ HB.out
      cases sn
      · go_wp2_with fail
        go_ret; exact ⟨by rw [F4.out rfl rfl rfl]; simp_all, HX.out⟩
      · go_wp2_with fail
        refine (C6.out _).mono ?_; rintro e w5 ⟨rfl, hc⟩; replace HP := Lib.hid (HP.out.keep hc); replace HB := Lib.hid (HB.out.chg hc id); replace HX := Lib.hid (HX.out.trans hc (fun _ _ e => e)); clear hc y0 y1 y2 y3 y4 y5 y6 y7 y8 y9 y10 y11 y12; obtain ⟨y0, y1, y2, y3, y4, y5, y6, y7, y8, y9, y10, y11, y12⟩ := HA.out _ HB.out
        cases ag
        · go_wp2_with fail
          go_ret; exact ⟨by rw [F4.out rfl rfl rfl]; simp_all, HX.out⟩
        · go_wp2_with fail
          go_ret; exact ⟨by rw [F4.out rfl rfl rfl]; simp_all, HX.out⟩
    · go_wp2_with fail
      refine (C4.out _).mono ?_; rintro e w5 ⟨rfl, hc⟩; replace HP := Lib.hid (HP.out.keep hc); replace HB := Lib.hid (HB.out.chg hc id); replace HX := Lib.hid (HX.out.trans hc (fun _ _ e => e)); clear hc y0 y1 y2 y3 y4 y5 y6 y7 y8 y9 y10 y11 y12; obtain ⟨y0, y1, y2, y3, y4, y5, y6, y7, y8, y9, y10, y11, y12⟩ := HA.out _ HB.out
      cases as_
      · go_wp2_with fail
        refine (C5.out _).mono ?_; rintro e w5 ⟨rfl, hc⟩; replace HP := Lib.hid (HP.out.keep hc); replace HB := Lib.hid (HB.out.chg hc id); replace HX := Lib.hid (HX.out.trans hc (fun _ _ e => e)); clear hc y0 y1 y2 y3 y4 y5 y6 y7 y8 y9 y10 y11 y12; obtain ⟨y0, y1, y2, y3, y4, y5, y6, y7, y8, y9, y10, y11, y12⟩ := HA.out _ HB.out
        cases sn
        · go_wp2_with fail
          go_ret; exact ⟨by rw [F4.out rfl rfl rfl]; simp_all, HX.out⟩
        · go_wp2_with fail
          refine (C6.out _).mono ?_; rintro e w5 ⟨rfl, hc⟩; replace HP := Lib.hid (HP.out.keep hc); replace HB := Lib.hid (HB.out.chg hc id); replace HX := Lib.hid (HX.out.trans hc (fun _ _ e => e)); clear hc y0 y1 y2 y3 y4 y5 y6 y7 y8 y9 y10 y11 y12; obtain ⟨y0, y1, y2, y3, y4, y5, y6, y7, y8, y9, y10, y11, y12⟩ := HA.out _ HB.out
          cases ag
          · go_wp2_with fail
            go_ret; exact ⟨by rw [F4.out rfl rfl rfl]; simp_all, HX.out⟩
          · go_wp2_with fail
            go_ret; exact ⟨by rw [F4.out rfl rfl rfl]; simp_all, HX.out⟩
      · go_wp2_with fail
        go_ret; exact ⟨by rw [F4.out rfl rfl rfl]; simp_all, HX.out⟩
  · go_wp2_with fail
    refine (C2.out _ HP.out).mono ?_; rintro e w5 ⟨rfl, hc⟩; replace HP := Lib.hid (HP.out.keep hc); replace HB := Lib.hid (HB.out.chg hc id); replace HX := Lib.hid (HX.out.trans hc (fun _ _ e => e)); clear hc y0 y1 y2 y3 y4 y5 y6 y7 y8 y9 y10 y11 y12; obtain ⟨y0, y1, y2, y3, y4, y5, y6, y7, y8, y9, y10, y11, y12⟩ := HA.out _ HB.out
    cases el
    · obtain ⟨k0, k1⟩ := HP.out.cells
      have hlk : ∀ n, _ := fun n => (HP.out.keep ((Chg.refl (fun _ => False) _).drewN n)).left x.id
      obtain ⟨lt, hlt⟩ : ∃ b, decide (tl21 fl x.id < 0) = b := ⟨_, rfl⟩
      rw [hlt] at F2 F3 F4
      unfold tl21 at hlt
      generalize (fl x.id).getD 0 = v at *
      cases lt
      · go_wp2_with fail
        go_quiet (fail)
        replace HP := Lib.hid (HP.out.keep ((Chg.refl (fun _ => False) _).drewN nq)); replace HB := Lib.hid (HB.out.chg ((Chg.refl (fun _ => False) _).drewN nq) id); replace HX := Lib.hid (HX.out.trans ((Chg.refl (fun _ => False) _).drewN nq) (fun _ _ e => e)); generalize World.drewN _ nq = w6 at *; clear y0 y1 y2 y3 y4 y5 y6 y7 y8 y9 y10 y11 y12; obtain ⟨y0, y1, y2, y3, y4, y5, y6, y7, y8, y9, y10, y11, y12⟩ := HA.out _ HB.out
        cases sg : decide (x.ge < x.sp)
        · rw [sg] at F3 F4
          go_wp2_with fail
          refine (C3.out _).mono ?_; rintro e w5 ⟨rfl, hc⟩; replace HP := Lib.hid (HP.out.keep hc); replace HB := Lib.hid (HB.out.chg hc id); replace HX := Lib.hid (HX.out.trans hc (fun _ _ e => e)); clear hc y0 y1 y2 y3 y4 y5 y6 y7 y8 y9 y10 y11 y12; obtain ⟨y0, y1, y2, y3, y4, y5, y6, y7, y8, y9, y10, y11, y12⟩ := HA.out _ HB.out
          cases lk
          · go_wp2_with fail
            refine (C5.out _).mono ?_; rintro e w5 ⟨rfl, hc⟩; replace HP := Lib.hid (HP.out.keep hc); replace HB := Lib.hid (HB.out.chg hc id); replace HX := Lib.hid (HX.out.trans hc (fun _ _ e => e)); clear hc y0 y1 y2 y3 y4 y5 y6 y7 y8 y9 y10 y11 y12; obtain ⟨y0, y1, y2, y3, y4, y5, y6, y7, y8, y9, y10, y11, y12⟩ := HA.out _ HB.out
            cases sn
            · go_wp2_with fail
              go_ret; exact ⟨by rw [F4.out rfl rfl rfl]; simp_all, HX.out⟩
            · go_wp2_with fail
              refine (C6.out _).mono ?_; rintro e w5 ⟨rfl, hc⟩; replace HP := Lib.hid (HP.out.keep hc); replace HB := Lib.hid (HB.out.chg hc id); replace HX := Lib.hid (HX.out.trans hc (fun _ _ e => e)); clear hc y0 y1 y2 y3 y4 y5 y6 y7 y8 y9 y10 y11 y12; obtain ⟨y0, y1, y2, y3, y4, y5, y6, y7, y8, y9, y10, y11, y12⟩ := HA.out _ HB.out
              cases ag
              · go_wp2_with fail
                go_ret; exact ⟨by rw [F4.out rfl rfl rfl]; simp_all, HX.out⟩
              · go_wp2_with fail
                go_ret; exact ⟨by rw [F4.out rfl rfl rfl]; simp_all, HX.out⟩
          · go_wp2_with fail
            refine (C4.out _).mono ?_; rintro e w5 ⟨rfl, hc⟩; replace HP := Lib.hid (HP.out.keep hc); replace HB := Lib.hid (HB.out.chg hc id); replace HX := Lib.hid (HX.out.trans hc (fun _ _ e => e)); clear hc y0 y1 y2 y3 y4 y5 y6 y7 y8 y9 y10 y11 y12; obtain ⟨y0, y1, y2, y3, y4, y5, y6, y7, y8, y9, y10, y11, y12⟩ := HA.out _ HB.out
            cases as_
            · go_wp2_with fail
              refine (C5.out _).mono ?_; rintro e w5 ⟨rfl, hc⟩; replace HP := Lib.hid (HP.out.keep hc); replace HB := Lib.hid (HB.out.chg hc id); replace HX := Lib.hid (HX.out.trans hc (fun _ _ e => e)); clear hc y0 y1 y2 y3 y4 y5 y6 y7 y8 y9 y10 y11 y12; obtain ⟨y0, y1, y2, y3, y4, y5, y6, y7, y8, y9, y10, y11, y12⟩ := HA.out _ HB.out
              cases sn
              · go_wp2_with fail
                go_ret; exact ⟨by rw [F4.out rfl rfl rfl]; simp_all, HX.out⟩
              · go_wp2_with fail
                refine (C6.out _).mono ?_; rintro e w5 ⟨rfl, hc⟩; replace HP := Lib.hid (HP.out.keep hc); replace HB := Lib.hid (HB.out.chg hc id); replace HX := Lib.hid (HX.out.trans hc (fun _ _ e => e)); clear hc y0 y1 y2 y3 y4 y5 y6 y7 y8 y9 y10 y11 y12; obtain ⟨y0, y1, y2, y3, y4, y5, y6, y7, y8, y9, y10, y11, y12⟩ := HA.out _ HB.out
                cases ag
                · go_wp2_with fail
                  go_ret; exact ⟨by rw [F4.out rfl rfl rfl]; simp_all, HX.out⟩
                · go_wp2_with fail
                  go_ret; exact ⟨by rw [F4.out rfl rfl rfl]; simp_all, HX.out⟩
            · go_wp2_with fail
              go_ret; exact ⟨by rw [F4.out rfl rfl rfl]; simp_all, HX.out⟩
        · rw [sg] at F3 F4
          go_wp2_with fail
          go_ret; exact ⟨by rw [F3.out rfl rfl rfl]; simp_all, HX.out⟩
      · go_wp2_with fail
        go_quiet (fail)
        replace HP := Lib.hid (HP.out.keep ((Chg.refl (fun _ => False) _).drewN nq)); replace HB := Lib.hid (HB.out.chg ((Chg.refl (fun _ => False) _).drewN nq) id); replace HX := Lib.hid (HX.out.trans ((Chg.refl (fun _ => False) _).drewN nq) (fun _ _ e => e)); generalize World.drewN _ nq = w6 at *; clear y0 y1 y2 y3 y4 y5 y6 y7 y8 y9 y10 y11 y12; obtain ⟨y0, y1, y2, y3, y4, y5, y6, y7, y8, y9, y10, y11, y12⟩ := HA.out _ HB.out
        go_wp2_with fail
        go_ret; exact ⟨by rw [F2.out rfl rfl]; simp_all, HX.out⟩
    · go_wp2_with fail
      go_ret; exact ⟨by rw [F1.out rfl]; simp_all, HX.out⟩
end

end Go.Proofs.Ytmfgbonlhoffaaa
