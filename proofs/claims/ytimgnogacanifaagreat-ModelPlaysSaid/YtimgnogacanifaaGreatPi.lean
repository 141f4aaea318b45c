/-
  Walks: store.taken, version, do. Conditions: the store lies in memory.
-/
import Derived.Test.YtimgnogacanifaaGreatPf
import Derived.Test.YtimgnogacanifaaGreatPh
import Derived.Deep.RegionHeld3
import Derived.RegionTactic
namespace Go.Proofs.YtimgnogacanifaaGreat
open Go.RowKit
set_option linter.unusedVariables false
set_option linter.unusedSimpArgs false

theorem ret_i10 {a b : Int} (h : a = b) : Ending.returned (.int .i64 a) = .returned (.int .i64 b) := by rw [h]
set_option maxRecDepth 20000 in
set_option maxRecDepth 100000 in
set_option maxHeartbeats 4000000 in
theorem staken_any {B : Nat} {w : World} {p bc br : Nat} {C : Int → Bool} {R : Int → Option RV} (h : CS B w p bc br C R) (po ma ow ta ol ge ph ve si : Int) : Calls Tryz.prog 98 #[.pointer (some ⟨p, 0, none⟩), .agg #[.int .i64 po, .int .u64 ma, .int .i64 ow, .int .i64 ta, .int .i64 ol, .int .i64 ge, .int .i64 ph, .int .i64 ve, .int .i64 si]] w fun e w' => e = .returned (.bool (takeP R ⟨po, ma, ow, ta, ol, ge, ph, ve, si⟩)) ∧ Chg (fun _ => False) w w' := by
  have HQ0 : Blk (w.alloc (.cells #[.int .i64 po, .int .u64 ma, .int .i64 ow, .int .i64 ta, .int .i64 ol, .int .i64 ge, .int .i64 ph, .int .i64 ve, .int .i64 si] 40)) w.heap.size 40 (rvC po ma ow ta ol ge ph ve si) := blk_new rfl
  replace HQ0 := Lib.hid HQ0
  have HX0 := Lib.hid ((Chg.refl (fun _ => False) w).alloc (.cells #[.int .i64 po, .int .u64 ma, .int .i64 ow, .int .i64 ta, .int .i64 ol, .int .i64 ge, .int .i64 ph, .int .i64 ve, .int .i64 si] 40))
  have HS0 := Lib.hid (h.keep HX0.out)
  clear h
  have HT : takeP R ⟨po, ma, ow, ta, ol, ge, ph, ve, si⟩ = (ph != 3 && ((findP R ma).isSome && ((findP R ma).getD z9).po != po)) := rfl
  have hf := fun (W : World) (hW : CS B W p bc br C R) => sfind_any hW ma
  obtain ⟨y, hy⟩ : ∃ y, (findP R ma).getD z9 = y := ⟨_, rfl⟩
  obtain ⟨b, hb⟩ : ∃ b, (findP R ma).isSome = b := ⟨_, rfl⟩
  obtain ⟨a0, a1, a2, a3, a4, a5, a6, a7, a8, rfl⟩ := rv_letters y
  have hrb : rowB10 (findP R ma) = (⟨a0, a1, a2, a3, a4, a5, a6, a7, a8⟩, b) := by unfold rowB10; rw [hy, hb]
  rw [hrb] at hf
  rw [hy, hb] at HT
  have HF : Hid (∀ (W : World), CS B W p bc br C R → Calls _ _ _ W (HB9 a0 a1 a2 a3 a4 a5 a6 a7 a8 b W)) := Lib.hid hf
  clear hf hy hb hrb
  replace HT := Lib.hid HT
  go_enter Tryz.func98, Tryz.ntmps98
  go_upto_region 1 with fail
  generalize (w.alloc (.cells #[.int .i64 po, .int .u64 ma, .int .i64 ow, .int .i64 ta, .int .i64 ol, .int .i64 ge, .int .i64 ph, .int .i64 ve, .int .i64 si] 40)) = w1 at *
  obtain ⟨y0, y1, y2, y3, y4, y5, y6, y7, y8⟩ := rv_cells HQ0.out
  go_wp2_with fail
  refine (HF.out _ HS0.out).mono ?_
  rintro e w2 ⟨rfl, hc⟩
  replace HX0 := Lib.hid (HX0.out.trans hc (fun _ _ e => e))
  replace HQ0 := Lib.hid (HQ0.out.chg hc id)
  clear hc y0 y1 y2 y3 y4 y5 y6 y7 y8
  go_upto_region 2 with fail
  have HN0 : Blk (w2.alloc (.cells #[.int .i64 a0, .int .u64 a1, .int .i64 a2, .int .i64 a3, .int .i64 a4, .int .i64 a5, .int .i64 a6, .int .i64 a7, .int .i64 a8] 40)) w2.heap.size 40 (rvC a0 a1 a2 a3 a4 a5 a6 a7 a8) := blk_new rfl
  replace HN0 := Lib.hid HN0
  replace HX0 := Lib.hid (HX0.out.alloc (.cells #[.int .i64 a0, .int .u64 a1, .int .i64 a2, .int .i64 a3, .int .i64 a4, .int .i64 a5, .int .i64 a6, .int .i64 a7, .int .i64 a8] 40))
  replace HQ0 := Lib.hid (HQ0.out.alloc (.cells #[.int .i64 a0, .int .u64 a1, .int .i64 a2, .int .i64 a3, .int .i64 a4, .int .i64 a5, .int .i64 a6, .int .i64 a7, .int .i64 a8] 40))
  generalize (w2.alloc (.cells #[.int .i64 a0, .int .u64 a1, .int .i64 a2, .int .i64 a3, .int .i64 a4, .int .i64 a5, .int .i64 a6, .int .i64 a7, .int .i64 a8] 40)) = w3 at *
  obtain ⟨y0, y1, y2, y3, y4, y5, y6, y7, y8⟩ := rv_cells HQ0.out
  obtain ⟨x0, x1, x2, x3, x4, x5, x6, x7, x8⟩ := rv_cells HN0.out
  by_cases hp : ph = 3
  · subst hp
    go_wp2_with fail
    go_ret
    exact ⟨ret_b (by rw [HT.out]; rfl), HX0.out⟩
  · have tp : (ph == 3) = false := by simpa using hp
    have sp : (ph != 3) = true := by simpa using hp
    replace HT := Lib.hid (show _ = (b && a0 != po) from HT.out.trans (by rw [sp, Bool.true_and]))
    cases b with
    | false =>
      go_wp2_with fail
      go_ret
      exact ⟨ret_b (by rw [HT.out]; rfl), HX0.out⟩
    | true =>
      clear hp
      replace HT := Lib.hid (HT.out.trans (Bool.true_and _))
      change Hid (takeP R ⟨po, ma, ow, ta, ol, ge, ph, ve, si⟩ = (a0 != po)) at HT
      by_cases ha : a0 = po
      · subst ha
        go_wp2_with fail
        go_ret
        exact ⟨ret_b (by rw [HT.out]; simp), HX0.out⟩
      · have ta : (a0 == po) = false := by simpa using ha
        have sa : (a0 != po) = true := by simpa using ha
        replace HT := Lib.hid (HT.out.trans sa)
        clear ha
        go_wp2_with fail
        go_ret
        exact ⟨ret_b (by rw [HT.out]), HX0.out⟩

set_option maxRecDepth 20000 in
set_option maxRecDepth 100000 in
set_option maxHeartbeats 2000000 in
theorem sver_any {B : Nat} {w : World} {p bc br : Nat} {C : Int → Bool} {R : Int → Option RV} (h : CS B w p bc br C R) (z : Int) : Calls Tryz.prog 97 #[.pointer (some ⟨p, 0, none⟩), .int .i64 z] w fun e w' => e = .returned (.int .i64 (verP R z)) ∧ Chg (fun _ => False) w w' := by
  have hr := srow_any h z
  have HV : verP R z = ((R z).getD z9).ve := rfl
  obtain ⟨y, hy⟩ : ∃ y, (R z).getD z9 = y := ⟨_, rfl⟩
  obtain ⟨b, hb⟩ : ∃ b, (R z).isSome = b := ⟨_, rfl⟩
  obtain ⟨a0, a1, a2, a3, a4, a5, a6, a7, a8, rfl⟩ := rv_letters y
  have hrb : rowB10 (R z) = (⟨a0, a1, a2, a3, a4, a5, a6, a7, a8⟩, b) := by unfold rowB10; rw [hy, hb]
  rw [hrb] at hr
  rw [hy] at HV
  have HR : Hid (Calls _ _ _ w (HB9 a0 a1 a2 a3 a4 a5 a6 a7 a8 b w)) := Lib.hid hr
  replace HV := Lib.hid HV
  clear hr hy hb hrb h
  go_enter Tryz.func97, Tryz.ntmps97
  go_wp2_with fail
  refine HR.out.mono ?_
  rintro e w2 ⟨rfl, hc⟩
  have HX0 := Lib.hid hc
  clear hc
  go_upto_region 2 with fail
  have HN0 : Blk (w2.alloc (.cells #[.int .i64 a0, .int .u64 a1, .int .i64 a2, .int .i64 a3, .int .i64 a4, .int .i64 a5, .int .i64 a6, .int .i64 a7, .int .i64 a8] 40)) w2.heap.size 40 (rvC a0 a1 a2 a3 a4 a5 a6 a7 a8) := blk_new rfl
  replace HN0 := Lib.hid HN0
  replace HX0 := Lib.hid (HX0.out.alloc (.cells #[.int .i64 a0, .int .u64 a1, .int .i64 a2, .int .i64 a3, .int .i64 a4, .int .i64 a5, .int .i64 a6, .int .i64 a7, .int .i64 a8] 40))
  generalize (w2.alloc (.cells #[.int .i64 a0, .int .u64 a1, .int .i64 a2, .int .i64 a3, .int .i64 a4, .int .i64 a5, .int .i64 a6, .int .i64 a7, .int .i64 a8] 40)) = w3 at *
  obtain ⟨x0, x1, x2, x3, x4, x5, x6, x7, x8⟩ := rv_cells HN0.out
  go_wp2_with fail
  go_ret
  exact ⟨ret_i10 HV.out.symm, HX0.out⟩

def doR (C : Int → Bool) (R : Int → Option RV) (c : CV) : Int → Option RV := if wrongP C R c = 0 then putR R c.r else R
theorem cv_cells {w : World} {q : Nat} {po ma ow ta ol ge ph ve si was : Int} {T : TypeId} (hb : Blk w q T #[.int .i64 po, .int .u64 ma, .int .i64 ow, .int .i64 ta, .int .i64 ol, .int .i64 ge, .int .i64 ph, .int .i64 ve, .int .i64 si, .int .i64 was]) :
    w.cell? ⟨q, 0, none⟩ = some (.int .i64 po) ∧ w.cell? ⟨q, 1, none⟩ = some (.int .u64 ma) ∧ w.cell? ⟨q, 2, none⟩ = some (.int .i64 ow) ∧ w.cell? ⟨q, 3, none⟩ = some (.int .i64 ta) ∧ w.cell? ⟨q, 4, none⟩ = some (.int .i64 ol) ∧ w.cell? ⟨q, 5, none⟩ = some (.int .i64 ge) ∧ w.cell? ⟨q, 6, none⟩ = some (.int .i64 ph) ∧ w.cell? ⟨q, 7, none⟩ = some (.int .i64 ve) ∧ w.cell? ⟨q, 8, none⟩ = some (.int .i64 si) ∧ w.cell? ⟨q, 9, none⟩ = some (.int .i64 was) := by
  have x0 := hb.cell 0
  have x1 := hb.cell 1
  have x2 := hb.cell 2
  have x3 := hb.cell 3
  have x4 := hb.cell 4
  have x5 := hb.cell 5
  have x6 := hb.cell 6
  have x7 := hb.cell 7
  have x8 := hb.cell 8
  have x9 := hb.cell 9
  simp only [List.getElem?_toArray, List.getElem?_cons_zero, List.getElem?_cons_succ] at x0 x1 x2 x3 x4 x5 x6 x7 x8 x9
  exact ⟨x0, x1, x2, x3, x4, x5, x6, x7, x8, x9⟩
section
variable {C : Int → Bool} {R : Int → Option RV} {c : CV}
theorem do_1 (h : c.r.ok = false) : wrongP C R c = 1 ∧ doR C R c = R := by
  have e : wrongP C R c = 1 := by unfold wrongP; rw [if_pos (by rw [h]; rfl)]
  exact ⟨e, by unfold doR; rw [e]; rfl⟩
theorem do_2 (h : c.r.ok = true) (h2 : c.r.ve ≤ c.was) : wrongP C R c = 1 ∧ doR C R c = R := by
  have e : wrongP C R c = 1 := by unfold wrongP; rw [if_pos (by rw [h, decide_eq_true h2]; rfl)]
  exact ⟨e, by unfold doR; rw [e]; rfl⟩
theorem do_n (h : c.r.ok = true) (h2 : ¬ c.r.ve ≤ c.was) : ¬ (!c.r.ok || decide (c.r.ve ≤ c.was)) = true := by rw [h, decide_eq_false h2]; decide
theorem do_3 (h : c.r.ok = true) (h2 : ¬ c.r.ve ≤ c.was) (h3 : lackP C c.r = true) : wrongP C R c = 4 ∧ doR C R c = R := by
  have e : wrongP C R c = 4 := by unfold wrongP; rw [if_neg (do_n h h2), if_pos h3]
  exact ⟨e, by unfold doR; rw [e]; rfl⟩
theorem do_4 (h : c.r.ok = true) (h2 : ¬ c.r.ve ≤ c.was) (h3 : lackP C c.r = false) (h4 : verP R c.r.po ≠ c.was) : wrongP C R c = 7 ∧ doR C R c = R := by
  have e : wrongP C R c = 7 := by unfold wrongP; rw [if_neg (do_n h h2), if_neg (by rw [h3]; decide), if_pos (by simpa using h4)]
  exact ⟨e, by unfold doR; rw [e]; rfl⟩
theorem do_5 (h : c.r.ok = true) (h2 : ¬ c.r.ve ≤ c.was) (h3 : lackP C c.r = false) (h4 : verP R c.r.po = c.was) (h5 : takeP R c.r = true) : wrongP C R c = 5 ∧ doR C R c = R := by
  have e : wrongP C R c = 5 := by unfold wrongP; rw [if_neg (do_n h h2), if_neg (by rw [h3]; decide), if_neg (by simpa using h4), if_pos h5]
  exact ⟨e, by unfold doR; rw [e]; rfl⟩
theorem do_6 (h : c.r.ok = true) (h2 : ¬ c.r.ve ≤ c.was) (h3 : lackP C c.r = false) (h4 : verP R c.r.po = c.was) (h5 : takeP R c.r = false) : wrongP C R c = 0 ∧ doR C R c = putR R c.r := by
  have e : wrongP C R c = 0 := by unfold wrongP; rw [if_neg (do_n h h2), if_neg (by rw [h3]; decide), if_neg (by simpa using h4), if_neg (by rw [h5]; decide)]
  exact ⟨e, by unfold doR; rw [e]; rfl⟩
end
set_option maxRecDepth 20000 in
set_option maxRecDepth 100000 in
set_option maxHeartbeats 8000000 in
theorem sdo_any {B : Nat} {w : World} {p bc br : Nat} {C : Int → Bool} {R : Int → Option RV} (h : CS B w p bc br C R) (po ma ow ta ol ge ph ve si was : Int) : Calls Tryz.prog 63 #[.pointer (some ⟨p, 0, none⟩), .agg #[.int .i64 po, .int .u64 ma, .int .i64 ow, .int .i64 ta, .int .i64 ol, .int .i64 ge, .int .i64 ph, .int .i64 ve, .int .i64 si, .int .i64 was]] w fun e w' => e = .returned (.int .i64 (wrongP C R ⟨⟨po, ma, ow, ta, ol, ge, ph, ve, si⟩, was⟩)) ∧ CS B w' p bc br C (doR C R ⟨⟨po, ma, ow, ta, ol, ge, ph, ve, si⟩, was⟩) ∧ Chg (fun k => k = br) w w' := by
  have HQ0 : Blk (w.alloc (.cells #[.int .i64 po, .int .u64 ma, .int .i64 ow, .int .i64 ta, .int .i64 ol, .int .i64 ge, .int .i64 ph, .int .i64 ve, .int .i64 si, .int .i64 was] 88)) w.heap.size 88 #[.int .i64 po, .int .u64 ma, .int .i64 ow, .int .i64 ta, .int .i64 ol, .int .i64 ge, .int .i64 ph, .int .i64 ve, .int .i64 si, .int .i64 was] := blk_new rfl
  replace HQ0 := Lib.hid HQ0
  have HX0 := Lib.hid ((Chg.refl (fun _ => False) w).alloc (.cells #[.int .i64 po, .int .u64 ma, .int .i64 ow, .int .i64 ta, .int .i64 ol, .int .i64 ge, .int .i64 ph, .int .i64 ve, .int .i64 si, .int .i64 was] 88))
  have HS0 := Lib.hid (h.keep HX0.out)
  have HLT := Lib.hid h.ro.lt
  clear h
  have hr := fun W => crow_any po ma ow ta ol ge ph ve si W
  unfold rvC at hr
  obtain ⟨ok, hok⟩ : ∃ ok, rwR po ma ow ta ol ge ph ve si = ok := ⟨_, rfl⟩
  rw [hok] at hr
  have HRW := Lib.hid hr
  have HOK : Hid (RV.ok ⟨po, ma, ow, ta, ol, ge, ph, ve, si⟩ = ok) := Lib.hid hok
  clear hr hok
  go_enter Tryz.func63, Tryz.ntmps63
  go_upto_region 1 with fail
  generalize (w.alloc (.cells #[.int .i64 po, .int .u64 ma, .int .i64 ow, .int .i64 ta, .int .i64 ol, .int .i64 ge, .int .i64 ph, .int .i64 ve, .int .i64 si, .int .i64 was] 88)) = w1 at *
  obtain ⟨y0, y1, y2, y3, y4, y5, y6, y7, y8, y9⟩ := cv_cells HQ0.out
  go_wp2_with fail
  refine (HRW.out _).mono ?_
  rintro e w2 ⟨rfl, hc⟩
  replace HX0 := Lib.hid (HX0.out.trans hc (fun _ _ e => e))
  replace HQ0 := Lib.hid (HQ0.out.chg hc id)
  replace HS0 := Lib.hid (HS0.out.keep hc)
  clear hc y0 y1 y2 y3 y4 y5 y6 y7 y8 y9
  obtain ⟨y0, y1, y2, y3, y4, y5, y6, y7, y8, y9⟩ := cv_cells HQ0.out
  cases ok with
  | false =>
    have HV := Lib.hid (do_1 (C := C) (R := R) (c := ⟨⟨po, ma, ow, ta, ol, ge, ph, ve, si⟩, was⟩) HOK.out)
    go_wp2_with fail
    go_ret
    exact ⟨ret_i10 HV.out.1.symm, by rw [HV.out.2]; exact HS0.out, HX0.out.mono (fun _ _ e => e.elim)⟩
  | true =>
    by_cases hv : ve ≤ was
    · have HV := Lib.hid (do_2 (C := C) (R := R) (c := ⟨⟨po, ma, ow, ta, ol, ge, ph, ve, si⟩, was⟩) HOK.out hv)
      go_wp2_with fail
      go_ret
      exact ⟨ret_i10 HV.out.1.symm, by rw [HV.out.2]; exact HS0.out, HX0.out.mono (fun _ _ e => e.elim)⟩
    · have HNV := Lib.hid hv
      have hl := fun (W : World) (hW : CS B W p bc br C R) => slacks_any hW po ma ow ta ol ge ph ve si
      obtain ⟨lk, hlk⟩ : ∃ lk, lackP C ⟨po, ma, ow, ta, ol, ge, ph, ve, si⟩ = lk := ⟨_, rfl⟩
      rw [hlk] at hl
      have HL := Lib.hid hl
      have HLK := Lib.hid hlk
      clear hl hlk
      go_wp2_with fail
      refine (HL.out _ HS0.out).mono ?_
      rintro e w3 ⟨rfl, hc⟩
      replace HX0 := Lib.hid (HX0.out.trans hc (fun _ _ e => e))
      replace HQ0 := Lib.hid (HQ0.out.chg hc id)
      replace HS0 := Lib.hid (HS0.out.keep hc)
      clear hc y0 y1 y2 y3 y4 y5 y6 y7 y8 y9
      obtain ⟨y0, y1, y2, y3, y4, y5, y6, y7, y8, y9⟩ := cv_cells HQ0.out
      cases lk with
      | true =>
        have HV := Lib.hid (do_3 (C := C) (R := R) (c := ⟨⟨po, ma, ow, ta, ol, ge, ph, ve, si⟩, was⟩) HOK.out (Int.not_le.2 HNV.out) HLK.out)
        go_wp2_with fail
        go_ret
        exact ⟨ret_i10 HV.out.1.symm, by rw [HV.out.2]; exact HS0.out, HX0.out.mono (fun _ _ e => e.elim)⟩
      | false =>
        have hvr := fun (W : World) (hW : CS B W p bc br C R) => sver_any hW po
        obtain ⟨vr, hvv⟩ : ∃ vr, verP R po = vr := ⟨_, rfl⟩
        rw [hvv] at hvr
        have HVR := Lib.hid hvr
        have HVV := Lib.hid hvv
        clear hvr hvv
        have HKEEP : Hid (∀ W : World, Chg (fun _ => False) w3 W → (W.cell? ⟨w.heap.size, 0, none⟩ = some (.int .i64 po) ∧ W.cell? ⟨w.heap.size, 9, none⟩ = some (.int .i64 was))) := Lib.hid (fun W hw => by
          obtain ⟨x0, x1, x2, x3, x4, x5, x6, x7, x8, x9⟩ := cv_cells (HQ0.out.chg hw id)
          exact ⟨x0, x9⟩)
        have HXA := Lib.hid (Chg.refl (fun _ => False) w3).drew
        have HVA := Lib.hid (HVR.out _ (HS0.out.keep HXA.out))
        clear y0 y1 y2 y3 y4 y5 y6 y7 y8 y9
        go_wp2_with fail
        obtain ⟨y0, y9⟩ := HKEEP.out _ HXA.out
        go_region_held3 (fun w' => w'.cell? ⟨w.heap.size, 0, none⟩ = some (.int .i64 po) ∧ w'.cell? ⟨w.heap.size, 9, none⟩ = some (.int .i64 was))
          (first | with_reducible exact HKEEP.out _ HXA.out | with_reducible exact HKEEP.out _ HXB.out | fail)
          (first
            | (go_at_call 97; (with_reducible refine (HVA.out).mono ?_); rintro e wz ⟨rfl, hc⟩; have HXB := Lib.hid (HXA.out.trans hc (fun _ _ e => e)); clear hc)
            | fail)
        replace HX0 := Lib.hid (HX0.out.trans HXB.out (fun _ _ e => e))
        replace HQ0 := Lib.hid (HQ0.out.chg HXB.out id)
        replace HS0 := Lib.hid (HS0.out.keep HXB.out)
        clear HKEEP HXA HVA HXB y0 y9
        by_cases hwv : vr = was
        case neg =>
          have tw : (vr == was) = false := by simpa using hwv
          have sw : (vr != was) = true := by simpa using hwv
          have HV := Lib.hid (do_4 (C := C) (R := R) (c := ⟨⟨po, ma, ow, ta, ol, ge, ph, ve, si⟩, was⟩) HOK.out (Int.not_le.2 HNV.out) HLK.out (show verP R po ≠ was by rw [HVV.out]; exact hwv))
          clear hwv
          go_wp2_with fail
          go_ret
          exact ⟨ret_i10 HV.out.1.symm, by rw [HV.out.2]; exact HS0.out, HX0.out.mono (fun _ _ e => e.elim)⟩
        case pos =>
          subst hwv
          have ht := fun (W : World) (hW : CS B W p bc br C R) => staken_any hW po ma ow ta ol ge ph ve si
          obtain ⟨tk, htk⟩ : ∃ tk, takeP R ⟨po, ma, ow, ta, ol, ge, ph, ve, si⟩ = tk := ⟨_, rfl⟩
          rw [htk] at ht
          have HT := Lib.hid ht
          have HTK := Lib.hid htk
          clear ht htk
          obtain ⟨y0, y1, y2, y3, y4, y5, y6, y7, y8, y9⟩ := cv_cells HQ0.out
          go_wp2_with fail
          refine (HT.out _ HS0.out).mono ?_
          rintro e w5 ⟨rfl, hc⟩
          replace HX0 := Lib.hid (HX0.out.trans hc (fun _ _ e => e))
          replace HQ0 := Lib.hid (HQ0.out.chg hc id)
          replace HS0 := Lib.hid (HS0.out.keep hc)
          clear hc y0 y1 y2 y3 y4 y5 y6 y7 y8 y9
          obtain ⟨y0, y1, y2, y3, y4, y5, y6, y7, y8, y9⟩ := cv_cells HQ0.out
          cases tk with
          | true =>
            have HV := Lib.hid (do_5 (C := C) (R := R) (c := ⟨⟨po, ma, ow, ta, ol, ge, ph, ve, si⟩, vr⟩) HOK.out (Int.not_le.2 HNV.out) HLK.out HVV.out HTK.out)
            go_wp2_with fail
            go_ret
            exact ⟨ret_i10 HV.out.1.symm, by rw [HV.out.2]; exact HS0.out, HX0.out.mono (fun _ _ e => e.elim)⟩
          | false =>
            have HV := Lib.hid (do_6 (C := C) (R := R) (c := ⟨⟨po, ma, ow, ta, ol, ge, ph, ve, si⟩, vr⟩) HOK.out (Int.not_le.2 HNV.out) HLK.out HVV.out HTK.out)
            have hbd := RV.bd HOK.out
            have hpo : 0 ≤ po ∧ po ≤ 31 := hbd.1
            have h := HS0.out.drew
            obtain ⟨w6, hrun, him, hc⟩ := h.ro.put Tryz.underlying85 Tryz.underlying3 po (by omega) (.agg (RV.cs ⟨po, ma, ow, ta, ol, ge, ph, ve, si⟩))
            rw [show putF (fR R) po (.agg (RV.cs ⟨po, ma, ow, ta, ol, ge, ph, ve, si⟩)) = fR (putR R ⟨po, ma, ow, ta, ol, ge, ph, ve, si⟩) from fR_put R ⟨po, ma, ow, ta, ol, ge, ph, ve, si⟩] at him
            have HE : Hid (CS B w6 p bc br C (putR R ⟨po, ma, ow, ta, ol, ge, ph, ve, si⟩) ∧ Chg (fun k => k = br) w w6) := Lib.hid ⟨⟨h.bp, h.bbc, h.bbr, h.ne, h.blk.chg hc (h.ro.ne h.blk), h.ch.chg hc h.ne, him⟩, ((HX0.out.drew).mono (fun _ _ e => e.elim)).trans hc (fun _ _ e => e)⟩
            have hrun2 : (Instr.mapUpdate 85 (.map (some br)) (.int .i64 po) (.agg #[.int .i64 po, .int .u64 ma, .int .i64 ow, .int .i64 ta, .int .i64 ol, .int .i64 ge, .int .i64 ph, .int .i64 ve, .int .i64 si])).run Tryz.prog w5.drew = .ok () w6 := hrun
            obtain ⟨c0, c1⟩ := h.cells
            clear h him hc hrun hbd hpo
            go_wp2_with fail
            go_region
            go_wp2_with fail
            go_ret
            exact ⟨ret_i10 HV.out.1.symm, by rw [HV.out.2]; exact HE.out.1, HE.out.2⟩


end Go.Proofs.YtimgnogacanifaaGreat
