/-
  Walk: rutterref20.Tick. Conditions: the document's model lies in memory, and holds what always holds.
-/
import Derived.Test.YtimgnogacanifaaGreatBn
namespace Go.Proofs.YtimgnogacanifaaGreat
open Go.RowKit
set_option linter.unusedVariables false
set_option linter.unusedSimpArgs false

theorem sets_wf20 {C : Int → Bool} : ∀ (l : List CV) (R : Int → Option RV), WF C R → WF C (l.foldl (setR20 C) R)
  | [], _, h => h
  | c :: l, R, h => sets_wf20 l _ (h.doR20 _)
set_option maxRecDepth 100000 in
set_option maxHeartbeats 2000000 in
theorem rmtick20_any {B : Nat} {w : World} {q qs : Nat} {C : Int → Bool} {R : Int → Option RV} {sp no : Int} (h : DM20 B w q qs C R sp no) (hw : WF C R) (hsp : 1 ≤ sp ∧ sp ≤ 2147483648) (now : Int) : Calls Tryz.prog 13 #[.pointer (some ⟨q, 0, none⟩), .int .i64 now] w (DocM20 B q qs (.int .i64 (tickM20 ⟨C, R, sp, no⟩ now).1) (tickM20 ⟨C, R, sp, no⟩ now).2 w) := by
  have HM := Lib.hid h
  have HW := Lib.hid hw
  obtain ⟨d0, d1, d2⟩ := h.cells
  clear h hw
  by_cases hb : now < no ∨ 1099511627776 < now
  · have HT : Hid (tickM20 ⟨C, R, sp, no⟩ now = (1, ⟨C, R, sp, no⟩)) := Lib.hid (if_pos hb)
    by_cases h1 : now < no
    · go_enter Tryz.func13, Tryz.ntmps13
      go_wp2_with fail
      go_ret
      exact ⟨qs, by rw [HT.out]; rfl, by rw [HT.out]; exact HM.out, Chg.refl _ _, .inl rfl⟩
    · have h2 : 1099511627776 < now := by omega
      go_enter Tryz.func13, Tryz.ntmps13
      go_wp2_with fail
      go_ret
      exact ⟨qs, by rw [HT.out]; rfl, by rw [HT.out]; exact HM.out, Chg.refl _ _, .inl rfl⟩
  · have HT : Hid (tickM20 ⟨C, R, sp, no⟩ now = (0, ⟨C, appK C (lateP R now sp) R, sp, now⟩)) := Lib.hid (if_neg hb)
    have h1 : ¬ 1099511627776 < now := by omega
    have h2 : ¬ now < no := by omega
    have f2 := HM.out.blk.frozen 2
    have hcs := (Chg.refl (fun k => k = q) w).put q 2 (fun _ => rfl) (.int .i64 now)
    have hset := HM.out.blk.set 2 (.int .i64 now)
    simp only [List.setIfInBounds_toArray, List.set_cons_zero, List.set_cons_succ] at hset
    have HP := Lib.hid hset
    have HS : Hid (DS _ qs C R) := Lib.hid (Blk.chg HM.out.ds hcs (fun e => HM.out.ne e.symm))
    have HCS := Lib.hid hcs
    have HLA := Lib.hid (HW.out.lates20 now sp)
    clear hcs hset hb
    go_enter Tryz.func13, Tryz.ntmps13
    go_upto_region 4 with fail
    clear d0 d1 d2 f2
    generalize w.setCell ⟨q, 2, none⟩ (.int .i64 now) = w1 at *
    have HKEEP : Hid (∀ W : World, Chg (fun _ => False) w1 W → ((W.cell? ⟨q, 0, none⟩ = some (.pointer (some ⟨qs, 0, none⟩)) ∧ W.cell? ⟨q, 1, none⟩ = some (.int .i64 sp)))) := Lib.hid (fun W hw => ⟨(HP.out.chg hw id).cell 0, (HP.out.chg hw id).cell 1⟩)
    have HY0 := Lib.hid (Chg.refl (fun _ => False) w1).drew
    have hkk := HKEEP.out _ HY0.out
    obtain ⟨g0, g1⟩ := hkk
    go_region_held3 (fun w' => (w'.cell? ⟨q, 0, none⟩ = some (.pointer (some ⟨qs, 0, none⟩)) ∧ w'.cell? ⟨q, 1, none⟩ = some (.int .i64 sp)))
      (first | with_reducible exact HKEEP.out _ HY0.out | with_reducible exact HKEEP.out _ HY1.out | fail)
      (first
        | (go_at_call 30; (with_reducible refine (dslate_any HS.out.drew HW.out now sp (by omega)).mono ?_); rintro e wy ⟨A, m, c, rfl, hn, hown, hc⟩; have HY1 := Lib.hid (HY0.out.trans hc (fun _ _ e => e)); have HL := Lib.hid (own_sr cv_size hown hn); have HLN := Lib.hid hn; have hm32 : m ≤ 32 := (by have := late_len R now sp; omega); clear hc hown hn)
        | fail)
    all_goals
      replace HS : Hid (DS wy qs C R) := Lib.hid (Blk.chg HS.out HY1.out id)
      replace HP := Lib.hid (HP.out.chg HY1.out id)
      have HLQ : Hid (q < w1.heap.size ∧ qs < w1.heap.size) := Lib.hid (by
        have h1 := HM.out.lt
        have h2 := HCS.out.size
        omega)
      clear g0 g1 HKEEP
      go_wp2_with fail
      go_loopg [6] m (fun g i wr => ∃ (j : Nat), g = m - j ∧ j ≤ m ∧ i = .int .i64 (j : Int) ∧ Hid (DS wr qs C (((lateP R now sp).take j).foldl (setR20 C) R)) ∧ Hid (Chg (fun k => k = qs) wy wr))
      case atStart => exact ⟨0, rfl, Nat.zero_le _, rfl, HS, Lib.hid (Chg.refl _ _)⟩
      case round =>
        clear HS
        obtain ⟨i, rfl, hi, rfl, HS, HY⟩ := hrel
        have HWI : Hid (WF C (((lateP R now sp).take i).foldl (setR20 C) R)) := Lib.hid (sets_wf20 _ _ HW.out)
        by_cases hlt : i < m
        · have hh := HL.out.chg HY.out (fun k hk e => by have h1 := HLQ.out; have h2 : w1.heap.size ≤ k := hk.1; omega)
          obtain ⟨ad, rfl, hs1, hs2, -⟩ := hh.2 (by omega)
          have hjl : i < (lateP R now sp).length := by have := HLN.out; omega
          have hx : (lateP R now sp)[i]? = some (lateP R now sp)[i] := List.getElem?_eq_getElem hjl
          generalize (lateP R now sp)[i] = x at *
          have HJ : Hid (((lateP R now sp).take (i + 1)).foldl (setR20 C) R = setR20 C (((lateP R now sp).take i).foldl (setR20 C) R) x) := Lib.hid (by rw [take_succ' hx, List.foldl_append]; rfl)
          obtain ⟨xr, was⟩ := x
          obtain ⟨po, ma, ow, ta, ol, ge, ph, ve, si, rfl⟩ := rv_letters xr
          generalize ((lateP R now sp).take i).foldl (setR20 C) R = Ri at *
          have HSET := Lib.hid (set17_any HS.out.drew HWI.out po ma ow ta ol ge ph ve si)
          have HK2 : Hid (∀ W : World, Chg (fun k => k = qs) wr W → ((W.cell? ⟨q, 0, none⟩ = some (.pointer (some ⟨qs, 0, none⟩)) ∧ W.cell? (ad.add (i * 10)) = some (.int .i64 po) ∧ W.cell? ⟨(ad.add (i * 10)).block, (ad.add (i * 10)).off + 1, none⟩ = some (.int .u64 ma) ∧ W.cell? ⟨(ad.add (i * 10)).block, (ad.add (i * 10)).off + 2, none⟩ = some (.int .i64 ow) ∧ W.cell? ⟨(ad.add (i * 10)).block, (ad.add (i * 10)).off + 3, none⟩ = some (.int .i64 ta) ∧ W.cell? ⟨(ad.add (i * 10)).block, (ad.add (i * 10)).off + 4, none⟩ = some (.int .i64 ol) ∧ W.cell? ⟨(ad.add (i * 10)).block, (ad.add (i * 10)).off + 5, none⟩ = some (.int .i64 ge) ∧ W.cell? ⟨(ad.add (i * 10)).block, (ad.add (i * 10)).off + 6, none⟩ = some (.int .i64 ph) ∧ W.cell? ⟨(ad.add (i * 10)).block, (ad.add (i * 10)).off + 7, none⟩ = some (.int .i64 ve) ∧ W.cell? ⟨(ad.add (i * 10)).block, (ad.add (i * 10)).off + 8, none⟩ = some (.int .i64 si)))) := Lib.hid (fun W hw => by
            have hY := HY.out.trans hw (fun _ _ e => e)
            obtain ⟨z0, z1, z2, z3, z4, z5, z6, z7, z8, -⟩ := sr_at10 (HL.out.chg hY (fun k hk e => by have h1 := HLQ.out; have h2 : w1.heap.size ≤ k := hk.1; omega)) hx
            exact ⟨(HP.out.chg hY HM.out.ne).cell 0, z0, z1, z2, z3, z4, z5, z6, z7, z8⟩)
          have HXA := Lib.hid (Chg.refl (fun k => k = qs) wr).drew
          clear hh hx hjl hs1 hs2
          go_upto_region 8 with fail
          have hkk := HK2.out _ HXA.out
          obtain ⟨g0, g1, g2, g3, g4, g5, g6, g7, g8, g9⟩ := hkk
          go_region_held3 (fun w' => (w'.cell? ⟨q, 0, none⟩ = some (.pointer (some ⟨qs, 0, none⟩)) ∧ w'.cell? (ad.add (i * 10)) = some (.int .i64 po) ∧ w'.cell? ⟨(ad.add (i * 10)).block, (ad.add (i * 10)).off + 1, none⟩ = some (.int .u64 ma) ∧ w'.cell? ⟨(ad.add (i * 10)).block, (ad.add (i * 10)).off + 2, none⟩ = some (.int .i64 ow) ∧ w'.cell? ⟨(ad.add (i * 10)).block, (ad.add (i * 10)).off + 3, none⟩ = some (.int .i64 ta) ∧ w'.cell? ⟨(ad.add (i * 10)).block, (ad.add (i * 10)).off + 4, none⟩ = some (.int .i64 ol) ∧ w'.cell? ⟨(ad.add (i * 10)).block, (ad.add (i * 10)).off + 5, none⟩ = some (.int .i64 ge) ∧ w'.cell? ⟨(ad.add (i * 10)).block, (ad.add (i * 10)).off + 6, none⟩ = some (.int .i64 ph) ∧ w'.cell? ⟨(ad.add (i * 10)).block, (ad.add (i * 10)).off + 7, none⟩ = some (.int .i64 ve) ∧ w'.cell? ⟨(ad.add (i * 10)).block, (ad.add (i * 10)).off + 8, none⟩ = some (.int .i64 si)))
            (first | with_reducible exact HK2.out _ HXA.out | with_reducible exact HK2.out _ HXB.out | fail)
            (first
              | (go_at_call 31; (with_reducible refine HSET.out.mono ?_); rintro e wz ⟨rfl, hs, hc⟩; have HXB := Lib.hid (HXA.out.trans hc (fun _ _ e => e)); have HSZ := Lib.hid hs; clear hs hc)
              | fail)
          all_goals
            replace HY := Lib.hid (HY.out.trans HXB.out (fun _ _ e => e))
            clear g0 g1 g2 g3 g4 g5 g6 g7 g8 g9 HK2 HXA HXB HSET
            go_wp2_with fail
            go_roundg (m - (i + 1))
            case measure => omega
            case rel => exact ⟨i + 1, rfl, by omega, by go_num, Lib.hid (by rw [HJ.out]; exact HSZ.out), HY⟩
        · have : i = m := by omega
          subst this
          have HS2 : Hid (DS wr qs C (appK C (lateP R now sp) R)) := Lib.hid (by
            have h1 := HS.out
            rw [List.take_of_length_le (by have := HLN.out; omega)] at h1
            rw [show appK C (lateP R now sp) R = (lateP R now sp).foldl (setR20 C) R from by unfold appK; rw [HLA.out]; exact if_pos rfl]
            exact h1)
          clear HS
          go_wp2_with fail
          go_ret
          exact ⟨qs, by rw [HT.out]; rfl, by rw [HT.out]; exact ⟨HM.out.bq, HM.out.bs, HP.out.chg HY.out HM.out.ne, HS2.out⟩, ((HCS.out.mono (fun k _ e => .inl e)).trans HY1.out (fun _ _ e => e.elim)).trans HY.out (fun k _ e => .inr e), .inl rfl⟩

end Go.Proofs.YtimgnogacanifaaGreat
