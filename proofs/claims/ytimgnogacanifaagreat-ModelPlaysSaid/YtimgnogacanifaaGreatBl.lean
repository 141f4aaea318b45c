/-
  Walks: model.copied, Clone. Conditions: the model lies in memory, and holds what always holds.
-/
import Derived.Test.YtimgnogacanifaaGreatBj
namespace Go.Proofs.YtimgnogacanifaaGreat
open Go.RowKit
set_option linter.unusedVariables false
set_option linter.unusedSimpArgs false

set_option maxRecDepth 100000 in
set_option maxHeartbeats 8000000 in
theorem copied20_any {B : Nat} {w : World} {ps bc br : Nat} {C : Int → Bool} {R : Int → Option RV} (h : CS B w ps bc br C R) (hw : WF C R) : Calls Tryz.prog 20 #[.pointer (some ⟨ps, 0, none⟩)] w fun e w' => ∃ pn bn rn, e = .returned (.pointer (some ⟨pn, 0, none⟩)) ∧ CS w.heap.size w' pn bn rn C R ∧ Chg (fun _ => False) w w' := by
  have HS := Lib.hid h
  have HLT := Lib.hid h.lt3
  have HW := Lib.hid hw
  clear h hw
  go_enter Tryz.func20, Tryz.ntmps20
  go_wp2_with fail
  refine (snew_any w).mono ?_
  rintro e w1 ⟨rfl, hs, hc⟩
  have HN := Lib.hid hs
  have HX := Lib.hid hc
  generalize w.heap.size + 1 + 1 = pn at *
  obtain ⟨bn, hbn⟩ : ∃ bn, w.heap.size = bn := ⟨_, rfl⟩
  generalize hrn : w.heap.size + 1 = rn at *
  have HN : Hid (CS w.heap.size w1 pn bn rn (fun _ => false) (fun _ => none)) := Lib.hid (by rw [← hbn]; exact hs)
  replace HS := Lib.hid (HS.out.keep hc)
  clear hs hc hbn hrn
  have hc1 := schas_any HS.out
  have HC1 := Lib.hid hc1
  clear hc1
  go_wp2_with fail
  refine HC1.out.mono ?_
  rintro e w2 ⟨A, m, c, rfl, hm, hr, hc⟩
  have HSZ := Lib.hid HN.out.lt3
  replace HX := Lib.hid (HX.out.trans hc (fun _ _ e => e))
  replace HN := Lib.hid (HN.out.keep hc)
  replace HS := Lib.hid (HS.out.keep hc)
  have HL := Lib.hid hr
  have HLN := Lib.hid hm
  have hm32 : m ≤ 32 := by have := chas_len C; omega
  have HBN := Lib.hid HN.out.bbc
  clear hc hr hm HC1
  go_wp2_with fail
  go_loopg [5, 12] m (fun g s5 i wr => ∃ (j : Nat), g = m - j ∧ j ≤ m ∧ i = .int .i64 (j : Int) ∧ Hid (CS w.heap.size wr pn bn rn (((chasP C).take j).foldl addK (fun _ => false)) (fun _ => none)) ∧ Hid (Chg (fun k => k = bn) w2 wr))
  case atStart => exact ⟨0, rfl, Nat.zero_le _, rfl, HN, Lib.hid (Chg.refl _ _)⟩
  case round =>
    clear HN
    obtain ⟨j, rfl, hj, rfl, HN, HY⟩ := hrel
    by_cases hlt : j < m
    · have hh := HL.out.chg HY.out (fun k hk e => by have := HSZ.out; omega)
      obtain ⟨ad, rfl, -⟩ := hh.2 (by omega)
      have hjl : j < (chasP C).length := by have := HLN.out; omega
      have hx : (chasP C)[j]? = some (chasP C)[j] := List.getElem?_eq_getElem hjl
      generalize (chasP C)[j] = x at *
      have z0 := rds_at10 hh hx
      have HJ : Hid (((chasP C).take (j + 1)).foldl addK (fun _ => false) = addK (((chasP C).take j).foldl addK (fun _ => false)) x) := Lib.hid (by rw [take_succ' hx, List.foldl_append]; rfl)
      have ha := sadd_any HN.out x
      have HA := Lib.hid ha
      clear hh hx hjl ha
      go_wp2_with fail
      refine HA.out.mono ?_
      rintro e w3 ⟨rfl, hs, hc⟩
      have HN2 := Lib.hid hs
      replace HY := Lib.hid (HY.out.trans hc (fun _ _ e => e))
      clear z0 hs hc HA HN
      go_wp2_with fail
      go_roundg (m - (j + 1))
      case measure => omega
      case rel => exact ⟨j + 1, rfl, by omega, by go_num, Lib.hid (by rw [HJ.out]; exact HN2.out), HY⟩
    · have : j = m := by omega
      subst this
      have HN2 : Hid (CS w.heap.size wr pn bn rn C (fun _ => none)) := Lib.hid (by
        have h1 := HN.out
        rw [List.take_of_length_le (by have := HLN.out; omega), HW.out.chas20] at h1
        exact h1)
      replace HX := Lib.hid (fresh_put20 HX.out HY.out HBN.out)
      replace HS := Lib.hid (HS.out.chg HY.out (fun e => by have h1 := HLT.out; have h2 := HBN.out; omega) (fun e => by have h1 := HLT.out; have h2 := HBN.out; omega) (fun e => by have h1 := HLT.out; have h2 := HBN.out; omega))
      clear HN HY HL HLN
      go_wp2_with fail
      have hc1 := srows_any HS.out
      have HC1 := Lib.hid hc1
      clear hc1
      refine HC1.out.mono ?_
      rintro e w3 ⟨A2, m2, c2, rfl, hm2, hown, hc⟩
      have HSZ3 := Lib.hid HN2.out.lt3
      replace HX := Lib.hid (HX.out.trans hc (fun _ _ e => e))
      have HN := Lib.hid (HN2.out.keep hc)
      have HL := Lib.hid (own_sr rv_size hown hm2)
      have HLN := Lib.hid hm2
      have hm33 : m2 ≤ 32 := by have := rows_len R; omega
      have HBP := Lib.hid HN.out.bp
      clear hc hown hm2 HC1 HN2 HS
      go_wp2_with fail
      go_loopg [7, 23] m2 (fun g s7 i wr => ∃ (j rn' : Nat), g = m2 - j ∧ j ≤ m2 ∧ i = .int .i64 (j : Int) ∧ Hid (CS w.heap.size wr pn bn rn' C (((rowsP R).take j).foldl (cpR20 C) (fun _ => none))) ∧ Hid (Chg (fun k => k = pn) w3 wr))
      case atStart => exact ⟨0, rn, rfl, Nat.zero_le _, rfl, HN, Lib.hid (Chg.refl _ _)⟩
      case round =>
        clear HN
        obtain ⟨i, rn', rfl, hi, rfl, HN, HY⟩ := hrel
        by_cases hlt : i < m2
        · have hh := HL.out.chg HY.out (fun k hk e => by have := HSZ3.out; omega)
          obtain ⟨ad, rfl, -⟩ := hh.2 (by omega)
          have hjl : i < (rowsP R).length := by have := HLN.out; omega
          have hx : (rowsP R)[i]? = some (rowsP R)[i] := List.getElem?_eq_getElem hjl
          generalize (rowsP R)[i] = x at *
          have HJ : Hid (((rowsP R).take (i + 1)).foldl (cpR20 C) (fun _ => none) = cpR20 C (((rowsP R).take i).foldl (cpR20 C) (fun _ => none)) x) := Lib.hid (by rw [take_succ' hx, List.foldl_append]; rfl)
          obtain ⟨po, ma, ow, ta, ol, ge, ph, ve, si, rfl⟩ := rv_letters x
          obtain ⟨z0, z1, z2, z3, z4, z5, z6, z7, z8⟩ := sr_at9 hh hx
          generalize ((rowsP R).take i).foldl (cpR20 C) (fun _ => none) = Ri at *
          clear hh hx hjl
          go_upto_region 10 with fail
          clear z0 z1 z2 z3 z4 z5 z6 z7 z8
          have hc0 := (Chg.refl (fun _ => False) wr).alloc (.cells #[.int .i64 po, .int .u64 ma, .int .i64 ow, .int .i64 ta, .int .i64 ol, .int .i64 ge, .int .i64 ph, .int .i64 ve, .int .i64 si] 40)
          have HB : Hid (Blk (wr.alloc (.cells #[.int .i64 po, .int .u64 ma, .int .i64 ow, .int .i64 ta, .int .i64 ol, .int .i64 ge, .int .i64 ph, .int .i64 ve, .int .i64 si] 40)) wr.heap.size 40 (rvC po ma ow ta ol ge ph ve si)) := Lib.hid (blk_new rfl)
          replace HN := Lib.hid (HN.out.keep hc0)
          replace HY := Lib.hid (HY.out.trans (hc0.mono (S' := fun k => k = pn) (fun _ _ h => h.elim)) (fun _ _ e => e))
          clear hc0
          generalize wr.alloc (.cells #[.int .i64 po, .int .u64 ma, .int .i64 ow, .int .i64 ta, .int .i64 ol, .int .i64 ge, .int .i64 ph, .int .i64 ve, .int .i64 si] 40) = w4 at *
          generalize wr.heap.size = QB at *
          obtain ⟨y0, y1, y2, y3, y4, y5, y6, y7, y8⟩ := rv_cells HB.out
          have HYC := Lib.hid ((Chg.refl (fun k => k = pn) w4).alloc (.cells #[.int .i64 po, .int .u64 ma, .int .i64 ow, .int .i64 ta, .int .i64 ol, .int .i64 ge, .int .i64 ph, .int .i64 ve, .int .i64 si, .int .i64 0] 88))
          have hsl : Blk (w4.alloc (.cells #[.int .i64 po, .int .u64 ma, .int .i64 ow, .int .i64 ta, .int .i64 ol, .int .i64 ge, .int .i64 ph, .int .i64 ve, .int .i64 si, .int .i64 0] 88)) w4.heap.size 88 (CV.cs ⟨⟨po, ma, ow, ta, ol, ge, ph, ve, si⟩, 0⟩) := blk_new rfl
          have HAPP := Lib.hid (sapply_any (HN.out.keep ((Chg.refl (fun _ => False) w4).alloc (.cells #[.int .i64 po, .int .u64 ma, .int .i64 ow, .int .i64 ta, .int .i64 ol, .int .i64 ge, .int .i64 ph, .int .i64 ve, .int .i64 si, .int .i64 0] 88))) (some ⟨w4.heap.size, 0, none⟩) 1 1 [⟨⟨po, ma, ow, ta, ol, ge, ph, ve, si⟩, 0⟩] _ (sr_one17 hsl) (by decide))
          clear hsl
          go_wp2_with fail
          refine HAPP.out.mono ?_
          rintro e wz ⟨rn2, rfl, hs, hc⟩
          obtain ⟨-, hb⟩ := app_one17 C Ri ⟨⟨po, ma, ow, ta, ol, ge, ph, ve, si⟩, 0⟩
          rw [hb] at hs
          have HN2 := Lib.hid hs
          replace HY := Lib.hid (HY.out.trans (HYC.out.trans hc (fun _ _ e => e)) (fun _ _ e => e))
          clear hb hs hc HAPP HYC y0 y1 y2 y3 y4 y5 y6 y7 y8 HN
          go_wp2_with fail
          go_roundg (m2 - (i + 1))
          case measure => omega
          case rel => exact ⟨i + 1, rn2, rfl, by omega, by go_num, Lib.hid (by rw [HJ.out]; exact HN2.out), HY⟩
        · have : i = m2 := by omega
          subst this
          have HN2 : Hid (CS w.heap.size wr pn bn rn' C R) := Lib.hid (by
            have h1 := HN.out
            rw [List.take_of_length_le (by have := HLN.out; omega), HW.out.rows20] at h1
            exact h1)
          clear HN
          go_wp2_with fail
          go_ret
          exact ⟨pn, bn, rn', rfl, HN2.out, fresh_put20 HX.out HY.out HBP.out⟩
set_option maxRecDepth 100000 in
set_option maxHeartbeats 4000000 in
theorem clone20_any {B : Nat} {w : World} {p ps bc br : Nat} {C : Int → Bool} {R : Int → Option RV} {sp no : Int} (h : MM20 B w p ps bc br C R sp no) (hw : WF C R) : Calls Tryz.prog 7 #[.pointer (some ⟨p, 0, none⟩)] w fun e w' => ∃ p2 ps2 bc2 br2, e = .returned (.pointer (some ⟨p2, 0, none⟩)) ∧ MM20 w.heap.size w' p2 ps2 bc2 br2 C R sp no ∧ Chg (fun _ => False) w w' := by
  have HM := Lib.hid h
  have HW := Lib.hid hw
  clear h hw
  go_enter Tryz.func7, Tryz.ntmps7
  go_upto_region 3 with fail
  have HKEEP : Hid (∀ W : World, Chg (fun _ => False) w W → ((W.cell? ⟨p, 0, none⟩ = some (.pointer (some ⟨ps, 0, none⟩)) ∧ W.cell? ⟨p, 1, none⟩ = some (.int .i64 sp) ∧ W.cell? ⟨p, 2, none⟩ = some (.int .i64 no)))) := Lib.hid (fun W hw => (HM.out.keep hw).cells)
  have HY0 := Lib.hid (Chg.refl (fun _ => False) w).drew
  have hkk := HKEEP.out _ HY0.out
  obtain ⟨g0, g1, g2⟩ := hkk
  go_region_held3 (fun w' => (w'.cell? ⟨p, 0, none⟩ = some (.pointer (some ⟨ps, 0, none⟩)) ∧ w'.cell? ⟨p, 1, none⟩ = some (.int .i64 sp) ∧ w'.cell? ⟨p, 2, none⟩ = some (.int .i64 no)))
    (first | with_reducible exact HKEEP.out _ HY0.out | with_reducible exact HKEEP.out _ HY1.out | with_reducible exact HKEEP.out _ (HY1.out.alloc _) | fail)
    (first
      | (go_at_call 20; (with_reducible refine (copied20_any HM.out.cs.drew HW.out).mono ?_); rintro e wz ⟨pn, bn, rn, rfl, hs, hc⟩; have HY1 := Lib.hid (HY0.out.trans hc (fun _ _ e => e)); have HN := Lib.hid hs; clear hs hc)
      | fail)
  all_goals
    go_wp2_with fail
    go_ret
    exact ⟨_, _, _, _, rfl, ⟨HY1.out.size, blk_new rfl, HN.out.keep ((Chg.refl (fun _ => False) _).alloc _)⟩, HY1.out.alloc _⟩
set_option maxRecDepth 100000 in
set_option maxHeartbeats 1000000 in
theorem clone20_nil (w : World) : Calls Tryz.prog 7 #[.pointer none] w fun e w' => e = .returned (.pointer none) ∧ w = w' := by
  go_enter Tryz.func7, Tryz.ntmps7
  go_wp2_with fail
  go_ret
  exact ⟨rfl, rfl⟩

end Go.Proofs.YtimgnogacanifaaGreat
