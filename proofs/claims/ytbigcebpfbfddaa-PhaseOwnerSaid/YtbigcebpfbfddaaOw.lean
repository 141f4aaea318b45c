/-
  Walk: rutterlaw09.PhaseOwner. Conditions: the acts are read in memory.
-/
import Derived.Test.YtbigcebpfbfddaaOu
import Derived.Test.YtbigcebpfbfddaaOv
import Derived.Deep.RegionHeld3
import Derived.Deep.DeepCutAuto
namespace Go.Proofs.Ytbigcebpfbfddaa
open Go.RowKit
set_option linter.unusedVariables false
set_option linter.unusedSimpArgs false

set_option maxRecDepth 100000 in
set_option maxHeartbeats 8000000 in
theorem powner_any (po ma ow ta ol ge ph ve si : Int) (A : Option Addr) (m lc : Nat) (l : List At9) (w : World) (h : AR9 w (fun k => k < w.heap.size) A m l) (hmc : m ≤ 9223372036854775807) : Calls Try.prog 4 #[.agg #[.int .i64 po, .int .u64 ma, .int .i64 ow, .int .i64 ta, .int .i64 ol, .int .i64 ge, .int .i64 ph, .int .i64 ve, .int .i64 si], .slice A m lc] w fun e w' => e = .returned (.bool true) ∧ Chg (fun _ => False) w w' := by
  have HL := Lib.hid h
  clear h
  have hr := fun W => rrow_any po ma ow ta ol ge ph ve si W
  unfold rvC at hr
  by_cases hok : rwR po ma ow ta ol ge ph ve si = true
  case neg =>
    have h : rwR po ma ow ta ol ge ph ve si = false := by simpa using hok
    rw [h] at hr
    have HRW := Lib.hid hr
    clear hr h hok
    have HQ0 : Blk (w.alloc (.cells #[.int .i64 po, .int .u64 ma, .int .i64 ow, .int .i64 ta, .int .i64 ol, .int .i64 ge, .int .i64 ph, .int .i64 ve, .int .i64 si] 25)) w.heap.size 25 (rvC po ma ow ta ol ge ph ve si) := blk_new rfl
    replace HQ0 := Lib.hid HQ0
    have HX0 := Lib.hid ((Chg.refl (fun _ => False) w).alloc (.cells #[.int .i64 po, .int .u64 ma, .int .i64 ow, .int .i64 ta, .int .i64 ol, .int .i64 ge, .int .i64 ph, .int .i64 ve, .int .i64 si] 25))
    go_enter Try.func4, Try.ntmps4
    go_upto_region 1 with fail
    generalize (w.alloc (.cells #[.int .i64 po, .int .u64 ma, .int .i64 ow, .int .i64 ta, .int .i64 ol, .int .i64 ge, .int .i64 ph, .int .i64 ve, .int .i64 si] 25)) = w1 at *
    obtain ⟨y0, y1, y2, y3, y4, y5, y6, y7, y8⟩ := rv_cells HQ0.out
    go_wp2_with fail
    refine (HRW.out _).mono ?_
    rintro e w2 ⟨rfl, hc⟩
    replace HX0 := Lib.hid (HX0.out.trans hc (fun _ _ e => e))
    replace HQ0 := Lib.hid (HQ0.out.chg hc id)
    clear hc y0 y1 y2 y3 y4 y5 y6 y7 y8
    go_wp2_with fail
    refine (alive9_any _).mono ?_
    rintro e w3 ⟨rfl, hc⟩
    replace HX0 := Lib.hid (HX0.out.trans hc (fun _ _ e => e))
    clear hc
    go_wp2_with fail
    go_ret
    exact ⟨rfl, HX0.out⟩
  have HOK := Lib.hid hok
  rw [hok] at hr
  have HRW := Lib.hid hr
  clear hr hok
  by_cases hm : 100 < m
  case pos =>
    have HQ0 : Blk (w.alloc (.cells #[.int .i64 po, .int .u64 ma, .int .i64 ow, .int .i64 ta, .int .i64 ol, .int .i64 ge, .int .i64 ph, .int .i64 ve, .int .i64 si] 25)) w.heap.size 25 (rvC po ma ow ta ol ge ph ve si) := blk_new rfl
    replace HQ0 := Lib.hid HQ0
    have HX0 := Lib.hid ((Chg.refl (fun _ => False) w).alloc (.cells #[.int .i64 po, .int .u64 ma, .int .i64 ow, .int .i64 ta, .int .i64 ol, .int .i64 ge, .int .i64 ph, .int .i64 ve, .int .i64 si] 25))
    go_enter Try.func4, Try.ntmps4
    go_upto_region 1 with fail
    generalize (w.alloc (.cells #[.int .i64 po, .int .u64 ma, .int .i64 ow, .int .i64 ta, .int .i64 ol, .int .i64 ge, .int .i64 ph, .int .i64 ve, .int .i64 si] 25)) = w1 at *
    obtain ⟨y0, y1, y2, y3, y4, y5, y6, y7, y8⟩ := rv_cells HQ0.out
    go_wp2_with fail
    refine (HRW.out _).mono ?_
    rintro e w2 ⟨rfl, hc⟩
    replace HX0 := Lib.hid (HX0.out.trans hc (fun _ _ e => e))
    replace HQ0 := Lib.hid (HQ0.out.chg hc id)
    clear hc y0 y1 y2 y3 y4 y5 y6 y7 y8
    go_wp2_with fail
    refine (alive9_any _).mono ?_
    rintro e w3 ⟨rfl, hc⟩
    replace HX0 := Lib.hid (HX0.out.trans hc (fun _ _ e => e))
    clear hc
    go_wp2_with fail
    go_ret
    exact ⟨rfl, HX0.out⟩
  have HQ0 : Blk (w.alloc (.cells #[.int .i64 po, .int .u64 ma, .int .i64 ow, .int .i64 ta, .int .i64 ol, .int .i64 ge, .int .i64 ph, .int .i64 ve, .int .i64 si] 25)) w.heap.size 25 (rvC po ma ow ta ol ge ph ve si) := blk_new rfl
  replace HQ0 := Lib.hid HQ0
  have HX0 := Lib.hid ((Chg.refl (fun _ => False) w).alloc (.cells #[.int .i64 po, .int .u64 ma, .int .i64 ow, .int .i64 ta, .int .i64 ol, .int .i64 ge, .int .i64 ph, .int .i64 ve, .int .i64 si] 25))
  go_enter Try.func4, Try.ntmps4
  go_upto_region 1 with fail
  generalize (w.alloc (.cells #[.int .i64 po, .int .u64 ma, .int .i64 ow, .int .i64 ta, .int .i64 ol, .int .i64 ge, .int .i64 ph, .int .i64 ve, .int .i64 si] 25)) = w1 at *
  obtain ⟨y0, y1, y2, y3, y4, y5, y6, y7, y8⟩ := rv_cells HQ0.out
  go_wp2_with fail
  refine (HRW.out _).mono ?_
  rintro e w2 ⟨rfl, hc⟩
  replace HX0 := Lib.hid (HX0.out.trans hc (fun _ _ e => e))
  replace HQ0 := Lib.hid (HQ0.out.chg hc id)
  clear hc y0 y1 y2 y3 y4 y5 y6 y7 y8
  clear HRW
  go_wp2_with fail
  go_loopg [6, 7, 8, 9, 10, 11] m (fun g i s7 s8 s9 s10 s11 wr => ∃ (j : Nat) (po ma ow ta ol ge ph ve si : Int), g = m - j ∧ j ≤ m ∧ i = .int .i64 (j : Int) ∧ Hid (Blk wr w.heap.size 25 (rvC po ma ow ta ol ge ph ve si)) ∧ Hid (rwR po ma ow ta ol ge ph ve si = true) ∧ Hid (Chg (fun _ => False) w wr))
  case atStart => exact ⟨0, po, ma, ow, ta, ol, ge, ph, ve, si, rfl, Nat.zero_le _, rfl, HQ0, HOK, HX0⟩
  case round =>
    clear HQ0 HOK HX0
    obtain ⟨j, po, ma, ow, ta, ol, ge, ph, ve, si, rfl, hj, rfl, HQ0, HOK, HX0⟩ := hrel
    by_cases hlt : j < m
    · have hh := HL.out.chg HX0.out (fun _ _ => id)
      obtain ⟨ad, rfl, -⟩ := hh.2 (by omega)
      have hjl : j < l.length := by have := HL.out.1; omega
      have hx : l[j]? = some l[j] := List.getElem?_eq_getElem hjl
      generalize l[j] = x at *
      obtain ⟨a0, a1, a2, a3, a4, hk, hvr⟩ := hh.at hx
      have hd := fun W => do9_any po ma ow ta ol ge ph ve si x.k x.who x.now x.mac x.vr W hk hvr
      obtain ⟨z0, z1, z2, z3, z4, z5, z6, z7, z8, ze, hz⟩ := num9 (r := do9 ⟨po, ma, ow, ta, ol, ge, ph, ve, si⟩ x.k x.who x.now x.mac x.vr)
      rw [hz] at hd
      have HD : Hid (∀ W, Calls _ _ _ W (HR9 z0 z1 z2 z3 z4 z5 z6 z7 z8 ze W)) := Lib.hid hd
      have HZ := Lib.hid hz
      have HHR := Lib.hid hh
      have HXX := Lib.hid hx
      clear hd hz hx hh
      obtain ⟨y0, y1, y2, y3, y4, y5, y6, y7, y8⟩ := rv_cells HQ0.out
      have HKEEP : Hid (∀ W : World, Chg (fun _ => False) wr W → (W.cell? ⟨w.heap.size, 0, none⟩ = some (.int .i64 po) ∧ W.cell? ⟨w.heap.size, 1, none⟩ = some (.int .u64 ma) ∧ W.cell? ⟨w.heap.size, 2, none⟩ = some (.int .i64 ow) ∧ W.cell? ⟨w.heap.size, 3, none⟩ = some (.int .i64 ta) ∧ W.cell? ⟨w.heap.size, 4, none⟩ = some (.int .i64 ol) ∧ W.cell? ⟨w.heap.size, 5, none⟩ = some (.int .i64 ge) ∧ W.cell? ⟨w.heap.size, 6, none⟩ = some (.int .i64 ph) ∧ W.cell? ⟨w.heap.size, 7, none⟩ = some (.int .i64 ve) ∧ W.cell? ⟨w.heap.size, 8, none⟩ = some (.int .i64 si) ∧ W.cell? (ad.add (j * 5)) = some (.int .u8 x.k) ∧ W.cell? ⟨(ad.add (j * 5)).block, (ad.add (j * 5)).off + 1, none⟩ = some (.int .i64 x.who) ∧ W.cell? ⟨(ad.add (j * 5)).block, (ad.add (j * 5)).off + 2, none⟩ = some (.int .i64 x.now) ∧ W.cell? ⟨(ad.add (j * 5)).block, (ad.add (j * 5)).off + 3, none⟩ = some (.int .u64 x.mac) ∧ W.cell? ⟨(ad.add (j * 5)).block, (ad.add (j * 5)).off + 4, none⟩ = some (.int .i64 x.vr))) := Lib.hid (fun W hw => by
        obtain ⟨x0, x1, x2, x3, x4, x5, x6, x7, x8⟩ := rv_cells (HQ0.out.chg hw id)
        obtain ⟨c0, c1, c2, c3, c4, -, -⟩ := (HHR.out.chg hw (fun _ _ => id)).at HXX.out
        exact ⟨x0, x1, x2, x3, x4, x5, x6, x7, x8, c0, c1, c2, c3, c4⟩)
      have HXA := Lib.hid (Chg.refl (fun _ => False) wr).drew
      have HXA2 := Lib.hid (((Chg.refl (fun _ => False) wr).alloc (.cells #[.int .i64 0, .int .u64 0, .int .i64 0, .int .i64 0, .int .i64 0, .int .i64 0, .int .i64 0, .int .i64 0, .int .i64 0] 25)).drew)
      have HNA := Lib.hid (show Blk (wr.alloc (.cells #[.int .i64 0, .int .u64 0, .int .i64 0, .int .i64 0, .int .i64 0, .int .i64 0, .int .i64 0, .int .i64 0, .int .i64 0] 25)).drew wr.heap.size 25 (rvC 0 0 0 0 0 0 0 0 0) from (blk_new rfl).drew)
      have HDA := Lib.hid (HD.out wr.drew)
      have HDB := Lib.hid (HD.out (wr.alloc (.cells #[.int .i64 0, .int .u64 0, .int .i64 0, .int .i64 0, .int .i64 0, .int .i64 0, .int .i64 0, .int .i64 0, .int .i64 0] 25)).drew)
      have HLT := Lib.hid (Blk.lt HQ0.out)
      clear y0 y1 y2 y3 y4 y5 y6 y7 y8 a0 a1 a2 a3 a4
      go_upto_region 7 with fail
      go_cut [7, 8] (fun s7 s8 wx => ∃ q, s7 = .pointer (some ⟨q, 0, none⟩) ∧ s8 = .int .i64 ze ∧ w.heap.size < q ∧ Blk wx q 25 (rvC z0 z1 z2 z3 z4 z5 z6 z7 z8) ∧ Chg (fun _ => False) wr wx)
      case first =>
        obtain ⟨y0, y1, y2, y3, y4, y5, y6, y7, y8, a0, a1, a2, a3, a4⟩ := HKEEP.out _ HXA.out
        go_region_held3 (fun w' => w'.cell? ⟨w.heap.size, 0, none⟩ = some (.int .i64 po) ∧ w'.cell? ⟨w.heap.size, 1, none⟩ = some (.int .u64 ma) ∧ w'.cell? ⟨w.heap.size, 2, none⟩ = some (.int .i64 ow) ∧ w'.cell? ⟨w.heap.size, 3, none⟩ = some (.int .i64 ta) ∧ w'.cell? ⟨w.heap.size, 4, none⟩ = some (.int .i64 ol) ∧ w'.cell? ⟨w.heap.size, 5, none⟩ = some (.int .i64 ge) ∧ w'.cell? ⟨w.heap.size, 6, none⟩ = some (.int .i64 ph) ∧ w'.cell? ⟨w.heap.size, 7, none⟩ = some (.int .i64 ve) ∧ w'.cell? ⟨w.heap.size, 8, none⟩ = some (.int .i64 si) ∧ w'.cell? (ad.add (j * 5)) = some (.int .u8 x.k) ∧ w'.cell? ⟨(ad.add (j * 5)).block, (ad.add (j * 5)).off + 1, none⟩ = some (.int .i64 x.who) ∧ w'.cell? ⟨(ad.add (j * 5)).block, (ad.add (j * 5)).off + 2, none⟩ = some (.int .i64 x.now) ∧ w'.cell? ⟨(ad.add (j * 5)).block, (ad.add (j * 5)).off + 3, none⟩ = some (.int .u64 x.mac) ∧ w'.cell? ⟨(ad.add (j * 5)).block, (ad.add (j * 5)).off + 4, none⟩ = some (.int .i64 x.vr))
          (first | with_reducible exact HKEEP.out _ HXA.out | with_reducible exact HKEEP.out _ HXA2.out | with_reducible exact HKEEP.out _ HXB.out | with_reducible exact HKEEP.out _ (HXB.out.alloc _) | with_reducible exact HKEEP.out _ HXC.out | with_reducible exact HKEEP.out _ HXD.out | fail)
          (first
            | (go_at_call 5; (with_reducible refine (HDA.out).mono ?_); rintro e wz ⟨rfl, hc⟩; have HXB := Lib.hid (HXA.out.trans hc (fun _ _ e => e)); have HSZ := Lib.hid hc.size; clear hc)
            | (go_at_call 5; (with_reducible refine (HDB.out).mono ?_); rintro e wz ⟨rfl, hc⟩; have HXC := Lib.hid (HXA2.out.trans hc (fun _ _ e => e)); have HNC := Lib.hid (HNA.out.chg hc id); clear hc; obtain ⟨n0, n1, n2, n3, n4, n5, n6, n7, n8⟩ := rv_cells HNC.out; obtain ⟨f0, f1, f2, f3, f4, f5, f6, f7, f8⟩ := rv_free9 HNC.out; obtain ⟨-, -, -, -, -, -, -, -, -, hN2, hcs⟩ := rv_put9 HNC.out z0 z1 z2 z3 z4 z5 z6 z7 z8; have HXD := Lib.hid (fresh_set HXC.out hcs (Nat.le_refl _)); have HND := Lib.hid hN2; clear hcs hN2)
            | fail)
        all_goals
          go_wp2_with fail
          go_meet
          first
            | exact ⟨wr.heap.size, rfl, rfl, HLT.out, HND.out, HXD.out⟩
            | exact ⟨wz.heap.size, rfl, rfl, Nat.lt_of_lt_of_le HLT.out HSZ.out, blk_new rfl, HXB.out.alloc _⟩
      case rest =>
        obtain ⟨q, rfl, rfl, hq, hb, hx2⟩ := hcut
        replace HQ0 := Lib.hid (HQ0.out.chg hx2 id)
        replace HX0 := Lib.hid (HX0.out.trans hx2 (fun _ _ e => e))
        replace HHR := Lib.hid (HHR.out.chg hx2 (fun _ _ => id))
        have HN := Lib.hid hb
        clear hb hx2 HKEEP HXA HXA2 HNA HDA HDB HLT HD
        by_cases he : ze = 0
        case neg =>
          have te : (ze != 0) = true := by rw [bne_iff_ne]; exact he
          clear he HZ
          go_wp2_with fail
          go_roundg (m - (j + 1))
          case measure => omega
          case rel => exact ⟨j + 1, po, ma, ow, ta, ol, ge, ph, ve, si, rfl, by omega, by go_num, HQ0, HOK, HX0⟩
        subst he
        obtain ⟨d1, d2, d3, d4⟩ := do_law HZ.out
        replace d1 : rwR z0 z1 z2 z3 z4 z5 z6 z7 z8 = true := d1
        replace d2 : z7 = ve + 1 := d2
        replace d3 : z0 = po := d3
        replace d4 : z5 = if oth9 ⟨po, ma, ow, ta, ol, ge, ph, ve, si⟩ ⟨z0, z1, z2, z3, z4, z5, z6, z7, z8⟩ x.k = true then ge + 1 else ge := d4
        have hbd := (ok_bounds HOK.out).2.1
        have hbg := (ok_bounds HOK.out).2.2.2.1
        have hr := fun W => rrow_any z0 z1 z2 z3 z4 z5 z6 z7 z8 W
        unfold rvC at hr
        rw [d1] at hr
        have HRZ := Lib.hid hr
        have HOZ := Lib.hid d1
        clear hr d1 HZ
        subst d2
        subst d3
        have td7 : (ve + 1 != ve + 1) = false := by simp
        have td0 : (z0 != z0) = false := by simp
        by_cases hk0 : x.k % 7 = 0
        case pos =>
          by_cases h1 : z2 = ow
          case pos =>
            have tk : (x.k % 7 == 0) = true := by simpa using hk0
            have d5 : ge + 1 = z5 := by rw [d4]; unfold oth9; simp [hk0, h1]
            subst d5
            clear d4
            have td5 : (ge + 1 != ge + 1) = false := by simp
            subst h1
            have t1 : (z2 != z2) = false := by simp
            obtain ⟨n0, n1, n2, n3, n4, n5, n6, n7, n8⟩ := rv_cells HN.out
            go_wp2_with fail
            refine (HRZ.out _).mono ?_
            rintro e w5 ⟨rfl, hc⟩
            replace HQ0 := Lib.hid (HQ0.out.chg hc id)
            replace HX0 := Lib.hid (HX0.out.trans hc (fun _ _ e => e))
            replace HHR := Lib.hid (HHR.out.chg hc (fun _ _ => id))
            replace HN := Lib.hid (HN.out.chg hc id)
            clear hc n0 n1 n2 n3 n4 n5 n6 n7 n8
            obtain ⟨n0, n1, n2, n3, n4, n5, n6, n7, n8⟩ := rv_cells HN.out
            obtain ⟨y0, y1, y2, y3, y4, y5, y6, y7, y8⟩ := rv_cells HQ0.out
            obtain ⟨f0, f1, f2, f3, f4, f5, f6, f7, f8⟩ := rv_free9 HQ0.out
            obtain ⟨a0, a1, a2, a3, a4, -, -⟩ := HHR.out.at HXX.out
            obtain ⟨-, -, -, -, -, -, -, -, -, hQ2, hcs⟩ := rv_put9 HQ0.out z0 z1 z2 z3 z4 (ge + 1) z6 (ve + 1) z8
            have HF := Lib.hid (fresh_set HX0.out hcs (Nat.le_refl _))
            have HQ2 := Lib.hid hQ2
            clear hcs hQ2 HHR HXX HX0 HOK HN HQ0
            go_wp2_with fail
            generalize (((((((((w5.setCell ⟨w.heap.size, 0, none⟩ (.int .i64 z0)).setCell ⟨w.heap.size, 1, none⟩ (.int .u64 z1)).setCell ⟨w.heap.size, 2, none⟩ (.int .i64 z2)).setCell ⟨w.heap.size, 3, none⟩ (.int .i64 z3)).setCell ⟨w.heap.size, 4, none⟩ (.int .i64 z4)).setCell ⟨w.heap.size, 5, none⟩ (.int .i64 (ge + 1))).setCell ⟨w.heap.size, 6, none⟩ (.int .i64 z6)).setCell ⟨w.heap.size, 7, none⟩ (.int .i64 (ve + 1))).setCell ⟨w.heap.size, 8, none⟩ (.int .i64 z8)) = w6 at *
            go_roundg (m - (j + 1))
            case measure => omega
            case rel => exact ⟨j + 1, z0, z1, z2, z3, z4, ge + 1, z6, ve + 1, z8, rfl, by omega, by go_num, HQ2, HOZ, HF⟩
          by_cases h2 : z2 = -1
          case pos =>
            have tk : (x.k % 7 == 0) = true := by simpa using hk0
            have d5 : ge + 1 = z5 := by rw [d4]; unfold oth9; simp [hk0, h1, h2]
            subst d5
            clear d4
            have td5 : (ge + 1 != ge + 1) = false := by simp
            have t1 : (z2 != ow) = true := by simpa using h1
            subst h2
            clear h1
            obtain ⟨n0, n1, n2, n3, n4, n5, n6, n7, n8⟩ := rv_cells HN.out
            go_wp2_with fail
            refine (HRZ.out _).mono ?_
            rintro e w5 ⟨rfl, hc⟩
            replace HQ0 := Lib.hid (HQ0.out.chg hc id)
            replace HX0 := Lib.hid (HX0.out.trans hc (fun _ _ e => e))
            replace HHR := Lib.hid (HHR.out.chg hc (fun _ _ => id))
            replace HN := Lib.hid (HN.out.chg hc id)
            clear hc n0 n1 n2 n3 n4 n5 n6 n7 n8
            obtain ⟨n0, n1, n2, n3, n4, n5, n6, n7, n8⟩ := rv_cells HN.out
            obtain ⟨y0, y1, y2, y3, y4, y5, y6, y7, y8⟩ := rv_cells HQ0.out
            obtain ⟨f0, f1, f2, f3, f4, f5, f6, f7, f8⟩ := rv_free9 HQ0.out
            obtain ⟨a0, a1, a2, a3, a4, -, -⟩ := HHR.out.at HXX.out
            obtain ⟨-, -, -, -, -, -, -, -, -, hQ2, hcs⟩ := rv_put9 HQ0.out z0 z1 (-1) z3 z4 (ge + 1) z6 (ve + 1) z8
            have HF := Lib.hid (fresh_set HX0.out hcs (Nat.le_refl _))
            have HQ2 := Lib.hid hQ2
            clear hcs hQ2 HHR HXX HX0 HOK HN HQ0
            go_wp2_with fail
            generalize (((((((((w5.setCell ⟨w.heap.size, 0, none⟩ (.int .i64 z0)).setCell ⟨w.heap.size, 1, none⟩ (.int .u64 z1)).setCell ⟨w.heap.size, 2, none⟩ (.int .i64 (-1))).setCell ⟨w.heap.size, 3, none⟩ (.int .i64 z3)).setCell ⟨w.heap.size, 4, none⟩ (.int .i64 z4)).setCell ⟨w.heap.size, 5, none⟩ (.int .i64 (ge + 1))).setCell ⟨w.heap.size, 6, none⟩ (.int .i64 z6)).setCell ⟨w.heap.size, 7, none⟩ (.int .i64 (ve + 1))).setCell ⟨w.heap.size, 8, none⟩ (.int .i64 z8)) = w6 at *
            go_roundg (m - (j + 1))
            case measure => omega
            case rel => exact ⟨j + 1, z0, z1, -1, z3, z4, ge + 1, z6, ve + 1, z8, rfl, by omega, by go_num, HQ2, HOZ, HF⟩
          have tk : (x.k % 7 == 0) = true := by simpa using hk0
          have d5 : ge + 1 = z5 := by rw [d4]; unfold oth9; simp [hk0, h1, h2]
          subst d5
          clear d4
          have td5 : (ge + 1 != ge + 1) = false := by simp
          have t1 : (z2 != ow) = true := by simpa using h1
          have t2 : (z2 != -1) = true := by simpa using h2
          clear h1 h2
          obtain ⟨n0, n1, n2, n3, n4, n5, n6, n7, n8⟩ := rv_cells HN.out
          go_wp2_with fail
          refine (HRZ.out _).mono ?_
          rintro e w5 ⟨rfl, hc⟩
          replace HQ0 := Lib.hid (HQ0.out.chg hc id)
          replace HX0 := Lib.hid (HX0.out.trans hc (fun _ _ e => e))
          replace HHR := Lib.hid (HHR.out.chg hc (fun _ _ => id))
          replace HN := Lib.hid (HN.out.chg hc id)
          clear hc n0 n1 n2 n3 n4 n5 n6 n7 n8
          obtain ⟨n0, n1, n2, n3, n4, n5, n6, n7, n8⟩ := rv_cells HN.out
          obtain ⟨y0, y1, y2, y3, y4, y5, y6, y7, y8⟩ := rv_cells HQ0.out
          obtain ⟨f0, f1, f2, f3, f4, f5, f6, f7, f8⟩ := rv_free9 HQ0.out
          obtain ⟨a0, a1, a2, a3, a4, -, -⟩ := HHR.out.at HXX.out
          obtain ⟨-, -, -, -, -, -, -, -, -, hQ2, hcs⟩ := rv_put9 HQ0.out z0 z1 z2 z3 z4 (ge + 1) z6 (ve + 1) z8
          have HF := Lib.hid (fresh_set HX0.out hcs (Nat.le_refl _))
          have HQ2 := Lib.hid hQ2
          clear hcs hQ2 HHR HXX HX0 HOK HN HQ0
          go_wp2_with fail
          generalize (((((((((w5.setCell ⟨w.heap.size, 0, none⟩ (.int .i64 z0)).setCell ⟨w.heap.size, 1, none⟩ (.int .u64 z1)).setCell ⟨w.heap.size, 2, none⟩ (.int .i64 z2)).setCell ⟨w.heap.size, 3, none⟩ (.int .i64 z3)).setCell ⟨w.heap.size, 4, none⟩ (.int .i64 z4)).setCell ⟨w.heap.size, 5, none⟩ (.int .i64 (ge + 1))).setCell ⟨w.heap.size, 6, none⟩ (.int .i64 z6)).setCell ⟨w.heap.size, 7, none⟩ (.int .i64 (ve + 1))).setCell ⟨w.heap.size, 8, none⟩ (.int .i64 z8)) = w6 at *
          go_roundg (m - (j + 1))
          case measure => omega
          case rel => exact ⟨j + 1, z0, z1, z2, z3, z4, ge + 1, z6, ve + 1, z8, rfl, by omega, by go_num, HQ2, HOZ, HF⟩
        by_cases h1 : z2 = ow
        case pos =>
          have tk : (x.k % 7 == 0) = false := by simpa using hk0
          have d5 : ge = z5 := by rw [d4]; unfold oth9; simp [hk0, h1]
          subst d5
          clear d4
          have td5 : (ge != ge) = false := by simp
          subst h1
          have t1 : (z2 != z2) = false := by simp
          obtain ⟨n0, n1, n2, n3, n4, n5, n6, n7, n8⟩ := rv_cells HN.out
          go_wp2_with fail
          refine (HRZ.out _).mono ?_
          rintro e w5 ⟨rfl, hc⟩
          replace HQ0 := Lib.hid (HQ0.out.chg hc id)
          replace HX0 := Lib.hid (HX0.out.trans hc (fun _ _ e => e))
          replace HHR := Lib.hid (HHR.out.chg hc (fun _ _ => id))
          replace HN := Lib.hid (HN.out.chg hc id)
          clear hc n0 n1 n2 n3 n4 n5 n6 n7 n8
          obtain ⟨n0, n1, n2, n3, n4, n5, n6, n7, n8⟩ := rv_cells HN.out
          obtain ⟨y0, y1, y2, y3, y4, y5, y6, y7, y8⟩ := rv_cells HQ0.out
          obtain ⟨f0, f1, f2, f3, f4, f5, f6, f7, f8⟩ := rv_free9 HQ0.out
          obtain ⟨a0, a1, a2, a3, a4, -, -⟩ := HHR.out.at HXX.out
          obtain ⟨-, -, -, -, -, -, -, -, -, hQ2, hcs⟩ := rv_put9 HQ0.out z0 z1 z2 z3 z4 ge z6 (ve + 1) z8
          have HF := Lib.hid (fresh_set HX0.out hcs (Nat.le_refl _))
          have HQ2 := Lib.hid hQ2
          clear hcs hQ2 HHR HXX HX0 HOK HN HQ0
          go_wp2_with fail
          generalize (((((((((w5.setCell ⟨w.heap.size, 0, none⟩ (.int .i64 z0)).setCell ⟨w.heap.size, 1, none⟩ (.int .u64 z1)).setCell ⟨w.heap.size, 2, none⟩ (.int .i64 z2)).setCell ⟨w.heap.size, 3, none⟩ (.int .i64 z3)).setCell ⟨w.heap.size, 4, none⟩ (.int .i64 z4)).setCell ⟨w.heap.size, 5, none⟩ (.int .i64 ge)).setCell ⟨w.heap.size, 6, none⟩ (.int .i64 z6)).setCell ⟨w.heap.size, 7, none⟩ (.int .i64 (ve + 1))).setCell ⟨w.heap.size, 8, none⟩ (.int .i64 z8)) = w6 at *
          go_roundg (m - (j + 1))
          case measure => omega
          case rel => exact ⟨j + 1, z0, z1, z2, z3, z4, ge, z6, ve + 1, z8, rfl, by omega, by go_num, HQ2, HOZ, HF⟩
        by_cases h2 : z2 = -1
        case pos =>
          have tk : (x.k % 7 == 0) = false := by simpa using hk0
          have d5 : ge = z5 := by rw [d4]; unfold oth9; simp [hk0, h1, h2]
          subst d5
          clear d4
          have td5 : (ge != ge) = false := by simp
          have t1 : (z2 != ow) = true := by simpa using h1
          subst h2
          clear h1
          obtain ⟨n0, n1, n2, n3, n4, n5, n6, n7, n8⟩ := rv_cells HN.out
          go_wp2_with fail
          refine (HRZ.out _).mono ?_
          rintro e w5 ⟨rfl, hc⟩
          replace HQ0 := Lib.hid (HQ0.out.chg hc id)
          replace HX0 := Lib.hid (HX0.out.trans hc (fun _ _ e => e))
          replace HHR := Lib.hid (HHR.out.chg hc (fun _ _ => id))
          replace HN := Lib.hid (HN.out.chg hc id)
          clear hc n0 n1 n2 n3 n4 n5 n6 n7 n8
          obtain ⟨n0, n1, n2, n3, n4, n5, n6, n7, n8⟩ := rv_cells HN.out
          obtain ⟨y0, y1, y2, y3, y4, y5, y6, y7, y8⟩ := rv_cells HQ0.out
          obtain ⟨f0, f1, f2, f3, f4, f5, f6, f7, f8⟩ := rv_free9 HQ0.out
          obtain ⟨a0, a1, a2, a3, a4, -, -⟩ := HHR.out.at HXX.out
          obtain ⟨-, -, -, -, -, -, -, -, -, hQ2, hcs⟩ := rv_put9 HQ0.out z0 z1 (-1) z3 z4 ge z6 (ve + 1) z8
          have HF := Lib.hid (fresh_set HX0.out hcs (Nat.le_refl _))
          have HQ2 := Lib.hid hQ2
          clear hcs hQ2 HHR HXX HX0 HOK HN HQ0
          go_wp2_with fail
          generalize (((((((((w5.setCell ⟨w.heap.size, 0, none⟩ (.int .i64 z0)).setCell ⟨w.heap.size, 1, none⟩ (.int .u64 z1)).setCell ⟨w.heap.size, 2, none⟩ (.int .i64 (-1))).setCell ⟨w.heap.size, 3, none⟩ (.int .i64 z3)).setCell ⟨w.heap.size, 4, none⟩ (.int .i64 z4)).setCell ⟨w.heap.size, 5, none⟩ (.int .i64 ge)).setCell ⟨w.heap.size, 6, none⟩ (.int .i64 z6)).setCell ⟨w.heap.size, 7, none⟩ (.int .i64 (ve + 1))).setCell ⟨w.heap.size, 8, none⟩ (.int .i64 z8)) = w6 at *
          go_roundg (m - (j + 1))
          case measure => omega
          case rel => exact ⟨j + 1, z0, z1, -1, z3, z4, ge, z6, ve + 1, z8, rfl, by omega, by go_num, HQ2, HOZ, HF⟩
        have tk : (x.k % 7 == 0) = false := by simpa using hk0
        have d5 : ge + 1 = z5 := by rw [d4]; unfold oth9; simp [hk0, h1, h2]
        subst d5
        clear d4
        have td5 : (ge + 1 != ge + 1) = false := by simp
        have t1 : (z2 != ow) = true := by simpa using h1
        have t2 : (z2 != -1) = true := by simpa using h2
        clear h1 h2
        obtain ⟨n0, n1, n2, n3, n4, n5, n6, n7, n8⟩ := rv_cells HN.out
        go_wp2_with fail
        refine (HRZ.out _).mono ?_
        rintro e w5 ⟨rfl, hc⟩
        replace HQ0 := Lib.hid (HQ0.out.chg hc id)
        replace HX0 := Lib.hid (HX0.out.trans hc (fun _ _ e => e))
        replace HHR := Lib.hid (HHR.out.chg hc (fun _ _ => id))
        replace HN := Lib.hid (HN.out.chg hc id)
        clear hc n0 n1 n2 n3 n4 n5 n6 n7 n8
        obtain ⟨n0, n1, n2, n3, n4, n5, n6, n7, n8⟩ := rv_cells HN.out
        obtain ⟨y0, y1, y2, y3, y4, y5, y6, y7, y8⟩ := rv_cells HQ0.out
        obtain ⟨f0, f1, f2, f3, f4, f5, f6, f7, f8⟩ := rv_free9 HQ0.out
        obtain ⟨a0, a1, a2, a3, a4, -, -⟩ := HHR.out.at HXX.out
        obtain ⟨-, -, -, -, -, -, -, -, -, hQ2, hcs⟩ := rv_put9 HQ0.out z0 z1 z2 z3 z4 (ge + 1) z6 (ve + 1) z8
        have HF := Lib.hid (fresh_set HX0.out hcs (Nat.le_refl _))
        have HQ2 := Lib.hid hQ2
        clear hcs hQ2 HHR HXX HX0 HOK HN HQ0
        go_wp2_with fail
        generalize (((((((((w5.setCell ⟨w.heap.size, 0, none⟩ (.int .i64 z0)).setCell ⟨w.heap.size, 1, none⟩ (.int .u64 z1)).setCell ⟨w.heap.size, 2, none⟩ (.int .i64 z2)).setCell ⟨w.heap.size, 3, none⟩ (.int .i64 z3)).setCell ⟨w.heap.size, 4, none⟩ (.int .i64 z4)).setCell ⟨w.heap.size, 5, none⟩ (.int .i64 (ge + 1))).setCell ⟨w.heap.size, 6, none⟩ (.int .i64 z6)).setCell ⟨w.heap.size, 7, none⟩ (.int .i64 (ve + 1))).setCell ⟨w.heap.size, 8, none⟩ (.int .i64 z8)) = w6 at *
        go_roundg (m - (j + 1))
        case measure => omega
        case rel => exact ⟨j + 1, z0, z1, z2, z3, z4, ge + 1, z6, ve + 1, z8, rfl, by omega, by go_num, HQ2, HOZ, HF⟩
    · have hjm : Hid (j = m) := by show j = m; omega
      go_wp2_with fail
      refine (alive9_any _).mono ?_
      rintro e w3 ⟨rfl, hc⟩
      replace HX0 := Lib.hid (HX0.out.trans hc (fun _ _ e => e))
      clear hc
      go_wp2_with fail
      go_ret
      exact ⟨rfl, HX0.out⟩

end Go.Proofs.Ytbigcebpfbfddaa
