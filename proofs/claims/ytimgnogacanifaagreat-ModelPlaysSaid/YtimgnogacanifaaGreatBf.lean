/-
  Walks: model.bind, act over any closure, the closures of Drop, Start, Commit, Abort, Awake. Conditions: the model lies in memory.
-/
import Derived.Test.YtimgnogacanifaaGreatBe
import Derived.Test.YtimgnogacanifaaGreatM7
namespace Go.Proofs.YtimgnogacanifaaGreat
open Go.RowKit
set_option linter.unusedVariables false
set_option linter.unusedSimpArgs false

set_option maxRecDepth 100000 in
set_option maxHeartbeats 8000000 in
theorem bind20_any {B : Nat} {w : World} {p ps bc br : Nat} {C : Int → Bool} {R : Int → Option RV} {sp no : Int} (h : MM20 B w p ps bc br C R sp no) (hw : WF C R) (op po ch ma : Int) : Calls Tryz.prog 43 #[.pointer (some ⟨p, 0, none⟩), .agg #[.int .i64 op, .int .i64 po, .int .i64 ch, .int .u64 ma]] w (BecP20 B p ps bc (becP20 ⟨C, R, sp, no⟩ (bind17 R po ch ma no)) w) := by
  have hc0 := ((Chg.refl (fun _ => False) w).alloc (.cells #[.int .i64 op, .int .i64 po, .int .i64 ch, .int .u64 ma] 33)).alloc (.cells #[.int .i64 0, .int .u64 0, .int .i64 0, .int .i64 0, .int .i64 0, .int .i64 0, .int .i64 0, .int .i64 0, .int .i64 0] 40)
  have HM := Lib.hid (h.keep hc0)
  have HB : Hid (Blk ((w.alloc (.cells #[.int .i64 op, .int .i64 po, .int .i64 ch, .int .u64 ma] 33)).alloc (.cells #[.int .i64 0, .int .u64 0, .int .i64 0, .int .i64 0, .int .i64 0, .int .i64 0, .int .i64 0, .int .i64 0, .int .i64 0] 40)) w.heap.size 33 #[.int .i64 op, .int .i64 po, .int .i64 ch, .int .u64 ma]) := Lib.hid ((blk_new rfl).alloc _)
  have HZ : Hid (Blk ((w.alloc (.cells #[.int .i64 op, .int .i64 po, .int .i64 ch, .int .u64 ma] 33)).alloc (.cells #[.int .i64 0, .int .u64 0, .int .i64 0, .int .i64 0, .int .i64 0, .int .i64 0, .int .i64 0, .int .i64 0, .int .i64 0] 40)) (w.heap.size + 1) 40 (rvC 0 0 0 0 0 0 0 0 0)) := Lib.hid (blk_new (by simp))
  have HX := Lib.hid hc0
  have HLT := Lib.hid h.lt
  have hw1s : ((w.alloc (.cells #[.int .i64 op, .int .i64 po, .int .i64 ch, .int .u64 ma] 33)).alloc (.cells #[.int .i64 0, .int .u64 0, .int .i64 0, .int .i64 0, .int .i64 0, .int .i64 0, .int .i64 0, .int .i64 0, .int .i64 0] 40)).heap.size = w.heap.size + 1 + 1 := by simp
  clear h hc0
  go_enter Tryz.func43, Tryz.ntmps43
  go_upto_region 1 with fail
  generalize (w.alloc (.cells #[.int .i64 op, .int .i64 po, .int .i64 ch, .int .u64 ma] 33)).alloc (.cells #[.int .i64 0, .int .u64 0, .int .i64 0, .int .i64 0, .int .i64 0, .int .i64 0, .int .i64 0, .int .i64 0, .int .i64 0] 40) = w1 at *
  generalize hq1 : w.heap.size + 1 = Q1 at HZ ⊢
  generalize hq0 : w.heap.size = Q0 at HB hq1 ⊢
  have HQ : Hid (w.heap.size ≤ Q1) := Lib.hid (by omega)
  have HQQ : Hid (Q0 < w1.heap.size ∧ Q1 < w1.heap.size) := Lib.hid (by omega)
  have HNE : Hid (¬ Mv20 p ps bc Q1 ∧ ¬ p = Q1 ∧ ¬ ps = Q1 ∧ ¬ bc = Q1) := Lib.hid (by have h1 := HLT.out; unfold Mv20; omega)
  have HNE0 : Hid (¬ Mv20 p ps bc Q0 ∧ ¬ Q0 = Q1) := Lib.hid (by have h1 := HLT.out; unfold Mv20; omega)
  clear hq1 hq0 hw1s
  obtain ⟨v, hv⟩ : ∃ v, rowB10 (R po) = v := ⟨_, rfl⟩
  have HROW0 := fun (W : World) (hW : Chg (fun _ => False) w1 W) => srow_any (HM.out.keep hW).cs po
  rw [hv] at HROW0
  obtain ⟨⟨a0, a1, a2, a3, a4, a5, a6, a7, a8⟩, vb⟩ := v
  have HV0 := Lib.hid hv
  have HROW2 : Hid (∀ (W : World), Chg (fun _ => False) w1 W → Calls _ _ _ W (HB9 a0 a1 a2 a3 a4 a5 a6 a7 a8 vb W)) := Lib.hid HROW0
  clear HROW0 hv
  have HKEEP : Hid (∀ W : World, Chg (fun _ => False) w1 W → ((W.cell? ⟨p, 0, none⟩ = some (.pointer (some ⟨ps, 0, none⟩)) ∧ W.cell? ⟨p, 2, none⟩ = some (.int .i64 no) ∧ W.cell? ⟨Q0, 0, none⟩ = some (.int .i64 op) ∧ W.cell? ⟨Q0, 1, none⟩ = some (.int .i64 po) ∧ W.cell? ⟨Q0, 2, none⟩ = some (.int .i64 ch) ∧ W.cell? ⟨Q0, 3, none⟩ = some (.int .u64 ma)))) := Lib.hid (fun W hw => by
    exact ⟨(HM.out.blk.chg hw id).cell 0, (HM.out.blk.chg hw id).cell 2, cl_cells17 (HB.out.chg hw id)⟩
  )
  have HXA := Lib.hid (Chg.refl (fun _ => False) w1).drew
  have HXA2 := Lib.hid (((Chg.refl (fun _ => False) w1).alloc (.cells #[.int .i64 0, .int .u64 0, .int .i64 0, .int .i64 0, .int .i64 0, .int .i64 0, .int .i64 0, .int .i64 0, .int .i64 0] 40)).drew)
  have HNA : Hid (Blk (w1.alloc (.cells #[.int .i64 0, .int .u64 0, .int .i64 0, .int .i64 0, .int .i64 0, .int .i64 0, .int .i64 0, .int .i64 0, .int .i64 0] 40)).drew w1.heap.size 40 (rvC 0 0 0 0 0 0 0 0 0)) := Lib.hid (blk_new rfl).drew
  go_upto_region 1 with fail
  go_cut [6, 7] (fun s6 s7 wx => BX17 40 #[.int .i64 a0, .int .u64 a1, .int .i64 a2, .int .i64 a3, .int .i64 a4, .int .i64 a5, .int .i64 a6, .int .i64 a7, .int .i64 a8] (.bool vb) w1 s6 s7 wx)
  case first =>
    have hkk := HKEEP.out _ HXA.out
    obtain ⟨g0, g1, g2, g3, g4, g5⟩ := hkk
    go_region_held3 (fun w' => (w'.cell? ⟨p, 0, none⟩ = some (.pointer (some ⟨ps, 0, none⟩)) ∧ w'.cell? ⟨p, 2, none⟩ = some (.int .i64 no) ∧ w'.cell? ⟨Q0, 0, none⟩ = some (.int .i64 op) ∧ w'.cell? ⟨Q0, 1, none⟩ = some (.int .i64 po) ∧ w'.cell? ⟨Q0, 2, none⟩ = some (.int .i64 ch) ∧ w'.cell? ⟨Q0, 3, none⟩ = some (.int .u64 ma)))
      (first | with_reducible exact HKEEP.out _ HXA.out | with_reducible exact HKEEP.out _ HXA2.out | with_reducible exact HKEEP.out _ HXB.out | with_reducible exact HKEEP.out _ (HXB.out.alloc _) | with_reducible exact HKEEP.out _ HXC.out | with_reducible exact HKEEP.out _ HXD.out | fail)
      (first
        | (go_at_call 77; (with_reducible refine (HROW2.out w1.drew HXA.out).mono ?_); rintro e wz ⟨rfl, hc⟩; have HXB := Lib.hid (HXA.out.trans hc (fun _ _ e => e)); clear hc)
        | (go_at_call 77; (with_reducible refine (HROW2.out (w1.alloc (.cells #[.int .i64 0, .int .u64 0, .int .i64 0, .int .i64 0, .int .i64 0, .int .i64 0, .int .i64 0, .int .i64 0, .int .i64 0] 40)).drew HXA2.out).mono ?_); rintro e wz ⟨rfl, hc⟩; have HXC := Lib.hid (HXA2.out.trans hc (fun _ _ e => e)); have HNC := Lib.hid (HNA.out.chg hc id); obtain ⟨x0, x1, x2, x3, x4, x5, x6, x7, x8⟩ := rv_cells HNC.out; obtain ⟨u0, u1, u2, u3, u4, u5, u6, u7, u8⟩ := rv_free9 HNC.out; obtain ⟨-, -, -, -, -, -, -, -, -, hcs⟩ := rv_put17 HNC.out rfl a0 a1 a2 a3 a4 a5 a6 a7 a8; have hset := rv_set17 HNC.out a0 a1 a2 a3 a4 a5 a6 a7 a8; have HXD := Lib.hid (fresh_set HXC.out hcs (Nat.le_refl _)); have HWB : Hid (BX17 40 #[.int .i64 a0, .int .u64 a1, .int .i64 a2, .int .i64 a3, .int .i64 a4, .int .i64 a5, .int .i64 a6, .int .i64 a7, .int .i64 a8] (.bool vb) w1 (.pointer (some ⟨w1.heap.size, 0, none⟩)) (.bool vb) (((((((((wz.setCell ⟨w1.heap.size, 0, none⟩ (.int .i64 a0)).setCell ⟨w1.heap.size, 1, none⟩ (.int .u64 a1)).setCell ⟨w1.heap.size, 2, none⟩ (.int .i64 a2)).setCell ⟨w1.heap.size, 3, none⟩ (.int .i64 a3)).setCell ⟨w1.heap.size, 4, none⟩ (.int .i64 a4)).setCell ⟨w1.heap.size, 5, none⟩ (.int .i64 a5)).setCell ⟨w1.heap.size, 6, none⟩ (.int .i64 a6)).setCell ⟨w1.heap.size, 7, none⟩ (.int .i64 a7)).setCell ⟨w1.heap.size, 8, none⟩ (.int .i64 a8))) := Lib.hid ⟨_, rfl, rfl, hset, HXD.out, Nat.le_refl _⟩; clear hset hcs hc)
        | fail)
    all_goals
      go_wp2_with fail
      go_meet
      first
        | exact HWB.out
        | exact ⟨wz.heap.size, rfl, rfl, blk_new rfl, HXB.out.alloc _, HXB.out.size⟩
  case rest =>
    obtain ⟨QB, rfl, rfl, hbx, hcx, hqx⟩ := hcut
    have HBX := Lib.hid hbx
    have HCX := Lib.hid hcx
    have HQX := Lib.hid hqx
    clear hbx hcx hqx HKEEP HXA HXA2 HNA
    replace HM := Lib.hid (HM.out.keep HCX.out)
    replace HB := Lib.hid (HB.out.chg HCX.out id)
    replace HZ := Lib.hid (HZ.out.chg HCX.out id)
    have HSZ := Lib.hid HX.out.size
    replace HX := Lib.hid (HX.out.trans HCX.out (fun _ _ e => e))
    clear HCX HROW2
    rcases rowB_cases20 HV0.out with ⟨rfl, hR⟩ | ⟨rfl, hR⟩
    · clear HV0 HBX HQX
      have hve : bind17 R po ch ma no = new9 po ma ch no := by unfold bind17; rw [hR]
      obtain ⟨f0, f1, f2, f3, f4, f5, f6, f7, f8, fe, hv⟩ := num9 (r := new9 po ma ch no)
      have hft := hw.fitB20 po ch ma no
      have HEQ := Lib.hid (hve.trans hv)
      rw [HEQ.out] at hft
      have hcl := fun (W : World) => pnew_any po ma ch no W
      rw [hv] at hcl
      obtain ⟨b0, b1, b2, b3, b4, b5, b6, b7, b8, be, C2, R2, sp2, no2, hbp⟩ := num9b (becP20 ⟨C, R, sp, no⟩ (⟨f0, f1, f2, f3, f4, f5, f6, f7, f8⟩, fe))
      have hno := bec_no20 ⟨C, R, sp, no⟩ (⟨f0, f1, f2, f3, f4, f5, f6, f7, f8⟩, fe)
      have hbe := fun (W : World) (hW : MM20 B W p ps bc br C R sp no) => becomes20_any hW f0 f1 f2 f3 f4 f5 f6 f7 f8 fe hft
      rw [hbp] at hno hbe
      obtain ⟨hno, hsp⟩ := hno
      change no2 = no at hno
      change sp2 = sp at hsp
      subst hno
      subst hsp
      have HBEC : Hid (∀ W, MM20 B W p ps bc br C R sp2 no2 → Calls _ _ _ W (fun e w' => ∃ br', e = .returned (.tuple #[.agg #[.int .i64 b0, .int .u64 b1, .int .i64 b2, .int .i64 b3, .int .i64 b4, .int .i64 b5, .int .i64 b6, .int .i64 b7, .int .i64 b8], .int .i64 be]) ∧ MM20 B w' p ps bc br' C2 R2 sp2 no2 ∧ Chg (Mv20 p ps bc) W w')) := Lib.hid hbe
      have HBP := Lib.hid ((congrArg (becP20 _) HEQ.out).trans hbp)
      clear hbe hbp hft
      have HACT : Hid (∀ W, Calls _ _ _ W (HR9 f0 f1 f2 f3 f4 f5 f6 f7 f8 fe W)) := Lib.hid hcl
      clear hcl hv HEQ hve hR
      go_upto_region 3 with fail
      have HK1 : Hid (∀ W : World, Chg (fun _ => False) wc W → ((W.cell? ⟨p, 2, none⟩ = some (.int .i64 no2) ∧ W.cell? ⟨Q0, 0, none⟩ = some (.int .i64 op) ∧ W.cell? ⟨Q0, 1, none⟩ = some (.int .i64 po) ∧ W.cell? ⟨Q0, 2, none⟩ = some (.int .i64 ch) ∧ W.cell? ⟨Q0, 3, none⟩ = some (.int .u64 ma)))) := Lib.hid (fun W hw => by
        exact ⟨(HM.out.blk.chg hw id).cell 2, cl_cells17 (HB.out.chg hw id)⟩
      )
      have HY0 := Lib.hid (Chg.refl (fun _ => False) wc).drew
      have hkk := HK1.out _ HY0.out
      obtain ⟨g0, g1, g2, g3, g4⟩ := hkk
      go_region_held3 (fun w' => (w'.cell? ⟨p, 2, none⟩ = some (.int .i64 no2) ∧ w'.cell? ⟨Q0, 0, none⟩ = some (.int .i64 op) ∧ w'.cell? ⟨Q0, 1, none⟩ = some (.int .i64 po) ∧ w'.cell? ⟨Q0, 2, none⟩ = some (.int .i64 ch) ∧ w'.cell? ⟨Q0, 3, none⟩ = some (.int .u64 ma)))
        (first | with_reducible exact HK1.out _ HY0.out | with_reducible exact HK1.out _ HY1.out | with_reducible exact HYB.out | with_reducible exact HYD.out | fail)
        (first
          | (go_at_call 79; (with_reducible refine (HACT.out _).mono ?_); rintro e wy ⟨rfl, hc⟩; have HY1 := Lib.hid (HY0.out.trans hc (fun _ _ e => e)); have HM1 := Lib.hid (HM.out.keep HY1.out); have HZ1 := Lib.hid (HZ.out.chg HY1.out id); have HX1 := Lib.hid (HX.out.trans HY1.out (fun _ _ e => e)); clear hc)
          | (go_at_call 69; (with_reducible refine (HBEC.out _ HM1.out).mono ?_); rintro e wz ⟨br', rfl, hm2, hc2⟩; have HM2 := Lib.hid hm2; have HX2 := Lib.hid (HX1.out.widen17 hc2 (fun _ h => h)); have HZ2 := Lib.hid (HZ1.out.chg hc2 HNE.out.1); have HC12 := Lib.hid (HY1.out.widen17 hc2 (fun _ h => h)); have HK2 : Hid (∀ W : World, Chg (fun k => k = Q1) wz W → ((W.cell? ⟨p, 2, none⟩ = some (.int .i64 no2) ∧ W.cell? ⟨Q0, 0, none⟩ = some (.int .i64 op) ∧ W.cell? ⟨Q0, 1, none⟩ = some (.int .i64 po) ∧ W.cell? ⟨Q0, 2, none⟩ = some (.int .i64 ch) ∧ W.cell? ⟨Q0, 3, none⟩ = some (.int .u64 ma)))) := Lib.hid (fun W hw => ⟨(HM2.out.blk.chg hw HNE.out.2.1).cell 2, cl_cells17 ((HB.out.chg HC12.out HNE0.out.1).chg hw HNE0.out.2)⟩); have HYB := Lib.hid (HK2.out _ (Chg.refl (fun k => k = Q1) wz)); obtain ⟨x0, x1, x2, x3, x4, x5, x6, x7, x8⟩ := rv_cells HZ2.out; obtain ⟨u0, u1, u2, u3, u4, u5, u6, u7, u8⟩ := rv_free9 HZ2.out; obtain ⟨r0, r1, r2, r3, r4, r5, r6, r7, r8, -, hcs⟩ := rv_put9 HZ2.out b0 b1 b2 b3 b4 b5 b6 b7 b8; have RR := Lib.hid (And.intro r0 (And.intro r1 (And.intro r2 (And.intro r3 (And.intro r4 (And.intro r5 (And.intro r6 (And.intro r7 r8)))))))); have HCS := Lib.hid hcs; have HYD := Lib.hid (HK2.out _ hcs); clear hc2 hm2 r0 r1 r2 r3 r4 r5 r6 r7 r8 hcs)
          | fail)
      all_goals
        have HBR := Lib.hid (HM2.out.apart HZ2.out (by decide)).2.2.2.symm
        have HFM := Lib.hid (fresh_put20 HX2.out HCS.out HQ.out)
        go_wp2_with fail
        obtain ⟨r0, r1, r2, r3, r4, r5, r6, r7, r8⟩ := RR.out
        refine bodyPost_ret (v := .tuple #[.agg #[.int .i64 b0, .int .u64 b1, .int .i64 b2, .int .i64 b3, .int .i64 b4, .int .i64 b5, .int .i64 b6, .int .i64 b7, .int .i64 b8], .int .i64 be]) (by simp [results, Tryz.results43, go_sem, r0, r1, r2, r3, r4, r5, r6, r7, r8]) rfl ?_
        exact ⟨br', by rw [HBP.out]; first | done | rfl, by rw [HBP.out]; exact HM2.out.chg HCS.out HNE.out.2.1 HNE.out.2.2.1 HNE.out.2.2.2 HBR.out, HFM.out⟩
    · clear HV0
      by_cases h3 : a6 = 3
      · subst h3
        have hve : bind17 R po ch ma no = ag9 ⟨a0, a1, a2, a3, a4, a5, 3, a7, a8⟩ ma ch no := by unfold bind17; rw [hR]; first | done | exact if_pos rfl
        obtain ⟨f0, f1, f2, f3, f4, f5, f6, f7, f8, fe, hv⟩ := num9 (r := ag9 ⟨a0, a1, a2, a3, a4, a5, 3, a7, a8⟩ ma ch no)
        have hft := hw.fitB20 po ch ma no
        have HEQ := Lib.hid (hve.trans hv)
        rw [HEQ.out] at hft
        have hcl := fun (W : World) => paga_any a0 a1 a2 a3 a4 a5 3 a7 a8 ma ch no W
        rw [hv] at hcl
        obtain ⟨b0, b1, b2, b3, b4, b5, b6, b7, b8, be, C2, R2, sp2, no2, hbp⟩ := num9b (becP20 ⟨C, R, sp, no⟩ (⟨f0, f1, f2, f3, f4, f5, f6, f7, f8⟩, fe))
        have hno := bec_no20 ⟨C, R, sp, no⟩ (⟨f0, f1, f2, f3, f4, f5, f6, f7, f8⟩, fe)
        have hbe := fun (W : World) (hW : MM20 B W p ps bc br C R sp no) => becomes20_any hW f0 f1 f2 f3 f4 f5 f6 f7 f8 fe hft
        rw [hbp] at hno hbe
        obtain ⟨hno, hsp⟩ := hno
        change no2 = no at hno
        change sp2 = sp at hsp
        subst hno
        subst hsp
        have HBEC : Hid (∀ W, MM20 B W p ps bc br C R sp2 no2 → Calls _ _ _ W (fun e w' => ∃ br', e = .returned (.tuple #[.agg #[.int .i64 b0, .int .u64 b1, .int .i64 b2, .int .i64 b3, .int .i64 b4, .int .i64 b5, .int .i64 b6, .int .i64 b7, .int .i64 b8], .int .i64 be]) ∧ MM20 B w' p ps bc br' C2 R2 sp2 no2 ∧ Chg (Mv20 p ps bc) W w')) := Lib.hid hbe
        have HBP := Lib.hid ((congrArg (becP20 _) HEQ.out).trans hbp)
        clear hbe hbp hft
        have HACT : Hid (∀ W, Calls _ _ _ W (HR9 f0 f1 f2 f3 f4 f5 f6 f7 f8 fe W)) := Lib.hid hcl
        clear hcl hv HEQ hve hR
        obtain ⟨y0, y1, y2, y3, y4, y5, y6, y7, y8⟩ := rv_cells (show Blk wc QB _ (rvC a0 a1 a2 a3 a4 a5 3 a7 a8) from HBX.out)
        have HNB : Hid (¬ Mv20 p ps bc QB ∧ ¬ QB = Q1) := Lib.hid (by have h1 := HQX.out; have h2 := HLT.out; have h3 := HQQ.out; have h4 := HSZ.out; unfold Mv20; omega)
        go_upto_region 6 with fail
        clear y0 y1 y2 y3 y4 y5 y6 y7 y8
        have HK1 : Hid (∀ W : World, Chg (fun _ => False) wc W → ((W.cell? ⟨p, 2, none⟩ = some (.int .i64 no2) ∧ (W.cell? ⟨Q0, 0, none⟩ = some (.int .i64 op) ∧ W.cell? ⟨Q0, 1, none⟩ = some (.int .i64 po) ∧ W.cell? ⟨Q0, 2, none⟩ = some (.int .i64 ch) ∧ W.cell? ⟨Q0, 3, none⟩ = some (.int .u64 ma)) ∧ (W.cell? ⟨QB, 0, none⟩ = some (.int .i64 a0) ∧ W.cell? ⟨QB, 1, none⟩ = some (.int .u64 a1) ∧ W.cell? ⟨QB, 2, none⟩ = some (.int .i64 a2) ∧ W.cell? ⟨QB, 3, none⟩ = some (.int .i64 a3) ∧ W.cell? ⟨QB, 4, none⟩ = some (.int .i64 a4) ∧ W.cell? ⟨QB, 5, none⟩ = some (.int .i64 a5) ∧ W.cell? ⟨QB, 6, none⟩ = some (.int .i64 3) ∧ W.cell? ⟨QB, 7, none⟩ = some (.int .i64 a7) ∧ W.cell? ⟨QB, 8, none⟩ = some (.int .i64 a8))))) := Lib.hid (fun W hw => by
          exact ⟨(HM.out.blk.chg hw id).cell 2, cl_cells17 (HB.out.chg hw id), rv_cells (show Blk W QB _ (rvC a0 a1 a2 a3 a4 a5 3 a7 a8) from HBX.out.chg hw id)⟩
        )
        have HY0 := Lib.hid (Chg.refl (fun _ => False) wc).drew
        have hkk := HK1.out _ HY0.out
        obtain ⟨g0, ⟨g1, g2, g3, g4⟩, y0, y1, y2, y3, y4, y5, y6, y7, y8⟩ := hkk
        go_region_held3 (fun w' => (w'.cell? ⟨p, 2, none⟩ = some (.int .i64 no2) ∧ (w'.cell? ⟨Q0, 0, none⟩ = some (.int .i64 op) ∧ w'.cell? ⟨Q0, 1, none⟩ = some (.int .i64 po) ∧ w'.cell? ⟨Q0, 2, none⟩ = some (.int .i64 ch) ∧ w'.cell? ⟨Q0, 3, none⟩ = some (.int .u64 ma)) ∧ (w'.cell? ⟨QB, 0, none⟩ = some (.int .i64 a0) ∧ w'.cell? ⟨QB, 1, none⟩ = some (.int .u64 a1) ∧ w'.cell? ⟨QB, 2, none⟩ = some (.int .i64 a2) ∧ w'.cell? ⟨QB, 3, none⟩ = some (.int .i64 a3) ∧ w'.cell? ⟨QB, 4, none⟩ = some (.int .i64 a4) ∧ w'.cell? ⟨QB, 5, none⟩ = some (.int .i64 a5) ∧ w'.cell? ⟨QB, 6, none⟩ = some (.int .i64 3) ∧ w'.cell? ⟨QB, 7, none⟩ = some (.int .i64 a7) ∧ w'.cell? ⟨QB, 8, none⟩ = some (.int .i64 a8))))
          (first | with_reducible exact HK1.out _ HY0.out | with_reducible exact HK1.out _ HY1.out | with_reducible exact HYB.out | with_reducible exact HYD.out | fail)
          (first
            | (go_at_call 80; (with_reducible refine (HACT.out _).mono ?_); rintro e wy ⟨rfl, hc⟩; have HY1 := Lib.hid (HY0.out.trans hc (fun _ _ e => e)); have HM1 := Lib.hid (HM.out.keep HY1.out); have HZ1 := Lib.hid (HZ.out.chg HY1.out id); have HX1 := Lib.hid (HX.out.trans HY1.out (fun _ _ e => e)); clear hc)
            | (go_at_call 69; (with_reducible refine (HBEC.out _ HM1.out).mono ?_); rintro e wz ⟨br', rfl, hm2, hc2⟩; have HM2 := Lib.hid hm2; have HX2 := Lib.hid (HX1.out.widen17 hc2 (fun _ h => h)); have HZ2 := Lib.hid (HZ1.out.chg hc2 HNE.out.1); have HC12 := Lib.hid (HY1.out.widen17 hc2 (fun _ h => h)); have HK2 : Hid (∀ W : World, Chg (fun k => k = Q1) wz W → ((W.cell? ⟨p, 2, none⟩ = some (.int .i64 no2) ∧ (W.cell? ⟨Q0, 0, none⟩ = some (.int .i64 op) ∧ W.cell? ⟨Q0, 1, none⟩ = some (.int .i64 po) ∧ W.cell? ⟨Q0, 2, none⟩ = some (.int .i64 ch) ∧ W.cell? ⟨Q0, 3, none⟩ = some (.int .u64 ma)) ∧ (W.cell? ⟨QB, 0, none⟩ = some (.int .i64 a0) ∧ W.cell? ⟨QB, 1, none⟩ = some (.int .u64 a1) ∧ W.cell? ⟨QB, 2, none⟩ = some (.int .i64 a2) ∧ W.cell? ⟨QB, 3, none⟩ = some (.int .i64 a3) ∧ W.cell? ⟨QB, 4, none⟩ = some (.int .i64 a4) ∧ W.cell? ⟨QB, 5, none⟩ = some (.int .i64 a5) ∧ W.cell? ⟨QB, 6, none⟩ = some (.int .i64 3) ∧ W.cell? ⟨QB, 7, none⟩ = some (.int .i64 a7) ∧ W.cell? ⟨QB, 8, none⟩ = some (.int .i64 a8))))) := Lib.hid (fun W hw => ⟨(HM2.out.blk.chg hw HNE.out.2.1).cell 2, cl_cells17 ((HB.out.chg HC12.out HNE0.out.1).chg hw HNE0.out.2), rv_cells (show Blk W QB _ (rvC a0 a1 a2 a3 a4 a5 3 a7 a8) from (HBX.out.chg HC12.out HNB.out.1).chg hw HNB.out.2)⟩); have HYB := Lib.hid (HK2.out _ (Chg.refl (fun k => k = Q1) wz)); obtain ⟨x0, x1, x2, x3, x4, x5, x6, x7, x8⟩ := rv_cells HZ2.out; obtain ⟨u0, u1, u2, u3, u4, u5, u6, u7, u8⟩ := rv_free9 HZ2.out; obtain ⟨r0, r1, r2, r3, r4, r5, r6, r7, r8, -, hcs⟩ := rv_put9 HZ2.out b0 b1 b2 b3 b4 b5 b6 b7 b8; have RR := Lib.hid (And.intro r0 (And.intro r1 (And.intro r2 (And.intro r3 (And.intro r4 (And.intro r5 (And.intro r6 (And.intro r7 r8)))))))); have HCS := Lib.hid hcs; have HYD := Lib.hid (HK2.out _ hcs); clear hc2 hm2 r0 r1 r2 r3 r4 r5 r6 r7 r8 hcs)
            | fail)
        all_goals
          have HBR := Lib.hid (HM2.out.apart HZ2.out (by decide)).2.2.2.symm
          have HFM := Lib.hid (fresh_put20 HX2.out HCS.out HQ.out)
          go_wp2_with fail
          obtain ⟨r0, r1, r2, r3, r4, r5, r6, r7, r8⟩ := RR.out
          refine bodyPost_ret (v := .tuple #[.agg #[.int .i64 b0, .int .u64 b1, .int .i64 b2, .int .i64 b3, .int .i64 b4, .int .i64 b5, .int .i64 b6, .int .i64 b7, .int .i64 b8], .int .i64 be]) (by simp [results, Tryz.results43, go_sem, r0, r1, r2, r3, r4, r5, r6, r7, r8]) rfl ?_
          exact ⟨br', by rw [HBP.out]; first | done | rfl, by rw [HBP.out]; exact HM2.out.chg HCS.out HNE.out.2.1 HNE.out.2.2.1 HNE.out.2.2.2 HBR.out, HFM.out⟩
      · have t3 : (a6 != 3) = true := by simpa using h3
        have HT : Hid (becP20 ⟨C, R, sp, no⟩ (bind17 R po ch ma no) = (z9, 5, ⟨C, R, sp, no⟩)) := Lib.hid (by unfold bind17; rw [hR]; dsimp only; rw [if_neg h3]; exact bec_err20 _ (by decide))
        clear h3 hR
        obtain ⟨y0, y1, y2, y3, y4, y5, y6, y7, y8⟩ := rv_cells (show Blk wc QB _ (rvC a0 a1 a2 a3 a4 a5 a6 a7 a8) from HBX.out)
        have HP := Lib.hid HM.out.blk
        have HS2 := Lib.hid HM.out.cs
        have HBP := Lib.hid HM.out.bp
        have HX2 : Hid (Chg (Mv20 p ps bc) w wc) := Lib.hid (HX.out.mono (fun _ _ h => h.elim))
        obtain ⟨x0, x1, x2, x3, x4, x5, x6, x7, x8⟩ := rv_cells HZ.out
        obtain ⟨u0, u1, u2, u3, u4, u5, u6, u7, u8⟩ := rv_free9 HZ.out
        obtain ⟨r0, r1, r2, r3, r4, r5, r6, r7, r8, -, hcs⟩ := rv_put9 HZ.out 0 0 0 0 0 0 0 0 0
        have RR := Lib.hid (And.intro r0 (And.intro r1 (And.intro r2 (And.intro r3 (And.intro r4 (And.intro r5 (And.intro r6 (And.intro r7 r8))))))))
        have HCS := Lib.hid hcs
        have HBR := Lib.hid (HS2.out.apart HZ.out (by decide)).2.2.symm
        have HFM := Lib.hid (fresh_put20 HX2.out hcs HQ.out)
        clear r0 r1 r2 r3 r4 r5 r6 r7 r8 hcs
        go_wp2_with fail
        obtain ⟨r0, r1, r2, r3, r4, r5, r6, r7, r8⟩ := RR.out
        refine bodyPost_ret (v := .tuple #[.agg #[.int .i64 0, .int .u64 0, .int .i64 0, .int .i64 0, .int .i64 0, .int .i64 0, .int .i64 0, .int .i64 0, .int .i64 0], .int .i64 5]) (by simp [results, Tryz.results43, go_sem, r0, r1, r2, r3, r4, r5, r6, r7, r8]) rfl ?_
        exact ⟨br, by rw [HT.out]; first | done | rfl, by rw [HT.out]; exact ⟨HBP.out, HP.out.chg HCS.out HNE.out.2.1, HS2.out.chg HCS.out HNE.out.2.2.1 HNE.out.2.2.2 HBR.out⟩, HFM.out⟩

end Go.Proofs.YtimgnogacanifaaGreat
