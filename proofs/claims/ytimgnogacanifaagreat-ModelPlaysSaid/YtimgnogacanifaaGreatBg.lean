/-
  Walks: model.act over any closure, the closures of Drop, Start, Commit, Abort, Awake. Conditions: the model, and what the closures hold, lie in memory.
-/
import Derived.Test.YtimgnogacanifaaGreatBf
namespace Go.Proofs.YtimgnogacanifaaGreat
open Go.RowKit
set_option linter.unusedVariables false
set_option linter.unusedSimpArgs false

set_option maxRecDepth 100000 in
set_option maxHeartbeats 8000000 in
theorem act20_any {B : Nat} {w : World} {p ps bc br : Nat} {C : Int → Bool} {R : Int → Option RV} {sp no : Int} (h : MM20 B w p ps bc br C R sp no) (po : Int) (n : Nat) (caps : Array Value) (hcf : ∀ (xs : Array Value) (W : World), (callFunc n xs).run Tryz.prog W = .ok (.enter n xs) W) (g : RV × Int) (hg : livE17 R po ≠ 0 → g = (z9, livE17 R po)) (hk : livE17 R po = 0 → Fit20 R g ∧ ∀ W, Chg (fun _ => False) w W → Calls Tryz.prog n (#[.agg (livR17 R po).cs] ++ caps) W (HR g W)) : Calls Tryz.prog 33 #[.pointer (some ⟨p, 0, none⟩), .int .i64 po, .func (.func n) #[] caps] w (BecP20 B p ps bc (becP20 ⟨C, R, sp, no⟩ g) w) := by
  obtain ⟨c0, c1, c2, c3, c4, c5, c6, c7, c8, le, hv⟩ := num9 (r := (livR17 R po, livE17 R po))
  have hc0 := (Chg.refl (fun _ => False) w).alloc (.cells #[.int .i64 0, .int .u64 0, .int .i64 0, .int .i64 0, .int .i64 0, .int .i64 0, .int .i64 0, .int .i64 0, .int .i64 0] 40)
  have HM := Lib.hid (h.keep hc0)
  have HZ : Hid (Blk (w.alloc (.cells #[.int .i64 0, .int .u64 0, .int .i64 0, .int .i64 0, .int .i64 0, .int .i64 0, .int .i64 0, .int .i64 0, .int .i64 0] 40)) w.heap.size 40 (rvC 0 0 0 0 0 0 0 0 0)) := Lib.hid (blk_new rfl)
  have HX := Lib.hid hc0
  have HLT := Lib.hid h.lt
  clear h hc0
  go_enter Tryz.func33, Tryz.ntmps33
  go_upto_region 1 with fail
  generalize w.alloc (.cells #[.int .i64 0, .int .u64 0, .int .i64 0, .int .i64 0, .int .i64 0, .int .i64 0, .int .i64 0, .int .i64 0, .int .i64 0] 40) = w1 at *
  generalize hq1 : w.heap.size = Q1 at HZ ⊢
  have HQ : Hid (w.heap.size ≤ Q1) := Lib.hid (by omega)
  have HNE : Hid (¬ Mv20 p ps bc Q1 ∧ ¬ p = Q1 ∧ ¬ ps = Q1 ∧ ¬ bc = Q1) := Lib.hid (by have h1 := HLT.out; unfold Mv20; omega)
  clear hq1
  have hl := living20_any HM.out po
  rw [hv] at hl
  have hl : Calls _ _ _ _ (HR9 c0 c1 c2 c3 c4 c5 c6 c7 c8 le w1) := hl
  have HRW := Lib.hid hl
  injection hv with hv1 hv2
  clear hl
  by_cases he : le = 0
  · subst he
    obtain ⟨hft, hcl⟩ := hk hv2
    obtain ⟨f0, f1, f2, f3, f4, f5, f6, f7, f8, fe, hgl⟩ := num9 (r := g)
    rw [hgl] at hft hcl
    rw [hv1] at hcl
    have hcl : ∀ W, Chg (fun _ => False) w W → Calls Tryz.prog n (#[.agg #[.int .i64 c0, .int .u64 c1, .int .i64 c2, .int .i64 c3, .int .i64 c4, .int .i64 c5, .int .i64 c6, .int .i64 c7, .int .i64 c8]] ++ caps) W (HR9 f0 f1 f2 f3 f4 f5 f6 f7 f8 fe W) := hcl
    have HACT := Lib.hid hcl
    obtain ⟨b0, b1, b2, b3, b4, b5, b6, b7, b8, be, C2, R2, sp2, no2, hbp⟩ := num9b (becP20 ⟨C, R, sp, no⟩ (⟨f0, f1, f2, f3, f4, f5, f6, f7, f8⟩, fe))
    have hno := bec_no20 ⟨C, R, sp, no⟩ (⟨f0, f1, f2, f3, f4, f5, f6, f7, f8⟩, fe)
    have hbe := fun (W : World) (hW : MM20 B W p ps bc br C R sp no) => becomes20_any hW f0 f1 f2 f3 f4 f5 f6 f7 f8 fe hft
    rw [hbp] at hno hbe
    have HBP := Lib.hid ((congrArg (becP20 ⟨C, R, sp, no⟩) (show g = (⟨f0, f1, f2, f3, f4, f5, f6, f7, f8⟩, fe) from hgl)).trans hbp)
    obtain ⟨hno, hsp⟩ := hno
    change no2 = no at hno
    change sp2 = sp at hsp
    subst hno
    subst hsp
    have HBEC : Hid (∀ W, MM20 B W p ps bc br C R sp2 no2 → Calls _ _ _ W (fun e w' => ∃ br', e = .returned (.tuple #[.agg #[.int .i64 b0, .int .u64 b1, .int .i64 b2, .int .i64 b3, .int .i64 b4, .int .i64 b5, .int .i64 b6, .int .i64 b7, .int .i64 b8], .int .i64 be]) ∧ MM20 B w' p ps bc br' C2 R2 sp2 no2 ∧ Chg (Mv20 p ps bc) W w')) := Lib.hid hbe
    clear hbe hbp hft
    clear hcl hv1 hv2 hk hg hgl
    go_wp2_with fail
    refine HRW.out.mono ?_
    rintro e w2 ⟨rfl, hc⟩
    replace HM := Lib.hid (HM.out.keep hc)
    replace HZ := Lib.hid (HZ.out.chg hc id)
    replace HX := Lib.hid (HX.out.trans hc (fun _ _ e => e))
    clear hc HRW
    go_upto_region 2 with fail
    have hc := (Chg.refl (fun _ => False) w2).alloc (.cells #[.int .i64 c0, .int .u64 c1, .int .i64 c2, .int .i64 c3, .int .i64 c4, .int .i64 c5, .int .i64 c6, .int .i64 c7, .int .i64 c8] 40)
    have HN : Hid (Blk (w2.alloc (.cells #[.int .i64 c0, .int .u64 c1, .int .i64 c2, .int .i64 c3, .int .i64 c4, .int .i64 c5, .int .i64 c6, .int .i64 c7, .int .i64 c8] 40)) w2.heap.size 40 (rvC c0 c1 c2 c3 c4 c5 c6 c7 c8)) := Lib.hid (blk_new rfl)
    replace HM := Lib.hid (HM.out.keep hc)
    replace HZ := Lib.hid (HZ.out.chg hc id)
    replace HX := Lib.hid (HX.out.trans hc (fun _ _ e => e))
    clear hc
    generalize w2.alloc (.cells #[.int .i64 c0, .int .u64 c1, .int .i64 c2, .int .i64 c3, .int .i64 c4, .int .i64 c5, .int .i64 c6, .int .i64 c7, .int .i64 c8] 40) = w3 at *
    generalize w2.heap.size = QN at *
    obtain ⟨y0, y1, y2, y3, y4, y5, y6, y7, y8⟩ := rv_cells HN.out
    go_wp2_with fail
    refine (HACT.out _ HX.out).mono ?_
    rintro e w4 ⟨rfl, hc⟩
    replace HM := Lib.hid (HM.out.keep hc)
    replace HZ := Lib.hid (HZ.out.chg hc id)
    replace HX := Lib.hid (HX.out.trans hc (fun _ _ e => e))
    clear hc HACT
    go_wp2_with fail
    refine (HBEC.out _ HM.out).mono ?_
    rintro e wz ⟨br', rfl, hm2, hc2⟩
    have HX2 := Lib.hid (HX.out.widen17 hc2 (fun _ h => h))
    replace HZ := Lib.hid (HZ.out.chg hc2 HNE.out.1)
    have HS2 := Lib.hid hm2.cs
    have HM2 := Lib.hid hm2
    clear hm2 hc2 HBEC
    obtain ⟨x0, x1, x2, x3, x4, x5, x6, x7, x8⟩ := rv_cells HZ.out
    obtain ⟨u0, u1, u2, u3, u4, u5, u6, u7, u8⟩ := rv_free9 HZ.out
    obtain ⟨r0, r1, r2, r3, r4, r5, r6, r7, r8, -, hcs⟩ := rv_put9 HZ.out b0 b1 b2 b3 b4 b5 b6 b7 b8
    have RR := Lib.hid (And.intro r0 (And.intro r1 (And.intro r2 (And.intro r3 (And.intro r4 (And.intro r5 (And.intro r6 (And.intro r7 r8))))))))
    have HCS := Lib.hid hcs
    have HBR := Lib.hid (HS2.out.apart HZ.out (by decide)).2.2.symm
    have HFM := Lib.hid (fresh_put20 HX2.out hcs HQ.out)
    clear r0 r1 r2 r3 r4 r5 r6 r7 r8 hcs
    go_wp2_with fail
    obtain ⟨r0, r1, r2, r3, r4, r5, r6, r7, r8⟩ := RR.out
    refine bodyPost_ret (v := .tuple #[.agg #[.int .i64 b0, .int .u64 b1, .int .i64 b2, .int .i64 b3, .int .i64 b4, .int .i64 b5, .int .i64 b6, .int .i64 b7, .int .i64 b8], .int .i64 be]) (by simp [results, Tryz.results33, go_sem, r0, r1, r2, r3, r4, r5, r6, r7, r8]) rfl ?_
    exact ⟨br', by rw [HBP.out]; first | done | rfl, by rw [HBP.out]; exact HM2.out.chg HCS.out HNE.out.2.1 HNE.out.2.2.1 HNE.out.2.2.2 HBR.out, HFM.out⟩
  · have te : (le != 0) = true := by simpa using he
    have HT : Hid (becP20 ⟨C, R, sp, no⟩ g = (z9, le, ⟨C, R, sp, no⟩)) := Lib.hid (by rw [hg (by rw [hv2]; exact he), hv2]; exact bec_err20 _ he)
    clear he hv1 hv2 hk hg
    go_wp2_with fail
    refine HRW.out.mono ?_
    rintro e w2 ⟨rfl, hc⟩
    replace HM := Lib.hid (HM.out.keep hc)
    replace HZ := Lib.hid (HZ.out.chg hc id)
    replace HX := Lib.hid (HX.out.trans hc (fun _ _ e => e))
    clear hc HRW
    go_upto_region 2 with fail
    have hc := (Chg.refl (fun _ => False) w2).alloc (.cells #[.int .i64 c0, .int .u64 c1, .int .i64 c2, .int .i64 c3, .int .i64 c4, .int .i64 c5, .int .i64 c6, .int .i64 c7, .int .i64 c8] 40)
    have HN : Hid (Blk (w2.alloc (.cells #[.int .i64 c0, .int .u64 c1, .int .i64 c2, .int .i64 c3, .int .i64 c4, .int .i64 c5, .int .i64 c6, .int .i64 c7, .int .i64 c8] 40)) w2.heap.size 40 (rvC c0 c1 c2 c3 c4 c5 c6 c7 c8)) := Lib.hid (blk_new rfl)
    replace HM := Lib.hid (HM.out.keep hc)
    replace HZ := Lib.hid (HZ.out.chg hc id)
    replace HX := Lib.hid (HX.out.trans hc (fun _ _ e => e))
    clear hc
    generalize w2.alloc (.cells #[.int .i64 c0, .int .u64 c1, .int .i64 c2, .int .i64 c3, .int .i64 c4, .int .i64 c5, .int .i64 c6, .int .i64 c7, .int .i64 c8] 40) = w3 at *
    generalize w2.heap.size = QN at *
    obtain ⟨y0, y1, y2, y3, y4, y5, y6, y7, y8⟩ := rv_cells HN.out
    have HM2 := Lib.hid HM.out
    have HS2 := Lib.hid HM.out.cs
    have HX2 : Hid (Chg (Mv20 p ps bc) w w3) := Lib.hid (HX.out.mono (fun _ _ h => h.elim))
    obtain ⟨x0, x1, x2, x3, x4, x5, x6, x7, x8⟩ := rv_cells HZ.out
    obtain ⟨u0, u1, u2, u3, u4, u5, u6, u7, u8⟩ := rv_free9 HZ.out
    obtain ⟨r0, r1, r2, r3, r4, r5, r6, r7, r8, -, hcs⟩ := rv_put9 HZ.out 0 0 0 0 0 0 0 0 0
    have RR := Lib.hid (And.intro r0 (And.intro r1 (And.intro r2 (And.intro r3 (And.intro r4 (And.intro r5 (And.intro r6 (And.intro r7 r8))))))))
    have HCS := Lib.hid hcs
    have HBR := Lib.hid (HS2.out.apart HZ.out (by decide)).2.2.symm
    have HFM := Lib.hid (fresh_put20 HX2.out hcs HQ.out)
    clear r0 r1 r2 r3 r4 r5 r6 r7 r8 hcs
    go_wp2_with fail
    obtain ⟨r0, r1, r2, r3, r4, r5, r6, r7, r8⟩ := RR.out
    refine bodyPost_ret (v := .tuple #[.agg #[.int .i64 0, .int .u64 0, .int .i64 0, .int .i64 0, .int .i64 0, .int .i64 0, .int .i64 0, .int .i64 0, .int .i64 0], .int .i64 le]) (by simp [results, Tryz.results33, go_sem, r0, r1, r2, r3, r4, r5, r6, r7, r8]) rfl ?_
    exact ⟨br, by rw [HT.out]; first | done | rfl, by rw [HT.out]; exact HM2.out.chg HCS.out HNE.out.2.1 HNE.out.2.2.1 HNE.out.2.2.2 HBR.out, HFM.out⟩
set_option maxRecDepth 100000 in
set_option maxHeartbeats 4000000 in
theorem drop20_any {w : World} {p ps QM  : Nat} {sp no : Int}  (hQM : Blk w QM 24 #[.pointer (some ⟨p, 0, none⟩)]) (hp : Blk w p 54 #[.pointer (some ⟨ps, 0, none⟩), .int .i64 sp, .int .i64 no]) (po ma ow ta ol ge ph ve si : Int) : Calls Tryz.prog 45 #[.agg #[.int .i64 po, .int .u64 ma, .int .i64 ow, .int .i64 ta, .int .i64 ol, .int .i64 ge, .int .i64 ph, .int .i64 ve, .int .i64 si], .pointer (some ⟨QM, 0, none⟩)] w (HR (dr9 ⟨po, ma, ow, ta, ol, ge, ph, ve, si⟩ no) w) := by
  obtain ⟨a0, a1, a2, a3, a4, a5, a6, a7, a8, ae, hv⟩ := num9 (r := dr9 ⟨po, ma, ow, ta, ol, ge, ph, ve, si⟩ no)
  have hcl := fun (W : World) => pdro_any po ma ow ta ol ge ph ve si no W
  rw [hv] at hcl ⊢
  have HACT : Hid (∀ W, Calls _ _ _ W (HR9 a0 a1 a2 a3 a4 a5 a6 a7 a8 ae W)) := Lib.hid hcl
  have hc0 := ((Chg.refl (fun _ => False) w).alloc (.cells #[.int .i64 po, .int .u64 ma, .int .i64 ow, .int .i64 ta, .int .i64 ol, .int .i64 ge, .int .i64 ph, .int .i64 ve, .int .i64 si] 40)).alloc (.cells #[.int .i64 0, .int .u64 0, .int .i64 0, .int .i64 0, .int .i64 0, .int .i64 0, .int .i64 0, .int .i64 0, .int .i64 0] 40)
  have HQM := Lib.hid (hQM.chg hc0 id)
  have HP := Lib.hid (hp.chg hc0 id)
  have HB : Hid (Blk ((w.alloc (.cells #[.int .i64 po, .int .u64 ma, .int .i64 ow, .int .i64 ta, .int .i64 ol, .int .i64 ge, .int .i64 ph, .int .i64 ve, .int .i64 si] 40)).alloc (.cells #[.int .i64 0, .int .u64 0, .int .i64 0, .int .i64 0, .int .i64 0, .int .i64 0, .int .i64 0, .int .i64 0, .int .i64 0] 40)) w.heap.size 40 (rvC po ma ow ta ol ge ph ve si)) := Lib.hid ((blk_new rfl).alloc _)
  have HZ : Hid (Blk ((w.alloc (.cells #[.int .i64 po, .int .u64 ma, .int .i64 ow, .int .i64 ta, .int .i64 ol, .int .i64 ge, .int .i64 ph, .int .i64 ve, .int .i64 si] 40)).alloc (.cells #[.int .i64 0, .int .u64 0, .int .i64 0, .int .i64 0, .int .i64 0, .int .i64 0, .int .i64 0, .int .i64 0, .int .i64 0] 40)) (w.heap.size + 1) 40 (rvC 0 0 0 0 0 0 0 0 0)) := Lib.hid (blk_new (by simp))
  have HX := Lib.hid hc0
  have hpl := hp.lt
  have hQMl := hQM.lt
  clear hcl hv hc0 hp hQM
  go_enter Tryz.func45, Tryz.ntmps45
  go_upto_region 1 with fail
  generalize (w.alloc (.cells #[.int .i64 po, .int .u64 ma, .int .i64 ow, .int .i64 ta, .int .i64 ol, .int .i64 ge, .int .i64 ph, .int .i64 ve, .int .i64 si] 40)).alloc (.cells #[.int .i64 0, .int .u64 0, .int .i64 0, .int .i64 0, .int .i64 0, .int .i64 0, .int .i64 0, .int .i64 0, .int .i64 0] 40) = w1 at *
  generalize hq1 : w.heap.size + 1 = Q1 at HZ ⊢
  have HQ : Hid (w.heap.size ≤ Q1) := Lib.hid (by omega)
  have HNE : Hid (¬ w.heap.size = Q1 ∧ ¬ p = Q1 ∧ ¬ QM = Q1) := Lib.hid (by omega)
  clear hq1 hpl hQMl
  generalize w.heap.size = Q0 at HB HNE ⊢
  have HKEEP : Hid (∀ W : World, Chg (fun k => k = Q1) w1 W → ((W.cell? ⟨Q0, 0, none⟩ = some (.int .i64 po) ∧ W.cell? ⟨Q0, 1, none⟩ = some (.int .u64 ma) ∧ W.cell? ⟨Q0, 2, none⟩ = some (.int .i64 ow) ∧ W.cell? ⟨Q0, 3, none⟩ = some (.int .i64 ta) ∧ W.cell? ⟨Q0, 4, none⟩ = some (.int .i64 ol) ∧ W.cell? ⟨Q0, 5, none⟩ = some (.int .i64 ge) ∧ W.cell? ⟨Q0, 6, none⟩ = some (.int .i64 ph) ∧ W.cell? ⟨Q0, 7, none⟩ = some (.int .i64 ve) ∧ W.cell? ⟨Q0, 8, none⟩ = some (.int .i64 si) ∧ W.cell? ⟨QM, 0, none⟩ = some (.pointer (some ⟨p, 0, none⟩)) ∧ W.cell? ⟨p, 2, none⟩ = some (.int .i64 no)))) := Lib.hid (fun W hw => by
    obtain ⟨g0, g1, g2, g3, g4, g5, g6, g7, g8⟩ := rv_cells (HB.out.chg hw HNE.out.1)
    exact ⟨g0, g1, g2, g3, g4, g5, g6, g7, g8, (HQM.out.chg hw (by have := HNE.out; omega)).cell 0, (HP.out.chg hw HNE.out.2.1).cell 2⟩)
  have HY0 := Lib.hid (Chg.refl (fun k => k = Q1) w1).drew
  have hkk := HKEEP.out _ HY0.out
  obtain ⟨g0, g1, g2, g3, g4, g5, g6, g7, g8, g9, g10⟩ := hkk
  go_region_held3 (fun w' => (w'.cell? ⟨Q0, 0, none⟩ = some (.int .i64 po) ∧ w'.cell? ⟨Q0, 1, none⟩ = some (.int .u64 ma) ∧ w'.cell? ⟨Q0, 2, none⟩ = some (.int .i64 ow) ∧ w'.cell? ⟨Q0, 3, none⟩ = some (.int .i64 ta) ∧ w'.cell? ⟨Q0, 4, none⟩ = some (.int .i64 ol) ∧ w'.cell? ⟨Q0, 5, none⟩ = some (.int .i64 ge) ∧ w'.cell? ⟨Q0, 6, none⟩ = some (.int .i64 ph) ∧ w'.cell? ⟨Q0, 7, none⟩ = some (.int .i64 ve) ∧ w'.cell? ⟨Q0, 8, none⟩ = some (.int .i64 si) ∧ w'.cell? ⟨QM, 0, none⟩ = some (.pointer (some ⟨p, 0, none⟩)) ∧ w'.cell? ⟨p, 2, none⟩ = some (.int .i64 no)))
    (first | with_reducible exact HKEEP.out _ HY0.out | with_reducible exact HKEEP.out _ HYB.out | with_reducible exact HKEEP.out _ HYD.out | fail)
    (first
      | (go_at_call 46; (with_reducible refine (HACT.out _).mono ?_); rintro e wz ⟨rfl, hc⟩; have HX1 := Lib.hid (HX.out.drew.trans hc (fun _ _ e => e)); have HZ2 := Lib.hid (HZ.out.drew.chg hc id); have HYB := Lib.hid (HY0.out.trans (hc.mono (S' := fun k => k = Q1) (fun _ _ h => h.elim)) (fun _ _ e => e)); obtain ⟨x0, x1, x2, x3, x4, x5, x6, x7, x8⟩ := rv_cells HZ2.out; obtain ⟨u0, u1, u2, u3, u4, u5, u6, u7, u8⟩ := rv_free9 HZ2.out; obtain ⟨r0, r1, r2, r3, r4, r5, r6, r7, r8, -, hcs⟩ := rv_put9 HZ2.out a0 a1 a2 a3 a4 a5 a6 a7 a8; have RR := Lib.hid (And.intro r0 (And.intro r1 (And.intro r2 (And.intro r3 (And.intro r4 (And.intro r5 (And.intro r6 (And.intro r7 r8)))))))); have HF := Lib.hid (fresh_set HX1.out hcs HQ.out); have HYD := Lib.hid (HYB.out.trans hcs (fun _ _ e => e)); clear hc r0 r1 r2 r3 r4 r5 r6 r7 r8 hcs)
      | fail)
  all_goals
    go_wp2_with fail
    obtain ⟨r0, r1, r2, r3, r4, r5, r6, r7, r8⟩ := RR.out
    exact bodyPost_ret (v := .tuple #[.agg #[.int .i64 a0, .int .u64 a1, .int .i64 a2, .int .i64 a3, .int .i64 a4, .int .i64 a5, .int .i64 a6, .int .i64 a7, .int .i64 a8], .int .i64 ae]) (by simp [results, Tryz.results45, go_sem, r0, r1, r2, r3, r4, r5, r6, r7, r8]) rfl ⟨rfl, HF.out⟩
set_option maxRecDepth 100000 in
set_option maxHeartbeats 4000000 in
theorem start20_any {w : World} {p ps QM QX : Nat} {sp no : Int} {op po2 ch ma2 : Int} (hQX : Blk w QX 33 #[.int .i64 op, .int .i64 po2, .int .i64 ch, .int .u64 ma2]) (hQM : Blk w QM 24 #[.pointer (some ⟨p, 0, none⟩)]) (hp : Blk w p 54 #[.pointer (some ⟨ps, 0, none⟩), .int .i64 sp, .int .i64 no]) (po ma ow ta ol ge ph ve si : Int) : Calls Tryz.prog 48 #[.agg #[.int .i64 po, .int .u64 ma, .int .i64 ow, .int .i64 ta, .int .i64 ol, .int .i64 ge, .int .i64 ph, .int .i64 ve, .int .i64 si], .pointer (some ⟨QX, 0, none⟩), .pointer (some ⟨QM, 0, none⟩)] w (HR (st9 ⟨po, ma, ow, ta, ol, ge, ph, ve, si⟩ ch no) w) := by
  obtain ⟨a0, a1, a2, a3, a4, a5, a6, a7, a8, ae, hv⟩ := num9 (r := st9 ⟨po, ma, ow, ta, ol, ge, ph, ve, si⟩ ch no)
  have hcl := fun (W : World) => psta_any po ma ow ta ol ge ph ve si ch no W
  rw [hv] at hcl ⊢
  have HACT : Hid (∀ W, Calls _ _ _ W (HR9 a0 a1 a2 a3 a4 a5 a6 a7 a8 ae W)) := Lib.hid hcl
  have hc0 := ((Chg.refl (fun _ => False) w).alloc (.cells #[.int .i64 po, .int .u64 ma, .int .i64 ow, .int .i64 ta, .int .i64 ol, .int .i64 ge, .int .i64 ph, .int .i64 ve, .int .i64 si] 40)).alloc (.cells #[.int .i64 0, .int .u64 0, .int .i64 0, .int .i64 0, .int .i64 0, .int .i64 0, .int .i64 0, .int .i64 0, .int .i64 0] 40)
  have HQX := Lib.hid (hQX.chg hc0 id)
  have HQM := Lib.hid (hQM.chg hc0 id)
  have HP := Lib.hid (hp.chg hc0 id)
  have HB : Hid (Blk ((w.alloc (.cells #[.int .i64 po, .int .u64 ma, .int .i64 ow, .int .i64 ta, .int .i64 ol, .int .i64 ge, .int .i64 ph, .int .i64 ve, .int .i64 si] 40)).alloc (.cells #[.int .i64 0, .int .u64 0, .int .i64 0, .int .i64 0, .int .i64 0, .int .i64 0, .int .i64 0, .int .i64 0, .int .i64 0] 40)) w.heap.size 40 (rvC po ma ow ta ol ge ph ve si)) := Lib.hid ((blk_new rfl).alloc _)
  have HZ : Hid (Blk ((w.alloc (.cells #[.int .i64 po, .int .u64 ma, .int .i64 ow, .int .i64 ta, .int .i64 ol, .int .i64 ge, .int .i64 ph, .int .i64 ve, .int .i64 si] 40)).alloc (.cells #[.int .i64 0, .int .u64 0, .int .i64 0, .int .i64 0, .int .i64 0, .int .i64 0, .int .i64 0, .int .i64 0, .int .i64 0] 40)) (w.heap.size + 1) 40 (rvC 0 0 0 0 0 0 0 0 0)) := Lib.hid (blk_new (by simp))
  have HX := Lib.hid hc0
  have hpl := hp.lt
  have hQXl := hQX.lt
  have hQMl := hQM.lt
  clear hcl hv hc0 hp hQX hQM
  go_enter Tryz.func48, Tryz.ntmps48
  go_upto_region 1 with fail
  generalize (w.alloc (.cells #[.int .i64 po, .int .u64 ma, .int .i64 ow, .int .i64 ta, .int .i64 ol, .int .i64 ge, .int .i64 ph, .int .i64 ve, .int .i64 si] 40)).alloc (.cells #[.int .i64 0, .int .u64 0, .int .i64 0, .int .i64 0, .int .i64 0, .int .i64 0, .int .i64 0, .int .i64 0, .int .i64 0] 40) = w1 at *
  generalize hq1 : w.heap.size + 1 = Q1 at HZ ⊢
  have HQ : Hid (w.heap.size ≤ Q1) := Lib.hid (by omega)
  have HNE : Hid (¬ w.heap.size = Q1 ∧ ¬ p = Q1 ∧ ¬ QX = Q1 ∧ ¬ QM = Q1) := Lib.hid (by omega)
  clear hq1 hpl hQXl hQMl
  generalize w.heap.size = Q0 at HB HNE ⊢
  have HKEEP : Hid (∀ W : World, Chg (fun k => k = Q1) w1 W → ((W.cell? ⟨Q0, 0, none⟩ = some (.int .i64 po) ∧ W.cell? ⟨Q0, 1, none⟩ = some (.int .u64 ma) ∧ W.cell? ⟨Q0, 2, none⟩ = some (.int .i64 ow) ∧ W.cell? ⟨Q0, 3, none⟩ = some (.int .i64 ta) ∧ W.cell? ⟨Q0, 4, none⟩ = some (.int .i64 ol) ∧ W.cell? ⟨Q0, 5, none⟩ = some (.int .i64 ge) ∧ W.cell? ⟨Q0, 6, none⟩ = some (.int .i64 ph) ∧ W.cell? ⟨Q0, 7, none⟩ = some (.int .i64 ve) ∧ W.cell? ⟨Q0, 8, none⟩ = some (.int .i64 si) ∧ W.cell? ⟨QX, 0, none⟩ = some (.int .i64 op) ∧ W.cell? ⟨QX, 1, none⟩ = some (.int .i64 po2) ∧ W.cell? ⟨QX, 2, none⟩ = some (.int .i64 ch) ∧ W.cell? ⟨QX, 3, none⟩ = some (.int .u64 ma2) ∧ W.cell? ⟨QM, 0, none⟩ = some (.pointer (some ⟨p, 0, none⟩)) ∧ W.cell? ⟨p, 2, none⟩ = some (.int .i64 no)))) := Lib.hid (fun W hw => by
    obtain ⟨g0, g1, g2, g3, g4, g5, g6, g7, g8⟩ := rv_cells (HB.out.chg hw HNE.out.1)
    obtain ⟨k0, k1, k2, k3⟩ := cl_cells17 (HQX.out.chg hw (by have := HNE.out; omega))
    exact ⟨g0, g1, g2, g3, g4, g5, g6, g7, g8, k0, k1, k2, k3, (HQM.out.chg hw (by have := HNE.out; omega)).cell 0, (HP.out.chg hw HNE.out.2.1).cell 2⟩)
  have HY0 := Lib.hid (Chg.refl (fun k => k = Q1) w1).drew
  have hkk := HKEEP.out _ HY0.out
  obtain ⟨g0, g1, g2, g3, g4, g5, g6, g7, g8, g9, g10, g11, g12, g13, g14⟩ := hkk
  go_region_held3 (fun w' => (w'.cell? ⟨Q0, 0, none⟩ = some (.int .i64 po) ∧ w'.cell? ⟨Q0, 1, none⟩ = some (.int .u64 ma) ∧ w'.cell? ⟨Q0, 2, none⟩ = some (.int .i64 ow) ∧ w'.cell? ⟨Q0, 3, none⟩ = some (.int .i64 ta) ∧ w'.cell? ⟨Q0, 4, none⟩ = some (.int .i64 ol) ∧ w'.cell? ⟨Q0, 5, none⟩ = some (.int .i64 ge) ∧ w'.cell? ⟨Q0, 6, none⟩ = some (.int .i64 ph) ∧ w'.cell? ⟨Q0, 7, none⟩ = some (.int .i64 ve) ∧ w'.cell? ⟨Q0, 8, none⟩ = some (.int .i64 si) ∧ w'.cell? ⟨QX, 0, none⟩ = some (.int .i64 op) ∧ w'.cell? ⟨QX, 1, none⟩ = some (.int .i64 po2) ∧ w'.cell? ⟨QX, 2, none⟩ = some (.int .i64 ch) ∧ w'.cell? ⟨QX, 3, none⟩ = some (.int .u64 ma2) ∧ w'.cell? ⟨QM, 0, none⟩ = some (.pointer (some ⟨p, 0, none⟩)) ∧ w'.cell? ⟨p, 2, none⟩ = some (.int .i64 no)))
    (first | with_reducible exact HKEEP.out _ HY0.out | with_reducible exact HKEEP.out _ HYB.out | with_reducible exact HKEEP.out _ HYD.out | fail)
    (first
      | (go_at_call 49; (with_reducible refine (HACT.out _).mono ?_); rintro e wz ⟨rfl, hc⟩; have HX1 := Lib.hid (HX.out.drew.trans hc (fun _ _ e => e)); have HZ2 := Lib.hid (HZ.out.drew.chg hc id); have HYB := Lib.hid (HY0.out.trans (hc.mono (S' := fun k => k = Q1) (fun _ _ h => h.elim)) (fun _ _ e => e)); obtain ⟨x0, x1, x2, x3, x4, x5, x6, x7, x8⟩ := rv_cells HZ2.out; obtain ⟨u0, u1, u2, u3, u4, u5, u6, u7, u8⟩ := rv_free9 HZ2.out; obtain ⟨r0, r1, r2, r3, r4, r5, r6, r7, r8, -, hcs⟩ := rv_put9 HZ2.out a0 a1 a2 a3 a4 a5 a6 a7 a8; have RR := Lib.hid (And.intro r0 (And.intro r1 (And.intro r2 (And.intro r3 (And.intro r4 (And.intro r5 (And.intro r6 (And.intro r7 r8)))))))); have HF := Lib.hid (fresh_set HX1.out hcs HQ.out); have HYD := Lib.hid (HYB.out.trans hcs (fun _ _ e => e)); clear hc r0 r1 r2 r3 r4 r5 r6 r7 r8 hcs)
      | fail)
  all_goals
    go_wp2_with fail
    obtain ⟨r0, r1, r2, r3, r4, r5, r6, r7, r8⟩ := RR.out
    exact bodyPost_ret (v := .tuple #[.agg #[.int .i64 a0, .int .u64 a1, .int .i64 a2, .int .i64 a3, .int .i64 a4, .int .i64 a5, .int .i64 a6, .int .i64 a7, .int .i64 a8], .int .i64 ae]) (by simp [results, Tryz.results48, go_sem, r0, r1, r2, r3, r4, r5, r6, r7, r8]) rfl ⟨rfl, HF.out⟩
set_option maxRecDepth 100000 in
set_option maxHeartbeats 4000000 in
theorem commit20_any {w : World} {p ps QM  : Nat} {sp no : Int}  (hQM : Blk w QM 24 #[.pointer (some ⟨p, 0, none⟩)]) (hp : Blk w p 54 #[.pointer (some ⟨ps, 0, none⟩), .int .i64 sp, .int .i64 no]) (po ma ow ta ol ge ph ve si : Int) : Calls Tryz.prog 51 #[.agg #[.int .i64 po, .int .u64 ma, .int .i64 ow, .int .i64 ta, .int .i64 ol, .int .i64 ge, .int .i64 ph, .int .i64 ve, .int .i64 si], .pointer (some ⟨QM, 0, none⟩)] w (HR (co9 ⟨po, ma, ow, ta, ol, ge, ph, ve, si⟩ no) w) := by
  obtain ⟨a0, a1, a2, a3, a4, a5, a6, a7, a8, ae, hv⟩ := num9 (r := co9 ⟨po, ma, ow, ta, ol, ge, ph, ve, si⟩ no)
  have hcl := fun (W : World) => pcom_any po ma ow ta ol ge ph ve si no W
  rw [hv] at hcl ⊢
  have HACT : Hid (∀ W, Calls _ _ _ W (HR9 a0 a1 a2 a3 a4 a5 a6 a7 a8 ae W)) := Lib.hid hcl
  have hc0 := ((Chg.refl (fun _ => False) w).alloc (.cells #[.int .i64 po, .int .u64 ma, .int .i64 ow, .int .i64 ta, .int .i64 ol, .int .i64 ge, .int .i64 ph, .int .i64 ve, .int .i64 si] 40)).alloc (.cells #[.int .i64 0, .int .u64 0, .int .i64 0, .int .i64 0, .int .i64 0, .int .i64 0, .int .i64 0, .int .i64 0, .int .i64 0] 40)
  have HQM := Lib.hid (hQM.chg hc0 id)
  have HP := Lib.hid (hp.chg hc0 id)
  have HB : Hid (Blk ((w.alloc (.cells #[.int .i64 po, .int .u64 ma, .int .i64 ow, .int .i64 ta, .int .i64 ol, .int .i64 ge, .int .i64 ph, .int .i64 ve, .int .i64 si] 40)).alloc (.cells #[.int .i64 0, .int .u64 0, .int .i64 0, .int .i64 0, .int .i64 0, .int .i64 0, .int .i64 0, .int .i64 0, .int .i64 0] 40)) w.heap.size 40 (rvC po ma ow ta ol ge ph ve si)) := Lib.hid ((blk_new rfl).alloc _)
  have HZ : Hid (Blk ((w.alloc (.cells #[.int .i64 po, .int .u64 ma, .int .i64 ow, .int .i64 ta, .int .i64 ol, .int .i64 ge, .int .i64 ph, .int .i64 ve, .int .i64 si] 40)).alloc (.cells #[.int .i64 0, .int .u64 0, .int .i64 0, .int .i64 0, .int .i64 0, .int .i64 0, .int .i64 0, .int .i64 0, .int .i64 0] 40)) (w.heap.size + 1) 40 (rvC 0 0 0 0 0 0 0 0 0)) := Lib.hid (blk_new (by simp))
  have HX := Lib.hid hc0
  have hpl := hp.lt
  have hQMl := hQM.lt
  clear hcl hv hc0 hp hQM
  go_enter Tryz.func51, Tryz.ntmps51
  go_upto_region 1 with fail
  generalize (w.alloc (.cells #[.int .i64 po, .int .u64 ma, .int .i64 ow, .int .i64 ta, .int .i64 ol, .int .i64 ge, .int .i64 ph, .int .i64 ve, .int .i64 si] 40)).alloc (.cells #[.int .i64 0, .int .u64 0, .int .i64 0, .int .i64 0, .int .i64 0, .int .i64 0, .int .i64 0, .int .i64 0, .int .i64 0] 40) = w1 at *
  generalize hq1 : w.heap.size + 1 = Q1 at HZ ⊢
  have HQ : Hid (w.heap.size ≤ Q1) := Lib.hid (by omega)
  have HNE : Hid (¬ w.heap.size = Q1 ∧ ¬ p = Q1 ∧ ¬ QM = Q1) := Lib.hid (by omega)
  clear hq1 hpl hQMl
  generalize w.heap.size = Q0 at HB HNE ⊢
  have HKEEP : Hid (∀ W : World, Chg (fun k => k = Q1) w1 W → ((W.cell? ⟨Q0, 0, none⟩ = some (.int .i64 po) ∧ W.cell? ⟨Q0, 1, none⟩ = some (.int .u64 ma) ∧ W.cell? ⟨Q0, 2, none⟩ = some (.int .i64 ow) ∧ W.cell? ⟨Q0, 3, none⟩ = some (.int .i64 ta) ∧ W.cell? ⟨Q0, 4, none⟩ = some (.int .i64 ol) ∧ W.cell? ⟨Q0, 5, none⟩ = some (.int .i64 ge) ∧ W.cell? ⟨Q0, 6, none⟩ = some (.int .i64 ph) ∧ W.cell? ⟨Q0, 7, none⟩ = some (.int .i64 ve) ∧ W.cell? ⟨Q0, 8, none⟩ = some (.int .i64 si) ∧ W.cell? ⟨QM, 0, none⟩ = some (.pointer (some ⟨p, 0, none⟩)) ∧ W.cell? ⟨p, 2, none⟩ = some (.int .i64 no)))) := Lib.hid (fun W hw => by
    obtain ⟨g0, g1, g2, g3, g4, g5, g6, g7, g8⟩ := rv_cells (HB.out.chg hw HNE.out.1)
    exact ⟨g0, g1, g2, g3, g4, g5, g6, g7, g8, (HQM.out.chg hw (by have := HNE.out; omega)).cell 0, (HP.out.chg hw HNE.out.2.1).cell 2⟩)
  have HY0 := Lib.hid (Chg.refl (fun k => k = Q1) w1).drew
  have hkk := HKEEP.out _ HY0.out
  obtain ⟨g0, g1, g2, g3, g4, g5, g6, g7, g8, g9, g10⟩ := hkk
  go_region_held3 (fun w' => (w'.cell? ⟨Q0, 0, none⟩ = some (.int .i64 po) ∧ w'.cell? ⟨Q0, 1, none⟩ = some (.int .u64 ma) ∧ w'.cell? ⟨Q0, 2, none⟩ = some (.int .i64 ow) ∧ w'.cell? ⟨Q0, 3, none⟩ = some (.int .i64 ta) ∧ w'.cell? ⟨Q0, 4, none⟩ = some (.int .i64 ol) ∧ w'.cell? ⟨Q0, 5, none⟩ = some (.int .i64 ge) ∧ w'.cell? ⟨Q0, 6, none⟩ = some (.int .i64 ph) ∧ w'.cell? ⟨Q0, 7, none⟩ = some (.int .i64 ve) ∧ w'.cell? ⟨Q0, 8, none⟩ = some (.int .i64 si) ∧ w'.cell? ⟨QM, 0, none⟩ = some (.pointer (some ⟨p, 0, none⟩)) ∧ w'.cell? ⟨p, 2, none⟩ = some (.int .i64 no)))
    (first | with_reducible exact HKEEP.out _ HY0.out | with_reducible exact HKEEP.out _ HYB.out | with_reducible exact HKEEP.out _ HYD.out | fail)
    (first
      | (go_at_call 52; (with_reducible refine (HACT.out _).mono ?_); rintro e wz ⟨rfl, hc⟩; have HX1 := Lib.hid (HX.out.drew.trans hc (fun _ _ e => e)); have HZ2 := Lib.hid (HZ.out.drew.chg hc id); have HYB := Lib.hid (HY0.out.trans (hc.mono (S' := fun k => k = Q1) (fun _ _ h => h.elim)) (fun _ _ e => e)); obtain ⟨x0, x1, x2, x3, x4, x5, x6, x7, x8⟩ := rv_cells HZ2.out; obtain ⟨u0, u1, u2, u3, u4, u5, u6, u7, u8⟩ := rv_free9 HZ2.out; obtain ⟨r0, r1, r2, r3, r4, r5, r6, r7, r8, -, hcs⟩ := rv_put9 HZ2.out a0 a1 a2 a3 a4 a5 a6 a7 a8; have RR := Lib.hid (And.intro r0 (And.intro r1 (And.intro r2 (And.intro r3 (And.intro r4 (And.intro r5 (And.intro r6 (And.intro r7 r8)))))))); have HF := Lib.hid (fresh_set HX1.out hcs HQ.out); have HYD := Lib.hid (HYB.out.trans hcs (fun _ _ e => e)); clear hc r0 r1 r2 r3 r4 r5 r6 r7 r8 hcs)
      | fail)
  all_goals
    go_wp2_with fail
    obtain ⟨r0, r1, r2, r3, r4, r5, r6, r7, r8⟩ := RR.out
    exact bodyPost_ret (v := .tuple #[.agg #[.int .i64 a0, .int .u64 a1, .int .i64 a2, .int .i64 a3, .int .i64 a4, .int .i64 a5, .int .i64 a6, .int .i64 a7, .int .i64 a8], .int .i64 ae]) (by simp [results, Tryz.results51, go_sem, r0, r1, r2, r3, r4, r5, r6, r7, r8]) rfl ⟨rfl, HF.out⟩
set_option maxRecDepth 100000 in
set_option maxHeartbeats 4000000 in
theorem abort20_any {w : World} {p ps QM  : Nat} {sp no : Int}  (hQM : Blk w QM 24 #[.pointer (some ⟨p, 0, none⟩)]) (hp : Blk w p 54 #[.pointer (some ⟨ps, 0, none⟩), .int .i64 sp, .int .i64 no]) (po ma ow ta ol ge ph ve si : Int) : Calls Tryz.prog 54 #[.agg #[.int .i64 po, .int .u64 ma, .int .i64 ow, .int .i64 ta, .int .i64 ol, .int .i64 ge, .int .i64 ph, .int .i64 ve, .int .i64 si], .pointer (some ⟨QM, 0, none⟩)] w (HR (ab9 ⟨po, ma, ow, ta, ol, ge, ph, ve, si⟩ no) w) := by
  obtain ⟨a0, a1, a2, a3, a4, a5, a6, a7, a8, ae, hv⟩ := num9 (r := ab9 ⟨po, ma, ow, ta, ol, ge, ph, ve, si⟩ no)
  have hcl := fun (W : World) => pabo_any po ma ow ta ol ge ph ve si no W
  rw [hv] at hcl ⊢
  have HACT : Hid (∀ W, Calls _ _ _ W (HR9 a0 a1 a2 a3 a4 a5 a6 a7 a8 ae W)) := Lib.hid hcl
  have hc0 := ((Chg.refl (fun _ => False) w).alloc (.cells #[.int .i64 po, .int .u64 ma, .int .i64 ow, .int .i64 ta, .int .i64 ol, .int .i64 ge, .int .i64 ph, .int .i64 ve, .int .i64 si] 40)).alloc (.cells #[.int .i64 0, .int .u64 0, .int .i64 0, .int .i64 0, .int .i64 0, .int .i64 0, .int .i64 0, .int .i64 0, .int .i64 0] 40)
  have HQM := Lib.hid (hQM.chg hc0 id)
  have HP := Lib.hid (hp.chg hc0 id)
  have HB : Hid (Blk ((w.alloc (.cells #[.int .i64 po, .int .u64 ma, .int .i64 ow, .int .i64 ta, .int .i64 ol, .int .i64 ge, .int .i64 ph, .int .i64 ve, .int .i64 si] 40)).alloc (.cells #[.int .i64 0, .int .u64 0, .int .i64 0, .int .i64 0, .int .i64 0, .int .i64 0, .int .i64 0, .int .i64 0, .int .i64 0] 40)) w.heap.size 40 (rvC po ma ow ta ol ge ph ve si)) := Lib.hid ((blk_new rfl).alloc _)
  have HZ : Hid (Blk ((w.alloc (.cells #[.int .i64 po, .int .u64 ma, .int .i64 ow, .int .i64 ta, .int .i64 ol, .int .i64 ge, .int .i64 ph, .int .i64 ve, .int .i64 si] 40)).alloc (.cells #[.int .i64 0, .int .u64 0, .int .i64 0, .int .i64 0, .int .i64 0, .int .i64 0, .int .i64 0, .int .i64 0, .int .i64 0] 40)) (w.heap.size + 1) 40 (rvC 0 0 0 0 0 0 0 0 0)) := Lib.hid (blk_new (by simp))
  have HX := Lib.hid hc0
  have hpl := hp.lt
  have hQMl := hQM.lt
  clear hcl hv hc0 hp hQM
  go_enter Tryz.func54, Tryz.ntmps54
  go_upto_region 1 with fail
  generalize (w.alloc (.cells #[.int .i64 po, .int .u64 ma, .int .i64 ow, .int .i64 ta, .int .i64 ol, .int .i64 ge, .int .i64 ph, .int .i64 ve, .int .i64 si] 40)).alloc (.cells #[.int .i64 0, .int .u64 0, .int .i64 0, .int .i64 0, .int .i64 0, .int .i64 0, .int .i64 0, .int .i64 0, .int .i64 0] 40) = w1 at *
  generalize hq1 : w.heap.size + 1 = Q1 at HZ ⊢
  have HQ : Hid (w.heap.size ≤ Q1) := Lib.hid (by omega)
  have HNE : Hid (¬ w.heap.size = Q1 ∧ ¬ p = Q1 ∧ ¬ QM = Q1) := Lib.hid (by omega)
  clear hq1 hpl hQMl
  generalize w.heap.size = Q0 at HB HNE ⊢
  have HKEEP : Hid (∀ W : World, Chg (fun k => k = Q1) w1 W → ((W.cell? ⟨Q0, 0, none⟩ = some (.int .i64 po) ∧ W.cell? ⟨Q0, 1, none⟩ = some (.int .u64 ma) ∧ W.cell? ⟨Q0, 2, none⟩ = some (.int .i64 ow) ∧ W.cell? ⟨Q0, 3, none⟩ = some (.int .i64 ta) ∧ W.cell? ⟨Q0, 4, none⟩ = some (.int .i64 ol) ∧ W.cell? ⟨Q0, 5, none⟩ = some (.int .i64 ge) ∧ W.cell? ⟨Q0, 6, none⟩ = some (.int .i64 ph) ∧ W.cell? ⟨Q0, 7, none⟩ = some (.int .i64 ve) ∧ W.cell? ⟨Q0, 8, none⟩ = some (.int .i64 si) ∧ W.cell? ⟨QM, 0, none⟩ = some (.pointer (some ⟨p, 0, none⟩)) ∧ W.cell? ⟨p, 2, none⟩ = some (.int .i64 no)))) := Lib.hid (fun W hw => by
    obtain ⟨g0, g1, g2, g3, g4, g5, g6, g7, g8⟩ := rv_cells (HB.out.chg hw HNE.out.1)
    exact ⟨g0, g1, g2, g3, g4, g5, g6, g7, g8, (HQM.out.chg hw (by have := HNE.out; omega)).cell 0, (HP.out.chg hw HNE.out.2.1).cell 2⟩)
  have HY0 := Lib.hid (Chg.refl (fun k => k = Q1) w1).drew
  have hkk := HKEEP.out _ HY0.out
  obtain ⟨g0, g1, g2, g3, g4, g5, g6, g7, g8, g9, g10⟩ := hkk
  go_region_held3 (fun w' => (w'.cell? ⟨Q0, 0, none⟩ = some (.int .i64 po) ∧ w'.cell? ⟨Q0, 1, none⟩ = some (.int .u64 ma) ∧ w'.cell? ⟨Q0, 2, none⟩ = some (.int .i64 ow) ∧ w'.cell? ⟨Q0, 3, none⟩ = some (.int .i64 ta) ∧ w'.cell? ⟨Q0, 4, none⟩ = some (.int .i64 ol) ∧ w'.cell? ⟨Q0, 5, none⟩ = some (.int .i64 ge) ∧ w'.cell? ⟨Q0, 6, none⟩ = some (.int .i64 ph) ∧ w'.cell? ⟨Q0, 7, none⟩ = some (.int .i64 ve) ∧ w'.cell? ⟨Q0, 8, none⟩ = some (.int .i64 si) ∧ w'.cell? ⟨QM, 0, none⟩ = some (.pointer (some ⟨p, 0, none⟩)) ∧ w'.cell? ⟨p, 2, none⟩ = some (.int .i64 no)))
    (first | with_reducible exact HKEEP.out _ HY0.out | with_reducible exact HKEEP.out _ HYB.out | with_reducible exact HKEEP.out _ HYD.out | fail)
    (first
      | (go_at_call 55; (with_reducible refine (HACT.out _).mono ?_); rintro e wz ⟨rfl, hc⟩; have HX1 := Lib.hid (HX.out.drew.trans hc (fun _ _ e => e)); have HZ2 := Lib.hid (HZ.out.drew.chg hc id); have HYB := Lib.hid (HY0.out.trans (hc.mono (S' := fun k => k = Q1) (fun _ _ h => h.elim)) (fun _ _ e => e)); obtain ⟨x0, x1, x2, x3, x4, x5, x6, x7, x8⟩ := rv_cells HZ2.out; obtain ⟨u0, u1, u2, u3, u4, u5, u6, u7, u8⟩ := rv_free9 HZ2.out; obtain ⟨r0, r1, r2, r3, r4, r5, r6, r7, r8, -, hcs⟩ := rv_put9 HZ2.out a0 a1 a2 a3 a4 a5 a6 a7 a8; have RR := Lib.hid (And.intro r0 (And.intro r1 (And.intro r2 (And.intro r3 (And.intro r4 (And.intro r5 (And.intro r6 (And.intro r7 r8)))))))); have HF := Lib.hid (fresh_set HX1.out hcs HQ.out); have HYD := Lib.hid (HYB.out.trans hcs (fun _ _ e => e)); clear hc r0 r1 r2 r3 r4 r5 r6 r7 r8 hcs)
      | fail)
  all_goals
    go_wp2_with fail
    obtain ⟨r0, r1, r2, r3, r4, r5, r6, r7, r8⟩ := RR.out
    exact bodyPost_ret (v := .tuple #[.agg #[.int .i64 a0, .int .u64 a1, .int .i64 a2, .int .i64 a3, .int .i64 a4, .int .i64 a5, .int .i64 a6, .int .i64 a7, .int .i64 a8], .int .i64 ae]) (by simp [results, Tryz.results54, go_sem, r0, r1, r2, r3, r4, r5, r6, r7, r8]) rfl ⟨rfl, HF.out⟩
set_option maxRecDepth 100000 in
set_option maxHeartbeats 4000000 in
theorem awake20_in {w : World} {p ps QM QB QV : Nat} {sp no : Int} {by_ ver : Int} (hQB : Blk w QB 3 #[.int .i64 by_]) (hQV : Blk w QV 3 #[.int .i64 ver]) (hQM : Blk w QM 24 #[.pointer (some ⟨p, 0, none⟩)]) (hp : Blk w p 54 #[.pointer (some ⟨ps, 0, none⟩), .int .i64 sp, .int .i64 no]) (po ma ow ta ol ge ph ve si : Int) : Calls Tryz.prog 34 #[.agg #[.int .i64 po, .int .u64 ma, .int .i64 ow, .int .i64 ta, .int .i64 ol, .int .i64 ge, .int .i64 ph, .int .i64 ve, .int .i64 si], .pointer (some ⟨QB, 0, none⟩), .pointer (some ⟨QV, 0, none⟩), .pointer (some ⟨QM, 0, none⟩)] w (HR (aw9 ⟨po, ma, ow, ta, ol, ge, ph, ve, si⟩ by_ ver no) w) := by
  obtain ⟨a0, a1, a2, a3, a4, a5, a6, a7, a8, ae, hv⟩ := num9 (r := aw9 ⟨po, ma, ow, ta, ol, ge, ph, ve, si⟩ by_ ver no)
  have hcl := fun (W : World) => pawa_any po ma ow ta ol ge ph ve si by_ ver no W
  rw [hv] at hcl ⊢
  have HACT : Hid (∀ W, Calls _ _ _ W (HR9 a0 a1 a2 a3 a4 a5 a6 a7 a8 ae W)) := Lib.hid hcl
  have hc0 := ((Chg.refl (fun _ => False) w).alloc (.cells #[.int .i64 po, .int .u64 ma, .int .i64 ow, .int .i64 ta, .int .i64 ol, .int .i64 ge, .int .i64 ph, .int .i64 ve, .int .i64 si] 40)).alloc (.cells #[.int .i64 0, .int .u64 0, .int .i64 0, .int .i64 0, .int .i64 0, .int .i64 0, .int .i64 0, .int .i64 0, .int .i64 0] 40)
  have HQB := Lib.hid (hQB.chg hc0 id)
  have HQV := Lib.hid (hQV.chg hc0 id)
  have HQM := Lib.hid (hQM.chg hc0 id)
  have HP := Lib.hid (hp.chg hc0 id)
  have HB : Hid (Blk ((w.alloc (.cells #[.int .i64 po, .int .u64 ma, .int .i64 ow, .int .i64 ta, .int .i64 ol, .int .i64 ge, .int .i64 ph, .int .i64 ve, .int .i64 si] 40)).alloc (.cells #[.int .i64 0, .int .u64 0, .int .i64 0, .int .i64 0, .int .i64 0, .int .i64 0, .int .i64 0, .int .i64 0, .int .i64 0] 40)) w.heap.size 40 (rvC po ma ow ta ol ge ph ve si)) := Lib.hid ((blk_new rfl).alloc _)
  have HZ : Hid (Blk ((w.alloc (.cells #[.int .i64 po, .int .u64 ma, .int .i64 ow, .int .i64 ta, .int .i64 ol, .int .i64 ge, .int .i64 ph, .int .i64 ve, .int .i64 si] 40)).alloc (.cells #[.int .i64 0, .int .u64 0, .int .i64 0, .int .i64 0, .int .i64 0, .int .i64 0, .int .i64 0, .int .i64 0, .int .i64 0] 40)) (w.heap.size + 1) 40 (rvC 0 0 0 0 0 0 0 0 0)) := Lib.hid (blk_new (by simp))
  have HX := Lib.hid hc0
  have hpl := hp.lt
  have hQBl := hQB.lt
  have hQVl := hQV.lt
  have hQMl := hQM.lt
  clear hcl hv hc0 hp hQB hQV hQM
  go_enter Tryz.func34, Tryz.ntmps34
  go_upto_region 1 with fail
  generalize (w.alloc (.cells #[.int .i64 po, .int .u64 ma, .int .i64 ow, .int .i64 ta, .int .i64 ol, .int .i64 ge, .int .i64 ph, .int .i64 ve, .int .i64 si] 40)).alloc (.cells #[.int .i64 0, .int .u64 0, .int .i64 0, .int .i64 0, .int .i64 0, .int .i64 0, .int .i64 0, .int .i64 0, .int .i64 0] 40) = w1 at *
  generalize hq1 : w.heap.size + 1 = Q1 at HZ ⊢
  have HQ : Hid (w.heap.size ≤ Q1) := Lib.hid (by omega)
  have HNE : Hid (¬ w.heap.size = Q1 ∧ ¬ p = Q1 ∧ ¬ QB = Q1 ∧ ¬ QV = Q1 ∧ ¬ QM = Q1) := Lib.hid (by omega)
  clear hq1 hpl hQBl hQVl hQMl
  generalize w.heap.size = Q0 at HB HNE ⊢
  have HKEEP : Hid (∀ W : World, Chg (fun k => k = Q1) w1 W → ((W.cell? ⟨Q0, 0, none⟩ = some (.int .i64 po) ∧ W.cell? ⟨Q0, 1, none⟩ = some (.int .u64 ma) ∧ W.cell? ⟨Q0, 2, none⟩ = some (.int .i64 ow) ∧ W.cell? ⟨Q0, 3, none⟩ = some (.int .i64 ta) ∧ W.cell? ⟨Q0, 4, none⟩ = some (.int .i64 ol) ∧ W.cell? ⟨Q0, 5, none⟩ = some (.int .i64 ge) ∧ W.cell? ⟨Q0, 6, none⟩ = some (.int .i64 ph) ∧ W.cell? ⟨Q0, 7, none⟩ = some (.int .i64 ve) ∧ W.cell? ⟨Q0, 8, none⟩ = some (.int .i64 si) ∧ W.cell? ⟨QB, 0, none⟩ = some (.int .i64 by_) ∧ W.cell? ⟨QV, 0, none⟩ = some (.int .i64 ver) ∧ W.cell? ⟨QM, 0, none⟩ = some (.pointer (some ⟨p, 0, none⟩)) ∧ W.cell? ⟨p, 2, none⟩ = some (.int .i64 no)))) := Lib.hid (fun W hw => by
    obtain ⟨g0, g1, g2, g3, g4, g5, g6, g7, g8⟩ := rv_cells (HB.out.chg hw HNE.out.1)
    exact ⟨g0, g1, g2, g3, g4, g5, g6, g7, g8, (HQB.out.chg hw (by have := HNE.out; omega)).cell 0, (HQV.out.chg hw (by have := HNE.out; omega)).cell 0, (HQM.out.chg hw (by have := HNE.out; omega)).cell 0, (HP.out.chg hw HNE.out.2.1).cell 2⟩)
  have HY0 := Lib.hid (Chg.refl (fun k => k = Q1) w1).drew
  have hkk := HKEEP.out _ HY0.out
  obtain ⟨g0, g1, g2, g3, g4, g5, g6, g7, g8, g9, g10, g11, g12⟩ := hkk
  go_region_held3 (fun w' => (w'.cell? ⟨Q0, 0, none⟩ = some (.int .i64 po) ∧ w'.cell? ⟨Q0, 1, none⟩ = some (.int .u64 ma) ∧ w'.cell? ⟨Q0, 2, none⟩ = some (.int .i64 ow) ∧ w'.cell? ⟨Q0, 3, none⟩ = some (.int .i64 ta) ∧ w'.cell? ⟨Q0, 4, none⟩ = some (.int .i64 ol) ∧ w'.cell? ⟨Q0, 5, none⟩ = some (.int .i64 ge) ∧ w'.cell? ⟨Q0, 6, none⟩ = some (.int .i64 ph) ∧ w'.cell? ⟨Q0, 7, none⟩ = some (.int .i64 ve) ∧ w'.cell? ⟨Q0, 8, none⟩ = some (.int .i64 si) ∧ w'.cell? ⟨QB, 0, none⟩ = some (.int .i64 by_) ∧ w'.cell? ⟨QV, 0, none⟩ = some (.int .i64 ver) ∧ w'.cell? ⟨QM, 0, none⟩ = some (.pointer (some ⟨p, 0, none⟩)) ∧ w'.cell? ⟨p, 2, none⟩ = some (.int .i64 no)))
    (first | with_reducible exact HKEEP.out _ HY0.out | with_reducible exact HKEEP.out _ HYB.out | with_reducible exact HKEEP.out _ HYD.out | fail)
    (first
      | (go_at_call 35; (with_reducible refine (HACT.out _).mono ?_); rintro e wz ⟨rfl, hc⟩; have HX1 := Lib.hid (HX.out.drew.trans hc (fun _ _ e => e)); have HZ2 := Lib.hid (HZ.out.drew.chg hc id); have HYB := Lib.hid (HY0.out.trans (hc.mono (S' := fun k => k = Q1) (fun _ _ h => h.elim)) (fun _ _ e => e)); obtain ⟨x0, x1, x2, x3, x4, x5, x6, x7, x8⟩ := rv_cells HZ2.out; obtain ⟨u0, u1, u2, u3, u4, u5, u6, u7, u8⟩ := rv_free9 HZ2.out; obtain ⟨r0, r1, r2, r3, r4, r5, r6, r7, r8, -, hcs⟩ := rv_put9 HZ2.out a0 a1 a2 a3 a4 a5 a6 a7 a8; have RR := Lib.hid (And.intro r0 (And.intro r1 (And.intro r2 (And.intro r3 (And.intro r4 (And.intro r5 (And.intro r6 (And.intro r7 r8)))))))); have HF := Lib.hid (fresh_set HX1.out hcs HQ.out); have HYD := Lib.hid (HYB.out.trans hcs (fun _ _ e => e)); clear hc r0 r1 r2 r3 r4 r5 r6 r7 r8 hcs)
      | fail)
  all_goals
    go_wp2_with fail
    obtain ⟨r0, r1, r2, r3, r4, r5, r6, r7, r8⟩ := RR.out
    exact bodyPost_ret (v := .tuple #[.agg #[.int .i64 a0, .int .u64 a1, .int .i64 a2, .int .i64 a3, .int .i64 a4, .int .i64 a5, .int .i64 a6, .int .i64 a7, .int .i64 a8], .int .i64 ae]) (by simp [results, Tryz.results34, go_sem, r0, r1, r2, r3, r4, r5, r6, r7, r8]) rfl ⟨rfl, HF.out⟩

end Go.Proofs.YtimgnogacanifaaGreat
