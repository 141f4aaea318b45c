/-
  Walks: what the ops do of a call, the eight closures. Conditions: the model, the call and its pointer lie in memory.
-/
import Derived.Test.YtimgnogacanifaaGreatBg
namespace Go.Proofs.YtimgnogacanifaaGreat
open Go.RowKit
set_option linter.unusedVariables false
set_option linter.unusedSimpArgs false

set_option maxRecDepth 100000 in
set_option maxHeartbeats 8000000 in
theorem deed0_20 {B : Nat} {w : World} {p ps bc br : Nat} {C : Int → Bool} {R : Int → Option RV} {sp no : Int} {QM QX : Nat} {op po ch ma : Int} (h : MM20 B w p ps bc br C R sp no) (hw : WF C R) (hm : Blk w QM 24 #[.pointer (some ⟨p, 0, none⟩)]) (hx : Blk w QX 33 #[.int .i64 op, .int .i64 po, .int .i64 ch, .int .u64 ma]) : Calls Tryz.prog 39 #[.pointer (some ⟨QM, 0, none⟩), .pointer (some ⟨QX, 0, none⟩)] w (BecP20 B p ps bc (doM20 ⟨C, R, sp, no⟩ 0 po ch ma) w) := by
  have hc0 := (Chg.refl (fun _ => False) w).alloc (.cells #[.int .i64 0, .int .u64 0, .int .i64 0, .int .i64 0, .int .i64 0, .int .i64 0, .int .i64 0, .int .i64 0, .int .i64 0] 40)
  have HM := Lib.hid (h.keep hc0)
  have HQM := Lib.hid (hm.chg hc0 id)
  have HQX := Lib.hid (hx.chg hc0 id)
  have HZ : Hid (Blk (w.alloc (.cells #[.int .i64 0, .int .u64 0, .int .i64 0, .int .i64 0, .int .i64 0, .int .i64 0, .int .i64 0, .int .i64 0, .int .i64 0] 40)) w.heap.size 40 (rvC 0 0 0 0 0 0 0 0 0)) := Lib.hid (blk_new rfl)
  have HX := Lib.hid hc0
  have HLT : Hid ((p < w.heap.size ∧ ps < w.heap.size ∧ bc < w.heap.size ∧ br < w.heap.size) ∧ QM < w.heap.size ∧ QX < w.heap.size) := Lib.hid ⟨h.lt, hm.lt, hx.lt⟩
  have HW := Lib.hid hw
  clear h hc0 hm hx hw
  go_enter Tryz.func39, Tryz.ntmps39
  go_upto_region 1 with fail
  generalize w.alloc (.cells #[.int .i64 0, .int .u64 0, .int .i64 0, .int .i64 0, .int .i64 0, .int .i64 0, .int .i64 0, .int .i64 0, .int .i64 0] 40) = w1 at *
  generalize hq1 : w.heap.size = Q1 at HZ ⊢
  have HQ : Hid (w.heap.size ≤ Q1) := Lib.hid (by omega)
  have HNE : Hid (¬ Mv20 p ps bc Q1 ∧ ¬ p = Q1 ∧ ¬ ps = Q1 ∧ ¬ bc = Q1) := Lib.hid (by have h1 := HLT.out; unfold Mv20; omega)
  have HNQ : Hid (¬ QM = Q1 ∧ ¬ QX = Q1) := Lib.hid (by have h1 := HLT.out; omega)
  clear hq1
  have HNB : Hid ((¬ QM = bc ∧ ¬ QX = bc ∧ ¬ Q1 = bc) ∧ ¬ p = bc) := Lib.hid ⟨⟨(HM.out.apart HQM.out (by decide)).2.2.1, (HM.out.apart HQX.out (by decide)).2.2.1, (HM.out.apart HZ.out (by decide)).2.2.1⟩, HM.out.ne.2.1⟩
  have HKEEP : Hid (∀ W : World, Chg (fun k => k = bc ∨ k = Q1) w1 W → ((W.cell? ⟨QM, 0, none⟩ = some (.pointer (some ⟨p, 0, none⟩)) ∧ W.cell? ⟨p, 0, none⟩ = some (.pointer (some ⟨ps, 0, none⟩)) ∧ W.cell? ⟨QX, 0, none⟩ = some (.int .i64 op) ∧ W.cell? ⟨QX, 1, none⟩ = some (.int .i64 po) ∧ W.cell? ⟨QX, 2, none⟩ = some (.int .i64 ch) ∧ W.cell? ⟨QX, 3, none⟩ = some (.int .u64 ma)))) := Lib.hid (fun W hw => ⟨(HQM.out.chg hw (by have h1 := HNB.out; have h2 := HNQ.out; omega)).cell 0, (HM.out.blk.chg hw (by have h1 := HNB.out; have h2 := HNE.out; omega)).cell 0, cl_cells17 (HQX.out.chg hw (by have h1 := HNB.out; have h2 := HNQ.out; omega))⟩)
  have HY0 := Lib.hid (Chg.refl (fun k => k = bc ∨ k = Q1) w1).drew
  have HCL := Lib.hid (sadd_any HM.out.cs.drew ch)
  generalize her : addP C ch = er at *
  have HER := Lib.hid her
  clear her
  have hkk := HKEEP.out _ HY0.out
  obtain ⟨g0, g1, g2, g3, g4, g5⟩ := hkk
  go_region_held3 (fun w' => (w'.cell? ⟨QM, 0, none⟩ = some (.pointer (some ⟨p, 0, none⟩)) ∧ w'.cell? ⟨p, 0, none⟩ = some (.pointer (some ⟨ps, 0, none⟩)) ∧ w'.cell? ⟨QX, 0, none⟩ = some (.int .i64 op) ∧ w'.cell? ⟨QX, 1, none⟩ = some (.int .i64 po) ∧ w'.cell? ⟨QX, 2, none⟩ = some (.int .i64 ch) ∧ w'.cell? ⟨QX, 3, none⟩ = some (.int .u64 ma)))
    (first | with_reducible exact HKEEP.out _ HY0.out | with_reducible exact HKEEP.out _ HYB.out | with_reducible exact HKEEP.out _ HYD.out | fail)
    (first
      | (go_at_call 37; (with_reducible refine HCL.out.mono ?_); rintro e wz ⟨rfl, hs, hc⟩; have HS2 := Lib.hid hs; have HP2 := Lib.hid (HM.out.blk.drew.chg hc HNB.out.2); have HX2 : Hid (Chg (Mv20 p ps bc) w wz) := Lib.hid (HX.out.drew.widen17 hc (fun k hk => .inr (.inr hk))); have HZ2 := Lib.hid (HZ.out.drew.chg hc HNB.out.1.2.2); have HYB := Lib.hid (HY0.out.trans (hc.mono (S' := fun k => k = bc ∨ k = Q1) (fun _ _ h => .inl h)) (fun _ _ e => e)); obtain ⟨x0, x1, x2, x3, x4, x5, x6, x7, x8⟩ := rv_cells HZ2.out; obtain ⟨u0, u1, u2, u3, u4, u5, u6, u7, u8⟩ := rv_free9 HZ2.out; obtain ⟨r0, r1, r2, r3, r4, r5, r6, r7, r8, -, hcs⟩ := rv_put9 HZ2.out 0 0 0 0 0 0 0 0 0; have RR := Lib.hid (And.intro r0 (And.intro r1 (And.intro r2 (And.intro r3 (And.intro r4 (And.intro r5 (And.intro r6 (And.intro r7 r8)))))))); have HCS := Lib.hid hcs; have HYD := Lib.hid (HYB.out.trans (hcs.mono (S' := fun k => k = bc ∨ k = Q1) (fun _ _ h => .inr h)) (fun _ _ e => e)); clear hc hs r0 r1 r2 r3 r4 r5 r6 r7 r8 hcs)
      | fail)
  all_goals
    have HBR := Lib.hid (HS2.out.apart HZ2.out (by decide)).2.2.symm
    have HFM := Lib.hid (fresh_put20 HX2.out HCS.out HQ.out)
    have HBP := Lib.hid HM.out.bp
    go_wp2_with fail
    obtain ⟨r0, r1, r2, r3, r4, r5, r6, r7, r8⟩ := RR.out
    refine bodyPost_ret (v := .tuple #[.agg #[.int .i64 0, .int .u64 0, .int .i64 0, .int .i64 0, .int .i64 0, .int .i64 0, .int .i64 0, .int .i64 0, .int .i64 0], .int .i64 er]) (by simp [results, Tryz.results39, go_sem, r0, r1, r2, r3, r4, r5, r6, r7, r8]) rfl ?_
    exact ⟨br, by rw [← HER.out]; rfl, ⟨HBP.out, HP2.out.chg HCS.out HNE.out.2.1, HS2.out.chg HCS.out HNE.out.2.2.1 HNE.out.2.2.2 HBR.out⟩, HFM.out⟩
set_option maxRecDepth 100000 in
set_option maxHeartbeats 8000000 in
theorem deed1_20 {B : Nat} {w : World} {p ps bc br : Nat} {C : Int → Bool} {R : Int → Option RV} {sp no : Int} {QM QX : Nat} {op po ch ma : Int} (h : MM20 B w p ps bc br C R sp no) (hw : WF C R) (hm : Blk w QM 24 #[.pointer (some ⟨p, 0, none⟩)]) (hx : Blk w QX 33 #[.int .i64 op, .int .i64 po, .int .i64 ch, .int .u64 ma]) : Calls Tryz.prog 40 #[.pointer (some ⟨QM, 0, none⟩), .pointer (some ⟨QX, 0, none⟩)] w (BecP20 B p ps bc (doM20 ⟨C, R, sp, no⟩ 1 po ch ma) w) := by
  have hc0 := (Chg.refl (fun _ => False) w).alloc (.cells #[.int .i64 0, .int .u64 0, .int .i64 0, .int .i64 0, .int .i64 0, .int .i64 0, .int .i64 0, .int .i64 0, .int .i64 0] 40)
  have HM := Lib.hid (h.keep hc0)
  have HQM := Lib.hid (hm.chg hc0 id)
  have HQX := Lib.hid (hx.chg hc0 id)
  have HZ : Hid (Blk (w.alloc (.cells #[.int .i64 0, .int .u64 0, .int .i64 0, .int .i64 0, .int .i64 0, .int .i64 0, .int .i64 0, .int .i64 0, .int .i64 0] 40)) w.heap.size 40 (rvC 0 0 0 0 0 0 0 0 0)) := Lib.hid (blk_new rfl)
  have HX := Lib.hid hc0
  have HLT : Hid ((p < w.heap.size ∧ ps < w.heap.size ∧ bc < w.heap.size ∧ br < w.heap.size) ∧ QM < w.heap.size ∧ QX < w.heap.size) := Lib.hid ⟨h.lt, hm.lt, hx.lt⟩
  have HW := Lib.hid hw
  clear h hc0 hm hx hw
  go_enter Tryz.func40, Tryz.ntmps40
  go_upto_region 1 with fail
  generalize w.alloc (.cells #[.int .i64 0, .int .u64 0, .int .i64 0, .int .i64 0, .int .i64 0, .int .i64 0, .int .i64 0, .int .i64 0, .int .i64 0] 40) = w1 at *
  generalize hq1 : w.heap.size = Q1 at HZ ⊢
  have HQ : Hid (w.heap.size ≤ Q1) := Lib.hid (by omega)
  have HNE : Hid (¬ Mv20 p ps bc Q1 ∧ ¬ p = Q1 ∧ ¬ ps = Q1 ∧ ¬ bc = Q1) := Lib.hid (by have h1 := HLT.out; unfold Mv20; omega)
  have HNQ : Hid (¬ QM = Q1 ∧ ¬ QX = Q1) := Lib.hid (by have h1 := HLT.out; omega)
  clear hq1
  have HNB : Hid ((¬ QM = bc ∧ ¬ QX = bc ∧ ¬ Q1 = bc) ∧ ¬ p = bc) := Lib.hid ⟨⟨(HM.out.apart HQM.out (by decide)).2.2.1, (HM.out.apart HQX.out (by decide)).2.2.1, (HM.out.apart HZ.out (by decide)).2.2.1⟩, HM.out.ne.2.1⟩
  have HKEEP : Hid (∀ W : World, Chg (fun k => k = bc ∨ k = Q1) w1 W → ((W.cell? ⟨QM, 0, none⟩ = some (.pointer (some ⟨p, 0, none⟩)) ∧ W.cell? ⟨p, 0, none⟩ = some (.pointer (some ⟨ps, 0, none⟩)) ∧ W.cell? ⟨QX, 0, none⟩ = some (.int .i64 op) ∧ W.cell? ⟨QX, 1, none⟩ = some (.int .i64 po) ∧ W.cell? ⟨QX, 2, none⟩ = some (.int .i64 ch) ∧ W.cell? ⟨QX, 3, none⟩ = some (.int .u64 ma)))) := Lib.hid (fun W hw => ⟨(HQM.out.chg hw (by have h1 := HNB.out; have h2 := HNQ.out; omega)).cell 0, (HM.out.blk.chg hw (by have h1 := HNB.out; have h2 := HNE.out; omega)).cell 0, cl_cells17 (HQX.out.chg hw (by have h1 := HNB.out; have h2 := HNQ.out; omega))⟩)
  have HY0 := Lib.hid (Chg.refl (fun k => k = bc ∨ k = Q1) w1).drew
  have HCL := Lib.hid (srem_any HM.out.cs.drew ch)
  generalize her : remP C R ch = er at *
  have HER := Lib.hid her
  clear her
  have hkk := HKEEP.out _ HY0.out
  obtain ⟨g0, g1, g2, g3, g4, g5⟩ := hkk
  go_region_held3 (fun w' => (w'.cell? ⟨QM, 0, none⟩ = some (.pointer (some ⟨p, 0, none⟩)) ∧ w'.cell? ⟨p, 0, none⟩ = some (.pointer (some ⟨ps, 0, none⟩)) ∧ w'.cell? ⟨QX, 0, none⟩ = some (.int .i64 op) ∧ w'.cell? ⟨QX, 1, none⟩ = some (.int .i64 po) ∧ w'.cell? ⟨QX, 2, none⟩ = some (.int .i64 ch) ∧ w'.cell? ⟨QX, 3, none⟩ = some (.int .u64 ma)))
    (first | with_reducible exact HKEEP.out _ HY0.out | with_reducible exact HKEEP.out _ HYB.out | with_reducible exact HKEEP.out _ HYD.out | fail)
    (first
      | (go_at_call 41; (with_reducible refine HCL.out.mono ?_); rintro e wz ⟨rfl, hs, hc⟩; have HS2 := Lib.hid hs; have HP2 := Lib.hid (HM.out.blk.drew.chg hc HNB.out.2); have HX2 : Hid (Chg (Mv20 p ps bc) w wz) := Lib.hid (HX.out.drew.widen17 hc (fun k hk => .inr (.inr hk))); have HZ2 := Lib.hid (HZ.out.drew.chg hc HNB.out.1.2.2); have HYB := Lib.hid (HY0.out.trans (hc.mono (S' := fun k => k = bc ∨ k = Q1) (fun _ _ h => .inl h)) (fun _ _ e => e)); obtain ⟨x0, x1, x2, x3, x4, x5, x6, x7, x8⟩ := rv_cells HZ2.out; obtain ⟨u0, u1, u2, u3, u4, u5, u6, u7, u8⟩ := rv_free9 HZ2.out; obtain ⟨r0, r1, r2, r3, r4, r5, r6, r7, r8, -, hcs⟩ := rv_put9 HZ2.out 0 0 0 0 0 0 0 0 0; have RR := Lib.hid (And.intro r0 (And.intro r1 (And.intro r2 (And.intro r3 (And.intro r4 (And.intro r5 (And.intro r6 (And.intro r7 r8)))))))); have HCS := Lib.hid hcs; have HYD := Lib.hid (HYB.out.trans (hcs.mono (S' := fun k => k = bc ∨ k = Q1) (fun _ _ h => .inr h)) (fun _ _ e => e)); clear hc hs r0 r1 r2 r3 r4 r5 r6 r7 r8 hcs)
      | fail)
  all_goals
    have HBR := Lib.hid (HS2.out.apart HZ2.out (by decide)).2.2.symm
    have HFM := Lib.hid (fresh_put20 HX2.out HCS.out HQ.out)
    have HBP := Lib.hid HM.out.bp
    go_wp2_with fail
    obtain ⟨r0, r1, r2, r3, r4, r5, r6, r7, r8⟩ := RR.out
    refine bodyPost_ret (v := .tuple #[.agg #[.int .i64 0, .int .u64 0, .int .i64 0, .int .i64 0, .int .i64 0, .int .i64 0, .int .i64 0, .int .i64 0, .int .i64 0], .int .i64 er]) (by simp [results, Tryz.results40, go_sem, r0, r1, r2, r3, r4, r5, r6, r7, r8]) rfl ?_
    exact ⟨br, by rw [← HER.out]; rfl, ⟨HBP.out, HP2.out.chg HCS.out HNE.out.2.1, HS2.out.chg HCS.out HNE.out.2.2.1 HNE.out.2.2.2 HBR.out⟩, HFM.out⟩
set_option maxRecDepth 100000 in
set_option maxHeartbeats 8000000 in
theorem deed2_20 {B : Nat} {w : World} {p ps bc br : Nat} {C : Int → Bool} {R : Int → Option RV} {sp no : Int} {QM QX : Nat} {op po ch ma : Int} (h : MM20 B w p ps bc br C R sp no) (hw : WF C R) (hm : Blk w QM 24 #[.pointer (some ⟨p, 0, none⟩)]) (hx : Blk w QX 33 #[.int .i64 op, .int .i64 po, .int .i64 ch, .int .u64 ma]) : Calls Tryz.prog 42 #[.pointer (some ⟨QM, 0, none⟩), .pointer (some ⟨QX, 0, none⟩)] w (BecP20 B p ps bc (doM20 ⟨C, R, sp, no⟩ 2 po ch ma) w) := by
  have hc0 := (Chg.refl (fun _ => False) w).alloc (.cells #[.int .i64 0, .int .u64 0, .int .i64 0, .int .i64 0, .int .i64 0, .int .i64 0, .int .i64 0, .int .i64 0, .int .i64 0] 40)
  have HM := Lib.hid (h.keep hc0)
  have HQM := Lib.hid (hm.chg hc0 id)
  have HQX := Lib.hid (hx.chg hc0 id)
  have HZ : Hid (Blk (w.alloc (.cells #[.int .i64 0, .int .u64 0, .int .i64 0, .int .i64 0, .int .i64 0, .int .i64 0, .int .i64 0, .int .i64 0, .int .i64 0] 40)) w.heap.size 40 (rvC 0 0 0 0 0 0 0 0 0)) := Lib.hid (blk_new rfl)
  have HX := Lib.hid hc0
  have HLT : Hid ((p < w.heap.size ∧ ps < w.heap.size ∧ bc < w.heap.size ∧ br < w.heap.size) ∧ QM < w.heap.size ∧ QX < w.heap.size) := Lib.hid ⟨h.lt, hm.lt, hx.lt⟩
  have HW := Lib.hid hw
  clear h hc0 hm hx hw
  go_enter Tryz.func42, Tryz.ntmps42
  go_upto_region 1 with fail
  generalize w.alloc (.cells #[.int .i64 0, .int .u64 0, .int .i64 0, .int .i64 0, .int .i64 0, .int .i64 0, .int .i64 0, .int .i64 0, .int .i64 0] 40) = w1 at *
  generalize hq1 : w.heap.size = Q1 at HZ ⊢
  have HQ : Hid (w.heap.size ≤ Q1) := Lib.hid (by omega)
  have HNE : Hid (¬ Mv20 p ps bc Q1 ∧ ¬ p = Q1 ∧ ¬ ps = Q1 ∧ ¬ bc = Q1) := Lib.hid (by have h1 := HLT.out; unfold Mv20; omega)
  have HNQ : Hid (¬ QM = Q1 ∧ ¬ QX = Q1) := Lib.hid (by have h1 := HLT.out; omega)
  clear hq1
  have hm0 := HQM.out.cell 0
  obtain ⟨k0, k1, k2, k3⟩ := cl_cells17 HQX.out
  have hcl := bind20_any HM.out HW.out op po ch ma
  obtain ⟨b0, b1, b2, b3, b4, b5, b6, b7, b8, be, C2, R2, sp2, no2, hbp⟩ := num9b (becP20 ⟨C, R, sp, no⟩ (bind17 R po ch ma no))
  rw [hbp] at hcl
  have HBP := Lib.hid ((show doM20 ⟨C, R, sp, no⟩ 2 po ch ma = becP20 ⟨C, R, sp, no⟩ (bind17 R po ch ma no) from rfl).trans hbp)
  have HCL : Hid (Calls _ _ _ _ (fun e w' => ∃ br', e = .returned (.tuple #[.agg #[.int .i64 b0, .int .u64 b1, .int .i64 b2, .int .i64 b3, .int .i64 b4, .int .i64 b5, .int .i64 b6, .int .i64 b7, .int .i64 b8], .int .i64 be]) ∧ MM20 B w' p ps bc br' C2 R2 sp2 no2 ∧ Chg (Mv20 p ps bc) w1 w')) := Lib.hid hcl
  clear hcl hbp
  go_wp2_with fail
  refine HCL.out.mono ?_
  rintro e wz ⟨br', rfl, hm2, hc2⟩
  have HX2 := Lib.hid (HX.out.widen17 hc2 (fun _ h => h))
  replace HZ := Lib.hid (HZ.out.chg hc2 HNE.out.1)
  have HS2 := Lib.hid hm2.cs
  have HM2 := Lib.hid hm2
  clear hm2 hc2 HCL hm0 k0 k1 k2 k3
  obtain ⟨x0, x1, x2, x3, x4, x5, x6, x7, x8⟩ := rv_cells HZ.out
  obtain ⟨u0, u1, u2, u3, u4, u5, u6, u7, u8⟩ := rv_free9 HZ.out
  obtain ⟨r0, r1, r2, r3, r4, r5, r6, r7, r8, -, hcs⟩ := rv_put9 HZ.out b0 b1 b2 b3 b4 b5 b6 b7 b8
  have RR := Lib.hid (And.intro r0 (And.intro r1 (And.intro r2 (And.intro r3 (And.intro r4 (And.intro r5 (And.intro r6 (And.intro r7 r8))))))))
  have HCS := Lib.hid hcs
  have HBR := Lib.hid (HS2.out.apart HZ.out (by decide)).2.2.symm
  have HFM := Lib.hid (fresh_put20 HX2.out hcs HQ.out)
  clear r0 r1 r2 r3 r4 r5 r6 r7 r8 hcs
  go_wp2_with fail
  obtain ⟨r0, r1, r2, r3, r4, r5, r6, r7, r8⟩ := RR.out
  refine bodyPost_ret (v := .tuple #[.agg #[.int .i64 b0, .int .u64 b1, .int .i64 b2, .int .i64 b3, .int .i64 b4, .int .i64 b5, .int .i64 b6, .int .i64 b7, .int .i64 b8], .int .i64 be]) (by simp [results, Tryz.results42, go_sem, r0, r1, r2, r3, r4, r5, r6, r7, r8]) rfl ?_
  exact ⟨br', by rw [HBP.out]; first | done | rfl, by rw [HBP.out]; exact HM2.out.chg HCS.out HNE.out.2.1 HNE.out.2.2.1 HNE.out.2.2.2 HBR.out, HFM.out⟩
set_option maxRecDepth 100000 in
set_option maxHeartbeats 8000000 in
theorem deed3_20 {B : Nat} {w : World} {p ps bc br : Nat} {C : Int → Bool} {R : Int → Option RV} {sp no : Int} {QM QX : Nat} {op po ch ma : Int} (h : MM20 B w p ps bc br C R sp no) (hw : WF C R) (hm : Blk w QM 24 #[.pointer (some ⟨p, 0, none⟩)]) (hx : Blk w QX 33 #[.int .i64 op, .int .i64 po, .int .i64 ch, .int .u64 ma]) : Calls Tryz.prog 44 #[.pointer (some ⟨QM, 0, none⟩), .pointer (some ⟨QX, 0, none⟩)] w (BecP20 B p ps bc (doM20 ⟨C, R, sp, no⟩ 3 po ch ma) w) := by
  have hc0 := (Chg.refl (fun _ => False) w).alloc (.cells #[.int .i64 0, .int .u64 0, .int .i64 0, .int .i64 0, .int .i64 0, .int .i64 0, .int .i64 0, .int .i64 0, .int .i64 0] 40)
  have HM := Lib.hid (h.keep hc0)
  have HQM := Lib.hid (hm.chg hc0 id)
  have HQX := Lib.hid (hx.chg hc0 id)
  have HZ : Hid (Blk (w.alloc (.cells #[.int .i64 0, .int .u64 0, .int .i64 0, .int .i64 0, .int .i64 0, .int .i64 0, .int .i64 0, .int .i64 0, .int .i64 0] 40)) w.heap.size 40 (rvC 0 0 0 0 0 0 0 0 0)) := Lib.hid (blk_new rfl)
  have HX := Lib.hid hc0
  have HLT : Hid ((p < w.heap.size ∧ ps < w.heap.size ∧ bc < w.heap.size ∧ br < w.heap.size) ∧ QM < w.heap.size ∧ QX < w.heap.size) := Lib.hid ⟨h.lt, hm.lt, hx.lt⟩
  have HW := Lib.hid hw
  clear h hc0 hm hx hw
  go_enter Tryz.func44, Tryz.ntmps44
  go_upto_region 1 with fail
  generalize w.alloc (.cells #[.int .i64 0, .int .u64 0, .int .i64 0, .int .i64 0, .int .i64 0, .int .i64 0, .int .i64 0, .int .i64 0, .int .i64 0] 40) = w1 at *
  generalize hq1 : w.heap.size = Q1 at HZ ⊢
  have HQ : Hid (w.heap.size ≤ Q1) := Lib.hid (by omega)
  have HNE : Hid (¬ Mv20 p ps bc Q1 ∧ ¬ p = Q1 ∧ ¬ ps = Q1 ∧ ¬ bc = Q1) := Lib.hid (by have h1 := HLT.out; unfold Mv20; omega)
  have HNQ : Hid (¬ QM = Q1 ∧ ¬ QX = Q1) := Lib.hid (by have h1 := HLT.out; omega)
  clear hq1
  have hm0 := HQM.out.cell 0
  obtain ⟨k0, k1, k2, k3⟩ := cl_cells17 HQX.out
  have hmf : ∀ (fn : Fn) (first cap : Array Value) (w : World), (Instr.makeFunc fn first cap).run Tryz.prog w = .ok (.func fn first cap) w := fun _ _ _ _ => rfl
  have hcl := act20_any HM.out po 45 #[.pointer (some ⟨QM, 0, none⟩)] (fun _ _ => by go_simp) (move17 R 3 po ch no) (fun hl => by unfold move17; rw [if_neg hl]) (fun hl => ⟨HW.out.fitM20 3 po ch no, fun W hW => by
    have e : move17 R 3 po ch no = dr9 (livR17 R po) no := by unfold move17; rw [if_pos hl]; rfl
    rw [e]
    obtain ⟨c0, c1, c2, c3, c4, c5, c6, c7, c8, hc⟩ := rv_letters (livR17 R po)
    rw [hc]
    exact drop20_any (HQM.out.chg hW id) (HM.out.blk.chg hW id) c0 c1 c2 c3 c4 c5 c6 c7 c8⟩)
  obtain ⟨b0, b1, b2, b3, b4, b5, b6, b7, b8, be, C2, R2, sp2, no2, hbp⟩ := num9b (becP20 ⟨C, R, sp, no⟩ (move17 R 3 po ch no))
  rw [hbp] at hcl
  have HBP := Lib.hid ((show doM20 ⟨C, R, sp, no⟩ 3 po ch ma = becP20 ⟨C, R, sp, no⟩ (move17 R 3 po ch no) from rfl).trans hbp)
  have HCL : Hid (Calls _ _ _ _ (fun e w' => ∃ br', e = .returned (.tuple #[.agg #[.int .i64 b0, .int .u64 b1, .int .i64 b2, .int .i64 b3, .int .i64 b4, .int .i64 b5, .int .i64 b6, .int .i64 b7, .int .i64 b8], .int .i64 be]) ∧ MM20 B w' p ps bc br' C2 R2 sp2 no2 ∧ Chg (Mv20 p ps bc) w1 w')) := Lib.hid hcl
  clear hcl hbp
  go_wp2_with fail
  refine HCL.out.mono ?_
  rintro e wz ⟨br', rfl, hm2, hc2⟩
  have HX2 := Lib.hid (HX.out.widen17 hc2 (fun _ h => h))
  replace HZ := Lib.hid (HZ.out.chg hc2 HNE.out.1)
  have HS2 := Lib.hid hm2.cs
  have HM2 := Lib.hid hm2
  clear hm2 hc2 HCL hm0 k0 k1 k2 k3
  obtain ⟨x0, x1, x2, x3, x4, x5, x6, x7, x8⟩ := rv_cells HZ.out
  obtain ⟨u0, u1, u2, u3, u4, u5, u6, u7, u8⟩ := rv_free9 HZ.out
  obtain ⟨r0, r1, r2, r3, r4, r5, r6, r7, r8, -, hcs⟩ := rv_put9 HZ.out b0 b1 b2 b3 b4 b5 b6 b7 b8
  have RR := Lib.hid (And.intro r0 (And.intro r1 (And.intro r2 (And.intro r3 (And.intro r4 (And.intro r5 (And.intro r6 (And.intro r7 r8))))))))
  have HCS := Lib.hid hcs
  have HBR := Lib.hid (HS2.out.apart HZ.out (by decide)).2.2.symm
  have HFM := Lib.hid (fresh_put20 HX2.out hcs HQ.out)
  clear r0 r1 r2 r3 r4 r5 r6 r7 r8 hcs
  go_wp2_with fail
  obtain ⟨r0, r1, r2, r3, r4, r5, r6, r7, r8⟩ := RR.out
  refine bodyPost_ret (v := .tuple #[.agg #[.int .i64 b0, .int .u64 b1, .int .i64 b2, .int .i64 b3, .int .i64 b4, .int .i64 b5, .int .i64 b6, .int .i64 b7, .int .i64 b8], .int .i64 be]) (by simp [results, Tryz.results44, go_sem, r0, r1, r2, r3, r4, r5, r6, r7, r8]) rfl ?_
  exact ⟨br', by rw [HBP.out]; first | done | rfl, by rw [HBP.out]; exact HM2.out.chg HCS.out HNE.out.2.1 HNE.out.2.2.1 HNE.out.2.2.2 HBR.out, HFM.out⟩
set_option maxRecDepth 100000 in
set_option maxHeartbeats 8000000 in
theorem deed4_20 {B : Nat} {w : World} {p ps bc br : Nat} {C : Int → Bool} {R : Int → Option RV} {sp no : Int} {QM QX : Nat} {op po ch ma : Int} (h : MM20 B w p ps bc br C R sp no) (hw : WF C R) (hm : Blk w QM 24 #[.pointer (some ⟨p, 0, none⟩)]) (hx : Blk w QX 33 #[.int .i64 op, .int .i64 po, .int .i64 ch, .int .u64 ma]) : Calls Tryz.prog 47 #[.pointer (some ⟨QM, 0, none⟩), .pointer (some ⟨QX, 0, none⟩)] w (BecP20 B p ps bc (doM20 ⟨C, R, sp, no⟩ 4 po ch ma) w) := by
  have hc0 := (Chg.refl (fun _ => False) w).alloc (.cells #[.int .i64 0, .int .u64 0, .int .i64 0, .int .i64 0, .int .i64 0, .int .i64 0, .int .i64 0, .int .i64 0, .int .i64 0] 40)
  have HM := Lib.hid (h.keep hc0)
  have HQM := Lib.hid (hm.chg hc0 id)
  have HQX := Lib.hid (hx.chg hc0 id)
  have HZ : Hid (Blk (w.alloc (.cells #[.int .i64 0, .int .u64 0, .int .i64 0, .int .i64 0, .int .i64 0, .int .i64 0, .int .i64 0, .int .i64 0, .int .i64 0] 40)) w.heap.size 40 (rvC 0 0 0 0 0 0 0 0 0)) := Lib.hid (blk_new rfl)
  have HX := Lib.hid hc0
  have HLT : Hid ((p < w.heap.size ∧ ps < w.heap.size ∧ bc < w.heap.size ∧ br < w.heap.size) ∧ QM < w.heap.size ∧ QX < w.heap.size) := Lib.hid ⟨h.lt, hm.lt, hx.lt⟩
  have HW := Lib.hid hw
  clear h hc0 hm hx hw
  go_enter Tryz.func47, Tryz.ntmps47
  go_upto_region 1 with fail
  generalize w.alloc (.cells #[.int .i64 0, .int .u64 0, .int .i64 0, .int .i64 0, .int .i64 0, .int .i64 0, .int .i64 0, .int .i64 0, .int .i64 0] 40) = w1 at *
  generalize hq1 : w.heap.size = Q1 at HZ ⊢
  have HQ : Hid (w.heap.size ≤ Q1) := Lib.hid (by omega)
  have HNE : Hid (¬ Mv20 p ps bc Q1 ∧ ¬ p = Q1 ∧ ¬ ps = Q1 ∧ ¬ bc = Q1) := Lib.hid (by have h1 := HLT.out; unfold Mv20; omega)
  have HNQ : Hid (¬ QM = Q1 ∧ ¬ QX = Q1) := Lib.hid (by have h1 := HLT.out; omega)
  clear hq1
  have hm0 := HQM.out.cell 0
  obtain ⟨k0, k1, k2, k3⟩ := cl_cells17 HQX.out
  have hmf : ∀ (fn : Fn) (first cap : Array Value) (w : World), (Instr.makeFunc fn first cap).run Tryz.prog w = .ok (.func fn first cap) w := fun _ _ _ _ => rfl
  have hcl := act20_any HM.out po 48 #[.pointer (some ⟨QX, 0, none⟩), .pointer (some ⟨QM, 0, none⟩)] (fun _ _ => by go_simp) (move17 R 4 po ch no) (fun hl => by unfold move17; rw [if_neg hl]) (fun hl => ⟨HW.out.fitM20 4 po ch no, fun W hW => by
    have e : move17 R 4 po ch no = st9 (livR17 R po) ch no := by unfold move17; rw [if_pos hl]; rfl
    rw [e]
    obtain ⟨c0, c1, c2, c3, c4, c5, c6, c7, c8, hc⟩ := rv_letters (livR17 R po)
    rw [hc]
    exact start20_any (HQX.out.chg hW id) (HQM.out.chg hW id) (HM.out.blk.chg hW id) c0 c1 c2 c3 c4 c5 c6 c7 c8⟩)
  obtain ⟨b0, b1, b2, b3, b4, b5, b6, b7, b8, be, C2, R2, sp2, no2, hbp⟩ := num9b (becP20 ⟨C, R, sp, no⟩ (move17 R 4 po ch no))
  rw [hbp] at hcl
  have HBP := Lib.hid ((show doM20 ⟨C, R, sp, no⟩ 4 po ch ma = becP20 ⟨C, R, sp, no⟩ (move17 R 4 po ch no) from rfl).trans hbp)
  have HCL : Hid (Calls _ _ _ _ (fun e w' => ∃ br', e = .returned (.tuple #[.agg #[.int .i64 b0, .int .u64 b1, .int .i64 b2, .int .i64 b3, .int .i64 b4, .int .i64 b5, .int .i64 b6, .int .i64 b7, .int .i64 b8], .int .i64 be]) ∧ MM20 B w' p ps bc br' C2 R2 sp2 no2 ∧ Chg (Mv20 p ps bc) w1 w')) := Lib.hid hcl
  clear hcl hbp
  go_wp2_with fail
  refine HCL.out.mono ?_
  rintro e wz ⟨br', rfl, hm2, hc2⟩
  have HX2 := Lib.hid (HX.out.widen17 hc2 (fun _ h => h))
  replace HZ := Lib.hid (HZ.out.chg hc2 HNE.out.1)
  have HS2 := Lib.hid hm2.cs
  have HM2 := Lib.hid hm2
  clear hm2 hc2 HCL hm0 k0 k1 k2 k3
  obtain ⟨x0, x1, x2, x3, x4, x5, x6, x7, x8⟩ := rv_cells HZ.out
  obtain ⟨u0, u1, u2, u3, u4, u5, u6, u7, u8⟩ := rv_free9 HZ.out
  obtain ⟨r0, r1, r2, r3, r4, r5, r6, r7, r8, -, hcs⟩ := rv_put9 HZ.out b0 b1 b2 b3 b4 b5 b6 b7 b8
  have RR := Lib.hid (And.intro r0 (And.intro r1 (And.intro r2 (And.intro r3 (And.intro r4 (And.intro r5 (And.intro r6 (And.intro r7 r8))))))))
  have HCS := Lib.hid hcs
  have HBR := Lib.hid (HS2.out.apart HZ.out (by decide)).2.2.symm
  have HFM := Lib.hid (fresh_put20 HX2.out hcs HQ.out)
  clear r0 r1 r2 r3 r4 r5 r6 r7 r8 hcs
  go_wp2_with fail
  obtain ⟨r0, r1, r2, r3, r4, r5, r6, r7, r8⟩ := RR.out
  refine bodyPost_ret (v := .tuple #[.agg #[.int .i64 b0, .int .u64 b1, .int .i64 b2, .int .i64 b3, .int .i64 b4, .int .i64 b5, .int .i64 b6, .int .i64 b7, .int .i64 b8], .int .i64 be]) (by simp [results, Tryz.results47, go_sem, r0, r1, r2, r3, r4, r5, r6, r7, r8]) rfl ?_
  exact ⟨br', by rw [HBP.out]; first | done | rfl, by rw [HBP.out]; exact HM2.out.chg HCS.out HNE.out.2.1 HNE.out.2.2.1 HNE.out.2.2.2 HBR.out, HFM.out⟩
set_option maxRecDepth 100000 in
set_option maxHeartbeats 8000000 in
theorem deed5_20 {B : Nat} {w : World} {p ps bc br : Nat} {C : Int → Bool} {R : Int → Option RV} {sp no : Int} {QM QX : Nat} {op po ch ma : Int} (h : MM20 B w p ps bc br C R sp no) (hw : WF C R) (hm : Blk w QM 24 #[.pointer (some ⟨p, 0, none⟩)]) (hx : Blk w QX 33 #[.int .i64 op, .int .i64 po, .int .i64 ch, .int .u64 ma]) : Calls Tryz.prog 50 #[.pointer (some ⟨QM, 0, none⟩), .pointer (some ⟨QX, 0, none⟩)] w (BecP20 B p ps bc (doM20 ⟨C, R, sp, no⟩ 5 po ch ma) w) := by
  have hc0 := (Chg.refl (fun _ => False) w).alloc (.cells #[.int .i64 0, .int .u64 0, .int .i64 0, .int .i64 0, .int .i64 0, .int .i64 0, .int .i64 0, .int .i64 0, .int .i64 0] 40)
  have HM := Lib.hid (h.keep hc0)
  have HQM := Lib.hid (hm.chg hc0 id)
  have HQX := Lib.hid (hx.chg hc0 id)
  have HZ : Hid (Blk (w.alloc (.cells #[.int .i64 0, .int .u64 0, .int .i64 0, .int .i64 0, .int .i64 0, .int .i64 0, .int .i64 0, .int .i64 0, .int .i64 0] 40)) w.heap.size 40 (rvC 0 0 0 0 0 0 0 0 0)) := Lib.hid (blk_new rfl)
  have HX := Lib.hid hc0
  have HLT : Hid ((p < w.heap.size ∧ ps < w.heap.size ∧ bc < w.heap.size ∧ br < w.heap.size) ∧ QM < w.heap.size ∧ QX < w.heap.size) := Lib.hid ⟨h.lt, hm.lt, hx.lt⟩
  have HW := Lib.hid hw
  clear h hc0 hm hx hw
  go_enter Tryz.func50, Tryz.ntmps50
  go_upto_region 1 with fail
  generalize w.alloc (.cells #[.int .i64 0, .int .u64 0, .int .i64 0, .int .i64 0, .int .i64 0, .int .i64 0, .int .i64 0, .int .i64 0, .int .i64 0] 40) = w1 at *
  generalize hq1 : w.heap.size = Q1 at HZ ⊢
  have HQ : Hid (w.heap.size ≤ Q1) := Lib.hid (by omega)
  have HNE : Hid (¬ Mv20 p ps bc Q1 ∧ ¬ p = Q1 ∧ ¬ ps = Q1 ∧ ¬ bc = Q1) := Lib.hid (by have h1 := HLT.out; unfold Mv20; omega)
  have HNQ : Hid (¬ QM = Q1 ∧ ¬ QX = Q1) := Lib.hid (by have h1 := HLT.out; omega)
  clear hq1
  have hm0 := HQM.out.cell 0
  obtain ⟨k0, k1, k2, k3⟩ := cl_cells17 HQX.out
  have hmf : ∀ (fn : Fn) (first cap : Array Value) (w : World), (Instr.makeFunc fn first cap).run Tryz.prog w = .ok (.func fn first cap) w := fun _ _ _ _ => rfl
  have hcl := act20_any HM.out po 51 #[.pointer (some ⟨QM, 0, none⟩)] (fun _ _ => by go_simp) (move17 R 5 po ch no) (fun hl => by unfold move17; rw [if_neg hl]) (fun hl => ⟨HW.out.fitM20 5 po ch no, fun W hW => by
    have e : move17 R 5 po ch no = co9 (livR17 R po) no := by unfold move17; rw [if_pos hl]; rfl
    rw [e]
    obtain ⟨c0, c1, c2, c3, c4, c5, c6, c7, c8, hc⟩ := rv_letters (livR17 R po)
    rw [hc]
    exact commit20_any (HQM.out.chg hW id) (HM.out.blk.chg hW id) c0 c1 c2 c3 c4 c5 c6 c7 c8⟩)
  obtain ⟨b0, b1, b2, b3, b4, b5, b6, b7, b8, be, C2, R2, sp2, no2, hbp⟩ := num9b (becP20 ⟨C, R, sp, no⟩ (move17 R 5 po ch no))
  rw [hbp] at hcl
  have HBP := Lib.hid ((show doM20 ⟨C, R, sp, no⟩ 5 po ch ma = becP20 ⟨C, R, sp, no⟩ (move17 R 5 po ch no) from rfl).trans hbp)
  have HCL : Hid (Calls _ _ _ _ (fun e w' => ∃ br', e = .returned (.tuple #[.agg #[.int .i64 b0, .int .u64 b1, .int .i64 b2, .int .i64 b3, .int .i64 b4, .int .i64 b5, .int .i64 b6, .int .i64 b7, .int .i64 b8], .int .i64 be]) ∧ MM20 B w' p ps bc br' C2 R2 sp2 no2 ∧ Chg (Mv20 p ps bc) w1 w')) := Lib.hid hcl
  clear hcl hbp
  go_wp2_with fail
  refine HCL.out.mono ?_
  rintro e wz ⟨br', rfl, hm2, hc2⟩
  have HX2 := Lib.hid (HX.out.widen17 hc2 (fun _ h => h))
  replace HZ := Lib.hid (HZ.out.chg hc2 HNE.out.1)
  have HS2 := Lib.hid hm2.cs
  have HM2 := Lib.hid hm2
  clear hm2 hc2 HCL hm0 k0 k1 k2 k3
  obtain ⟨x0, x1, x2, x3, x4, x5, x6, x7, x8⟩ := rv_cells HZ.out
  obtain ⟨u0, u1, u2, u3, u4, u5, u6, u7, u8⟩ := rv_free9 HZ.out
  obtain ⟨r0, r1, r2, r3, r4, r5, r6, r7, r8, -, hcs⟩ := rv_put9 HZ.out b0 b1 b2 b3 b4 b5 b6 b7 b8
  have RR := Lib.hid (And.intro r0 (And.intro r1 (And.intro r2 (And.intro r3 (And.intro r4 (And.intro r5 (And.intro r6 (And.intro r7 r8))))))))
  have HCS := Lib.hid hcs
  have HBR := Lib.hid (HS2.out.apart HZ.out (by decide)).2.2.symm
  have HFM := Lib.hid (fresh_put20 HX2.out hcs HQ.out)
  clear r0 r1 r2 r3 r4 r5 r6 r7 r8 hcs
  go_wp2_with fail
  obtain ⟨r0, r1, r2, r3, r4, r5, r6, r7, r8⟩ := RR.out
  refine bodyPost_ret (v := .tuple #[.agg #[.int .i64 b0, .int .u64 b1, .int .i64 b2, .int .i64 b3, .int .i64 b4, .int .i64 b5, .int .i64 b6, .int .i64 b7, .int .i64 b8], .int .i64 be]) (by simp [results, Tryz.results50, go_sem, r0, r1, r2, r3, r4, r5, r6, r7, r8]) rfl ?_
  exact ⟨br', by rw [HBP.out]; first | done | rfl, by rw [HBP.out]; exact HM2.out.chg HCS.out HNE.out.2.1 HNE.out.2.2.1 HNE.out.2.2.2 HBR.out, HFM.out⟩
set_option maxRecDepth 100000 in
set_option maxHeartbeats 8000000 in
theorem deed6_20 {B : Nat} {w : World} {p ps bc br : Nat} {C : Int → Bool} {R : Int → Option RV} {sp no : Int} {QM QX : Nat} {op po ch ma : Int} (h : MM20 B w p ps bc br C R sp no) (hw : WF C R) (hm : Blk w QM 24 #[.pointer (some ⟨p, 0, none⟩)]) (hx : Blk w QX 33 #[.int .i64 op, .int .i64 po, .int .i64 ch, .int .u64 ma]) : Calls Tryz.prog 53 #[.pointer (some ⟨QM, 0, none⟩), .pointer (some ⟨QX, 0, none⟩)] w (BecP20 B p ps bc (doM20 ⟨C, R, sp, no⟩ 6 po ch ma) w) := by
  have hc0 := (Chg.refl (fun _ => False) w).alloc (.cells #[.int .i64 0, .int .u64 0, .int .i64 0, .int .i64 0, .int .i64 0, .int .i64 0, .int .i64 0, .int .i64 0, .int .i64 0] 40)
  have HM := Lib.hid (h.keep hc0)
  have HQM := Lib.hid (hm.chg hc0 id)
  have HQX := Lib.hid (hx.chg hc0 id)
  have HZ : Hid (Blk (w.alloc (.cells #[.int .i64 0, .int .u64 0, .int .i64 0, .int .i64 0, .int .i64 0, .int .i64 0, .int .i64 0, .int .i64 0, .int .i64 0] 40)) w.heap.size 40 (rvC 0 0 0 0 0 0 0 0 0)) := Lib.hid (blk_new rfl)
  have HX := Lib.hid hc0
  have HLT : Hid ((p < w.heap.size ∧ ps < w.heap.size ∧ bc < w.heap.size ∧ br < w.heap.size) ∧ QM < w.heap.size ∧ QX < w.heap.size) := Lib.hid ⟨h.lt, hm.lt, hx.lt⟩
  have HW := Lib.hid hw
  clear h hc0 hm hx hw
  go_enter Tryz.func53, Tryz.ntmps53
  go_upto_region 1 with fail
  generalize w.alloc (.cells #[.int .i64 0, .int .u64 0, .int .i64 0, .int .i64 0, .int .i64 0, .int .i64 0, .int .i64 0, .int .i64 0, .int .i64 0] 40) = w1 at *
  generalize hq1 : w.heap.size = Q1 at HZ ⊢
  have HQ : Hid (w.heap.size ≤ Q1) := Lib.hid (by omega)
  have HNE : Hid (¬ Mv20 p ps bc Q1 ∧ ¬ p = Q1 ∧ ¬ ps = Q1 ∧ ¬ bc = Q1) := Lib.hid (by have h1 := HLT.out; unfold Mv20; omega)
  have HNQ : Hid (¬ QM = Q1 ∧ ¬ QX = Q1) := Lib.hid (by have h1 := HLT.out; omega)
  clear hq1
  have hm0 := HQM.out.cell 0
  obtain ⟨k0, k1, k2, k3⟩ := cl_cells17 HQX.out
  have hmf : ∀ (fn : Fn) (first cap : Array Value) (w : World), (Instr.makeFunc fn first cap).run Tryz.prog w = .ok (.func fn first cap) w := fun _ _ _ _ => rfl
  have hcl := act20_any HM.out po 54 #[.pointer (some ⟨QM, 0, none⟩)] (fun _ _ => by go_simp) (move17 R 6 po ch no) (fun hl => by unfold move17; rw [if_neg hl]) (fun hl => ⟨HW.out.fitM20 6 po ch no, fun W hW => by
    have e : move17 R 6 po ch no = ab9 (livR17 R po) no := by unfold move17; rw [if_pos hl]; rfl
    rw [e]
    obtain ⟨c0, c1, c2, c3, c4, c5, c6, c7, c8, hc⟩ := rv_letters (livR17 R po)
    rw [hc]
    exact abort20_any (HQM.out.chg hW id) (HM.out.blk.chg hW id) c0 c1 c2 c3 c4 c5 c6 c7 c8⟩)
  obtain ⟨b0, b1, b2, b3, b4, b5, b6, b7, b8, be, C2, R2, sp2, no2, hbp⟩ := num9b (becP20 ⟨C, R, sp, no⟩ (move17 R 6 po ch no))
  rw [hbp] at hcl
  have HBP := Lib.hid ((show doM20 ⟨C, R, sp, no⟩ 6 po ch ma = becP20 ⟨C, R, sp, no⟩ (move17 R 6 po ch no) from rfl).trans hbp)
  have HCL : Hid (Calls _ _ _ _ (fun e w' => ∃ br', e = .returned (.tuple #[.agg #[.int .i64 b0, .int .u64 b1, .int .i64 b2, .int .i64 b3, .int .i64 b4, .int .i64 b5, .int .i64 b6, .int .i64 b7, .int .i64 b8], .int .i64 be]) ∧ MM20 B w' p ps bc br' C2 R2 sp2 no2 ∧ Chg (Mv20 p ps bc) w1 w')) := Lib.hid hcl
  clear hcl hbp
  go_wp2_with fail
  refine HCL.out.mono ?_
  rintro e wz ⟨br', rfl, hm2, hc2⟩
  have HX2 := Lib.hid (HX.out.widen17 hc2 (fun _ h => h))
  replace HZ := Lib.hid (HZ.out.chg hc2 HNE.out.1)
  have HS2 := Lib.hid hm2.cs
  have HM2 := Lib.hid hm2
  clear hm2 hc2 HCL hm0 k0 k1 k2 k3
  obtain ⟨x0, x1, x2, x3, x4, x5, x6, x7, x8⟩ := rv_cells HZ.out
  obtain ⟨u0, u1, u2, u3, u4, u5, u6, u7, u8⟩ := rv_free9 HZ.out
  obtain ⟨r0, r1, r2, r3, r4, r5, r6, r7, r8, -, hcs⟩ := rv_put9 HZ.out b0 b1 b2 b3 b4 b5 b6 b7 b8
  have RR := Lib.hid (And.intro r0 (And.intro r1 (And.intro r2 (And.intro r3 (And.intro r4 (And.intro r5 (And.intro r6 (And.intro r7 r8))))))))
  have HCS := Lib.hid hcs
  have HBR := Lib.hid (HS2.out.apart HZ.out (by decide)).2.2.symm
  have HFM := Lib.hid (fresh_put20 HX2.out hcs HQ.out)
  clear r0 r1 r2 r3 r4 r5 r6 r7 r8 hcs
  go_wp2_with fail
  obtain ⟨r0, r1, r2, r3, r4, r5, r6, r7, r8⟩ := RR.out
  refine bodyPost_ret (v := .tuple #[.agg #[.int .i64 b0, .int .u64 b1, .int .i64 b2, .int .i64 b3, .int .i64 b4, .int .i64 b5, .int .i64 b6, .int .i64 b7, .int .i64 b8], .int .i64 be]) (by simp [results, Tryz.results53, go_sem, r0, r1, r2, r3, r4, r5, r6, r7, r8]) rfl ?_
  exact ⟨br', by rw [HBP.out]; first | done | rfl, by rw [HBP.out]; exact HM2.out.chg HCS.out HNE.out.2.1 HNE.out.2.2.1 HNE.out.2.2.2 HBR.out, HFM.out⟩
set_option maxRecDepth 100000 in
set_option maxHeartbeats 8000000 in
theorem deed7_20 {B : Nat} {w : World} {p ps bc br : Nat} {C : Int → Bool} {R : Int → Option RV} {sp no : Int} {QM QX : Nat} {op po ch ma : Int} (h : MM20 B w p ps bc br C R sp no) (hw : WF C R) (hm : Blk w QM 24 #[.pointer (some ⟨p, 0, none⟩)]) (hx : Blk w QX 33 #[.int .i64 op, .int .i64 po, .int .i64 ch, .int .u64 ma]) : Calls Tryz.prog 56 #[.pointer (some ⟨QM, 0, none⟩), .pointer (some ⟨QX, 0, none⟩)] w (BecP20 B p ps bc (doM20 ⟨C, R, sp, no⟩ 7 po ch ma) w) := by
  have hc0 := (Chg.refl (fun _ => False) w).alloc (.cells #[.int .i64 0, .int .u64 0, .int .i64 0, .int .i64 0, .int .i64 0, .int .i64 0, .int .i64 0, .int .i64 0, .int .i64 0] 40)
  have HM := Lib.hid (h.keep hc0)
  have HQM := Lib.hid (hm.chg hc0 id)
  have HQX := Lib.hid (hx.chg hc0 id)
  have HZ : Hid (Blk (w.alloc (.cells #[.int .i64 0, .int .u64 0, .int .i64 0, .int .i64 0, .int .i64 0, .int .i64 0, .int .i64 0, .int .i64 0, .int .i64 0] 40)) w.heap.size 40 (rvC 0 0 0 0 0 0 0 0 0)) := Lib.hid (blk_new rfl)
  have HX := Lib.hid hc0
  have HLT : Hid ((p < w.heap.size ∧ ps < w.heap.size ∧ bc < w.heap.size ∧ br < w.heap.size) ∧ QM < w.heap.size ∧ QX < w.heap.size) := Lib.hid ⟨h.lt, hm.lt, hx.lt⟩
  have HW := Lib.hid hw
  clear h hc0 hm hx hw
  go_enter Tryz.func56, Tryz.ntmps56
  go_upto_region 1 with fail
  generalize w.alloc (.cells #[.int .i64 0, .int .u64 0, .int .i64 0, .int .i64 0, .int .i64 0, .int .i64 0, .int .i64 0, .int .i64 0, .int .i64 0] 40) = w1 at *
  generalize hq1 : w.heap.size = Q1 at HZ ⊢
  have HQ : Hid (w.heap.size ≤ Q1) := Lib.hid (by omega)
  have HNE : Hid (¬ Mv20 p ps bc Q1 ∧ ¬ p = Q1 ∧ ¬ ps = Q1 ∧ ¬ bc = Q1) := Lib.hid (by have h1 := HLT.out; unfold Mv20; omega)
  have HNQ : Hid (¬ QM = Q1 ∧ ¬ QX = Q1) := Lib.hid (by have h1 := HLT.out; omega)
  clear hq1
  have hm0 := HQM.out.cell 0
  obtain ⟨k0, k1, k2, k3⟩ := cl_cells17 HQX.out
  have hl := living20_any HM.out po
  obtain ⟨c0, c1, c2, c3, c4, c5, c6, c7, c8, le, hv⟩ := num9 (r := (livR17 R po, livE17 R po))
  rw [hv] at hl
  have HCL : Hid (Calls _ _ _ _ (HR9 c0 c1 c2 c3 c4 c5 c6 c7 c8 le w1)) := Lib.hid hl
  have HBP : Hid (doM20 ⟨C, R, sp, no⟩ 7 po ch ma = (⟨c0, c1, c2, c3, c4, c5, c6, c7, c8⟩, le, ⟨C, R, sp, no⟩)) := Lib.hid (show (livR17 R po, livE17 R po, _) = _ from by injection hv with h1 h2; rw [h1, h2])
  clear hl hv
  go_wp2_with fail
  refine HCL.out.mono ?_
  rintro e wz ⟨rfl, hc⟩
  replace HM := Lib.hid (HM.out.keep hc)
  replace HZ := Lib.hid (HZ.out.chg hc id)
  replace HX := Lib.hid (HX.out.trans hc (fun _ _ e => e))
  have HX2 : Hid (Chg (Mv20 p ps bc) w wz) := Lib.hid (HX.out.mono (fun _ _ h => h.elim))
  have HS2 := Lib.hid HM.out.cs
  clear hc HCL hm0 k0 k1 k2 k3
  obtain ⟨x0, x1, x2, x3, x4, x5, x6, x7, x8⟩ := rv_cells HZ.out
  obtain ⟨u0, u1, u2, u3, u4, u5, u6, u7, u8⟩ := rv_free9 HZ.out
  obtain ⟨r0, r1, r2, r3, r4, r5, r6, r7, r8, -, hcs⟩ := rv_put9 HZ.out c0 c1 c2 c3 c4 c5 c6 c7 c8
  have RR := Lib.hid (And.intro r0 (And.intro r1 (And.intro r2 (And.intro r3 (And.intro r4 (And.intro r5 (And.intro r6 (And.intro r7 r8))))))))
  have HCS := Lib.hid hcs
  have HBR := Lib.hid (HS2.out.apart HZ.out (by decide)).2.2.symm
  have HFM := Lib.hid (fresh_put20 HX2.out hcs HQ.out)
  clear r0 r1 r2 r3 r4 r5 r6 r7 r8 hcs
  go_wp2_with fail
  obtain ⟨r0, r1, r2, r3, r4, r5, r6, r7, r8⟩ := RR.out
  refine bodyPost_ret (v := .tuple #[.agg #[.int .i64 c0, .int .u64 c1, .int .i64 c2, .int .i64 c3, .int .i64 c4, .int .i64 c5, .int .i64 c6, .int .i64 c7, .int .i64 c8], .int .i64 le]) (by simp [results, Tryz.results56, go_sem, r0, r1, r2, r3, r4, r5, r6, r7, r8]) rfl ?_
  exact ⟨br, by rw [HBP.out]; first | done | rfl, by rw [HBP.out]; exact HM.out.chg HCS.out HNE.out.2.1 HNE.out.2.2.1 HNE.out.2.2.2 HBR.out, HFM.out⟩

end Go.Proofs.YtimgnogacanifaaGreat
