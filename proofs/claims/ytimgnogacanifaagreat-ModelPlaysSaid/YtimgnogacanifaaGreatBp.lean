/-
  Walks: rutterref20.Awake, Clone. Conditions: the document's model lies in memory, and holds what always holds.
-/
import Derived.Test.YtimgnogacanifaaGreatBn
namespace Go.Proofs.YtimgnogacanifaaGreat
open Go.RowKit
set_option linter.unusedVariables false
set_option linter.unusedSimpArgs false

set_option maxRecDepth 100000 in
set_option maxHeartbeats 2000000 in
theorem rmawake20_any {B : Nat} {w : World} {q qs : Nat} {C : Int → Bool} {R : Int → Option RV} {sp no : Int} (h : DM20 B w q qs C R sp no) (hw : WF C R) (by_ po ver : Int) : Calls Tryz.prog 32 #[.pointer (some ⟨q, 0, none⟩), .int .i64 by_, .int .i64 po, .int .i64 ver] w (DocM20 B q qs (.bool (becX20 ⟨C, R, sp, no⟩ (awP20 ⟨C, R, sp, no⟩ by_ po ver) == 0)) (becM20 ⟨C, R, sp, no⟩ (awP20 ⟨C, R, sp, no⟩ by_ po ver)) w) := by
  have HLT := Lib.hid h.lt
  have HM := Lib.hid h
  have HW := Lib.hid hw
  clear h hw
  obtain ⟨d0, d1, d2⟩ := HM.out.cells
  obtain ⟨v, hv⟩ : ∃ v, rowB10 (R po) = v := ⟨_, rfl⟩
  obtain ⟨⟨a0, a1, a2, a3, a4, a5, a6, a7, a8⟩, vb⟩ := v
  have hr := dsrow_any HM.out.ds HW.out po
  rw [hv] at hr
  have hr : Calls _ _ _ _ (HB9 a0 a1 a2 a3 a4 a5 a6 a7 a8 vb w) := hr
  have HRW := Lib.hid hr
  have HV0 := Lib.hid hv
  clear hr hv
  go_enter Tryz.func32, Tryz.ntmps32
  go_wp2_with fail
  refine HRW.out.mono ?_
  rintro e w1 ⟨rfl, hc⟩
  have HSZ0 := Lib.hid hc.size
  have HX := Lib.hid hc
  replace HM := Lib.hid (HM.out.keep hc)
  clear hc HRW d0 d1 d2
  go_upto_region 2 with fail
  have hc := (Chg.refl (fun _ => False) w1).alloc (.cells #[.int .i64 a0, .int .u64 a1, .int .i64 a2, .int .i64 a3, .int .i64 a4, .int .i64 a5, .int .i64 a6, .int .i64 a7, .int .i64 a8] 40)
  have HN : Hid (Blk (w1.alloc (.cells #[.int .i64 a0, .int .u64 a1, .int .i64 a2, .int .i64 a3, .int .i64 a4, .int .i64 a5, .int .i64 a6, .int .i64 a7, .int .i64 a8] 40)) w1.heap.size 40 (rvC a0 a1 a2 a3 a4 a5 a6 a7 a8)) := Lib.hid (blk_new rfl)
  replace HX := Lib.hid (HX.out.trans hc (fun _ _ e => e))
  replace HM := Lib.hid (HM.out.keep hc)
  clear hc
  generalize w1.alloc (.cells #[.int .i64 a0, .int .u64 a1, .int .i64 a2, .int .i64 a3, .int .i64 a4, .int .i64 a5, .int .i64 a6, .int .i64 a7, .int .i64 a8] 40) = w2 at *
  generalize w1.heap.size = QN at *
  have HSZ := Lib.hid HX.out.size
  rcases rowB_cases20 HV0.out with ⟨rfl, hR⟩ | ⟨rfl, hR⟩
  · have HAX : Hid ((becX20 ⟨C, R, sp, no⟩ (awP20 ⟨C, R, sp, no⟩ by_ po ver) == 0) = false ∧ becM20 ⟨C, R, sp, no⟩ (awP20 ⟨C, R, sp, no⟩ by_ po ver) = ⟨C, R, sp, no⟩) := Lib.hid (by
      have hl : livE17 R po = 4 := by unfold livE17; rw [hR]
      have e : awP20 ⟨C, R, sp, no⟩ by_ po ver = (z9, 4) := by unfold awP20; dsimp only; rw [hl]; exact if_neg (by decide)
      have h2 := bec_err20 ⟨C, R, sp, no⟩ (p := (z9, 4)) (by decide)
      rw [e]
      refine ⟨?_, congrArg (fun z => z.2.2) h2⟩
      rw [show becX20 ⟨C, R, sp, no⟩ (z9, 4) = 4 from congrArg (fun z => z.2.1) h2]
      rfl)
    clear hR
    go_wp2_with fail
    go_ret
    exact ⟨qs, by rw [HAX.out.1]; rfl, by rw [HAX.out.2]; exact HM.out, HX.out.mono (fun _ _ h => h.elim), .inl rfl⟩
  · have HRS := Lib.hid hR
    clear hR HV0
    obtain ⟨f0, f1, f2, f3, f4, f5, f6, f7, f8, fe, hf⟩ := num9 (r := aw9 ⟨a0, a1, a2, a3, a4, a5, a6, a7, a8⟩ by_ ver no)
    have hcl := fun (W : World) => rawa_any a0 a1 a2 a3 a4 a5 a6 a7 a8 by_ ver no W
    rw [hf] at hcl
    have HFE := Lib.hid hf
    have HACT : Hid (∀ W, Calls _ _ _ W (HR9 f0 f1 f2 f3 f4 f5 f6 f7 f8 fe W)) := Lib.hid hcl
    clear hcl hf
    have HKEEP : Hid (∀ W : World, Chg (fun _ => False) w2 W → (((W.cell? ⟨QN, 0, none⟩ = some (.int .i64 a0) ∧ W.cell? ⟨QN, 1, none⟩ = some (.int .u64 a1) ∧ W.cell? ⟨QN, 2, none⟩ = some (.int .i64 a2) ∧ W.cell? ⟨QN, 3, none⟩ = some (.int .i64 a3) ∧ W.cell? ⟨QN, 4, none⟩ = some (.int .i64 a4) ∧ W.cell? ⟨QN, 5, none⟩ = some (.int .i64 a5) ∧ W.cell? ⟨QN, 6, none⟩ = some (.int .i64 a6) ∧ W.cell? ⟨QN, 7, none⟩ = some (.int .i64 a7) ∧ W.cell? ⟨QN, 8, none⟩ = some (.int .i64 a8)) ∧ W.cell? ⟨q, 2, none⟩ = some (.int .i64 no)))) := Lib.hid (fun W hw => by
      exact ⟨rv_cells (HN.out.chg hw id), (HM.out.blk.chg hw id).cell 2⟩
    )
    have HXA := Lib.hid (Chg.refl (fun _ => False) w2).drew
    have HXA2 := Lib.hid (((Chg.refl (fun _ => False) w2).alloc (.cells #[.int .i64 0, .int .u64 0, .int .i64 0, .int .i64 0, .int .i64 0, .int .i64 0, .int .i64 0, .int .i64 0, .int .i64 0] 40)).drew)
    have HNA : Hid (Blk (w2.alloc (.cells #[.int .i64 0, .int .u64 0, .int .i64 0, .int .i64 0, .int .i64 0, .int .i64 0, .int .i64 0, .int .i64 0, .int .i64 0] 40)).drew w2.heap.size 40 (rvC 0 0 0 0 0 0 0 0 0)) := Lib.hid (blk_new rfl).drew
    go_upto_region 4 with fail
    go_cut [11, 12] (fun s11 s12 wx => BX17 40 #[.int .i64 f0, .int .u64 f1, .int .i64 f2, .int .i64 f3, .int .i64 f4, .int .i64 f5, .int .i64 f6, .int .i64 f7, .int .i64 f8] (.int .i64 fe) w2 s11 s12 wx)
    case first =>
      have hkk := HKEEP.out _ HXA.out
      obtain ⟨⟨g0, g1, g2, g3, g4, g5, g6, g7, g8⟩, g9⟩ := hkk
      go_region_held3 (fun w' => ((w'.cell? ⟨QN, 0, none⟩ = some (.int .i64 a0) ∧ w'.cell? ⟨QN, 1, none⟩ = some (.int .u64 a1) ∧ w'.cell? ⟨QN, 2, none⟩ = some (.int .i64 a2) ∧ w'.cell? ⟨QN, 3, none⟩ = some (.int .i64 a3) ∧ w'.cell? ⟨QN, 4, none⟩ = some (.int .i64 a4) ∧ w'.cell? ⟨QN, 5, none⟩ = some (.int .i64 a5) ∧ w'.cell? ⟨QN, 6, none⟩ = some (.int .i64 a6) ∧ w'.cell? ⟨QN, 7, none⟩ = some (.int .i64 a7) ∧ w'.cell? ⟨QN, 8, none⟩ = some (.int .i64 a8)) ∧ w'.cell? ⟨q, 2, none⟩ = some (.int .i64 no)))
        (first | with_reducible exact HKEEP.out _ HXA.out | with_reducible exact HKEEP.out _ HXA2.out | with_reducible exact HKEEP.out _ HXB.out | with_reducible exact HKEEP.out _ (HXB.out.alloc _) | with_reducible exact HKEEP.out _ HXC.out | with_reducible exact HKEEP.out _ HXD.out | fail)
        (first
          | (go_at_call 68; (with_reducible refine (HACT.out w2.drew).mono ?_); rintro e wz ⟨rfl, hc⟩; have HXB := Lib.hid (HXA.out.trans hc (fun _ _ e => e)); clear hc)
          | (go_at_call 68; (with_reducible refine (HACT.out (w2.alloc (.cells #[.int .i64 0, .int .u64 0, .int .i64 0, .int .i64 0, .int .i64 0, .int .i64 0, .int .i64 0, .int .i64 0, .int .i64 0] 40)).drew).mono ?_); rintro e wz ⟨rfl, hc⟩; have HXC := Lib.hid (HXA2.out.trans hc (fun _ _ e => e)); have HNC := Lib.hid (HNA.out.chg hc id); obtain ⟨x0, x1, x2, x3, x4, x5, x6, x7, x8⟩ := rv_cells HNC.out; obtain ⟨u0, u1, u2, u3, u4, u5, u6, u7, u8⟩ := rv_free9 HNC.out; obtain ⟨-, -, -, -, -, -, -, -, -, hcs⟩ := rv_put17 HNC.out rfl f0 f1 f2 f3 f4 f5 f6 f7 f8; have hset := rv_set17 HNC.out f0 f1 f2 f3 f4 f5 f6 f7 f8; have HXD := Lib.hid (fresh_set HXC.out hcs (Nat.le_refl _)); have HWB : Hid (BX17 40 #[.int .i64 f0, .int .u64 f1, .int .i64 f2, .int .i64 f3, .int .i64 f4, .int .i64 f5, .int .i64 f6, .int .i64 f7, .int .i64 f8] (.int .i64 fe) w2 (.pointer (some ⟨w2.heap.size, 0, none⟩)) (.int .i64 fe) (((((((((wz.setCell ⟨w2.heap.size, 0, none⟩ (.int .i64 f0)).setCell ⟨w2.heap.size, 1, none⟩ (.int .u64 f1)).setCell ⟨w2.heap.size, 2, none⟩ (.int .i64 f2)).setCell ⟨w2.heap.size, 3, none⟩ (.int .i64 f3)).setCell ⟨w2.heap.size, 4, none⟩ (.int .i64 f4)).setCell ⟨w2.heap.size, 5, none⟩ (.int .i64 f5)).setCell ⟨w2.heap.size, 6, none⟩ (.int .i64 f6)).setCell ⟨w2.heap.size, 7, none⟩ (.int .i64 f7)).setCell ⟨w2.heap.size, 8, none⟩ (.int .i64 f8))) := Lib.hid ⟨_, rfl, rfl, hset, HXD.out, Nat.le_refl _⟩; clear hset hcs hc)
          | fail)
      all_goals
        go_wp2_with fail
        go_meet
        first
          | exact HWB.out
          | exact ⟨wz.heap.size, rfl, rfl, blk_new rfl, HXB.out.alloc _, HXB.out.size⟩
    case rest =>
      obtain ⟨QB, rfl, rfl, hbx, hcx, hqx⟩ := hcut
      have HBX := Lib.hid hbx
      have HCX := Lib.hid hcx
      have HQX := Lib.hid hqx
      clear hbx hcx hqx HKEEP HXA HXA2 HNA
      have HFX := Lib.hid (HX.out.trans HCX.out (fun _ _ e => e))
      replace HM := Lib.hid (HM.out.keep HCX.out)
      have HQB : Hid (q ≠ QB ∧ qs ≠ QB) := Lib.hid (by have h1 := HLT.out; have h2 := HQX.out; have h3 := HSZ.out; omega)
      clear HCX HX HN
      by_cases he : fe = 0
      · subst he
        have HAX : Hid (becX20 ⟨C, R, sp, no⟩ (awP20 ⟨C, R, sp, no⟩ by_ po ver) = wrongP C R ⟨⟨f0, f1, f2, f3, f4, f5, f6, f7, f8⟩, verP R f0⟩ ∧ becM20 ⟨C, R, sp, no⟩ (awP20 ⟨C, R, sp, no⟩ by_ po ver) = ⟨C, setR20 C R ⟨⟨f0, f1, f2, f3, f4, f5, f6, f7, f8⟩, 0⟩, sp, no⟩) := Lib.hid (by
          have hl : livE17 R po = 0 := by
            unfold livE17
            rw [HRS.out]
            exact if_neg (fun h3 => absurd (congrArg Prod.snd HFE.out) (by exact aw_gone20 h3 by_ ver no))
          have e : awP20 ⟨C, R, sp, no⟩ by_ po ver = (⟨f0, f1, f2, f3, f4, f5, f6, f7, f8⟩, 0) := by
            unfold awP20
            dsimp only
            rw [if_pos hl, show livR17 R po = ⟨a0, a1, a2, a3, a4, a5, a6, a7, a8⟩ from by obtain ⟨x, h1, -, h2⟩ := liv_some20 hl; rw [h2]; rw [HRS.out] at h1; injection h1 with h1; exact h1.symm]
            exact HFE.out
          rw [e]
          have h2 := bec_doc20 ⟨C, R, sp, no⟩ ⟨f0, f1, f2, f3, f4, f5, f6, f7, f8⟩
          exact ⟨congrArg (fun z => z.2.1) h2, congrArg (fun z => z.2.2) h2⟩)
        have HSET := Lib.hid (set17_any HM.out.ds.drew HW.out f0 f1 f2 f3 f4 f5 f6 f7 f8)
        have HKP : Hid (∀ W : World, Chg (fun k => k = qs) wc W → ((W.cell? ⟨q, 0, none⟩ = some (.pointer (some ⟨qs, 0, none⟩)) ∧ (W.cell? ⟨QB, 0, none⟩ = some (.int .i64 f0) ∧ W.cell? ⟨QB, 1, none⟩ = some (.int .u64 f1) ∧ W.cell? ⟨QB, 2, none⟩ = some (.int .i64 f2) ∧ W.cell? ⟨QB, 3, none⟩ = some (.int .i64 f3) ∧ W.cell? ⟨QB, 4, none⟩ = some (.int .i64 f4) ∧ W.cell? ⟨QB, 5, none⟩ = some (.int .i64 f5) ∧ W.cell? ⟨QB, 6, none⟩ = some (.int .i64 f6) ∧ W.cell? ⟨QB, 7, none⟩ = some (.int .i64 f7) ∧ W.cell? ⟨QB, 8, none⟩ = some (.int .i64 f8))))) := Lib.hid (fun W hw => ⟨(HM.out.blk.chg hw HM.out.ne).cell 0, rv_cells (show Blk W QB 40 (rvC f0 f1 f2 f3 f4 f5 f6 f7 f8) from HBX.out.chg hw (fun e => HQB.out.2 e.symm))⟩)
        have HZA := Lib.hid (Chg.refl (fun k => k = qs) wc).drew
        generalize hz : wrongP C R ⟨⟨f0, f1, f2, f3, f4, f5, f6, f7, f8⟩, verP R f0⟩ = er at *
        have hd : ∀ b, (er == 0) = b → Hid ((er == 0) = b) := fun b h => Lib.hid h
        go_upto_region 5 with fail
        have hkk := HKP.out _ HZA.out
        obtain ⟨g0, h0, h1, h2, h3, h4, h5, h6, h7, h8⟩ := hkk
        go_region_held3 (fun w' => (w'.cell? ⟨q, 0, none⟩ = some (.pointer (some ⟨qs, 0, none⟩)) ∧ (w'.cell? ⟨QB, 0, none⟩ = some (.int .i64 f0) ∧ w'.cell? ⟨QB, 1, none⟩ = some (.int .u64 f1) ∧ w'.cell? ⟨QB, 2, none⟩ = some (.int .i64 f2) ∧ w'.cell? ⟨QB, 3, none⟩ = some (.int .i64 f3) ∧ w'.cell? ⟨QB, 4, none⟩ = some (.int .i64 f4) ∧ w'.cell? ⟨QB, 5, none⟩ = some (.int .i64 f5) ∧ w'.cell? ⟨QB, 6, none⟩ = some (.int .i64 f6) ∧ w'.cell? ⟨QB, 7, none⟩ = some (.int .i64 f7) ∧ w'.cell? ⟨QB, 8, none⟩ = some (.int .i64 f8))))
          (first | with_reducible exact HKP.out _ HZA.out | with_reducible exact HKP.out _ HZB.out | fail)
          (first
            | (go_at_call 31; (with_reducible refine HSET.out.mono ?_); rintro e wz ⟨rfl, hs, hc⟩; have HZB := Lib.hid (HZA.out.trans hc (fun _ _ e => e)); have HSZ2 := Lib.hid hs; clear hs hc)
            | fail)
        all_goals
          have HF2 : Hid (Chg (fun k => k = q ∨ k = qs) w wz) := Lib.hid (HFX.out.widen17 HZB.out (fun k hk => .inr hk))
          go_wp2_with fail
          go_ret
          exact ⟨qs, by rw [HAX.out.1]; rfl, by rw [HAX.out.2]; exact ⟨HM.out.bq, HM.out.bs, HM.out.blk.chg HZB.out HM.out.ne, HSZ2.out⟩, HF2.out, .inl rfl⟩
      · have te : (fe == 0) = false := by simpa using he
        have HAX : Hid ((becX20 ⟨C, R, sp, no⟩ (awP20 ⟨C, R, sp, no⟩ by_ po ver) == 0) = false ∧ becM20 ⟨C, R, sp, no⟩ (awP20 ⟨C, R, sp, no⟩ by_ po ver) = ⟨C, R, sp, no⟩) := Lib.hid (by
          have e : (awP20 ⟨C, R, sp, no⟩ by_ po ver).2 ≠ 0 := by
            unfold awP20
            dsimp only
            by_cases hl : livE17 R po = 0
            · rw [if_pos hl, show livR17 R po = ⟨a0, a1, a2, a3, a4, a5, a6, a7, a8⟩ from by obtain ⟨x, h1, -, h2⟩ := liv_some20 hl; rw [h2]; rw [HRS.out] at h1; injection h1 with h1; exact h1.symm]
              rw [HFE.out]
              exact he
            · rw [if_neg hl]
              exact hl
          have h2 := bec_err20 ⟨C, R, sp, no⟩ e
          refine ⟨?_, congrArg (fun z => z.2.2) h2⟩
          rw [show becX20 ⟨C, R, sp, no⟩ (awP20 ⟨C, R, sp, no⟩ by_ po ver) = (awP20 ⟨C, R, sp, no⟩ by_ po ver).2 from congrArg (fun z => z.2.1) h2]
          simpa using e)
        clear he
        have HM3 := Lib.hid (HM.out.keep (Chg.refl (fun _ => False) wc).drew)
        have HF3 := Lib.hid HFX.out.drew
        go_upto_region 5 with fail
        go_region
        go_wp2_with fail
        go_ret
        exact ⟨qs, by rw [HAX.out.1]; rfl, by rw [HAX.out.2]; exact HM3.out, HF3.out.mono (fun _ _ h => h.elim), .inl rfl⟩
set_option maxRecDepth 100000 in
set_option maxHeartbeats 4000000 in
theorem rmclone20_any {B : Nat} {w : World} {q qs : Nat} {C : Int → Bool} {R : Int → Option RV} {sp no : Int} (h : DM20 B w q qs C R sp no) : Calls Tryz.prog 8 #[.pointer (some ⟨q, 0, none⟩)] w fun e w' => ∃ q2 qs2, e = .returned (.pointer (some ⟨q2, 0, none⟩)) ∧ DM20 w.heap.size w' q2 qs2 C R sp no ∧ Chg (fun _ => False) w w' := by
  have HM := Lib.hid h
  clear h
  go_enter Tryz.func8, Tryz.ntmps8
  go_upto_region 1 with fail
  have HKEEP : Hid (∀ W : World, Chg (fun _ => False) w W → ((W.cell? ⟨q, 0, none⟩ = some (.pointer (some ⟨qs, 0, none⟩)) ∧ W.cell? ⟨q, 1, none⟩ = some (.int .i64 sp) ∧ W.cell? ⟨q, 2, none⟩ = some (.int .i64 no)))) := Lib.hid (fun W hw => (HM.out.keep hw).cells)
  have HY0 := Lib.hid (Chg.refl (fun _ => False) w).drew
  have hkk := HKEEP.out _ HY0.out
  obtain ⟨g0, g1, g2⟩ := hkk
  go_region_held3 (fun w' => (w'.cell? ⟨q, 0, none⟩ = some (.pointer (some ⟨qs, 0, none⟩)) ∧ w'.cell? ⟨q, 1, none⟩ = some (.int .i64 sp) ∧ w'.cell? ⟨q, 2, none⟩ = some (.int .i64 no)))
    (first | with_reducible exact HKEEP.out _ HY0.out | with_reducible exact HKEEP.out _ HY1.out | with_reducible exact HKEEP.out _ (HY1.out.alloc _) | fail)
    (first
      | (go_at_call 21; (with_reducible refine (copy17_any HM.out.ds.drew).mono ?_); rintro e wz ⟨rfl, hs, hc⟩; have HY1 := Lib.hid (HY0.out.trans hc (fun _ _ e => e)); have HN := Lib.hid hs; clear hs hc)
      | fail)
  all_goals
    go_wp2_with fail
    go_ret
    exact ⟨_, _, rfl, ⟨HY1.out.size, Nat.le_refl _, blk_new rfl, HN.out.keep ((Chg.refl (fun _ => False) _).alloc _)⟩, HY1.out.alloc _⟩

end Go.Proofs.YtimgnogacanifaaGreat
