/-
  Walk: rutterlaw15.DpathTunnel. Conditions: the entries, and the frame, are read in memory.
-/
import Derived.Test.YtacbgelbffmngaaIf
namespace Go.Proofs.Ytacbgelbffmngaa
open Go.RowKit
set_option linter.unusedVariables false
set_option linter.unusedSimpArgs false

set_option maxRecDepth 100000 in
set_option maxHeartbeats 16000000 in
theorem dtunnel15_any {w : World} {L : Option Addr} {m lc : Nat} {l : List En} (h : EnR w L m l) (hz : L = none → lc = 0) (hmc : m ≤ 9223372036854775807) (k o f t p g i ch : Int) (A : Option Addr) (n c : Nat) (b : List UInt8) (hb : BsM15 w A n c b) (hn : n ≤ 9223372036854775807) : Calls Try.prog 4 #[.slice L m lc, .agg #[.int .i64 k, .int .i64 o, .int .i64 f, .int .i64 t, .int .i64 p, .int .i64 g, .int .i64 i, .slice A n c], .int .i64 ch] w fun e w2 => e = .returned (.bool true) ∧ Chg (fun _ => False) w w2 := by
  by_cases hm : m ≤ 100
  case neg =>
    have hfi := fun W => fits5_any k o f t p g i A n c W hn
    unfold pkC at hfi
    have HAL := Lib.hid (fun W => alive15_any W)
    have HFI := Lib.hid hfi
    clear hfi
    have HB0 : Hid (Blk (w.alloc (.cells #[.int .i64 k, .int .i64 o, .int .i64 f, .int .i64 t, .int .i64 p, .int .i64 g, .int .i64 i, .slice A n c] 37)) (w.heap.size) 37 (pkC k o f t p g i A n c)) := Lib.hid (blk_new rfl)
    have HX := Lib.hid ((Chg.refl (fun _ => False) w).alloc (.cells #[.int .i64 k, .int .i64 o, .int .i64 f, .int .i64 t, .int .i64 p, .int .i64 g, .int .i64 i, .slice A n c] 37))
    have HQ : Hid (w.heap.size ≤ w.heap.size) := Lib.hid (by omega)
    go_enter Try.func4, Try.ntmps4
    go_upto_region 1 with fail
    generalize w.alloc (.cells #[.int .i64 k, .int .i64 o, .int .i64 f, .int .i64 t, .int .i64 p, .int .i64 g, .int .i64 i, .slice A n c] 37) = w1 at *
    generalize w.heap.size = Q0 at HB0 ⊢
    obtain ⟨y0, y1, y2, y3, y4, y5, y6, y7⟩ := pk_cells HB0.out
    go_wp2_with fail
    refine (HFI.out _).mono ?_
    rintro e w2 ⟨rfl, hc⟩
    replace HB0 := Lib.hid (HB0.out.chg hc id)
    replace HX := Lib.hid (HX.out.trans hc (fun _ _ e => e))
    clear hc y0 y1 y2 y3 y4 y5 y6 y7
    go_wp2_with fail
    refine (HAL.out _).mono ?_
    rintro e w3 ⟨rfl, hc⟩
    replace HX := Lib.hid (HX.out.trans hc (fun _ _ e => e))
    clear hc
    go_wp2_with fail
    go_ret
    exact ⟨rfl, HX.out⟩
  cases hf3 : decide (n ≤ 3000) with
  | false =>
    have hfi := fun W => fits5_any k o f t p g i A n c W hn
    unfold pkC at hfi
    have HAL := Lib.hid (fun W => alive15_any W)
    rw [hf3] at hfi
    clear hf3
    have HFI := Lib.hid hfi
    clear hfi
    have HB0 : Hid (Blk (w.alloc (.cells #[.int .i64 k, .int .i64 o, .int .i64 f, .int .i64 t, .int .i64 p, .int .i64 g, .int .i64 i, .slice A n c] 37)) (w.heap.size) 37 (pkC k o f t p g i A n c)) := Lib.hid (blk_new rfl)
    have HX := Lib.hid ((Chg.refl (fun _ => False) w).alloc (.cells #[.int .i64 k, .int .i64 o, .int .i64 f, .int .i64 t, .int .i64 p, .int .i64 g, .int .i64 i, .slice A n c] 37))
    have HQ : Hid (w.heap.size ≤ w.heap.size) := Lib.hid (by omega)
    go_enter Try.func4, Try.ntmps4
    go_upto_region 1 with fail
    generalize w.alloc (.cells #[.int .i64 k, .int .i64 o, .int .i64 f, .int .i64 t, .int .i64 p, .int .i64 g, .int .i64 i, .slice A n c] 37) = w1 at *
    generalize w.heap.size = Q0 at HB0 ⊢
    obtain ⟨y0, y1, y2, y3, y4, y5, y6, y7⟩ := pk_cells HB0.out
    go_wp2_with fail
    refine (HFI.out _).mono ?_
    rintro e w2 ⟨rfl, hc⟩
    replace HB0 := Lib.hid (HB0.out.chg hc id)
    replace HX := Lib.hid (HX.out.trans hc (fun _ _ e => e))
    clear hc y0 y1 y2 y3 y4 y5 y6 y7
    go_wp2_with fail
    refine (HAL.out _).mono ?_
    rintro e w3 ⟨rfl, hc⟩
    replace HX := Lib.hid (HX.out.trans hc (fun _ _ e => e))
    clear hc
    go_wp2_with fail
    go_ret
    exact ⟨rfl, HX.out⟩
  | true =>
    have hfi := fun W => fits5_any k o f t p g i A n c W hn
    unfold pkC at hfi
    have HAL := Lib.hid (fun W => alive15_any W)
    rw [hf3] at hfi
    clear hf3
    obtain ⟨v, x, hg, hrg, hni⟩ := tboth15 k o f t p g i ch A n c b hn l
    have HGU := Lib.hid hg
    have HRG0 := Lib.hid hrg
    have HNI := Lib.hid (show ∀ W, BsM15 W A n c b → Calls Try.prog 15 #[.pointer none, .int .i64 ch, .agg #[.int .i64 k, .int .i64 o, .int .i64 f, .int .i64 t, .int .i64 p, .int .i64 g, .int .i64 i, .slice A n c]] W (fun e w' => ∃ A7 n7 c7 A8 n8 c8, e = .returned (.tuple #[.agg #[.int .i64 0, .int .i64 0, .int .i64 0, .int .i64 0, .slice A7 n7 c7, .int .i64 0, .int .i64 0, .int .i64 0, .int .i64 0, .int .i64 0, .int .i64 0, .int .i64 0, .slice A8 n8 c8], .int .i64 x]) ∧ Chg (fun _ => False) W w') from fun W hW => (hni W hW).mono (by
      rintro e w' ⟨A7, n7, c7, A8, n8, c8, h1, -, -, h4⟩
      exact ⟨A7, n7, c7, A8, n8, c8, h1, h4⟩))
    have HR := Lib.hid h
    have HM := Lib.hid hb
    have HZN := Lib.hid hz
    have HLL := Lib.hid (show l.length ≤ 256 by have := h.1; omega)
    clear hg hrg hni h hb hz
    have HFI := Lib.hid hfi
    clear hfi
    have HB0 : Hid (Blk (w.alloc (.cells #[.int .i64 k, .int .i64 o, .int .i64 f, .int .i64 t, .int .i64 p, .int .i64 g, .int .i64 i, .slice A n c] 37)) (w.heap.size) 37 (pkC k o f t p g i A n c)) := Lib.hid (blk_new rfl)
    have HX := Lib.hid ((Chg.refl (fun _ => False) w).alloc (.cells #[.int .i64 k, .int .i64 o, .int .i64 f, .int .i64 t, .int .i64 p, .int .i64 g, .int .i64 i, .slice A n c] 37))
    have HQ : Hid (w.heap.size ≤ w.heap.size) := Lib.hid (by omega)
    go_enter Try.func4, Try.ntmps4
    go_upto_region 1 with fail
    generalize w.alloc (.cells #[.int .i64 k, .int .i64 o, .int .i64 f, .int .i64 t, .int .i64 p, .int .i64 g, .int .i64 i, .slice A n c] 37) = w1 at *
    generalize w.heap.size = Q0 at HB0 ⊢
    obtain ⟨y0, y1, y2, y3, y4, y5, y6, y7⟩ := pk_cells HB0.out
    go_wp2_with fail
    refine (HFI.out _).mono ?_
    rintro e w2 ⟨rfl, hc⟩
    replace HB0 := Lib.hid (HB0.out.chg hc id)
    replace HX := Lib.hid (HX.out.trans hc (fun _ _ e => e))
    clear hc y0 y1 y2 y3 y4 y5 y6 y7
    replace HR := Lib.hid (HR.out.chg HX.out)
    replace HM := Lib.hid (HM.out.chg HX.out)
    have HN := Lib.hid (fnew13_any HR.out HZN.out (by omega))
    go_wp2_with fail
    refine HN.out.mono ?_
    rintro e w4 ⟨q0, rfl, hT, hc⟩
    have HT := Lib.hid hT
    replace HB0 := Lib.hid (HB0.out.chg hc id)
    replace HR := Lib.hid (HR.out.chg hc)
    replace HM := Lib.hid (HM.out.chg hc)
    replace HX := Lib.hid (HX.out.trans hc (fun _ _ e => e))
    clear hT hc HN
    obtain ⟨y0, y1, y2, y3, y4, y5, y6, y7⟩ := pk_cells HB0.out
    have HG := Lib.hid (HGU.out _ q0 HT.out HLL.out HM.out)
    go_wp2_with fail
    refine HG.out.mono ?_
    rintro e w5 ⟨A2, n2, c2, A3, n3, c3, rfl, hm2, hm3, hc⟩
    unfold ouC15
    have hca := hc.alloc (.cells #[.int .i64 v.kd, .int .i64 v.po, .int .i64 v.ge, .int .i64 v.st, .slice A2 n2 c2, .int .i64 v.k, .int .i64 v.o, .int .i64 v.f, .int .i64 v.t, .int .i64 v.p, .int .i64 v.g, .int .i64 v.i, .slice A3 n3 c3] 39)
    have HB2 : Hid (Blk (w5.alloc (.cells #[.int .i64 v.kd, .int .i64 v.po, .int .i64 v.ge, .int .i64 v.st, .slice A2 n2 c2, .int .i64 v.k, .int .i64 v.o, .int .i64 v.f, .int .i64 v.t, .int .i64 v.p, .int .i64 v.g, .int .i64 v.i, .slice A3 n3 c3] 39)) w5.heap.size 39 (ouC15 v.kd v.po v.ge v.st A2 n2 c2 v.k v.o v.f v.t v.p v.g v.i A3 n3 c3)) := Lib.hid (blk_new rfl)
    have HM2 := Lib.hid (hm2.alloc (.cells #[.int .i64 v.kd, .int .i64 v.po, .int .i64 v.ge, .int .i64 v.st, .slice A2 n2 c2, .int .i64 v.k, .int .i64 v.o, .int .i64 v.f, .int .i64 v.t, .int .i64 v.p, .int .i64 v.g, .int .i64 v.i, .slice A3 n3 c3] 39))
    have HM3 := Lib.hid (hm3.alloc (.cells #[.int .i64 v.kd, .int .i64 v.po, .int .i64 v.ge, .int .i64 v.st, .slice A2 n2 c2, .int .i64 v.k, .int .i64 v.o, .int .i64 v.f, .int .i64 v.t, .int .i64 v.p, .int .i64 v.g, .int .i64 v.i, .slice A3 n3 c3] 39))
    replace HB0 := Lib.hid (HB0.out.chg hca id)
    replace HR := Lib.hid (HR.out.chg hca)
    replace HM := Lib.hid (HM.out.chg hca)
    replace HX := Lib.hid (HX.out.trans hca (fun _ _ e => e))
    clear hm2 hm3 hc hca HG HGU HT y0 y1 y2 y3 y4 y5 y6 y7
    go_upto_region 6 with fail
    generalize w5.alloc (.cells #[.int .i64 v.kd, .int .i64 v.po, .int .i64 v.ge, .int .i64 v.st, .slice A2 n2 c2, .int .i64 v.k, .int .i64 v.o, .int .i64 v.f, .int .i64 v.t, .int .i64 v.p, .int .i64 v.g, .int .i64 v.i, .slice A3 n3 c3] 39) = v5 at *
    generalize w5.heap.size = X10 at *
    have HLO := Lib.hid (fun (W : World) (hW : Chg (fun _ => False) v5 W) => lof13_any (lc := lc) (HR.out.chg hW) (by omega))
    have HRG := Lib.hid (fun (W : World) (E : Option Addr) (ke : Nat) (hE : EnR W E m l) (hW : Chg (fun _ => False) v5 W) => HRG0.out W E m ke hE hmc (HM.out.chg hW))
    clear HRG0
    have HKEEP : Hid (∀ W : World, Chg (fun _ => False) v5 W → (W.cell? ⟨Q0, 0, none⟩ = some (.int .i64 k) ∧ W.cell? ⟨Q0, 1, none⟩ = some (.int .i64 o) ∧ W.cell? ⟨Q0, 2, none⟩ = some (.int .i64 f) ∧ W.cell? ⟨Q0, 3, none⟩ = some (.int .i64 t) ∧ W.cell? ⟨Q0, 4, none⟩ = some (.int .i64 p) ∧ W.cell? ⟨Q0, 5, none⟩ = some (.int .i64 g) ∧ W.cell? ⟨Q0, 6, none⟩ = some (.int .i64 i) ∧ W.cell? ⟨Q0, 7, none⟩ = some (.slice A n c))) := Lib.hid (fun W hw => by
      obtain ⟨y0, y1, y2, y3, y4, y5, y6, y7⟩ := pk_cells (HB0.out.chg hw id)
      exact ⟨y0, y1, y2, y3, y4, y5, y6, y7⟩
    )
    have HXA := Lib.hid ((Chg.refl (fun _ => False) v5).drew)
    have HXA2 := Lib.hid (((Chg.refl (fun _ => False) v5).alloc (.cells #[.int .i64 0, .int .i64 0, .int .i64 0, .int .i64 0, .string ⟨#[]⟩, .int .i64 0, .int .i64 0, .int .i64 0, .int .i64 0, .int .i64 0, .int .i64 0, .int .i64 0, .slice none 0 0] 43)).drew)
    have HNA : Hid (Blk (v5.alloc (.cells #[.int .i64 0, .int .i64 0, .int .i64 0, .int .i64 0, .string ⟨#[]⟩, .int .i64 0, .int .i64 0, .int .i64 0, .int .i64 0, .int .i64 0, .int .i64 0, .int .i64 0, .slice none 0 0] 43)).drew v5.heap.size 43 (roC15 0 0 0 0 ([]) 0 0 0 0 0 0 0 none 0 0)) := Lib.hid (blk_new rfl).drew
    go_cut [12, 13] (fun s12 s13 wx => ∃ q A5 n5 c5, s12 = .pointer (some ⟨q, 0, none⟩) ∧ s13 = .int .i64 x ∧ Blk wx q 43 (roC15 v.kd v.po v.ge v.st v.fb v.k v.o v.f v.t v.p v.g v.i A5 n5 c5) ∧ BsM15 wx A5 n5 c5 v.pb ∧ Chg (fun _ => False) v5 wx)
    case first =>
      obtain ⟨y0, y1, y2, y3, y4, y5, y6, y7⟩ := HKEEP.out _ HXA.out
      go_region_held3 (fun w' => w'.cell? ⟨Q0, 0, none⟩ = some (.int .i64 k) ∧ w'.cell? ⟨Q0, 1, none⟩ = some (.int .i64 o) ∧ w'.cell? ⟨Q0, 2, none⟩ = some (.int .i64 f) ∧ w'.cell? ⟨Q0, 3, none⟩ = some (.int .i64 t) ∧ w'.cell? ⟨Q0, 4, none⟩ = some (.int .i64 p) ∧ w'.cell? ⟨Q0, 5, none⟩ = some (.int .i64 g) ∧ w'.cell? ⟨Q0, 6, none⟩ = some (.int .i64 i) ∧ w'.cell? ⟨Q0, 7, none⟩ = some (.slice A n c))
        (first | with_reducible exact HKEEP.out _ HXA.out | with_reducible exact HKEEP.out _ HXA2.out | with_reducible exact HKEEP.out _ HXB.out | with_reducible exact HKEEP.out _ (HXB.out.alloc _) | with_reducible exact HKEEP.out _ HXC.out | with_reducible exact HKEEP.out _ HXD.out | with_reducible exact HKEEP.out _ (HXD.out.alloc _) | with_reducible exact HKEEP.out _ HXE.out | with_reducible exact HKEEP.out _ HC_HNE.out | with_reducible exact HKEEP.out _ HXF.out | with_reducible exact HKEEP.out _ HC_HNF.out | fail)
        (first
          | (go_at_call 11; (with_reducible refine (HLO.out v5.drew HXA.out).mono ?_); rintro e wz ⟨E, ke, rfl, hr, hc⟩; have HXB := Lib.hid (HXA.out.trans hc (fun _ _ e => e)); have HEB := Lib.hid hr; clear hr hc)
          | (go_at_call 11; (with_reducible refine (HLO.out (v5.alloc (.cells #[.int .i64 0, .int .i64 0, .int .i64 0, .int .i64 0, .string ⟨#[]⟩, .int .i64 0, .int .i64 0, .int .i64 0, .int .i64 0, .int .i64 0, .int .i64 0, .int .i64 0, .slice none 0 0] 43)).drew HXA2.out).mono ?_); rintro e wz ⟨E, ke, rfl, hr, hc⟩; have HXC := Lib.hid (HXA2.out.trans hc (fun _ _ e => e)); have HEC := Lib.hid hr; have HNC := Lib.hid (HNA.out.chg hc id); clear hr hc)
          | (go_at_call 16; (with_reducible refine (HRG.out wz E ke HEB.out HXB.out).mono ?_); rintro e wy ⟨A5, n5, c5, rfl, hm5, hc⟩; unfold roC15; have HXD := Lib.hid ((HXB.out).trans hc (fun _ _ e => e)); have HM5 := Lib.hid hm5; clear hm5 hc)
          | (go_at_call 16; (with_reducible refine (HRG.out (wz.alloc (.cells #[.int .i64 0, .int .i64 0, .int .i64 0, .int .i64 0, .string ⟨#[]⟩, .int .i64 0, .int .i64 0, .int .i64 0, .int .i64 0, .int .i64 0, .int .i64 0, .int .i64 0, .slice none 0 0] 43)) E ke (HEB.out.alloc _) (HXB.out.alloc _)).mono ?_); rintro e wy ⟨A5, n5, c5, rfl, hm5, hc⟩; unfold roC15; have HXE := Lib.hid (((HXB.out.alloc _)).trans hc (fun _ _ e => e)); have HM5 := Lib.hid hm5; have HNE : Hid (Blk wy wz.heap.size 43 (roC15 0 0 0 0 ([]) 0 0 0 0 0 0 0 none 0 0)) := Lib.hid ((show Blk (wz.alloc (.cells #[.int .i64 0, .int .i64 0, .int .i64 0, .int .i64 0, .string ⟨#[]⟩, .int .i64 0, .int .i64 0, .int .i64 0, .int .i64 0, .int .i64 0, .int .i64 0, .int .i64 0, .slice none 0 0] 43)) wz.heap.size 43 (roC15 0 0 0 0 ([]) 0 0 0 0 0 0 0 none 0 0) from blk_new rfl).chg hc id); clear hm5 hc; obtain ⟨j0, j1, j2, j3, j4, j5, j6, j7, j8, j9, j10, j11, j12⟩ := ro_cells15 HNE.out; obtain ⟨f0, f1, f2, f3, f4, f5, f6, f7, f8, f9, f10, f11, f12⟩ := ou_free15 HNE.out; obtain ⟨-, -, -, -, -, -, -, -, -, -, -, -, -, hcs⟩ := ro_put15 HNE.out rfl v.kd v.po v.ge v.st v.fb v.k v.o v.f v.t v.p v.g v.i A5 n5 c5; have HS_HNE := Lib.hid (ro_blk15 HNE.out v.kd v.po v.ge v.st v.fb v.k v.o v.f v.t v.p v.g v.i A5 n5 c5); have HC_HNE := Lib.hid (fresh_set HXE.out hcs HXB.out.size); have HM_HNE := Lib.hid (HM5.out.put HNE.out noU8_ro hcs); clear hcs)
          | (go_at_call 16; (with_reducible refine (HRG.out wz E ke HEC.out HXC.out).mono ?_); rintro e wy ⟨A5, n5, c5, rfl, hm5, hc⟩; unfold roC15; have HXF := Lib.hid ((HXC.out).trans hc (fun _ _ e => e)); have HM5 := Lib.hid hm5; have HNF := Lib.hid (HNC.out.chg hc id); clear hm5 hc; obtain ⟨j0, j1, j2, j3, j4, j5, j6, j7, j8, j9, j10, j11, j12⟩ := ro_cells15 HNF.out; obtain ⟨f0, f1, f2, f3, f4, f5, f6, f7, f8, f9, f10, f11, f12⟩ := ou_free15 HNF.out; obtain ⟨-, -, -, -, -, -, -, -, -, -, -, -, -, hcs⟩ := ro_put15 HNF.out rfl v.kd v.po v.ge v.st v.fb v.k v.o v.f v.t v.p v.g v.i A5 n5 c5; have HS_HNF := Lib.hid (ro_blk15 HNF.out v.kd v.po v.ge v.st v.fb v.k v.o v.f v.t v.p v.g v.i A5 n5 c5); have HC_HNF := Lib.hid (fresh_set HXF.out hcs (Nat.le_refl _)); have HM_HNF := Lib.hid (HM5.out.put HNF.out noU8_ro hcs); clear hcs)
          | fail)
      all_goals
        go_wp2_with fail
        go_meet
        first
          | exact ⟨wz.heap.size, A5, n5, c5, rfl, rfl, HS_HNE.out, HM_HNE.out, HC_HNE.out⟩
          | exact ⟨v5.heap.size, A5, n5, c5, rfl, rfl, HS_HNF.out, HM_HNF.out, HC_HNF.out⟩
          | exact ⟨wy.heap.size, A5, n5, c5, rfl, rfl, blk_new rfl, HM5.out.alloc _, HXD.out.alloc _⟩
    case rest =>
      obtain ⟨q, A5, n5, c5, rfl, rfl, hb3, hm5, hx2⟩ := hcut
      have HB3 := Lib.hid hb3
      have HM5 := Lib.hid hm5
      replace HB0 := Lib.hid (HB0.out.chg hx2 id)
      replace HB2 := Lib.hid (HB2.out.chg hx2 id)
      replace HM := Lib.hid (HM.out.chg hx2)
      replace HM2 := Lib.hid (HM2.out.chg hx2)
      replace HM3 := Lib.hid (HM3.out.chg hx2)
      replace HX := Lib.hid (HX.out.trans hx2 (fun _ _ e => e))
      clear hb3 hm5 hx2 HKEEP HXA HXA2 HNA HLO HRG
      have hlf := fun (W : World) (hW : Chg (fun _ => False) wc W) => lof15_any v.kd v.po v.ge v.st v.k v.o v.f v.t v.p v.g v.i A2 A3 n2 c2 n3 c3 v.fb W (HM2.out.chg hW)
      have HLF := Lib.hid hlf
      have HSM := Lib.hid (fun (W : World) (hW : Chg (fun _ => False) wc W) => rsame15_any v.kd v.po v.ge v.st v.k v.o v.f v.t v.p v.g v.i A3 A5 n3 c3 n5 c5 v.fb v.pb W (HM3.out.chg hW) (HM5.out.chg hW))
      clear hlf
      have HKEEP : Hid (∀ W : World, Chg (fun _ => False) wc W → (W.cell? ⟨X10, 0, none⟩ = some (.int .i64 v.kd) ∧ W.cell? ⟨X10, 1, none⟩ = some (.int .i64 v.po) ∧ W.cell? ⟨X10, 2, none⟩ = some (.int .i64 v.ge) ∧ W.cell? ⟨X10, 3, none⟩ = some (.int .i64 v.st) ∧ W.cell? ⟨X10, 4, none⟩ = some (.slice A2 n2 c2) ∧ W.cell? ⟨X10, 5, none⟩ = some (.int .i64 v.k) ∧ W.cell? ⟨X10, 6, none⟩ = some (.int .i64 v.o) ∧ W.cell? ⟨X10, 7, none⟩ = some (.int .i64 v.f) ∧ W.cell? ⟨X10, 8, none⟩ = some (.int .i64 v.t) ∧ W.cell? ⟨X10, 9, none⟩ = some (.int .i64 v.p) ∧ W.cell? ⟨X10, 10, none⟩ = some (.int .i64 v.g) ∧ W.cell? ⟨X10, 11, none⟩ = some (.int .i64 v.i) ∧ W.cell? ⟨X10, 12, none⟩ = some (.slice A3 n3 c3) ∧ W.cell? ⟨q, 0, none⟩ = some (.int .i64 v.kd) ∧ W.cell? ⟨q, 1, none⟩ = some (.int .i64 v.po) ∧ W.cell? ⟨q, 2, none⟩ = some (.int .i64 v.ge) ∧ W.cell? ⟨q, 3, none⟩ = some (.int .i64 v.st) ∧ W.cell? ⟨q, 4, none⟩ = some (.string ⟨v.fb.toArray⟩) ∧ W.cell? ⟨q, 5, none⟩ = some (.int .i64 v.k) ∧ W.cell? ⟨q, 6, none⟩ = some (.int .i64 v.o) ∧ W.cell? ⟨q, 7, none⟩ = some (.int .i64 v.f) ∧ W.cell? ⟨q, 8, none⟩ = some (.int .i64 v.t) ∧ W.cell? ⟨q, 9, none⟩ = some (.int .i64 v.p) ∧ W.cell? ⟨q, 10, none⟩ = some (.int .i64 v.g) ∧ W.cell? ⟨q, 11, none⟩ = some (.int .i64 v.i) ∧ W.cell? ⟨q, 12, none⟩ = some (.slice A5 n5 c5))) := Lib.hid (fun W hw => by
        obtain ⟨y0, y1, y2, y3, y4, y5, y6, y7, y8, y9, y10, y11, y12⟩ := ou_cells15 (HB2.out.chg hw id)
        obtain ⟨z0, z1, z2, z3, z4, z5, z6, z7, z8, z9, z10, z11, z12⟩ := ro_cells15 (HB3.out.chg hw id)
        exact ⟨y0, y1, y2, y3, y4, y5, y6, y7, y8, y9, y10, y11, y12, z0, z1, z2, z3, z4, z5, z6, z7, z8, z9, z10, z11, z12⟩
      )
      have HYA := Lib.hid ((Chg.refl (fun _ => False) wc).drew)
      obtain ⟨y0, y1, y2, y3, y4, y5, y6, y7, y8, y9, y10, y11, y12, z0, z1, z2, z3, z4, z5, z6, z7, z8, z9, z10, z11, z12⟩ := HKEEP.out _ HYA.out
      go_wp2_with fail
      go_region_held3 (fun w' => w'.cell? ⟨X10, 0, none⟩ = some (.int .i64 v.kd) ∧ w'.cell? ⟨X10, 1, none⟩ = some (.int .i64 v.po) ∧ w'.cell? ⟨X10, 2, none⟩ = some (.int .i64 v.ge) ∧ w'.cell? ⟨X10, 3, none⟩ = some (.int .i64 v.st) ∧ w'.cell? ⟨X10, 4, none⟩ = some (.slice A2 n2 c2) ∧ w'.cell? ⟨X10, 5, none⟩ = some (.int .i64 v.k) ∧ w'.cell? ⟨X10, 6, none⟩ = some (.int .i64 v.o) ∧ w'.cell? ⟨X10, 7, none⟩ = some (.int .i64 v.f) ∧ w'.cell? ⟨X10, 8, none⟩ = some (.int .i64 v.t) ∧ w'.cell? ⟨X10, 9, none⟩ = some (.int .i64 v.p) ∧ w'.cell? ⟨X10, 10, none⟩ = some (.int .i64 v.g) ∧ w'.cell? ⟨X10, 11, none⟩ = some (.int .i64 v.i) ∧ w'.cell? ⟨X10, 12, none⟩ = some (.slice A3 n3 c3) ∧ w'.cell? ⟨q, 0, none⟩ = some (.int .i64 v.kd) ∧ w'.cell? ⟨q, 1, none⟩ = some (.int .i64 v.po) ∧ w'.cell? ⟨q, 2, none⟩ = some (.int .i64 v.ge) ∧ w'.cell? ⟨q, 3, none⟩ = some (.int .i64 v.st) ∧ w'.cell? ⟨q, 4, none⟩ = some (.string ⟨v.fb.toArray⟩) ∧ w'.cell? ⟨q, 5, none⟩ = some (.int .i64 v.k) ∧ w'.cell? ⟨q, 6, none⟩ = some (.int .i64 v.o) ∧ w'.cell? ⟨q, 7, none⟩ = some (.int .i64 v.f) ∧ w'.cell? ⟨q, 8, none⟩ = some (.int .i64 v.t) ∧ w'.cell? ⟨q, 9, none⟩ = some (.int .i64 v.p) ∧ w'.cell? ⟨q, 10, none⟩ = some (.int .i64 v.g) ∧ w'.cell? ⟨q, 11, none⟩ = some (.int .i64 v.i) ∧ w'.cell? ⟨q, 12, none⟩ = some (.slice A5 n5 c5))
        (first | with_reducible exact HKEEP.out _ HYA.out | with_reducible exact HKEEP.out _ HYB.out | with_reducible exact HKEEP.out _ HYC.out | fail)
        (first
          | (go_at_call 13; (with_reducible refine (HLF.out _ HYA.out).mono ?_); rintro e wb ⟨rfl, hc⟩; have HYB := Lib.hid (HYA.out.trans hc (fun _ _ e => e)); clear hc)
          | (go_at_call 12; (with_reducible refine (HSM.out _ HYB.out).mono ?_); rintro e wd ⟨rfl, hc⟩; have HYC := Lib.hid (HYB.out.trans hc (fun _ _ e => e)); clear hc)
          | fail)
      all_goals
        clear y0 y1 y2 y3 y4 y5 y6 y7 y8 y9 y10 y11 y12 z0 z1 z2 z3 z4 z5 z6 z7 z8 z9 z10 z11 z12
        replace HX := Lib.hid (HX.out.trans HYC.out (fun _ _ e => e))
        obtain ⟨y0, y1, y2, y3, y4, y5, y6, y7⟩ := pk_cells (HB0.out.chg HYC.out id)
        have HMW := Lib.hid (HM.out.chg HYC.out)
        go_wp2_with fail
        refine (HNI.out _ HMW.out).mono ?_
        rintro e wf ⟨A7, n7, c7, A8, n8, c8, rfl, hc⟩
        have hca := hc.alloc (.cells #[.int .i64 0, .int .i64 0, .int .i64 0, .int .i64 0, .slice A7 n7 c7, .int .i64 0, .int .i64 0, .int .i64 0, .int .i64 0, .int .i64 0, .int .i64 0, .int .i64 0, .slice A8 n8 c8] 39)
        have HB5 : Hid (Blk (wf.alloc (.cells #[.int .i64 0, .int .i64 0, .int .i64 0, .int .i64 0, .slice A7 n7 c7, .int .i64 0, .int .i64 0, .int .i64 0, .int .i64 0, .int .i64 0, .int .i64 0, .int .i64 0, .slice A8 n8 c8] 39)) wf.heap.size 39 (ouC15 0 0 0 0 A7 n7 c7 0 0 0 0 0 0 0 A8 n8 c8)) := Lib.hid (blk_new rfl)
        replace HX := Lib.hid (HX.out.trans hca (fun _ _ e => e))
        clear hc hca y0 y1 y2 y3 y4 y5 y6 y7
        go_upto_region 9 with fail
        generalize wf.alloc (.cells #[.int .i64 0, .int .i64 0, .int .i64 0, .int .i64 0, .slice A7 n7 c7, .int .i64 0, .int .i64 0, .int .i64 0, .int .i64 0, .int .i64 0, .int .i64 0, .int .i64 0, .slice A8 n8 c8] 39) = vf at *
        generalize wf.heap.size = X15 at *
        go_wp2_with fail
        refine (HAL.out _).mono ?_
        rintro e wg ⟨rfl, hc⟩
        replace HX := Lib.hid (HX.out.trans hc (fun _ _ e => e))
        replace HB5 := Lib.hid (HB5.out.chg hc id)
        clear hc
        obtain ⟨y0, y1, y2, y3, y4, y5, y6, y7, y8, y9, y10, y11, y12⟩ := ou_cells15 HB5.out
        go_wp2_with fail
        go_ret
        exact ⟨by simp, HX.out⟩

end Go.Proofs.Ytacbgelbffmngaa
