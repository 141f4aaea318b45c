/-
  Walk: rutterlaw15.DpathGuest. Conditions: the entries, and the load, are read in memory.
-/
import Derived.Test.YtacbgelbffmngaaIe
import Derived.Test.YtacbgelbffmngaaYg
import Derived.Deep.RegionHeld3
import Derived.Deep.Cut
import Derived.Deep.DeepCutAuto
import Derived.RegionTactic
import Derived.BigQuiet
namespace Go.Proofs.Ytacbgelbffmngaa
open Go.RowKit
set_option linter.unusedVariables false
set_option linter.unusedSimpArgs false

set_option maxRecDepth 100000 in
set_option maxHeartbeats 2000000 in
theorem ro_blk15 {w : World} {r : Nat} {T : TypeId} (hb : Blk w r T (roC15 0 0 0 0 ([]) 0 0 0 0 0 0 0 none 0 0)) (kd po ge st : Int) (b : List UInt8) (k o f t p g i : Int) (A2 : Option Addr) (n2 c2 : Nat) : Blk (((((((((((((w.setCell ⟨r, 0, none⟩ (.int .i64 kd)).setCell ⟨r, 1, none⟩ (.int .i64 po)).setCell ⟨r, 2, none⟩ (.int .i64 ge)).setCell ⟨r, 3, none⟩ (.int .i64 st)).setCell ⟨r, 4, none⟩ (.string ⟨b.toArray⟩)).setCell ⟨r, 5, none⟩ (.int .i64 k)).setCell ⟨r, 6, none⟩ (.int .i64 o)).setCell ⟨r, 7, none⟩ (.int .i64 f)).setCell ⟨r, 8, none⟩ (.int .i64 t)).setCell ⟨r, 9, none⟩ (.int .i64 p)).setCell ⟨r, 10, none⟩ (.int .i64 g)).setCell ⟨r, 11, none⟩ (.int .i64 i)).setCell ⟨r, 12, none⟩ (.slice A2 n2 c2)) r T (roC15 kd po ge st b k o f t p g i A2 n2 c2) := by
  have h0 := hb.set 0 (.int .i64 kd)
  have h1 := h0.set 1 (.int .i64 po)
  have h2 := h1.set 2 (.int .i64 ge)
  have h3 := h2.set 3 (.int .i64 st)
  have h4 := h3.set 4 (.string ⟨b.toArray⟩)
  have h5 := h4.set 5 (.int .i64 k)
  have h6 := h5.set 6 (.int .i64 o)
  have h7 := h6.set 7 (.int .i64 f)
  have h8 := h7.set 8 (.int .i64 t)
  have h9 := h8.set 9 (.int .i64 p)
  have h10 := h9.set 10 (.int .i64 g)
  have h11 := h10.set 11 (.int .i64 i)
  have h12 := h11.set 12 (.slice A2 n2 c2)
  simp only [roC15, List.setIfInBounds_toArray, List.set_cons_succ, List.set_cons_zero] at h12
  exact h12
set_option maxRecDepth 100000 in
set_option maxHeartbeats 16000000 in
theorem dguest15_any {w : World} {L : Option Addr} {m lc : Nat} {l : List En} (h : EnR w L m l) (hz : L = none → lc = 0) (hmc : m ≤ 9223372036854775807) (d s t ch nu : Int) (A : Option Addr) (n c : Nat) (b : List UInt8) (hb : BsM15 w A n c b) (hd : 0 ≤ d) (hs : 0 ≤ s) (hn : n ≤ 9223372036854775807) : Calls Try.prog 3 #[.slice L m lc, .agg #[.int .u64 d, .int .u64 s, .int .i64 t, .slice A n c], .agg #[.int .i64 ch, .int .i64 nu]] w fun e w2 => e = .returned (.bool true) ∧ Chg (fun _ => False) w w2 := by
  by_cases hm : m ≤ 100
  case neg =>
    have hfi := fun W => ffits_any d s t A n c W hn
    have HAL := Lib.hid (fun W => alive15_any W)
    have HFI := Lib.hid hfi
    clear hfi
    have HB0 : Hid (Blk ((w.alloc (.cells #[.int .u64 d, .int .u64 s, .int .i64 t, .slice A n c] 26)).alloc (.cells #[.int .i64 ch, .int .i64 nu] 28)) (w.heap.size) 26 (#[.int .u64 d, .int .u64 s, .int .i64 t, .slice A n c])) := Lib.hid (Blk.alloc (blk_new rfl) _)
    have HB1 : Hid (Blk ((w.alloc (.cells #[.int .u64 d, .int .u64 s, .int .i64 t, .slice A n c] 26)).alloc (.cells #[.int .i64 ch, .int .i64 nu] 28)) (w.heap.size + 1) 28 (#[.int .i64 ch, .int .i64 nu])) := Lib.hid (blk_new (by simp))
    have HX := Lib.hid (((Chg.refl (fun _ => False) w).alloc (.cells #[.int .u64 d, .int .u64 s, .int .i64 t, .slice A n c] 26)).alloc (.cells #[.int .i64 ch, .int .i64 nu] 28))
    have HQ : Hid (w.heap.size ≤ w.heap.size + 1) := Lib.hid (by omega)
    go_enter Try.func3, Try.ntmps3
    go_upto_region 1 with fail
    generalize (w.alloc (.cells #[.int .u64 d, .int .u64 s, .int .i64 t, .slice A n c] 26)).alloc (.cells #[.int .i64 ch, .int .i64 nu] 28) = w1 at *
    generalize w.heap.size + 1 = Q1 at *
    generalize w.heap.size = Q0 at HB0 ⊢
    have y0 := HB0.out.cell 0
    have y1 := HB0.out.cell 1
    have y2 := HB0.out.cell 2
    have y3 := HB0.out.cell 3
    simp only [List.getElem?_toArray, List.getElem?_cons_zero, List.getElem?_cons_succ] at y0 y1 y2 y3
    go_wp2_with fail
    refine (HFI.out _).mono ?_
    rintro e w2 ⟨rfl, hc⟩
    replace HB0 := Lib.hid (HB0.out.chg hc id)
    replace HB1 := Lib.hid (HB1.out.chg hc id)
    replace HX := Lib.hid (HX.out.trans hc (fun _ _ e => e))
    clear hc y0 y1 y2 y3
    go_wp2_with fail
    refine (HAL.out _).mono ?_
    rintro e w3 ⟨rfl, hc⟩
    replace HX := Lib.hid (HX.out.trans hc (fun _ _ e => e))
    clear hc
    go_wp2_with fail
    go_ret
    exact ⟨rfl, HX.out⟩
  cases hf3 : decide (n ≤ 3000) with
  | false =>
    have hfi := fun W => ffits_any d s t A n c W hn
    have HAL := Lib.hid (fun W => alive15_any W)
    rw [hf3] at hfi
    clear hf3
    have HFI := Lib.hid hfi
    clear hfi
    have HB0 : Hid (Blk ((w.alloc (.cells #[.int .u64 d, .int .u64 s, .int .i64 t, .slice A n c] 26)).alloc (.cells #[.int .i64 ch, .int .i64 nu] 28)) (w.heap.size) 26 (#[.int .u64 d, .int .u64 s, .int .i64 t, .slice A n c])) := Lib.hid (Blk.alloc (blk_new rfl) _)
    have HB1 : Hid (Blk ((w.alloc (.cells #[.int .u64 d, .int .u64 s, .int .i64 t, .slice A n c] 26)).alloc (.cells #[.int .i64 ch, .int .i64 nu] 28)) (w.heap.size + 1) 28 (#[.int .i64 ch, .int .i64 nu])) := Lib.hid (blk_new (by simp))
    have HX := Lib.hid (((Chg.refl (fun _ => False) w).alloc (.cells #[.int .u64 d, .int .u64 s, .int .i64 t, .slice A n c] 26)).alloc (.cells #[.int .i64 ch, .int .i64 nu] 28))
    have HQ : Hid (w.heap.size ≤ w.heap.size + 1) := Lib.hid (by omega)
    go_enter Try.func3, Try.ntmps3
    go_upto_region 1 with fail
    generalize (w.alloc (.cells #[.int .u64 d, .int .u64 s, .int .i64 t, .slice A n c] 26)).alloc (.cells #[.int .i64 ch, .int .i64 nu] 28) = w1 at *
    generalize w.heap.size + 1 = Q1 at *
    generalize w.heap.size = Q0 at HB0 ⊢
    have y0 := HB0.out.cell 0
    have y1 := HB0.out.cell 1
    have y2 := HB0.out.cell 2
    have y3 := HB0.out.cell 3
    simp only [List.getElem?_toArray, List.getElem?_cons_zero, List.getElem?_cons_succ] at y0 y1 y2 y3
    go_wp2_with fail
    refine (HFI.out _).mono ?_
    rintro e w2 ⟨rfl, hc⟩
    replace HB0 := Lib.hid (HB0.out.chg hc id)
    replace HB1 := Lib.hid (HB1.out.chg hc id)
    replace HX := Lib.hid (HX.out.trans hc (fun _ _ e => e))
    clear hc y0 y1 y2 y3
    go_wp2_with fail
    refine (HAL.out _).mono ?_
    rintro e w3 ⟨rfl, hc⟩
    replace HX := Lib.hid (HX.out.trans hc (fun _ _ e => e))
    clear hc
    go_wp2_with fail
    go_ret
    exact ⟨rfl, HX.out⟩
  | true =>
    have hfi := fun W => ffits_any d s t A n c W hn
    have HAL := Lib.hid (fun W => alive15_any W)
    rw [hf3] at hfi
    clear hf3
    obtain ⟨v, x, hg, hrg⟩ := gboth15 d s t ch nu A n c b hd hs hn l
    have HGU := Lib.hid hg
    have HRG0 := Lib.hid hrg
    have HR := Lib.hid h
    have HM := Lib.hid hb
    have HZN := Lib.hid hz
    have HLL := Lib.hid (show l.length ≤ 256 by have := h.1; omega)
    clear hg hrg h hb hz
    have HFI := Lib.hid hfi
    clear hfi
    have HB0 : Hid (Blk ((w.alloc (.cells #[.int .u64 d, .int .u64 s, .int .i64 t, .slice A n c] 26)).alloc (.cells #[.int .i64 ch, .int .i64 nu] 28)) (w.heap.size) 26 (#[.int .u64 d, .int .u64 s, .int .i64 t, .slice A n c])) := Lib.hid (Blk.alloc (blk_new rfl) _)
    have HB1 : Hid (Blk ((w.alloc (.cells #[.int .u64 d, .int .u64 s, .int .i64 t, .slice A n c] 26)).alloc (.cells #[.int .i64 ch, .int .i64 nu] 28)) (w.heap.size + 1) 28 (#[.int .i64 ch, .int .i64 nu])) := Lib.hid (blk_new (by simp))
    have HX := Lib.hid (((Chg.refl (fun _ => False) w).alloc (.cells #[.int .u64 d, .int .u64 s, .int .i64 t, .slice A n c] 26)).alloc (.cells #[.int .i64 ch, .int .i64 nu] 28))
    have HQ : Hid (w.heap.size ≤ w.heap.size + 1) := Lib.hid (by omega)
    go_enter Try.func3, Try.ntmps3
    go_upto_region 1 with fail
    generalize (w.alloc (.cells #[.int .u64 d, .int .u64 s, .int .i64 t, .slice A n c] 26)).alloc (.cells #[.int .i64 ch, .int .i64 nu] 28) = w1 at *
    generalize w.heap.size + 1 = Q1 at *
    generalize w.heap.size = Q0 at HB0 ⊢
    have y0 := HB0.out.cell 0
    have y1 := HB0.out.cell 1
    have y2 := HB0.out.cell 2
    have y3 := HB0.out.cell 3
    simp only [List.getElem?_toArray, List.getElem?_cons_zero, List.getElem?_cons_succ] at y0 y1 y2 y3
    go_wp2_with fail
    refine (HFI.out _).mono ?_
    rintro e w2 ⟨rfl, hc⟩
    replace HB0 := Lib.hid (HB0.out.chg hc id)
    replace HB1 := Lib.hid (HB1.out.chg hc id)
    replace HX := Lib.hid (HX.out.trans hc (fun _ _ e => e))
    clear hc y0 y1 y2 y3
    replace HR := Lib.hid (HR.out.chg HX.out)
    replace HM := Lib.hid (HM.out.chg HX.out)
    have HN := Lib.hid (fnew13_any HR.out HZN.out (by omega))
    go_wp2_with fail
    refine HN.out.mono ?_
    rintro e w4 ⟨p, rfl, hT, hc⟩
    have HT := Lib.hid hT
    replace HB0 := Lib.hid (HB0.out.chg hc id)
    replace HB1 := Lib.hid (HB1.out.chg hc id)
    replace HR := Lib.hid (HR.out.chg hc)
    replace HM := Lib.hid (HM.out.chg hc)
    replace HX := Lib.hid (HX.out.trans hc (fun _ _ e => e))
    clear hT hc HN
    have y0 := HB0.out.cell 0
    have y1 := HB0.out.cell 1
    have y2 := HB0.out.cell 2
    have y3 := HB0.out.cell 3
    simp only [List.getElem?_toArray, List.getElem?_cons_zero, List.getElem?_cons_succ] at y0 y1 y2 y3
    have a0 := HB1.out.cell 0
    have a1 := HB1.out.cell 1
    simp only [List.getElem?_toArray, List.getElem?_cons_zero, List.getElem?_cons_succ] at a0 a1
    have HG := Lib.hid (HGU.out _ p HT.out HLL.out HM.out)
    go_wp2_with fail
    refine HG.out.mono ?_
    rintro e w5 ⟨A2, n2, c2, A3, n3, c3, rfl, hm2, hm3, hc⟩
    unfold ouC15
    have hca := hc.alloc (.cells #[.int .i64 v.kd, .int .i64 v.po, .int .i64 v.ge, .int .i64 v.st, .slice A2 n2 c2, .int .i64 v.k, .int .i64 v.o, .int .i64 v.f, .int .i64 v.t, .int .i64 v.p, .int .i64 v.g, .int .i64 v.i, .slice A3 n3 c3] 39)
    have HB2 : Hid (Blk (w5.alloc (.cells #[.int .i64 v.kd, .int .i64 v.po, .int .i64 v.ge, .int .i64 v.st, .slice A2 n2 c2, .int .i64 v.k, .int .i64 v.o, .int .i64 v.f, .int .i64 v.t, .int .i64 v.p, .int .i64 v.g, .int .i64 v.i, .slice A3 n3 c3] 39)) w5.heap.size 39 (ouC15 v.kd v.po v.ge v.st A2 n2 c2 v.k v.o v.f v.t v.p v.g v.i A3 n3 c3)) := Lib.hid (blk_new rfl)
    have HM2 := Lib.hid (hm2.alloc (.cells #[.int .i64 v.kd, .int .i64 v.po, .int .i64 v.ge, .int .i64 v.st, .slice A2 n2 c2, .int .i64 v.k, .int .i64 v.o, .int .i64 v.f, .int .i64 v.t, .int .i64 v.p, .int .i64 v.g, .int .i64 v.i, .slice A3 n3 c3] 39))
    have HM3 := Lib.hid (hm3.alloc (.cells #[.int .i64 v.kd, .int .i64 v.po, .int .i64 v.ge, .int .i64 v.st, .slice A2 n2 c2, .int .i64 v.k, .int .i64 v.o, .int .i64 v.f, .int .i64 v.t, .int .i64 v.p, .int .i64 v.g, .int .i64 v.i, .slice A3 n3 c3] 39))
    replace HB0 := Lib.hid (HB0.out.chg hca id)
    replace HB1 := Lib.hid (HB1.out.chg hca id)
    replace HR := Lib.hid (HR.out.chg hca)
    replace HM := Lib.hid (HM.out.chg hca)
    replace HX := Lib.hid (HX.out.trans hca (fun _ _ e => e))
    clear hm2 hm3 hc hca HG HGU HT y0 y1 y2 y3 a0 a1
    go_upto_region 6 with fail
    generalize w5.alloc (.cells #[.int .i64 v.kd, .int .i64 v.po, .int .i64 v.ge, .int .i64 v.st, .slice A2 n2 c2, .int .i64 v.k, .int .i64 v.o, .int .i64 v.f, .int .i64 v.t, .int .i64 v.p, .int .i64 v.g, .int .i64 v.i, .slice A3 n3 c3] 39) = v5 at *
    generalize w5.heap.size = X10 at *
    have HLO := Lib.hid (fun (W : World) (hW : Chg (fun _ => False) v5 W) => lof13_any (lc := lc) (HR.out.chg hW) (by omega))
    have HRG := Lib.hid (fun (W : World) (E : Option Addr) (ke : Nat) (hE : EnR W E m l) (hW : Chg (fun _ => False) v5 W) => HRG0.out W E m ke hE hmc (HM.out.chg hW))
    clear HRG0
    have HKEEP : Hid (∀ W : World, Chg (fun _ => False) v5 W → (W.cell? ⟨Q0, 0, none⟩ = some (.int .u64 d) ∧ W.cell? ⟨Q0, 1, none⟩ = some (.int .u64 s) ∧ W.cell? ⟨Q0, 2, none⟩ = some (.int .i64 t) ∧ W.cell? ⟨Q0, 3, none⟩ = some (.slice A n c) ∧ W.cell? ⟨Q1, 0, none⟩ = some (.int .i64 ch) ∧ W.cell? ⟨Q1, 1, none⟩ = some (.int .i64 nu))) := Lib.hid (fun W hw => by
      have y0 := Blk.cell (HB0.out.chg hw id) 0
      have y1 := Blk.cell (HB0.out.chg hw id) 1
      have y2 := Blk.cell (HB0.out.chg hw id) 2
      have y3 := Blk.cell (HB0.out.chg hw id) 3
      simp only [List.getElem?_toArray, List.getElem?_cons_zero, List.getElem?_cons_succ] at y0 y1 y2 y3
      have a0 := Blk.cell (HB1.out.chg hw id) 0
      have a1 := Blk.cell (HB1.out.chg hw id) 1
      simp only [List.getElem?_toArray, List.getElem?_cons_zero, List.getElem?_cons_succ] at a0 a1
      exact ⟨y0, y1, y2, y3, a0, a1⟩
    )
    have HXA := Lib.hid ((Chg.refl (fun _ => False) v5).drew)
    have HXA2 := Lib.hid (((Chg.refl (fun _ => False) v5).alloc (.cells #[.int .i64 0, .int .i64 0, .int .i64 0, .int .i64 0, .string ⟨#[]⟩, .int .i64 0, .int .i64 0, .int .i64 0, .int .i64 0, .int .i64 0, .int .i64 0, .int .i64 0, .slice none 0 0] 43)).drew)
    have HNA : Hid (Blk (v5.alloc (.cells #[.int .i64 0, .int .i64 0, .int .i64 0, .int .i64 0, .string ⟨#[]⟩, .int .i64 0, .int .i64 0, .int .i64 0, .int .i64 0, .int .i64 0, .int .i64 0, .int .i64 0, .slice none 0 0] 43)).drew v5.heap.size 43 (roC15 0 0 0 0 ([]) 0 0 0 0 0 0 0 none 0 0)) := Lib.hid (blk_new rfl).drew
    go_cut [12, 13] (fun s12 s13 wx => ∃ q A5 n5 c5, s12 = .pointer (some ⟨q, 0, none⟩) ∧ s13 = .int .i64 x ∧ Blk wx q 43 (roC15 v.kd v.po v.ge v.st v.fb v.k v.o v.f v.t v.p v.g v.i A5 n5 c5) ∧ BsM15 wx A5 n5 c5 v.pb ∧ Chg (fun _ => False) v5 wx)
    case first =>
      obtain ⟨y0, y1, y2, y3, a0, a1⟩ := HKEEP.out _ HXA.out
      go_region_held3 (fun w' => w'.cell? ⟨Q0, 0, none⟩ = some (.int .u64 d) ∧ w'.cell? ⟨Q0, 1, none⟩ = some (.int .u64 s) ∧ w'.cell? ⟨Q0, 2, none⟩ = some (.int .i64 t) ∧ w'.cell? ⟨Q0, 3, none⟩ = some (.slice A n c) ∧ w'.cell? ⟨Q1, 0, none⟩ = some (.int .i64 ch) ∧ w'.cell? ⟨Q1, 1, none⟩ = some (.int .i64 nu))
        (first | with_reducible exact HKEEP.out _ HXA.out | with_reducible exact HKEEP.out _ HXA2.out | with_reducible exact HKEEP.out _ HXB.out | with_reducible exact HKEEP.out _ (HXB.out.alloc _) | with_reducible exact HKEEP.out _ HXC.out | with_reducible exact HKEEP.out _ HXD.out | with_reducible exact HKEEP.out _ (HXD.out.alloc _) | with_reducible exact HKEEP.out _ HXE.out | with_reducible exact HKEEP.out _ HC_HNE.out | with_reducible exact HKEEP.out _ HXF.out | with_reducible exact HKEEP.out _ HC_HNF.out | fail)
        (first
          | (go_at_call 11; (with_reducible refine (HLO.out v5.drew HXA.out).mono ?_); rintro e wz ⟨E, ke, rfl, hr, hc⟩; have HXB := Lib.hid (HXA.out.trans hc (fun _ _ e => e)); have HEB := Lib.hid hr; clear hr hc)
          | (go_at_call 11; (with_reducible refine (HLO.out (v5.alloc (.cells #[.int .i64 0, .int .i64 0, .int .i64 0, .int .i64 0, .string ⟨#[]⟩, .int .i64 0, .int .i64 0, .int .i64 0, .int .i64 0, .int .i64 0, .int .i64 0, .int .i64 0, .slice none 0 0] 43)).drew HXA2.out).mono ?_); rintro e wz ⟨E, ke, rfl, hr, hc⟩; have HXC := Lib.hid (HXA2.out.trans hc (fun _ _ e => e)); have HEC := Lib.hid hr; have HNC := Lib.hid (HNA.out.chg hc id); clear hr hc)
          | (go_at_call 10; (with_reducible refine (HRG.out wz E ke HEB.out HXB.out).mono ?_); rintro e wy ⟨A5, n5, c5, rfl, hm5, hc⟩; unfold roC15; have HXD := Lib.hid ((HXB.out).trans hc (fun _ _ e => e)); have HM5 := Lib.hid hm5; clear hm5 hc)
          | (go_at_call 10; (with_reducible refine (HRG.out (wz.alloc (.cells #[.int .i64 0, .int .i64 0, .int .i64 0, .int .i64 0, .string ⟨#[]⟩, .int .i64 0, .int .i64 0, .int .i64 0, .int .i64 0, .int .i64 0, .int .i64 0, .int .i64 0, .slice none 0 0] 43)) E ke (HEB.out.alloc _) (HXB.out.alloc _)).mono ?_); rintro e wy ⟨A5, n5, c5, rfl, hm5, hc⟩; unfold roC15; have HXE := Lib.hid (((HXB.out.alloc _)).trans hc (fun _ _ e => e)); have HM5 := Lib.hid hm5; have HNE : Hid (Blk wy wz.heap.size 43 (roC15 0 0 0 0 ([]) 0 0 0 0 0 0 0 none 0 0)) := Lib.hid ((show Blk (wz.alloc (.cells #[.int .i64 0, .int .i64 0, .int .i64 0, .int .i64 0, .string ⟨#[]⟩, .int .i64 0, .int .i64 0, .int .i64 0, .int .i64 0, .int .i64 0, .int .i64 0, .int .i64 0, .slice none 0 0] 43)) wz.heap.size 43 (roC15 0 0 0 0 ([]) 0 0 0 0 0 0 0 none 0 0) from blk_new rfl).chg hc id); clear hm5 hc; obtain ⟨j0, j1, j2, j3, j4, j5, j6, j7, j8, j9, j10, j11, j12⟩ := ro_cells15 HNE.out; obtain ⟨f0, f1, f2, f3, f4, f5, f6, f7, f8, f9, f10, f11, f12⟩ := ou_free15 HNE.out; obtain ⟨-, -, -, -, -, -, -, -, -, -, -, -, -, hcs⟩ := ro_put15 HNE.out rfl v.kd v.po v.ge v.st v.fb v.k v.o v.f v.t v.p v.g v.i A5 n5 c5; have HS_HNE := Lib.hid (ro_blk15 HNE.out v.kd v.po v.ge v.st v.fb v.k v.o v.f v.t v.p v.g v.i A5 n5 c5); have HC_HNE := Lib.hid (fresh_set HXE.out hcs HXB.out.size); have HM_HNE := Lib.hid (HM5.out.put HNE.out noU8_ro hcs); clear hcs)
          | (go_at_call 10; (with_reducible refine (HRG.out wz E ke HEC.out HXC.out).mono ?_); rintro e wy ⟨A5, n5, c5, rfl, hm5, hc⟩; unfold roC15; have HXF := Lib.hid ((HXC.out).trans hc (fun _ _ e => e)); have HM5 := Lib.hid hm5; have HNF := Lib.hid (HNC.out.chg hc id); clear hm5 hc; obtain ⟨j0, j1, j2, j3, j4, j5, j6, j7, j8, j9, j10, j11, j12⟩ := ro_cells15 HNF.out; obtain ⟨f0, f1, f2, f3, f4, f5, f6, f7, f8, f9, f10, f11, f12⟩ := ou_free15 HNF.out; obtain ⟨-, -, -, -, -, -, -, -, -, -, -, -, -, hcs⟩ := ro_put15 HNF.out rfl v.kd v.po v.ge v.st v.fb v.k v.o v.f v.t v.p v.g v.i A5 n5 c5; have HS_HNF := Lib.hid (ro_blk15 HNF.out v.kd v.po v.ge v.st v.fb v.k v.o v.f v.t v.p v.g v.i A5 n5 c5); have HC_HNF := Lib.hid (fresh_set HXF.out hcs (Nat.le_refl _)); have HM_HNF := Lib.hid (HM5.out.put HNF.out noU8_ro hcs); clear hcs)
          | fail)
      all_goals
        go_wp2_with fail
        go_meet
        first
          | exact ⟨wz.heap.size, A5, n5, c5, rfl, rfl, HS_HNE.out, HM_HNE.out, HC_HNE.out⟩
          | exact ⟨v5.heap.size, A5, n5, c5, rfl, rfl, HS_HNF.out, HM_HNF.out, HC_HNF.out⟩
          | exact ⟨wy.heap.size, A5, n5, c5, rfl, rfl, blk_new rfl, HM5.out.alloc _, HXD.out.alloc _⟩
    case rest =>
      obtain ⟨q, A5, n5, c5, rfl, rfl, hb3, hm5, hx2⟩ := hcut
      have HB3 := Lib.hid hb3
      have HM5 := Lib.hid hm5
      replace HB2 := Lib.hid (HB2.out.chg hx2 id)
      replace HM2 := Lib.hid (HM2.out.chg hx2)
      replace HM3 := Lib.hid (HM3.out.chg hx2)
      replace HX := Lib.hid (HX.out.trans hx2 (fun _ _ e => e))
      clear hb3 hm5 hx2 HKEEP HXA HXA2 HNA HLO HRG
      have hlf := fun (W : World) (hW : Chg (fun _ => False) wc W) => lof15_any v.kd v.po v.ge v.st v.k v.o v.f v.t v.p v.g v.i A2 A3 n2 c2 n3 c3 v.fb W (HM2.out.chg hW)
      have HLF := Lib.hid hlf
      have HSM := Lib.hid (fun (W : World) (hW : Chg (fun _ => False) wc W) => rsame15_any v.kd v.po v.ge v.st v.k v.o v.f v.t v.p v.g v.i A3 A5 n3 c3 n5 c5 v.fb v.pb W (HM3.out.chg hW) (HM5.out.chg hW))
      clear hlf
      have HKEEP : Hid (∀ W : World, Chg (fun _ => False) wc W → (W.cell? ⟨X10, 0, none⟩ = some (.int .i64 v.kd) ∧ W.cell? ⟨X10, 1, none⟩ = some (.int .i64 v.po) ∧ W.cell? ⟨X10, 2, none⟩ = some (.int .i64 v.ge) ∧ W.cell? ⟨X10, 3, none⟩ = some (.int .i64 v.st) ∧ W.cell? ⟨X10, 4, none⟩ = some (.slice A2 n2 c2) ∧ W.cell? ⟨X10, 5, none⟩ = some (.int .i64 v.k) ∧ W.cell? ⟨X10, 6, none⟩ = some (.int .i64 v.o) ∧ W.cell? ⟨X10, 7, none⟩ = some (.int .i64 v.f) ∧ W.cell? ⟨X10, 8, none⟩ = some (.int .i64 v.t) ∧ W.cell? ⟨X10, 9, none⟩ = some (.int .i64 v.p) ∧ W.cell? ⟨X10, 10, none⟩ = some (.int .i64 v.g) ∧ W.cell? ⟨X10, 11, none⟩ = some (.int .i64 v.i) ∧ W.cell? ⟨X10, 12, none⟩ = some (.slice A3 n3 c3) ∧ W.cell? ⟨q, 0, none⟩ = some (.int .i64 v.kd) ∧ W.cell? ⟨q, 1, none⟩ = some (.int .i64 v.po) ∧ W.cell? ⟨q, 2, none⟩ = some (.int .i64 v.ge) ∧ W.cell? ⟨q, 3, none⟩ = some (.int .i64 v.st) ∧ W.cell? ⟨q, 4, none⟩ = some (.string ⟨v.fb.toArray⟩) ∧ W.cell? ⟨q, 5, none⟩ = some (.int .i64 v.k) ∧ W.cell? ⟨q, 6, none⟩ = some (.int .i64 v.o) ∧ W.cell? ⟨q, 7, none⟩ = some (.int .i64 v.f) ∧ W.cell? ⟨q, 8, none⟩ = some (.int .i64 v.t) ∧ W.cell? ⟨q, 9, none⟩ = some (.int .i64 v.p) ∧ W.cell? ⟨q, 10, none⟩ = some (.int .i64 v.g) ∧ W.cell? ⟨q, 11, none⟩ = some (.int .i64 v.i) ∧ W.cell? ⟨q, 12, none⟩ = some (.slice A5 n5 c5))) := Lib.hid (fun W hw => by
        obtain ⟨y0, y1, y2, y3, y4, y5, y6, y7, y8, y9, y10, y11, y12⟩ := ou_cells15 (HB2.out.chg hw id)
        obtain ⟨z0, z1, z2, z3, z4, z5, z6, z7, z8, z9, z10, z11, z12⟩ := ro_cells15 (HB3.out.chg hw id)
        exact ⟨y0, y1, y2, y3, y4, y5, y6, y7, y8, y9, y10, y11, y12, z0, z1, z2, z3, z4, z5, z6, z7, z8, z9, z10, z11, z12⟩
      )
      have HYA := Lib.hid ((Chg.refl (fun _ => False) wc).drew)
      obtain ⟨y0, y1, y2, y3, y4, y5, y6, y7, y8, y9, y10, y11, y12, z0, z1, z2, z3, z4, z5, z6, z7, z8, z9, z10, z11, z12⟩ := HKEEP.out _ HYA.out
      go_wp2_with fail
      go_region_held3 (fun w' => w'.cell? ⟨X10, 0, none⟩ = some (.int .i64 v.kd) ∧ w'.cell? ⟨X10, 1, none⟩ = some (.int .i64 v.po) ∧ w'.cell? ⟨X10, 2, none⟩ = some (.int .i64 v.ge) ∧ w'.cell? ⟨X10, 3, none⟩ = some (.int .i64 v.st) ∧ w'.cell? ⟨X10, 4, none⟩ = some (.slice A2 n2 c2) ∧ w'.cell? ⟨X10, 5, none⟩ = some (.int .i64 v.k) ∧ w'.cell? ⟨X10, 6, none⟩ = some (.int .i64 v.o) ∧ w'.cell? ⟨X10, 7, none⟩ = some (.int .i64 v.f) ∧ w'.cell? ⟨X10, 8, none⟩ = some (.int .i64 v.t) ∧ w'.cell? ⟨X10, 9, none⟩ = some (.int .i64 v.p) ∧ w'.cell? ⟨X10, 10, none⟩ = some (.int .i64 v.g) ∧ w'.cell? ⟨X10, 11, none⟩ = some (.int .i64 v.i) ∧ w'.cell? ⟨X10, 12, none⟩ = some (.slice A3 n3 c3) ∧ w'.cell? ⟨q, 0, none⟩ = some (.int .i64 v.kd) ∧ w'.cell? ⟨q, 1, none⟩ = some (.int .i64 v.po) ∧ w'.cell? ⟨q, 2, none⟩ = some (.int .i64 v.ge) ∧ w'.cell? ⟨q, 3, none⟩ = some (.int .i64 v.st) ∧ w'.cell? ⟨q, 4, none⟩ = some (.string ⟨v.fb.toArray⟩) ∧ w'.cell? ⟨q, 5, none⟩ = some (.int .i64 v.k) ∧ w'.cell? ⟨q, 6, none⟩ = some (.int .i64 v.o) ∧ w'.cell? ⟨q, 7, none⟩ = some (.int .i64 v.f) ∧ w'.cell? ⟨q, 8, none⟩ = some (.int .i64 v.t) ∧ w'.cell? ⟨q, 9, none⟩ = some (.int .i64 v.p) ∧ w'.cell? ⟨q, 10, none⟩ = some (.int .i64 v.g) ∧ w'.cell? ⟨q, 11, none⟩ = some (.int .i64 v.i) ∧ w'.cell? ⟨q, 12, none⟩ = some (.slice A5 n5 c5))
        (first | with_reducible exact HKEEP.out _ HYA.out | with_reducible exact HKEEP.out _ HYB.out | with_reducible exact HKEEP.out _ HYC.out | fail)
        (first
          | (go_at_call 13; (with_reducible refine (HLF.out _ HYA.out).mono ?_); rintro e wb ⟨rfl, hc⟩; have HYB := Lib.hid (HYA.out.trans hc (fun _ _ e => e)); clear hc)
          | (go_at_call 12; (with_reducible refine (HSM.out _ HYB.out).mono ?_); rintro e wd ⟨rfl, hc⟩; have HYC := Lib.hid (HYB.out.trans hc (fun _ _ e => e)); clear hc)
          | fail)
      all_goals
        clear y0 y1 y2 y3 y4 y5 y6 y7 y8 y9 y10 y11 y12 z0 z1 z2 z3 z4 z5 z6 z7 z8 z9 z10 z11 z12
        replace HX := Lib.hid (HX.out.trans HYC.out (fun _ _ e => e))
        go_wp2_with fail
        refine (HAL.out _).mono ?_
        rintro e wf ⟨rfl, hc⟩
        replace HX := Lib.hid (HX.out.trans hc (fun _ _ e => e))
        clear hc
        go_wp2_with fail
        go_ret
        exact ⟨by simp, HX.out⟩

end Go.Proofs.Ytacbgelbffmngaa
