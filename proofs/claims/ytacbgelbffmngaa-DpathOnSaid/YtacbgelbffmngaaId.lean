/-
  Walk: rutterlaw15.alive. No condition.
-/
import Derived.Test.YtacbgelbffmngaaZx
import Derived.Test.YtacbgelbffmngaaZy
import Derived.Test.YtacbgelbffmngaaZf
import Derived.Deep.OwnRows
import Derived.RegionTactic
import Derived.BigQuiet
namespace Go.Proofs.Ytacbgelbffmngaa
open Go.RowKit
set_option linter.unusedVariables false
set_option linter.unusedSimpArgs false

def z14b15 : List UInt8 := [0, 0, 0, 0, 0, 0, 0, 0, 0, 0, 0, 0, 0, 0]
theorem look15 {w : World} {p : Nat} {l : List En} (h : TF w p l) (hb : l.length ≤ 256) (ki km kp ks ko : Int) : ∀ W, Chg (fun _ => False) w W → Calls Try.prog 39 #[.pointer (some ⟨p, 0, none⟩), .agg (kyC ki km kp ks ko)] W (LkP13 (lk13 ⟨ki, km, kp, ks, ko⟩ l) W) := fun W hW => flook13_any (h.chg hW) hb ki km kp ks ko
theorem look15_nil (w : World) (ki km kp ks ko : Int) : ∀ W, Chg (fun _ => False) w W → Calls Try.prog 39 #[.pointer none, .agg (kyC ki km kp ks ko)] W (LkP13 none W) := fun W _ => flook13_nil ki km kp ks ko W
set_option maxRecDepth 100000 in
set_option maxHeartbeats 1000000 in
theorem ag15 {w : World} {p : Nat} (h : TF w p (cp14 0 [(⟨3, 7, 2, -1, 1, 5, 2, 9, 0⟩ : RV)])) : Calls Try.prog 9 #[.pointer (some ⟨p, 0, none⟩), .int .i64 0, .agg #[.int .u64 7, .int .u64 0, .int .i64 0, .slice none 0 0], .int .i64 4] w (fun e w' => ∃ A n c A2 n2 c2, e = .returned (.tuple #[.agg #[.int .i64 2, .int .i64 0, .int .i64 0, .int .i64 0, .slice A n c, .int .i64 1, .int .i64 0, .int .i64 0, .int .i64 2, .int .i64 3, .int .i64 5, .int .i64 4, .slice A2 n2 c2], .int .i64 0]) ∧ BsM15 w' A n c [] ∧ BsM15 w' A2 n2 c2 (frameB 7 0 0 []) ∧ Chg (fun _ => False) w w') := by
  have h2 := guest15_ok (.pointer (some ⟨p, 0, none⟩)) (lk13 ⟨0, 7, 0, 0, -1⟩ (cp14 0 [(⟨3, 7, 2, -1, 1, 5, 2, 9, 0⟩ : RV)])) 2 3 2 5 rfl 7 0 0 0 4 none 0 0 w (by decide) (by decide) (by decide) [] (BsM15.nil w) (look15 h (by decide) 0 7 0 0 (-1)) (by decide) (by decide) (by decide) (by decide) (by decide)
  rw [gu15_2, snt15_yes (by decide)] at h2
  exact h2
set_option maxRecDepth 100000 in
set_option maxHeartbeats 1000000 in
theorem at15_1 {w : World} {p : Nat} {A : Option Addr} {n c : Nat} {b : List UInt8} (h : TF w p (cp14 1 [(⟨3, 7, 2, -1, 1, 5, 2, 9, 0⟩ : RV)])) (hb : BsM15 w A n c b) (hn : n = 14) : Calls Try.prog 15 #[.pointer (some ⟨p, 0, none⟩), .int .i64 1, .agg #[.int .i64 1, .int .i64 0, .int .i64 0, .int .i64 1, .int .i64 3, .int .i64 4, .int .i64 4, .slice A n c]] w (fun e w' => ∃ A n c A2 n2 c2, e = .returned (.tuple #[.agg #[.int .i64 2, .int .i64 0, .int .i64 0, .int .i64 0, .slice A n c, .int .i64 2, .int .i64 0, .int .i64 1, .int .i64 2, .int .i64 3, .int .i64 5, .int .i64 4, .slice A2 n2 c2], .int .i64 0]) ∧ BsM15 w' A n c [] ∧ BsM15 w' A2 n2 c2 b ∧ Chg (fun _ => False) w w') := by
  have h2 := tunnel15_ok (.pointer (some ⟨p, 0, none⟩)) (lk13 ⟨1, 0, 3, 4, 0⟩ (cp14 1 [(⟨3, 7, 2, -1, 1, 5, 2, 9, 0⟩ : RV)])) 2 3 2 5 rfl 1 0 0 1 3 4 4 A n c w b hb (look15 h (by decide) 1 0 3 4 0) (by subst hn; decide)
  rw [tu15_2, if_neg (by decide), snt15_yes (by rw [← hb.2.1, hn]; decide)] at h2
  exact h2
set_option maxRecDepth 100000 in
set_option maxHeartbeats 1000000 in
theorem at15_2 {w : World} {p : Nat} {A : Option Addr} {n c : Nat} {b : List UInt8} (h : TF w p (cp14 2 [(⟨3, 7, 2, -1, 1, 5, 2, 9, 0⟩ : RV)])) (hb : BsM15 w A n c b) (hn : n = 14) : Calls Try.prog 15 #[.pointer (some ⟨p, 0, none⟩), .int .i64 2, .agg #[.int .i64 2, .int .i64 0, .int .i64 1, .int .i64 2, .int .i64 3, .int .i64 5, .int .i64 4, .slice A n c]] w (fun e w' => ∃ A n c A2 n2 c2, e = .returned (.tuple #[.agg #[.int .i64 1, .int .i64 3, .int .i64 5, .int .i64 5, .slice A n c, .int .i64 0, .int .i64 0, .int .i64 0, .int .i64 0, .int .i64 0, .int .i64 0, .int .i64 0, .slice A2 n2 c2], .int .i64 0]) ∧ BsM15 w' A n c b ∧ BsM15 w' A2 n2 c2 [] ∧ Chg (fun _ => False) w w') := by
  have h2 := tunnel15_ok (.pointer (some ⟨p, 0, none⟩)) (lk13 ⟨2, 0, 3, 5, 0⟩ (cp14 2 [(⟨3, 7, 2, -1, 1, 5, 2, 9, 0⟩ : RV)])) 1 3 2 5 rfl 2 0 1 2 3 5 4 A n c w b hb (look15 h (by decide) 2 0 3 5 0) (by subst hn; decide)
  exact h2
set_option maxRecDepth 100000 in
set_option maxHeartbeats 1000000 in
theorem at15_3 {w : World} (tp : Value) {A : Option Addr} {n c : Nat} (hn : n = 14) : Calls Try.prog 15 #[tp, .int .i64 2, .agg #[.int .i64 1, .int .i64 0, .int .i64 0, .int .i64 1, .int .i64 3, .int .i64 4, .int .i64 4, .slice A n c]] w (fun e w' => ∃ A n c A2 n2 c2, e = .returned (.tuple #[.agg #[.int .i64 0, .int .i64 0, .int .i64 0, .int .i64 0, .slice A n c, .int .i64 0, .int .i64 0, .int .i64 0, .int .i64 0, .int .i64 0, .int .i64 0, .int .i64 0, .slice A2 n2 c2], .int .i64 1]) ∧ BsM15 w' A n c [] ∧ BsM15 w' A2 n2 c2 [] ∧ Chg (fun _ => False) w w') := by
  have h2 := tunnel15_to tp 1 0 0 1 3 4 4 2 A n c w (by omega) (by subst hn; decide) (by decide)
  exact h2
set_option maxRecDepth 100000 in
set_option maxHeartbeats 8000000 in
theorem alive15_any (w : World) : Calls Try.prog 7 #[] w fun e w2 => e = .returned (.bool true) ∧ Chg (fun _ => False) w w2 := by
  have hmk : ∀ W : World, (Instr.makeSlice 24 (.int .i64 14) (.int .i64 14)).run Try.prog W = .ok (.slice (some ⟨W.heap.size, 0, none⟩) 14 14) (W.alloc (.cells #[.int .u8 0, .int .u8 0, .int .u8 0, .int .u8 0, .int .u8 0, .int .u8 0, .int .u8 0, .int .u8 0, .int .u8 0, .int .u8 0, .int .u8 0, .int .u8 0, .int .u8 0, .int .u8 0] 5)) := fun W => by
    have e : madeCells #[Value.int .u8 0] 14 = #[.int .u8 0, .int .u8 0, .int .u8 0, .int .u8 0, .int .u8 0, .int .u8 0, .int .u8 0, .int .u8 0, .int .u8 0, .int .u8 0, .int .u8 0, .int .u8 0, .int .u8 0, .int .u8 0] := by kernel_rfl
    rw [← e]
    exact run_make_row' (P := Try.prog) 24 5 (.int .u8 0) 1 Try.underlying24 infoByte rfl .i64 .i64 14 (by decide) (by decide) W
  have HMK := Lib.hid hmk
  clear hmk
  have HB0 : Hid (Blk (w.alloc (.cells #[.int .i64 3, .int .u64 7, .int .i64 2, .int .i64 (-1), .int .i64 1, .int .i64 5, .int .i64 2, .int .i64 9, .int .i64 0] 65)) w.heap.size 65 (rvC 3 7 2 (-1) 1 5 2 9 0)) := Lib.hid (blk_new rfl)
  have HX := Lib.hid ((Chg.refl (fun _ => False) w).alloc (.cells #[.int .i64 3, .int .u64 7, .int .i64 2, .int .i64 (-1), .int .i64 1, .int .i64 5, .int .i64 2, .int .i64 9, .int .i64 0] 65))
  go_enter Try.func7, Try.ntmps7
  go_upto_region 2 with fail
  generalize w.alloc (.cells #[.int .i64 3, .int .u64 7, .int .i64 2, .int .i64 (-1), .int .i64 1, .int .i64 5, .int .i64 2, .int .i64 9, .int .i64 0] 65) = w2 at *
  generalize w.heap.size = QA at HB0 ⊢
  obtain ⟨y0, y1, y2, y3, y4, y5, y6, y7, y8⟩ := rv_cells HB0.out
  have HROW : Hid (RwR (w2.alloc (.cells #[.int .i64 3, .int .u64 7, .int .i64 2, .int .i64 (-1), .int .i64 1, .int .i64 5, .int .i64 2, .int .i64 9, .int .i64 0] 65)) (some ⟨w2.heap.size, 0, none⟩) 1 [(⟨3, 7, 2, -1, 1, 5, 2, 9, 0⟩ : RV)]) := Lib.hid (rwr_one (T := 65) (blk_new rfl))
  have HN := Lib.hid (btable14_any (lc := 1) HROW.out (by decide) 0)
  have hca := (Chg.refl (fun _ => False) w2).alloc (.cells #[.int .i64 3, .int .u64 7, .int .i64 2, .int .i64 (-1), .int .i64 1, .int .i64 5, .int .i64 2, .int .i64 9, .int .i64 0] 65)
  replace HB0 := Lib.hid (HB0.out.chg hca id)
  replace HX := Lib.hid (HX.out.trans hca (fun _ _ e => e))
  clear hca
  go_wp2_with fail
  refine HN.out.mono ?_
  rintro e w3 ⟨p0, rfl, hT, hc⟩
  replace HB0 := Lib.hid (HB0.out.chg hc id)
  replace HX := Lib.hid (HX.out.trans hc (fun _ _ e => e))
  have HT0 := Lib.hid hT
  clear hT hc HN HROW y0 y1 y2 y3 y4 y5 y6 y7 y8
  obtain ⟨y0, y1, y2, y3, y4, y5, y6, y7, y8⟩ := rv_cells HB0.out
  have HROW : Hid (RwR (w3.alloc (.cells #[.int .i64 3, .int .u64 7, .int .i64 2, .int .i64 (-1), .int .i64 1, .int .i64 5, .int .i64 2, .int .i64 9, .int .i64 0] 65)) (some ⟨w3.heap.size, 0, none⟩) 1 [(⟨3, 7, 2, -1, 1, 5, 2, 9, 0⟩ : RV)]) := Lib.hid (rwr_one (T := 65) (blk_new rfl))
  have HN := Lib.hid (btable14_any (lc := 1) HROW.out (by decide) 1)
  have hca := (Chg.refl (fun _ => False) w3).alloc (.cells #[.int .i64 3, .int .u64 7, .int .i64 2, .int .i64 (-1), .int .i64 1, .int .i64 5, .int .i64 2, .int .i64 9, .int .i64 0] 65)
  replace HB0 := Lib.hid (HB0.out.chg hca id)
  replace HT0 := Lib.hid (HT0.out.chg hca)
  replace HX := Lib.hid (HX.out.trans hca (fun _ _ e => e))
  clear hca
  go_wp2_with fail
  refine HN.out.mono ?_
  rintro e w4 ⟨p1, rfl, hT, hc⟩
  replace HB0 := Lib.hid (HB0.out.chg hc id)
  replace HT0 := Lib.hid (HT0.out.chg hc)
  replace HX := Lib.hid (HX.out.trans hc (fun _ _ e => e))
  have HT1 := Lib.hid hT
  clear hT hc HN HROW y0 y1 y2 y3 y4 y5 y6 y7 y8
  obtain ⟨y0, y1, y2, y3, y4, y5, y6, y7, y8⟩ := rv_cells HB0.out
  have HROW : Hid (RwR (w4.alloc (.cells #[.int .i64 3, .int .u64 7, .int .i64 2, .int .i64 (-1), .int .i64 1, .int .i64 5, .int .i64 2, .int .i64 9, .int .i64 0] 65)) (some ⟨w4.heap.size, 0, none⟩) 1 [(⟨3, 7, 2, -1, 1, 5, 2, 9, 0⟩ : RV)]) := Lib.hid (rwr_one (T := 65) (blk_new rfl))
  have HN := Lib.hid (btable14_any (lc := 1) HROW.out (by decide) 2)
  have hca := (Chg.refl (fun _ => False) w4).alloc (.cells #[.int .i64 3, .int .u64 7, .int .i64 2, .int .i64 (-1), .int .i64 1, .int .i64 5, .int .i64 2, .int .i64 9, .int .i64 0] 65)
  replace HB0 := Lib.hid (HB0.out.chg hca id)
  replace HT0 := Lib.hid (HT0.out.chg hca)
  replace HT1 := Lib.hid (HT1.out.chg hca)
  replace HX := Lib.hid (HX.out.trans hca (fun _ _ e => e))
  clear hca
  go_wp2_with fail
  refine HN.out.mono ?_
  rintro e w5 ⟨p2, rfl, hT, hc⟩
  replace HB0 := Lib.hid (HB0.out.chg hc id)
  replace HT0 := Lib.hid (HT0.out.chg hc)
  replace HT1 := Lib.hid (HT1.out.chg hc)
  replace HX := Lib.hid (HX.out.trans hc (fun _ _ e => e))
  have HT2 := Lib.hid hT
  clear hT hc HN HROW y0 y1 y2 y3 y4 y5 y6 y7 y8
  have HG := Lib.hid (ag15 HT0.out)
  go_wp2_with fail
  refine HG.out.mono ?_
  rintro e w6 ⟨A1, n1, c1, A2, n2, c2, rfl, hm1, hm2, hc⟩
  clear hm1 hm2 HG
  have hca := hc.alloc (.cells #[.int .i64 2, .int .i64 0, .int .i64 0, .int .i64 0, .slice A1 n1 c1, .int .i64 1, .int .i64 0, .int .i64 0, .int .i64 2, .int .i64 3, .int .i64 5, .int .i64 4, .slice A2 n2 c2] 39)
  have HB8 : Hid (Blk (w6.alloc (.cells #[.int .i64 2, .int .i64 0, .int .i64 0, .int .i64 0, .slice A1 n1 c1, .int .i64 1, .int .i64 0, .int .i64 0, .int .i64 2, .int .i64 3, .int .i64 5, .int .i64 4, .slice A2 n2 c2] 39)) w6.heap.size 39 (ouC15 2 0 0 0 A1 n1 c1 1 0 0 2 3 5 4 A2 n2 c2)) := Lib.hid (blk_new rfl)
  replace HB0 := Lib.hid (HB0.out.chg hca id)
  replace HT0 := Lib.hid (HT0.out.chg hca)
  replace HT1 := Lib.hid (HT1.out.chg hca)
  replace HT2 := Lib.hid (HT2.out.chg hca)
  replace HX := Lib.hid (HX.out.trans hca (fun _ _ e => e))
  clear hc hca
  go_upto_region 6 with fail
  generalize w6.alloc (.cells #[.int .i64 2, .int .i64 0, .int .i64 0, .int .i64 0, .slice A1 n1 c1, .int .i64 1, .int .i64 0, .int .i64 0, .int .i64 2, .int .i64 3, .int .i64 5, .int .i64 4, .slice A2 n2 c2] 39) = v6 at *
  generalize w6.heap.size = X8 at *
  have hmk := HMK.out
  have HM : Hid (BsM15 ((v6.alloc (.cells #[.int .u8 0, .int .u8 0, .int .u8 0, .int .u8 0, .int .u8 0, .int .u8 0, .int .u8 0, .int .u8 0, .int .u8 0, .int .u8 0, .int .u8 0, .int .u8 0, .int .u8 0, .int .u8 0] 5)).alloc (.cells #[.int .i64 1, .int .i64 0, .int .i64 0, .int .i64 1, .int .i64 3, .int .i64 4, .int .i64 4, .slice (some ⟨v6.heap.size, 0, none⟩) 14 14] 37)) (some ⟨v6.heap.size, 0, none⟩) 14 14 z14b15) := Lib.hid ⟨(fun e => by cases e), rfl, ((rds_new1 v6 5 #[.int .u8 0, .int .u8 0, .int .u8 0, .int .u8 0, .int .u8 0, .int .u8 0, .int .u8 0, .int .u8 0, .int .u8 0, .int .u8 0, .int .u8 0, .int .u8 0, .int .u8 0, .int .u8 0] (0, 0) v6.heap.size rfl (bcs z14b15) 14 rfl rfl).alloc _).mono (fun _ _ => trivial)⟩
  have HB9 : Hid (Blk ((v6.alloc (.cells #[.int .u8 0, .int .u8 0, .int .u8 0, .int .u8 0, .int .u8 0, .int .u8 0, .int .u8 0, .int .u8 0, .int .u8 0, .int .u8 0, .int .u8 0, .int .u8 0, .int .u8 0, .int .u8 0] 5)).alloc (.cells #[.int .i64 1, .int .i64 0, .int .i64 0, .int .i64 1, .int .i64 3, .int .i64 4, .int .i64 4, .slice (some ⟨v6.heap.size, 0, none⟩) 14 14] 37)) (v6.heap.size + 1) 37 (pkC 1 0 0 1 3 4 4 (some ⟨v6.heap.size, 0, none⟩) 14 14)) := Lib.hid (blk_new (by simp))
  have hca := ((Chg.refl (fun _ => False) v6).alloc (.cells #[.int .u8 0, .int .u8 0, .int .u8 0, .int .u8 0, .int .u8 0, .int .u8 0, .int .u8 0, .int .u8 0, .int .u8 0, .int .u8 0, .int .u8 0, .int .u8 0, .int .u8 0, .int .u8 0] 5)).alloc (.cells #[.int .i64 1, .int .i64 0, .int .i64 0, .int .i64 1, .int .i64 3, .int .i64 4, .int .i64 4, .slice (some ⟨v6.heap.size, 0, none⟩) 14 14] 37)
  replace HB0 := Lib.hid (HB0.out.chg hca id)
  replace HT1 := Lib.hid (HT1.out.chg hca)
  replace HT2 := Lib.hid (HT2.out.chg hca)
  replace HB8 := Lib.hid (HB8.out.chg hca id)
  replace HX := Lib.hid (HX.out.trans hca (fun _ _ e => e))
  clear hca
  go_upto_region 7 with fail
  generalize (v6.alloc (.cells #[.int .u8 0, .int .u8 0, .int .u8 0, .int .u8 0, .int .u8 0, .int .u8 0, .int .u8 0, .int .u8 0, .int .u8 0, .int .u8 0, .int .u8 0, .int .u8 0, .int .u8 0, .int .u8 0] 5)).alloc (.cells #[.int .i64 1, .int .i64 0, .int .i64 0, .int .i64 1, .int .i64 3, .int .i64 4, .int .i64 4, .slice (some ⟨v6.heap.size, 0, none⟩) 14 14] 37) = w7 at *
  generalize v6.heap.size + 1 = X10 at *
  generalize v6.heap.size = X9 at *
  clear hmk
  have HG := Lib.hid (at15_1 (c := 14) HT1.out HM.out rfl)
  obtain ⟨y0, y1, y2, y3, y4, y5, y6, y7⟩ := pk_cells HB9.out
  go_wp2_with fail
  refine HG.out.mono ?_
  rintro e w8 ⟨A3, n3, c3, A4, n4, c4, rfl, hm1, hm2, hc⟩
  clear hm1 HG y0 y1 y2 y3 y4 y5 y6 y7
  have hca := hc.alloc (.cells #[.int .i64 2, .int .i64 0, .int .i64 0, .int .i64 0, .slice A3 n3 c3, .int .i64 2, .int .i64 0, .int .i64 1, .int .i64 2, .int .i64 3, .int .i64 5, .int .i64 4, .slice A4 n4 c4] 39)
  have HB11 : Hid (Blk (w8.alloc (.cells #[.int .i64 2, .int .i64 0, .int .i64 0, .int .i64 0, .slice A3 n3 c3, .int .i64 2, .int .i64 0, .int .i64 1, .int .i64 2, .int .i64 3, .int .i64 5, .int .i64 4, .slice A4 n4 c4] 39)) w8.heap.size 39 (ouC15 2 0 0 0 A3 n3 c3 2 0 1 2 3 5 4 A4 n4 c4)) := Lib.hid (blk_new rfl)
  have HM4 := Lib.hid ((hm2).alloc (.cells #[.int .i64 2, .int .i64 0, .int .i64 0, .int .i64 0, .slice A3 n3 c3, .int .i64 2, .int .i64 0, .int .i64 1, .int .i64 2, .int .i64 3, .int .i64 5, .int .i64 4, .slice A4 n4 c4] 39))
  replace HT2 := Lib.hid (HT2.out.chg hca)
  replace HB8 := Lib.hid (HB8.out.chg hca id)
  replace HB9 := Lib.hid (HB9.out.chg hca id)
  replace HM := Lib.hid (HM.out.chg hca)
  replace HX := Lib.hid (HX.out.trans hca (fun _ _ e => e))
  clear hc hca
  go_upto_region 8 with fail
  generalize w8.alloc (.cells #[.int .i64 2, .int .i64 0, .int .i64 0, .int .i64 0, .slice A3 n3 c3, .int .i64 2, .int .i64 0, .int .i64 1, .int .i64 2, .int .i64 3, .int .i64 5, .int .i64 4, .slice A4 n4 c4] 39) = v8 at *
  generalize w8.heap.size = X11 at *
  clear hm2
  have HG := Lib.hid (at15_2 HT2.out HM4.out HM4.out.2.1)
  obtain ⟨y0, y1, y2, y3, y4, y5, y6, y7, y8, y9, y10, y11, y12⟩ := ou_cells15 HB11.out
  go_wp2_with fail
  refine HG.out.mono ?_
  rintro e w9 ⟨A5, n5, c5, A6, n6, c6, rfl, hm1, hm2, hc⟩
  have HN5 := Lib.hid (show n5 = 14 from hm1.2.1.trans rfl)
  clear hm1 hm2 HG y0 y1 y2 y3 y4 y5 y6 y7 y8 y9 y10 y11 y12
  have hca := hc.alloc (.cells #[.int .i64 1, .int .i64 3, .int .i64 5, .int .i64 5, .slice A5 n5 c5, .int .i64 0, .int .i64 0, .int .i64 0, .int .i64 0, .int .i64 0, .int .i64 0, .int .i64 0, .slice A6 n6 c6] 39)
  have HB13 : Hid (Blk (w9.alloc (.cells #[.int .i64 1, .int .i64 3, .int .i64 5, .int .i64 5, .slice A5 n5 c5, .int .i64 0, .int .i64 0, .int .i64 0, .int .i64 0, .int .i64 0, .int .i64 0, .int .i64 0, .slice A6 n6 c6] 39)) w9.heap.size 39 (ouC15 1 3 5 5 A5 n5 c5 0 0 0 0 0 0 0 A6 n6 c6)) := Lib.hid (blk_new rfl)
  replace HB8 := Lib.hid (HB8.out.chg hca id)
  replace HB9 := Lib.hid (HB9.out.chg hca id)
  replace HB11 := Lib.hid (HB11.out.chg hca id)
  replace HX := Lib.hid (HX.out.trans hca (fun _ _ e => e))
  clear hc hca
  go_upto_region 9 with fail
  generalize w9.alloc (.cells #[.int .i64 1, .int .i64 3, .int .i64 5, .int .i64 5, .slice A5 n5 c5, .int .i64 0, .int .i64 0, .int .i64 0, .int .i64 0, .int .i64 0, .int .i64 0, .int .i64 0, .slice A6 n6 c6] 39) = v9 at *
  generalize w9.heap.size = X13 at *
  have HG := Lib.hid (fun W => at15_3 (w := W) (.pointer (some ⟨p2, 0, none⟩)) (A := some ⟨X9, 0, none⟩) (c := 14) rfl)
  obtain ⟨y0, y1, y2, y3, y4, y5, y6, y7⟩ := pk_cells HB9.out
  go_wp2_with fail
  refine (HG.out _).mono ?_
  rintro e wa ⟨A7, n7, c7, A8, n8, c8, rfl, -, -, hc⟩
  clear y0 y1 y2 y3 y4 y5 y6 y7 HG
  have hca := hc.alloc (.cells #[.int .i64 0, .int .i64 0, .int .i64 0, .int .i64 0, .slice A7 n7 c7, .int .i64 0, .int .i64 0, .int .i64 0, .int .i64 0, .int .i64 0, .int .i64 0, .int .i64 0, .slice A8 n8 c8] 39)
  replace HB8 := Lib.hid (HB8.out.chg hca id)
  replace HB11 := Lib.hid (HB11.out.chg hca id)
  replace HB13 := Lib.hid (HB13.out.chg hca id)
  replace HX := Lib.hid (HX.out.trans hca (fun _ _ e => e))
  clear hc hca
  obtain ⟨x0, x1, x2, x3, x4, x5, x6, x7, x8, x9, x10, x11, x12⟩ := ou_cells15 HB8.out
  obtain ⟨y0, y1, y2, y3, y4, y5, y6, y7, y8, y9, y10, y11, y12⟩ := ou_cells15 HB11.out
  obtain ⟨z0, z1, z2, z3, z4, z5, z6, z7, z8, z9, z10, z11, z12⟩ := ou_cells15 HB13.out
  obtain rfl : n5 = 14 := HN5.out
  go_wp2_with fail
  go_ret
  exact ⟨rfl, HX.out⟩

end Go.Proofs.Ytacbgelbffmngaa
