/-
  Both models, side by side. Walks: rutterlaw20.none, same, step. Conditions: both lie in memory, and hold the same.
-/
import Derived.Test.YtimgnogacanifaaGreatBl
import Derived.Test.YtimgnogacanifaaGreatBo
import Derived.Test.YtimgnogacanifaaGreatBp
import Derived.Test.YtimgnogacanifaaGreatPr
import Derived.Deep.Cut
namespace Go.Proofs.YtimgnogacanifaaGreat
open Go.RowKit
set_option linter.unusedVariables false
set_option linter.unusedSimpArgs false

/-- Both models. -/
structure T20 (B : Nat) (w : World) (p ps bc br q qs : Nat) (x : MV20) : Prop where
  mm : MM20 B w p ps bc br x.C x.R x.sp x.no
  dm : DM20 B w q qs x.C x.R x.sp x.no
  ok : MOk20 x
section
variable {B : Nat} {w w' : World} {p ps bc br br' q qs qs' : Nat} {x y : MV20}
theorem T20.keep (h : T20 B w p ps bc br q qs x) (hc : Chg (fun _ => False) w w') : T20 B w' p ps bc br q qs x := ⟨h.mm.keep hc, h.dm.keep hc, h.ok⟩
theorem T20.apart (h : T20 B w p ps bc br q qs x) : (q ≠ p ∧ q ≠ ps ∧ q ≠ bc ∧ q ≠ br) ∧ qs ≠ p ∧ qs ≠ ps ∧ qs ≠ bc ∧ qs ≠ br := ⟨h.mm.apart h.dm.blk (by decide), h.mm.apart h.dm.ds (by decide)⟩
/-- Behind a call on the code's: the document's is as it was. -/
theorem T20.code (h : T20 B w p ps bc br q qs x) (hc : Chg (Mv20 p ps bc) w w') : DM20 B w' q qs x.C x.R x.sp x.no := by
  obtain ⟨⟨a1, a2, a3, -⟩, b1, b2, b3, -⟩ := h.apart
  exact h.dm.chg hc (by unfold Mv20; omega) (by unfold Mv20; omega)
end
section
variable {B : Nat} {w w' : World} {p ps bc br q qs : Nat} {C : Int → Bool} {R : Int → Option RV} {sp no : Int}
/-- Behind a call on the document's: the code's is as it was. -/
theorem MM20.doc (h : MM20 B w p ps bc br C R sp no) {C2 : Int → Bool} {R2 : Int → Option RV} {sp2 no2 : Int} {B2 : Nat} (hd : DM20 B2 w q qs C2 R2 sp2 no2) (hc : Chg (fun k => k = q ∨ k = qs) w w') : MM20 B w' p ps bc br C R sp no := by
  obtain ⟨a1, a2, a3, a4⟩ := h.apart hd.blk (by decide)
  obtain ⟨b1, b2, b3, b4⟩ := h.apart hd.ds (by decide)
  exact h.chg hc (by omega) (by omega) (by omega) (by omega)
theorem MM20.low {B2 : Nat} (h : MM20 B w p ps bc br C R sp no) (hB : B2 ≤ B) : MM20 B2 w p ps bc br C R sp no := ⟨by have := h.bp; omega, h.blk, ⟨by have := h.cs.bp; omega, by have := h.cs.bbc; omega, by have := h.cs.bbr; omega, h.cs.ne, h.cs.blk, h.cs.ch, h.cs.ro⟩⟩
theorem DM20.low {B2 : Nat} (h : DM20 B w q qs C R sp no) (hB : B2 ≤ B) : DM20 B2 w q qs C R sp no := ⟨by have := h.bq; omega, by have := h.bs; omega, h.blk, h.ds⟩
/-- A model that lies behind block B is as it was, behind a call on one ahead of it. -/
theorem MM20.far {p2 ps2 bc2 : Nat} (h : MM20 B w p ps bc br C R sp no) (hc : Chg (Mv20 p2 ps2 bc2) w w') (hp : p2 < B ∧ ps2 < B ∧ bc2 < B) : MM20 B w' p ps bc br C R sp no := by
  have h1 := h.bp
  have h2 := h.cs.bp
  have h3 := h.cs.bbc
  have h4 := h.cs.bbr
  exact h.chg hc (by unfold Mv20; omega) (by unfold Mv20; omega) (by unfold Mv20; omega) (by unfold Mv20; omega)
theorem DM20.far {q2 qs2 : Nat} (h : DM20 B w q qs C R sp no) (hc : Chg (fun k => k = q2 ∨ k = qs2) w w') (hp : q2 < B ∧ qs2 < B) : DM20 B w' q qs C R sp no := by
  have h1 := h.bq
  have h2 := h.bs
  exact h.chg hc (by omega) (by omega)
theorem MM20.mv (h : MM20 B w p ps bc br C R sp no) : ∀ k, Mv20 p ps bc k → B ≤ k := by
  intro k hk
  have h1 := h.bp
  have h2 := h.cs.bp
  have h3 := h.cs.bbc
  unfold Mv20 at hk
  omega
end
set_option maxRecDepth 100000 in
set_option maxHeartbeats 4000000 in
theorem none20_any (w : World) : Calls Tryz.prog 15 #[] w fun e w' => e = .returned (.bool true) ∧ Chg (fun _ => False) w w' := by
  go_enter Tryz.func15, Tryz.ntmps15
  go_upto_region 2 with fail
  go_wp2_with fail
  refine (do20_nil 0 0 0 0 w).mono ?_
  rintro e w1 ⟨rfl, hc⟩
  have HX := Lib.hid (hc.alloc (.cells #[.int .i64 0, .int .u64 0, .int .i64 0, .int .i64 0, .int .i64 0, .int .i64 0, .int .i64 0, .int .i64 0, .int .i64 0] 40))
  clear hc
  go_upto_region 3 with fail
  generalize w1.alloc (.cells #[.int .i64 0, .int .u64 0, .int .i64 0, .int .i64 0, .int .i64 0, .int .i64 0, .int .i64 0, .int .i64 0, .int .i64 0] 40) = w2 at *
  go_wp2_with fail
  refine (tick20_nil 0 w2).mono ?_
  rintro e w3 ⟨rfl, rfl⟩
  go_wp2_with fail
  refine (awake20_nil 0 0 0 w2).mono ?_
  rintro e w3 ⟨rfl, hc⟩
  replace HX := Lib.hid (HX.out.trans hc (fun _ _ e => e))
  clear hc
  go_wp2_with fail
  refine (rows20_nil w3).mono ?_
  rintro e w4 ⟨rfl, rfl⟩
  go_wp2_with fail
  refine (chassis20_nil w3).mono ?_
  rintro e w4 ⟨rfl, rfl⟩
  go_wp2_with fail
  refine (clone20_nil w3).mono ?_
  rintro e w4 ⟨rfl, rfl⟩
  go_wp2_with fail
  go_ret
  exact ⟨rfl, HX.out⟩
set_option maxRecDepth 100000 in
set_option maxHeartbeats 8000000 in
theorem same20_any {B B2 : Nat} {w : World} {p ps bc br q qs : Nat} {C : Int → Bool} {R : Int → Option RV} {sp no sp2 no2 : Int} (h : MM20 B w p ps bc br C R sp no) (hd : DM20 B2 w q qs C R sp2 no2) (hw : WF C R) : Calls Tryz.prog 11 #[.pointer (some ⟨p, 0, none⟩), .pointer (some ⟨q, 0, none⟩)] w fun e w' => e = .returned (.bool true) ∧ Chg (fun _ => False) w w' := by
  have HM := Lib.hid h
  have HD := Lib.hid hd
  have HW := Lib.hid hw
  clear h hd hw
  go_enter Tryz.func11, Tryz.ntmps11
  go_upto_region 1 with fail
  have HKEEP : Hid (∀ W : World, Chg (fun _ => False) w W → (W.cell? ⟨q, 0, none⟩ = some (.pointer (some ⟨qs, 0, none⟩)))) := Lib.hid (fun W hw => (HD.out.keep hw).cells.1)
  have HY0 := Lib.hid (Chg.refl (fun _ => False) w).drew
  have g0 := HKEEP.out _ HY0.out
  go_region_held3 (fun w' => (w'.cell? ⟨q, 0, none⟩ = some (.pointer (some ⟨qs, 0, none⟩))))
    (first | with_reducible exact HKEEP.out _ HY0.out | with_reducible exact HKEEP.out _ HX1.out | with_reducible exact HKEEP.out _ HX2.out | with_reducible exact HKEEP.out _ HX3.out | with_reducible exact HKEEP.out _ HX4.out | with_reducible exact HKEEP.out _ HX5.out | with_reducible exact HKEEP.out _ HX6.out | fail)
    (first
      | (go_at_call 25; (with_reducible refine (rows20_any (HM.out.keep HY0.out)).mono ?_); rintro e w1 ⟨A1, n1, c1, rfl, hn1, hown1, hc⟩; have HX1 := Lib.hid (HY0.out.trans hc (fun _ _ e => e)); have HO1 := Lib.hid (own_sr rv_size hown1 hn1); have HN1 := Lib.hid (show n1 ≤ 9000000000000000000 by have := rows_len R; omega); clear hc hown1 hn1)
      | (go_at_call 26; (with_reducible refine (dsrows_any (HD.out.keep HX1.out).ds HW.out).mono ?_); rintro e w2 ⟨A2, n2, c2, rfl, hn2, hown2, hc⟩; have HX2 := Lib.hid (HX1.out.trans hc (fun _ _ e => e)); have HSA := Lib.hid (same10_any A1 A2 n1 n2 c1 c2 (rowsP R) (rowsP R) _ _ w2 (HO1.out.chg hc (fun _ _ => id)) (own_sr rv_size hown2 hn2) HN1.out); clear hc hown2 hn2)
      | (go_at_call 24; (with_reducible refine HSA.out.mono ?_); rintro e w3 ⟨b3, rfl, hb3, hc⟩; obtain rfl : true = b3 := (hb3 rfl).symm; have HX3 := Lib.hid (HX2.out.trans hc (fun _ _ e => e)); clear hc hb3)
      | (go_at_call 18; (with_reducible refine (chassis20_any (HM.out.keep HX3.out)).mono ?_); rintro e w4 ⟨A4, n4, c4, rfl, hn4, hr4, hc⟩; have HX4 := Lib.hid (HX3.out.trans hc (fun _ _ e => e)); have HO4 := Lib.hid hr4; have HN4 := Lib.hid (show n4 ≤ 9000000000000000000 by have := chas_len C; omega); clear hc hr4 hn4)
      | (go_at_call 27; (with_reducible refine (dschas_any (HD.out.keep HX4.out).ds HW.out).mono ?_); rintro e w5 ⟨A5, n5, c5, rfl, hn5, hr5, hc⟩; have HX5 := Lib.hid (HX4.out.trans hc (fun _ _ e => e)); have HSB := Lib.hid (ints10_any A4 A5 n4 n5 c4 c5 (chasP C) (chasP C) _ _ w5 (HO4.out.chg hc (fun _ _ => id)) hr5 HN4.out); clear hc hr5 hn5)
      | (go_at_call 17; (with_reducible refine HSB.out.mono ?_); rintro e w6 ⟨b6, rfl, hb6, hc⟩; obtain rfl : true = b6 := (hb6 rfl).symm; have HX6 := Lib.hid (HX5.out.trans hc (fun _ _ e => e)); clear hc hb6)
      | fail)
  all_goals
    go_wp2_with fail
    go_ret
    exact ⟨rfl, HX6.out⟩
def stM20 (x : MV20) (k op po ch ma who ver now : Int) : MV20 := if k % 13 < 9 then (doM20 x op po ch ma).2.2 else if k % 13 < 11 then (tickM20 x now).2 else becM20 x (awP20 x who po ver)
theorem MOk20.st {x : MV20} (h : MOk20 x) (k op po ch ma who ver now : Int) : MOk20 (stM20 x k op po ch ma who ver now) := by
  unfold stM20
  split
  · exact h.do_ _ _ _ _
  · split
    · exact h.tick _
    · exact h.bec _
/-- What an act on both leaves. -/
def StP20 (B p ps bc q : Nat) (y : MV20) (w : World) (e : Ending) (w' : World) : Prop :=
  ∃ br' qs', e = .returned (.bool true) ∧ T20 B w' p ps bc br' q qs' y ∧ Chg (fun k => B ≤ k) w w'
theorem act_cells20 {w : World} {q : Nat} {T : TypeId} {k op po ch ma who ver now : Int} (h : Blk w q T #[.int .u8 k, .int .i64 op, .int .i64 po, .int .i64 ch, .int .u64 ma, .int .i64 who, .int .i64 ver, .int .i64 now]) : w.cell? ⟨q, 0, none⟩ = some (.int .u8 k) ∧ w.cell? ⟨q, 1, none⟩ = some (.int .i64 op) ∧ w.cell? ⟨q, 2, none⟩ = some (.int .i64 po) ∧ w.cell? ⟨q, 3, none⟩ = some (.int .i64 ch) ∧ w.cell? ⟨q, 4, none⟩ = some (.int .u64 ma) ∧ w.cell? ⟨q, 5, none⟩ = some (.int .i64 who) ∧ w.cell? ⟨q, 6, none⟩ = some (.int .i64 ver) ∧ w.cell? ⟨q, 7, none⟩ = some (.int .i64 now) := ⟨h.cell 0, h.cell 1, h.cell 2, h.cell 3, h.cell 4, h.cell 5, h.cell 6, h.cell 7⟩
theorem eqRow20 (b0 b1 b2 b3 b4 b5 b6 b7 b8 : Int) (W : World) : (binOp .eql 40 (.agg #[.int .i64 b0, .int .u64 b1, .int .i64 b2, .int .i64 b3, .int .i64 b4, .int .i64 b5, .int .i64 b6, .int .i64 b7, .int .i64 b8]) (.agg #[.int .i64 b0, .int .u64 b1, .int .i64 b2, .int .i64 b3, .int .i64 b4, .int .i64 b5, .int .i64 b6, .int .i64 b7, .int .i64 b8])).run Tryz.prog W = .ok (.bool true) W := by
  rw [eqRow, rvE_iff.2 rfl]
set_option maxRecDepth 100000 in
set_option maxHeartbeats 8000000 in
theorem step20_any {B : Nat} {w : World} {p ps bc br q qs : Nat} {x : MV20} (h : T20 B w p ps bc br q qs x) (k op po ch ma who ver now : Int) (hk : 0 ≤ k ∧ k ≤ 255) : Calls Tryz.prog 14 #[.pointer (some ⟨p, 0, none⟩), .pointer (some ⟨q, 0, none⟩), .agg #[.int .u8 k, .int .i64 op, .int .i64 po, .int .i64 ch, .int .u64 ma, .int .i64 who, .int .i64 ver, .int .i64 now]] w (StP20 B p ps bc q (stM20 x k op po ch ma who ver now) w) := by
  have HB := Lib.hid (show B ≤ w.heap.size by have h1 := h.mm.bp; have h2 := h.mm.lt; omega)
  have HOK := Lib.hid h.ok
  have HLT := Lib.hid (And.intro h.mm.lt h.dm.lt)
  have HC0 := (Chg.refl (fun _ => False) w).alloc (.cells #[.int .u8 k, .int .i64 op, .int .i64 po, .int .i64 ch, .int .u64 ma, .int .i64 who, .int .i64 ver, .int .i64 now] 35)
  have HT := Lib.hid (h.keep HC0)
  have HA : Hid (Blk (w.alloc (.cells #[.int .u8 k, .int .i64 op, .int .i64 po, .int .i64 ch, .int .u64 ma, .int .i64 who, .int .i64 ver, .int .i64 now] 35)) w.heap.size 35 #[.int .u8 k, .int .i64 op, .int .i64 po, .int .i64 ch, .int .u64 ma, .int .i64 who, .int .i64 ver, .int .i64 now]) := Lib.hid (blk_new rfl)
  have HX : Hid (Chg (fun k => B ≤ k) w (w.alloc (.cells #[.int .u8 k, .int .i64 op, .int .i64 po, .int .i64 ch, .int .u64 ma, .int .i64 who, .int .i64 ver, .int .i64 now] 35))) := Lib.hid (HC0.mono (fun _ _ h => h.elim))
  have HNA : Hid (¬ Mv20 p ps bc w.heap.size ∧ ¬ (w.heap.size = q ∨ w.heap.size = qs)) := Lib.hid (by have h1 := HLT.out; unfold Mv20; omega)
  clear h HC0 HLT
  have HSO := Lib.hid (HOK.out.st k op po ch ma who ver now)
  by_cases h9 : k % 13 < 9
  · have HST : Hid (stM20 x k op po ch ma who ver now = (doM20 x op po ch ma).2.2) := Lib.hid (if_pos h9)
    go_enter Tryz.func14, Tryz.ntmps14
    go_upto_region 1 with fail
    generalize w.alloc (.cells #[.int .u8 k, .int .i64 op, .int .i64 po, .int .i64 ch, .int .u64 ma, .int .i64 who, .int .i64 ver, .int .i64 now] 35) = w1 at *
    generalize w.heap.size = QA at HA HNA ⊢
    obtain ⟨y0, y1, y2, y3, y4, y5, y6, y7⟩ := act_cells20 HA.out
    obtain ⟨b0, b1, b2, b3, b4, b5, b6, b7, b8, be, C2, R2, sp2, no2, hbp⟩ := num9b (doM20 x op po ch ma)
    have hcl := do20_any HT.out.mm HOK.out.1 op po ch ma
    rw [show doM20 ⟨x.C, x.R, x.sp, x.no⟩ op po ch ma = doM20 x op po ch ma from rfl, hbp] at hcl
    have HCL : Hid (Calls _ _ _ _ (fun e w' => ∃ br', e = .returned (.tuple #[.agg #[.int .i64 b0, .int .u64 b1, .int .i64 b2, .int .i64 b3, .int .i64 b4, .int .i64 b5, .int .i64 b6, .int .i64 b7, .int .i64 b8], .int .i64 be]) ∧ MM20 B w' p ps bc br' C2 R2 sp2 no2 ∧ Chg (Mv20 p ps bc) w1 w')) := Lib.hid hcl
    have HDC : Hid (∀ W, DM20 B W q qs x.C x.R x.sp x.no → Calls _ _ _ W (fun e w' => ∃ qs', e = .returned (.tuple #[.agg #[.int .i64 b0, .int .u64 b1, .int .i64 b2, .int .i64 b3, .int .i64 b4, .int .i64 b5, .int .i64 b6, .int .i64 b7, .int .i64 b8], .int .i64 be]) ∧ DM20 B w' q qs' C2 R2 sp2 no2 ∧ Chg (fun k => k = q ∨ k = qs) W w' ∧ (qs' = qs ∨ W.heap.size ≤ qs'))) := Lib.hid (fun W hW => by
      have h1 := rmdo20_any hW HOK.out.1 op po ch ma
      rw [show doM20 ⟨x.C, x.R, x.sp, x.no⟩ op po ch ma = doM20 x op po ch ma from rfl, hbp] at h1
      exact h1)
    rw [hbp] at HST
    clear hcl hbp
    go_wp2_with fail
    refine (HCL.out).mono ?_
    rintro e w2 ⟨br', rfl, hm, hc⟩
    have HD := Lib.hid (HT.out.code hc)
    have HM := Lib.hid hm
    replace HX := Lib.hid (HX.out.trans hc (fun k _ e => HT.out.mm.mv k e))
    replace HA := Lib.hid (HA.out.chg hc HNA.out.1)
    clear hc hm y0 y1 y2 y3 y4 y5 y6 y7
    go_upto_region 3 with fail
    have hc := (Chg.refl (fun _ => False) w2).alloc (.cells #[.int .i64 b0, .int .u64 b1, .int .i64 b2, .int .i64 b3, .int .i64 b4, .int .i64 b5, .int .i64 b6, .int .i64 b7, .int .i64 b8] 40)
    have HN : Hid (Blk (w2.alloc (.cells #[.int .i64 b0, .int .u64 b1, .int .i64 b2, .int .i64 b3, .int .i64 b4, .int .i64 b5, .int .i64 b6, .int .i64 b7, .int .i64 b8] 40)) w2.heap.size 40 (rvC b0 b1 b2 b3 b4 b5 b6 b7 b8)) := Lib.hid (blk_new rfl)
    have HNN : Hid (¬ (w2.heap.size = q ∨ w2.heap.size = qs)) := Lib.hid (by have := HD.out.lt; omega)
    replace HM := Lib.hid (HM.out.keep hc)
    replace HD := Lib.hid (HD.out.keep hc)
    replace HX := Lib.hid (HX.out.trans hc (fun _ _ e => e.elim))
    replace HA := Lib.hid (HA.out.chg hc id)
    clear hc
    generalize w2.alloc (.cells #[.int .i64 b0, .int .u64 b1, .int .i64 b2, .int .i64 b3, .int .i64 b4, .int .i64 b5, .int .i64 b6, .int .i64 b7, .int .i64 b8] 40) = w3 at *
    generalize w2.heap.size = QN at *
    obtain ⟨y0, y1, y2, y3, y4, y5, y6, y7⟩ := act_cells20 HA.out
    go_wp2_with fail
    refine (HDC.out _ HD.out).mono ?_
    rintro e w4 ⟨qs', rfl, hm, hc, -⟩
    replace HM := Lib.hid (HM.out.doc HD.out hc)
    replace HX := Lib.hid (HX.out.trans hc (fun k _ e => by have h1 := HD.out.bq; have h2 := HD.out.bs; omega))
    replace HN := Lib.hid (HN.out.chg hc HNN.out)
    replace HD := Lib.hid hm
    clear hc hm y0 y1 y2 y3 y4 y5 y6 y7 HDC HCL HA
    go_upto_region 4 with fail
    have hc := (Chg.refl (fun _ => False) w4).alloc (.cells #[.int .i64 b0, .int .u64 b1, .int .i64 b2, .int .i64 b3, .int .i64 b4, .int .i64 b5, .int .i64 b6, .int .i64 b7, .int .i64 b8] 40)
    have HN2 : Hid (Blk (w4.alloc (.cells #[.int .i64 b0, .int .u64 b1, .int .i64 b2, .int .i64 b3, .int .i64 b4, .int .i64 b5, .int .i64 b6, .int .i64 b7, .int .i64 b8] 40)) w4.heap.size 40 (rvC b0 b1 b2 b3 b4 b5 b6 b7 b8)) := Lib.hid (blk_new rfl)
    replace HM := Lib.hid (HM.out.keep hc)
    replace HD := Lib.hid (HD.out.keep hc)
    replace HN := Lib.hid (HN.out.chg hc id)
    replace HX := Lib.hid (HX.out.trans hc (fun _ _ e => e.elim))
    clear hc
    generalize w4.alloc (.cells #[.int .i64 b0, .int .u64 b1, .int .i64 b2, .int .i64 b3, .int .i64 b4, .int .i64 b5, .int .i64 b6, .int .i64 b7, .int .i64 b8] 40) = w5 at *
    generalize w4.heap.size = QN2 at *
    obtain ⟨z0, z1, z2, z3, z4, z5, z6, z7, z8⟩ := rv_cells HN.out
    obtain ⟨y0, y1, y2, y3, y4, y5, y6, y7, y8⟩ := rv_cells HN2.out
    have heq := eqRow20 b0 b1 b2 b3 b4 b5 b6 b7 b8
    go_wp2_with fail
    go_ret
    exact ⟨br', qs', ret_b (by simp), by rw [HST.out]; exact ⟨HM.out, HD.out, by have h1 := HSO.out; rw [HST.out] at h1; exact h1⟩, HX.out⟩
  · by_cases h11 : k % 13 < 11
    · have HST : Hid (stM20 x k op po ch ma who ver now = (tickM20 x now).2) := Lib.hid ((if_neg h9).trans (if_pos h11))
      go_enter Tryz.func14, Tryz.ntmps14
      go_upto_region 1 with fail
      generalize w.alloc (.cells #[.int .u8 k, .int .i64 op, .int .i64 po, .int .i64 ch, .int .u64 ma, .int .i64 who, .int .i64 ver, .int .i64 now] 35) = w1 at *
      generalize w.heap.size = QA at HA HNA ⊢
      obtain ⟨y0, y1, y2, y3, y4, y5, y6, y7⟩ := act_cells20 HA.out
      have HCL := Lib.hid (tick20_any HT.out.mm HOK.out.1 HOK.out.2 now)
      have HDC := Lib.hid (fun (W : World) (hW : DM20 B W q qs x.C x.R x.sp x.no) => rmtick20_any hW HOK.out.1 HOK.out.2 now)
      go_wp2_with fail
      refine (HCL.out).mono ?_
      rintro e w2 ⟨br', rfl, hm, hc⟩
      have HD := Lib.hid (HT.out.code hc)
      have HM := Lib.hid hm
      replace HX := Lib.hid (HX.out.trans hc (fun k _ e => HT.out.mm.mv k e))
      replace HA := Lib.hid (HA.out.chg hc HNA.out.1)
      clear hc hm y0 y1 y2 y3 y4 y5 y6 y7
      obtain ⟨y0, y1, y2, y3, y4, y5, y6, y7⟩ := act_cells20 HA.out
      go_wp2_with fail
      refine (HDC.out _ HD.out).mono ?_
      rintro e w3 ⟨qs', rfl, hm, hc, -⟩
      replace HM := Lib.hid (HM.out.doc HD.out hc)
      replace HX := Lib.hid (HX.out.trans hc (fun k _ e => by have h1 := HD.out.bq; have h2 := HD.out.bs; omega))
      replace HA := Lib.hid (HA.out.chg hc HNA.out.2)
      replace HD := Lib.hid hm
      clear hc hm y0 y1 y2 y3 y4 y5 y6 y7
      go_wp2_with fail
      go_ret
      exact ⟨br', qs', ret_b (by simp), by rw [HST.out]; exact ⟨HM.out, HD.out, by have h1 := HSO.out; rw [HST.out] at h1; exact h1⟩, HX.out⟩
    · have HST : Hid (stM20 x k op po ch ma who ver now = becM20 x (awP20 x who po ver)) := Lib.hid ((if_neg h9).trans (if_neg h11))
      go_enter Tryz.func14, Tryz.ntmps14
      go_upto_region 1 with fail
      generalize w.alloc (.cells #[.int .u8 k, .int .i64 op, .int .i64 po, .int .i64 ch, .int .u64 ma, .int .i64 who, .int .i64 ver, .int .i64 now] 35) = w1 at *
      generalize w.heap.size = QA at HA HNA ⊢
      obtain ⟨y0, y1, y2, y3, y4, y5, y6, y7⟩ := act_cells20 HA.out
      have HCL := Lib.hid (awake20_any HT.out.mm HOK.out.1 who po ver)
      have HDC := Lib.hid (fun (W : World) (hW : DM20 B W q qs x.C x.R x.sp x.no) => rmawake20_any hW HOK.out.1 who po ver)
      generalize (becX20 ⟨x.C, x.R, x.sp, x.no⟩ (awP20 ⟨x.C, x.R, x.sp, x.no⟩ who po ver) == 0) = vb at *
      go_wp2_with fail
      refine (HCL.out).mono ?_
      rintro e w2 ⟨br', rfl, hm, hc⟩
      have HD := Lib.hid (HT.out.code hc)
      have HM := Lib.hid hm
      replace HX := Lib.hid (HX.out.trans hc (fun k _ e => HT.out.mm.mv k e))
      replace HA := Lib.hid (HA.out.chg hc HNA.out.1)
      clear hc hm y0 y1 y2 y3 y4 y5 y6 y7
      obtain ⟨y0, y1, y2, y3, y4, y5, y6, y7⟩ := act_cells20 HA.out
      go_wp2_with fail
      refine (HDC.out _ HD.out).mono ?_
      rintro e w3 ⟨qs', rfl, hm, hc, -⟩
      replace HM := Lib.hid (HM.out.doc HD.out hc)
      replace HX := Lib.hid (HX.out.trans hc (fun k _ e => by have h1 := HD.out.bq; have h2 := HD.out.bs; omega))
      replace HA := Lib.hid (HA.out.chg hc HNA.out.2)
      replace HD := Lib.hid hm
      clear hc hm y0 y1 y2 y3 y4 y5 y6 y7
      go_wp2_with fail
      go_ret
      exact ⟨br', qs', ret_b (by simp), by rw [HST.out]; exact ⟨HM.out, HD.out, by have h1 := HSO.out; rw [HST.out] at h1; exact h1⟩, HX.out⟩

end Go.Proofs.YtimgnogacanifaaGreat
