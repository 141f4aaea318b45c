/-
  Walks: model.New, Tick, Awake, Rows, Chassis, copied, Clone. Conditions: the model lies in memory, and holds what always holds.
-/
import Derived.Test.YtimgnogacanifaaGreatBi
import Derived.Test.YtimgnogacanifaaGreatPf
import Derived.Test.YtimgnogacanifaaGreatPh
namespace Go.Proofs.YtimgnogacanifaaGreat
open Go.RowKit
set_option linter.unusedVariables false
set_option linter.unusedSimpArgs false

/-- What a call on a model leaves, which hands back an error, or whether. -/
def TickP20 (B p ps bc : Nat) (v : Value) (x : MV20) (w : World) (e : Ending) (w' : World) : Prop :=
  ∃ br', e = .returned v ∧ MM20 B w' p ps bc br' x.C x.R x.sp x.no ∧ Chg (Mv20 p ps bc) w w'
set_option maxRecDepth 100000 in
set_option maxHeartbeats 8000000 in
theorem tick20_any {B : Nat} {w : World} {p ps bc br : Nat} {C : Int → Bool} {R : Int → Option RV} {sp no : Int} (h : MM20 B w p ps bc br C R sp no) (hw : WF C R) (hsp : 1 ≤ sp ∧ sp ≤ 2147483648) (now : Int) : Calls Tryz.prog 12 #[.pointer (some ⟨p, 0, none⟩), .int .i64 now] w (TickP20 B p ps bc (.int .i64 (tickM20 ⟨C, R, sp, no⟩ now).1) (tickM20 ⟨C, R, sp, no⟩ now).2 w) := by
  have HM := Lib.hid h
  have HW := Lib.hid hw
  obtain ⟨d0, d1, d2⟩ := h.cells
  clear h hw
  by_cases hb : now < no ∨ 1099511627776 < now
  · have HT : Hid (tickM20 ⟨C, R, sp, no⟩ now = (1, ⟨C, R, sp, no⟩)) := Lib.hid (if_pos hb)
    by_cases h1 : 1099511627776 < now
    · go_enter Tryz.func12, Tryz.ntmps12
      go_wp2_with fail
      go_ret
      exact ⟨br, by rw [HT.out]; rfl, by rw [HT.out]; exact HM.out, Chg.refl _ _⟩
    · have h2 : now < no := by omega
      go_enter Tryz.func12, Tryz.ntmps12
      go_wp2_with fail
      go_ret
      exact ⟨br, by rw [HT.out]; rfl, by rw [HT.out]; exact HM.out, Chg.refl _ _⟩
  · have HT : Hid (tickM20 ⟨C, R, sp, no⟩ now = (0, ⟨C, appK C (lateP R now sp) R, sp, now⟩)) := Lib.hid (if_neg hb)
    have h1 : ¬ 1099511627776 < now := by omega
    have h2 : ¬ now < no := by omega
    have f2 := HM.out.blk.frozen 2
    have hcs := (Chg.refl (fun k => k = p) w).put p 2 (fun _ => rfl) (.int .i64 now)
    have hset := HM.out.blk.set 2 (.int .i64 now)
    simp only [List.setIfInBounds_toArray, List.set_cons_zero, List.set_cons_succ] at hset
    have HP := Lib.hid hset
    have HS := Lib.hid (HM.out.cs.chg hcs HM.out.ne.1.symm HM.out.ne.2.1.symm HM.out.ne.2.2.symm)
    have HCS := Lib.hid hcs
    have HLA := Lib.hid (HW.out.lates20 now sp)
    clear hcs hset hb
    go_enter Tryz.func12, Tryz.ntmps12
    go_upto_region 4 with fail
    clear d0 d1 d2 f2
    generalize w.setCell ⟨p, 2, none⟩ (.int .i64 now) = w1 at *
    have HKEEP : Hid (∀ W : World, Chg (fun k => k = ps) w1 W → ((W.cell? ⟨p, 0, none⟩ = some (.pointer (some ⟨ps, 0, none⟩)) ∧ W.cell? ⟨p, 1, none⟩ = some (.int .i64 sp)))) := Lib.hid (fun W hw => ⟨(HP.out.chg hw HM.out.ne.1).cell 0, (HP.out.chg hw HM.out.ne.1).cell 1⟩)
    have HY0 := Lib.hid (Chg.refl (fun k => k = ps) w1).drew
    have hkk := HKEEP.out _ HY0.out
    obtain ⟨g0, g1⟩ := hkk
    go_region_held3 (fun w' => (w'.cell? ⟨p, 0, none⟩ = some (.pointer (some ⟨ps, 0, none⟩)) ∧ w'.cell? ⟨p, 1, none⟩ = some (.int .i64 sp)))
      (first | with_reducible exact HKEEP.out _ HY0.out | with_reducible exact HKEEP.out _ HY1.out | with_reducible exact HKEEP.out _ HY2.out | fail)
      (first
        | (go_at_call 29; (with_reducible refine (slate_any HS.out.drew now sp (by omega)).mono ?_); rintro e wy ⟨A, n, c, rfl, hn, hown, hc⟩; have HY1 := Lib.hid (HY0.out.trans (hc.mono (S' := fun k => k = ps) (fun _ _ h => h.elim)) (fun _ _ e => e)); have HSY := Lib.hid (HS.out.drew.keep hc); have HSL := Lib.hid (own_sr cv_size hown hn); have HNN := Lib.hid (show n ≤ 9223372036854775807 by have := late_len R now sp; omega); clear hc hown hn)
        | (go_at_call 28; (with_reducible refine (sapply_any HSY.out _ _ _ _ _ HSL.out HNN.out).mono ?_); rintro e wz ⟨br', rfl, hs, hc⟩; have HY2 := Lib.hid (HY1.out.trans hc (fun _ _ e => e)); have HSZ := Lib.hid hs; clear hs hc)
        | fail)
    all_goals
      rw [show (appP C (lateP R now sp) R).1 = 0 from by rw [HLA.out]]
      go_wp2_with fail
      go_ret
      exact ⟨br', by rw [HT.out]; rfl, by rw [HT.out]; exact ⟨HM.out.bp, HP.out.chg HY2.out HM.out.ne.1, HSZ.out⟩, (HCS.out.mono (fun k _ e => .inl e)).trans HY2.out (fun k _ e => .inr (.inl e))⟩
set_option maxRecDepth 100000 in
set_option maxHeartbeats 1000000 in
theorem tick20_nil (now : Int) (w : World) : Calls Tryz.prog 12 #[.pointer none, .int .i64 now] w fun e w' => e = .returned (.int .i64 1) ∧ w = w' := by
  go_enter Tryz.func12, Tryz.ntmps12
  go_wp2_with fail
  go_ret
  exact ⟨rfl, rfl⟩
set_option maxRecDepth 100000 in
set_option maxHeartbeats 2000000 in
theorem rows20_any {B : Nat} {w : World} {p ps bc br : Nat} {C : Int → Bool} {R : Int → Option RV} {sp no : Int} (h : MM20 B w p ps bc br C R sp no) : Calls Tryz.prog 25 #[.pointer (some ⟨p, 0, none⟩)] w (NewS 40 9 RV.cs (rowsP R) w) := by
  have HM := Lib.hid h
  obtain ⟨d0, -, -⟩ := h.cells
  clear h
  have HCL := Lib.hid (srows_any HM.out.cs)
  go_enter Tryz.func25, Tryz.ntmps25
  go_wp2_with fail
  refine HCL.out.mono ?_
  rintro e w2 ⟨A, n, c, rfl, hh⟩
  have HH := Lib.hid hh
  clear HCL hh
  go_wp2_with fail
  go_ret
  exact ⟨A, n, c, rfl, HH.out⟩
set_option maxRecDepth 100000 in
set_option maxHeartbeats 1000000 in
theorem rows20_nil (w : World) : Calls Tryz.prog 25 #[.pointer none] w fun e w' => e = .returned (.slice none 0 0) ∧ w = w' := by
  go_enter Tryz.func25, Tryz.ntmps25
  go_wp2_with fail
  go_ret
  exact ⟨rfl, rfl⟩
set_option maxRecDepth 100000 in
set_option maxHeartbeats 2000000 in
theorem chassis20_any {B : Nat} {w : World} {p ps bc br : Nat} {C : Int → Bool} {R : Int → Option RV} {sp no : Int} (h : MM20 B w p ps bc br C R sp no) : Calls Tryz.prog 18 #[.pointer (some ⟨p, 0, none⟩)] w (NumP (chasP C) w) := by
  have HM := Lib.hid h
  obtain ⟨d0, -, -⟩ := h.cells
  clear h
  have HCL := Lib.hid (schas_any HM.out.cs)
  go_enter Tryz.func18, Tryz.ntmps18
  go_wp2_with fail
  refine HCL.out.mono ?_
  rintro e w2 ⟨A, n, c, rfl, hh⟩
  have HH := Lib.hid hh
  clear HCL hh
  go_wp2_with fail
  go_ret
  exact ⟨A, n, c, rfl, HH.out⟩
set_option maxRecDepth 100000 in
set_option maxHeartbeats 1000000 in
theorem chassis20_nil (w : World) : Calls Tryz.prog 18 #[.pointer none] w fun e w' => e = .returned (.slice none 0 0) ∧ w = w' := by
  go_enter Tryz.func18, Tryz.ntmps18
  go_wp2_with fail
  go_ret
  exact ⟨rfl, rfl⟩
set_option maxRecDepth 100000 in
set_option maxHeartbeats 2000000 in
theorem new20_any (span : Int) (hs : 1 ≤ span ∧ span ≤ 2147483648) (w : World) : Calls Tryz.prog 5 #[.int .i64 span] w fun e w' => ∃ p ps bc br, e = .returned (.tuple #[.pointer (some ⟨p, 0, none⟩), .int .i64 0]) ∧ MM20 w.heap.size w' p ps bc br (fun _ => false) (fun _ => none) span 0 ∧ Chg (fun _ => False) w w' := by
  have h1 : ¬ span < 1 := by omega
  have h2 : ¬ 2147483648 < span := by omega
  go_enter Tryz.func5, Tryz.ntmps5
  go_wp2_with fail
  refine (snew_any w).mono ?_
  rintro e w2 ⟨rfl, hs, hc⟩
  have HS := Lib.hid hs
  have HC := Lib.hid hc
  clear hs hc
  go_wp2_with fail
  go_ret2
  exact ⟨_, _, _, _, rfl, ⟨HC.out.size, blk_new rfl, HS.out.keep ((Chg.refl (fun _ => False) w2).alloc _)⟩, HC.out.alloc _⟩
set_option maxRecDepth 100000 in
set_option maxHeartbeats 2000000 in
theorem new20_none (span : Int) (hs : ¬ (1 ≤ span ∧ span ≤ 2147483648)) (w : World) : Calls Tryz.prog 5 #[.int .i64 span] w fun e w' => e = .returned (.tuple #[.pointer none, .int .i64 1]) ∧ w = w' := by
  by_cases h1 : span < 1
  · go_enter Tryz.func5, Tryz.ntmps5
    go_wp2_with fail
    go_ret2
    exact ⟨rfl, rfl⟩
  · have h2 : 2147483648 < span := by omega
    go_enter Tryz.func5, Tryz.ntmps5
    go_wp2_with fail
    go_ret2
    exact ⟨rfl, rfl⟩
set_option maxRecDepth 100000 in
set_option maxHeartbeats 8000000 in
theorem awake20_any {B : Nat} {w : World} {p ps bc br : Nat} {C : Int → Bool} {R : Int → Option RV} {sp no : Int} (h : MM20 B w p ps bc br C R sp no) (hw : WF C R) (by_ po ver : Int) : Calls Tryz.prog 16 #[.pointer (some ⟨p, 0, none⟩), .int .i64 by_, .int .i64 po, .int .i64 ver] w (TickP20 B p ps bc (.bool (becX20 ⟨C, R, sp, no⟩ (awP20 ⟨C, R, sp, no⟩ by_ po ver) == 0)) (becM20 ⟨C, R, sp, no⟩ (awP20 ⟨C, R, sp, no⟩ by_ po ver)) w) := by
  have hc0 := ((((Chg.refl (fun _ => False) w).alloc (.cells #[.pointer (some ⟨p, 0, none⟩)] 24)).alloc (.cells #[.int .i64 by_] 3)).alloc (.cells #[.int .i64 ver] 3))
  have HM := Lib.hid (h.keep hc0)
  have HQM : Hid (Blk (((w.alloc (.cells #[.pointer (some ⟨p, 0, none⟩)] 24)).alloc (.cells #[.int .i64 by_] 3)).alloc (.cells #[.int .i64 ver] 3)) w.heap.size 24 #[.pointer (some ⟨p, 0, none⟩)]) := Lib.hid (((blk_new rfl).alloc _).alloc _)
  have HQB : Hid (Blk (((w.alloc (.cells #[.pointer (some ⟨p, 0, none⟩)] 24)).alloc (.cells #[.int .i64 by_] 3)).alloc (.cells #[.int .i64 ver] 3)) (w.heap.size + 1) 3 #[.int .i64 by_]) := Lib.hid ((blk_new (by simp)).alloc _)
  have HQV : Hid (Blk (((w.alloc (.cells #[.pointer (some ⟨p, 0, none⟩)] 24)).alloc (.cells #[.int .i64 by_] 3)).alloc (.cells #[.int .i64 ver] 3)) (w.heap.size + 1 + 1) 3 #[.int .i64 ver]) := Lib.hid (blk_new (by simp))
  have HX := Lib.hid hc0
  have HW := Lib.hid hw
  clear h hc0 hw
  go_enter Tryz.func16, Tryz.ntmps16
  go_upto_region 1 with fail
  generalize ((w.alloc (.cells #[.pointer (some ⟨p, 0, none⟩)] 24)).alloc (.cells #[.int .i64 by_] 3)).alloc (.cells #[.int .i64 ver] 3) = w1 at *
  generalize w.heap.size + 1 + 1 = QV at *
  generalize w.heap.size + 1 = QB at *
  generalize w.heap.size = QM at *
  have hm0 := HQM.out.cell 0
  have hmf : ∀ (fn : Fn) (first cap : Array Value) (w : World), (Instr.makeFunc fn first cap).run Tryz.prog w = .ok (.func fn first cap) w := fun _ _ _ _ => rfl
  have hcl := act20_any HM.out po 34 #[.pointer (some ⟨QB, 0, none⟩), .pointer (some ⟨QV, 0, none⟩), .pointer (some ⟨QM, 0, none⟩)] (fun _ _ => by go_simp) (awP20 ⟨C, R, sp, no⟩ by_ po ver) (fun hl => by unfold awP20; dsimp only; rw [if_neg hl]) (fun hl => ⟨HW.out.fitA20 by_ po ver, fun W hW => by
    have e : awP20 ⟨C, R, sp, no⟩ by_ po ver = aw9 (livR17 R po) by_ ver no := by unfold awP20; dsimp only; rw [if_pos hl]
    rw [e]
    obtain ⟨c0, c1, c2, c3, c4, c5, c6, c7, c8, hc⟩ := rv_letters (livR17 R po)
    rw [hc]
    exact awake20_in (HQB.out.chg hW id) (HQV.out.chg hW id) (HQM.out.chg hW id) (HM.out.blk.chg hW id) c0 c1 c2 c3 c4 c5 c6 c7 c8⟩)
  obtain ⟨b0, b1, b2, b3, b4, b5, b6, b7, b8, be, C2, R2, sp2, no2, hbp⟩ := num9b (becP20 ⟨C, R, sp, no⟩ (awP20 ⟨C, R, sp, no⟩ by_ po ver))
  rw [hbp] at hcl
  have HBE : Hid (becX20 ⟨C, R, sp, no⟩ (awP20 ⟨C, R, sp, no⟩ by_ po ver) = be) := Lib.hid (show (becP20 ⟨C, R, sp, no⟩ (awP20 ⟨C, R, sp, no⟩ by_ po ver)).2.1 = be by rw [hbp])
  have HBM : Hid (becM20 ⟨C, R, sp, no⟩ (awP20 ⟨C, R, sp, no⟩ by_ po ver) = ⟨C2, R2, sp2, no2⟩) := Lib.hid (show (becP20 ⟨C, R, sp, no⟩ (awP20 ⟨C, R, sp, no⟩ by_ po ver)).2.2 = _ by rw [hbp])
  have HCL : Hid (Calls _ _ _ _ (fun e w' => ∃ br', e = .returned (.tuple #[.agg #[.int .i64 b0, .int .u64 b1, .int .i64 b2, .int .i64 b3, .int .i64 b4, .int .i64 b5, .int .i64 b6, .int .i64 b7, .int .i64 b8], .int .i64 be]) ∧ MM20 B w' p ps bc br' C2 R2 sp2 no2 ∧ Chg (Mv20 p ps bc) w1 w')) := Lib.hid hcl
  clear hcl hbp
  go_wp2_with fail
  refine HCL.out.mono ?_
  rintro e wz ⟨br', rfl, hm2, hc2⟩
  have HX2 := Lib.hid ((HX.out.widen17 hc2 (fun _ h => h)).alloc (.cells #[.int .i64 b0, .int .u64 b1, .int .i64 b2, .int .i64 b3, .int .i64 b4, .int .i64 b5, .int .i64 b6, .int .i64 b7, .int .i64 b8] 40))
  have HM2 := Lib.hid (hm2.keep ((Chg.refl (fun _ => False) wz).alloc (.cells #[.int .i64 b0, .int .u64 b1, .int .i64 b2, .int .i64 b3, .int .i64 b4, .int .i64 b5, .int .i64 b6, .int .i64 b7, .int .i64 b8] 40)))
  clear hm2 hc2 HCL hm0
  by_cases h0 : be = 0
  · subst h0
    go_upto_region 4 with fail
    generalize wz.alloc (.cells #[.int .i64 b0, .int .u64 b1, .int .i64 b2, .int .i64 b3, .int .i64 b4, .int .i64 b5, .int .i64 b6, .int .i64 b7, .int .i64 b8] 40) = wq at *
    go_wp2_with fail
    go_ret
    exact ⟨br', by rw [HBE.out]; rfl, by rw [HBM.out]; exact HM2.out, HX2.out⟩
  · have te : (be == 0) = false := by simpa using h0
    go_upto_region 4 with fail
    generalize wz.alloc (.cells #[.int .i64 b0, .int .u64 b1, .int .i64 b2, .int .i64 b3, .int .i64 b4, .int .i64 b5, .int .i64 b6, .int .i64 b7, .int .i64 b8] 40) = wq at *
    go_wp2_with fail
    go_ret
    exact ⟨br', by rw [HBE.out, te]; rfl, by rw [HBM.out]; exact HM2.out, HX2.out⟩
set_option maxRecDepth 100000 in
set_option maxHeartbeats 2000000 in
theorem awake20_nil (by_ po ver : Int) (w : World) : Calls Tryz.prog 16 #[.pointer none, .int .i64 by_, .int .i64 po, .int .i64 ver] w fun e w' => e = .returned (.bool false) ∧ Chg (fun _ => False) w w' := by
  have HX := Lib.hid ((((Chg.refl (fun _ => False) w).alloc (.cells #[.pointer none] 24)).alloc (.cells #[.int .i64 by_] 3)).alloc (.cells #[.int .i64 ver] 3))
  have HQM : Hid (Blk (((w.alloc (.cells #[.pointer none] 24)).alloc (.cells #[.int .i64 by_] 3)).alloc (.cells #[.int .i64 ver] 3)) w.heap.size 24 #[.pointer none]) := Lib.hid (((blk_new rfl).alloc _).alloc _)
  go_enter Tryz.func16, Tryz.ntmps16
  go_upto_region 1 with fail
  generalize ((w.alloc (.cells #[.pointer none] 24)).alloc (.cells #[.int .i64 by_] 3)).alloc (.cells #[.int .i64 ver] 3) = w1 at *
  generalize w.heap.size = QM at *
  have hm0 := HQM.out.cell 0
  go_wp2_with fail
  go_ret
  exact ⟨rfl, HX.out⟩

end Go.Proofs.YtimgnogacanifaaGreat
