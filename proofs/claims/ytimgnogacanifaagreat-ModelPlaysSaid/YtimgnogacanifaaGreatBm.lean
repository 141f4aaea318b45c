/-
  Walks: rutterref17.Copy, Set, row, Do. Conditions: the document's store lies in memory, and holds what always holds.
-/
import Derived.Test.YtimgnogacanifaaGreatBe
import Derived.Test.YtimgnogacanifaaGreatPo
import Derived.Test.YtimgnogacanifaaGreatOm
import Derived.Test.YtimgnogacanifaaGreatOl
import Derived.Test.YtimgnogacanifaaGreatOn
namespace Go.Proofs.YtimgnogacanifaaGreat
open Go.RowKit
set_option linter.unusedVariables false
set_option linter.unusedSimpArgs false

theorem DS.apart {w : World} {q : Nat} {C : Int → Bool} {R : Int → Option RV} (h : DS w q C R) {r : Nat} {T : TypeId} {cs : Array Value} (hr : Blk w r T cs) (hT : T ≠ 59) : r ≠ q := by
  rintro rfl
  unfold DS at h
  unfold Blk at h hr
  rw [h] at hr
  injection hr with hr
  injection hr with _ hr
  exact hT hr.symm
theorem DS.drew {w : World} {q : Nat} {C : Int → Bool} {R : Int → Option RV} (h : DS w q C R) : DS w.drew q C R := h
/-- What a call on the document's store leaves, which hands back a row and an error. -/
def DocP20 (q : Nat) (r : RV × Int × MV20) (w : World) (e : Ending) (w' : World) : Prop :=
  e = .returned (.tuple #[.agg r.1.cs, .int .i64 r.2.1]) ∧ DS w' q r.2.2.C r.2.2.R ∧ Chg (fun k => k = q) w w'
theorem bec_doc20 (x : MV20) (r : RV) : becP20 x (r, 0) = (if wrongP x.C x.R ⟨r, verP x.R r.po⟩ = 0 then r else z9, wrongP x.C x.R ⟨r, verP x.R r.po⟩, { x with R := setR20 x.C x.R ⟨r, 0⟩ }) := by
  have e : becX20 x (r, 0) = wrongP x.C x.R ⟨r, verP x.R r.po⟩ := if_pos rfl
  unfold becP20 becR20 becM20 setR20 doR
  rw [e]
  by_cases h : wrongP x.C x.R ⟨r, verP x.R r.po⟩ = 0
  · rw [if_pos h, if_pos h, if_pos h]
  · rw [if_neg h, if_neg h, if_neg h]
set_option maxRecDepth 20000 in
set_option maxRecDepth 100000 in
set_option maxHeartbeats 4000000 in
theorem copy17_any {w : World} {q : Nat} {C : Int → Bool} {R : Int → Option RV} (h : DS w q C R) : Calls Tryz.prog 21 #[.pointer (some ⟨q, 0, none⟩)] w fun e w' => e = .returned (.pointer (some ⟨w.heap.size, 0, none⟩)) ∧ DS w' w.heap.size C R ∧ Chg (fun _ => False) w w' := by
  have hRB := h.rangeB
  have hRR := h.rangeR
  clear h
  go_enter Tryz.func21, Tryz.ntmps21
  go_wp2_with fail
  refine wp_region_noPanic ?_
  refine wp_region_held_drew (S := fun w' => w'.rangeAt q 0 (dsB C) ∧ w'.rangeAt q 16 (dsR R)) (by kernel_rfl) ⟨by simpa using hRB, by simpa using hRR⟩ (fun hHeld => ?_)
  refine wpAnyH_take (i := 0) (v := ?_) rfl (by kernel_rfl) (by kernel_rfl) (by kernel_rfl) (fun _ _ _ h => h) (Or.inl ⟨by rfl, ?_⟩) (by assumption) ?_
  rotate_left
  · intro w' hSw
    try dsimp only at hSw
    go_simp
    first | done | (with_reducible rfl)
  try simp only [List.getElem_toArray, List.getElem_cons_succ, List.getElem_cons_zero, Act.put, List.setIfInBounds_toArray, List.set_cons_zero, List.set_cons_succ]
  refine wpAnyH_take (i := 1) (v := ?_) rfl (by kernel_rfl) (by kernel_rfl) (by kernel_rfl) (fun _ _ _ h => h) (Or.inl ⟨by rfl, ?_⟩) (by assumption) ?_
  rotate_left
  · intro w' hSw
    try dsimp only at hSw
    go_simp
    first | done | (with_reducible rfl)
  try simp only [List.getElem_toArray, List.getElem_cons_succ, List.getElem_cons_zero, Act.put, List.setIfInBounds_toArray, List.set_cons_zero, List.set_cons_succ]
  refine wpAnyH_take (i := 2) (v := ?_) rfl (by kernel_rfl) (by kernel_rfl) (by kernel_rfl) (fun _ _ _ h => h) (Or.inl ⟨by rfl, ?_⟩) (by assumption) ?_
  rotate_left
  · intro w' hSw
    try dsimp only at hSw
    go_simp
    first | done | (with_reducible rfl)
  try simp only [List.getElem_toArray, List.getElem_cons_succ, List.getElem_cons_zero, Act.put, List.setIfInBounds_toArray, List.set_cons_zero, List.set_cons_succ]
  refine wpAnyH_take (i := 3) (v := .agg (dsB C).toArray) rfl (by kernel_rfl) (by kernel_rfl) (by kernel_rfl) (fun _ _ _ h => h) (yieldsIf_load_mid (by rfl) 56 (.tmp 5) rfl q 0 (by rfl) (dsB C) _ (fun w h => h.1) un16 rfl (by rw [dsB_len]; exact sz16)) (by assumption) ?_
  try simp only [List.getElem_toArray, List.getElem_cons_succ, List.getElem_cons_zero, Act.put, List.setIfInBounds_toArray, List.set_cons_zero, List.set_cons_succ]
  refine wpAnyH_take (i := 4) (v := ?_) rfl (by kernel_rfl) (by kernel_rfl) (by kernel_rfl) (fun _ _ _ h => h) (Or.inl ⟨by rfl, ?_⟩) (by assumption) ?_
  rotate_left
  · intro w' hSw
    try dsimp only at hSw
    go_simp
    first | done | (with_reducible rfl)
  try simp only [List.getElem_toArray, List.getElem_cons_succ, List.getElem_cons_zero, Act.put, List.setIfInBounds_toArray, List.set_cons_zero, List.set_cons_succ]
  refine wpAnyH_take (i := 5) (v := ?_) rfl (by kernel_rfl) (by kernel_rfl) (by kernel_rfl) (fun _ _ _ h => h) (Or.inl ⟨by rfl, ?_⟩) (by assumption) ?_
  rotate_left
  · intro w' hSw
    try dsimp only at hSw
    go_simp
    first | done | (with_reducible rfl)
  try simp only [List.getElem_toArray, List.getElem_cons_succ, List.getElem_cons_zero, Act.put, List.setIfInBounds_toArray, List.set_cons_zero, List.set_cons_succ]
  refine wpAnyH_take (i := 6) (v := ?_) rfl (by kernel_rfl) (by kernel_rfl) (by kernel_rfl) (fun _ _ _ h => h) (Or.inl ⟨by rfl, ?_⟩) (by assumption) ?_
  rotate_left
  · intro w' hSw
    try dsimp only at hSw
    go_simp
    first | done | (with_reducible rfl)
  try simp only [List.getElem_toArray, List.getElem_cons_succ, List.getElem_cons_zero, Act.put, List.setIfInBounds_toArray, List.set_cons_zero, List.set_cons_succ]
  refine wpAnyH_take (i := 7) (v := .agg (dsR R).toArray) rfl (by kernel_rfl) (by kernel_rfl) (by kernel_rfl) (fun _ _ _ h => h) (yieldsIf_load_mid (by rfl) 57 (.tmp 9) rfl q 16 (by rfl) (dsR R) _ (fun w h => h.2) un32 rfl (by rw [dsR_len]; exact sz288)) (by assumption) ?_
  try simp only [List.getElem_toArray, List.getElem_cons_succ, List.getElem_cons_zero, Act.put, List.setIfInBounds_toArray, List.set_cons_zero, List.set_cons_succ]
  refine wpAnyH_take (i := 8) (v := .agg (dsB C ++ dsR R).toArray) rfl (by kernel_rfl) (by kernel_rfl) (by kernel_rfl) (fun _ _ _ h => h) (yieldsIf_build10 (by rfl) 59 (.tmp 6) (.tmp 10) rfl _ _ (by rfl) (by rfl) _ (built10 C R)) (by assumption) ?_
  try simp only [List.getElem_toArray, List.getElem_cons_succ, List.getElem_cons_zero, Act.put, List.setIfInBounds_toArray, List.set_cons_zero, List.set_cons_succ]
  refine wpAnyH_ready (rs := [9]) (by kernel_rfl) (by simp) ?_
  refine AllReadyH.cons rfl (fun K hK => ?_) AllReadyH.nil
  go_simp
  refine hK.out _ _ ⟨World.rangeAt_alloc (by simpa using hRB) _, World.rangeAt_alloc (by simpa using hRR) _⟩ (fun hHeld => ?_)
  clear hK K
  try simp only [List.getElem_toArray, List.getElem_cons_succ, List.getElem_cons_zero, Act.put, List.setIfInBounds_toArray, List.set_cons_zero, List.set_cons_succ]
  refine wpAnyH_ready (rs := [10]) (by kernel_rfl) (by simp) ?_
  refine AllReadyH.cons rfl (fun K hK => ?_) AllReadyH.nil
  go_simp
  refine hK.out _ _ hHeld (fun hHeld => ?_)
  clear hK K
  try simp only [List.getElem_toArray, List.getElem_cons_succ, List.getElem_cons_zero, Act.put, List.setIfInBounds_toArray, List.set_cons_zero, List.set_cons_succ]
  refine wpAnyH_done (by kernel_rfl) ?_ _
  refine NoPanic.normal ?_
  have HNX : DS (w.alloc (.cells (dsB C ++ dsR R).toArray 59)).drew w.heap.size C R := Blk.drew (Blk.new w _ _)
  replace HNX := Lib.hid HNX
  have HX0 := Lib.hid (((Chg.refl (fun _ => False) w).alloc (.cells (dsB C ++ dsR R).toArray 59)).drew)
  clear hRB hRR hHeld
  generalize (w.alloc (.cells (dsB C ++ dsR R).toArray 59)).drew = w2 at *
  go_wp2_with fail
  go_ret
  exact ⟨rfl, HNX.out, HX0.out⟩
set_option maxRecDepth 100000 in
set_option maxHeartbeats 8000000 in
theorem set17_any {w : World} {q : Nat} {C : Int → Bool} {R : Int → Option RV} (h : DS w q C R) (hw : WF C R) (po ma ow ta ol ge ph ve si : Int) : Calls Tryz.prog 31 #[.pointer (some ⟨q, 0, none⟩), .agg #[.int .i64 po, .int .u64 ma, .int .i64 ow, .int .i64 ta, .int .i64 ol, .int .i64 ge, .int .i64 ph, .int .i64 ve, .int .i64 si]] w fun e w' => e = .returned (.int .i64 (wrongP C R ⟨⟨po, ma, ow, ta, ol, ge, ph, ve, si⟩, verP R po⟩)) ∧ DS w' q C (setR20 C R ⟨⟨po, ma, ow, ta, ol, ge, ph, ve, si⟩, 0⟩) ∧ Chg (fun k => k = q) w w' := by
  obtain ⟨v, hv⟩ : ∃ v, rowB10 (R po) = v := ⟨_, rfl⟩
  have hve : verP R po = v.1.ve := by rw [← hv]; rfl
  obtain ⟨⟨a0, a1, a2, a3, a4, a5, a6, a7, a8⟩, vb⟩ := v
  have hc0 := (Chg.refl (fun _ => False) w).alloc (.cells #[.int .i64 po, .int .u64 ma, .int .i64 ow, .int .i64 ta, .int .i64 ol, .int .i64 ge, .int .i64 ph, .int .i64 ve, .int .i64 si] 40)
  have HD := Lib.hid (h.keep hc0)
  have HW := Lib.hid hw
  have HB : Hid (Blk (w.alloc (.cells #[.int .i64 po, .int .u64 ma, .int .i64 ow, .int .i64 ta, .int .i64 ol, .int .i64 ge, .int .i64 ph, .int .i64 ve, .int .i64 si] 40)) w.heap.size 40 (rvC po ma ow ta ol ge ph ve si)) := Lib.hid (blk_new rfl)
  have HX := Lib.hid hc0
  clear h hw hc0
  go_enter Tryz.func31, Tryz.ntmps31
  go_upto_region 1 with fail
  generalize w.alloc (.cells #[.int .i64 po, .int .u64 ma, .int .i64 ow, .int .i64 ta, .int .i64 ol, .int .i64 ge, .int .i64 ph, .int .i64 ve, .int .i64 si] 40) = w1 at *
  generalize w.heap.size = Q0 at HB ⊢
  have hr := dsrow_any HD.out HW.out po
  rw [hv] at hr
  have hr : Calls _ _ _ _ (HB9 a0 a1 a2 a3 a4 a5 a6 a7 a8 vb w1) := hr
  have HRW := Lib.hid hr
  clear hr
  obtain ⟨y0, y1, y2, y3, y4, y5, y6, y7, y8⟩ := rv_cells HB.out
  go_wp2_with fail
  refine HRW.out.mono ?_
  rintro e w2 ⟨rfl, hc⟩
  replace HB := Lib.hid (HB.out.chg hc id)
  replace HX := Lib.hid (HX.out.trans hc (fun _ _ e => e))
  replace HD := Lib.hid (HD.out.keep hc)
  clear hc HRW y0 y1 y2 y3 y4 y5 y6 y7 y8
  go_upto_region 3 with fail
  have hc := (Chg.refl (fun _ => False) w2).alloc (.cells #[.int .i64 a0, .int .u64 a1, .int .i64 a2, .int .i64 a3, .int .i64 a4, .int .i64 a5, .int .i64 a6, .int .i64 a7, .int .i64 a8] 40)
  have HN : Hid (Blk (w2.alloc (.cells #[.int .i64 a0, .int .u64 a1, .int .i64 a2, .int .i64 a3, .int .i64 a4, .int .i64 a5, .int .i64 a6, .int .i64 a7, .int .i64 a8] 40)) w2.heap.size 40 (rvC a0 a1 a2 a3 a4 a5 a6 a7 a8)) := Lib.hid (blk_new rfl)
  replace HB := Lib.hid (HB.out.chg hc id)
  replace HX := Lib.hid (HX.out.trans hc (fun _ _ e => e))
  replace HD := Lib.hid (HD.out.keep hc)
  clear hc
  generalize w2.alloc (.cells #[.int .i64 a0, .int .u64 a1, .int .i64 a2, .int .i64 a3, .int .i64 a4, .int .i64 a5, .int .i64 a6, .int .i64 a7, .int .i64 a8] 40) = w3 at *
  generalize w2.heap.size = QN at *
  obtain ⟨y0, y1, y2, y3, y4, y5, y6, y7, y8⟩ := rv_cells HB.out
  obtain ⟨z0, z1, z2, z3, z4, z5, z6, z7, z8⟩ := rv_cells HN.out
  rcases rowB_cases20 hv with ⟨rfl, hR⟩ | ⟨rfl, hR⟩
  · have HYC := Lib.hid ((Chg.refl (fun _ => False) w3).alloc (.cells #[.int .i64 po, .int .u64 ma, .int .i64 ow, .int .i64 ta, .int .i64 ol, .int .i64 ge, .int .i64 ph, .int .i64 ve, .int .i64 si, .int .i64 0] 80))
    have hsl : Blk (w3.alloc (.cells #[.int .i64 po, .int .u64 ma, .int .i64 ow, .int .i64 ta, .int .i64 ol, .int .i64 ge, .int .i64 ph, .int .i64 ve, .int .i64 si, .int .i64 0] 80)) w3.heap.size 80 (CV.cs ⟨⟨po, ma, ow, ta, ol, ge, ph, ve, si⟩, 0⟩) := blk_new rfl
    have HAPP := Lib.hid (dsapply_any (HD.out.keep HYC.out) HW.out (some ⟨w3.heap.size, 0, none⟩) 1 1 [⟨⟨po, ma, ow, ta, ol, ge, ph, ve, si⟩, 0⟩] _ (sr_one17 hsl) (by decide))
    have HVE : Hid (verP R po = 0) := Lib.hid (by unfold verP; rw [hR]; rfl)
    clear hsl
    go_wp2_with fail
    refine HAPP.out.mono ?_
    rintro e wz ⟨rfl, hs, hc⟩
    obtain ⟨ha, hb⟩ := app_one17 C R ⟨⟨po, ma, ow, ta, ol, ge, ph, ve, si⟩, 0⟩
    rw [ha]
    rw [hb] at hs
    have HS := Lib.hid hs
    have HX2 := Lib.hid (HX.out.widen17 ((HYC.out.mono (S' := fun k => k = q) (fun _ _ h => h.elim)).trans hc (fun _ _ e => e)) (fun _ h => h))
    clear ha hb hs hc HAPP HYC
    go_wp2_with fail
    go_ret
    exact ⟨by rw [HVE.out]; rfl, by unfold setR20; dsimp only; rw [HVE.out]; exact HS.out, HX2.out⟩
  · have HYC := Lib.hid ((Chg.refl (fun _ => False) w3).alloc (.cells #[.int .i64 po, .int .u64 ma, .int .i64 ow, .int .i64 ta, .int .i64 ol, .int .i64 ge, .int .i64 ph, .int .i64 ve, .int .i64 si, .int .i64 a7] 80))
    have hsl : Blk (w3.alloc (.cells #[.int .i64 po, .int .u64 ma, .int .i64 ow, .int .i64 ta, .int .i64 ol, .int .i64 ge, .int .i64 ph, .int .i64 ve, .int .i64 si, .int .i64 a7] 80)) w3.heap.size 80 (CV.cs ⟨⟨po, ma, ow, ta, ol, ge, ph, ve, si⟩, a7⟩) := blk_new rfl
    have HAPP := Lib.hid (dsapply_any (HD.out.keep HYC.out) HW.out (some ⟨w3.heap.size, 0, none⟩) 1 1 [⟨⟨po, ma, ow, ta, ol, ge, ph, ve, si⟩, a7⟩] _ (sr_one17 hsl) (by decide))
    have HVE : Hid (verP R po = a7) := Lib.hid hve
    clear hsl
    go_wp2_with fail
    refine HAPP.out.mono ?_
    rintro e wz ⟨rfl, hs, hc⟩
    obtain ⟨ha, hb⟩ := app_one17 C R ⟨⟨po, ma, ow, ta, ol, ge, ph, ve, si⟩, a7⟩
    rw [ha]
    rw [hb] at hs
    have HS := Lib.hid hs
    have HX2 := Lib.hid (HX.out.widen17 ((HYC.out.mono (S' := fun k => k = q) (fun _ _ h => h.elim)).trans hc (fun _ _ e => e)) (fun _ h => h))
    clear ha hb hs hc HAPP HYC
    go_wp2_with fail
    go_ret
    exact ⟨by rw [HVE.out]; rfl, by unfold setR20; dsimp only; rw [HVE.out]; exact HS.out, HX2.out⟩
set_option maxRecDepth 100000 in
set_option maxHeartbeats 16000000 in
theorem row17_any {w : World} {q : Nat} {C : Int → Bool} {R : Int → Option RV} (h : DS w q C R) (hw : WF C R) (op po ch ma now : Int) : Calls Tryz.prog 61 #[.pointer (some ⟨q, 0, none⟩), .agg #[.int .i64 op, .int .i64 po, .int .i64 ch, .int .u64 ma], .int .i64 now] w (HR (rowP20 R op po ch ma now) w) := by
  obtain ⟨v, hv⟩ : ∃ v, rowB10 (R po) = v := ⟨_, rfl⟩
  obtain ⟨⟨a0, a1, a2, a3, a4, a5, a6, a7, a8⟩, vb⟩ := v
  have hc0 := ((Chg.refl (fun _ => False) w).alloc (.cells #[.int .i64 op, .int .i64 po, .int .i64 ch, .int .u64 ma] 33)).alloc (.cells #[.int .i64 0, .int .u64 0, .int .i64 0, .int .i64 0, .int .i64 0, .int .i64 0, .int .i64 0, .int .i64 0, .int .i64 0] 40)
  have HD := Lib.hid (h.keep hc0)
  have HW := Lib.hid hw
  have HB : Hid (Blk ((w.alloc (.cells #[.int .i64 op, .int .i64 po, .int .i64 ch, .int .u64 ma] 33)).alloc (.cells #[.int .i64 0, .int .u64 0, .int .i64 0, .int .i64 0, .int .i64 0, .int .i64 0, .int .i64 0, .int .i64 0, .int .i64 0] 40)) w.heap.size 33 #[.int .i64 op, .int .i64 po, .int .i64 ch, .int .u64 ma]) := Lib.hid ((blk_new rfl).alloc _)
  have HZ : Hid (Blk ((w.alloc (.cells #[.int .i64 op, .int .i64 po, .int .i64 ch, .int .u64 ma] 33)).alloc (.cells #[.int .i64 0, .int .u64 0, .int .i64 0, .int .i64 0, .int .i64 0, .int .i64 0, .int .i64 0, .int .i64 0, .int .i64 0] 40)) (w.heap.size + 1) 40 (rvC 0 0 0 0 0 0 0 0 0)) := Lib.hid (blk_new (by simp))
  have HX := Lib.hid hc0
  clear h hw hc0
  go_enter Tryz.func61, Tryz.ntmps61
  go_upto_region 1 with fail
  generalize (w.alloc (.cells #[.int .i64 op, .int .i64 po, .int .i64 ch, .int .u64 ma] 33)).alloc (.cells #[.int .i64 0, .int .u64 0, .int .i64 0, .int .i64 0, .int .i64 0, .int .i64 0, .int .i64 0, .int .i64 0, .int .i64 0] 40) = w1 at *
  generalize hq1 : w.heap.size + 1 = Q1 at HZ ⊢
  have HQ : Hid (w.heap.size ≤ Q1) := Lib.hid (by omega)
  clear hq1
  generalize w.heap.size = Q0 at HB ⊢
  have hr := dsrow_any HD.out HW.out po
  rw [hv] at hr
  have hr : Calls _ _ _ _ (HB9 a0 a1 a2 a3 a4 a5 a6 a7 a8 vb w1) := hr
  have HRW := Lib.hid hr
  have HV0 := Lib.hid hv
  clear hr hv
  obtain ⟨b0, b1, b2, b3⟩ := cl_cells17 HB.out
  go_wp2_with fail
  refine HRW.out.mono ?_
  rintro e w2 ⟨rfl, hc⟩
  replace HB := Lib.hid (HB.out.chg hc id)
  replace HZ := Lib.hid (HZ.out.chg hc id)
  replace HX := Lib.hid (HX.out.trans hc (fun _ _ e => e))
  replace HD := Lib.hid (HD.out.keep hc)
  clear hc HRW b0 b1 b2 b3
  go_upto_region 2 with fail
  have hc := (Chg.refl (fun _ => False) w2).alloc (.cells #[.int .i64 a0, .int .u64 a1, .int .i64 a2, .int .i64 a3, .int .i64 a4, .int .i64 a5, .int .i64 a6, .int .i64 a7, .int .i64 a8] 40)
  have HN : Hid (Blk (w2.alloc (.cells #[.int .i64 a0, .int .u64 a1, .int .i64 a2, .int .i64 a3, .int .i64 a4, .int .i64 a5, .int .i64 a6, .int .i64 a7, .int .i64 a8] 40)) w2.heap.size 40 (rvC a0 a1 a2 a3 a4 a5 a6 a7 a8)) := Lib.hid (blk_new rfl)
  replace HB := Lib.hid (HB.out.chg hc id)
  replace HZ := Lib.hid (HZ.out.chg hc id)
  replace HX := Lib.hid (HX.out.trans hc (fun _ _ e => e))
  replace HD := Lib.hid (HD.out.keep hc)
  clear hc
  generalize w2.alloc (.cells #[.int .i64 a0, .int .u64 a1, .int .i64 a2, .int .i64 a3, .int .i64 a4, .int .i64 a5, .int .i64 a6, .int .i64 a7, .int .i64 a8] 40) = w3 at *
  generalize w2.heap.size = QN at *
  obtain ⟨y0, y1, y2, y3, y4, y5, y6, y7, y8⟩ := rv_cells HN.out
  obtain ⟨b0, b1, b2, b3⟩ := cl_cells17 HB.out
  by_cases o2 : op = 2
  · subst o2
    rcases rowB_cases20 HV0.out with ⟨rfl, hR⟩ | ⟨rfl, hR⟩
    · have hve : rowP20 R 2 po ch ma now = new9 po ma ch now := by unfold rowP20; rw [if_pos rfl]; unfold bind17; rw [hR]
      clear hR
      obtain ⟨f0, f1, f2, f3, f4, f5, f6, f7, f8, fe, hv2⟩ := num9 (r := new9 po ma ch now)
      have HV := Lib.hid (hve.trans hv2)
      have hcl := rnew_any po ma ch now w3
      rw [hv2] at hcl
      have hcl : Calls _ _ _ _ (HR9 f0 f1 f2 f3 f4 f5 f6 f7 f8 fe w3) := hcl
      have HCL := Lib.hid hcl
      clear hcl hv2 hve
      go_wp2_with fail
      refine HCL.out.mono ?_
      rintro e w4 ⟨rfl, hc⟩
      replace HZ := Lib.hid (HZ.out.chg hc id)
      replace HX := Lib.hid (HX.out.trans hc (fun _ _ e => e))
      clear hc HCL
      obtain ⟨x0, x1, x2, x3, x4, x5, x6, x7, x8⟩ := rv_cells HZ.out
      obtain ⟨u0, u1, u2, u3, u4, u5, u6, u7, u8⟩ := rv_free9 HZ.out
      obtain ⟨r0, r1, r2, r3, r4, r5, r6, r7, r8, -, hcs⟩ := rv_put9 HZ.out f0 f1 f2 f3 f4 f5 f6 f7 f8
      have RR := Lib.hid (And.intro r0 (And.intro r1 (And.intro r2 (And.intro r3 (And.intro r4 (And.intro r5 (And.intro r6 (And.intro r7 r8))))))))
      have HF := Lib.hid (fresh_set HX.out hcs HQ.out)
      clear r0 r1 r2 r3 r4 r5 r6 r7 r8 hcs
      go_wp2_with fail
      obtain ⟨r0, r1, r2, r3, r4, r5, r6, r7, r8⟩ := RR.out
      exact bodyPost_ret (v := .tuple #[.agg #[.int .i64 f0, .int .u64 f1, .int .i64 f2, .int .i64 f3, .int .i64 f4, .int .i64 f5, .int .i64 f6, .int .i64 f7, .int .i64 f8], .int .i64 fe]) (by simp [results, Tryz.results61, go_sem, r0, r1, r2, r3, r4, r5, r6, r7, r8]) rfl ⟨by rw [HV.out]; first | done | rfl, HF.out⟩
    · by_cases h3 : a6 = 3
      · subst h3
        have hve : rowP20 R 2 po ch ma now = ag9 ⟨a0, a1, a2, a3, a4, a5, 3, a7, a8⟩ ma ch now := by unfold rowP20; rw [if_pos rfl]; unfold bind17; rw [hR]; first | done | exact if_pos rfl
        clear hR
        obtain ⟨f0, f1, f2, f3, f4, f5, f6, f7, f8, fe, hv2⟩ := num9 (r := ag9 ⟨a0, a1, a2, a3, a4, a5, 3, a7, a8⟩ ma ch now)
        have HV := Lib.hid (hve.trans hv2)
        have hcl := raga_any a0 a1 a2 a3 a4 a5 3 a7 a8 ma ch now w3
        rw [hv2] at hcl
        have hcl : Calls _ _ _ _ (HR9 f0 f1 f2 f3 f4 f5 f6 f7 f8 fe w3) := hcl
        have HCL := Lib.hid hcl
        clear hcl hv2 hve
        go_wp2_with fail
        refine HCL.out.mono ?_
        rintro e w4 ⟨rfl, hc⟩
        replace HZ := Lib.hid (HZ.out.chg hc id)
        replace HX := Lib.hid (HX.out.trans hc (fun _ _ e => e))
        clear hc HCL
        obtain ⟨x0, x1, x2, x3, x4, x5, x6, x7, x8⟩ := rv_cells HZ.out
        obtain ⟨u0, u1, u2, u3, u4, u5, u6, u7, u8⟩ := rv_free9 HZ.out
        obtain ⟨r0, r1, r2, r3, r4, r5, r6, r7, r8, -, hcs⟩ := rv_put9 HZ.out f0 f1 f2 f3 f4 f5 f6 f7 f8
        have RR := Lib.hid (And.intro r0 (And.intro r1 (And.intro r2 (And.intro r3 (And.intro r4 (And.intro r5 (And.intro r6 (And.intro r7 r8))))))))
        have HF := Lib.hid (fresh_set HX.out hcs HQ.out)
        clear r0 r1 r2 r3 r4 r5 r6 r7 r8 hcs
        go_wp2_with fail
        obtain ⟨r0, r1, r2, r3, r4, r5, r6, r7, r8⟩ := RR.out
        exact bodyPost_ret (v := .tuple #[.agg #[.int .i64 f0, .int .u64 f1, .int .i64 f2, .int .i64 f3, .int .i64 f4, .int .i64 f5, .int .i64 f6, .int .i64 f7, .int .i64 f8], .int .i64 fe]) (by simp [results, Tryz.results61, go_sem, r0, r1, r2, r3, r4, r5, r6, r7, r8]) rfl ⟨by rw [HV.out]; first | done | rfl, HF.out⟩
      · have t3 : (a6 != 3) = true := by simpa using h3
        have HV : Hid (rowP20 R 2 po ch ma now = (z9, 5)) := Lib.hid (by unfold rowP20; rw [if_pos rfl]; unfold bind17; rw [hR]; exact if_neg h3)
        clear hR h3
        obtain ⟨x0, x1, x2, x3, x4, x5, x6, x7, x8⟩ := rv_cells HZ.out
        obtain ⟨u0, u1, u2, u3, u4, u5, u6, u7, u8⟩ := rv_free9 HZ.out
        obtain ⟨r0, r1, r2, r3, r4, r5, r6, r7, r8, -, hcs⟩ := rv_put9 HZ.out 0 0 0 0 0 0 0 0 0
        have RR := Lib.hid (And.intro r0 (And.intro r1 (And.intro r2 (And.intro r3 (And.intro r4 (And.intro r5 (And.intro r6 (And.intro r7 r8))))))))
        have HF := Lib.hid (fresh_set HX.out hcs HQ.out)
        clear r0 r1 r2 r3 r4 r5 r6 r7 r8 hcs
        go_wp2_with fail
        obtain ⟨r0, r1, r2, r3, r4, r5, r6, r7, r8⟩ := RR.out
        exact bodyPost_ret (v := .tuple #[.agg #[.int .i64 0, .int .u64 0, .int .i64 0, .int .i64 0, .int .i64 0, .int .i64 0, .int .i64 0, .int .i64 0, .int .i64 0], .int .i64 5]) (by simp [results, Tryz.results61, go_sem, r0, r1, r2, r3, r4, r5, r6, r7, r8]) rfl ⟨by rw [HV.out]; first | done | rfl, HF.out⟩
  · have t2 : (op == 2) = false := by simpa using o2
    have hl := here17_any HD.out HW.out po
    obtain ⟨c0, c1, c2, c3, c4, c5, c6, c7, c8, le, hv⟩ := num9 (r := (livR17 R po, livE17 R po))
    rw [hv] at hl
    have hl : Calls _ _ _ _ (HR9 c0 c1 c2 c3 c4 c5 c6 c7 c8 le w3) := hl
    have HRW := Lib.hid hl
    injection hv with hv1 hv2
    have HLR := Lib.hid hv1
    have HLE := Lib.hid hv2
    clear hl hv1 hv2
    go_wp2_with fail
    refine HRW.out.mono ?_
    rintro e w4 ⟨rfl, hc⟩
    replace HB := Lib.hid (HB.out.chg hc id)
    replace HZ := Lib.hid (HZ.out.chg hc id)
    replace HX := Lib.hid (HX.out.trans hc (fun _ _ e => e))
    replace HD := Lib.hid (HD.out.keep hc)
    clear hc HRW b0 b1 b2 b3 y0 y1 y2 y3 y4 y5 y6 y7 y8 HN HV0
    go_upto_region 9 with fail
    have hc := (Chg.refl (fun _ => False) w4).alloc (.cells #[.int .i64 c0, .int .u64 c1, .int .i64 c2, .int .i64 c3, .int .i64 c4, .int .i64 c5, .int .i64 c6, .int .i64 c7, .int .i64 c8] 40)
    have HN : Hid (Blk (w4.alloc (.cells #[.int .i64 c0, .int .u64 c1, .int .i64 c2, .int .i64 c3, .int .i64 c4, .int .i64 c5, .int .i64 c6, .int .i64 c7, .int .i64 c8] 40)) w4.heap.size 40 (rvC c0 c1 c2 c3 c4 c5 c6 c7 c8)) := Lib.hid (blk_new rfl)
    replace HB := Lib.hid (HB.out.chg hc id)
    replace HZ := Lib.hid (HZ.out.chg hc id)
    replace HX := Lib.hid (HX.out.trans hc (fun _ _ e => e))
    replace HD := Lib.hid (HD.out.keep hc)
    clear hc
    generalize w4.alloc (.cells #[.int .i64 c0, .int .u64 c1, .int .i64 c2, .int .i64 c3, .int .i64 c4, .int .i64 c5, .int .i64 c6, .int .i64 c7, .int .i64 c8] 40) = w5 at *
    generalize w4.heap.size = QN2 at *
    obtain ⟨y0, y1, y2, y3, y4, y5, y6, y7, y8⟩ := rv_cells HN.out
    obtain ⟨b0, b1, b2, b3⟩ := cl_cells17 HB.out
    by_cases he : le = 0
    · subst he
      by_cases o3 : op = 3
      · subst o3
        have hve : rowP20 R 3 po ch ma now = dr9 ⟨c0, c1, c2, c3, c4, c5, c6, c7, c8⟩ now := by unfold rowP20; rw [if_neg (by omega)]; unfold move17; rw [HLE.out, HLR.out]; simp 
        obtain ⟨f0, f1, f2, f3, f4, f5, f6, f7, f8, fe, hv2⟩ := num9 (r := dr9 ⟨c0, c1, c2, c3, c4, c5, c6, c7, c8⟩ now)
        have HV := Lib.hid (hve.trans hv2)
        have hcl := rdro_any c0 c1 c2 c3 c4 c5 c6 c7 c8 now w5
        rw [hv2] at hcl
        have hcl : Calls _ _ _ _ (HR9 f0 f1 f2 f3 f4 f5 f6 f7 f8 fe w5) := hcl
        have HCL := Lib.hid hcl
        clear hcl hv2 hve
        go_wp2_with fail
        refine HCL.out.mono ?_
        rintro e w4 ⟨rfl, hc⟩
        replace HZ := Lib.hid (HZ.out.chg hc id)
        replace HX := Lib.hid (HX.out.trans hc (fun _ _ e => e))
        clear hc HCL
        obtain ⟨x0, x1, x2, x3, x4, x5, x6, x7, x8⟩ := rv_cells HZ.out
        obtain ⟨u0, u1, u2, u3, u4, u5, u6, u7, u8⟩ := rv_free9 HZ.out
        obtain ⟨r0, r1, r2, r3, r4, r5, r6, r7, r8, -, hcs⟩ := rv_put9 HZ.out f0 f1 f2 f3 f4 f5 f6 f7 f8
        have RR := Lib.hid (And.intro r0 (And.intro r1 (And.intro r2 (And.intro r3 (And.intro r4 (And.intro r5 (And.intro r6 (And.intro r7 r8))))))))
        have HF := Lib.hid (fresh_set HX.out hcs HQ.out)
        clear r0 r1 r2 r3 r4 r5 r6 r7 r8 hcs
        go_wp2_with fail
        obtain ⟨r0, r1, r2, r3, r4, r5, r6, r7, r8⟩ := RR.out
        exact bodyPost_ret (v := .tuple #[.agg #[.int .i64 f0, .int .u64 f1, .int .i64 f2, .int .i64 f3, .int .i64 f4, .int .i64 f5, .int .i64 f6, .int .i64 f7, .int .i64 f8], .int .i64 fe]) (by simp [results, Tryz.results61, go_sem, r0, r1, r2, r3, r4, r5, r6, r7, r8]) rfl ⟨by rw [HV.out]; first | done | rfl, HF.out⟩
      · have t3 : (op == 3) = false := by simpa using o3
        by_cases o4 : op = 4
        · subst o4
          have hve : rowP20 R 4 po ch ma now = st9 ⟨c0, c1, c2, c3, c4, c5, c6, c7, c8⟩ ch now := by unfold rowP20; rw [if_neg (by omega)]; unfold move17; rw [HLE.out, HLR.out]; simp 
          obtain ⟨f0, f1, f2, f3, f4, f5, f6, f7, f8, fe, hv2⟩ := num9 (r := st9 ⟨c0, c1, c2, c3, c4, c5, c6, c7, c8⟩ ch now)
          have HV := Lib.hid (hve.trans hv2)
          have hcl := rsta_any c0 c1 c2 c3 c4 c5 c6 c7 c8 ch now w5
          rw [hv2] at hcl
          have hcl : Calls _ _ _ _ (HR9 f0 f1 f2 f3 f4 f5 f6 f7 f8 fe w5) := hcl
          have HCL := Lib.hid hcl
          clear hcl hv2 hve
          go_wp2_with fail
          refine HCL.out.mono ?_
          rintro e w4 ⟨rfl, hc⟩
          replace HZ := Lib.hid (HZ.out.chg hc id)
          replace HX := Lib.hid (HX.out.trans hc (fun _ _ e => e))
          clear hc HCL
          obtain ⟨x0, x1, x2, x3, x4, x5, x6, x7, x8⟩ := rv_cells HZ.out
          obtain ⟨u0, u1, u2, u3, u4, u5, u6, u7, u8⟩ := rv_free9 HZ.out
          obtain ⟨r0, r1, r2, r3, r4, r5, r6, r7, r8, -, hcs⟩ := rv_put9 HZ.out f0 f1 f2 f3 f4 f5 f6 f7 f8
          have RR := Lib.hid (And.intro r0 (And.intro r1 (And.intro r2 (And.intro r3 (And.intro r4 (And.intro r5 (And.intro r6 (And.intro r7 r8))))))))
          have HF := Lib.hid (fresh_set HX.out hcs HQ.out)
          clear r0 r1 r2 r3 r4 r5 r6 r7 r8 hcs
          go_wp2_with fail
          obtain ⟨r0, r1, r2, r3, r4, r5, r6, r7, r8⟩ := RR.out
          exact bodyPost_ret (v := .tuple #[.agg #[.int .i64 f0, .int .u64 f1, .int .i64 f2, .int .i64 f3, .int .i64 f4, .int .i64 f5, .int .i64 f6, .int .i64 f7, .int .i64 f8], .int .i64 fe]) (by simp [results, Tryz.results61, go_sem, r0, r1, r2, r3, r4, r5, r6, r7, r8]) rfl ⟨by rw [HV.out]; first | done | rfl, HF.out⟩
        · have t4 : (op == 4) = false := by simpa using o4
          by_cases o5 : op = 5
          · subst o5
            have hve : rowP20 R 5 po ch ma now = co9 ⟨c0, c1, c2, c3, c4, c5, c6, c7, c8⟩ now := by unfold rowP20; rw [if_neg (by omega)]; unfold move17; rw [HLE.out, HLR.out]; simp 
            obtain ⟨f0, f1, f2, f3, f4, f5, f6, f7, f8, fe, hv2⟩ := num9 (r := co9 ⟨c0, c1, c2, c3, c4, c5, c6, c7, c8⟩ now)
            have HV := Lib.hid (hve.trans hv2)
            have hcl := rcom_any c0 c1 c2 c3 c4 c5 c6 c7 c8 now w5
            rw [hv2] at hcl
            have hcl : Calls _ _ _ _ (HR9 f0 f1 f2 f3 f4 f5 f6 f7 f8 fe w5) := hcl
            have HCL := Lib.hid hcl
            clear hcl hv2 hve
            go_wp2_with fail
            refine HCL.out.mono ?_
            rintro e w4 ⟨rfl, hc⟩
            replace HZ := Lib.hid (HZ.out.chg hc id)
            replace HX := Lib.hid (HX.out.trans hc (fun _ _ e => e))
            clear hc HCL
            obtain ⟨x0, x1, x2, x3, x4, x5, x6, x7, x8⟩ := rv_cells HZ.out
            obtain ⟨u0, u1, u2, u3, u4, u5, u6, u7, u8⟩ := rv_free9 HZ.out
            obtain ⟨r0, r1, r2, r3, r4, r5, r6, r7, r8, -, hcs⟩ := rv_put9 HZ.out f0 f1 f2 f3 f4 f5 f6 f7 f8
            have RR := Lib.hid (And.intro r0 (And.intro r1 (And.intro r2 (And.intro r3 (And.intro r4 (And.intro r5 (And.intro r6 (And.intro r7 r8))))))))
            have HF := Lib.hid (fresh_set HX.out hcs HQ.out)
            clear r0 r1 r2 r3 r4 r5 r6 r7 r8 hcs
            go_wp2_with fail
            obtain ⟨r0, r1, r2, r3, r4, r5, r6, r7, r8⟩ := RR.out
            exact bodyPost_ret (v := .tuple #[.agg #[.int .i64 f0, .int .u64 f1, .int .i64 f2, .int .i64 f3, .int .i64 f4, .int .i64 f5, .int .i64 f6, .int .i64 f7, .int .i64 f8], .int .i64 fe]) (by simp [results, Tryz.results61, go_sem, r0, r1, r2, r3, r4, r5, r6, r7, r8]) rfl ⟨by rw [HV.out]; first | done | rfl, HF.out⟩
          · have t5 : (op == 5) = false := by simpa using o5
            have hve : rowP20 R op po ch ma now = ab9 ⟨c0, c1, c2, c3, c4, c5, c6, c7, c8⟩ now := by unfold rowP20; rw [if_neg (by omega)]; unfold move17; rw [HLE.out, HLR.out]; simp [o3, o4, o5]
            obtain ⟨f0, f1, f2, f3, f4, f5, f6, f7, f8, fe, hv2⟩ := num9 (r := ab9 ⟨c0, c1, c2, c3, c4, c5, c6, c7, c8⟩ now)
            have HV := Lib.hid (hve.trans hv2)
            have hcl := rabo_any c0 c1 c2 c3 c4 c5 c6 c7 c8 now w5
            rw [hv2] at hcl
            have hcl : Calls _ _ _ _ (HR9 f0 f1 f2 f3 f4 f5 f6 f7 f8 fe w5) := hcl
            have HCL := Lib.hid hcl
            clear hcl hv2 hve o2 o3 o4 o5
            go_wp2_with fail
            refine HCL.out.mono ?_
            rintro e w4 ⟨rfl, hc⟩
            replace HZ := Lib.hid (HZ.out.chg hc id)
            replace HX := Lib.hid (HX.out.trans hc (fun _ _ e => e))
            clear hc HCL
            obtain ⟨x0, x1, x2, x3, x4, x5, x6, x7, x8⟩ := rv_cells HZ.out
            obtain ⟨u0, u1, u2, u3, u4, u5, u6, u7, u8⟩ := rv_free9 HZ.out
            obtain ⟨r0, r1, r2, r3, r4, r5, r6, r7, r8, -, hcs⟩ := rv_put9 HZ.out f0 f1 f2 f3 f4 f5 f6 f7 f8
            have RR := Lib.hid (And.intro r0 (And.intro r1 (And.intro r2 (And.intro r3 (And.intro r4 (And.intro r5 (And.intro r6 (And.intro r7 r8))))))))
            have HF := Lib.hid (fresh_set HX.out hcs HQ.out)
            clear r0 r1 r2 r3 r4 r5 r6 r7 r8 hcs
            go_wp2_with fail
            obtain ⟨r0, r1, r2, r3, r4, r5, r6, r7, r8⟩ := RR.out
            exact bodyPost_ret (v := .tuple #[.agg #[.int .i64 f0, .int .u64 f1, .int .i64 f2, .int .i64 f3, .int .i64 f4, .int .i64 f5, .int .i64 f6, .int .i64 f7, .int .i64 f8], .int .i64 fe]) (by simp [results, Tryz.results61, go_sem, r0, r1, r2, r3, r4, r5, r6, r7, r8]) rfl ⟨by rw [HV.out]; first | done | rfl, HF.out⟩
    · have te : (le != 0) = true := by simpa using he
      have HV : Hid ((rowP20 R op po ch ma now) = (z9, le)) := Lib.hid (by unfold rowP20; rw [if_neg o2]; unfold move17; rw [HLE.out, if_neg he])
      clear he o2
      obtain ⟨x0, x1, x2, x3, x4, x5, x6, x7, x8⟩ := rv_cells HZ.out
      obtain ⟨u0, u1, u2, u3, u4, u5, u6, u7, u8⟩ := rv_free9 HZ.out
      obtain ⟨r0, r1, r2, r3, r4, r5, r6, r7, r8, -, hcs⟩ := rv_put9 HZ.out 0 0 0 0 0 0 0 0 0
      have RR := Lib.hid (And.intro r0 (And.intro r1 (And.intro r2 (And.intro r3 (And.intro r4 (And.intro r5 (And.intro r6 (And.intro r7 r8))))))))
      have HF := Lib.hid (fresh_set HX.out hcs HQ.out)
      clear r0 r1 r2 r3 r4 r5 r6 r7 r8 hcs
      go_wp2_with fail
      obtain ⟨r0, r1, r2, r3, r4, r5, r6, r7, r8⟩ := RR.out
      exact bodyPost_ret (v := .tuple #[.agg #[.int .i64 0, .int .u64 0, .int .i64 0, .int .i64 0, .int .i64 0, .int .i64 0, .int .i64 0, .int .i64 0, .int .i64 0], .int .i64 le]) (by simp [results, Tryz.results61, go_sem, r0, r1, r2, r3, r4, r5, r6, r7, r8]) rfl ⟨by rw [HV.out]; first | done | rfl, HF.out⟩
set_option maxRecDepth 100000 in
set_option maxHeartbeats 16000000 in
theorem rdo17_any {w : World} {q : Nat} {C : Int → Bool} {R : Int → Option RV} (h : DS w q C R) (hw : WF C R) (sp no op po ch ma : Int) : Calls Tryz.prog 23 #[.pointer (some ⟨q, 0, none⟩), .agg #[.int .i64 op, .int .i64 po, .int .i64 ch, .int .u64 ma], .int .i64 no] w (DocP20 q (doM20 ⟨C, R, sp, no⟩ op po ch ma) w) := by
  have hc0 := ((Chg.refl (fun _ => False) w).alloc (.cells #[.int .i64 op, .int .i64 po, .int .i64 ch, .int .u64 ma] 33)).alloc (.cells #[.int .i64 0, .int .u64 0, .int .i64 0, .int .i64 0, .int .i64 0, .int .i64 0, .int .i64 0, .int .i64 0, .int .i64 0] 40)
  have HNQ : Hid (q ≠ w.heap.size + 1) := Lib.hid (by have := Blk.lt h; omega)
  have HD := Lib.hid (h.keep hc0)
  have HW := Lib.hid hw
  have HB : Hid (Blk ((w.alloc (.cells #[.int .i64 op, .int .i64 po, .int .i64 ch, .int .u64 ma] 33)).alloc (.cells #[.int .i64 0, .int .u64 0, .int .i64 0, .int .i64 0, .int .i64 0, .int .i64 0, .int .i64 0, .int .i64 0, .int .i64 0] 40)) w.heap.size 33 #[.int .i64 op, .int .i64 po, .int .i64 ch, .int .u64 ma]) := Lib.hid ((blk_new rfl).alloc _)
  have HZ : Hid (Blk ((w.alloc (.cells #[.int .i64 op, .int .i64 po, .int .i64 ch, .int .u64 ma] 33)).alloc (.cells #[.int .i64 0, .int .u64 0, .int .i64 0, .int .i64 0, .int .i64 0, .int .i64 0, .int .i64 0, .int .i64 0, .int .i64 0] 40)) (w.heap.size + 1) 40 (rvC 0 0 0 0 0 0 0 0 0)) := Lib.hid (blk_new (by simp))
  have HX := Lib.hid hc0
  clear h hw hc0
  go_enter Tryz.func23, Tryz.ntmps23
  go_upto_region 1 with fail
  generalize (w.alloc (.cells #[.int .i64 op, .int .i64 po, .int .i64 ch, .int .u64 ma] 33)).alloc (.cells #[.int .i64 0, .int .u64 0, .int .i64 0, .int .i64 0, .int .i64 0, .int .i64 0, .int .i64 0, .int .i64 0, .int .i64 0] 40) = w1 at *
  generalize hq1 : w.heap.size + 1 = Q1 at HZ HNQ ⊢
  have HQ : Hid (w.heap.size ≤ Q1) := Lib.hid (by omega)
  clear hq1
  generalize w.heap.size = Q0 at HB ⊢
  by_cases o0 : op = 0
  · subst o0
    have HCL := Lib.hid (dsadd_any HD.out HW.out ch)
    have HT : Hid (doM20 ⟨C, R, sp, no⟩ 0 po ch ma = (z9, addP C ch, ⟨addK C ch, R, sp, no⟩)) := Lib.hid rfl
    generalize addP C ch = er at *
    obtain ⟨b0, b1, b2, b3⟩ := cl_cells17 HB.out
    go_wp2_with fail
    refine HCL.out.mono ?_
    rintro e w2 ⟨rfl, hs, hc⟩
    have HD2 := Lib.hid hs
    replace HZ := Lib.hid (HZ.out.chg hc (fun e => HNQ.out e.symm))
    have HX2 : Hid (Chg (fun k => k = q) w w2) := Lib.hid (HX.out.widen17 hc (fun _ h => h))
    clear hc hs HCL b0 b1 b2 b3
    obtain ⟨x0, x1, x2, x3, x4, x5, x6, x7, x8⟩ := rv_cells HZ.out
    obtain ⟨u0, u1, u2, u3, u4, u5, u6, u7, u8⟩ := rv_free9 HZ.out
    obtain ⟨r0, r1, r2, r3, r4, r5, r6, r7, r8, -, hcs⟩ := rv_put9 HZ.out 0 0 0 0 0 0 0 0 0
    have RR := Lib.hid (And.intro r0 (And.intro r1 (And.intro r2 (And.intro r3 (And.intro r4 (And.intro r5 (And.intro r6 (And.intro r7 r8))))))))
    have HDF := Lib.hid (Blk.chg HD2.out hcs HNQ.out)
    have HFM := Lib.hid (fresh_put20 HX2.out hcs HQ.out)
    clear r0 r1 r2 r3 r4 r5 r6 r7 r8 hcs
    go_wp2_with fail
    obtain ⟨r0, r1, r2, r3, r4, r5, r6, r7, r8⟩ := RR.out
    refine bodyPost_ret (v := .tuple #[.agg #[.int .i64 0, .int .u64 0, .int .i64 0, .int .i64 0, .int .i64 0, .int .i64 0, .int .i64 0, .int .i64 0, .int .i64 0], .int .i64 er]) (by simp [results, Tryz.results23, go_sem, r0, r1, r2, r3, r4, r5, r6, r7, r8]) rfl ?_
    exact ⟨by rw [HT.out]; first | done | rfl, by rw [HT.out]; exact HDF.out, HFM.out⟩
  · have t0 : (op == 0) = false := by simpa using o0
    by_cases o1 : op = 1
    · subst o1
      clear o0
      have HCL := Lib.hid (dsrem_any HD.out HW.out ch)
      have HT : Hid (doM20 ⟨C, R, sp, no⟩ 1 po ch ma = (z9, remP C R ch, ⟨remK C R ch, R, sp, no⟩)) := Lib.hid rfl
      generalize remP C R ch = er at *
      obtain ⟨b0, b1, b2, b3⟩ := cl_cells17 HB.out
      go_wp2_with fail
      refine HCL.out.mono ?_
      rintro e w2 ⟨rfl, hs, hc⟩
      have HD2 := Lib.hid hs
      replace HZ := Lib.hid (HZ.out.chg hc (fun e => HNQ.out e.symm))
      have HX2 : Hid (Chg (fun k => k = q) w w2) := Lib.hid (HX.out.widen17 hc (fun _ h => h))
      clear hc hs HCL b0 b1 b2 b3
      obtain ⟨x0, x1, x2, x3, x4, x5, x6, x7, x8⟩ := rv_cells HZ.out
      obtain ⟨u0, u1, u2, u3, u4, u5, u6, u7, u8⟩ := rv_free9 HZ.out
      obtain ⟨r0, r1, r2, r3, r4, r5, r6, r7, r8, -, hcs⟩ := rv_put9 HZ.out 0 0 0 0 0 0 0 0 0
      have RR := Lib.hid (And.intro r0 (And.intro r1 (And.intro r2 (And.intro r3 (And.intro r4 (And.intro r5 (And.intro r6 (And.intro r7 r8))))))))
      have HDF := Lib.hid (Blk.chg HD2.out hcs HNQ.out)
      have HFM := Lib.hid (fresh_put20 HX2.out hcs HQ.out)
      clear r0 r1 r2 r3 r4 r5 r6 r7 r8 hcs
      go_wp2_with fail
      obtain ⟨r0, r1, r2, r3, r4, r5, r6, r7, r8⟩ := RR.out
      refine bodyPost_ret (v := .tuple #[.agg #[.int .i64 0, .int .u64 0, .int .i64 0, .int .i64 0, .int .i64 0, .int .i64 0, .int .i64 0, .int .i64 0, .int .i64 0], .int .i64 er]) (by simp [results, Tryz.results23, go_sem, r0, r1, r2, r3, r4, r5, r6, r7, r8]) rfl ?_
      exact ⟨by rw [HT.out]; first | done | rfl, by rw [HT.out]; exact HDF.out, HFM.out⟩
    · have t1 : (op == 1) = false := by simpa using o1
      by_cases o7 : op = 7
      · subst o7
        clear o0 o1
        obtain ⟨c0, c1, c2, c3, c4, c5, c6, c7, c8, le, hv⟩ := num9 (r := (livR17 R po, livE17 R po))
        have hl := here17_any HD.out HW.out po
        rw [hv] at hl
        have hl : Calls _ _ _ _ (HR9 c0 c1 c2 c3 c4 c5 c6 c7 c8 le w1) := hl
        have HRW := Lib.hid hl
        have HT : Hid (doM20 ⟨C, R, sp, no⟩ 7 po ch ma = (⟨c0, c1, c2, c3, c4, c5, c6, c7, c8⟩, le, ⟨C, R, sp, no⟩)) := Lib.hid (show (livR17 R po, livE17 R po, _) = _ from by injection hv with h1 h2; rw [h1, h2])
        clear hl hv
        obtain ⟨b0, b1, b2, b3⟩ := cl_cells17 HB.out
        go_wp2_with fail
        refine HRW.out.mono ?_
        rintro e w2 ⟨rfl, hc⟩
        replace HZ := Lib.hid (HZ.out.chg hc id)
        replace HX := Lib.hid (HX.out.trans hc (fun _ _ e => e))
        replace HD := Lib.hid (HD.out.keep hc)
        have HX2 : Hid (Chg (fun k => k = q) w w2) := Lib.hid (HX.out.mono (fun _ _ h => h.elim))
        clear hc HRW b0 b1 b2 b3
        obtain ⟨x0, x1, x2, x3, x4, x5, x6, x7, x8⟩ := rv_cells HZ.out
        obtain ⟨u0, u1, u2, u3, u4, u5, u6, u7, u8⟩ := rv_free9 HZ.out
        obtain ⟨r0, r1, r2, r3, r4, r5, r6, r7, r8, -, hcs⟩ := rv_put9 HZ.out c0 c1 c2 c3 c4 c5 c6 c7 c8
        have RR := Lib.hid (And.intro r0 (And.intro r1 (And.intro r2 (And.intro r3 (And.intro r4 (And.intro r5 (And.intro r6 (And.intro r7 r8))))))))
        have HDF := Lib.hid (Blk.chg HD.out hcs HNQ.out)
        have HFM := Lib.hid (fresh_put20 HX2.out hcs HQ.out)
        clear r0 r1 r2 r3 r4 r5 r6 r7 r8 hcs
        go_wp2_with fail
        obtain ⟨r0, r1, r2, r3, r4, r5, r6, r7, r8⟩ := RR.out
        refine bodyPost_ret (v := .tuple #[.agg #[.int .i64 c0, .int .u64 c1, .int .i64 c2, .int .i64 c3, .int .i64 c4, .int .i64 c5, .int .i64 c6, .int .i64 c7, .int .i64 c8], .int .i64 le]) (by simp [results, Tryz.results23, go_sem, r0, r1, r2, r3, r4, r5, r6, r7, r8]) rfl ?_
        exact ⟨by rw [HT.out]; first | done | rfl, by rw [HT.out]; exact HDF.out, HFM.out⟩
      · have t7 : (op == 7) = false := by simpa using o7
        by_cases om : 2 ≤ op ∧ op ≤ 6
        · have hop : (op == 2) = true ∨ ((op == 2) = false ∧ (op == 3) = true) ∨ ((op == 2) = false ∧ (op == 3) = false ∧ (op == 4) = true) ∨ ((op == 2) = false ∧ (op == 3) = false ∧ (op == 4) = false ∧ (op == 5) = true) ∨ ((op == 2) = false ∧ (op == 3) = false ∧ (op == 4) = false ∧ (op == 5) = false ∧ (op == 6) = true) := by simp only [beq_iff_eq, beq_eq_false_iff_ne]; omega
          obtain ⟨f0, f1, f2, f3, f4, f5, f6, f7, f8, fe, hv⟩ := num9 (r := rowP20 R op po ch ma no)
          have hr := row17_any HD.out HW.out op po ch ma no
          rw [hv] at hr
          have hr : Calls _ _ _ _ (HR9 f0 f1 f2 f3 f4 f5 f6 f7 f8 fe w1) := hr
          have HRW := Lib.hid hr
          have HT0 : Hid (doM20 ⟨C, R, sp, no⟩ op po ch ma = becP20 ⟨C, R, sp, no⟩ (⟨f0, f1, f2, f3, f4, f5, f6, f7, f8⟩, fe)) := Lib.hid (by
            unfold doM20
            rw [if_neg o0, if_neg o1, if_neg o7, ← hv]
            unfold rowP20
            by_cases o2 : op = 2
            · rw [if_pos o2, if_pos o2]
            · rw [if_neg o2, if_neg o2, if_pos (by omega)])
          clear hr hv
          clear o0 o1 o7 om
          obtain ⟨b0, b1, b2, b3⟩ := cl_cells17 HB.out
          rcases hop with t2 | ⟨t2, t3⟩ | ⟨t2, t3, t4⟩ | ⟨t2, t3, t4, t5⟩ | ⟨t2, t3, t4, t5, t6⟩
          all_goals
           go_wp2_with fail
           refine HRW.out.mono ?_
           rintro e w2 ⟨rfl, hc⟩
           replace HZ := Lib.hid (HZ.out.chg hc id)
           replace HX := Lib.hid (HX.out.trans hc (fun _ _ e => e))
           replace HD := Lib.hid (HD.out.keep hc)
           clear hc HRW b0 b1 b2 b3
           go_upto_region 14 with fail
           have hc := (Chg.refl (fun _ => False) w2).alloc (.cells #[.int .i64 f0, .int .u64 f1, .int .i64 f2, .int .i64 f3, .int .i64 f4, .int .i64 f5, .int .i64 f6, .int .i64 f7, .int .i64 f8] 40)
           have HN : Hid (Blk (w2.alloc (.cells #[.int .i64 f0, .int .u64 f1, .int .i64 f2, .int .i64 f3, .int .i64 f4, .int .i64 f5, .int .i64 f6, .int .i64 f7, .int .i64 f8] 40)) w2.heap.size 40 (rvC f0 f1 f2 f3 f4 f5 f6 f7 f8)) := Lib.hid (blk_new rfl)
           have HQN : Hid (q ≠ w2.heap.size) := Lib.hid (Nat.ne_of_lt (Blk.lt HD.out))
           replace HZ := Lib.hid (HZ.out.chg hc id)
           replace HX := Lib.hid (HX.out.trans hc (fun _ _ e => e))
           replace HD := Lib.hid (HD.out.keep hc)
           clear hc
           generalize w2.alloc (.cells #[.int .i64 f0, .int .u64 f1, .int .i64 f2, .int .i64 f3, .int .i64 f4, .int .i64 f5, .int .i64 f6, .int .i64 f7, .int .i64 f8] 40) = w3 at *
           generalize w2.heap.size = QN at *
           by_cases he : fe = 0
           · subst he
             have HS := Lib.hid (set17_any HD.out HW.out f0 f1 f2 f3 f4 f5 f6 f7 f8)
             have HT := Lib.hid (HT0.out.trans (bec_doc20 ⟨C, R, sp, no⟩ ⟨f0, f1, f2, f3, f4, f5, f6, f7, f8⟩))
             obtain ⟨y0, y1, y2, y3, y4, y5, y6, y7, y8⟩ := rv_cells HN.out
             go_wp2_with fail
             refine HS.out.mono ?_
             rintro e w4 ⟨rfl, hs, hc⟩
             have HD2 := Lib.hid hs
             replace HZ := Lib.hid (HZ.out.chg hc (fun e => HNQ.out e.symm))
             replace HN := Lib.hid (HN.out.chg hc (fun e => HQN.out e.symm))
             have HX2 : Hid (Chg (fun k => k = q) w w4) := Lib.hid (HX.out.widen17 hc (fun _ h => h))
             clear hc hs HS y0 y1 y2 y3 y4 y5 y6 y7 y8 HT0
             by_cases hz : wrongP C R ⟨⟨f0, f1, f2, f3, f4, f5, f6, f7, f8⟩, verP R f0⟩ = 0
             · have HT2 : Hid (doM20 ⟨C, R, sp, no⟩ op po ch ma = (⟨f0, f1, f2, f3, f4, f5, f6, f7, f8⟩, 0, ⟨C, setR20 C R ⟨⟨f0, f1, f2, f3, f4, f5, f6, f7, f8⟩, 0⟩, sp, no⟩)) := Lib.hid (by rw [HT.out]; (try dsimp only); rw [if_pos hz, hz])
               rw [hz]
               clear hz HT
               obtain ⟨y0, y1, y2, y3, y4, y5, y6, y7, y8⟩ := rv_cells HN.out
               obtain ⟨x0, x1, x2, x3, x4, x5, x6, x7, x8⟩ := rv_cells HZ.out
               obtain ⟨u0, u1, u2, u3, u4, u5, u6, u7, u8⟩ := rv_free9 HZ.out
               obtain ⟨r0, r1, r2, r3, r4, r5, r6, r7, r8, -, hcs⟩ := rv_put9 HZ.out f0 f1 f2 f3 f4 f5 f6 f7 f8
               have RR := Lib.hid (And.intro r0 (And.intro r1 (And.intro r2 (And.intro r3 (And.intro r4 (And.intro r5 (And.intro r6 (And.intro r7 r8))))))))
               have HDF := Lib.hid (Blk.chg HD2.out hcs HNQ.out)
               have HFM := Lib.hid (fresh_put20 HX2.out hcs HQ.out)
               clear r0 r1 r2 r3 r4 r5 r6 r7 r8 hcs
               go_wp2_with fail
               obtain ⟨r0, r1, r2, r3, r4, r5, r6, r7, r8⟩ := RR.out
               refine bodyPost_ret (v := .tuple #[.agg #[.int .i64 f0, .int .u64 f1, .int .i64 f2, .int .i64 f3, .int .i64 f4, .int .i64 f5, .int .i64 f6, .int .i64 f7, .int .i64 f8], .int .i64 0]) (by simp [results, Tryz.results23, go_sem, r0, r1, r2, r3, r4, r5, r6, r7, r8]) rfl ?_
               exact ⟨by rw [HT2.out]; first | done | rfl, by rw [HT2.out]; exact HDF.out, HFM.out⟩
             · have te : (wrongP C R ⟨⟨f0, f1, f2, f3, f4, f5, f6, f7, f8⟩, verP R f0⟩ != 0) = true := by simpa using hz
               have HT2 : Hid (doM20 ⟨C, R, sp, no⟩ op po ch ma = (z9, wrongP C R ⟨⟨f0, f1, f2, f3, f4, f5, f6, f7, f8⟩, verP R f0⟩, ⟨C, setR20 C R ⟨⟨f0, f1, f2, f3, f4, f5, f6, f7, f8⟩, 0⟩, sp, no⟩)) := Lib.hid (by rw [HT.out]; (try dsimp only); rw [if_neg hz])
               clear hz HT
               generalize wrongP C R ⟨⟨f0, f1, f2, f3, f4, f5, f6, f7, f8⟩, verP R f0⟩ = er at *
               obtain ⟨x0, x1, x2, x3, x4, x5, x6, x7, x8⟩ := rv_cells HZ.out
               obtain ⟨u0, u1, u2, u3, u4, u5, u6, u7, u8⟩ := rv_free9 HZ.out
               obtain ⟨r0, r1, r2, r3, r4, r5, r6, r7, r8, -, hcs⟩ := rv_put9 HZ.out 0 0 0 0 0 0 0 0 0
               have RR := Lib.hid (And.intro r0 (And.intro r1 (And.intro r2 (And.intro r3 (And.intro r4 (And.intro r5 (And.intro r6 (And.intro r7 r8))))))))
               have HDF := Lib.hid (Blk.chg HD2.out hcs HNQ.out)
               have HFM := Lib.hid (fresh_put20 HX2.out hcs HQ.out)
               clear r0 r1 r2 r3 r4 r5 r6 r7 r8 hcs
               go_wp2_with fail
               obtain ⟨r0, r1, r2, r3, r4, r5, r6, r7, r8⟩ := RR.out
               refine bodyPost_ret (v := .tuple #[.agg #[.int .i64 0, .int .u64 0, .int .i64 0, .int .i64 0, .int .i64 0, .int .i64 0, .int .i64 0, .int .i64 0, .int .i64 0], .int .i64 er]) (by simp [results, Tryz.results23, go_sem, r0, r1, r2, r3, r4, r5, r6, r7, r8]) rfl ?_
               exact ⟨by rw [HT2.out]; first | done | rfl, by rw [HT2.out]; exact HDF.out, HFM.out⟩
           · have te : (fe != 0) = true := by simpa using he
             have HT : Hid (doM20 ⟨C, R, sp, no⟩ op po ch ma = (z9, fe, ⟨C, R, sp, no⟩)) := Lib.hid (HT0.out.trans (bec_err20 _ he))
             have HX2 : Hid (Chg (fun k => k = q) w w3) := Lib.hid (HX.out.mono (fun _ _ h => h.elim))
             clear he HT0
             obtain ⟨x0, x1, x2, x3, x4, x5, x6, x7, x8⟩ := rv_cells HZ.out
             obtain ⟨u0, u1, u2, u3, u4, u5, u6, u7, u8⟩ := rv_free9 HZ.out
             obtain ⟨r0, r1, r2, r3, r4, r5, r6, r7, r8, -, hcs⟩ := rv_put9 HZ.out 0 0 0 0 0 0 0 0 0
             have RR := Lib.hid (And.intro r0 (And.intro r1 (And.intro r2 (And.intro r3 (And.intro r4 (And.intro r5 (And.intro r6 (And.intro r7 r8))))))))
             have HDF := Lib.hid (Blk.chg HD.out hcs HNQ.out)
             have HFM := Lib.hid (fresh_put20 HX2.out hcs HQ.out)
             clear r0 r1 r2 r3 r4 r5 r6 r7 r8 hcs
             go_wp2_with fail
             obtain ⟨r0, r1, r2, r3, r4, r5, r6, r7, r8⟩ := RR.out
             refine bodyPost_ret (v := .tuple #[.agg #[.int .i64 0, .int .u64 0, .int .i64 0, .int .i64 0, .int .i64 0, .int .i64 0, .int .i64 0, .int .i64 0, .int .i64 0], .int .i64 fe]) (by simp [results, Tryz.results23, go_sem, r0, r1, r2, r3, r4, r5, r6, r7, r8]) rfl ?_
             exact ⟨by rw [HT.out]; first | done | rfl, by rw [HT.out]; exact HDF.out, HFM.out⟩
        · have HT : Hid (doM20 ⟨C, R, sp, no⟩ op po ch ma = (z9, 1, ⟨C, R, sp, no⟩)) := Lib.hid (do_miss20 _ (by omega) po ch ma)
          have t2 : (op == 2) = false := by simp; omega
          have t3 : (op == 3) = false := by simp; omega
          have t4 : (op == 4) = false := by simp; omega
          have t5 : (op == 5) = false := by simp; omega
          have t6 : (op == 6) = false := by simp; omega
          have HX2 : Hid (Chg (fun k => k = q) w w1) := Lib.hid (HX.out.mono (fun _ _ h => h.elim))
          obtain ⟨b0, b1, b2, b3⟩ := cl_cells17 HB.out
          clear o0 o1 o7 om
          obtain ⟨x0, x1, x2, x3, x4, x5, x6, x7, x8⟩ := rv_cells HZ.out
          obtain ⟨u0, u1, u2, u3, u4, u5, u6, u7, u8⟩ := rv_free9 HZ.out
          obtain ⟨r0, r1, r2, r3, r4, r5, r6, r7, r8, -, hcs⟩ := rv_put9 HZ.out 0 0 0 0 0 0 0 0 0
          have RR := Lib.hid (And.intro r0 (And.intro r1 (And.intro r2 (And.intro r3 (And.intro r4 (And.intro r5 (And.intro r6 (And.intro r7 r8))))))))
          have HDF := Lib.hid (Blk.chg HD.out hcs HNQ.out)
          have HFM := Lib.hid (fresh_put20 HX2.out hcs HQ.out)
          clear r0 r1 r2 r3 r4 r5 r6 r7 r8 hcs
          go_wp2_with fail
          obtain ⟨r0, r1, r2, r3, r4, r5, r6, r7, r8⟩ := RR.out
          refine bodyPost_ret (v := .tuple #[.agg #[.int .i64 0, .int .u64 0, .int .i64 0, .int .i64 0, .int .i64 0, .int .i64 0, .int .i64 0, .int .i64 0, .int .i64 0], .int .i64 1]) (by simp [results, Tryz.results23, go_sem, r0, r1, r2, r3, r4, r5, r6, r7, r8]) rfl ?_
          exact ⟨by rw [HT.out]; first | done | rfl, by rw [HT.out]; exact HDF.out, HFM.out⟩

end Go.Proofs.YtimgnogacanifaaGreat
