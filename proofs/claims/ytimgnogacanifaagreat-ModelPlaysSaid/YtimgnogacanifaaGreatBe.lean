/-
  A model in memory. Walks: model.living, becomes, rutterref17.Here. Conditions: the model lies in memory.
-/
import Derived.Test.YtimgnogacanifaaGreatMB
import Derived.Test.YtimgnogacanifaaGreatPk
import Derived.Test.YtimgnogacanifaaGreatPl
import Derived.Deep.Cut
import Derived.Deep.DeepCutAuto
namespace Go.Proofs.YtimgnogacanifaaGreat
open Go.RowKit
set_option linter.unusedVariables false
set_option linter.unusedSimpArgs false

/-- A model behind pointer p: its store is block ps, with the maps bc and br; all of it lies from block B on. -/
structure MM20 (B : Nat) (w : World) (p ps bc br : Nat) (C : Int → Bool) (R : Int → Option RV) (sp no : Int) : Prop where
  bp : B ≤ p
  blk : Blk w p 54 #[.pointer (some ⟨ps, 0, none⟩), .int .i64 sp, .int .i64 no]
  cs : CS B w ps bc br C R
section
variable {B : Nat} {w w' : World} {p ps bc br : Nat} {C : Int → Bool} {R : Int → Option RV} {sp no : Int}
theorem MM20.chg {S : Nat → Prop} (h : MM20 B w p ps bc br C R sp no) (hc : Chg S w w') (h0 : ¬ S p) (h1 : ¬ S ps) (h2 : ¬ S bc) (h3 : ¬ S br) : MM20 B w' p ps bc br C R sp no := ⟨h.bp, h.blk.chg hc h0, h.cs.chg hc h1 h2 h3⟩
theorem MM20.keep (h : MM20 B w p ps bc br C R sp no) (hc : Chg (fun _ => False) w w') : MM20 B w' p ps bc br C R sp no := h.chg hc id id id id
theorem MM20.cells (h : MM20 B w p ps bc br C R sp no) : w.cell? ⟨p, 0, none⟩ = some (.pointer (some ⟨ps, 0, none⟩)) ∧ w.cell? ⟨p, 1, none⟩ = some (.int .i64 sp) ∧ w.cell? ⟨p, 2, none⟩ = some (.int .i64 no) := ⟨h.blk.cell 0, h.blk.cell 1, h.blk.cell 2⟩
theorem MM20.ne (h : MM20 B w p ps bc br C R sp no) : p ≠ ps ∧ p ≠ bc ∧ p ≠ br := h.cs.apart h.blk (by decide)
/-- A block of another type is none of the model's. -/
theorem MM20.apart (h : MM20 B w p ps bc br C R sp no) {q : Nat} {T : TypeId} {cs : Array Value} (hq : Blk w q T cs) (hT : T ≠ 87 ∧ T ≠ 54) : q ≠ p ∧ q ≠ ps ∧ q ≠ bc ∧ q ≠ br := by
  refine ⟨?_, h.cs.apart hq hT.1⟩
  rintro rfl
  have hb := h.blk
  unfold Blk at hb hq
  rw [hb] at hq
  injection hq with hq
  injection hq with _ hq
  exact hT.2 hq.symm
theorem MM20.lt (h : MM20 B w p ps bc br C R sp no) : p < w.heap.size ∧ ps < w.heap.size ∧ bc < w.heap.size ∧ br < w.heap.size := ⟨h.blk.lt, h.cs.lt3⟩
end
theorem fresh_put20 {S : Nat → Prop} {p : Nat} {w0 w w' : World} (h : Chg S w0 w) (m : Chg (fun k => k = p) w w') (hp : w0.heap.size ≤ p) : Chg S w0 w' := h.trans m (fun i hi e => absurd hi (by omega))
/-- What a call on a model may move. -/
def Mv20 (p ps bc k : Nat) : Prop := k = p ∨ k = ps ∨ k = bc
/-- What a call on a model leaves, which hands back a row and an error. -/
def BecP20 (B p ps bc : Nat) (r : RV × Int × MV20) (w : World) (e : Ending) (w' : World) : Prop :=
  ∃ br', e = .returned (.tuple #[.agg r.1.cs, .int .i64 r.2.1]) ∧ MM20 B w' p ps bc br' r.2.2.C r.2.2.R r.2.2.sp r.2.2.no ∧ Chg (Mv20 p ps bc) w w'
theorem bec_zero20 (x : MV20) {r : RV} (hv : verP x.R r.po = r.ve - 1) : becP20 x (r, 0) = if wrongP x.C x.R ⟨r, r.ve - 1⟩ = 0 then (r, 0, { x with R := putR x.R r }) else (z9, wrongP x.C x.R ⟨r, r.ve - 1⟩, x) := by
  have e : becX20 x (r, 0) = wrongP x.C x.R ⟨r, r.ve - 1⟩ := by
    unfold becX20
    rw [if_pos rfl, hv]
  unfold becP20 becR20 becM20
  rw [e]
  by_cases h : wrongP x.C x.R ⟨r, r.ve - 1⟩ = 0
  · rw [if_pos h, if_pos h, if_pos h, h]
  · rw [if_neg h, if_neg h, if_neg h]
theorem bec_err20 (x : MV20) {p : RV × Int} (h : p.2 ≠ 0) : becP20 x p = (z9, p.2, x) := by
  have e : becX20 x p = p.2 := if_neg h
  unfold becP20 becR20 becM20
  rw [e, if_neg h, if_neg h]
theorem rowB_cases20 {o : Option RV} {r : RV} {b : Bool} (h : rowB10 o = (r, b)) : (b = false ∧ o = none) ∨ (b = true ∧ o = some r) := by
  unfold rowB10 at h
  injection h with h1 h2
  cases o with
  | none => exact .inl ⟨h2.symm, rfl⟩
  | some x => exact .inr ⟨h2.symm, by rw [← h1]; rfl⟩
theorem bec_no20 (x : MV20) (p : RV × Int) : (becP20 x p).2.2.no = x.no ∧ (becP20 x p).2.2.sp = x.sp := by
  show (becM20 x p).no = x.no ∧ (becM20 x p).sp = x.sp
  unfold becM20
  split <;> exact ⟨rfl, rfl⟩
theorem num9b (r : RV × Int × MV20) : ∃ a0 a1 a2 a3 a4 a5 a6 a7 a8 e C R sp no, r = (⟨a0, a1, a2, a3, a4, a5, a6, a7, a8⟩, e, ⟨C, R, sp, no⟩) := ⟨_, _, _, _, _, _, _, _, _, _, _, _, _, _, rfl⟩
theorem do_miss20 (x : MV20) {op : Int} (h : ¬ (0 ≤ op ∧ op ≤ 7)) (po ch ma : Int) : doM20 x op po ch ma = (z9, 1, x) := by
  unfold doM20
  rw [if_neg (by omega), if_neg (by omega), if_neg (by omega), if_neg (by omega), if_neg (by omega)]
set_option maxRecDepth 100000 in
set_option maxHeartbeats 4000000 in
theorem living20_any {B : Nat} {w : World} {p ps bc br : Nat} {C : Int → Bool} {R : Int → Option RV} {sp no : Int} (h : MM20 B w p ps bc br C R sp no) (po : Int) : Calls Tryz.prog 57 #[.pointer (some ⟨p, 0, none⟩), .int .i64 po] w (HR (livR17 R po, livE17 R po) w) := by
  have hc0 := (Chg.refl (fun _ => False) w).alloc (.cells #[.int .i64 0, .int .u64 0, .int .i64 0, .int .i64 0, .int .i64 0, .int .i64 0, .int .i64 0, .int .i64 0, .int .i64 0] 40)
  have HM := Lib.hid (h.keep hc0)
  have HZ : Hid (Blk (w.alloc (.cells #[.int .i64 0, .int .u64 0, .int .i64 0, .int .i64 0, .int .i64 0, .int .i64 0, .int .i64 0, .int .i64 0, .int .i64 0] 40)) w.heap.size 40 (rvC 0 0 0 0 0 0 0 0 0)) := Lib.hid (blk_new rfl)
  have HX := Lib.hid hc0
  clear h hc0
  go_enter Tryz.func57, Tryz.ntmps57
  go_upto_region 1 with fail
  generalize w.alloc (.cells #[.int .i64 0, .int .u64 0, .int .i64 0, .int .i64 0, .int .i64 0, .int .i64 0, .int .i64 0, .int .i64 0, .int .i64 0] 40) = w1 at *
  generalize hq0 : w.heap.size = Q0 at HZ ⊢
  have HQ : Hid (w.heap.size ≤ Q0) := Lib.hid (by omega)
  clear hq0
  obtain ⟨d0, -, -⟩ := HM.out.cells
  have hr := srow_any HM.out.cs po
  cases hR : R po with
  | none =>
    rw [hR] at hr
    have hr : Calls _ _ _ _ (HB9 0 0 0 0 0 0 0 0 0 false w1) := hr
    have HRW := Lib.hid hr
    clear hr
    have HV : Hid ((livR17 R po, livE17 R po) = (z9, 4)) := Lib.hid (by unfold livR17 livE17; rw [hR]; first | done | rfl)
    clear hR
    go_wp2_with fail
    refine HRW.out.mono ?_
    rintro e w2 ⟨rfl, hc⟩
    replace HZ := Lib.hid (HZ.out.chg hc id)
    replace HX := Lib.hid (HX.out.trans hc (fun _ _ e => e))
    clear hc HRW
    go_upto_region 2 with fail
    have hc := (Chg.refl (fun _ => False) w2).alloc (.cells #[.int .i64 0, .int .u64 0, .int .i64 0, .int .i64 0, .int .i64 0, .int .i64 0, .int .i64 0, .int .i64 0, .int .i64 0] 40)
    have HN : Hid (Blk (w2.alloc (.cells #[.int .i64 0, .int .u64 0, .int .i64 0, .int .i64 0, .int .i64 0, .int .i64 0, .int .i64 0, .int .i64 0, .int .i64 0] 40)) w2.heap.size 40 (rvC 0 0 0 0 0 0 0 0 0)) := Lib.hid (blk_new rfl)
    replace HZ := Lib.hid (HZ.out.chg hc id)
    replace HX := Lib.hid (HX.out.trans hc (fun _ _ e => e))
    clear hc
    generalize w2.alloc (.cells #[.int .i64 0, .int .u64 0, .int .i64 0, .int .i64 0, .int .i64 0, .int .i64 0, .int .i64 0, .int .i64 0, .int .i64 0] 40) = w3 at *
    generalize w2.heap.size = QN at *
    obtain ⟨y0, y1, y2, y3, y4, y5, y6, y7, y8⟩ := rv_cells HN.out
    obtain ⟨x0, x1, x2, x3, x4, x5, x6, x7, x8⟩ := rv_cells HZ.out
    obtain ⟨u0, u1, u2, u3, u4, u5, u6, u7, u8⟩ := rv_free9 HZ.out
    obtain ⟨r0, r1, r2, r3, r4, r5, r6, r7, r8, -, hcs⟩ := rv_put9 HZ.out 0 0 0 0 0 0 0 0 0
    have RR := Lib.hid (And.intro r0 (And.intro r1 (And.intro r2 (And.intro r3 (And.intro r4 (And.intro r5 (And.intro r6 (And.intro r7 r8))))))))
    have HF := Lib.hid (fresh_set HX.out hcs HQ.out)
    clear r0 r1 r2 r3 r4 r5 r6 r7 r8 hcs
    go_wp2_with fail
    obtain ⟨r0, r1, r2, r3, r4, r5, r6, r7, r8⟩ := RR.out
    exact bodyPost_ret (v := .tuple #[.agg #[.int .i64 0, .int .u64 0, .int .i64 0, .int .i64 0, .int .i64 0, .int .i64 0, .int .i64 0, .int .i64 0, .int .i64 0], .int .i64 4]) (by simp [results, Tryz.results57, go_sem, r0, r1, r2, r3, r4, r5, r6, r7, r8]) rfl ⟨by rw [HV.out]; first | done | rfl, HF.out⟩
  | some x =>
    obtain ⟨po2, ma2, ow, ta, ol, ge, ph, ve, si, rfl⟩ := rv_letters x
    rw [hR] at hr
    have hr : Calls _ _ _ _ (HB9 po2 ma2 ow ta ol ge ph ve si true w1) := hr
    have HRW := Lib.hid hr
    clear hr
    by_cases h3 : ph = 3
    · subst h3
      have HV : Hid ((livR17 R po, livE17 R po) = (z9, 4)) := Lib.hid (by unfold livR17 livE17; rw [hR]; first | done | rfl)
      clear hR
      go_wp2_with fail
      refine HRW.out.mono ?_
      rintro e w2 ⟨rfl, hc⟩
      replace HZ := Lib.hid (HZ.out.chg hc id)
      replace HX := Lib.hid (HX.out.trans hc (fun _ _ e => e))
      clear hc HRW
      go_upto_region 2 with fail
      have hc := (Chg.refl (fun _ => False) w2).alloc (.cells #[.int .i64 po2, .int .u64 ma2, .int .i64 ow, .int .i64 ta, .int .i64 ol, .int .i64 ge, .int .i64 3, .int .i64 ve, .int .i64 si] 40)
      have HN : Hid (Blk (w2.alloc (.cells #[.int .i64 po2, .int .u64 ma2, .int .i64 ow, .int .i64 ta, .int .i64 ol, .int .i64 ge, .int .i64 3, .int .i64 ve, .int .i64 si] 40)) w2.heap.size 40 (rvC po2 ma2 ow ta ol ge 3 ve si)) := Lib.hid (blk_new rfl)
      replace HZ := Lib.hid (HZ.out.chg hc id)
      replace HX := Lib.hid (HX.out.trans hc (fun _ _ e => e))
      clear hc
      generalize w2.alloc (.cells #[.int .i64 po2, .int .u64 ma2, .int .i64 ow, .int .i64 ta, .int .i64 ol, .int .i64 ge, .int .i64 3, .int .i64 ve, .int .i64 si] 40) = w3 at *
      generalize w2.heap.size = QN at *
      obtain ⟨y0, y1, y2, y3, y4, y5, y6, y7, y8⟩ := rv_cells HN.out
      obtain ⟨x0, x1, x2, x3, x4, x5, x6, x7, x8⟩ := rv_cells HZ.out
      obtain ⟨u0, u1, u2, u3, u4, u5, u6, u7, u8⟩ := rv_free9 HZ.out
      obtain ⟨r0, r1, r2, r3, r4, r5, r6, r7, r8, -, hcs⟩ := rv_put9 HZ.out 0 0 0 0 0 0 0 0 0
      have RR := Lib.hid (And.intro r0 (And.intro r1 (And.intro r2 (And.intro r3 (And.intro r4 (And.intro r5 (And.intro r6 (And.intro r7 r8))))))))
      have HF := Lib.hid (fresh_set HX.out hcs HQ.out)
      clear r0 r1 r2 r3 r4 r5 r6 r7 r8 hcs
      go_wp2_with fail
      obtain ⟨r0, r1, r2, r3, r4, r5, r6, r7, r8⟩ := RR.out
      exact bodyPost_ret (v := .tuple #[.agg #[.int .i64 0, .int .u64 0, .int .i64 0, .int .i64 0, .int .i64 0, .int .i64 0, .int .i64 0, .int .i64 0, .int .i64 0], .int .i64 4]) (by simp [results, Tryz.results57, go_sem, r0, r1, r2, r3, r4, r5, r6, r7, r8]) rfl ⟨by rw [HV.out]; first | done | rfl, HF.out⟩
    · have t3 : (ph == 3) = false := by simpa using h3
      have s3 : (ph != 3) = true := by simpa using h3
      have HV : Hid ((livR17 R po, livE17 R po) = (⟨po2, ma2, ow, ta, ol, ge, ph, ve, si⟩, 0)) := Lib.hid (by unfold livR17 livE17; rw [hR]; simp only [if_neg h3])
      clear hR h3
      go_wp2_with fail
      refine HRW.out.mono ?_
      rintro e w2 ⟨rfl, hc⟩
      replace HZ := Lib.hid (HZ.out.chg hc id)
      replace HX := Lib.hid (HX.out.trans hc (fun _ _ e => e))
      clear hc HRW
      go_upto_region 2 with fail
      have hc := (Chg.refl (fun _ => False) w2).alloc (.cells #[.int .i64 po2, .int .u64 ma2, .int .i64 ow, .int .i64 ta, .int .i64 ol, .int .i64 ge, .int .i64 ph, .int .i64 ve, .int .i64 si] 40)
      have HN : Hid (Blk (w2.alloc (.cells #[.int .i64 po2, .int .u64 ma2, .int .i64 ow, .int .i64 ta, .int .i64 ol, .int .i64 ge, .int .i64 ph, .int .i64 ve, .int .i64 si] 40)) w2.heap.size 40 (rvC po2 ma2 ow ta ol ge ph ve si)) := Lib.hid (blk_new rfl)
      replace HZ := Lib.hid (HZ.out.chg hc id)
      replace HX := Lib.hid (HX.out.trans hc (fun _ _ e => e))
      clear hc
      generalize w2.alloc (.cells #[.int .i64 po2, .int .u64 ma2, .int .i64 ow, .int .i64 ta, .int .i64 ol, .int .i64 ge, .int .i64 ph, .int .i64 ve, .int .i64 si] 40) = w3 at *
      generalize w2.heap.size = QN at *
      obtain ⟨y0, y1, y2, y3, y4, y5, y6, y7, y8⟩ := rv_cells HN.out
      obtain ⟨x0, x1, x2, x3, x4, x5, x6, x7, x8⟩ := rv_cells HZ.out
      obtain ⟨u0, u1, u2, u3, u4, u5, u6, u7, u8⟩ := rv_free9 HZ.out
      obtain ⟨r0, r1, r2, r3, r4, r5, r6, r7, r8, -, hcs⟩ := rv_put9 HZ.out po2 ma2 ow ta ol ge ph ve si
      have RR := Lib.hid (And.intro r0 (And.intro r1 (And.intro r2 (And.intro r3 (And.intro r4 (And.intro r5 (And.intro r6 (And.intro r7 r8))))))))
      have HF := Lib.hid (fresh_set HX.out hcs HQ.out)
      clear r0 r1 r2 r3 r4 r5 r6 r7 r8 hcs
      go_wp2_with fail
      obtain ⟨r0, r1, r2, r3, r4, r5, r6, r7, r8⟩ := RR.out
      exact bodyPost_ret (v := .tuple #[.agg #[.int .i64 po2, .int .u64 ma2, .int .i64 ow, .int .i64 ta, .int .i64 ol, .int .i64 ge, .int .i64 ph, .int .i64 ve, .int .i64 si], .int .i64 0]) (by simp [results, Tryz.results57, go_sem, r0, r1, r2, r3, r4, r5, r6, r7, r8]) rfl ⟨by rw [HV.out]; first | done | rfl, HF.out⟩
set_option maxRecDepth 100000 in
set_option maxHeartbeats 4000000 in
theorem here17_any {w : World} {q : Nat} {C : Int → Bool} {R : Int → Option RV} (h : DS w q C R) (hw : WF C R) (po : Int) : Calls Tryz.prog 60 #[.pointer (some ⟨q, 0, none⟩), .int .i64 po] w (HR (livR17 R po, livE17 R po) w) := by
  have hc0 := (Chg.refl (fun _ => False) w).alloc (.cells #[.int .i64 0, .int .u64 0, .int .i64 0, .int .i64 0, .int .i64 0, .int .i64 0, .int .i64 0, .int .i64 0, .int .i64 0] 40)
  have HM := Lib.hid (h.keep hc0)
  have HZ : Hid (Blk (w.alloc (.cells #[.int .i64 0, .int .u64 0, .int .i64 0, .int .i64 0, .int .i64 0, .int .i64 0, .int .i64 0, .int .i64 0, .int .i64 0] 40)) w.heap.size 40 (rvC 0 0 0 0 0 0 0 0 0)) := Lib.hid (blk_new rfl)
  have HX := Lib.hid hc0
  clear h hc0
  go_enter Tryz.func60, Tryz.ntmps60
  go_upto_region 1 with fail
  generalize w.alloc (.cells #[.int .i64 0, .int .u64 0, .int .i64 0, .int .i64 0, .int .i64 0, .int .i64 0, .int .i64 0, .int .i64 0, .int .i64 0] 40) = w1 at *
  generalize hq0 : w.heap.size = Q0 at HZ ⊢
  have HQ : Hid (w.heap.size ≤ Q0) := Lib.hid (by omega)
  clear hq0
  have hr := dsrow_any HM.out hw po
  cases hR : R po with
  | none =>
    rw [hR] at hr
    have hr : Calls _ _ _ _ (HB9 0 0 0 0 0 0 0 0 0 false w1) := hr
    have HRW := Lib.hid hr
    clear hr
    have HV : Hid ((livR17 R po, livE17 R po) = (z9, 4)) := Lib.hid (by unfold livR17 livE17; rw [hR]; first | done | rfl)
    clear hR
    go_wp2_with fail
    refine HRW.out.mono ?_
    rintro e w2 ⟨rfl, hc⟩
    replace HZ := Lib.hid (HZ.out.chg hc id)
    replace HX := Lib.hid (HX.out.trans hc (fun _ _ e => e))
    clear hc HRW
    go_upto_region 2 with fail
    have hc := (Chg.refl (fun _ => False) w2).alloc (.cells #[.int .i64 0, .int .u64 0, .int .i64 0, .int .i64 0, .int .i64 0, .int .i64 0, .int .i64 0, .int .i64 0, .int .i64 0] 40)
    have HN : Hid (Blk (w2.alloc (.cells #[.int .i64 0, .int .u64 0, .int .i64 0, .int .i64 0, .int .i64 0, .int .i64 0, .int .i64 0, .int .i64 0, .int .i64 0] 40)) w2.heap.size 40 (rvC 0 0 0 0 0 0 0 0 0)) := Lib.hid (blk_new rfl)
    replace HZ := Lib.hid (HZ.out.chg hc id)
    replace HX := Lib.hid (HX.out.trans hc (fun _ _ e => e))
    clear hc
    generalize w2.alloc (.cells #[.int .i64 0, .int .u64 0, .int .i64 0, .int .i64 0, .int .i64 0, .int .i64 0, .int .i64 0, .int .i64 0, .int .i64 0] 40) = w3 at *
    generalize w2.heap.size = QN at *
    obtain ⟨y0, y1, y2, y3, y4, y5, y6, y7, y8⟩ := rv_cells HN.out
    obtain ⟨x0, x1, x2, x3, x4, x5, x6, x7, x8⟩ := rv_cells HZ.out
    obtain ⟨u0, u1, u2, u3, u4, u5, u6, u7, u8⟩ := rv_free9 HZ.out
    obtain ⟨r0, r1, r2, r3, r4, r5, r6, r7, r8, -, hcs⟩ := rv_put9 HZ.out 0 0 0 0 0 0 0 0 0
    have RR := Lib.hid (And.intro r0 (And.intro r1 (And.intro r2 (And.intro r3 (And.intro r4 (And.intro r5 (And.intro r6 (And.intro r7 r8))))))))
    have HF := Lib.hid (fresh_set HX.out hcs HQ.out)
    clear r0 r1 r2 r3 r4 r5 r6 r7 r8 hcs
    go_wp2_with fail
    obtain ⟨r0, r1, r2, r3, r4, r5, r6, r7, r8⟩ := RR.out
    exact bodyPost_ret (v := .tuple #[.agg #[.int .i64 0, .int .u64 0, .int .i64 0, .int .i64 0, .int .i64 0, .int .i64 0, .int .i64 0, .int .i64 0, .int .i64 0], .int .i64 4]) (by simp [results, Tryz.results60, go_sem, r0, r1, r2, r3, r4, r5, r6, r7, r8]) rfl ⟨by rw [HV.out]; first | done | rfl, HF.out⟩
  | some x =>
    obtain ⟨po2, ma2, ow, ta, ol, ge, ph, ve, si, rfl⟩ := rv_letters x
    rw [hR] at hr
    have hr : Calls _ _ _ _ (HB9 po2 ma2 ow ta ol ge ph ve si true w1) := hr
    have HRW := Lib.hid hr
    clear hr
    by_cases h3 : ph = 3
    · subst h3
      have HV : Hid ((livR17 R po, livE17 R po) = (z9, 4)) := Lib.hid (by unfold livR17 livE17; rw [hR]; first | done | rfl)
      clear hR
      go_wp2_with fail
      refine HRW.out.mono ?_
      rintro e w2 ⟨rfl, hc⟩
      replace HZ := Lib.hid (HZ.out.chg hc id)
      replace HX := Lib.hid (HX.out.trans hc (fun _ _ e => e))
      clear hc HRW
      go_upto_region 2 with fail
      have hc := (Chg.refl (fun _ => False) w2).alloc (.cells #[.int .i64 po2, .int .u64 ma2, .int .i64 ow, .int .i64 ta, .int .i64 ol, .int .i64 ge, .int .i64 3, .int .i64 ve, .int .i64 si] 40)
      have HN : Hid (Blk (w2.alloc (.cells #[.int .i64 po2, .int .u64 ma2, .int .i64 ow, .int .i64 ta, .int .i64 ol, .int .i64 ge, .int .i64 3, .int .i64 ve, .int .i64 si] 40)) w2.heap.size 40 (rvC po2 ma2 ow ta ol ge 3 ve si)) := Lib.hid (blk_new rfl)
      replace HZ := Lib.hid (HZ.out.chg hc id)
      replace HX := Lib.hid (HX.out.trans hc (fun _ _ e => e))
      clear hc
      generalize w2.alloc (.cells #[.int .i64 po2, .int .u64 ma2, .int .i64 ow, .int .i64 ta, .int .i64 ol, .int .i64 ge, .int .i64 3, .int .i64 ve, .int .i64 si] 40) = w3 at *
      generalize w2.heap.size = QN at *
      obtain ⟨y0, y1, y2, y3, y4, y5, y6, y7, y8⟩ := rv_cells HN.out
      obtain ⟨x0, x1, x2, x3, x4, x5, x6, x7, x8⟩ := rv_cells HZ.out
      obtain ⟨u0, u1, u2, u3, u4, u5, u6, u7, u8⟩ := rv_free9 HZ.out
      obtain ⟨r0, r1, r2, r3, r4, r5, r6, r7, r8, -, hcs⟩ := rv_put9 HZ.out 0 0 0 0 0 0 0 0 0
      have RR := Lib.hid (And.intro r0 (And.intro r1 (And.intro r2 (And.intro r3 (And.intro r4 (And.intro r5 (And.intro r6 (And.intro r7 r8))))))))
      have HF := Lib.hid (fresh_set HX.out hcs HQ.out)
      clear r0 r1 r2 r3 r4 r5 r6 r7 r8 hcs
      go_wp2_with fail
      obtain ⟨r0, r1, r2, r3, r4, r5, r6, r7, r8⟩ := RR.out
      exact bodyPost_ret (v := .tuple #[.agg #[.int .i64 0, .int .u64 0, .int .i64 0, .int .i64 0, .int .i64 0, .int .i64 0, .int .i64 0, .int .i64 0, .int .i64 0], .int .i64 4]) (by simp [results, Tryz.results60, go_sem, r0, r1, r2, r3, r4, r5, r6, r7, r8]) rfl ⟨by rw [HV.out]; first | done | rfl, HF.out⟩
    · have t3 : (ph == 3) = false := by simpa using h3
      have s3 : (ph != 3) = true := by simpa using h3
      have HV : Hid ((livR17 R po, livE17 R po) = (⟨po2, ma2, ow, ta, ol, ge, ph, ve, si⟩, 0)) := Lib.hid (by unfold livR17 livE17; rw [hR]; simp only [if_neg h3])
      clear hR h3
      go_wp2_with fail
      refine HRW.out.mono ?_
      rintro e w2 ⟨rfl, hc⟩
      replace HZ := Lib.hid (HZ.out.chg hc id)
      replace HX := Lib.hid (HX.out.trans hc (fun _ _ e => e))
      clear hc HRW
      go_upto_region 2 with fail
      have hc := (Chg.refl (fun _ => False) w2).alloc (.cells #[.int .i64 po2, .int .u64 ma2, .int .i64 ow, .int .i64 ta, .int .i64 ol, .int .i64 ge, .int .i64 ph, .int .i64 ve, .int .i64 si] 40)
      have HN : Hid (Blk (w2.alloc (.cells #[.int .i64 po2, .int .u64 ma2, .int .i64 ow, .int .i64 ta, .int .i64 ol, .int .i64 ge, .int .i64 ph, .int .i64 ve, .int .i64 si] 40)) w2.heap.size 40 (rvC po2 ma2 ow ta ol ge ph ve si)) := Lib.hid (blk_new rfl)
      replace HZ := Lib.hid (HZ.out.chg hc id)
      replace HX := Lib.hid (HX.out.trans hc (fun _ _ e => e))
      clear hc
      generalize w2.alloc (.cells #[.int .i64 po2, .int .u64 ma2, .int .i64 ow, .int .i64 ta, .int .i64 ol, .int .i64 ge, .int .i64 ph, .int .i64 ve, .int .i64 si] 40) = w3 at *
      generalize w2.heap.size = QN at *
      obtain ⟨y0, y1, y2, y3, y4, y5, y6, y7, y8⟩ := rv_cells HN.out
      obtain ⟨x0, x1, x2, x3, x4, x5, x6, x7, x8⟩ := rv_cells HZ.out
      obtain ⟨u0, u1, u2, u3, u4, u5, u6, u7, u8⟩ := rv_free9 HZ.out
      obtain ⟨r0, r1, r2, r3, r4, r5, r6, r7, r8, -, hcs⟩ := rv_put9 HZ.out po2 ma2 ow ta ol ge ph ve si
      have RR := Lib.hid (And.intro r0 (And.intro r1 (And.intro r2 (And.intro r3 (And.intro r4 (And.intro r5 (And.intro r6 (And.intro r7 r8))))))))
      have HF := Lib.hid (fresh_set HX.out hcs HQ.out)
      clear r0 r1 r2 r3 r4 r5 r6 r7 r8 hcs
      go_wp2_with fail
      obtain ⟨r0, r1, r2, r3, r4, r5, r6, r7, r8⟩ := RR.out
      exact bodyPost_ret (v := .tuple #[.agg #[.int .i64 po2, .int .u64 ma2, .int .i64 ow, .int .i64 ta, .int .i64 ol, .int .i64 ge, .int .i64 ph, .int .i64 ve, .int .i64 si], .int .i64 0]) (by simp [results, Tryz.results60, go_sem, r0, r1, r2, r3, r4, r5, r6, r7, r8]) rfl ⟨by rw [HV.out]; first | done | rfl, HF.out⟩
set_option maxRecDepth 100000 in
set_option maxHeartbeats 8000000 in
theorem becomes20_any {B : Nat} {w : World} {p ps bc br : Nat} {C : Int → Bool} {R : Int → Option RV} {sp no : Int} (h : MM20 B w p ps bc br C R sp no) (po ma ow ta ol ge ph ve si er : Int) (hf : Fit20 R (⟨po, ma, ow, ta, ol, ge, ph, ve, si⟩, er)) : Calls Tryz.prog 69 #[.pointer (some ⟨p, 0, none⟩), .agg #[.int .i64 po, .int .u64 ma, .int .i64 ow, .int .i64 ta, .int .i64 ol, .int .i64 ge, .int .i64 ph, .int .i64 ve, .int .i64 si], .int .i64 er] w (BecP20 B p ps bc (becP20 ⟨C, R, sp, no⟩ (⟨po, ma, ow, ta, ol, ge, ph, ve, si⟩, er)) w) := by
  by_cases he : er = 0
  · subst he
    obtain ⟨hv, hb1, hb2⟩ := hf rfl
    change verP R po = ve - 1 at hv
    change 1 ≤ ve at hb1
    change ve ≤ 1099511627776 at hb2
    have HT0 : Hid (becP20 ⟨C, R, sp, no⟩ (⟨po, ma, ow, ta, ol, ge, ph, ve, si⟩, 0) = if wrongP C R ⟨⟨po, ma, ow, ta, ol, ge, ph, ve, si⟩, ve - 1⟩ = 0 then (⟨po, ma, ow, ta, ol, ge, ph, ve, si⟩, 0, ⟨C, putR R ⟨po, ma, ow, ta, ol, ge, ph, ve, si⟩, sp, no⟩) else (z9, wrongP C R ⟨⟨po, ma, ow, ta, ol, ge, ph, ve, si⟩, ve - 1⟩, ⟨C, R, sp, no⟩)) := Lib.hid (bec_zero20 ⟨C, R, sp, no⟩ hv)
    clear hv
    have hc0 := ((Chg.refl (fun _ => False) w).alloc (.cells #[.int .i64 po, .int .u64 ma, .int .i64 ow, .int .i64 ta, .int .i64 ol, .int .i64 ge, .int .i64 ph, .int .i64 ve, .int .i64 si] 40)).alloc (.cells #[.int .i64 0, .int .u64 0, .int .i64 0, .int .i64 0, .int .i64 0, .int .i64 0, .int .i64 0, .int .i64 0, .int .i64 0] 40)
    have HM := Lib.hid (h.keep hc0)
    have HB : Hid (Blk ((w.alloc (.cells #[.int .i64 po, .int .u64 ma, .int .i64 ow, .int .i64 ta, .int .i64 ol, .int .i64 ge, .int .i64 ph, .int .i64 ve, .int .i64 si] 40)).alloc (.cells #[.int .i64 0, .int .u64 0, .int .i64 0, .int .i64 0, .int .i64 0, .int .i64 0, .int .i64 0, .int .i64 0, .int .i64 0] 40)) w.heap.size 40 (rvC po ma ow ta ol ge ph ve si)) := Lib.hid ((blk_new rfl).alloc _)
    have HZ : Hid (Blk ((w.alloc (.cells #[.int .i64 po, .int .u64 ma, .int .i64 ow, .int .i64 ta, .int .i64 ol, .int .i64 ge, .int .i64 ph, .int .i64 ve, .int .i64 si] 40)).alloc (.cells #[.int .i64 0, .int .u64 0, .int .i64 0, .int .i64 0, .int .i64 0, .int .i64 0, .int .i64 0, .int .i64 0, .int .i64 0] 40)) (w.heap.size + 1) 40 (rvC 0 0 0 0 0 0 0 0 0)) := Lib.hid (blk_new (by simp))
    have HX := Lib.hid hc0
    have HLT := Lib.hid h.lt
    clear h hc0 hf
    go_enter Tryz.func69, Tryz.ntmps69
    go_upto_region 2 with fail
    generalize (w.alloc (.cells #[.int .i64 po, .int .u64 ma, .int .i64 ow, .int .i64 ta, .int .i64 ol, .int .i64 ge, .int .i64 ph, .int .i64 ve, .int .i64 si] 40)).alloc (.cells #[.int .i64 0, .int .u64 0, .int .i64 0, .int .i64 0, .int .i64 0, .int .i64 0, .int .i64 0, .int .i64 0, .int .i64 0] 40) = w1 at *
    generalize hq1 : w.heap.size + 1 = Q1 at HZ ⊢
    generalize hq0 : w.heap.size = Q0 at HB HLT hq1 ⊢
    have HQ : Hid (w.heap.size ≤ Q0 ∧ w.heap.size ≤ Q1) := Lib.hid (by omega)
    have HNE : Hid (Q0 ≠ ps ∧ Q1 ≠ ps ∧ Q0 ≠ p ∧ Q1 ≠ p ∧ Q0 ≠ bc ∧ Q1 ≠ bc) := Lib.hid (by have h1 := HLT.out; omega)
    clear hq1 hq0 HLT
    have HKEEP : Hid (∀ W : World, Chg (fun k => k = ps) w1 W → ((W.cell? ⟨p, 0, none⟩ = some (.pointer (some ⟨ps, 0, none⟩)) ∧ W.cell? ⟨Q0, 0, none⟩ = some (.int .i64 po) ∧ W.cell? ⟨Q0, 1, none⟩ = some (.int .u64 ma) ∧ W.cell? ⟨Q0, 2, none⟩ = some (.int .i64 ow) ∧ W.cell? ⟨Q0, 3, none⟩ = some (.int .i64 ta) ∧ W.cell? ⟨Q0, 4, none⟩ = some (.int .i64 ol) ∧ W.cell? ⟨Q0, 5, none⟩ = some (.int .i64 ge) ∧ W.cell? ⟨Q0, 6, none⟩ = some (.int .i64 ph) ∧ W.cell? ⟨Q0, 7, none⟩ = some (.int .i64 ve) ∧ W.cell? ⟨Q0, 8, none⟩ = some (.int .i64 si)))) := Lib.hid (fun W hw => by
      obtain ⟨g0, g1, g2, g3, g4, g5, g6, g7, g8⟩ := rv_cells (HB.out.chg hw HNE.out.1)
      exact ⟨(HM.out.blk.chg hw HM.out.ne.1).cell 0, g0, g1, g2, g3, g4, g5, g6, g7, g8⟩)
    have HYA := Lib.hid (Chg.refl (fun k => k = ps) w1).drew
    have HYC := Lib.hid (((Chg.refl (fun k => k = ps) w1).alloc (.cells #[.int .i64 po, .int .u64 ma, .int .i64 ow, .int .i64 ta, .int .i64 ol, .int .i64 ge, .int .i64 ph, .int .i64 ve, .int .i64 si, .int .i64 (ve - 1)] 88)).drew)
    have hsl : Blk ((w1.alloc (.cells #[.int .i64 po, .int .u64 ma, .int .i64 ow, .int .i64 ta, .int .i64 ol, .int .i64 ge, .int .i64 ph, .int .i64 ve, .int .i64 si, .int .i64 (ve - 1)] 88)).drew) w1.heap.size 88 (CV.cs ⟨⟨po, ma, ow, ta, ol, ge, ph, ve, si⟩, ve - 1⟩) := (blk_new rfl).drew
    have HAPP := Lib.hid (sapply_any (HM.out.cs.keep (((Chg.refl (fun _ => False) w1).alloc (.cells #[.int .i64 po, .int .u64 ma, .int .i64 ow, .int .i64 ta, .int .i64 ol, .int .i64 ge, .int .i64 ph, .int .i64 ve, .int .i64 si, .int .i64 (ve - 1)] 88)).drew)) (some ⟨w1.heap.size, 0, none⟩) 1 1 [⟨⟨po, ma, ow, ta, ol, ge, ph, ve, si⟩, ve - 1⟩] _ (sr_one17 hsl) (by decide))
    clear hsl
    have hkk := HKEEP.out _ HYA.out
    have hw1 : IntKind.i64.wrap (ve - 1) = ve - 1 := IntWalk.i64_in _ (by omega)
    obtain ⟨g0, g1, g2, g3, g4, g5, g6, g7, g8, g9⟩ := hkk
    go_region_held3 (fun w' => (w'.cell? ⟨p, 0, none⟩ = some (.pointer (some ⟨ps, 0, none⟩)) ∧ w'.cell? ⟨Q0, 0, none⟩ = some (.int .i64 po) ∧ w'.cell? ⟨Q0, 1, none⟩ = some (.int .u64 ma) ∧ w'.cell? ⟨Q0, 2, none⟩ = some (.int .i64 ow) ∧ w'.cell? ⟨Q0, 3, none⟩ = some (.int .i64 ta) ∧ w'.cell? ⟨Q0, 4, none⟩ = some (.int .i64 ol) ∧ w'.cell? ⟨Q0, 5, none⟩ = some (.int .i64 ge) ∧ w'.cell? ⟨Q0, 6, none⟩ = some (.int .i64 ph) ∧ w'.cell? ⟨Q0, 7, none⟩ = some (.int .i64 ve) ∧ w'.cell? ⟨Q0, 8, none⟩ = some (.int .i64 si)))
      (first | with_reducible exact HKEEP.out _ HYA.out | with_reducible exact HKEEP.out _ HYC.out | with_reducible exact HYB.out | fail)
      (first
        | (go_at_call 28; (with_reducible refine HAPP.out.mono ?_); rintro e wz ⟨br', rfl, hs, hc⟩; have HCZ := Lib.hid (HYC.out.trans hc (fun _ _ e => e)); have HSZ := Lib.hid hs; have HYB := Lib.hid (HKEEP.out _ HCZ.out); clear hs hc)
        | fail)
    all_goals
      obtain ⟨ha, hb⟩ := app_one17 C R ⟨⟨po, ma, ow, ta, ol, ge, ph, ve, si⟩, ve - 1⟩
      have hsz := HSZ.out
      rw [hb] at hsz
      rw [ha]
      have HS2 := Lib.hid hsz
      replace HB := Lib.hid (HB.out.chg HCZ.out HNE.out.1)
      replace HZ := Lib.hid (HZ.out.chg HCZ.out HNE.out.2.1)
      have HP := Lib.hid (HM.out.blk.chg HCZ.out HM.out.ne.1)
      have HX2 : Hid (Chg (Mv20 p ps bc) w wz) := Lib.hid (HX.out.widen17 HCZ.out (fun k hk => .inr (.inl hk)))
      have HBP := Lib.hid HM.out.bp
      clear ha hb hsz HSZ HAPP HYA HYC HYB HKEEP HCZ HM HX g0 g1 g2 g3 g4 g5 g6 g7 g8 g9
      by_cases hz : wrongP C R ⟨⟨po, ma, ow, ta, ol, ge, ph, ve, si⟩, ve - 1⟩ = 0
      · have HD : Hid (doR C R ⟨⟨po, ma, ow, ta, ol, ge, ph, ve, si⟩, ve - 1⟩ = putR R ⟨po, ma, ow, ta, ol, ge, ph, ve, si⟩) := Lib.hid (if_pos hz)
        have HT := Lib.hid (HT0.out.trans (if_pos hz))
        rw [HD.out] at HS2
        rw [hz]
        clear hz HD HT0
        obtain ⟨y0, y1, y2, y3, y4, y5, y6, y7, y8⟩ := rv_cells HB.out
        obtain ⟨x0, x1, x2, x3, x4, x5, x6, x7, x8⟩ := rv_cells HZ.out
        obtain ⟨u0, u1, u2, u3, u4, u5, u6, u7, u8⟩ := rv_free9 HZ.out
        obtain ⟨r0, r1, r2, r3, r4, r5, r6, r7, r8, -, hcs⟩ := rv_put9 HZ.out po ma ow ta ol ge ph ve si
        have RR := Lib.hid (And.intro r0 (And.intro r1 (And.intro r2 (And.intro r3 (And.intro r4 (And.intro r5 (And.intro r6 (And.intro r7 r8))))))))
        have HCS := Lib.hid hcs
        have HBR := Lib.hid (HS2.out.apart HZ.out (by decide)).2.2.symm
        have HFM := Lib.hid (fresh_put20 HX2.out hcs HQ.out.2)
        clear r0 r1 r2 r3 r4 r5 r6 r7 r8 hcs
        go_wp2_with fail
        obtain ⟨r0, r1, r2, r3, r4, r5, r6, r7, r8⟩ := RR.out
        refine bodyPost_ret (v := .tuple #[.agg #[.int .i64 po, .int .u64 ma, .int .i64 ow, .int .i64 ta, .int .i64 ol, .int .i64 ge, .int .i64 ph, .int .i64 ve, .int .i64 si], .int .i64 0]) (by simp [results, Tryz.results69, go_sem, r0, r1, r2, r3, r4, r5, r6, r7, r8]) rfl ?_
        exact ⟨br', by rw [HT.out]; first | done | rfl, by rw [HT.out]; exact ⟨HBP.out, HP.out.chg HCS.out HNE.out.2.2.2.1.symm, HS2.out.chg HCS.out HNE.out.2.1.symm HNE.out.2.2.2.2.2.symm HBR.out⟩, HFM.out⟩
      · have HD : Hid (doR C R ⟨⟨po, ma, ow, ta, ol, ge, ph, ve, si⟩, ve - 1⟩ = R) := Lib.hid (if_neg hz)
        have HT := Lib.hid (HT0.out.trans (if_neg hz))
        rw [HD.out] at HS2
        have te : (wrongP C R ⟨⟨po, ma, ow, ta, ol, ge, ph, ve, si⟩, ve - 1⟩ != 0) = true := by simpa using hz
        clear hz HD HT0
        generalize wrongP C R ⟨⟨po, ma, ow, ta, ol, ge, ph, ve, si⟩, ve - 1⟩ = er at *
        obtain ⟨x0, x1, x2, x3, x4, x5, x6, x7, x8⟩ := rv_cells HZ.out
        obtain ⟨u0, u1, u2, u3, u4, u5, u6, u7, u8⟩ := rv_free9 HZ.out
        obtain ⟨r0, r1, r2, r3, r4, r5, r6, r7, r8, -, hcs⟩ := rv_put9 HZ.out 0 0 0 0 0 0 0 0 0
        have RR := Lib.hid (And.intro r0 (And.intro r1 (And.intro r2 (And.intro r3 (And.intro r4 (And.intro r5 (And.intro r6 (And.intro r7 r8))))))))
        have HCS := Lib.hid hcs
        have HBR := Lib.hid (HS2.out.apart HZ.out (by decide)).2.2.symm
        have HFM := Lib.hid (fresh_put20 HX2.out hcs HQ.out.2)
        clear r0 r1 r2 r3 r4 r5 r6 r7 r8 hcs
        go_wp2_with fail
        obtain ⟨r0, r1, r2, r3, r4, r5, r6, r7, r8⟩ := RR.out
        refine bodyPost_ret (v := .tuple #[.agg #[.int .i64 0, .int .u64 0, .int .i64 0, .int .i64 0, .int .i64 0, .int .i64 0, .int .i64 0, .int .i64 0, .int .i64 0], .int .i64 er]) (by simp [results, Tryz.results69, go_sem, r0, r1, r2, r3, r4, r5, r6, r7, r8]) rfl ?_
        exact ⟨br', by rw [HT.out]; first | done | rfl, by rw [HT.out]; exact ⟨HBP.out, HP.out.chg HCS.out HNE.out.2.2.2.1.symm, HS2.out.chg HCS.out HNE.out.2.1.symm HNE.out.2.2.2.2.2.symm HBR.out⟩, HFM.out⟩
  · have HT := Lib.hid (bec_err20 ⟨C, R, sp, no⟩ (p := (⟨po, ma, ow, ta, ol, ge, ph, ve, si⟩, er)) he)
    have te : (er == 0) = false := by simpa using he
    have te2 : (er != 0) = true := by simpa using he
    clear he
    have hc0 := ((Chg.refl (fun _ => False) w).alloc (.cells #[.int .i64 po, .int .u64 ma, .int .i64 ow, .int .i64 ta, .int .i64 ol, .int .i64 ge, .int .i64 ph, .int .i64 ve, .int .i64 si] 40)).alloc (.cells #[.int .i64 0, .int .u64 0, .int .i64 0, .int .i64 0, .int .i64 0, .int .i64 0, .int .i64 0, .int .i64 0, .int .i64 0] 40)
    have HM := Lib.hid (h.keep hc0)
    have HB : Hid (Blk ((w.alloc (.cells #[.int .i64 po, .int .u64 ma, .int .i64 ow, .int .i64 ta, .int .i64 ol, .int .i64 ge, .int .i64 ph, .int .i64 ve, .int .i64 si] 40)).alloc (.cells #[.int .i64 0, .int .u64 0, .int .i64 0, .int .i64 0, .int .i64 0, .int .i64 0, .int .i64 0, .int .i64 0, .int .i64 0] 40)) w.heap.size 40 (rvC po ma ow ta ol ge ph ve si)) := Lib.hid ((blk_new rfl).alloc _)
    have HZ : Hid (Blk ((w.alloc (.cells #[.int .i64 po, .int .u64 ma, .int .i64 ow, .int .i64 ta, .int .i64 ol, .int .i64 ge, .int .i64 ph, .int .i64 ve, .int .i64 si] 40)).alloc (.cells #[.int .i64 0, .int .u64 0, .int .i64 0, .int .i64 0, .int .i64 0, .int .i64 0, .int .i64 0, .int .i64 0, .int .i64 0] 40)) (w.heap.size + 1) 40 (rvC 0 0 0 0 0 0 0 0 0)) := Lib.hid (blk_new (by simp))
    have HX := Lib.hid hc0
    have HLT := Lib.hid h.lt
    clear h hc0 hf
    go_enter Tryz.func69, Tryz.ntmps69
    go_upto_region 3 with fail
    generalize (w.alloc (.cells #[.int .i64 po, .int .u64 ma, .int .i64 ow, .int .i64 ta, .int .i64 ol, .int .i64 ge, .int .i64 ph, .int .i64 ve, .int .i64 si] 40)).alloc (.cells #[.int .i64 0, .int .u64 0, .int .i64 0, .int .i64 0, .int .i64 0, .int .i64 0, .int .i64 0, .int .i64 0, .int .i64 0] 40) = w1 at *
    generalize hq1 : w.heap.size + 1 = Q1 at HZ ⊢
    generalize hq0 : w.heap.size = Q0 at HB HLT hq1 ⊢
    have HQ : Hid (w.heap.size ≤ Q0 ∧ w.heap.size ≤ Q1) := Lib.hid (by omega)
    have HNE : Hid (Q0 ≠ ps ∧ Q1 ≠ ps ∧ Q0 ≠ p ∧ Q1 ≠ p ∧ Q0 ≠ bc ∧ Q1 ≠ bc) := Lib.hid (by have h1 := HLT.out; omega)
    clear hq1 hq0 HLT
    have HP := Lib.hid HM.out.blk
    have HS2 := Lib.hid HM.out.cs
    have HBP := Lib.hid HM.out.bp
    have HX2 : Hid (Chg (Mv20 p ps bc) w w1) := Lib.hid (HX.out.mono (fun _ _ h => h.elim))
    clear HM HX
    obtain ⟨x0, x1, x2, x3, x4, x5, x6, x7, x8⟩ := rv_cells HZ.out
    obtain ⟨u0, u1, u2, u3, u4, u5, u6, u7, u8⟩ := rv_free9 HZ.out
    obtain ⟨r0, r1, r2, r3, r4, r5, r6, r7, r8, -, hcs⟩ := rv_put9 HZ.out 0 0 0 0 0 0 0 0 0
    have RR := Lib.hid (And.intro r0 (And.intro r1 (And.intro r2 (And.intro r3 (And.intro r4 (And.intro r5 (And.intro r6 (And.intro r7 r8))))))))
    have HCS := Lib.hid hcs
    have HBR := Lib.hid (HS2.out.apart HZ.out (by decide)).2.2.symm
    have HFM := Lib.hid (fresh_put20 HX2.out hcs HQ.out.2)
    clear r0 r1 r2 r3 r4 r5 r6 r7 r8 hcs
    go_wp2_with fail
    obtain ⟨r0, r1, r2, r3, r4, r5, r6, r7, r8⟩ := RR.out
    refine bodyPost_ret (v := .tuple #[.agg #[.int .i64 0, .int .u64 0, .int .i64 0, .int .i64 0, .int .i64 0, .int .i64 0, .int .i64 0, .int .i64 0, .int .i64 0], .int .i64 er]) (by simp [results, Tryz.results69, go_sem, r0, r1, r2, r3, r4, r5, r6, r7, r8]) rfl ?_
    exact ⟨br, by rw [HT.out]; first | done | rfl, by rw [HT.out]; exact ⟨HBP.out, HP.out.chg HCS.out HNE.out.2.2.2.1.symm, HS2.out.chg HCS.out HNE.out.2.1.symm HNE.out.2.2.2.2.2.symm HBR.out⟩, HFM.out⟩

end Go.Proofs.YtimgnogacanifaaGreat
