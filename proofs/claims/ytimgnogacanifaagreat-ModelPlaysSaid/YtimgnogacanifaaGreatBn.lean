/-
  Walks: rutterref20.Begin, Do, Tick, Awake, Clone. Conditions: the document's model lies in memory, and holds what always holds.
-/
import Derived.Test.YtimgnogacanifaaGreatBm
import Derived.Test.YtimgnogacanifaaGreatPq
namespace Go.Proofs.YtimgnogacanifaaGreat
open Go.RowKit
set_option linter.unusedVariables false
set_option linter.unusedSimpArgs false

/-- The document's model behind pointer q: its store is block qs; both lie from block B on. -/
structure DM20 (B : Nat) (w : World) (q qs : Nat) (C : Int → Bool) (R : Int → Option RV) (sp no : Int) : Prop where
  bq : B ≤ q
  bs : B ≤ qs
  blk : Blk w q 61 #[.pointer (some ⟨qs, 0, none⟩), .int .i64 sp, .int .i64 no]
  ds : DS w qs C R
section
variable {B : Nat} {w w' : World} {q qs : Nat} {C : Int → Bool} {R : Int → Option RV} {sp no : Int}
theorem DM20.chg {S : Nat → Prop} (h : DM20 B w q qs C R sp no) (hc : Chg S w w') (h0 : ¬ S q) (h1 : ¬ S qs) : DM20 B w' q qs C R sp no := ⟨h.bq, h.bs, h.blk.chg hc h0, Blk.chg h.ds hc h1⟩
theorem DM20.keep (h : DM20 B w q qs C R sp no) (hc : Chg (fun _ => False) w w') : DM20 B w' q qs C R sp no := h.chg hc id id
theorem DM20.cells (h : DM20 B w q qs C R sp no) : w.cell? ⟨q, 0, none⟩ = some (.pointer (some ⟨qs, 0, none⟩)) ∧ w.cell? ⟨q, 1, none⟩ = some (.int .i64 sp) ∧ w.cell? ⟨q, 2, none⟩ = some (.int .i64 no) := ⟨h.blk.cell 0, h.blk.cell 1, h.blk.cell 2⟩
theorem DM20.ne (h : DM20 B w q qs C R sp no) : q ≠ qs := h.ds.apart h.blk (by decide)
theorem DM20.lt (h : DM20 B w q qs C R sp no) : q < w.heap.size ∧ qs < w.heap.size := ⟨h.blk.lt, Blk.lt h.ds⟩
end
/-- What a call on the document's model leaves. -/
def DocM20 (B q qs : Nat) (v : Value) (x : MV20) (w : World) (e : Ending) (w' : World) : Prop :=
  ∃ qs', e = .returned v ∧ DM20 B w' q qs' x.C x.R x.sp x.no ∧ Chg (fun k => k = q ∨ k = qs) w w' ∧ (qs' = qs ∨ w.heap.size ≤ qs')
/-- A box, and a value, behind a call on the document's store that hands back both. -/
def BY20 (cs : Array Value) (v : Value) (qn : Nat) (C : Int → Bool) (R : Int → Option RV) (w2 : World) (s7 s8 : Value) (wx : World) : Prop :=
  ∃ Q, s7 = .pointer (some ⟨Q, 0, none⟩) ∧ s8 = v ∧ Blk wx Q 40 cs ∧ DS wx qn C R ∧ Chg (fun k => k = qn) w2 wx ∧ w2.heap.size ≤ Q
theorem do_sp20 (x : MV20) (op po c ma : Int) : (doM20 x op po c ma).2.2.sp = x.sp ∧ (doM20 x op po c ma).2.2.no = x.no := by
  unfold doM20
  repeat' (first | exact ⟨rfl, rfl⟩ | exact ⟨(bec_no20 x _).2, (bec_no20 x _).1⟩ | split)
theorem aw_gone20 {x : RV} (h : x.ph = 3) (b v n : Int) : (aw9 x b v n).2 ≠ 0 := by
  unfold aw9 fin9
  split
  · rw [show awA x b v = (x, 8) from if_neg (by omega)]
    rw [if_neg (show ¬ (8 : Int) = 0 by decide)]
    exact (by decide : (8 : Int) ≠ 0)
  · exact (by decide : (1 : Int) ≠ 0)
set_option maxRecDepth 100000 in
set_option maxHeartbeats 2000000 in
theorem begin20_any (span : Int) (w : World) : Calls Tryz.prog 6 #[.int .i64 span] w fun e w' => ∃ q qs, e = .returned (.pointer (some ⟨q, 0, none⟩)) ∧ DM20 w.heap.size w' q qs (fun _ => false) (fun _ => none) span 0 ∧ Chg (fun _ => False) w w' := by
  go_enter Tryz.func6, Tryz.ntmps6
  go_wp2_with (refine wpList_build0 rfl 59 rfl _ built0 ?_)
  have HD : DS (w.alloc (.cells (dsB (fun _ => false) ++ dsR (fun _ => none)).toArray 59)) w.heap.size (fun _ => false) (fun _ => none) := DS.new w
  replace HD := Lib.hid HD
  have HX := Lib.hid ((Chg.refl (fun _ => False) w).alloc (.cells (dsB (fun _ => false) ++ dsR (fun _ => none)).toArray 59))
  have hs1 : (w.alloc (.cells (dsB (fun _ => false) ++ dsR (fun _ => none)).toArray 59)).heap.size = w.heap.size + 1 := by simp
  generalize w.alloc (.cells (dsB (fun _ => false) ++ dsR (fun _ => none)).toArray 59) = w1 at *
  have HS1 := Lib.hid hs1
  clear hs1
  have HQ := Lib.hid (Nat.le_refl w.heap.size)
  have HSZ := Lib.hid HX.out.size
  generalize w.heap.size = Q0 at *
  go_wp2_with fail
  go_ret
  exact ⟨_, _, rfl, ⟨by omega, HQ.out, blk_new HS1.out.symm, HD.out.keep ((Chg.refl (fun _ => False) w1).alloc _)⟩, HX.out.alloc _⟩
set_option maxRecDepth 100000 in
set_option maxHeartbeats 2000000 in
theorem rmdo20_any {B : Nat} {w : World} {q qs : Nat} {C : Int → Bool} {R : Int → Option RV} {sp no : Int} (h : DM20 B w q qs C R sp no) (hw : WF C R) (op po ch ma : Int) : Calls Tryz.prog 10 #[.pointer (some ⟨q, 0, none⟩), .agg #[.int .i64 op, .int .i64 po, .int .i64 ch, .int .u64 ma]] w (DocM20 B q qs (.tuple #[.agg (doM20 ⟨C, R, sp, no⟩ op po ch ma).1.cs, .int .i64 (doM20 ⟨C, R, sp, no⟩ op po ch ma).2.1]) (doM20 ⟨C, R, sp, no⟩ op po ch ma).2.2 w) := by
  have HBW := Lib.hid (show B ≤ w.heap.size by have h1 := h.bq; have h2 := h.lt; omega)
  have HLT := Lib.hid h.lt
  have hc0 := ((Chg.refl (fun _ => False) w).alloc (.cells #[.int .i64 op, .int .i64 po, .int .i64 ch, .int .u64 ma] 33)).alloc (.cells #[.int .i64 0, .int .u64 0, .int .i64 0, .int .i64 0, .int .i64 0, .int .i64 0, .int .i64 0, .int .i64 0, .int .i64 0] 40)
  have HD := Lib.hid (h.keep hc0)
  have HW := Lib.hid hw
  have HB : Hid (Blk ((w.alloc (.cells #[.int .i64 op, .int .i64 po, .int .i64 ch, .int .u64 ma] 33)).alloc (.cells #[.int .i64 0, .int .u64 0, .int .i64 0, .int .i64 0, .int .i64 0, .int .i64 0, .int .i64 0, .int .i64 0, .int .i64 0] 40)) w.heap.size 33 #[.int .i64 op, .int .i64 po, .int .i64 ch, .int .u64 ma]) := Lib.hid ((blk_new rfl).alloc _)
  have HZ : Hid (Blk ((w.alloc (.cells #[.int .i64 op, .int .i64 po, .int .i64 ch, .int .u64 ma] 33)).alloc (.cells #[.int .i64 0, .int .u64 0, .int .i64 0, .int .i64 0, .int .i64 0, .int .i64 0, .int .i64 0, .int .i64 0, .int .i64 0] 40)) (w.heap.size + 1) 40 (rvC 0 0 0 0 0 0 0 0 0)) := Lib.hid (blk_new (by simp))
  have HX := Lib.hid hc0
  clear h hw hc0
  go_enter Tryz.func10, Tryz.ntmps10
  go_upto_region 1 with fail
  have HSW := Lib.hid (show ((w.alloc (.cells #[.int .i64 op, .int .i64 po, .int .i64 ch, .int .u64 ma] 33)).alloc (.cells #[.int .i64 0, .int .u64 0, .int .i64 0, .int .i64 0, .int .i64 0, .int .i64 0, .int .i64 0, .int .i64 0, .int .i64 0] 40)).heap.size = w.heap.size + 2 by simp)
  generalize (w.alloc (.cells #[.int .i64 op, .int .i64 po, .int .i64 ch, .int .u64 ma] 33)).alloc (.cells #[.int .i64 0, .int .u64 0, .int .i64 0, .int .i64 0, .int .i64 0, .int .i64 0, .int .i64 0, .int .i64 0, .int .i64 0] 40) = w1 at *
  generalize hq1 : w.heap.size + 1 = Q1 at HZ ⊢
  have HQ : Hid (w.heap.size ≤ Q1) := Lib.hid (by omega)
  have HNQ : Hid (¬ q = Q1 ∧ ¬ qs = Q1) := Lib.hid (by have := HLT.out; omega)
  have HQL : Hid (w.heap.size < w1.heap.size ∧ Q1 < w1.heap.size) := Lib.hid (by have := HSW.out; omega)
  clear hq1
  generalize hq0 : w.heap.size = Q0 at HB ⊢
  have HQ0 : Hid (q ≠ Q0 ∧ qs ≠ Q0 ∧ Q0 < w1.heap.size) := Lib.hid (by have := HLT.out; have := HQL.out; omega)
  clear hq0
  obtain ⟨d0, -, -⟩ := HD.out.cells
  have HCP := Lib.hid (copy17_any HD.out.ds)
  go_wp2_with fail
  refine HCP.out.mono ?_
  rintro e w2 ⟨rfl, hs, hc⟩
  have HN := Lib.hid hs
  have HN0 := Lib.hid (show w1.heap.size < w2.heap.size from Blk.lt hs)
  replace HX := Lib.hid (HX.out.trans hc (fun _ _ e => e))
  replace HB := Lib.hid (HB.out.chg hc id)
  replace HZ := Lib.hid (HZ.out.chg hc id)
  replace HD := Lib.hid (HD.out.keep hc)
  clear hc hs HCP d0
  generalize hqn : w1.heap.size = qn at *
  have HQN : Hid (¬ q = qn ∧ ¬ qs = qn ∧ ¬ Q0 = qn ∧ ¬ Q1 = qn ∧ B ≤ qn ∧ w.heap.size ≤ qn) := Lib.hid (by have := HLT.out; have := HQL.out; have := HQ0.out; have := HBW.out; omega)
  clear hqn
  obtain ⟨b0, b1, b2, b3, b4, b5, b6, b7, b8, be, C2, R2, sp2, no2, hbp⟩ := num9b (doM20 ⟨C, R, sp, no⟩ op po ch ma)
  have hsn := do_sp20 ⟨C, R, sp, no⟩ op po ch ma
  have her := fun hh => do_err20 (x := ⟨C, R, sp, no⟩) (op := op) (po := po) (c := ch) (ma := ma) hh
  have hcl := fun (W : World) (hW : DS W qn C R) => rdo17_any hW HW.out sp no op po ch ma
  rw [hbp] at hsn hcl her
  obtain ⟨hsp, hno⟩ := hsn
  change sp2 = sp at hsp
  change no2 = no at hno
  subst hsp
  subst hno
  have HBP := Lib.hid hbp
  have HER : Hid (be ≠ 0 → C2 = C ∧ R2 = R) := Lib.hid (fun hh => by have h1 := her hh; injection h1 with h1 h2; exact ⟨h1, h2⟩)
  have HCL : Hid (∀ W, DS W qn C R → Calls _ _ _ W (fun e w' => e = .returned (.tuple #[.agg #[.int .i64 b0, .int .u64 b1, .int .i64 b2, .int .i64 b3, .int .i64 b4, .int .i64 b5, .int .i64 b6, .int .i64 b7, .int .i64 b8], .int .i64 be]) ∧ DS w' qn C2 R2 ∧ Chg (fun k => k = qn) W w')) := Lib.hid hcl
  clear hcl hbp her
  have HKEEP : Hid (∀ W : World, Chg (fun k => k = qn) w2 W → ((W.cell? ⟨Q0, 0, none⟩ = some (.int .i64 op) ∧ W.cell? ⟨Q0, 1, none⟩ = some (.int .i64 po) ∧ W.cell? ⟨Q0, 2, none⟩ = some (.int .i64 ch) ∧ W.cell? ⟨Q0, 3, none⟩ = some (.int .u64 ma) ∧ W.cell? ⟨q, 2, none⟩ = some (.int .i64 no2)))) := Lib.hid (fun W hw => by
    obtain ⟨k0, k1, k2, k3⟩ := cl_cells17 (HB.out.chg hw HQN.out.2.2.1)
    exact ⟨k0, k1, k2, k3, (HD.out.blk.chg hw HQN.out.1).cell 2⟩)
  have HXA := Lib.hid (Chg.refl (fun k => k = qn) w2).drew
  have HXA2 := Lib.hid (((Chg.refl (fun k => k = qn) w2).alloc (.cells #[.int .i64 0, .int .u64 0, .int .i64 0, .int .i64 0, .int .i64 0, .int .i64 0, .int .i64 0, .int .i64 0, .int .i64 0] 40)).drew)
  have HNA : Hid (Blk (w2.alloc (.cells #[.int .i64 0, .int .u64 0, .int .i64 0, .int .i64 0, .int .i64 0, .int .i64 0, .int .i64 0, .int .i64 0, .int .i64 0] 40)).drew w2.heap.size 40 (rvC 0 0 0 0 0 0 0 0 0)) := Lib.hid (blk_new rfl).drew
  have HNN : Hid (¬ w2.heap.size = qn) := Lib.hid (by have := HN0.out; omega)
  go_upto_region 2 with fail
  go_cut [7, 8] (fun s7 s8 wx => BY20 #[.int .i64 b0, .int .u64 b1, .int .i64 b2, .int .i64 b3, .int .i64 b4, .int .i64 b5, .int .i64 b6, .int .i64 b7, .int .i64 b8] (.int .i64 be) qn C2 R2 w2 s7 s8 wx)
  case first =>
    have hkk := HKEEP.out _ HXA.out
    obtain ⟨g0, g1, g2, g3, g4⟩ := hkk
    go_region_held3 (fun w' => (w'.cell? ⟨Q0, 0, none⟩ = some (.int .i64 op) ∧ w'.cell? ⟨Q0, 1, none⟩ = some (.int .i64 po) ∧ w'.cell? ⟨Q0, 2, none⟩ = some (.int .i64 ch) ∧ w'.cell? ⟨Q0, 3, none⟩ = some (.int .u64 ma) ∧ w'.cell? ⟨q, 2, none⟩ = some (.int .i64 no2)))
      (first | with_reducible exact HKEEP.out _ HXA.out | with_reducible exact HKEEP.out _ HXA2.out | with_reducible exact HKEEP.out _ HXB.out | with_reducible exact HKEEP.out _ (HXB.out.alloc _) | with_reducible exact HKEEP.out _ HXC.out | with_reducible exact HKEEP.out _ HXD.out | fail)
      (first
        | (go_at_call 23; (with_reducible refine (HCL.out w2.drew HN.out.drew).mono ?_); rintro e wz ⟨rfl, hs, hc⟩; have HXB := Lib.hid (HXA.out.trans hc (fun _ _ e => e)); have HSB := Lib.hid hs; clear hc hs)
        | (go_at_call 23; (with_reducible refine (HCL.out (w2.alloc (.cells #[.int .i64 0, .int .u64 0, .int .i64 0, .int .i64 0, .int .i64 0, .int .i64 0, .int .i64 0, .int .i64 0, .int .i64 0] 40)).drew (HN.out.keep ((Chg.refl (fun _ => False) w2).alloc (.cells #[.int .i64 0, .int .u64 0, .int .i64 0, .int .i64 0, .int .i64 0, .int .i64 0, .int .i64 0, .int .i64 0, .int .i64 0] 40))).drew).mono ?_); rintro e wz ⟨rfl, hs, hc⟩; have HXC := Lib.hid (HXA2.out.trans hc (fun _ _ e => e)); have HNC := Lib.hid (HNA.out.chg hc HNN.out); have HSC := Lib.hid hs; obtain ⟨x0, x1, x2, x3, x4, x5, x6, x7, x8⟩ := rv_cells HNC.out; obtain ⟨u0, u1, u2, u3, u4, u5, u6, u7, u8⟩ := rv_free9 HNC.out; obtain ⟨-, -, -, -, -, -, -, -, -, hcs⟩ := rv_put17 HNC.out rfl b0 b1 b2 b3 b4 b5 b6 b7 b8; have hset := rv_set17 HNC.out b0 b1 b2 b3 b4 b5 b6 b7 b8; have HXD := Lib.hid (fresh_put20 HXC.out hcs (Nat.le_refl _)); have HWB : Hid (BY20 #[.int .i64 b0, .int .u64 b1, .int .i64 b2, .int .i64 b3, .int .i64 b4, .int .i64 b5, .int .i64 b6, .int .i64 b7, .int .i64 b8] (.int .i64 be) qn C2 R2 w2 (.pointer (some ⟨w2.heap.size, 0, none⟩)) (.int .i64 be) (((((((((wz.setCell ⟨w2.heap.size, 0, none⟩ (.int .i64 b0)).setCell ⟨w2.heap.size, 1, none⟩ (.int .u64 b1)).setCell ⟨w2.heap.size, 2, none⟩ (.int .i64 b2)).setCell ⟨w2.heap.size, 3, none⟩ (.int .i64 b3)).setCell ⟨w2.heap.size, 4, none⟩ (.int .i64 b4)).setCell ⟨w2.heap.size, 5, none⟩ (.int .i64 b5)).setCell ⟨w2.heap.size, 6, none⟩ (.int .i64 b6)).setCell ⟨w2.heap.size, 7, none⟩ (.int .i64 b7)).setCell ⟨w2.heap.size, 8, none⟩ (.int .i64 b8))) := Lib.hid ⟨_, rfl, rfl, hset, Blk.chg hs hcs (fun e => HNN.out e.symm), HXD.out, Nat.le_refl _⟩; clear hset hcs hc hs)
        | fail)
    all_goals
      go_wp2_with fail
      go_meet
      first
        | exact HWB.out
        | exact ⟨wz.heap.size, rfl, rfl, blk_new rfl, HSB.out.keep ((Chg.refl (fun _ => False) wz).alloc _), HXB.out.alloc _, HXB.out.size⟩
  case rest =>
    obtain ⟨QB, rfl, rfl, hbx, hdx, hcx, hqx⟩ := hcut
    have HBX := Lib.hid hbx
    have HNX := Lib.hid hdx
    have HQX := Lib.hid hqx
    have HFX := Lib.hid (fresh_put20 HX.out hcx HQN.out.2.2.2.2.2)
    replace HD := Lib.hid (HD.out.chg hcx HQN.out.1 HQN.out.2.1)
    replace HZ := Lib.hid (HZ.out.chg hcx HQN.out.2.2.2.1)
    have HQB : Hid (q ≠ QB ∧ Q1 ≠ QB ∧ qn ≠ QB) := Lib.hid (by have h1 := HN0.out; have h2 := HQX.out; have h3 := HQL.out; have h4 := HLT.out; have h5 := HQN.out; omega)
    clear hbx hdx hcx hqx HKEEP HXA HXA2 HNA HN HX HCL
    by_cases he : be = 0
    · subst he
      have f0 := HD.out.blk.frozen 0
      obtain ⟨d0, -, -⟩ := HD.out.cells
      have hcs := (Chg.refl (fun k => k = q) wc).put q 0 (fun _ => rfl) (.pointer (some ⟨qn, 0, none⟩))
      have hset := HD.out.blk.set 0 (.pointer (some ⟨qn, 0, none⟩))
      simp only [List.setIfInBounds_toArray, List.set_cons_zero, List.set_cons_succ] at hset
      have HD2 : Hid (DM20 B _ q qn C2 R2 sp2 no2) := Lib.hid ⟨HD.out.bq, HQN.out.2.2.2.2.1, hset, Blk.chg HNX.out hcs (fun e => HQN.out.1 e.symm)⟩
      replace HZ := Lib.hid (HZ.out.chg hcs (fun e => HNQ.out.1 e.symm))
      replace HBX := Lib.hid (HBX.out.chg hcs (fun e => HQB.out.1 e.symm))
      have HX2 : Hid (Chg (fun k => k = q ∨ k = qs) w _) := Lib.hid (HFX.out.widen17 hcs (fun k hk => .inl hk))
      clear hcs hset HD HNX
      go_upto_region 5 with fail
      clear d0 f0
      generalize wc.setCell ⟨q, 0, none⟩ (.pointer (some ⟨qn, 0, none⟩)) = wd at *
      obtain ⟨y0, y1, y2, y3, y4, y5, y6, y7, y8⟩ := rv_cells (show Blk wd QB 40 (rvC b0 b1 b2 b3 b4 b5 b6 b7 b8) from HBX.out)
      obtain ⟨x0, x1, x2, x3, x4, x5, x6, x7, x8⟩ := rv_cells HZ.out
      obtain ⟨u0, u1, u2, u3, u4, u5, u6, u7, u8⟩ := rv_free9 HZ.out
      obtain ⟨r0, r1, r2, r3, r4, r5, r6, r7, r8, -, hcs⟩ := rv_put9 HZ.out b0 b1 b2 b3 b4 b5 b6 b7 b8
      have RR := Lib.hid (And.intro r0 (And.intro r1 (And.intro r2 (And.intro r3 (And.intro r4 (And.intro r5 (And.intro r6 (And.intro r7 r8))))))))
      have HDF := Lib.hid (HD2.out.chg hcs HNQ.out.1 (fun e => HQN.out.2.2.2.1 e.symm))
      have HFM := Lib.hid (fresh_put20 HX2.out hcs HQ.out)
      clear r0 r1 r2 r3 r4 r5 r6 r7 r8 hcs
      go_wp2_with fail
      obtain ⟨r0, r1, r2, r3, r4, r5, r6, r7, r8⟩ := RR.out
      refine bodyPost_ret (v := .tuple #[.agg #[.int .i64 b0, .int .u64 b1, .int .i64 b2, .int .i64 b3, .int .i64 b4, .int .i64 b5, .int .i64 b6, .int .i64 b7, .int .i64 b8], .int .i64 0]) (by simp [results, Tryz.results10, go_sem, r0, r1, r2, r3, r4, r5, r6, r7, r8]) rfl ?_
      exact ⟨_, by rw [HBP.out]; first | done | rfl, by rw [HBP.out]; exact HDF.out, HFM.out, .inr HQN.out.2.2.2.2.2⟩
    · have te : (be == 0) = false := by simpa using he
      obtain ⟨rfl, rfl⟩ := HER.out he
      clear he HER
      have HX2 : Hid (Chg (fun k => k = q ∨ k = qs) w wc) := Lib.hid (HFX.out.mono (fun _ _ h => h.elim))
      obtain ⟨y0, y1, y2, y3, y4, y5, y6, y7, y8⟩ := rv_cells (show Blk wc QB 40 (rvC b0 b1 b2 b3 b4 b5 b6 b7 b8) from HBX.out)
      obtain ⟨x0, x1, x2, x3, x4, x5, x6, x7, x8⟩ := rv_cells HZ.out
      obtain ⟨u0, u1, u2, u3, u4, u5, u6, u7, u8⟩ := rv_free9 HZ.out
      obtain ⟨r0, r1, r2, r3, r4, r5, r6, r7, r8, -, hcs⟩ := rv_put9 HZ.out b0 b1 b2 b3 b4 b5 b6 b7 b8
      have RR := Lib.hid (And.intro r0 (And.intro r1 (And.intro r2 (And.intro r3 (And.intro r4 (And.intro r5 (And.intro r6 (And.intro r7 r8))))))))
      have HDF := Lib.hid (HD.out.chg hcs HNQ.out.1 HNQ.out.2)
      have HFM := Lib.hid (fresh_put20 HX2.out hcs HQ.out)
      clear r0 r1 r2 r3 r4 r5 r6 r7 r8 hcs
      go_wp2_with fail
      obtain ⟨r0, r1, r2, r3, r4, r5, r6, r7, r8⟩ := RR.out
      refine bodyPost_ret (v := .tuple #[.agg #[.int .i64 b0, .int .u64 b1, .int .i64 b2, .int .i64 b3, .int .i64 b4, .int .i64 b5, .int .i64 b6, .int .i64 b7, .int .i64 b8], .int .i64 be]) (by simp [results, Tryz.results10, go_sem, r0, r1, r2, r3, r4, r5, r6, r7, r8]) rfl ?_
      exact ⟨_, by rw [HBP.out]; first | done | rfl, by rw [HBP.out]; exact HDF.out, HFM.out, .inl rfl⟩

end Go.Proofs.YtimgnogacanifaaGreat
