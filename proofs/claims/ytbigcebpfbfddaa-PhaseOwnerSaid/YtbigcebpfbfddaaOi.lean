/-
  Walks: phase.Start, Awake. No condition.
-/
import Derived.Test.YtbigcebpfbfddaaOh
import Derived.Test.YtbigcebpfbfddaaOg
import Derived.Deep.RegionHeld3
namespace Go.Proofs.Ytbigcebpfbfddaa
open Go.RowKit
set_option linter.unusedVariables false

set_option maxHeartbeats 4000000 in
theorem psta_any (po ma ow ta ol ge ph ve si tg now : Int) (w : World) : Calls Try.prog 12 #[.agg #[.int .i64 po, .int .u64 ma, .int .i64 ow, .int .i64 ta, .int .i64 ol, .int .i64 ge, .int .i64 ph, .int .i64 ve, .int .i64 si], .int .i64 tg, .int .i64 now] w (HR (st9 ⟨po, ma, ow, ta, ol, ge, ph, ve, si⟩ tg now) w) := by
  obtain ⟨y0, y1, y2, y3, y4, y5, y6, y7, y8, er, hy⟩ := num9 (r := stA9 ⟨po, ma, ow, ta, ol, ge, ph, ve, si⟩ tg)
  obtain ⟨z0, z1, z2, z3, z4, z5, z6, z7, z8, ze, hz⟩ := num9 (r := st9 ⟨po, ma, ow, ta, ol, ge, ph, ve, si⟩ tg now)
  rw [hz]
  have HQ0 : Blk (((w.alloc (.cells #[.int .i64 po, .int .u64 ma, .int .i64 ow, .int .i64 ta, .int .i64 ol, .int .i64 ge, .int .i64 ph, .int .i64 ve, .int .i64 si] 25)).alloc (.cells #[.int .i64 tg] 3)).alloc (.cells #[.int .i64 0, .int .u64 0, .int .i64 0, .int .i64 0, .int .i64 0, .int .i64 0, .int .i64 0, .int .i64 0, .int .i64 0] 25)) w.heap.size 25 (rvC po ma ow ta ol ge ph ve si) := (Blk.alloc (Blk.alloc (blk_new rfl) _) _)
  replace HQ0 := Lib.hid HQ0
  have HR0 : Blk (((w.alloc (.cells #[.int .i64 po, .int .u64 ma, .int .i64 ow, .int .i64 ta, .int .i64 ol, .int .i64 ge, .int .i64 ph, .int .i64 ve, .int .i64 si] 25)).alloc (.cells #[.int .i64 tg] 3)).alloc (.cells #[.int .i64 0, .int .u64 0, .int .i64 0, .int .i64 0, .int .i64 0, .int .i64 0, .int .i64 0, .int .i64 0, .int .i64 0] 25)) (w.heap.size + 1 + 1) 25 (rvC 0 0 0 0 0 0 0 0 0) := (blk_new (by simp))
  replace HR0 := Lib.hid HR0
  have HT0 : Blk (((w.alloc (.cells #[.int .i64 po, .int .u64 ma, .int .i64 ow, .int .i64 ta, .int .i64 ol, .int .i64 ge, .int .i64 ph, .int .i64 ve, .int .i64 si] 25)).alloc (.cells #[.int .i64 tg] 3)).alloc (.cells #[.int .i64 0, .int .u64 0, .int .i64 0, .int .i64 0, .int .i64 0, .int .i64 0, .int .i64 0, .int .i64 0, .int .i64 0] 25)) (w.heap.size + 1) 3 #[.int .i64 tg] := (Blk.alloc (blk_new (by simp)) _)
  replace HT0 := Lib.hid HT0
  have HX0 := Lib.hid ((((Chg.refl (fun _ => False) w).alloc (.cells #[.int .i64 po, .int .u64 ma, .int .i64 ow, .int .i64 ta, .int .i64 ol, .int .i64 ge, .int .i64 ph, .int .i64 ve, .int .i64 si] 25)).alloc (.cells #[.int .i64 tg] 3)).alloc (.cells #[.int .i64 0, .int .u64 0, .int .i64 0, .int .i64 0, .int .i64 0, .int .i64 0, .int .i64 0, .int .i64 0, .int .i64 0] 25))
  go_enter Try.func12, Try.ntmps12
  go_upto_region 1 with fail
  generalize (((w.alloc (.cells #[.int .i64 po, .int .u64 ma, .int .i64 ow, .int .i64 ta, .int .i64 ol, .int .i64 ge, .int .i64 ph, .int .i64 ve, .int .i64 si] 25)).alloc (.cells #[.int .i64 tg] 3)).alloc (.cells #[.int .i64 0, .int .u64 0, .int .i64 0, .int .i64 0, .int .i64 0, .int .i64 0, .int .i64 0, .int .i64 0, .int .i64 0] 25)) = w1 at *
  have hd := fun (W : World) (hw : Chg (fun _ => False) w1 W) => do_st po ma ow ta ol ge ph ve si now (ch9 tg) y0 y1 y2 y3 y4 y5 y6 y7 y8 er (w.heap.size + 1) W (fun h W' hc => by
    have := st1_any po ma ow ta ol ge ph ve si tg (w.heap.size + 1) W' (HT0.out.chg (hw.trans hc (fun _ _ e => e)) id) (ok_bounds h).2.2.2.1
    rw [hy] at this
    exact this)
  rw [show fin9 ⟨po, ma, ow, ta, ol, ge, ph, ve, si⟩ now (ch9 tg) (⟨y0, y1, y2, y3, y4, y5, y6, y7, y8⟩, er) = st9 ⟨po, ma, ow, ta, ol, ge, ph, ve, si⟩ tg now from by rw [← hy]; rfl] at hd
  clear hy
  rw [hz] at hd
  have HD : Hid (∀ W, Chg (fun _ => False) w1 W → Calls _ _ _ W (HR9 z0 z1 z2 z3 z4 z5 z6 z7 z8 ze W)) := Lib.hid hd
  clear hd hz
  have hch := fun W => pchas_any tg W
  rw [show withinB 0 15 [tg] = ch9 tg from rfl] at hch
  have HKEEP : Hid (∀ W : World, Chg (fun k => k = (w.heap.size + 1 + 1)) w1 W → (W.cell? ⟨w.heap.size, 0, none⟩ = some (.int .i64 po) ∧ W.cell? ⟨w.heap.size, 1, none⟩ = some (.int .u64 ma) ∧ W.cell? ⟨w.heap.size, 2, none⟩ = some (.int .i64 ow) ∧ W.cell? ⟨w.heap.size, 3, none⟩ = some (.int .i64 ta) ∧ W.cell? ⟨w.heap.size, 4, none⟩ = some (.int .i64 ol) ∧ W.cell? ⟨w.heap.size, 5, none⟩ = some (.int .i64 ge) ∧ W.cell? ⟨w.heap.size, 6, none⟩ = some (.int .i64 ph) ∧ W.cell? ⟨w.heap.size, 7, none⟩ = some (.int .i64 ve) ∧ W.cell? ⟨w.heap.size, 8, none⟩ = some (.int .i64 si) ∧ W.cell? ⟨w.heap.size + 1, 0, none⟩ = some (.int .i64 tg))) := Lib.hid (fun W hw => by
    obtain ⟨x0, x1, x2, x3, x4, x5, x6, x7, x8⟩ := rv_cells (HQ0.out.chg hw (by omega))
    have b0 := Blk.cell (HT0.out.chg hw (by omega)) 0
    simp only [List.getElem?_toArray, List.getElem?_cons_zero] at b0
    exact ⟨x0, x1, x2, x3, x4, x5, x6, x7, x8, b0⟩)
  have hmf : ∀ (fn : Fn) (first cap : Array Value) (w : World), (Instr.makeFunc fn first cap).run Try.prog w = .ok (.func fn first cap) w := fun _ _ _ _ => rfl
  have HX := Lib.hid (Chg.refl (fun _ => False) w1).drew
  have HXA := Lib.hid (Chg.refl (fun k => k = (w.heap.size + 1 + 1)) w1).drew
  generalize ch9 tg = cb at *
  have HCH := Lib.hid hch
  clear hch
  go_wp2_with fail
  go_region_held3 (fun w' => w'.cell? ⟨w.heap.size, 0, none⟩ = some (.int .i64 po) ∧ w'.cell? ⟨w.heap.size, 1, none⟩ = some (.int .u64 ma) ∧ w'.cell? ⟨w.heap.size, 2, none⟩ = some (.int .i64 ow) ∧ w'.cell? ⟨w.heap.size, 3, none⟩ = some (.int .i64 ta) ∧ w'.cell? ⟨w.heap.size, 4, none⟩ = some (.int .i64 ol) ∧ w'.cell? ⟨w.heap.size, 5, none⟩ = some (.int .i64 ge) ∧ w'.cell? ⟨w.heap.size, 6, none⟩ = some (.int .i64 ph) ∧ w'.cell? ⟨w.heap.size, 7, none⟩ = some (.int .i64 ve) ∧ w'.cell? ⟨w.heap.size, 8, none⟩ = some (.int .i64 si) ∧ w'.cell? ⟨w.heap.size + 1, 0, none⟩ = some (.int .i64 tg))
    (first | with_reducible exact HKEEP.out _ HXA.out | with_reducible exact HKEEP.out _ HXB.out | with_reducible exact HKEEP.out _ HXC.out | fail)
    (first
      | (go_at_call 30; (with_reducible refine (HCH.out _).mono ?_); rintro e wz ⟨rfl, hwz⟩; subst hwz)
      | (go_at_call 29; (with_reducible refine (HD.out _ HX.out).mono ?_); rintro e wz ⟨rfl, hc⟩; have HX := Lib.hid (HX.out.trans hc (fun _ _ e => e)); have HXB := Lib.hid (HXA.out.trans (hc.mono (S' := fun k => k = (w.heap.size + 1 + 1)) (fun _ _ h => h.elim)) (fun _ _ e => e)); clear hc; replace HX0 := Lib.hid (HX0.out.trans HX.out (fun _ _ e => e)); replace HR0 := Lib.hid (HR0.out.chg HX.out id); obtain ⟨x0, x1, x2, x3, x4, x5, x6, x7, x8⟩ := rv_cells HR0.out; obtain ⟨u0, u1, u2, u3, u4, u5, u6, u7, u8⟩ := rv_free9 HR0.out; obtain ⟨r0, r1, r2, r3, r4, r5, r6, r7, r8, -, hcs⟩ := rv_put9 HR0.out z0 z1 z2 z3 z4 z5 z6 z7 z8; have HXC := Lib.hid (HXB.out.trans hcs (fun _ _ e => e)); have HF := Lib.hid (fresh_set HX0.out hcs (by omega)); have RR := Lib.hid (And.intro r0 (And.intro r1 (And.intro r2 (And.intro r3 (And.intro r4 (And.intro r5 (And.intro r6 (And.intro r7 r8)))))))); clear r0 r1 r2 r3 r4 r5 r6 r7 r8 hcs HR0 HX0)
      | fail)
  all_goals
    go_wp2_with fail
    obtain ⟨r0, r1, r2, r3, r4, r5, r6, r7, r8⟩ := RR.out
    exact bodyPost_ret (v := .tuple #[.agg (rvC z0 z1 z2 z3 z4 z5 z6 z7 z8), .int .i64 ze]) (by simp [results, Try.results12, go_sem, rvC, r0, r1, r2, r3, r4, r5, r6, r7, r8]) rfl ⟨rfl, HF.out⟩

set_option maxHeartbeats 4000000 in
theorem pawa_any (po ma ow ta ol ge ph ve si ch vr now : Int) (w : World) : Calls Try.prog 13 #[.agg #[.int .i64 po, .int .u64 ma, .int .i64 ow, .int .i64 ta, .int .i64 ol, .int .i64 ge, .int .i64 ph, .int .i64 ve, .int .i64 si], .int .i64 ch, .int .i64 vr, .int .i64 now] w (HR (aw9 ⟨po, ma, ow, ta, ol, ge, ph, ve, si⟩ ch vr now) w) := by
  obtain ⟨y0, y1, y2, y3, y4, y5, y6, y7, y8, er, hy⟩ := num9 (r := awA ⟨po, ma, ow, ta, ol, ge, ph, ve, si⟩ ch vr)
  obtain ⟨z0, z1, z2, z3, z4, z5, z6, z7, z8, ze, hz⟩ := num9 (r := aw9 ⟨po, ma, ow, ta, ol, ge, ph, ve, si⟩ ch vr now)
  rw [hz]
  have HQ0 : Blk ((((w.alloc (.cells #[.int .i64 po, .int .u64 ma, .int .i64 ow, .int .i64 ta, .int .i64 ol, .int .i64 ge, .int .i64 ph, .int .i64 ve, .int .i64 si] 25)).alloc (.cells #[.int .i64 ch] 3)).alloc (.cells #[.int .i64 vr] 3)).alloc (.cells #[.int .i64 0, .int .u64 0, .int .i64 0, .int .i64 0, .int .i64 0, .int .i64 0, .int .i64 0, .int .i64 0, .int .i64 0] 25)) w.heap.size 25 (rvC po ma ow ta ol ge ph ve si) := (Blk.alloc (Blk.alloc (Blk.alloc (blk_new rfl) _) _) _)
  replace HQ0 := Lib.hid HQ0
  have HR0 : Blk ((((w.alloc (.cells #[.int .i64 po, .int .u64 ma, .int .i64 ow, .int .i64 ta, .int .i64 ol, .int .i64 ge, .int .i64 ph, .int .i64 ve, .int .i64 si] 25)).alloc (.cells #[.int .i64 ch] 3)).alloc (.cells #[.int .i64 vr] 3)).alloc (.cells #[.int .i64 0, .int .u64 0, .int .i64 0, .int .i64 0, .int .i64 0, .int .i64 0, .int .i64 0, .int .i64 0, .int .i64 0] 25)) (w.heap.size + 1 + 1 + 1) 25 (rvC 0 0 0 0 0 0 0 0 0) := (blk_new (by simp))
  replace HR0 := Lib.hid HR0
  have HC0 : Blk ((((w.alloc (.cells #[.int .i64 po, .int .u64 ma, .int .i64 ow, .int .i64 ta, .int .i64 ol, .int .i64 ge, .int .i64 ph, .int .i64 ve, .int .i64 si] 25)).alloc (.cells #[.int .i64 ch] 3)).alloc (.cells #[.int .i64 vr] 3)).alloc (.cells #[.int .i64 0, .int .u64 0, .int .i64 0, .int .i64 0, .int .i64 0, .int .i64 0, .int .i64 0, .int .i64 0, .int .i64 0] 25)) (w.heap.size + 1) 3 #[.int .i64 ch] := (Blk.alloc (Blk.alloc (blk_new (by simp)) _) _)
  replace HC0 := Lib.hid HC0
  have HV0 : Blk ((((w.alloc (.cells #[.int .i64 po, .int .u64 ma, .int .i64 ow, .int .i64 ta, .int .i64 ol, .int .i64 ge, .int .i64 ph, .int .i64 ve, .int .i64 si] 25)).alloc (.cells #[.int .i64 ch] 3)).alloc (.cells #[.int .i64 vr] 3)).alloc (.cells #[.int .i64 0, .int .u64 0, .int .i64 0, .int .i64 0, .int .i64 0, .int .i64 0, .int .i64 0, .int .i64 0, .int .i64 0] 25)) (w.heap.size + 1 + 1) 3 #[.int .i64 vr] := (Blk.alloc (blk_new (by simp)) _)
  replace HV0 := Lib.hid HV0
  have HX0 := Lib.hid (((((Chg.refl (fun _ => False) w).alloc (.cells #[.int .i64 po, .int .u64 ma, .int .i64 ow, .int .i64 ta, .int .i64 ol, .int .i64 ge, .int .i64 ph, .int .i64 ve, .int .i64 si] 25)).alloc (.cells #[.int .i64 ch] 3)).alloc (.cells #[.int .i64 vr] 3)).alloc (.cells #[.int .i64 0, .int .u64 0, .int .i64 0, .int .i64 0, .int .i64 0, .int .i64 0, .int .i64 0, .int .i64 0, .int .i64 0] 25))
  go_enter Try.func13, Try.ntmps13
  go_upto_region 1 with fail
  generalize ((((w.alloc (.cells #[.int .i64 po, .int .u64 ma, .int .i64 ow, .int .i64 ta, .int .i64 ol, .int .i64 ge, .int .i64 ph, .int .i64 ve, .int .i64 si] 25)).alloc (.cells #[.int .i64 ch] 3)).alloc (.cells #[.int .i64 vr] 3)).alloc (.cells #[.int .i64 0, .int .u64 0, .int .i64 0, .int .i64 0, .int .i64 0, .int .i64 0, .int .i64 0, .int .i64 0, .int .i64 0] 25)) = w1 at *
  have hd := fun (W : World) (hw : Chg (fun _ => False) w1 W) => do_aw po ma ow ta ol ge ph ve si now (ch9 ch) y0 y1 y2 y3 y4 y5 y6 y7 y8 er (w.heap.size + 1 + 1) (w.heap.size + 1) W (fun h W' hc => by
    have := aw1_any po ma ow ta ol ge ph ve si vr ch (w.heap.size + 1 + 1) (w.heap.size + 1) W' (HV0.out.chg (hw.trans hc (fun _ _ e => e)) id) (HC0.out.chg (hw.trans hc (fun _ _ e => e)) id) (ok_bounds h).2.2.2.1
    rw [hy] at this
    exact this)
  rw [show fin9 ⟨po, ma, ow, ta, ol, ge, ph, ve, si⟩ now (ch9 ch) (⟨y0, y1, y2, y3, y4, y5, y6, y7, y8⟩, er) = aw9 ⟨po, ma, ow, ta, ol, ge, ph, ve, si⟩ ch vr now from by rw [← hy]; rfl] at hd
  clear hy
  rw [hz] at hd
  have HD : Hid (∀ W, Chg (fun _ => False) w1 W → Calls _ _ _ W (HR9 z0 z1 z2 z3 z4 z5 z6 z7 z8 ze W)) := Lib.hid hd
  clear hd hz
  have hch := fun W => pchas_any ch W
  rw [show withinB 0 15 [ch] = ch9 ch from rfl] at hch
  have HKEEP : Hid (∀ W : World, Chg (fun k => k = (w.heap.size + 1 + 1 + 1)) w1 W → (W.cell? ⟨w.heap.size, 0, none⟩ = some (.int .i64 po) ∧ W.cell? ⟨w.heap.size, 1, none⟩ = some (.int .u64 ma) ∧ W.cell? ⟨w.heap.size, 2, none⟩ = some (.int .i64 ow) ∧ W.cell? ⟨w.heap.size, 3, none⟩ = some (.int .i64 ta) ∧ W.cell? ⟨w.heap.size, 4, none⟩ = some (.int .i64 ol) ∧ W.cell? ⟨w.heap.size, 5, none⟩ = some (.int .i64 ge) ∧ W.cell? ⟨w.heap.size, 6, none⟩ = some (.int .i64 ph) ∧ W.cell? ⟨w.heap.size, 7, none⟩ = some (.int .i64 ve) ∧ W.cell? ⟨w.heap.size, 8, none⟩ = some (.int .i64 si) ∧ W.cell? ⟨w.heap.size + 1, 0, none⟩ = some (.int .i64 ch) ∧ W.cell? ⟨w.heap.size + 1 + 1, 0, none⟩ = some (.int .i64 vr))) := Lib.hid (fun W hw => by
    obtain ⟨x0, x1, x2, x3, x4, x5, x6, x7, x8⟩ := rv_cells (HQ0.out.chg hw (by omega))
    have b0 := Blk.cell (HC0.out.chg hw (by omega)) 0
    simp only [List.getElem?_toArray, List.getElem?_cons_zero] at b0
    have b1 := Blk.cell (HV0.out.chg hw (by omega)) 0
    simp only [List.getElem?_toArray, List.getElem?_cons_zero] at b1
    exact ⟨x0, x1, x2, x3, x4, x5, x6, x7, x8, b0, b1⟩)
  have hmf : ∀ (fn : Fn) (first cap : Array Value) (w : World), (Instr.makeFunc fn first cap).run Try.prog w = .ok (.func fn first cap) w := fun _ _ _ _ => rfl
  have HX := Lib.hid (Chg.refl (fun _ => False) w1).drew
  have HXA := Lib.hid (Chg.refl (fun k => k = (w.heap.size + 1 + 1 + 1)) w1).drew
  generalize ch9 ch = cb at *
  have HCH := Lib.hid hch
  clear hch
  go_wp2_with fail
  go_region_held3 (fun w' => w'.cell? ⟨w.heap.size, 0, none⟩ = some (.int .i64 po) ∧ w'.cell? ⟨w.heap.size, 1, none⟩ = some (.int .u64 ma) ∧ w'.cell? ⟨w.heap.size, 2, none⟩ = some (.int .i64 ow) ∧ w'.cell? ⟨w.heap.size, 3, none⟩ = some (.int .i64 ta) ∧ w'.cell? ⟨w.heap.size, 4, none⟩ = some (.int .i64 ol) ∧ w'.cell? ⟨w.heap.size, 5, none⟩ = some (.int .i64 ge) ∧ w'.cell? ⟨w.heap.size, 6, none⟩ = some (.int .i64 ph) ∧ w'.cell? ⟨w.heap.size, 7, none⟩ = some (.int .i64 ve) ∧ w'.cell? ⟨w.heap.size, 8, none⟩ = some (.int .i64 si) ∧ w'.cell? ⟨w.heap.size + 1, 0, none⟩ = some (.int .i64 ch) ∧ w'.cell? ⟨w.heap.size + 1 + 1, 0, none⟩ = some (.int .i64 vr))
    (first | with_reducible exact HKEEP.out _ HXA.out | with_reducible exact HKEEP.out _ HXB.out | with_reducible exact HKEEP.out _ HXC.out | fail)
    (first
      | (go_at_call 30; (with_reducible refine (HCH.out _).mono ?_); rintro e wz ⟨rfl, hwz⟩; subst hwz)
      | (go_at_call 29; (with_reducible refine (HD.out _ HX.out).mono ?_); rintro e wz ⟨rfl, hc⟩; have HX := Lib.hid (HX.out.trans hc (fun _ _ e => e)); have HXB := Lib.hid (HXA.out.trans (hc.mono (S' := fun k => k = (w.heap.size + 1 + 1 + 1)) (fun _ _ h => h.elim)) (fun _ _ e => e)); clear hc; replace HX0 := Lib.hid (HX0.out.trans HX.out (fun _ _ e => e)); replace HR0 := Lib.hid (HR0.out.chg HX.out id); obtain ⟨x0, x1, x2, x3, x4, x5, x6, x7, x8⟩ := rv_cells HR0.out; obtain ⟨u0, u1, u2, u3, u4, u5, u6, u7, u8⟩ := rv_free9 HR0.out; obtain ⟨r0, r1, r2, r3, r4, r5, r6, r7, r8, -, hcs⟩ := rv_put9 HR0.out z0 z1 z2 z3 z4 z5 z6 z7 z8; have HXC := Lib.hid (HXB.out.trans hcs (fun _ _ e => e)); have HF := Lib.hid (fresh_set HX0.out hcs (by omega)); have RR := Lib.hid (And.intro r0 (And.intro r1 (And.intro r2 (And.intro r3 (And.intro r4 (And.intro r5 (And.intro r6 (And.intro r7 r8)))))))); clear r0 r1 r2 r3 r4 r5 r6 r7 r8 hcs HR0 HX0)
      | fail)
  all_goals
    go_wp2_with fail
    obtain ⟨r0, r1, r2, r3, r4, r5, r6, r7, r8⟩ := RR.out
    exact bodyPost_ret (v := .tuple #[.agg (rvC z0 z1 z2 z3 z4 z5 z6 z7 z8), .int .i64 ze]) (by simp [results, Try.results13, go_sem, rvC, r0, r1, r2, r3, r4, r5, r6, r7, r8]) rfl ⟨rfl, HF.out⟩


end Go.Proofs.Ytbigcebpfbfddaa
