/-
  Walks: what dpath.ofPacket hands over: the closures that deliver and send; ofGuest, ofPacket. Conditions: what they captured lies in memory.
-/
import Derived.Test.YtacbgelbffmngaaZs
import Derived.Deep.RegionHeld3
import Derived.RegionTactic
namespace Go.Proofs.Ytacbgelbffmngaa
open Go.RowKit
set_option linter.unusedVariables false
set_option linter.unusedSimpArgs false

set_option maxRecDepth 100000 in
set_option maxHeartbeats 4000000 in
theorem op2_any (ak ap ao ag : Int) (qp : Nat) (k o f t p g i : Int) (A : Option Addr) (n c : Nat) (b : List UInt8) (w : World) (hn : n ≤ 140737488355328) (hq : Blk w qp 37 (pkC k o f t p g i A n c)) (h : BsM15 w A n c b) : Calls Try.prog 50 #[.agg #[.int .i64 ak, .int .i64 ap, .int .i64 ao, .int .i64 ag], .pointer (some ⟨qp, 0, none⟩)] w (HO15 (dlv15 ap ag g b) w) := by
  have HB2 := Lib.hid ((hq.alloc (.cells #[.int .i64 ak, .int .i64 ap, .int .i64 ao, .int .i64 ag] 68)).alloc (.cells #[.int .i64 0, .int .i64 0, .int .i64 0, .int .i64 0, .slice none 0 0, .int .i64 0, .int .i64 0, .int .i64 0, .int .i64 0, .int .i64 0, .int .i64 0, .int .i64 0, .slice none 0 0] 39))
  have HM := Lib.hid h
  have HCL := Lib.hid (fun (W : World) (hW : Chg (fun _ => False) w W) => tclone_any A n c b (fun _ => True) W h.2.1 (h.2.2.chg hW (fun _ _ => id)) h.1 hn)
  have HQP := Lib.hid (show ¬ qp = w.heap.size + 1 from by have := hq.lt; omega)
  have HQN : Hid (¬ w.heap.size = w.heap.size + 1) := Lib.hid (by omega)
  clear h hq
  have HB0 : Hid (Blk ((w.alloc (.cells #[.int .i64 ak, .int .i64 ap, .int .i64 ao, .int .i64 ag] 68)).alloc (.cells #[.int .i64 0, .int .i64 0, .int .i64 0, .int .i64 0, .slice none 0 0, .int .i64 0, .int .i64 0, .int .i64 0, .int .i64 0, .int .i64 0, .int .i64 0, .int .i64 0, .slice none 0 0] 39)) (w.heap.size) 68 (acC ak ap ao ag)) := Lib.hid (Blk.alloc (blk_new rfl) _)
  have HZ : Hid (Blk ((w.alloc (.cells #[.int .i64 ak, .int .i64 ap, .int .i64 ao, .int .i64 ag] 68)).alloc (.cells #[.int .i64 0, .int .i64 0, .int .i64 0, .int .i64 0, .slice none 0 0, .int .i64 0, .int .i64 0, .int .i64 0, .int .i64 0, .int .i64 0, .int .i64 0, .int .i64 0, .slice none 0 0] 39)) (w.heap.size + 1) 39 (ouC15 0 0 0 0 none 0 0 0 0 0 0 0 0 0 none 0 0)) := Lib.hid (blk_new (by simp))
  have HX := Lib.hid (((Chg.refl (fun _ => False) w).alloc (.cells #[.int .i64 ak, .int .i64 ap, .int .i64 ao, .int .i64 ag] 68)).alloc (.cells #[.int .i64 0, .int .i64 0, .int .i64 0, .int .i64 0, .slice none 0 0, .int .i64 0, .int .i64 0, .int .i64 0, .int .i64 0, .int .i64 0, .int .i64 0, .int .i64 0, .slice none 0 0] 39))
  have HQ : Hid (w.heap.size ≤ w.heap.size + 1) := Lib.hid (by omega)
  go_enter Try.func50, Try.ntmps50
  go_upto_region 1 with fail
  generalize (w.alloc (.cells #[.int .i64 ak, .int .i64 ap, .int .i64 ao, .int .i64 ag] 68)).alloc (.cells #[.int .i64 0, .int .i64 0, .int .i64 0, .int .i64 0, .slice none 0 0, .int .i64 0, .int .i64 0, .int .i64 0, .int .i64 0, .int .i64 0, .int .i64 0, .int .i64 0, .slice none 0 0] 39) = w1 at *
  generalize w.heap.size + 1 = Q1 at *
  generalize w.heap.size = Q0 at HB0 HQN ⊢
  have HKEEP : Hid (∀ W : World, Chg (fun k => k = Q1) w1 W → (W.cell? ⟨Q0, 0, none⟩ = some (.int .i64 ak) ∧ W.cell? ⟨Q0, 1, none⟩ = some (.int .i64 ap) ∧ W.cell? ⟨Q0, 2, none⟩ = some (.int .i64 ao) ∧ W.cell? ⟨Q0, 3, none⟩ = some (.int .i64 ag) ∧ W.cell? ⟨qp, 0, none⟩ = some (.int .i64 k) ∧ W.cell? ⟨qp, 1, none⟩ = some (.int .i64 o) ∧ W.cell? ⟨qp, 2, none⟩ = some (.int .i64 f) ∧ W.cell? ⟨qp, 3, none⟩ = some (.int .i64 t) ∧ W.cell? ⟨qp, 4, none⟩ = some (.int .i64 p) ∧ W.cell? ⟨qp, 5, none⟩ = some (.int .i64 g) ∧ W.cell? ⟨qp, 6, none⟩ = some (.int .i64 i) ∧ W.cell? ⟨qp, 7, none⟩ = some (.slice A n c))) := Lib.hid (fun W hw => by
    obtain ⟨y0, y1, y2, y3⟩ := ac_cells13 (HB0.out.chg hw HQN.out)
    obtain ⟨z0, z1, z2, z3, z4, z5, z6, z7⟩ := pk_cells (HB2.out.chg hw HQP.out)
    exact ⟨y0, y1, y2, y3, z0, z1, z2, z3, z4, z5, z6, z7⟩
  )
  have HYA := Lib.hid (Chg.refl (fun k => k = Q1) w1).drew
  replace HX := Lib.hid HX.out.drew
  replace HZ := Lib.hid HZ.out.drew
  obtain ⟨y0, y1, y2, y3, z0, z1, z2, z3, z4, z5, z6, z7⟩ := HKEEP.out _ HYA.out
  go_wp2_with fail
  go_region_held3 (fun w' => w'.cell? ⟨Q0, 0, none⟩ = some (.int .i64 ak) ∧ w'.cell? ⟨Q0, 1, none⟩ = some (.int .i64 ap) ∧ w'.cell? ⟨Q0, 2, none⟩ = some (.int .i64 ao) ∧ w'.cell? ⟨Q0, 3, none⟩ = some (.int .i64 ag) ∧ w'.cell? ⟨qp, 0, none⟩ = some (.int .i64 k) ∧ w'.cell? ⟨qp, 1, none⟩ = some (.int .i64 o) ∧ w'.cell? ⟨qp, 2, none⟩ = some (.int .i64 f) ∧ w'.cell? ⟨qp, 3, none⟩ = some (.int .i64 t) ∧ w'.cell? ⟨qp, 4, none⟩ = some (.int .i64 p) ∧ w'.cell? ⟨qp, 5, none⟩ = some (.int .i64 g) ∧ w'.cell? ⟨qp, 6, none⟩ = some (.int .i64 i) ∧ w'.cell? ⟨qp, 7, none⟩ = some (.slice A n c))
    (first | with_reducible exact HKEEP.out _ HYA.out | with_reducible exact HKEEP.out _ HYB.out | with_reducible exact HKEEP.out _ HYC.out | with_reducible exact HKEEP.out _ HYD.out | fail)
    (first
      | (go_at_call 51; (with_reducible refine (HCL.out _ HX.out).mono ?_); rintro e wb ⟨A3, c3, rfl, hown, hc⟩; have HYB := Lib.hid (HYA.out.trans (hc.mono (S' := fun k => k = Q1) (fun _ _ h => h.elim)) (fun _ _ e => e)); replace HZ := Lib.hid (HZ.out.chg hc id); replace HX := Lib.hid (HX.out.trans hc (fun _ _ e => e)); clear hc; have HM3 := Lib.hid (show BsM15 wb A3 n c3 b from ⟨own_nil13 hown, HM.out.2.1, (own_rds hown).mono (fun _ _ => trivial)⟩); clear hown)
      | (go_at_call 43; (with_reducible refine (deliv15_any ak ap ao ag g A3 n c3 _).mono ?_); rintro e wd ⟨rfl, hc⟩; have HYC := Lib.hid (HYB.out.trans (hc.mono (S' := fun k => k = Q1) (fun _ _ h => h.elim)) (fun _ _ e => e)); replace HZ := Lib.hid (HZ.out.chg hc id); replace HX := Lib.hid (HX.out.trans hc (fun _ _ e => e)); have HD := Lib.hid hc; clear hc; replace HM3 := Lib.hid (HM3.out.chg HD.out); obtain ⟨x0, x1, x2, x3, x4, x5, x6, x7, x8, x9, x10, x11, x12⟩ := ou_cells15 HZ.out; obtain ⟨f0, f1, f2, f3, f4, f5, f6, f7, f8, f9, f10, f11, f12⟩ := ou_free15 HZ.out; obtain ⟨r0, r1, r2, r3, r4, r5, r6, r7, r8, r9, r10, r11, r12, hcs⟩ := ou_put15 HZ.out rfl 1 ap ag g A3 n c3 0 0 0 0 0 0 0 none 0 0; have RR := Lib.hid (And.intro r0 (And.intro r1 (And.intro r2 (And.intro r3 (And.intro r4 (And.intro r5 (And.intro r6 (And.intro r7 (And.intro r8 (And.intro r9 (And.intro r10 (And.intro r11 r12)))))))))))); have HF := Lib.hid (fresh_set HX.out hcs HQ.out); have HYD := Lib.hid (HYC.out.trans hcs (fun _ _ e => e)); replace HM3 := Lib.hid (HM3.out.put HZ.out noU8_ou hcs); clear r0 r1 r2 r3 r4 r5 r6 r7 r8 r9 r10 r11 r12 hcs)
      | fail)
  all_goals
    go_wp2_with fail
    obtain ⟨r0, r1, r2, r3, r4, r5, r6, r7, r8, r9, r10, r11, r12⟩ := RR.out
    exact bodyPost_ret (v := .agg #[.int .i64 1, .int .i64 ap, .int .i64 ag, .int .i64 g, .slice A3 n c3, .int .i64 0, .int .i64 0, .int .i64 0, .int .i64 0, .int .i64 0, .int .i64 0, .int .i64 0, .slice none 0 0]) (by simp [results, Try.results50, go_sem, r0, r1, r2, r3, r4, r5, r6, r7, r8, r9, r10, r11, r12]) rfl ⟨A3, n, c3, none, 0, 0, rfl, HM3.out, BsM15.nil _, HF.out⟩

end Go.Proofs.Ytacbgelbffmngaa
