/-
  Walks: bind.entry, entries. No condition.
-/
import Derived.Test.YtacbgelbffmngaaZb
import Derived.Test.YtacbgelbffmngaaYe
import Derived.Test.YtacbgelbffmngaaYh
import Derived.Deep.RegionHeld3
import Derived.BigQuiet
namespace Go.Proofs.Ytacbgelbffmngaa
open Go.RowKit
set_option linter.unusedVariables false
set_option linter.unusedSimpArgs false

theorem en_res14 {w : World} {q : Nat} {T : TypeId} {cs : Array Value} (hb : Blk w q T cs) (hs : cs.size = 11) (x : En) :
    (w.setCell ⟨q, 0, none⟩ (.int .i64 x.pr)).cell? ⟨q, 0, none⟩ = some (.int .i64 x.pr) ∧ ((w.setCell ⟨q, 0, none⟩ (.int .i64 x.pr)).setCell ⟨q, 1, none⟩ (.int .i64 x.ins)).cell? ⟨q, 1, none⟩ = some (.int .i64 x.ins) ∧ (((w.setCell ⟨q, 0, none⟩ (.int .i64 x.pr)).setCell ⟨q, 1, none⟩ (.int .i64 x.ins)).setCell ⟨q, 2, none⟩ (.int .u64 x.ma)).cell? ⟨q, 2, none⟩ = some (.int .u64 x.ma) ∧ ((((w.setCell ⟨q, 0, none⟩ (.int .i64 x.pr)).setCell ⟨q, 1, none⟩ (.int .i64 x.ins)).setCell ⟨q, 2, none⟩ (.int .u64 x.ma)).setCell ⟨q, 3, none⟩ (.int .i64 x.po)).cell? ⟨q, 3, none⟩ = some (.int .i64 x.po) ∧ (((((w.setCell ⟨q, 0, none⟩ (.int .i64 x.pr)).setCell ⟨q, 1, none⟩ (.int .i64 x.ins)).setCell ⟨q, 2, none⟩ (.int .u64 x.ma)).setCell ⟨q, 3, none⟩ (.int .i64 x.po)).setCell ⟨q, 4, none⟩ (.int .i64 x.fr)).cell? ⟨q, 4, none⟩ = some (.int .i64 x.fr) ∧ ((((((w.setCell ⟨q, 0, none⟩ (.int .i64 x.pr)).setCell ⟨q, 1, none⟩ (.int .i64 x.ins)).setCell ⟨q, 2, none⟩ (.int .u64 x.ma)).setCell ⟨q, 3, none⟩ (.int .i64 x.po)).setCell ⟨q, 4, none⟩ (.int .i64 x.fr)).setCell ⟨q, 5, none⟩ (.int .i64 x.up)).cell? ⟨q, 5, none⟩ = some (.int .i64 x.up) ∧ (((((((w.setCell ⟨q, 0, none⟩ (.int .i64 x.pr)).setCell ⟨q, 1, none⟩ (.int .i64 x.ins)).setCell ⟨q, 2, none⟩ (.int .u64 x.ma)).setCell ⟨q, 3, none⟩ (.int .i64 x.po)).setCell ⟨q, 4, none⟩ (.int .i64 x.fr)).setCell ⟨q, 5, none⟩ (.int .i64 x.up)).setCell ⟨q, 6, none⟩ (.int .i64 x.no)).cell? ⟨q, 6, none⟩ = some (.int .i64 x.no) ∧ ((((((((w.setCell ⟨q, 0, none⟩ (.int .i64 x.pr)).setCell ⟨q, 1, none⟩ (.int .i64 x.ins)).setCell ⟨q, 2, none⟩ (.int .u64 x.ma)).setCell ⟨q, 3, none⟩ (.int .i64 x.po)).setCell ⟨q, 4, none⟩ (.int .i64 x.fr)).setCell ⟨q, 5, none⟩ (.int .i64 x.up)).setCell ⟨q, 6, none⟩ (.int .i64 x.no)).setCell ⟨q, 7, none⟩ (.int .i64 x.ak)).cell? ⟨q, 7, none⟩ = some (.int .i64 x.ak) ∧ (((((((((w.setCell ⟨q, 0, none⟩ (.int .i64 x.pr)).setCell ⟨q, 1, none⟩ (.int .i64 x.ins)).setCell ⟨q, 2, none⟩ (.int .u64 x.ma)).setCell ⟨q, 3, none⟩ (.int .i64 x.po)).setCell ⟨q, 4, none⟩ (.int .i64 x.fr)).setCell ⟨q, 5, none⟩ (.int .i64 x.up)).setCell ⟨q, 6, none⟩ (.int .i64 x.no)).setCell ⟨q, 7, none⟩ (.int .i64 x.ak)).setCell ⟨q, 8, none⟩ (.int .i64 x.ap)).cell? ⟨q, 8, none⟩ = some (.int .i64 x.ap) ∧ ((((((((((w.setCell ⟨q, 0, none⟩ (.int .i64 x.pr)).setCell ⟨q, 1, none⟩ (.int .i64 x.ins)).setCell ⟨q, 2, none⟩ (.int .u64 x.ma)).setCell ⟨q, 3, none⟩ (.int .i64 x.po)).setCell ⟨q, 4, none⟩ (.int .i64 x.fr)).setCell ⟨q, 5, none⟩ (.int .i64 x.up)).setCell ⟨q, 6, none⟩ (.int .i64 x.no)).setCell ⟨q, 7, none⟩ (.int .i64 x.ak)).setCell ⟨q, 8, none⟩ (.int .i64 x.ap)).setCell ⟨q, 9, none⟩ (.int .i64 x.ao)).cell? ⟨q, 9, none⟩ = some (.int .i64 x.ao) ∧ (((((((((((w.setCell ⟨q, 0, none⟩ (.int .i64 x.pr)).setCell ⟨q, 1, none⟩ (.int .i64 x.ins)).setCell ⟨q, 2, none⟩ (.int .u64 x.ma)).setCell ⟨q, 3, none⟩ (.int .i64 x.po)).setCell ⟨q, 4, none⟩ (.int .i64 x.fr)).setCell ⟨q, 5, none⟩ (.int .i64 x.up)).setCell ⟨q, 6, none⟩ (.int .i64 x.no)).setCell ⟨q, 7, none⟩ (.int .i64 x.ak)).setCell ⟨q, 8, none⟩ (.int .i64 x.ap)).setCell ⟨q, 9, none⟩ (.int .i64 x.ao)).setCell ⟨q, 10, none⟩ (.int .i64 x.ag)).cell? ⟨q, 10, none⟩ = some (.int .i64 x.ag) ∧ Chg (fun k => k = q) w (((((((((((w.setCell ⟨q, 0, none⟩ (.int .i64 x.pr)).setCell ⟨q, 1, none⟩ (.int .i64 x.ins)).setCell ⟨q, 2, none⟩ (.int .u64 x.ma)).setCell ⟨q, 3, none⟩ (.int .i64 x.po)).setCell ⟨q, 4, none⟩ (.int .i64 x.fr)).setCell ⟨q, 5, none⟩ (.int .i64 x.up)).setCell ⟨q, 6, none⟩ (.int .i64 x.no)).setCell ⟨q, 7, none⟩ (.int .i64 x.ak)).setCell ⟨q, 8, none⟩ (.int .i64 x.ap)).setCell ⟨q, 9, none⟩ (.int .i64 x.ao)).setCell ⟨q, 10, none⟩ (.int .i64 x.ag)) := by
  have h0 := hb.set 0 (.int .i64 x.pr)
  have r0 := h0.cell 0
  rw [Array.getElem?_setIfInBounds_self_of_lt (by simp [hs])] at r0
  have h1 := h0.set 1 (.int .i64 x.ins)
  have r1 := h1.cell 1
  rw [Array.getElem?_setIfInBounds_self_of_lt (by simp [hs])] at r1
  have h2 := h1.set 2 (.int .u64 x.ma)
  have r2 := h2.cell 2
  rw [Array.getElem?_setIfInBounds_self_of_lt (by simp [hs])] at r2
  have h3 := h2.set 3 (.int .i64 x.po)
  have r3 := h3.cell 3
  rw [Array.getElem?_setIfInBounds_self_of_lt (by simp [hs])] at r3
  have h4 := h3.set 4 (.int .i64 x.fr)
  have r4 := h4.cell 4
  rw [Array.getElem?_setIfInBounds_self_of_lt (by simp [hs])] at r4
  have h5 := h4.set 5 (.int .i64 x.up)
  have r5 := h5.cell 5
  rw [Array.getElem?_setIfInBounds_self_of_lt (by simp [hs])] at r5
  have h6 := h5.set 6 (.int .i64 x.no)
  have r6 := h6.cell 6
  rw [Array.getElem?_setIfInBounds_self_of_lt (by simp [hs])] at r6
  have h7 := h6.set 7 (.int .i64 x.ak)
  have r7 := h7.cell 7
  rw [Array.getElem?_setIfInBounds_self_of_lt (by simp [hs])] at r7
  have h8 := h7.set 8 (.int .i64 x.ap)
  have r8 := h8.cell 8
  rw [Array.getElem?_setIfInBounds_self_of_lt (by simp [hs])] at r8
  have h9 := h8.set 9 (.int .i64 x.ao)
  have r9 := h9.cell 9
  rw [Array.getElem?_setIfInBounds_self_of_lt (by simp [hs])] at r9
  have h10 := h9.set 10 (.int .i64 x.ag)
  have r10 := h10.cell 10
  rw [Array.getElem?_setIfInBounds_self_of_lt (by simp [hs])] at r10
  exact ⟨r0, r1, r2, r3, r4, r5, r6, r7, r8, r9, r10, (((((((((((Chg.refl (fun k => k = q) w).put q 0 (fun _ => rfl) _).put q 1 (fun _ => rfl) _).put q 2 (fun _ => rfl) _).put q 3 (fun _ => rfl) _).put q 4 (fun _ => rfl) _).put q 5 (fun _ => rfl) _).put q 6 (fun _ => rfl) _).put q 7 (fun _ => rfl) _).put q 8 (fun _ => rfl) _).put q 9 (fun _ => rfl) _).put q 10 (fun _ => rfl) _⟩
set_option maxRecDepth 100000 in
set_option maxHeartbeats 4000000 in
theorem bentry14_any (po ma ow ta ol ge ph ve si ins no kd : Int) (w : World) : Calls Try.prog 64 #[.agg (rvC po ma ow ta ol ge ph ve si), .int .i64 ins, .int .i64 no, .int .i64 kd] w fun e w' => e = .returned (.agg (ent14 po ma ow ge ins no kd).cs) ∧ Chg (fun _ => False) w w' := by
  have HB0 : Hid (Blk ((w.alloc (.cells #[.int .i64 po, .int .u64 ma, .int .i64 ow, .int .i64 ta, .int .i64 ol, .int .i64 ge, .int .i64 ph, .int .i64 ve, .int .i64 si] 65)).alloc (.cells #[.int .i64 0, .int .i64 0, .int .u64 0, .int .i64 0, .int .i64 0, .int .i64 0, .int .i64 0, .int .i64 0, .int .i64 0, .int .i64 0, .int .i64 0] 70)) w.heap.size 65 (rvC po ma ow ta ol ge ph ve si)) := Lib.hid (Blk.alloc (blk_new rfl) _)
  have HZ : Hid (Blk ((w.alloc (.cells #[.int .i64 po, .int .u64 ma, .int .i64 ow, .int .i64 ta, .int .i64 ol, .int .i64 ge, .int .i64 ph, .int .i64 ve, .int .i64 si] 65)).alloc (.cells #[.int .i64 0, .int .i64 0, .int .u64 0, .int .i64 0, .int .i64 0, .int .i64 0, .int .i64 0, .int .i64 0, .int .i64 0, .int .i64 0, .int .i64 0] 70)) (w.heap.size + 1) 70 (enC 0 0 0 0 0 0 0 0 0 0 0)) := Lib.hid (blk_new (by simp))
  have HX := Lib.hid (((Chg.refl (fun _ => False) w).alloc (.cells #[.int .i64 po, .int .u64 ma, .int .i64 ow, .int .i64 ta, .int .i64 ol, .int .i64 ge, .int .i64 ph, .int .i64 ve, .int .i64 si] 65)).alloc (.cells #[.int .i64 0, .int .i64 0, .int .u64 0, .int .i64 0, .int .i64 0, .int .i64 0, .int .i64 0, .int .i64 0, .int .i64 0, .int .i64 0, .int .i64 0] 70))
  have HQ : Hid (w.heap.size ≤ w.heap.size + 1) := Lib.hid (by omega)
  have HN : Hid (¬ w.heap.size = w.heap.size + 1) := Lib.hid (by omega)
  have HA := Lib.hid (show ∀ W, Calls _ _ #[.int .i64 kd, .agg #[.int .i64 po, .int .u64 ma, .int .i64 ow, .int .i64 ta, .int .i64 ol, .int .i64 ge, .int .i64 ph, .int .i64 ve, .int .i64 si]] W (fun e w' => e = .returned (.agg #[.int .i64 kd, .int .i64 po, .int .i64 ow, .int .i64 ge]) ∧ Chg (fun _ => False) W w') from fun W => bact14_any kd po ma ow ta ol ge ph ve si W)
  unfold rvC
  go_enter Try.func64, Try.ntmps64
  go_upto_region 1 with fail
  generalize (w.alloc (.cells #[.int .i64 po, .int .u64 ma, .int .i64 ow, .int .i64 ta, .int .i64 ol, .int .i64 ge, .int .i64 ph, .int .i64 ve, .int .i64 si] 65)).alloc (.cells #[.int .i64 0, .int .i64 0, .int .u64 0, .int .i64 0, .int .i64 0, .int .i64 0, .int .i64 0, .int .i64 0, .int .i64 0, .int .i64 0, .int .i64 0] 70) = w1 at *
  generalize w.heap.size + 1 = Q1 at *
  generalize w.heap.size = Q0 at HB0 HN ⊢
  have HKEEP : Hid (∀ W : World, Chg (fun k => k = Q1) w1 W → (W.cell? ⟨Q0, 0, none⟩ = some (.int .i64 po) ∧ W.cell? ⟨Q0, 1, none⟩ = some (.int .u64 ma) ∧ W.cell? ⟨Q0, 2, none⟩ = some (.int .i64 ow) ∧ W.cell? ⟨Q0, 3, none⟩ = some (.int .i64 ta) ∧ W.cell? ⟨Q0, 4, none⟩ = some (.int .i64 ol) ∧ W.cell? ⟨Q0, 5, none⟩ = some (.int .i64 ge) ∧ W.cell? ⟨Q0, 6, none⟩ = some (.int .i64 ph) ∧ W.cell? ⟨Q0, 7, none⟩ = some (.int .i64 ve) ∧ W.cell? ⟨Q0, 8, none⟩ = some (.int .i64 si))) := Lib.hid (fun W hw => rv_cells (HB0.out.chg hw HN.out))
  have HXA := Lib.hid ((Chg.refl (fun k => k = Q1) w1).drew)
  have HX1 := Lib.hid ((Chg.refl (fun _ => False) w1).drew)
  obtain ⟨y0, y1, y2, y3, y4, y5, y6, y7, y8⟩ := HKEEP.out _ HXA.out
  go_region_held3 (fun w' => w'.cell? ⟨Q0, 0, none⟩ = some (.int .i64 po) ∧ w'.cell? ⟨Q0, 1, none⟩ = some (.int .u64 ma) ∧ w'.cell? ⟨Q0, 2, none⟩ = some (.int .i64 ow) ∧ w'.cell? ⟨Q0, 3, none⟩ = some (.int .i64 ta) ∧ w'.cell? ⟨Q0, 4, none⟩ = some (.int .i64 ol) ∧ w'.cell? ⟨Q0, 5, none⟩ = some (.int .i64 ge) ∧ w'.cell? ⟨Q0, 6, none⟩ = some (.int .i64 ph) ∧ w'.cell? ⟨Q0, 7, none⟩ = some (.int .i64 ve) ∧ w'.cell? ⟨Q0, 8, none⟩ = some (.int .i64 si))
    (first | with_reducible exact HKEEP.out _ HXA.out | with_reducible exact HKEEP.out _ HXB.out | with_reducible exact HKEEP.out _ HXC.out | fail)
    (first
      | (go_at_call 68; (with_reducible refine (HA.out _).mono ?_); rintro e wz ⟨rfl, hc⟩; have HX2 := Lib.hid (HX1.out.trans hc (fun _ _ e => e)); have HXB := Lib.hid (HXA.out.trans (hc.mono (S' := fun k => k = Q1) (fun _ _ h => h.elim)) (fun _ _ e => e)); replace HX := Lib.hid (HX.out.trans HX2.out (fun _ _ e => e)); replace HZ := Lib.hid (HZ.out.chg HX2.out id); clear hc HX2; obtain ⟨c0, c1, c2, c3, c4, c5, c6, c7, c8, c9, c10⟩ := en_cells13 HZ.out; obtain ⟨f0, f1, f2, f3, f4, f5, f6, f7, f8, f9, f10⟩ := en_free13 HZ.out; obtain ⟨r0, r1, r2, r3, r4, r5, r6, r7, r8, r9, r10, hcs⟩ := en_res14 HZ.out rfl (⟨0, ins, ma, po, -9223372036854775808, ge, no, kd, po, ow, ge⟩ : En); have HXC := Lib.hid (HXB.out.trans hcs (fun _ _ e => e)); have HF := Lib.hid (fresh_set HX.out hcs HQ.out); have RR := Lib.hid (And.intro r0 (And.intro r1 (And.intro r2 (And.intro r3 (And.intro r4 (And.intro r5 (And.intro r6 (And.intro r7 (And.intro r8 (And.intro r9 r10)))))))))); clear r0 r1 r2 r3 r4 r5 r6 r7 r8 r9 r10 hcs HX)
      | fail)
  all_goals
    go_wp2_with fail
    obtain ⟨r0, r1, r2, r3, r4, r5, r6, r7, r8, r9, r10⟩ := RR.out
    exact bodyPost_ret (v := .agg #[.int .i64 0, .int .i64 ins, .int .u64 ma, .int .i64 po, .int .i64 (-9223372036854775808), .int .i64 ge, .int .i64 no, .int .i64 kd, .int .i64 po, .int .i64 ow, .int .i64 ge]) (by simp [results, Try.results64, go_sem, r0, r1, r2, r3, r4, r5, r6, r7, r8, r9, r10]) rfl ⟨rfl, HF.out⟩
/-- Entries that are handed back. -/
def EsP14 (l : List En) (w : World) (e : Ending) (w' : World) : Prop := ∃ (E : Option Addr) (n d : Nat), e = .returned (.slice E n d) ∧ EnR w' E n l ∧ (E = none → d = 0) ∧ Chg (fun _ => False) w w'
set_option maxRecDepth 100000 in
set_option maxHeartbeats 8000000 in
theorem bents14_any (po ma ow ta ol ge ph ve si c : Int) (w : World) : Calls Try.prog 56 #[.agg (rvC po ma ow ta ol ge ph ve si), .int .i64 c] w (EsP14 (es14 po ma ow ol ge ph c) w) := by
  have HB0 : Hid (Blk (w.alloc (.cells #[.int .i64 po, .int .u64 ma, .int .i64 ow, .int .i64 ta, .int .i64 ol, .int .i64 ge, .int .i64 ph, .int .i64 ve, .int .i64 si] 65)) w.heap.size 65 (rvC po ma ow ta ol ge ph ve si)) := Lib.hid (blk_new rfl)
  have HX := Lib.hid ((Chg.refl (fun _ => False) w).alloc (.cells #[.int .i64 po, .int .u64 ma, .int .i64 ow, .int .i64 ta, .int .i64 ol, .int .i64 ge, .int .i64 ph, .int .i64 ve, .int .i64 si] 65))
  have HE1 := Lib.hid (show ∀ W, Calls _ _ #[.agg #[.int .i64 po, .int .u64 ma, .int .i64 ow, .int .i64 ta, .int .i64 ol, .int .i64 ge, .int .i64 ph, .int .i64 ve, .int .i64 si], .int .i64 7, .int .i64 (-9223372036854775808), .int .i64 1] W (fun e w' => e = .returned (.agg #[.int .i64 0, .int .i64 7, .int .u64 ma, .int .i64 po, .int .i64 (-9223372036854775808), .int .i64 ge, .int .i64 (-9223372036854775808), .int .i64 1, .int .i64 po, .int .i64 ow, .int .i64 ge]) ∧ Chg (fun _ => False) W w') from fun W => bentry14_any po ma ow ta ol ge ph ve si 7 (-9223372036854775808) 1 W)
  have HE2 := Lib.hid (show ∀ W, Calls _ _ #[.agg #[.int .i64 po, .int .u64 ma, .int .i64 ow, .int .i64 ta, .int .i64 ol, .int .i64 ge, .int .i64 ph, .int .i64 ve, .int .i64 si], .int .i64 1, .int .i64 (-9223372036854775808), .int .i64 2] W (fun e w' => e = .returned (.agg #[.int .i64 0, .int .i64 1, .int .u64 ma, .int .i64 po, .int .i64 (-9223372036854775808), .int .i64 ge, .int .i64 (-9223372036854775808), .int .i64 2, .int .i64 po, .int .i64 ow, .int .i64 ge]) ∧ Chg (fun _ => False) W w') from fun W => bentry14_any po ma ow ta ol ge ph ve si 1 (-9223372036854775808) 2 W)
  have HE3 := Lib.hid (show ∀ W, Calls _ _ #[.agg #[.int .i64 po, .int .u64 ma, .int .i64 ow, .int .i64 ta, .int .i64 ol, .int .i64 ge, .int .i64 ph, .int .i64 ve, .int .i64 si], .int .i64 2, .int .i64 ow, .int .i64 2] W (fun e w' => e = .returned (.agg #[.int .i64 0, .int .i64 2, .int .u64 ma, .int .i64 po, .int .i64 (-9223372036854775808), .int .i64 ge, .int .i64 ow, .int .i64 2, .int .i64 po, .int .i64 ow, .int .i64 ge]) ∧ Chg (fun _ => False) W w') from fun W => bentry14_any po ma ow ta ol ge ph ve si 2 ow 2 W)
  have hlf := (show ∀ W, Calls _ _ #[.agg #[.int .i64 po, .int .u64 ma, .int .i64 ow, .int .i64 ta, .int .i64 ol, .int .i64 ge, .int .i64 ph, .int .i64 ve, .int .i64 si], .int .i64 c] W _ from fun W => bleft14_any po ma ow ta ol ge ph ve si c W)
  unfold rvC
  go_enter Try.func56, Try.ntmps56
  go_upto_region 1 with fail
  generalize w.alloc (.cells #[.int .i64 po, .int .u64 ma, .int .i64 ow, .int .i64 ta, .int .i64 ol, .int .i64 ge, .int .i64 ph, .int .i64 ve, .int .i64 si] 65) = w1 at *
  generalize w.heap.size = Q0 at HB0 ⊢
  obtain ⟨y0, y1, y2, y3, y4, y5, y6, y7, y8⟩ := rv_cells HB0.out
  by_cases h3 : ph = 3
  · skip
    have tp : (ph == 3) = true := by simp [h3]
    have HV := Lib.hid (show es14 po ma ow ol ge ph c = [] from by simp [es14, h3])
    clear h3 hlf
    go_wp2_with fail
    go_ret
    refine ⟨none, 0, 0, rfl, ?_, fun _ => rfl, HX.out⟩
    rw [HV.out]
    exact EnR.nil _ _
  · skip
    have tp : (ph == 3) = false := by simp [h3]
    by_cases hcw : c = ow
    · skip
      have tc : (c == ow) = true := by simp [hcw]
      have HV := Lib.hid (show es14 po ma ow ol ge ph c = [(ent14 po ma ow ge 7 (-9223372036854775808) 1)] from by simp [es14, h3, hcw])
      clear h3 hcw hlf
      go_wp2_with fail
      refine (HE1.out _).mono ?_
      rintro e wz ⟨rfl, hc⟩
      replace HX := Lib.hid (HX.out.trans hc (fun _ _ e => e))
      clear hc
      go_wp2_with fail
      go_ret
      refine ⟨_, 1, 1, rfl, ?_, (fun e => by cases e), HX.out.alloc _⟩
      rw [HV.out]
      exact enr_blk13 (l := [(ent14 po ma ow ge 7 (-9223372036854775808) 1)]) (T := 70) (by have h : Blk (wz.alloc (.cells #[.int .i64 0, .int .i64 7, .int .u64 ma, .int .i64 po, .int .i64 (-9223372036854775808), .int .i64 ge, .int .i64 (-9223372036854775808), .int .i64 1, .int .i64 po, .int .i64 ow, .int .i64 ge] 70)) wz.heap.size 70 #[.int .i64 0, .int .i64 7, .int .u64 ma, .int .i64 po, .int .i64 (-9223372036854775808), .int .i64 ge, .int .i64 (-9223372036854775808), .int .i64 1, .int .i64 po, .int .i64 ow, .int .i64 ge] := blk_new rfl; exact h)
    · skip
      have tc : (c == ow) = false := by simp [hcw]
      cases hl : lfB14 ph ol c with
      | false =>
        rw [hl] at hlf
        have HLF := Lib.hid hlf
        have HV := Lib.hid (show es14 po ma ow ol ge ph c = [(ent14 po ma ow ge 1 (-9223372036854775808) 2)] from by simp [es14, h3, hcw, hl])
        clear hlf hl hcw h3
        go_wp2_with fail
        refine (HLF.out _).mono ?_
        rintro e w2 ⟨rfl, hc⟩
        clear y0 y1 y2 y3 y4 y5 y6 y7 y8
        replace HB0 := Lib.hid (HB0.out.chg hc id)
        replace HX := Lib.hid (HX.out.trans hc (fun _ _ e => e))
        clear hc
        obtain ⟨y0, y1, y2, y3, y4, y5, y6, y7, y8⟩ := rv_cells HB0.out
        go_wp2_with fail
        refine (HE2.out _).mono ?_
        rintro e wz ⟨rfl, hc⟩
        replace HX := Lib.hid (HX.out.trans hc (fun _ _ e => e))
        clear hc
        go_wp2_with fail
        go_ret
        refine ⟨_, 1, 1, rfl, ?_, (fun e => by cases e), HX.out.alloc _⟩
        rw [HV.out]
        exact enr_blk13 (l := [(ent14 po ma ow ge 1 (-9223372036854775808) 2)]) (T := 70) (by have h : Blk (wz.alloc (.cells #[.int .i64 0, .int .i64 1, .int .u64 ma, .int .i64 po, .int .i64 (-9223372036854775808), .int .i64 ge, .int .i64 (-9223372036854775808), .int .i64 2, .int .i64 po, .int .i64 ow, .int .i64 ge] 70)) wz.heap.size 70 #[.int .i64 0, .int .i64 1, .int .u64 ma, .int .i64 po, .int .i64 (-9223372036854775808), .int .i64 ge, .int .i64 (-9223372036854775808), .int .i64 2, .int .i64 po, .int .i64 ow, .int .i64 ge] := blk_new rfl; exact h)
      | true =>
        rw [hl] at hlf
        have HV := Lib.hid (show es14 po ma ow ol ge ph c = [(ent14 po ma ow ge 1 (-9223372036854775808) 2), (ent14 po ma ow ge 2 ow 2)] from by simp [es14, h3, hcw, hl])
        have HLF := Lib.hid hlf
        clear hlf hl hcw h3
        go_wp2_with fail
        refine (HLF.out _).mono ?_
        rintro e w2 ⟨rfl, hc⟩
        clear y0 y1 y2 y3 y4 y5 y6 y7 y8
        replace HB0 := Lib.hid (HB0.out.chg hc id)
        replace HX := Lib.hid (HX.out.trans hc (fun _ _ e => e))
        clear hc
        obtain ⟨y0, y1, y2, y3, y4, y5, y6, y7, y8⟩ := rv_cells HB0.out
        have HKEEP : Hid (∀ W : World, Chg (fun _ => False) w2 W → (W.cell? ⟨Q0, 0, none⟩ = some (.int .i64 po) ∧ W.cell? ⟨Q0, 1, none⟩ = some (.int .u64 ma) ∧ W.cell? ⟨Q0, 2, none⟩ = some (.int .i64 ow) ∧ W.cell? ⟨Q0, 3, none⟩ = some (.int .i64 ta) ∧ W.cell? ⟨Q0, 4, none⟩ = some (.int .i64 ol) ∧ W.cell? ⟨Q0, 5, none⟩ = some (.int .i64 ge) ∧ W.cell? ⟨Q0, 6, none⟩ = some (.int .i64 ph) ∧ W.cell? ⟨Q0, 7, none⟩ = some (.int .i64 ve) ∧ W.cell? ⟨Q0, 8, none⟩ = some (.int .i64 si))) := Lib.hid (fun W hw => rv_cells (HB0.out.chg hw id))
        have HXA := Lib.hid ((Chg.refl (fun _ => False) w2).drew)
        go_wp2_with fail
        go_region_held3 (fun w' => w'.cell? ⟨Q0, 0, none⟩ = some (.int .i64 po) ∧ w'.cell? ⟨Q0, 1, none⟩ = some (.int .u64 ma) ∧ w'.cell? ⟨Q0, 2, none⟩ = some (.int .i64 ow) ∧ w'.cell? ⟨Q0, 3, none⟩ = some (.int .i64 ta) ∧ w'.cell? ⟨Q0, 4, none⟩ = some (.int .i64 ol) ∧ w'.cell? ⟨Q0, 5, none⟩ = some (.int .i64 ge) ∧ w'.cell? ⟨Q0, 6, none⟩ = some (.int .i64 ph) ∧ w'.cell? ⟨Q0, 7, none⟩ = some (.int .i64 ve) ∧ w'.cell? ⟨Q0, 8, none⟩ = some (.int .i64 si))
          (first | with_reducible exact HKEEP.out _ HXA.out | with_reducible exact HKEEP.out _ HXB.out | with_reducible exact HKEEP.out _ HXC.out | with_reducible exact HKEEP.out _ (HXC.out.alloc _) | fail)
          (first
            | (go_at_call 64; (with_reducible refine (HE2.out _).mono ?_); rintro e wy ⟨rfl, hc⟩; have HXB := Lib.hid (HXA.out.trans hc (fun _ _ e => e)); clear hc)
            | (go_at_call 64; (with_reducible refine (HE3.out _).mono ?_); rintro e wz ⟨rfl, hc⟩; have HXC := Lib.hid (HXB.out.trans hc (fun _ _ e => e)); clear hc)
            | fail)
        all_goals
          go_wp2_with fail
          go_ret
          refine ⟨_, 2, 2, rfl, ?_, (fun e => by cases e), (HX.out.trans HXC.out (fun _ _ e => e)).alloc _⟩
          rw [HV.out]
          exact enr_blk13 (l := [(ent14 po ma ow ge 1 (-9223372036854775808) 2), (ent14 po ma ow ge 2 ow 2)]) (T := 70) (by have h : Blk (wz.alloc (.cells #[.int .i64 0, .int .i64 1, .int .u64 ma, .int .i64 po, .int .i64 (-9223372036854775808), .int .i64 ge, .int .i64 (-9223372036854775808), .int .i64 2, .int .i64 po, .int .i64 ow, .int .i64 ge, .int .i64 0, .int .i64 2, .int .u64 ma, .int .i64 po, .int .i64 (-9223372036854775808), .int .i64 ge, .int .i64 ow, .int .i64 2, .int .i64 po, .int .i64 ow, .int .i64 ge] 70)) wz.heap.size 70 #[.int .i64 0, .int .i64 1, .int .u64 ma, .int .i64 po, .int .i64 (-9223372036854775808), .int .i64 ge, .int .i64 (-9223372036854775808), .int .i64 2, .int .i64 po, .int .i64 ow, .int .i64 ge, .int .i64 0, .int .i64 2, .int .u64 ma, .int .i64 po, .int .i64 (-9223372036854775808), .int .i64 ge, .int .i64 ow, .int .i64 2, .int .i64 po, .int .i64 ow, .int .i64 ge] := blk_new rfl; exact h)

end Go.Proofs.Ytacbgelbffmngaa
