/-
  Walks: what dpath.ofPacket hands over: the closure that sends; ofGuest, ofPacket. Conditions: what was captured lies in memory; the packet may be.
-/
import Derived.Test.YtacbgelbffmngaaZt
import Derived.Deep.RegionHeld3
import Derived.RegionTactic
import Derived.Laws.EntriesVeiled
namespace Go.Proofs.Ytacbgelbffmngaa
open Go.RowKit
set_option linter.unusedVariables false
set_option linter.unusedSimpArgs false

/-- What a packet that may be becomes, forwarded. -/
def fwd15 (k o f t p g i ao ag : Int) (b : List UInt8) : OV := if k = 2 then zOV else snt15 2 o t ao p ag i b
theorem snt15_zero : snt15 0 0 0 0 0 0 0 [] = zOV := rfl
theorem again15 (k o f t p g i ao ag : Int) (A : Option Addr) (n c : Nat) (b : List UInt8) (w : World) (h : BsM15 w A n c b) (hr : pkR k o f t p g i n = true) :
    ∃ (k' o' f' t' p' g' i' : Int) (m : List UInt8) (x : Int), (∀ W, Chg (fun _ => False) w W → Calls Try.prog 53 #[.agg (pkC k o f t p g i A n c), .int .i64 ao, .int .i64 ag] W (Hd k' o' f' t' p' g' i' m x W)) ∧ snt15 k' o' f' t' p' g' i' m = fwd15 k o f t p g i ao ag b ∧ m.length ≤ 1514 := by
  have hp := pkR_parts hr
  have hn : n ≤ 9223372036854775807 := by omega
  unfold fwd15
  by_cases hk : k = 2
  · rw [if_pos hk]
    exact ⟨0, 0, 0, 0, 0, 0, 0, [], 8, fun W _ => (tag_state k o f t p g i ao ag A n c W hn hr hk).mono (fun e w' h => hd_no h), snt15_zero, Nat.zero_le _⟩
  · rw [if_neg hk]
    cases hr2 : pkR 2 o t ao p ag i n with
    | false => exact ⟨0, 0, 0, 0, 0, 0, 0, [], 1, fun W _ => (tag_gen k o f t p g i ao ag A n c W hn hr hk hr2).mono (fun e w' h => hd_no h), by rw [snt15_zero, snt15_no (by rw [← h.2.1]; exact hr2)], Nat.zero_le _⟩
    | true => exact ⟨2, o, t, ao, p, ag, i, b, 0, fun W hW => tag_ok k o f t p g i ao ag A n c W hn b (fun _ => True) h.2.1 (h.2.2.chg hW (fun _ _ => id)) h.1 hr hk hr2, rfl, by have := h.2.1; omega⟩
set_option maxRecDepth 100000 in
set_option maxHeartbeats 4000000 in
theorem op3_any (ak ap ao ag : Int) (qp : Nat) (k o f t p g i : Int) (A : Option Addr) (n c : Nat) (b : List UInt8) (w : World) (hr : pkR k o f t p g i n = true) (hq : Blk w qp 37 (pkC k o f t p g i A n c)) (h : BsM15 w A n c b) : Calls Try.prog 52 #[.agg #[.int .i64 ak, .int .i64 ap, .int .i64 ao, .int .i64 ag], .pointer (some ⟨qp, 0, none⟩)] w (HO15 (fwd15 k o f t p g i ao ag b) w) := by
  obtain ⟨k', o', f', t', p', g', i', m, x, ha, hv, hm⟩ := again15 k o f t p g i ao ag A n c b w h hr
  have hs := fun (W : World) (A : Option Addr) (c : Nat) (hW : BsM15 W A m.length c m) => sent15_any k' o' f' t' p' g' i' A m.length c m W (by omega) hW
  rw [hv] at hs
  generalize fwd15 k o f t p g i ao ag b = v at *
  generalize hnm : m.length = nm at *
  have HNM := Lib.hid hnm
  unfold Hd pkC at ha
  rw [hnm] at ha
  have HA := Lib.hid ha
  have HS := Lib.hid hs
  clear ha hs hnm hv hm
  have HB2 := Lib.hid ((hq.alloc (.cells #[.int .i64 ak, .int .i64 ap, .int .i64 ao, .int .i64 ag] 68)).alloc (.cells #[.int .i64 0, .int .i64 0, .int .i64 0, .int .i64 0, .slice none 0 0, .int .i64 0, .int .i64 0, .int .i64 0, .int .i64 0, .int .i64 0, .int .i64 0, .int .i64 0, .slice none 0 0] 39))
  clear h hq hr
  have HB0 : Hid (Blk ((w.alloc (.cells #[.int .i64 ak, .int .i64 ap, .int .i64 ao, .int .i64 ag] 68)).alloc (.cells #[.int .i64 0, .int .i64 0, .int .i64 0, .int .i64 0, .slice none 0 0, .int .i64 0, .int .i64 0, .int .i64 0, .int .i64 0, .int .i64 0, .int .i64 0, .int .i64 0, .slice none 0 0] 39)) (w.heap.size) 68 (acC ak ap ao ag)) := Lib.hid (Blk.alloc (blk_new rfl) _)
  have HZ : Hid (Blk ((w.alloc (.cells #[.int .i64 ak, .int .i64 ap, .int .i64 ao, .int .i64 ag] 68)).alloc (.cells #[.int .i64 0, .int .i64 0, .int .i64 0, .int .i64 0, .slice none 0 0, .int .i64 0, .int .i64 0, .int .i64 0, .int .i64 0, .int .i64 0, .int .i64 0, .int .i64 0, .slice none 0 0] 39)) (w.heap.size + 1) 39 (ouC15 0 0 0 0 none 0 0 0 0 0 0 0 0 0 none 0 0)) := Lib.hid (blk_new (by simp))
  have HX := Lib.hid (((Chg.refl (fun _ => False) w).alloc (.cells #[.int .i64 ak, .int .i64 ap, .int .i64 ao, .int .i64 ag] 68)).alloc (.cells #[.int .i64 0, .int .i64 0, .int .i64 0, .int .i64 0, .slice none 0 0, .int .i64 0, .int .i64 0, .int .i64 0, .int .i64 0, .int .i64 0, .int .i64 0, .int .i64 0, .slice none 0 0] 39))
  have HQ : Hid (w.heap.size ≤ w.heap.size + 1) := Lib.hid (by omega)
  go_enter Try.func52, Try.ntmps52
  go_upto_region 1 with fail
  generalize (w.alloc (.cells #[.int .i64 ak, .int .i64 ap, .int .i64 ao, .int .i64 ag] 68)).alloc (.cells #[.int .i64 0, .int .i64 0, .int .i64 0, .int .i64 0, .slice none 0 0, .int .i64 0, .int .i64 0, .int .i64 0, .int .i64 0, .int .i64 0, .int .i64 0, .int .i64 0, .slice none 0 0] 39) = w1 at *
  generalize w.heap.size + 1 = Q1 at *
  generalize w.heap.size = Q0 at HB0 ⊢
  obtain ⟨y0, y1, y2, y3⟩ := ac_cells13 HB0.out
  obtain ⟨z0, z1, z2, z3, z4, z5, z6, z7⟩ := pk_cells HB2.out
  go_wp2_with fail
  refine (HA.out _ HX.out).mono ?_
  rintro e w3 ⟨A4, c4, rfl, hz, hrd, hc⟩
  have hca := hc.alloc (.cells #[.int .i64 k', .int .i64 o', .int .i64 f', .int .i64 t', .int .i64 p', .int .i64 g', .int .i64 i', .slice A4 nm c4] 37)
  have HM4 := Lib.hid ((show BsM15 w3 A4 nm c4 m from ⟨hz, HNM.out.symm, hrd⟩).alloc (.cells #[.int .i64 k', .int .i64 o', .int .i64 f', .int .i64 t', .int .i64 p', .int .i64 g', .int .i64 i', .slice A4 nm c4] 37))
  have HB4 : Hid (Blk (w3.alloc (.cells #[.int .i64 k', .int .i64 o', .int .i64 f', .int .i64 t', .int .i64 p', .int .i64 g', .int .i64 i', .slice A4 nm c4] 37)) w3.heap.size 37 (pkC k' o' f' t' p' g' i' A4 nm c4)) := Lib.hid (blk_new rfl)
  replace HZ := Lib.hid (HZ.out.chg hca id)
  replace HX := Lib.hid (HX.out.trans hca (fun _ _ e => e))
  clear hc hca hz hrd y0 y1 y2 y3 z0 z1 z2 z3 z4 z5 z6 z7
  go_upto_region 2 with fail
  generalize w3.alloc (.cells #[.int .i64 k', .int .i64 o', .int .i64 f', .int .i64 t', .int .i64 p', .int .i64 g', .int .i64 i', .slice A4 nm c4] 37) = v3 at *
  generalize w3.heap.size = Q4 at *
  obtain ⟨z0, z1, z2, z3, z4, z5, z6, z7⟩ := pk_cells HB4.out
  go_wp2_with fail
  refine (HS.out _ _ _ HM4.out).mono ?_
  rintro e w4 ⟨A2, n2, c2, A3, n3, c3, rfl, hm2, hm3, hc⟩
  unfold ouC15
  have HM2 := Lib.hid hm2
  have HM3 := Lib.hid hm3
  replace HZ := Lib.hid (HZ.out.chg hc id)
  replace HX := Lib.hid (HX.out.trans hc (fun _ _ e => e))
  clear z0 z1 z2 z3 z4 z5 z6 z7 hc hm2 hm3
  obtain ⟨x0, x1, x2, x3, x4, x5, x6, x7, x8, x9, x10, x11, x12⟩ := ou_cells15 HZ.out
  obtain ⟨f0, f1, f2, f3, f4, f5, f6, f7, f8, f9, f10, f11, f12⟩ := ou_free15 HZ.out
  obtain ⟨r0, r1, r2, r3, r4, r5, r6, r7, r8, r9, r10, r11, r12, hcs⟩ := ou_put15 HZ.out rfl v.kd v.po v.ge v.st A2 n2 c2 v.k v.o v.f v.t v.p v.g v.i A3 n3 c3
  have RR := Lib.hid (And.intro r0 (And.intro r1 (And.intro r2 (And.intro r3 (And.intro r4 (And.intro r5 (And.intro r6 (And.intro r7 (And.intro r8 (And.intro r9 (And.intro r10 (And.intro r11 r12))))))))))))
  have HF := Lib.hid (fresh_set HX.out hcs HQ.out)
  replace HM2 := Lib.hid (HM2.out.put HZ.out noU8_ou hcs)
  replace HM3 := Lib.hid (HM3.out.put HZ.out noU8_ou hcs)
  clear r0 r1 r2 r3 r4 r5 r6 r7 r8 r9 r10 r11 r12 hcs
  go_wp2_with fail
  obtain ⟨r0, r1, r2, r3, r4, r5, r6, r7, r8, r9, r10, r11, r12⟩ := RR.out
  exact bodyPost_ret (v := .agg #[.int .i64 v.kd, .int .i64 v.po, .int .i64 v.ge, .int .i64 v.st, .slice A2 n2 c2, .int .i64 v.k, .int .i64 v.o, .int .i64 v.f, .int .i64 v.t, .int .i64 v.p, .int .i64 v.g, .int .i64 v.i, .slice A3 n3 c3]) (by simp [results, Try.results52, go_sem, r0, r1, r2, r3, r4, r5, r6, r7, r8, r9, r10, r11, r12]) rfl ⟨A2, n2, c2, A3, n3, c3, rfl, HM2.out, HM3.out, HF.out⟩
/-- What ofGuest, and ofPacket, hand back. -/
def FG15 (ch nu : Int) (A : Option Addr) (n c : Nat) (w : World) (e : Ending) (w' : World) : Prop := ∃ qc qi qb : Nat, e = .returned (.agg #[.func (.func 41) #[] #[], .func (.func 42) #[] #[.pointer (some ⟨qb, 0, none⟩)], .func (.func 44) #[] #[.pointer (some ⟨qc, 0, none⟩), .pointer (some ⟨qi, 0, none⟩), .pointer (some ⟨qb, 0, none⟩)]]) ∧ Blk w' qc 3 #[.int .i64 ch] ∧ Blk w' qi 3 #[.int .i64 nu] ∧ Blk w' qb 24 #[.slice A n c] ∧ Chg (fun _ => False) w w'
def FP15 (k o f t p g i : Int) (A : Option Addr) (n c : Nat) (w : World) (e : Ending) (w' : World) : Prop := ∃ qp : Nat, e = .returned (.agg #[.func (.func 49) #[] #[], .func (.func 50) #[] #[.pointer (some ⟨qp, 0, none⟩)], .func (.func 52) #[] #[.pointer (some ⟨qp, 0, none⟩)]]) ∧ Blk w' qp 37 (pkC k o f t p g i A n c) ∧ Chg (fun _ => False) w w'
theorem fn_put15 {w : World} {r : Nat} {T : TypeId} {cs : Array Value} (hb : Blk w r T cs) (hs : cs.size = 3) (F0 F1 F2 : Value) :
    (w.setCell ⟨r, 0, none⟩ (F0)).cell? ⟨r, 0, none⟩ = some (F0) ∧ ((w.setCell ⟨r, 0, none⟩ (F0)).setCell ⟨r, 1, none⟩ (F1)).cell? ⟨r, 1, none⟩ = some (F1) ∧ (((w.setCell ⟨r, 0, none⟩ (F0)).setCell ⟨r, 1, none⟩ (F1)).setCell ⟨r, 2, none⟩ (F2)).cell? ⟨r, 2, none⟩ = some (F2) ∧ Chg (fun k => k = r) w (((w.setCell ⟨r, 0, none⟩ (F0)).setCell ⟨r, 1, none⟩ (F1)).setCell ⟨r, 2, none⟩ (F2)) := by
  have h0 := hb.set 0 (F0)
  have r0 := h0.cell 0
  rw [Array.getElem?_setIfInBounds_self_of_lt (by simp [hs])] at r0
  have h1 := h0.set 1 (F1)
  have r1 := h1.cell 1
  rw [Array.getElem?_setIfInBounds_self_of_lt (by simp [hs])] at r1
  have h2 := h1.set 2 (F2)
  have r2 := h2.cell 2
  rw [Array.getElem?_setIfInBounds_self_of_lt (by simp [hs])] at r2
  exact ⟨r0, r1, r2, (((Chg.refl (fun k => k = r) w).put r 0 (fun _ => rfl) _).put r 1 (fun _ => rfl) _).put r 2 (fun _ => rfl) _⟩
set_option maxRecDepth 100000 in
set_option maxHeartbeats 2000000 in
theorem ofg15_any (ch nu : Int) (A : Option Addr) (n c : Nat) (w : World) : Calls Try.prog 24 #[.int .i64 ch, .slice A n c, .int .i64 nu] w (FG15 ch nu A n c w) := by
  have hmf : ∀ (fn : Fn) (first cap : Array Value) (w : World), (Instr.makeFunc fn first cap).run Try.prog w = .ok (.func fn first cap) w := fun _ _ _ _ => rfl
  have HB0 : Hid (Blk ((((w.alloc (.cells #[.int .i64 ch] 3)).alloc (.cells #[.slice A n c] 24)).alloc (.cells #[.int .i64 nu] 3)).alloc (.cells #[.nilFunc, .nilFunc, .nilFunc] 80)) (w.heap.size) 3 (#[.int .i64 ch])) := Lib.hid (Blk.alloc (Blk.alloc (Blk.alloc (blk_new rfl) _) _) _)
  have HB1 : Hid (Blk ((((w.alloc (.cells #[.int .i64 ch] 3)).alloc (.cells #[.slice A n c] 24)).alloc (.cells #[.int .i64 nu] 3)).alloc (.cells #[.nilFunc, .nilFunc, .nilFunc] 80)) (w.heap.size + 1) 24 (#[.slice A n c])) := Lib.hid (Blk.alloc (Blk.alloc (blk_new (by simp)) _) _)
  have HB2 : Hid (Blk ((((w.alloc (.cells #[.int .i64 ch] 3)).alloc (.cells #[.slice A n c] 24)).alloc (.cells #[.int .i64 nu] 3)).alloc (.cells #[.nilFunc, .nilFunc, .nilFunc] 80)) (w.heap.size + 1 + 1) 3 (#[.int .i64 nu])) := Lib.hid (Blk.alloc (blk_new (by simp)) _)
  have HZ : Hid (Blk ((((w.alloc (.cells #[.int .i64 ch] 3)).alloc (.cells #[.slice A n c] 24)).alloc (.cells #[.int .i64 nu] 3)).alloc (.cells #[.nilFunc, .nilFunc, .nilFunc] 80)) (w.heap.size + 1 + 1 + 1) 80 (#[.nilFunc, .nilFunc, .nilFunc])) := Lib.hid (blk_new (by simp))
  have HX := Lib.hid (((((Chg.refl (fun _ => False) w).alloc (.cells #[.int .i64 ch] 3)).alloc (.cells #[.slice A n c] 24)).alloc (.cells #[.int .i64 nu] 3)).alloc (.cells #[.nilFunc, .nilFunc, .nilFunc] 80))
  have HQ : Hid (w.heap.size ≤ w.heap.size + 1 + 1 + 1) := Lib.hid (by omega)
  have HHB0 : Hid (w.heap.size < w.heap.size + 1 + 1 + 1) := Lib.hid (by omega)
  have HHB1 : Hid (w.heap.size + 1 < w.heap.size + 1 + 1 + 1) := Lib.hid (by omega)
  have HHB2 : Hid (w.heap.size + 1 + 1 < w.heap.size + 1 + 1 + 1) := Lib.hid (by omega)
  go_enter Try.func24, Try.ntmps24
  go_upto_region 1 with fail
  generalize (((w.alloc (.cells #[.int .i64 ch] 3)).alloc (.cells #[.slice A n c] 24)).alloc (.cells #[.int .i64 nu] 3)).alloc (.cells #[.nilFunc, .nilFunc, .nilFunc] 80) = w1 at *
  generalize w.heap.size + 1 + 1 + 1 = QZ at *
  generalize w.heap.size + 1 + 1 = Q2 at *
  generalize w.heap.size + 1 = Q1 at *
  generalize w.heap.size = Q0 at HB0 HHB0 ⊢
  have x0 := HZ.out.cell 0
  have x1 := HZ.out.cell 1
  have x2 := HZ.out.cell 2
  simp only [List.getElem?_toArray, List.getElem?_cons_zero, List.getElem?_cons_succ] at x0 x1 x2
  have f0 := HZ.out.frozen 0
  have f1 := HZ.out.frozen 1
  have f2 := HZ.out.frozen 2
  obtain ⟨r0, r1, r2, hcs⟩ := fn_put15 HZ.out rfl (.func (.func 41) #[] #[]) (.func (.func 42) #[] #[.pointer (some ⟨Q1, 0, none⟩)]) (.func (.func 44) #[] #[.pointer (some ⟨Q0, 0, none⟩), .pointer (some ⟨Q2, 0, none⟩), .pointer (some ⟨Q1, 0, none⟩)])
  have RR := Lib.hid (And.intro r0 (And.intro r1 r2))
  have HF := Lib.hid (fresh_set HX.out hcs HQ.out)
  have HCS := Lib.hid hcs
  clear r0 r1 r2 hcs
  go_wp2_with fail
  obtain ⟨r0, r1, r2⟩ := RR.out
  exact bodyPost_ret (v := .agg #[.func (.func 41) #[] #[], .func (.func 42) #[] #[.pointer (some ⟨Q1, 0, none⟩)], .func (.func 44) #[] #[.pointer (some ⟨Q0, 0, none⟩), .pointer (some ⟨Q2, 0, none⟩), .pointer (some ⟨Q1, 0, none⟩)]]) (by simp [results, Try.results24, go_sem, r0, r1, r2]) rfl ⟨Q0, Q2, Q1, rfl, HB0.out.chg HCS.out (by have := HQ.out; have := HHB0.out; omega), HB2.out.chg HCS.out (by have := HQ.out; have := HHB2.out; omega), HB1.out.chg HCS.out (by have := HQ.out; have := HHB1.out; omega), HF.out⟩
set_option maxRecDepth 100000 in
set_option maxHeartbeats 2000000 in
theorem ofp15_any (k o f t p g i : Int) (A : Option Addr) (n c : Nat) (w : World) : Calls Try.prog 30 #[.agg #[.int .i64 k, .int .i64 o, .int .i64 f, .int .i64 t, .int .i64 p, .int .i64 g, .int .i64 i, .slice A n c]] w (FP15 k o f t p g i A n c w) := by
  have hmf : ∀ (fn : Fn) (first cap : Array Value) (w : World), (Instr.makeFunc fn first cap).run Try.prog w = .ok (.func fn first cap) w := fun _ _ _ _ => rfl
  have HB0 : Hid (Blk ((w.alloc (.cells #[.int .i64 k, .int .i64 o, .int .i64 f, .int .i64 t, .int .i64 p, .int .i64 g, .int .i64 i, .slice A n c] 37)).alloc (.cells #[.nilFunc, .nilFunc, .nilFunc] 80)) (w.heap.size) 37 (pkC k o f t p g i A n c)) := Lib.hid (Blk.alloc (blk_new rfl) _)
  have HZ : Hid (Blk ((w.alloc (.cells #[.int .i64 k, .int .i64 o, .int .i64 f, .int .i64 t, .int .i64 p, .int .i64 g, .int .i64 i, .slice A n c] 37)).alloc (.cells #[.nilFunc, .nilFunc, .nilFunc] 80)) (w.heap.size + 1) 80 (#[.nilFunc, .nilFunc, .nilFunc])) := Lib.hid (blk_new (by simp))
  have HX := Lib.hid (((Chg.refl (fun _ => False) w).alloc (.cells #[.int .i64 k, .int .i64 o, .int .i64 f, .int .i64 t, .int .i64 p, .int .i64 g, .int .i64 i, .slice A n c] 37)).alloc (.cells #[.nilFunc, .nilFunc, .nilFunc] 80))
  have HQ : Hid (w.heap.size ≤ w.heap.size + 1) := Lib.hid (by omega)
  have HHB0 : Hid (w.heap.size < w.heap.size + 1) := Lib.hid (by omega)
  go_enter Try.func30, Try.ntmps30
  go_upto_region 1 with fail
  generalize (w.alloc (.cells #[.int .i64 k, .int .i64 o, .int .i64 f, .int .i64 t, .int .i64 p, .int .i64 g, .int .i64 i, .slice A n c] 37)).alloc (.cells #[.nilFunc, .nilFunc, .nilFunc] 80) = w1 at *
  generalize w.heap.size + 1 = QZ at *
  generalize w.heap.size = Q0 at HB0 HHB0 ⊢
  have x0 := HZ.out.cell 0
  have x1 := HZ.out.cell 1
  have x2 := HZ.out.cell 2
  simp only [List.getElem?_toArray, List.getElem?_cons_zero, List.getElem?_cons_succ] at x0 x1 x2
  have f0 := HZ.out.frozen 0
  have f1 := HZ.out.frozen 1
  have f2 := HZ.out.frozen 2
  obtain ⟨r0, r1, r2, hcs⟩ := fn_put15 HZ.out rfl (.func (.func 49) #[] #[]) (.func (.func 50) #[] #[.pointer (some ⟨Q0, 0, none⟩)]) (.func (.func 52) #[] #[.pointer (some ⟨Q0, 0, none⟩)])
  have RR := Lib.hid (And.intro r0 (And.intro r1 r2))
  have HF := Lib.hid (fresh_set HX.out hcs HQ.out)
  have HCS := Lib.hid hcs
  clear r0 r1 r2 hcs
  go_wp2_with fail
  obtain ⟨r0, r1, r2⟩ := RR.out
  exact bodyPost_ret (v := .agg #[.func (.func 49) #[] #[], .func (.func 50) #[] #[.pointer (some ⟨Q0, 0, none⟩)], .func (.func 52) #[] #[.pointer (some ⟨Q0, 0, none⟩)]]) (by simp [results, Try.results30, go_sem, r0, r1, r2]) rfl ⟨Q0, rfl, HB0.out.chg HCS.out (by have := HQ.out; have := HHB0.out; omega), HF.out⟩

end Go.Proofs.Ytacbgelbffmngaa
