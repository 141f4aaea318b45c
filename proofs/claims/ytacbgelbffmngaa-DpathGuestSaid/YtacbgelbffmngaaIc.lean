/-
  Walk: the document's Tunnel. Conditions: the frame is read in memory; what the entries tell of the packet's key.
-/
import Derived.Test.YtacbgelbffmngaaIa
import Derived.Test.YtacbgelbffmngaaZu
import Derived.Test.YtacbgelbffmngaaYe
import Derived.Deep.RegionHeld3
import Derived.RegionTactic
namespace Go.Proofs.Ytacbgelbffmngaa
open Go.RowKit
set_option linter.unusedVariables false
set_option linter.unusedSimpArgs false

theorem ragain15 (k o f t p g i ao ag : Int) (A : Option Addr) (n c : Nat) (b : List UInt8) (w : World) (h : BsM15 w A n c b) (hr : pkR k o f t p g i n = true) :
    ∃ (k' o' f' t' p' g' i' : Int) (m : List UInt8) (x : Int), (∀ W, Chg (fun _ => False) w W → Calls Try.prog 32 #[.agg (pkC k o f t p g i A n c), .int .i64 ao, .int .i64 ag] W (Hd k' o' f' t' p' g' i' m x W)) ∧ ((¬ x = 0 ∧ fwd15 k o f t p g i ao ag b = zOV) ∨ (x = 0 ∧ snt15 k' o' f' t' p' g' i' m = fwd15 k o f t p g i ao ag b)) ∧ m.length ≤ 1514 := by
  have hp := pkR_parts hr
  have hn : n ≤ 9223372036854775807 := by omega
  unfold fwd15
  by_cases hk : k = 2
  · rw [if_pos hk]
    exact ⟨0, 0, 0, 0, 0, 0, 0, [], 8, fun W _ => (rag_state k o f t p g i ao ag A n c W hn hr hk).mono (fun e w' h => hd_no h), .inl ⟨by decide, rfl⟩, Nat.zero_le _⟩
  · rw [if_neg hk]
    cases hr2 : pkR 2 o t ao p ag i n with
    | false => exact ⟨0, 0, 0, 0, 0, 0, 0, [], 1, fun W _ => (rag_gen k o f t p g i ao ag A n c W hn hr hk hr2).mono (fun e w' h => hd_no h), .inl ⟨by decide, snt15_no (by rw [← h.2.1]; exact hr2)⟩, Nat.zero_le _⟩
    | true => exact ⟨2, o, t, ao, p, ag, i, b, 0, fun W hW => rag_ok k o f t p g i ao ag A n c W hn b (fun _ => True) h.2.1 (h.2.2.chg hW (fun _ _ => id)) h.1 hr hk hr2, .inr ⟨rfl, rfl⟩, by have := h.2.1; omega⟩
set_option maxRecDepth 100000 in
set_option maxHeartbeats 4000000 in
theorem rtunnel15_bad (sl : Value) (k o f t p g i ch : Int) (A : Option Addr) (n c : Nat) (w : World) (hn : n ≤ 9223372036854775807) (hr : pkR k o f t p g i n = false) : Calls Try.prog 16 #[sl, .int .i64 ch, .agg #[.int .i64 k, .int .i64 o, .int .i64 f, .int .i64 t, .int .i64 p, .int .i64 g, .int .i64 i, .slice A n c]] w (RE15 zOV 1 w) := by
  have hrt := fun W => rright5_any k o f t p g i A n c W hn
  unfold pkC at hrt
  rw [hr] at hrt
  have HRT := Lib.hid hrt
  clear hrt
  clear hr
  have HB0 : Hid (Blk ((w.alloc (.cells #[.int .i64 k, .int .i64 o, .int .i64 f, .int .i64 t, .int .i64 p, .int .i64 g, .int .i64 i, .slice A n c] 37)).alloc (.cells #[.int .i64 0, .int .i64 0, .int .i64 0, .int .i64 0, .string ⟨#[]⟩, .int .i64 0, .int .i64 0, .int .i64 0, .int .i64 0, .int .i64 0, .int .i64 0, .int .i64 0, .slice none 0 0] 43)) (w.heap.size) 37 (pkC k o f t p g i A n c)) := Lib.hid (Blk.alloc (blk_new rfl) _)
  have HZ : Hid (Blk ((w.alloc (.cells #[.int .i64 k, .int .i64 o, .int .i64 f, .int .i64 t, .int .i64 p, .int .i64 g, .int .i64 i, .slice A n c] 37)).alloc (.cells #[.int .i64 0, .int .i64 0, .int .i64 0, .int .i64 0, .string ⟨#[]⟩, .int .i64 0, .int .i64 0, .int .i64 0, .int .i64 0, .int .i64 0, .int .i64 0, .int .i64 0, .slice none 0 0] 43)) (w.heap.size + 1) 43 (roC15 0 0 0 0 ([]) 0 0 0 0 0 0 0 none 0 0)) := Lib.hid (blk_new (by simp))
  have HX := Lib.hid (((Chg.refl (fun _ => False) w).alloc (.cells #[.int .i64 k, .int .i64 o, .int .i64 f, .int .i64 t, .int .i64 p, .int .i64 g, .int .i64 i, .slice A n c] 37)).alloc (.cells #[.int .i64 0, .int .i64 0, .int .i64 0, .int .i64 0, .string ⟨#[]⟩, .int .i64 0, .int .i64 0, .int .i64 0, .int .i64 0, .int .i64 0, .int .i64 0, .int .i64 0, .slice none 0 0] 43))
  have HQ : Hid (w.heap.size ≤ w.heap.size + 1) := Lib.hid (by omega)
  go_enter Try.func16, Try.ntmps16
  go_upto_region 1 with fail
  generalize (w.alloc (.cells #[.int .i64 k, .int .i64 o, .int .i64 f, .int .i64 t, .int .i64 p, .int .i64 g, .int .i64 i, .slice A n c] 37)).alloc (.cells #[.int .i64 0, .int .i64 0, .int .i64 0, .int .i64 0, .string ⟨#[]⟩, .int .i64 0, .int .i64 0, .int .i64 0, .int .i64 0, .int .i64 0, .int .i64 0, .int .i64 0, .slice none 0 0] 43) = w1 at *
  generalize w.heap.size + 1 = Q1 at *
  generalize w.heap.size = Q0 at HB0 ⊢
  obtain ⟨y0, y1, y2, y3, y4, y5, y6, y7⟩ := pk_cells HB0.out
  go_wp2_with fail
  refine (HRT.out _).mono ?_
  rintro e w2 ⟨rfl, hc⟩
  replace HZ := Lib.hid (HZ.out.chg hc id)
  replace HB0 := Lib.hid (HB0.out.chg hc id)
  replace HX := Lib.hid (HX.out.trans hc (fun _ _ e => e))
  clear hc
  clear y0 y1 y2 y3 y4 y5 y6 y7
  obtain ⟨y0, y1, y2, y3, y4, y5, y6, y7⟩ := pk_cells HB0.out
  obtain ⟨x0, x1, x2, x3, x4, x5, x6, x7, x8, x9, x10, x11, x12⟩ := ro_cells15 HZ.out
  obtain ⟨f0, f1, f2, f3, f4, f5, f6, f7, f8, f9, f10, f11, f12⟩ := ou_free15 HZ.out
  obtain ⟨r0, r1, r2, r3, r4, r5, r6, r7, r8, r9, r10, r11, r12, hcs⟩ := ro_put15 HZ.out rfl 0 0 0 0 ([]) 0 0 0 0 0 0 0 none 0 0
  have RR := Lib.hid (And.intro r0 (And.intro r1 (And.intro r2 (And.intro r3 (And.intro r4 (And.intro r5 (And.intro r6 (And.intro r7 (And.intro r8 (And.intro r9 (And.intro r10 (And.intro r11 r12))))))))))))
  have HF := Lib.hid (fresh_set HX.out hcs HQ.out)
  clear r0 r1 r2 r3 r4 r5 r6 r7 r8 r9 r10 r11 r12 hcs
  go_wp2_with fail
  obtain ⟨r0, r1, r2, r3, r4, r5, r6, r7, r8, r9, r10, r11, r12⟩ := RR.out
  exact bodyPost_ret (v := .tuple #[.agg #[.int .i64 0, .int .i64 0, .int .i64 0, .int .i64 0, .string ⟨#[]⟩, .int .i64 0, .int .i64 0, .int .i64 0, .int .i64 0, .int .i64 0, .int .i64 0, .int .i64 0, .slice none 0 0], .int .i64 1]) (by simp [results, Try.results16, go_sem, r0, r1, r2, r3, r4, r5, r6, r7, r8, r9, r10, r11, r12]) rfl ⟨none, 0, 0, rfl, BsM15.nil _, HF.out⟩
set_option maxRecDepth 100000 in
set_option maxHeartbeats 4000000 in
theorem rtunnel15_to (sl : Value) (k o f t p g i ch : Int) (A : Option Addr) (n c : Nat) (w : World) (hn : n ≤ 9223372036854775807) (hr : pkR k o f t p g i n = true) (ht : ¬ t = ch) : Calls Try.prog 16 #[sl, .int .i64 ch, .agg #[.int .i64 k, .int .i64 o, .int .i64 f, .int .i64 t, .int .i64 p, .int .i64 g, .int .i64 i, .slice A n c]] w (RE15 zOV 1 w) := by
  have hrt := fun W => rright5_any k o f t p g i A n c W hn
  unfold pkC at hrt
  rw [hr] at hrt
  have HRT := Lib.hid hrt
  clear hrt
  have s1 : (t != ch) = true := by simpa using ht
  have s2 : (t == ch) = false := by simpa using ht
  clear hr ht
  have HB0 : Hid (Blk ((w.alloc (.cells #[.int .i64 k, .int .i64 o, .int .i64 f, .int .i64 t, .int .i64 p, .int .i64 g, .int .i64 i, .slice A n c] 37)).alloc (.cells #[.int .i64 0, .int .i64 0, .int .i64 0, .int .i64 0, .string ⟨#[]⟩, .int .i64 0, .int .i64 0, .int .i64 0, .int .i64 0, .int .i64 0, .int .i64 0, .int .i64 0, .slice none 0 0] 43)) (w.heap.size) 37 (pkC k o f t p g i A n c)) := Lib.hid (Blk.alloc (blk_new rfl) _)
  have HZ : Hid (Blk ((w.alloc (.cells #[.int .i64 k, .int .i64 o, .int .i64 f, .int .i64 t, .int .i64 p, .int .i64 g, .int .i64 i, .slice A n c] 37)).alloc (.cells #[.int .i64 0, .int .i64 0, .int .i64 0, .int .i64 0, .string ⟨#[]⟩, .int .i64 0, .int .i64 0, .int .i64 0, .int .i64 0, .int .i64 0, .int .i64 0, .int .i64 0, .slice none 0 0] 43)) (w.heap.size + 1) 43 (roC15 0 0 0 0 ([]) 0 0 0 0 0 0 0 none 0 0)) := Lib.hid (blk_new (by simp))
  have HX := Lib.hid (((Chg.refl (fun _ => False) w).alloc (.cells #[.int .i64 k, .int .i64 o, .int .i64 f, .int .i64 t, .int .i64 p, .int .i64 g, .int .i64 i, .slice A n c] 37)).alloc (.cells #[.int .i64 0, .int .i64 0, .int .i64 0, .int .i64 0, .string ⟨#[]⟩, .int .i64 0, .int .i64 0, .int .i64 0, .int .i64 0, .int .i64 0, .int .i64 0, .int .i64 0, .slice none 0 0] 43))
  have HQ : Hid (w.heap.size ≤ w.heap.size + 1) := Lib.hid (by omega)
  go_enter Try.func16, Try.ntmps16
  go_upto_region 1 with fail
  generalize (w.alloc (.cells #[.int .i64 k, .int .i64 o, .int .i64 f, .int .i64 t, .int .i64 p, .int .i64 g, .int .i64 i, .slice A n c] 37)).alloc (.cells #[.int .i64 0, .int .i64 0, .int .i64 0, .int .i64 0, .string ⟨#[]⟩, .int .i64 0, .int .i64 0, .int .i64 0, .int .i64 0, .int .i64 0, .int .i64 0, .int .i64 0, .slice none 0 0] 43) = w1 at *
  generalize w.heap.size + 1 = Q1 at *
  generalize w.heap.size = Q0 at HB0 ⊢
  obtain ⟨y0, y1, y2, y3, y4, y5, y6, y7⟩ := pk_cells HB0.out
  go_wp2_with fail
  refine (HRT.out _).mono ?_
  rintro e w2 ⟨rfl, hc⟩
  replace HZ := Lib.hid (HZ.out.chg hc id)
  replace HB0 := Lib.hid (HB0.out.chg hc id)
  replace HX := Lib.hid (HX.out.trans hc (fun _ _ e => e))
  clear hc
  clear y0 y1 y2 y3 y4 y5 y6 y7
  obtain ⟨y0, y1, y2, y3, y4, y5, y6, y7⟩ := pk_cells HB0.out
  obtain ⟨x0, x1, x2, x3, x4, x5, x6, x7, x8, x9, x10, x11, x12⟩ := ro_cells15 HZ.out
  obtain ⟨f0, f1, f2, f3, f4, f5, f6, f7, f8, f9, f10, f11, f12⟩ := ou_free15 HZ.out
  obtain ⟨r0, r1, r2, r3, r4, r5, r6, r7, r8, r9, r10, r11, r12, hcs⟩ := ro_put15 HZ.out rfl 0 0 0 0 ([]) 0 0 0 0 0 0 0 none 0 0
  have RR := Lib.hid (And.intro r0 (And.intro r1 (And.intro r2 (And.intro r3 (And.intro r4 (And.intro r5 (And.intro r6 (And.intro r7 (And.intro r8 (And.intro r9 (And.intro r10 (And.intro r11 r12))))))))))))
  have HF := Lib.hid (fresh_set HX.out hcs HQ.out)
  clear r0 r1 r2 r3 r4 r5 r6 r7 r8 r9 r10 r11 r12 hcs
  go_wp2_with fail
  obtain ⟨r0, r1, r2, r3, r4, r5, r6, r7, r8, r9, r10, r11, r12⟩ := RR.out
  exact bodyPost_ret (v := .tuple #[.agg #[.int .i64 0, .int .i64 0, .int .i64 0, .int .i64 0, .string ⟨#[]⟩, .int .i64 0, .int .i64 0, .int .i64 0, .int .i64 0, .int .i64 0, .int .i64 0, .int .i64 0, .slice none 0 0], .int .i64 1]) (by simp [results, Try.results16, go_sem, r0, r1, r2, r3, r4, r5, r6, r7, r8, r9, r10, r11, r12]) rfl ⟨none, 0, 0, rfl, BsM15.nil _, HF.out⟩
set_option maxRecDepth 100000 in
set_option maxHeartbeats 8000000 in
theorem rtunnel15_ok (sl : Value) (oe : Option En) (ak ap ao ag : Int) (hac : acO13 oe = acC ak ap ao ag) (k o f t p g i : Int) (A : Option Addr) (n c : Nat) (w : World) (b : List UInt8) (h : BsM15 w A n c b) (hl : ∀ W, Chg (fun _ => False) w W → Calls Try.prog 25 #[sl, .agg (kyC k 0 p g o)] W (LkP13 oe W)) (hr : pkR k o f t p g i n = true) : Calls Try.prog 16 #[sl, .int .i64 t, .agg #[.int .i64 k, .int .i64 o, .int .i64 f, .int .i64 t, .int .i64 p, .int .i64 g, .int .i64 i, .slice A n c]] w (RE15 (tu15 k o f t p g i b ak ap ao ag) 0 w) := by
  have hn : n ≤ 9223372036854775807 := by have := (pkR_parts hr).2.2.2.2.2.2.2.1.2; omega
  obtain ⟨k', o', f', t', p', g', i', m, x, ha, hor, hm⟩ := ragain15 k o f t p g i ao ag A n c b w h hr
  generalize hnm : m.length = nm at *
  have HNM := Lib.hid hnm
  have HLM := Lib.hid hm
  have HOR := Lib.hid hor
  unfold Hd pkC at ha
  rw [hnm] at ha
  have HA := Lib.hid ha
  clear ha hor hnm hm
  have hl2 := hl
  unfold LkP13 at hl2
  rw [hac] at hl2
  generalize oe.isSome = bb at *
  unfold kyC acC at hl2
  have HLK := Lib.hid hl2
  have hrt := fun W => rright5_any k o f t p g i A n c W hn
  unfold pkC at hrt
  rw [hr] at hrt
  have HRT := Lib.hid hrt
  clear hrt
  generalize hv : tu15 k o f t p g i b ak ap ao ag = v
  have HV := Lib.hid hv
  have HM0 := Lib.hid h
  clear hv hl2 hl hac hr h
  have HB0 : Hid (Blk ((w.alloc (.cells #[.int .i64 k, .int .i64 o, .int .i64 f, .int .i64 t, .int .i64 p, .int .i64 g, .int .i64 i, .slice A n c] 37)).alloc (.cells #[.int .i64 0, .int .i64 0, .int .i64 0, .int .i64 0, .string ⟨#[]⟩, .int .i64 0, .int .i64 0, .int .i64 0, .int .i64 0, .int .i64 0, .int .i64 0, .int .i64 0, .slice none 0 0] 43)) (w.heap.size) 37 (pkC k o f t p g i A n c)) := Lib.hid (Blk.alloc (blk_new rfl) _)
  have HZ : Hid (Blk ((w.alloc (.cells #[.int .i64 k, .int .i64 o, .int .i64 f, .int .i64 t, .int .i64 p, .int .i64 g, .int .i64 i, .slice A n c] 37)).alloc (.cells #[.int .i64 0, .int .i64 0, .int .i64 0, .int .i64 0, .string ⟨#[]⟩, .int .i64 0, .int .i64 0, .int .i64 0, .int .i64 0, .int .i64 0, .int .i64 0, .int .i64 0, .slice none 0 0] 43)) (w.heap.size + 1) 43 (roC15 0 0 0 0 ([]) 0 0 0 0 0 0 0 none 0 0)) := Lib.hid (blk_new (by simp))
  have HX := Lib.hid (((Chg.refl (fun _ => False) w).alloc (.cells #[.int .i64 k, .int .i64 o, .int .i64 f, .int .i64 t, .int .i64 p, .int .i64 g, .int .i64 i, .slice A n c] 37)).alloc (.cells #[.int .i64 0, .int .i64 0, .int .i64 0, .int .i64 0, .string ⟨#[]⟩, .int .i64 0, .int .i64 0, .int .i64 0, .int .i64 0, .int .i64 0, .int .i64 0, .int .i64 0, .slice none 0 0] 43))
  have HQ : Hid (w.heap.size ≤ w.heap.size + 1) := Lib.hid (by omega)
  go_enter Try.func16, Try.ntmps16
  go_upto_region 1 with fail
  generalize (w.alloc (.cells #[.int .i64 k, .int .i64 o, .int .i64 f, .int .i64 t, .int .i64 p, .int .i64 g, .int .i64 i, .slice A n c] 37)).alloc (.cells #[.int .i64 0, .int .i64 0, .int .i64 0, .int .i64 0, .string ⟨#[]⟩, .int .i64 0, .int .i64 0, .int .i64 0, .int .i64 0, .int .i64 0, .int .i64 0, .int .i64 0, .slice none 0 0] 43) = w1 at *
  generalize w.heap.size + 1 = Q1 at *
  generalize w.heap.size = Q0 at HB0 ⊢
  obtain ⟨y0, y1, y2, y3, y4, y5, y6, y7⟩ := pk_cells HB0.out
  go_wp2_with fail
  refine (HRT.out _).mono ?_
  rintro e w2 ⟨rfl, hc⟩
  replace HZ := Lib.hid (HZ.out.chg hc id)
  replace HB0 := Lib.hid (HB0.out.chg hc id)
  replace HX := Lib.hid (HX.out.trans hc (fun _ _ e => e))
  clear hc
  clear y0 y1 y2 y3 y4 y5 y6 y7
  obtain ⟨y0, y1, y2, y3, y4, y5, y6, y7⟩ := pk_cells HB0.out
  go_wp2_with fail
  refine (HLK.out _ HX.out).mono ?_
  rintro e w4 ⟨rfl, hc⟩
  have hca := hc.alloc (.cells #[.int .i64 ak, .int .i64 ap, .int .i64 ao, .int .i64 ag] 82)
  have HB3 : Hid (Blk (w4.alloc (.cells #[.int .i64 ak, .int .i64 ap, .int .i64 ao, .int .i64 ag] 82)) w4.heap.size 82 (acC ak ap ao ag)) := Lib.hid (blk_new rfl)
  replace HZ := Lib.hid (HZ.out.chg hca id)
  replace HB0 := Lib.hid (HB0.out.chg hca id)
  replace HX := Lib.hid (HX.out.trans hca (fun _ _ e => e))
  have HM := Lib.hid (HM0.out.chg HX.out)
  clear hc hca y0 y1 y2 y3 y4 y5 y6 y7
  go_upto_region 5 with fail
  generalize w4.alloc (.cells #[.int .i64 ak, .int .i64 ap, .int .i64 ao, .int .i64 ag] 82) = v4 at *
  generalize w4.heap.size = Q3 at *
  by_cases hx1 : ak = 1
  · subst hx1
    obtain rfl : v = dlv15 ap ag g b := HV.out.symm
    obtain ⟨a0, a1, a2, a3⟩ := ac_cells13 HB3.out
    obtain ⟨y0, y1, y2, y3, y4, y5, y6, y7⟩ := pk_cells HB0.out
    have hcv := conv_any (c := c) HM.out.2.2
    obtain ⟨x0, x1, x2, x3, x4, x5, x6, x7, x8, x9, x10, x11, x12⟩ := ro_cells15 HZ.out
    obtain ⟨f0, f1, f2, f3, f4, f5, f6, f7, f8, f9, f10, f11, f12⟩ := ou_free15 HZ.out
    obtain ⟨r0, r1, r2, r3, r4, r5, r6, r7, r8, r9, r10, r11, r12, hcs⟩ := ro_put15 HZ.out rfl 1 ap ag g b 0 0 0 0 0 0 0 none 0 0
    have RR := Lib.hid (And.intro r0 (And.intro r1 (And.intro r2 (And.intro r3 (And.intro r4 (And.intro r5 (And.intro r6 (And.intro r7 (And.intro r8 (And.intro r9 (And.intro r10 (And.intro r11 r12))))))))))))
    have HF := Lib.hid (fresh_set HX.out hcs HQ.out)
    clear r0 r1 r2 r3 r4 r5 r6 r7 r8 r9 r10 r11 r12 hcs
    go_wp2_with fail
    obtain ⟨r0, r1, r2, r3, r4, r5, r6, r7, r8, r9, r10, r11, r12⟩ := RR.out
    exact bodyPost_ret (v := .tuple #[.agg #[.int .i64 1, .int .i64 ap, .int .i64 ag, .int .i64 g, .string ⟨b.toArray⟩, .int .i64 0, .int .i64 0, .int .i64 0, .int .i64 0, .int .i64 0, .int .i64 0, .int .i64 0, .slice none 0 0], .int .i64 0]) (by simp [results, Try.results16, go_sem, r0, r1, r2, r3, r4, r5, r6, r7, r8, r9, r10, r11, r12]) rfl ⟨none, 0, 0, rfl, BsM15.nil _, HF.out⟩
  by_cases hx2 : ak = 2
  · subst hx2
    clear hx1
    obtain ⟨a0, a1, a2, a3⟩ := ac_cells13 HB3.out
    obtain ⟨y0, y1, y2, y3, y4, y5, y6, y7⟩ := pk_cells HB0.out
    go_wp2_with fail
    refine (HA.out _ HX.out).mono ?_
    rintro e w5 ⟨A4, c4, rfl, hz, hrd, hc⟩
    have hca := hc.alloc (.cells #[.int .i64 k', .int .i64 o', .int .i64 f', .int .i64 t', .int .i64 p', .int .i64 g', .int .i64 i', .slice A4 nm c4] 37)
    have HM4 := Lib.hid ((show BsM15 w5 A4 nm c4 m from ⟨hz, HNM.out.symm, hrd⟩).alloc (.cells #[.int .i64 k', .int .i64 o', .int .i64 f', .int .i64 t', .int .i64 p', .int .i64 g', .int .i64 i', .slice A4 nm c4] 37))
    have HB4 : Hid (Blk (w5.alloc (.cells #[.int .i64 k', .int .i64 o', .int .i64 f', .int .i64 t', .int .i64 p', .int .i64 g', .int .i64 i', .slice A4 nm c4] 37)) w5.heap.size 37 (pkC k' o' f' t' p' g' i' A4 nm c4)) := Lib.hid (blk_new rfl)
    replace HZ := Lib.hid (HZ.out.chg hca id)
    replace HX := Lib.hid (HX.out.trans hca (fun _ _ e => e))
    clear hc hca hz hrd a0 a1 a2 a3 y0 y1 y2 y3 y4 y5 y6 y7
    go_upto_region 10 with fail
    generalize w5.alloc (.cells #[.int .i64 k', .int .i64 o', .int .i64 f', .int .i64 t', .int .i64 p', .int .i64 g', .int .i64 i', .slice A4 nm c4] 37) = v5 at *
    generalize w5.heap.size = Q4 at *
    rcases HOR.out with ⟨hx, hfz⟩ | ⟨hx, hsn⟩
    · obtain rfl : v = zOV := by rw [← HV.out]; exact hfz
      have t1 : (x == 0) = false := by simpa using hx
      have t2 : (x != 0) = true := by simpa using hx
      clear hx hfz HOR
      obtain ⟨x0, x1, x2, x3, x4, x5, x6, x7, x8, x9, x10, x11, x12⟩ := ro_cells15 HZ.out
      obtain ⟨f0, f1, f2, f3, f4, f5, f6, f7, f8, f9, f10, f11, f12⟩ := ou_free15 HZ.out
      obtain ⟨r0, r1, r2, r3, r4, r5, r6, r7, r8, r9, r10, r11, r12, hcs⟩ := ro_put15 HZ.out rfl 0 0 0 0 ([]) 0 0 0 0 0 0 0 none 0 0
      have RR := Lib.hid (And.intro r0 (And.intro r1 (And.intro r2 (And.intro r3 (And.intro r4 (And.intro r5 (And.intro r6 (And.intro r7 (And.intro r8 (And.intro r9 (And.intro r10 (And.intro r11 r12))))))))))))
      have HF := Lib.hid (fresh_set HX.out hcs HQ.out)
      clear r0 r1 r2 r3 r4 r5 r6 r7 r8 r9 r10 r11 r12 hcs
      go_wp2_with fail
      obtain ⟨r0, r1, r2, r3, r4, r5, r6, r7, r8, r9, r10, r11, r12⟩ := RR.out
      exact bodyPost_ret (v := .tuple #[.agg #[.int .i64 0, .int .i64 0, .int .i64 0, .int .i64 0, .string ⟨#[]⟩, .int .i64 0, .int .i64 0, .int .i64 0, .int .i64 0, .int .i64 0, .int .i64 0, .int .i64 0, .slice none 0 0], .int .i64 0]) (by simp [results, Try.results16, go_sem, r0, r1, r2, r3, r4, r5, r6, r7, r8, r9, r10, r11, r12]) rfl ⟨none, 0, 0, rfl, BsM15.nil _, HF.out⟩
    · subst hx
      have hs2 := fun (W : World) (A : Option Addr) (c : Nat) (hW : BsM15 W A nm c m) => rsent15_any k' o' f' t' p' g' i' A nm c m W (by have := HNM.out; have := HLM.out; omega) hW
      rw [hsn, show fwd15 k o f t p g i ao ag b = v from HV.out] at hs2
      have HS := Lib.hid hs2
      clear hs2 hsn HOR
      obtain ⟨z0, z1, z2, z3, z4, z5, z6, z7⟩ := pk_cells HB4.out
      go_wp2_with fail
      refine (HS.out _ _ _ HM4.out).mono ?_
      rintro e w6 ⟨A3, n3, c3, rfl, hm3, hc⟩
      unfold roC15
      have HM3 := Lib.hid hm3
      replace HZ := Lib.hid (HZ.out.chg hc id)
      replace HX := Lib.hid (HX.out.trans hc (fun _ _ e => e))
      clear z0 z1 z2 z3 z4 z5 z6 z7 hc hm3
      obtain ⟨x0, x1, x2, x3, x4, x5, x6, x7, x8, x9, x10, x11, x12⟩ := ro_cells15 HZ.out
      obtain ⟨f0, f1, f2, f3, f4, f5, f6, f7, f8, f9, f10, f11, f12⟩ := ou_free15 HZ.out
      obtain ⟨r0, r1, r2, r3, r4, r5, r6, r7, r8, r9, r10, r11, r12, hcs⟩ := ro_put15 HZ.out rfl v.kd v.po v.ge v.st v.fb v.k v.o v.f v.t v.p v.g v.i A3 n3 c3
      have RR := Lib.hid (And.intro r0 (And.intro r1 (And.intro r2 (And.intro r3 (And.intro r4 (And.intro r5 (And.intro r6 (And.intro r7 (And.intro r8 (And.intro r9 (And.intro r10 (And.intro r11 r12))))))))))))
      have HF := Lib.hid (fresh_set HX.out hcs HQ.out)
      replace HM3 := Lib.hid (HM3.out.put HZ.out noU8_ro hcs)
      clear r0 r1 r2 r3 r4 r5 r6 r7 r8 r9 r10 r11 r12 hcs
      go_wp2_with fail
      obtain ⟨r0, r1, r2, r3, r4, r5, r6, r7, r8, r9, r10, r11, r12⟩ := RR.out
      exact bodyPost_ret (v := .tuple #[.agg #[.int .i64 v.kd, .int .i64 v.po, .int .i64 v.ge, .int .i64 v.st, .string ⟨v.fb.toArray⟩, .int .i64 v.k, .int .i64 v.o, .int .i64 v.f, .int .i64 v.t, .int .i64 v.p, .int .i64 v.g, .int .i64 v.i, .slice A3 n3 c3], .int .i64 0]) (by simp [results, Try.results16, go_sem, r0, r1, r2, r3, r4, r5, r6, r7, r8, r9, r10, r11, r12]) rfl ⟨A3, n3, c3, rfl, HM3.out, HF.out⟩
  obtain rfl : v = zOV := by rw [← HV.out]; exact tu15_no hx1 hx2 ..
  have t1 : (ak == 1) = false := by simpa using hx1
  have t2 : (ak == 2) = false := by simpa using hx2
  clear hx1 hx2
  obtain ⟨a0, a1, a2, a3⟩ := ac_cells13 HB3.out
  obtain ⟨x0, x1, x2, x3, x4, x5, x6, x7, x8, x9, x10, x11, x12⟩ := ro_cells15 HZ.out
  obtain ⟨f0, f1, f2, f3, f4, f5, f6, f7, f8, f9, f10, f11, f12⟩ := ou_free15 HZ.out
  obtain ⟨r0, r1, r2, r3, r4, r5, r6, r7, r8, r9, r10, r11, r12, hcs⟩ := ro_put15 HZ.out rfl 0 0 0 0 ([]) 0 0 0 0 0 0 0 none 0 0
  have RR := Lib.hid (And.intro r0 (And.intro r1 (And.intro r2 (And.intro r3 (And.intro r4 (And.intro r5 (And.intro r6 (And.intro r7 (And.intro r8 (And.intro r9 (And.intro r10 (And.intro r11 r12))))))))))))
  have HF := Lib.hid (fresh_set HX.out hcs HQ.out)
  clear r0 r1 r2 r3 r4 r5 r6 r7 r8 r9 r10 r11 r12 hcs
  go_wp2_with fail
  obtain ⟨r0, r1, r2, r3, r4, r5, r6, r7, r8, r9, r10, r11, r12⟩ := RR.out
  exact bodyPost_ret (v := .tuple #[.agg #[.int .i64 0, .int .i64 0, .int .i64 0, .int .i64 0, .string ⟨#[]⟩, .int .i64 0, .int .i64 0, .int .i64 0, .int .i64 0, .int .i64 0, .int .i64 0, .int .i64 0, .slice none 0 0], .int .i64 0]) (by simp [results, Try.results16, go_sem, r0, r1, r2, r3, r4, r5, r6, r7, r8, r9, r10, r11, r12]) rfl ⟨none, 0, 0, rfl, BsM15.nil _, HF.out⟩

end Go.Proofs.Ytacbgelbffmngaa
