/-
  Walk: control.Decode. Conditions: the bytes are read in memory.
-/
import Derived.Test.YtalfbijcjghemaaUm
namespace Go.Proofs.Ytalfbijcjghemaa
open Go.RowKit
set_option linter.unusedVariables false

def zeroM : Value := .agg (msC 0 0 0 0 0 0 0 0 0 0 0 0 none 0 0)
/-- What a call that makes a message hands back, in letters. -/
def Hd6 (m : MV) (x : Int) (w : World) (e : Ending) (w' : World) : Prop :=
  ∃ A c, e = .returned (.tuple #[.agg (msC m.kd m.po m.ma m.ow m.ta m.ol m.ge m.ph m.ve m.si m.pt m.vr A m.l.length c), .int .i64 x]) ∧ RcR w' (fun _ => True) A m.l.length m.l ∧ Chg (fun _ => False) w w'
def Dec6 (b : List UInt8) (w : World) (e : Ending) (w' : World) : Prop := Hd6 (cM b) (cX b) w e w'
theorem dec6_no {b : List UInt8} (h : cOK b = false) {w w' : World} {e : Ending} (hh : e = .returned (.tuple #[zeroM, .int .i64 2]) ∧ Chg (fun _ => False) w w') : Dec6 b w e w' := by
  unfold Dec6
  rw [cM_no h, cX_no h]
  exact ⟨none, 0, hh.1, RcR.nil _ _ _, hh.2⟩
theorem dec6_hd {b : List UInt8} (h : cOK b = true) {m : MV} (hm : cV b = m) {w w' : World} {e : Ending} (hh : Hd6 m 0 w e w') : Dec6 b w e w' := by
  unfold Dec6
  rw [cM_yes h, cX_yes h, hm]
  exact hh

set_option maxHeartbeats 1000000 in
theorem cdec_long (A : Option Addr) (n c : Nat) (b : List UInt8) (w : World) (hn : n = b.length) (h15 : 313 < n) (hn2 : n ≤ 9223372036854775807) :
    Calls Try.prog 14 #[.slice A n c] w (Dec6 b w) := by
  have HNO := Lib.hid (cdc_le (b := b) (by omega))
  clear hn
  go_enter Try.func14, Try.ntmps14
  go_wp2_with fail
  exact bodyPost_ret (v := .tuple #[zeroM, .int .i64 2]) (by simp [results, Try.results14, go_sem, zeroM, msC]) rfl (dec6_no HNO.out ⟨rfl, (Chg.refl _ w).alloc _⟩)

set_option maxHeartbeats 1000000 in
theorem cdec_1 (A : Option Addr) (n c : Nat) (b : List UInt8) (S : Nat → Prop) (w : World) (hn : n = b.length) (h : Rds w S A n (bcs b)) (hz : A = none → c = 0) (h15 : n ≤ 313) (hk : cK b = 1) :
    Calls Try.prog 14 #[.slice A n c] w (Dec6 b w) := by
  have HDOK := Lib.hid (cOK_1 hk)
  have HV := Lib.hid (cV_1 hk)
  have HK := Lib.hid hk
  clear hk
  have HR : Hid (Blk (w.alloc (.cells #[.int .i64 0, .int .i64 0, .int .u64 0, .int .i64 0, .int .i64 0, .int .i64 0, .int .i64 0, .int .i64 0, .int .i64 0, .int .i64 0, .int .i64 0, .int .i64 0, .slice none 0 0] 28)) w.heap.size 28 (msC 0 0 0 0 0 0 0 0 0 0 0 0 none 0 0)) := Lib.hid (blk_new rfl)
  have HC := Lib.hid ((Chg.refl (fun _ => False) w).alloc (.cells #[.int .i64 0, .int .i64 0, .int .u64 0, .int .i64 0, .int .i64 0, .int .i64 0, .int .i64 0, .int .i64 0, .int .i64 0, .int .i64 0, .int .i64 0, .int .i64 0, .slice none 0 0] 28))
  have HZ := Lib.hid (show (w.alloc (.cells #[.int .i64 0, .int .i64 0, .int .u64 0, .int .i64 0, .int .i64 0, .int .i64 0, .int .i64 0, .int .i64 0, .int .i64 0, .int .i64 0, .int .i64 0, .int .i64 0, .slice none 0 0] 28)).heap.size = w.heap.size + 1 by simp)
  have HRDD := Lib.hid (read_any A n c b _ _ hn (h.alloc (.cells #[.int .i64 0, .int .i64 0, .int .u64 0, .int .i64 0, .int .i64 0, .int .i64 0, .int .i64 0, .int .i64 0, .int .i64 0, .int .i64 0, .int .i64 0, .int .i64 0, .slice none 0 0] 28)) hz (by omega))
  clear h hn hz
  go_enter Try.func14, Try.ntmps14
  go_wp2_with fail
  refine HRDD.out.mono ?_
  rintro e w0 ⟨p, rfl, hp, hrd, hc1⟩
  have hz := HZ.out
  have hrp : w.heap.size < p := by omega
  have HRD := Lib.hid (hrd.mono (S' := fun k => w.heap.size < k ∧ k < p) (fun k hk => by omega) (by omega))
  replace HR := Lib.hid (HR.out.chg hc1 id)
  replace HC := Lib.hid (HC.out.trans hc1 (fun _ _ e => e))
  clear HRDD HZ hz hp hrd hc1
  have HG : Hid (Calls Try.prog 31 #[.pointer (some ⟨p, 0, none⟩), .int .i64 1] w0 fun e w' => e = .returned (.int .i64 1) ∧ Rd 83 true w' p (fun k => w.heap.size < k ∧ k < p) (cS1 b) ∧ Chg (fun k => k = p) w0 w') := Lib.hid (by
    have hg := cget p 1 _ (some b) w0 HRD.out
    rw [show gv 1 (some b) = 1 from HK.out] at hg
    exact hg)
  go_wp2_with fail
  refine HG.out.mono ?_
  rintro e w1 ⟨rfl, hrd, hc'⟩
  replace HC := Lib.hid (fresh_set HC.out hc' (by omega))
  replace HR := Lib.hid (HR.out.chg hc' (by omega))
  have hpq := hrd.lt
  have HQ : Hid (Blk (w1.alloc (.cells #[.int .i64 1, .int .i64 0, .int .u64 0, .int .i64 0, .int .i64 0, .int .i64 0, .int .i64 0, .int .i64 0, .int .i64 0, .int .i64 0, .int .i64 0, .int .i64 0, .slice none 0 0] 28)) w1.heap.size 28 (msC 1 0 0 0 0 0 0 0 0 0 0 0 none 0 0)) := Lib.hid (blk_new rfl)
  have hca := (Chg.refl (fun _ => False) w1).alloc (.cells #[.int .i64 1, .int .i64 0, .int .u64 0, .int .i64 0, .int .i64 0, .int .i64 0, .int .i64 0, .int .i64 0, .int .i64 0, .int .i64 0, .int .i64 0, .int .i64 0, .slice none 0 0] 28)
  replace HRD := Lib.hid (hrd.chg hca id (fun _ _ => id))
  replace HC := Lib.hid (HC.out.trans hca (fun _ _ e => e))
  replace HR := Lib.hid (HR.out.chg hca id)
  clear HG hrd hc' hca
  have HG := Lib.hid (getrow_any p _ (cS1 b) _ HRD.out (fun k hk => hk.2))
  unfold rvC at HG
  go_wp2_with fail
  refine HG.out.mono ?_
  rintro e v1 ⟨rfl, hrd, hc'⟩
  replace HC := Lib.hid (fresh_set HC.out hc' (by omega))
  replace HR := Lib.hid (HR.out.chg hc' (by omega))
  replace HQ := Lib.hid (HQ.out.chg hc' (by omega))
  replace HRD := Lib.hid hrd
  clear HG hrd hc'
  obtain ⟨y0, y1, y2, y3, y4, y5, y6, y7, y8, y9, y10, y11, y12⟩ := ms_cells HQ.out
  obtain ⟨u0, u1, u2, u3, u4, u5, u6, u7, u8, u9, u10, u11, u12⟩ := ms_free HQ.out
  have hset := (((((((((HQ.out).set 1 (.int .i64 (rv (cS1 b) 0))).set 2 (.int .u64 (rv (cS1 b) 1))).set 3 (.int .i64 (rv (cS1 b) 2 - 1))).set 4 (.int .i64 (rv (cS1 b) 3 - 1))).set 5 (.int .i64 (rv (cS1 b) 4 - 1))).set 6 (.int .i64 (rv (cS1 b) 6))).set 7 (.int .i64 (rv (cS1 b) 5))).set 8 (.int .i64 (rv (cS1 b) 7))).set 9 (.int .i64 (rv (cS1 b) 8))
  simp only [msC, List.setIfInBounds_toArray, List.set_cons_succ, List.set_cons_zero] at hset
  have hset : Blk _ _ 28 (msC 1 (rv (cS1 b) 0) (rv (cS1 b) 1) (rv (cS1 b) 2 - 1) (rv (cS1 b) 3 - 1) (rv (cS1 b) 4 - 1) (rv (cS1 b) 6) (rv (cS1 b) 5) (rv (cS1 b) 7) (rv (cS1 b) 8) 0 0 none 0 0) := hset
  have hcs : Chg (fun k => k = w1.heap.size) _ _ := (((((((((Chg.refl (fun k => k = w1.heap.size) v1).put w1.heap.size 1 (fun _ => rfl) (.int .i64 (rv (cS1 b) 0))).put w1.heap.size 2 (fun _ => rfl) (.int .u64 (rv (cS1 b) 1))).put w1.heap.size 3 (fun _ => rfl) (.int .i64 (rv (cS1 b) 2 - 1))).put w1.heap.size 4 (fun _ => rfl) (.int .i64 (rv (cS1 b) 3 - 1))).put w1.heap.size 5 (fun _ => rfl) (.int .i64 (rv (cS1 b) 4 - 1))).put w1.heap.size 6 (fun _ => rfl) (.int .i64 (rv (cS1 b) 6))).put w1.heap.size 7 (fun _ => rfl) (.int .i64 (rv (cS1 b) 5))).put w1.heap.size 8 (fun _ => rfl) (.int .i64 (rv (cS1 b) 7))).put w1.heap.size 9 (fun _ => rfl) (.int .i64 (rv (cS1 b) 8))
  replace HC := Lib.hid (fresh_set HC.out hcs (by omega))
  replace HR := Lib.hid (HR.out.chg hcs (by omega))
  replace HRD := Lib.hid (HRD.out.chg hcs (by omega) (fun k hk => by have := hk.2; omega))
  replace HQ := Lib.hid hset
  clear hset hcs
  have HG := Lib.hid (rdone_any p _ _ _ HRD.out)
  generalize hdn : doneS (rs (cS1 b) 9) = dn at *
  clear hdn
  go_wp2_with fail
  clear y0 y1 y2 y3 y4 y5 y6 y7 y8 y9 y10 y11 y12 u0 u1 u2 u3 u4 u5 u6 u7 u8 u9 u10 u11 u12
  refine HG.out.mono ?_
  rintro e v9 ⟨rfl, rfl⟩
  obtain ⟨y0, y1, y2, y3, y4, y5, y6, y7, y8, y9, y10, y11, y12⟩ := ms_cells HQ.out
  by_cases q0 : dn = 0
  case neg =>
    have t0 : (dn == 0) = false := by simpa using q0
    have s0 : (dn != 0) = true := by simpa using q0
    have HNO := Lib.hid (show cOK b = false by rw [HDOK.out, t0]; rfl)
    clear q0
    obtain ⟨x0, x1, x2, x3, x4, x5, x6, x7, x8, x9, x10, x11, x12⟩ := ms_cells HR.out
    obtain ⟨u0, u1, u2, u3, u4, u5, u6, u7, u8, u9, u10, u11, u12⟩ := ms_free HR.out
    obtain ⟨r0, r1, r2, r3, r4, r5, r6, r7, r8, r9, r10, r11, r12, _, hcs⟩ := ms_put HR.out 0 0 0 0 0 0 0 0 0 0 0 0 none 0 0
    have HF := Lib.hid (fresh_set HC.out hcs (Nat.le_refl _))
    have RR := Lib.hid (And.intro r0 (And.intro r1 (And.intro r2 (And.intro r3 (And.intro r4 (And.intro r5 (And.intro r6 (And.intro r7 (And.intro r8 (And.intro r9 (And.intro r10 (And.intro r11 (r12)))))))))))))
    clear r0 r1 r2 r3 r4 r5 r6 r7 r8 r9 r10 r11 r12 hcs
    go_wp2_with fail
    obtain ⟨r0, r1, r2, r3, r4, r5, r6, r7, r8, r9, r10, r11, r12⟩ := RR.out
    exact bodyPost_ret (v := .tuple #[zeroM, .int .i64 2]) (by simp [results, Try.results14, go_sem, zeroM, msC, r0, r1, r2, r3, r4, r5, r6, r7, r8, r9, r10, r11, r12]) rfl (dec6_no HNO.out ⟨rfl, HF.out⟩)
  subst q0
  have hrt := fun W => cright_any 1 (rv (cS1 b) 0) (rv (cS1 b) 1) (rv (cS1 b) 2 - 1) (rv (cS1 b) 3 - 1) (rv (cS1 b) 4 - 1) (rv (cS1 b) 6) (rv (cS1 b) 5) (rv (cS1 b) 7) (rv (cS1 b) 8) 0 0 none 0 0 ([]) (fun _ => True) W (RcR.nil _ _ _) (by decide)
  have HD2 := Lib.hid (show cOK b = msR 1 (rv (cS1 b) 0) (rv (cS1 b) 1) (rv (cS1 b) 2 - 1) (rv (cS1 b) 3 - 1) (rv (cS1 b) 4 - 1) (rv (cS1 b) 6) (rv (cS1 b) 5) (rv (cS1 b) 7) (rv (cS1 b) 8) 0 0 ([]) by rw [HDOK.out]; rfl)
  generalize msR 1 (rv (cS1 b) 0) (rv (cS1 b) 1) (rv (cS1 b) 2 - 1) (rv (cS1 b) 3 - 1) (rv (cS1 b) 4 - 1) (rv (cS1 b) 6) (rv (cS1 b) 5) (rv (cS1 b) 7) (rv (cS1 b) 8) 0 0 ([]) = r at *
  unfold msC at hrt
  have HRT := Lib.hid hrt
  clear hrt
  cases r with
  | false =>
    go_wp2_with fail
    refine (HRT.out _).mono ?_
    rintro e v10 ⟨rfl, hc'⟩
    replace HR := Lib.hid (HR.out.chg hc' id)
    replace HC := Lib.hid (HC.out.trans hc' (fun _ _ e => e))
    clear hc' HRT y0 y1 y2 y3 y4 y5 y6 y7 y8 y9 y10 y11 y12
    obtain ⟨x0, x1, x2, x3, x4, x5, x6, x7, x8, x9, x10, x11, x12⟩ := ms_cells HR.out
    obtain ⟨u0, u1, u2, u3, u4, u5, u6, u7, u8, u9, u10, u11, u12⟩ := ms_free HR.out
    obtain ⟨r0, r1, r2, r3, r4, r5, r6, r7, r8, r9, r10, r11, r12, _, hcs⟩ := ms_put HR.out 0 0 0 0 0 0 0 0 0 0 0 0 none 0 0
    have HF := Lib.hid (fresh_set HC.out hcs (Nat.le_refl _))
    have RR := Lib.hid (And.intro r0 (And.intro r1 (And.intro r2 (And.intro r3 (And.intro r4 (And.intro r5 (And.intro r6 (And.intro r7 (And.intro r8 (And.intro r9 (And.intro r10 (And.intro r11 (r12)))))))))))))
    clear r0 r1 r2 r3 r4 r5 r6 r7 r8 r9 r10 r11 r12 hcs
    go_wp2_with fail
    obtain ⟨r0, r1, r2, r3, r4, r5, r6, r7, r8, r9, r10, r11, r12⟩ := RR.out
    exact bodyPost_ret (v := .tuple #[zeroM, .int .i64 2]) (by simp [results, Try.results14, go_sem, zeroM, msC, r0, r1, r2, r3, r4, r5, r6, r7, r8, r9, r10, r11, r12]) rfl (dec6_no HD2.out ⟨rfl, HF.out⟩)
  | true =>
    go_wp2_with fail
    refine (HRT.out _).mono ?_
    rintro e v10 ⟨rfl, hc'⟩
    replace HR := Lib.hid (HR.out.chg hc' id)
    replace HQ := Lib.hid (HQ.out.chg hc' id)
    replace HC := Lib.hid (HC.out.trans hc' (fun _ _ e => e))
    clear hc' HRT y0 y1 y2 y3 y4 y5 y6 y7 y8 y9 y10 y11 y12
    obtain ⟨y0, y1, y2, y3, y4, y5, y6, y7, y8, y9, y10, y11, y12⟩ := ms_cells HQ.out
    obtain ⟨x0, x1, x2, x3, x4, x5, x6, x7, x8, x9, x10, x11, x12⟩ := ms_cells HR.out
    obtain ⟨u0, u1, u2, u3, u4, u5, u6, u7, u8, u9, u10, u11, u12⟩ := ms_free HR.out
    obtain ⟨r0, r1, r2, r3, r4, r5, r6, r7, r8, r9, r10, r11, r12, _, hcs⟩ := ms_put HR.out 1 (rv (cS1 b) 0) (rv (cS1 b) 1) (rv (cS1 b) 2 - 1) (rv (cS1 b) 3 - 1) (rv (cS1 b) 4 - 1) (rv (cS1 b) 6) (rv (cS1 b) 5) (rv (cS1 b) 7) (rv (cS1 b) 8) 0 0 none 0 0
    have HF := Lib.hid (fresh_set HC.out hcs (Nat.le_refl _))
    have RR := Lib.hid (And.intro r0 (And.intro r1 (And.intro r2 (And.intro r3 (And.intro r4 (And.intro r5 (And.intro r6 (And.intro r7 (And.intro r8 (And.intro r9 (And.intro r10 (And.intro r11 (r12)))))))))))))
    clear r0 r1 r2 r3 r4 r5 r6 r7 r8 r9 r10 r11 r12 hcs
    go_wp2_with fail
    obtain ⟨r0, r1, r2, r3, r4, r5, r6, r7, r8, r9, r10, r11, r12⟩ := RR.out
    exact bodyPost_ret (v := .tuple #[.agg (msC 1 (rv (cS1 b) 0) (rv (cS1 b) 1) (rv (cS1 b) 2 - 1) (rv (cS1 b) 3 - 1) (rv (cS1 b) 4 - 1) (rv (cS1 b) 6) (rv (cS1 b) 5) (rv (cS1 b) 7) (rv (cS1 b) 8) 0 0 none 0 0), .int .i64 0]) (by simp [results, Try.results14, go_sem, msC, r0, r1, r2, r3, r4, r5, r6, r7, r8, r9, r10, r11, r12]) rfl (dec6_hd HD2.out HV.out ⟨none, 0, rfl, RcR.nil _ _ _, HF.out⟩)

set_option maxHeartbeats 1000000 in
theorem cdec_2 (A : Option Addr) (n c : Nat) (b : List UInt8) (S : Nat → Prop) (w : World) (hn : n = b.length) (h : Rds w S A n (bcs b)) (hz : A = none → c = 0) (h15 : n ≤ 313) (hk : cK b = 2) :
    Calls Try.prog 14 #[.slice A n c] w (Dec6 b w) := by
  have HDOK := Lib.hid (cOK_2 hk)
  have HV := Lib.hid (cV_2 hk)
  have HK := Lib.hid hk
  clear hk
  have HR : Hid (Blk (w.alloc (.cells #[.int .i64 0, .int .i64 0, .int .u64 0, .int .i64 0, .int .i64 0, .int .i64 0, .int .i64 0, .int .i64 0, .int .i64 0, .int .i64 0, .int .i64 0, .int .i64 0, .slice none 0 0] 28)) w.heap.size 28 (msC 0 0 0 0 0 0 0 0 0 0 0 0 none 0 0)) := Lib.hid (blk_new rfl)
  have HC := Lib.hid ((Chg.refl (fun _ => False) w).alloc (.cells #[.int .i64 0, .int .i64 0, .int .u64 0, .int .i64 0, .int .i64 0, .int .i64 0, .int .i64 0, .int .i64 0, .int .i64 0, .int .i64 0, .int .i64 0, .int .i64 0, .slice none 0 0] 28))
  have HZ := Lib.hid (show (w.alloc (.cells #[.int .i64 0, .int .i64 0, .int .u64 0, .int .i64 0, .int .i64 0, .int .i64 0, .int .i64 0, .int .i64 0, .int .i64 0, .int .i64 0, .int .i64 0, .int .i64 0, .slice none 0 0] 28)).heap.size = w.heap.size + 1 by simp)
  have HRDD := Lib.hid (read_any A n c b _ _ hn (h.alloc (.cells #[.int .i64 0, .int .i64 0, .int .u64 0, .int .i64 0, .int .i64 0, .int .i64 0, .int .i64 0, .int .i64 0, .int .i64 0, .int .i64 0, .int .i64 0, .int .i64 0, .slice none 0 0] 28)) hz (by omega))
  clear h hn hz
  go_enter Try.func14, Try.ntmps14
  go_wp2_with fail
  refine HRDD.out.mono ?_
  rintro e w0 ⟨p, rfl, hp, hrd, hc1⟩
  have hz := HZ.out
  have hrp : w.heap.size < p := by omega
  have HRD := Lib.hid (hrd.mono (S' := fun k => w.heap.size < k ∧ k < p) (fun k hk => by omega) (by omega))
  replace HR := Lib.hid (HR.out.chg hc1 id)
  replace HC := Lib.hid (HC.out.trans hc1 (fun _ _ e => e))
  clear HRDD HZ hz hp hrd hc1
  have HG : Hid (Calls Try.prog 31 #[.pointer (some ⟨p, 0, none⟩), .int .i64 1] w0 fun e w' => e = .returned (.int .i64 2) ∧ Rd 83 true w' p (fun k => w.heap.size < k ∧ k < p) (cS1 b) ∧ Chg (fun k => k = p) w0 w') := Lib.hid (by
    have hg := cget p 1 _ (some b) w0 HRD.out
    rw [show gv 1 (some b) = 2 from HK.out] at hg
    exact hg)
  go_wp2_with fail
  refine HG.out.mono ?_
  rintro e w1 ⟨rfl, hrd, hc'⟩
  replace HC := Lib.hid (fresh_set HC.out hc' (by omega))
  replace HR := Lib.hid (HR.out.chg hc' (by omega))
  have hpq := hrd.lt
  have HQ : Hid (Blk (w1.alloc (.cells #[.int .i64 2, .int .i64 0, .int .u64 0, .int .i64 0, .int .i64 0, .int .i64 0, .int .i64 0, .int .i64 0, .int .i64 0, .int .i64 0, .int .i64 0, .int .i64 0, .slice none 0 0] 28)) w1.heap.size 28 (msC 2 0 0 0 0 0 0 0 0 0 0 0 none 0 0)) := Lib.hid (blk_new rfl)
  have hca := (Chg.refl (fun _ => False) w1).alloc (.cells #[.int .i64 2, .int .i64 0, .int .u64 0, .int .i64 0, .int .i64 0, .int .i64 0, .int .i64 0, .int .i64 0, .int .i64 0, .int .i64 0, .int .i64 0, .int .i64 0, .slice none 0 0] 28)
  replace HRD := Lib.hid (hrd.chg hca id (fun _ _ => id))
  replace HC := Lib.hid (HC.out.trans hca (fun _ _ e => e))
  replace HR := Lib.hid (HR.out.chg hca id)
  clear HG hrd hc' hca
  have HG := Lib.hid (show Calls _ _ _ _ (fun e w' => e = .returned (.int .i64 (cPt b)) ∧ Rd 83 true w' p _ (cS2 b) ∧ Chg (fun k => k = p) _ w') from cget p 1 _ (cS1 b) _ HRD.out)
  go_wp2_with fail
  refine HG.out.mono ?_
  rintro e v1 ⟨rfl, hrd, hc'⟩
  replace HC := Lib.hid (fresh_set HC.out hc' (by omega))
  replace HR := Lib.hid (HR.out.chg hc' (by omega))
  replace HQ := Lib.hid (HQ.out.chg hc' (by omega))
  replace HRD := Lib.hid hrd
  clear HG hrd hc'
  have HG := Lib.hid (show Calls _ _ _ _ (fun e w' => e = .returned (.int .i64 (cVr b)) ∧ Rd 83 true w' p _ (cS3 b) ∧ Chg (fun k => k = p) _ w') from cget p 6 _ (cS2 b) _ HRD.out)
  go_wp2_with fail
  refine HG.out.mono ?_
  rintro e v2 ⟨rfl, hrd, hc'⟩
  replace HC := Lib.hid (fresh_set HC.out hc' (by omega))
  replace HR := Lib.hid (HR.out.chg hc' (by omega))
  replace HQ := Lib.hid (HQ.out.chg hc' (by omega))
  replace HRD := Lib.hid hrd
  clear HG hrd hc'
  obtain ⟨y0, y1, y2, y3, y4, y5, y6, y7, y8, y9, y10, y11, y12⟩ := ms_cells HQ.out
  obtain ⟨u0, u1, u2, u3, u4, u5, u6, u7, u8, u9, u10, u11, u12⟩ := ms_free HQ.out
  have hset := ((HQ.out).set 10 (.int .i64 (cPt b))).set 11 (.int .i64 (cVr b))
  simp only [msC, List.setIfInBounds_toArray, List.set_cons_succ, List.set_cons_zero] at hset
  have hset : Blk _ _ 28 (msC 2 0 0 0 0 0 0 0 0 0 (cPt b) (cVr b) none 0 0) := hset
  have hcs : Chg (fun k => k = w1.heap.size) _ _ := ((Chg.refl (fun k => k = w1.heap.size) v2).put w1.heap.size 10 (fun _ => rfl) (.int .i64 (cPt b))).put w1.heap.size 11 (fun _ => rfl) (.int .i64 (cVr b))
  replace HC := Lib.hid (fresh_set HC.out hcs (by omega))
  replace HR := Lib.hid (HR.out.chg hcs (by omega))
  replace HRD := Lib.hid (HRD.out.chg hcs (by omega) (fun k hk => by have := hk.2; omega))
  replace HQ := Lib.hid hset
  clear hset hcs
  have HG := Lib.hid (rdone_any p _ _ _ HRD.out)
  generalize hdn : doneS (cS3 b) = dn at *
  clear hdn
  go_wp2_with fail
  clear y0 y1 y2 y3 y4 y5 y6 y7 y8 y9 y10 y11 y12 u0 u1 u2 u3 u4 u5 u6 u7 u8 u9 u10 u11 u12
  refine HG.out.mono ?_
  rintro e v9 ⟨rfl, rfl⟩
  obtain ⟨y0, y1, y2, y3, y4, y5, y6, y7, y8, y9, y10, y11, y12⟩ := ms_cells HQ.out
  by_cases q0 : dn = 0
  case neg =>
    have t0 : (dn == 0) = false := by simpa using q0
    have s0 : (dn != 0) = true := by simpa using q0
    have HNO := Lib.hid (show cOK b = false by rw [HDOK.out, t0]; rfl)
    clear q0
    obtain ⟨x0, x1, x2, x3, x4, x5, x6, x7, x8, x9, x10, x11, x12⟩ := ms_cells HR.out
    obtain ⟨u0, u1, u2, u3, u4, u5, u6, u7, u8, u9, u10, u11, u12⟩ := ms_free HR.out
    obtain ⟨r0, r1, r2, r3, r4, r5, r6, r7, r8, r9, r10, r11, r12, _, hcs⟩ := ms_put HR.out 0 0 0 0 0 0 0 0 0 0 0 0 none 0 0
    have HF := Lib.hid (fresh_set HC.out hcs (Nat.le_refl _))
    have RR := Lib.hid (And.intro r0 (And.intro r1 (And.intro r2 (And.intro r3 (And.intro r4 (And.intro r5 (And.intro r6 (And.intro r7 (And.intro r8 (And.intro r9 (And.intro r10 (And.intro r11 (r12)))))))))))))
    clear r0 r1 r2 r3 r4 r5 r6 r7 r8 r9 r10 r11 r12 hcs
    go_wp2_with fail
    obtain ⟨r0, r1, r2, r3, r4, r5, r6, r7, r8, r9, r10, r11, r12⟩ := RR.out
    exact bodyPost_ret (v := .tuple #[zeroM, .int .i64 2]) (by simp [results, Try.results14, go_sem, zeroM, msC, r0, r1, r2, r3, r4, r5, r6, r7, r8, r9, r10, r11, r12]) rfl (dec6_no HNO.out ⟨rfl, HF.out⟩)
  subst q0
  have hrt := fun W => cright_any 2 0 0 0 0 0 0 0 0 0 (cPt b) (cVr b) none 0 0 ([]) (fun _ => True) W (RcR.nil _ _ _) (by decide)
  have HD2 := Lib.hid (show cOK b = msR 2 0 0 0 0 0 0 0 0 0 (cPt b) (cVr b) ([]) by rw [HDOK.out]; rfl)
  generalize msR 2 0 0 0 0 0 0 0 0 0 (cPt b) (cVr b) ([]) = r at *
  unfold msC at hrt
  have HRT := Lib.hid hrt
  clear hrt
  cases r with
  | false =>
    go_wp2_with fail
    refine (HRT.out _).mono ?_
    rintro e v10 ⟨rfl, hc'⟩
    replace HR := Lib.hid (HR.out.chg hc' id)
    replace HC := Lib.hid (HC.out.trans hc' (fun _ _ e => e))
    clear hc' HRT y0 y1 y2 y3 y4 y5 y6 y7 y8 y9 y10 y11 y12
    obtain ⟨x0, x1, x2, x3, x4, x5, x6, x7, x8, x9, x10, x11, x12⟩ := ms_cells HR.out
    obtain ⟨u0, u1, u2, u3, u4, u5, u6, u7, u8, u9, u10, u11, u12⟩ := ms_free HR.out
    obtain ⟨r0, r1, r2, r3, r4, r5, r6, r7, r8, r9, r10, r11, r12, _, hcs⟩ := ms_put HR.out 0 0 0 0 0 0 0 0 0 0 0 0 none 0 0
    have HF := Lib.hid (fresh_set HC.out hcs (Nat.le_refl _))
    have RR := Lib.hid (And.intro r0 (And.intro r1 (And.intro r2 (And.intro r3 (And.intro r4 (And.intro r5 (And.intro r6 (And.intro r7 (And.intro r8 (And.intro r9 (And.intro r10 (And.intro r11 (r12)))))))))))))
    clear r0 r1 r2 r3 r4 r5 r6 r7 r8 r9 r10 r11 r12 hcs
    go_wp2_with fail
    obtain ⟨r0, r1, r2, r3, r4, r5, r6, r7, r8, r9, r10, r11, r12⟩ := RR.out
    exact bodyPost_ret (v := .tuple #[zeroM, .int .i64 2]) (by simp [results, Try.results14, go_sem, zeroM, msC, r0, r1, r2, r3, r4, r5, r6, r7, r8, r9, r10, r11, r12]) rfl (dec6_no HD2.out ⟨rfl, HF.out⟩)
  | true =>
    go_wp2_with fail
    refine (HRT.out _).mono ?_
    rintro e v10 ⟨rfl, hc'⟩
    replace HR := Lib.hid (HR.out.chg hc' id)
    replace HQ := Lib.hid (HQ.out.chg hc' id)
    replace HC := Lib.hid (HC.out.trans hc' (fun _ _ e => e))
    clear hc' HRT y0 y1 y2 y3 y4 y5 y6 y7 y8 y9 y10 y11 y12
    obtain ⟨y0, y1, y2, y3, y4, y5, y6, y7, y8, y9, y10, y11, y12⟩ := ms_cells HQ.out
    obtain ⟨x0, x1, x2, x3, x4, x5, x6, x7, x8, x9, x10, x11, x12⟩ := ms_cells HR.out
    obtain ⟨u0, u1, u2, u3, u4, u5, u6, u7, u8, u9, u10, u11, u12⟩ := ms_free HR.out
    obtain ⟨r0, r1, r2, r3, r4, r5, r6, r7, r8, r9, r10, r11, r12, _, hcs⟩ := ms_put HR.out 2 0 0 0 0 0 0 0 0 0 (cPt b) (cVr b) none 0 0
    have HF := Lib.hid (fresh_set HC.out hcs (Nat.le_refl _))
    have RR := Lib.hid (And.intro r0 (And.intro r1 (And.intro r2 (And.intro r3 (And.intro r4 (And.intro r5 (And.intro r6 (And.intro r7 (And.intro r8 (And.intro r9 (And.intro r10 (And.intro r11 (r12)))))))))))))
    clear r0 r1 r2 r3 r4 r5 r6 r7 r8 r9 r10 r11 r12 hcs
    go_wp2_with fail
    obtain ⟨r0, r1, r2, r3, r4, r5, r6, r7, r8, r9, r10, r11, r12⟩ := RR.out
    exact bodyPost_ret (v := .tuple #[.agg (msC 2 0 0 0 0 0 0 0 0 0 (cPt b) (cVr b) none 0 0), .int .i64 0]) (by simp [results, Try.results14, go_sem, msC, r0, r1, r2, r3, r4, r5, r6, r7, r8, r9, r10, r11, r12]) rfl (dec6_hd HD2.out HV.out ⟨none, 0, rfl, RcR.nil _ _ _, HF.out⟩)

set_option maxHeartbeats 1000000 in
theorem cdec_9 (A : Option Addr) (n c : Nat) (b : List UInt8) (S : Nat → Prop) (w : World) (hn : n = b.length) (h : Rds w S A n (bcs b)) (hz : A = none → c = 0) (h15 : n ≤ 313) (h1 : cK b ≠ 1) (h2 : cK b ≠ 2) (h3 : cK b ≠ 3) :
    Calls Try.prog 14 #[.slice A n c] w (Dec6 b w) := by
  have HNO := Lib.hid (cOK_9 h1 h2 h3)
  obtain ⟨K, hK⟩ : ∃ K, K = cK b := ⟨_, rfl⟩
  rw [← hK] at h1 h2 h3
  have t1 : (K == 1) = false := by simpa using h1
  have t2 : (K == 2) = false := by simpa using h2
  have t3 : (K == 3) = false := by simpa using h3
  have HK := Lib.hid hK.symm
  have HRF := Lib.hid (show ∀ l, msR K 0 0 0 0 0 0 0 0 0 0 0 l = false from fun l => by unfold msR; rw [if_neg h1, if_neg h2, if_neg h3])
  clear h1 h2 h3 hK
  have HR : Hid (Blk (w.alloc (.cells #[.int .i64 0, .int .i64 0, .int .u64 0, .int .i64 0, .int .i64 0, .int .i64 0, .int .i64 0, .int .i64 0, .int .i64 0, .int .i64 0, .int .i64 0, .int .i64 0, .slice none 0 0] 28)) w.heap.size 28 (msC 0 0 0 0 0 0 0 0 0 0 0 0 none 0 0)) := Lib.hid (blk_new rfl)
  have HC := Lib.hid ((Chg.refl (fun _ => False) w).alloc (.cells #[.int .i64 0, .int .i64 0, .int .u64 0, .int .i64 0, .int .i64 0, .int .i64 0, .int .i64 0, .int .i64 0, .int .i64 0, .int .i64 0, .int .i64 0, .int .i64 0, .slice none 0 0] 28))
  have HZ := Lib.hid (show (w.alloc (.cells #[.int .i64 0, .int .i64 0, .int .u64 0, .int .i64 0, .int .i64 0, .int .i64 0, .int .i64 0, .int .i64 0, .int .i64 0, .int .i64 0, .int .i64 0, .int .i64 0, .slice none 0 0] 28)).heap.size = w.heap.size + 1 by simp)
  have HRDD := Lib.hid (read_any A n c b _ _ hn (h.alloc (.cells #[.int .i64 0, .int .i64 0, .int .u64 0, .int .i64 0, .int .i64 0, .int .i64 0, .int .i64 0, .int .i64 0, .int .i64 0, .int .i64 0, .int .i64 0, .int .i64 0, .slice none 0 0] 28)) hz (by omega))
  clear h hn hz
  go_enter Try.func14, Try.ntmps14
  go_wp2_with fail
  refine HRDD.out.mono ?_
  rintro e w0 ⟨p, rfl, hp, hrd, hc1⟩
  have hz := HZ.out
  have hrp : w.heap.size < p := by omega
  have HRD := Lib.hid (hrd.mono (S' := fun k => w.heap.size < k ∧ k < p) (fun k hk => by omega) (by omega))
  replace HR := Lib.hid (HR.out.chg hc1 id)
  replace HC := Lib.hid (HC.out.trans hc1 (fun _ _ e => e))
  clear HRDD HZ hz hp hrd hc1
  have HG : Hid (Calls Try.prog 31 #[.pointer (some ⟨p, 0, none⟩), .int .i64 1] w0 fun e w' => e = .returned (.int .i64 K) ∧ Rd 83 true w' p (fun k => w.heap.size < k ∧ k < p) (cS1 b) ∧ Chg (fun k => k = p) w0 w') := Lib.hid (by
    have hg := cget p 1 _ (some b) w0 HRD.out
    rw [show gv 1 (some b) = K from HK.out] at hg
    exact hg)
  go_wp2_with fail
  refine HG.out.mono ?_
  rintro e w1 ⟨rfl, hrd, hc'⟩
  replace HC := Lib.hid (fresh_set HC.out hc' (by omega))
  replace HR := Lib.hid (HR.out.chg hc' (by omega))
  have hpq := hrd.lt
  have HQ : Hid (Blk (w1.alloc (.cells #[.int .i64 K, .int .i64 0, .int .u64 0, .int .i64 0, .int .i64 0, .int .i64 0, .int .i64 0, .int .i64 0, .int .i64 0, .int .i64 0, .int .i64 0, .int .i64 0, .slice none 0 0] 28)) w1.heap.size 28 (msC K 0 0 0 0 0 0 0 0 0 0 0 none 0 0)) := Lib.hid (blk_new rfl)
  have hca := (Chg.refl (fun _ => False) w1).alloc (.cells #[.int .i64 K, .int .i64 0, .int .u64 0, .int .i64 0, .int .i64 0, .int .i64 0, .int .i64 0, .int .i64 0, .int .i64 0, .int .i64 0, .int .i64 0, .int .i64 0, .slice none 0 0] 28)
  replace HRD := Lib.hid (hrd.chg hca id (fun _ _ => id))
  replace HC := Lib.hid (HC.out.trans hca (fun _ _ e => e))
  replace HR := Lib.hid (HR.out.chg hca id)
  clear HG hrd hc' hca
  obtain ⟨y0, y1, y2, y3, y4, y5, y6, y7, y8, y9, y10, y11, y12⟩ := ms_cells HQ.out
  have HG := Lib.hid (rdone_any p _ _ _ HRD.out)
  generalize hdn : doneS (cS1 b) = dn at *
  clear hdn
  go_wp2_with fail
  refine HG.out.mono ?_
  rintro e v9 ⟨rfl, rfl⟩
  by_cases q0 : dn = 0
  case neg =>
    have t0 : (dn == 0) = false := by simpa using q0
    have s0 : (dn != 0) = true := by simpa using q0
    clear q0
    obtain ⟨x0, x1, x2, x3, x4, x5, x6, x7, x8, x9, x10, x11, x12⟩ := ms_cells HR.out
    obtain ⟨u0, u1, u2, u3, u4, u5, u6, u7, u8, u9, u10, u11, u12⟩ := ms_free HR.out
    obtain ⟨r0, r1, r2, r3, r4, r5, r6, r7, r8, r9, r10, r11, r12, _, hcs⟩ := ms_put HR.out 0 0 0 0 0 0 0 0 0 0 0 0 none 0 0
    have HF := Lib.hid (fresh_set HC.out hcs (Nat.le_refl _))
    have RR := Lib.hid (And.intro r0 (And.intro r1 (And.intro r2 (And.intro r3 (And.intro r4 (And.intro r5 (And.intro r6 (And.intro r7 (And.intro r8 (And.intro r9 (And.intro r10 (And.intro r11 (r12)))))))))))))
    clear r0 r1 r2 r3 r4 r5 r6 r7 r8 r9 r10 r11 r12 hcs
    go_wp2_with fail
    obtain ⟨r0, r1, r2, r3, r4, r5, r6, r7, r8, r9, r10, r11, r12⟩ := RR.out
    exact bodyPost_ret (v := .tuple #[zeroM, .int .i64 2]) (by simp [results, Try.results14, go_sem, zeroM, msC, r0, r1, r2, r3, r4, r5, r6, r7, r8, r9, r10, r11, r12]) rfl (dec6_no HNO.out ⟨rfl, HF.out⟩)
  subst q0
  have hrt := fun W => cright_any K 0 0 0 0 0 0 0 0 0 0 0 none 0 0 [] (fun _ => True) W (RcR.nil _ _ _) (by decide)
  rw [HRF.out] at hrt
  unfold msC at hrt
  have HRT := Lib.hid hrt
  clear hrt
  go_wp2_with fail
  refine (HRT.out _).mono ?_
  rintro e v10 ⟨rfl, hc'⟩
  replace HR := Lib.hid (HR.out.chg hc' id)
  replace HC := Lib.hid (HC.out.trans hc' (fun _ _ e => e))
  clear hc' HRT y0 y1 y2 y3 y4 y5 y6 y7 y8 y9 y10 y11 y12
  obtain ⟨x0, x1, x2, x3, x4, x5, x6, x7, x8, x9, x10, x11, x12⟩ := ms_cells HR.out
  obtain ⟨u0, u1, u2, u3, u4, u5, u6, u7, u8, u9, u10, u11, u12⟩ := ms_free HR.out
  obtain ⟨r0, r1, r2, r3, r4, r5, r6, r7, r8, r9, r10, r11, r12, _, hcs⟩ := ms_put HR.out 0 0 0 0 0 0 0 0 0 0 0 0 none 0 0
  have HF := Lib.hid (fresh_set HC.out hcs (Nat.le_refl _))
  have RR := Lib.hid (And.intro r0 (And.intro r1 (And.intro r2 (And.intro r3 (And.intro r4 (And.intro r5 (And.intro r6 (And.intro r7 (And.intro r8 (And.intro r9 (And.intro r10 (And.intro r11 (r12)))))))))))))
  clear r0 r1 r2 r3 r4 r5 r6 r7 r8 r9 r10 r11 r12 hcs
  go_wp2_with fail
  obtain ⟨r0, r1, r2, r3, r4, r5, r6, r7, r8, r9, r10, r11, r12⟩ := RR.out
  exact bodyPost_ret (v := .tuple #[zeroM, .int .i64 2]) (by simp [results, Try.results14, go_sem, zeroM, msC, r0, r1, r2, r3, r4, r5, r6, r7, r8, r9, r10, r11, r12]) rfl (dec6_no HNO.out ⟨rfl, HF.out⟩)


end Go.Proofs.Ytalfbijcjghemaa
