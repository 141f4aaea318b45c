/-
  Walk: control.Decode, a message of records; any bytes. Conditions: the bytes are read in memory.
-/
import Derived.Test.YtalfbijcjghemaaUn
namespace Go.Proofs.Ytalfbijcjghemaa
open Go.RowKit
set_option linter.unusedVariables false

theorem hd6_three (b : List UInt8) (D : Option Addr) (m dc : Nat) (h : m = (cRl b).length) {w w' : World} (hl : RcR w' (fun _ => True) D m (cRl b)) (hc : Chg (fun _ => False) w w') : Hd6 (cm3 b) 0 w (.returned (.tuple #[.agg (msC 3 0 0 0 0 0 0 0 0 0 (cPt b) (cVr b) D m dc), .int .i64 0])) w' := by
  subst h
  exact ⟨D, dc, rfl, hl, hc⟩

set_option maxHeartbeats 4000000 in
theorem cdec_3 (A : Option Addr) (n c : Nat) (b : List UInt8) (S : Nat → Prop) (w : World) (hn : n = b.length) (h : Rds w S A n (bcs b)) (hz : A = none → c = 0) (h15 : n ≤ 313) (hk : cK b = 3) :
    Calls Try.prog 14 #[.slice A n c] w (Dec6 b w) := by
  have HDOK := Lib.hid (cOK_3 hk)
  have HV := Lib.hid (cV_3 hk)
  have HK := Lib.hid hk
  clear hk
  have HR : Hid (Blk (w.alloc (.cells #[.int .i64 0, .int .i64 0, .int .u64 0, .int .i64 0, .int .i64 0, .int .i64 0, .int .i64 0, .int .i64 0, .int .i64 0, .int .i64 0, .int .i64 0, .int .i64 0, .slice none 0 0] 28)) w.heap.size 28 (msC 0 0 0 0 0 0 0 0 0 0 0 0 none 0 0)) := Lib.hid (blk_new rfl)
  have HC := Lib.hid ((Chg.refl (fun _ => False) w).alloc (.cells #[.int .i64 0, .int .i64 0, .int .u64 0, .int .i64 0, .int .i64 0, .int .i64 0, .int .i64 0, .int .i64 0, .int .i64 0, .int .i64 0, .int .i64 0, .int .i64 0, .slice none 0 0] 28))
  have HZ := Lib.hid (show (w.alloc (.cells #[.int .i64 0, .int .i64 0, .int .u64 0, .int .i64 0, .int .i64 0, .int .i64 0, .int .i64 0, .int .i64 0, .int .i64 0, .int .i64 0, .int .i64 0, .int .i64 0, .slice none 0 0] 28)).heap.size = w.heap.size + 1 by simp)
  have HRDD := Lib.hid (read_any A n c b _ _ hn (h.alloc (.cells #[.int .i64 0, .int .i64 0, .int .u64 0, .int .i64 0, .int .i64 0, .int .i64 0, .int .i64 0, .int .i64 0, .int .i64 0, .int .i64 0, .int .i64 0, .int .i64 0, .slice none 0 0] 28)) hz (by omega))
  clear h hn hz
  go_enter Try.func14, Try.ntmps14
  go_wp2_with fail
  refine HRDD.out.mono ?_
  rintro e w0 ⟨p, rfl, hp, hrd, hc1⟩
  have hz := HZ.out
  have hrp : w.heap.size < p := by omega
  have HRD := Lib.hid (hrd.mono (S' := fun k => w.heap.size < k ∧ k < p) (fun k hk => by omega) (by omega))
  replace HR := Lib.hid (HR.out.chg hc1 id)
  replace HC := Lib.hid (HC.out.trans hc1 (fun _ _ e => e))
  clear HRDD HZ hz hp hrd hc1
  have HG : Hid (Calls Try.prog 31 #[.pointer (some ⟨p, 0, none⟩), .int .i64 1] w0 fun e w' => e = .returned (.int .i64 3) ∧ Rd 83 true w' p (fun k => w.heap.size < k ∧ k < p) (cS1 b) ∧ Chg (fun k => k = p) w0 w') := Lib.hid (by
    have hg := cget p 1 _ (some b) w0 HRD.out
    rw [show gv 1 (some b) = 3 from HK.out] at hg
    exact hg)
  go_wp2_with fail
  refine HG.out.mono ?_
  rintro e w1 ⟨rfl, hrd, hc'⟩
  replace HC := Lib.hid (fresh_set HC.out hc' (by omega))
  replace HR := Lib.hid (HR.out.chg hc' (by omega))
  have hpq := hrd.lt
  have HQ : Hid (Blk (w1.alloc (.cells #[.int .i64 3, .int .i64 0, .int .u64 0, .int .i64 0, .int .i64 0, .int .i64 0, .int .i64 0, .int .i64 0, .int .i64 0, .int .i64 0, .int .i64 0, .int .i64 0, .slice none 0 0] 28)) w1.heap.size 28 (msC 3 0 0 0 0 0 0 0 0 0 0 0 none 0 0)) := Lib.hid (blk_new rfl)
  have hca := (Chg.refl (fun _ => False) w1).alloc (.cells #[.int .i64 3, .int .i64 0, .int .u64 0, .int .i64 0, .int .i64 0, .int .i64 0, .int .i64 0, .int .i64 0, .int .i64 0, .int .i64 0, .int .i64 0, .int .i64 0, .slice none 0 0] 28)
  replace HRD := Lib.hid (hrd.chg hca id (fun _ _ => id))
  replace HC := Lib.hid (HC.out.trans hca (fun _ _ e => e))
  replace HR := Lib.hid (HR.out.chg hca id)
  clear HG hrd hc' hca
  have HG := Lib.hid (show Calls _ _ _ _ (fun e w' => e = .returned (.int .i64 (cPt b)) ∧ Rd 83 true w' p _ (cS2 b) ∧ Chg (fun k => k = p) _ w') from cget p 1 _ (cS1 b) _ HRD.out)
  go_wp2_with fail
  refine HG.out.mono ?_
  rintro e v1 ⟨rfl, hrd, hc'⟩
  replace HC := Lib.hid (fresh_set HC.out hc' (by omega))
  replace HR := Lib.hid (HR.out.chg hc' (by omega))
  replace HQ := Lib.hid (HQ.out.chg hc' (by omega))
  replace HRD := Lib.hid hrd
  clear HG hrd hc'
  have HG := Lib.hid (show Calls _ _ _ _ (fun e w' => e = .returned (.int .i64 (cVr b)) ∧ Rd 83 true w' p _ (cS3 b) ∧ Chg (fun k => k = p) _ w') from cget p 6 _ (cS2 b) _ HRD.out)
  go_wp2_with fail
  refine HG.out.mono ?_
  rintro e v2 ⟨rfl, hrd, hc'⟩
  replace HC := Lib.hid (fresh_set HC.out hc' (by omega))
  replace HR := Lib.hid (HR.out.chg hc' (by omega))
  replace HQ := Lib.hid (HQ.out.chg hc' (by omega))
  replace HRD := Lib.hid hrd
  clear HG hrd hc'
  have hqv := HQ.out.lt
  have HG := Lib.hid (getrecs_any p _ (cS3 b) _ HRD.out (fun k hk => hk.2))
  go_wp2_with fail
  refine HG.out.mono ?_
  rintro e v3 ⟨D, m, dc, rfl, hm, hrc, hrd, hc'⟩
  have hl16 : m < 256 := by have := gv_lt 1 (cS3 b) (by decide) (by decide); have := gv_range 1 (cS3 b); omega
  have HLEN : Hid (m = (cRl b).length) := Lib.hid (by rw [hm]; exact (rcsV_len _ _).symm)
  have HL : Hid (RcR v3 (fun k => v2.heap.size ≤ k) D m (cRl b)) := Lib.hid (by rw [show cRl b = rcsV m (gn 1 (cS3 b)) from by rw [hm]; rfl]; exact hrc)
  replace HRD : Hid (Rd 83 true v3 p (fun k => w.heap.size < k ∧ k < p) (cS5 b)) := Lib.hid (by rw [show cS5 b = rcsE m (gn 1 (cS3 b)) from by rw [hm]; rfl]; exact hrd)
  have hv2 := HC.out.size
  replace HC := Lib.hid (fresh_set HC.out hc' (by omega))
  replace HR := Lib.hid (HR.out.chg hc' (by omega))
  replace HQ := Lib.hid (HQ.out.chg hc' (by omega))
  clear HG hrd hc' hrc hm
  obtain ⟨y0, y1, y2, y3, y4, y5, y6, y7, y8, y9, y10, y11, y12⟩ := ms_cells HQ.out
  obtain ⟨u0, u1, u2, u3, u4, u5, u6, u7, u8, u9, u10, u11, u12⟩ := ms_free HQ.out
  have hset := (((HQ.out).set 10 (.int .i64 (cPt b))).set 11 (.int .i64 (cVr b))).set 12 (.slice D m dc)
  simp only [msC, List.setIfInBounds_toArray, List.set_cons_succ, List.set_cons_zero] at hset
  have hset : Blk _ _ 28 (msC 3 0 0 0 0 0 0 0 0 0 (cPt b) (cVr b) D m dc) := hset
  have hcs : Chg (fun k => k = w1.heap.size) _ _ := (((Chg.refl (fun k => k = w1.heap.size) v3).put w1.heap.size 10 (fun _ => rfl) (.int .i64 (cPt b))).put w1.heap.size 11 (fun _ => rfl) (.int .i64 (cVr b))).put w1.heap.size 12 (fun _ => rfl) (.slice D m dc)
  replace HC := Lib.hid (fresh_set HC.out hcs (by omega))
  replace HR := Lib.hid (HR.out.chg hcs (by omega))
  replace HRD := Lib.hid (HRD.out.chg hcs (by omega) (fun k hk => by have := hk.2; omega))
  replace HQ := Lib.hid hset
  replace HL := Lib.hid ((HL.out.mono (S' := fun k => w.heap.size < k ∧ k ≠ w1.heap.size) (fun k hk => by omega)).chg hcs (fun k hk => hk.2))
  clear hset hcs
  have HG := Lib.hid (rdone_any p _ _ _ HRD.out)
  generalize hdn : doneS (cS5 b) = dn at *
  clear hdn
  go_wp2_with fail
  clear y0 y1 y2 y3 y4 y5 y6 y7 y8 y9 y10 y11 y12 u0 u1 u2 u3 u4 u5 u6 u7 u8 u9 u10 u11 u12
  refine HG.out.mono ?_
  rintro e v9 ⟨rfl, rfl⟩
  obtain ⟨y0, y1, y2, y3, y4, y5, y6, y7, y8, y9, y10, y11, y12⟩ := ms_cells HQ.out
  by_cases q0 : dn = 0
  case neg =>
    have t0 : (dn == 0) = false := by simpa using q0
    have s0 : (dn != 0) = true := by simpa using q0
    have HNO := Lib.hid (show cOK b = false by rw [HDOK.out, t0]; rfl)
    clear q0
    obtain ⟨x0, x1, x2, x3, x4, x5, x6, x7, x8, x9, x10, x11, x12⟩ := ms_cells HR.out
    obtain ⟨u0, u1, u2, u3, u4, u5, u6, u7, u8, u9, u10, u11, u12⟩ := ms_free HR.out
    obtain ⟨r0, r1, r2, r3, r4, r5, r6, r7, r8, r9, r10, r11, r12, _, hcs⟩ := ms_put HR.out 0 0 0 0 0 0 0 0 0 0 0 0 none 0 0
    have HF := Lib.hid (fresh_set HC.out hcs (Nat.le_refl _))
    have RR := Lib.hid (And.intro r0 (And.intro r1 (And.intro r2 (And.intro r3 (And.intro r4 (And.intro r5 (And.intro r6 (And.intro r7 (And.intro r8 (And.intro r9 (And.intro r10 (And.intro r11 (r12)))))))))))))
    clear r0 r1 r2 r3 r4 r5 r6 r7 r8 r9 r10 r11 r12 hcs
    go_wp2_with fail
    obtain ⟨r0, r1, r2, r3, r4, r5, r6, r7, r8, r9, r10, r11, r12⟩ := RR.out
    exact bodyPost_ret (v := .tuple #[zeroM, .int .i64 2]) (by simp [results, Try.results14, go_sem, zeroM, msC, r0, r1, r2, r3, r4, r5, r6, r7, r8, r9, r10, r11, r12]) rfl (dec6_no HNO.out ⟨rfl, HF.out⟩)
  subst q0
  have hrt := cright_any 3 0 0 0 0 0 0 0 0 0 (cPt b) (cVr b) D m dc (cRl b) _ _ HL.out (by omega)
  have HD2 := Lib.hid (show cOK b = msR 3 0 0 0 0 0 0 0 0 0 (cPt b) (cVr b) (cRl b) by rw [HDOK.out]; rfl)
  generalize msR 3 0 0 0 0 0 0 0 0 0 (cPt b) (cVr b) (cRl b) = r at *
  unfold msC at hrt
  have HRT := Lib.hid hrt
  clear hrt
  cases r with
  | false =>
    go_wp2_with fail
    refine HRT.out.mono ?_
    rintro e v10 ⟨rfl, hc'⟩
    replace HR := Lib.hid (HR.out.chg hc' id)
    replace HC := Lib.hid (HC.out.trans hc' (fun _ _ e => e))
    clear hc' HRT y0 y1 y2 y3 y4 y5 y6 y7 y8 y9 y10 y11 y12
    obtain ⟨x0, x1, x2, x3, x4, x5, x6, x7, x8, x9, x10, x11, x12⟩ := ms_cells HR.out
    obtain ⟨u0, u1, u2, u3, u4, u5, u6, u7, u8, u9, u10, u11, u12⟩ := ms_free HR.out
    obtain ⟨r0, r1, r2, r3, r4, r5, r6, r7, r8, r9, r10, r11, r12, _, hcs⟩ := ms_put HR.out 0 0 0 0 0 0 0 0 0 0 0 0 none 0 0
    have HF := Lib.hid (fresh_set HC.out hcs (Nat.le_refl _))
    have RR := Lib.hid (And.intro r0 (And.intro r1 (And.intro r2 (And.intro r3 (And.intro r4 (And.intro r5 (And.intro r6 (And.intro r7 (And.intro r8 (And.intro r9 (And.intro r10 (And.intro r11 (r12)))))))))))))
    clear r0 r1 r2 r3 r4 r5 r6 r7 r8 r9 r10 r11 r12 hcs
    go_wp2_with fail
    obtain ⟨r0, r1, r2, r3, r4, r5, r6, r7, r8, r9, r10, r11, r12⟩ := RR.out
    exact bodyPost_ret (v := .tuple #[zeroM, .int .i64 2]) (by simp [results, Try.results14, go_sem, zeroM, msC, r0, r1, r2, r3, r4, r5, r6, r7, r8, r9, r10, r11, r12]) rfl (dec6_no HD2.out ⟨rfl, HF.out⟩)
  | true =>
    go_wp2_with fail
    refine HRT.out.mono ?_
    rintro e v10 ⟨rfl, hc'⟩
    replace HR := Lib.hid (HR.out.chg hc' id)
    replace HQ := Lib.hid (HQ.out.chg hc' id)
    replace HL := Lib.hid (HL.out.chg hc' (fun _ _ => id))
    replace HC := Lib.hid (HC.out.trans hc' (fun _ _ e => e))
    clear hc' HRT y0 y1 y2 y3 y4 y5 y6 y7 y8 y9 y10 y11 y12
    obtain ⟨y0, y1, y2, y3, y4, y5, y6, y7, y8, y9, y10, y11, y12⟩ := ms_cells HQ.out
    obtain ⟨x0, x1, x2, x3, x4, x5, x6, x7, x8, x9, x10, x11, x12⟩ := ms_cells HR.out
    obtain ⟨u0, u1, u2, u3, u4, u5, u6, u7, u8, u9, u10, u11, u12⟩ := ms_free HR.out
    obtain ⟨r0, r1, r2, r3, r4, r5, r6, r7, r8, r9, r10, r11, r12, _, hcs⟩ := ms_put HR.out 3 0 0 0 0 0 0 0 0 0 (cPt b) (cVr b) D m dc
    have HF := Lib.hid (fresh_set HC.out hcs (Nat.le_refl _))
    replace HL := Lib.hid (HL.out.chg hcs (fun k hk e => by omega))
    have RR := Lib.hid (And.intro r0 (And.intro r1 (And.intro r2 (And.intro r3 (And.intro r4 (And.intro r5 (And.intro r6 (And.intro r7 (And.intro r8 (And.intro r9 (And.intro r10 (And.intro r11 (r12)))))))))))))
    clear r0 r1 r2 r3 r4 r5 r6 r7 r8 r9 r10 r11 r12 hcs
    go_wp2_with fail
    obtain ⟨r0, r1, r2, r3, r4, r5, r6, r7, r8, r9, r10, r11, r12⟩ := RR.out
    exact bodyPost_ret (v := .tuple #[.agg (msC 3 0 0 0 0 0 0 0 0 0 (cPt b) (cVr b) D m dc), .int .i64 0]) (by simp [results, Try.results14, go_sem, msC, r0, r1, r2, r3, r4, r5, r6, r7, r8, r9, r10, r11, r12]) rfl (dec6_hd HD2.out HV.out (hd6_three b D m dc HLEN.out (HL.out.mono (fun _ _ => trivial)) HF.out))

theorem cdec_any (A : Option Addr) (n c : Nat) (b : List UInt8) (S : Nat → Prop) (w : World) (hn : n = b.length) (h : Rds w S A n (bcs b)) (hz : A = none → c = 0) (hn2 : n ≤ 9223372036854775807) :
    Calls Try.prog 14 #[.slice A n c] w (Dec6 b w) := by
  by_cases h15 : n ≤ 313
  · by_cases h1 : cK b = 1
    · exact cdec_1 A n c b S w hn h hz h15 h1
    by_cases h2 : cK b = 2
    · exact cdec_2 A n c b S w hn h hz h15 h2
    by_cases h3 : cK b = 3
    · exact cdec_3 A n c b S w hn h hz h15 h3
    exact cdec_9 A n c b S w hn h hz h15 h1 h2 h3
  · exact cdec_long A n c b w hn (by omega) hn2

end Go.Proofs.Ytalfbijcjghemaa
