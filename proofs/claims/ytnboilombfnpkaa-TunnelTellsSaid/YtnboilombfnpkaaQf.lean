/-
  Walk: tunnel.Decode. Conditions: the bytes are read in memory.
-/
import Derived.Test.YtnboilombfnpkaaQp
import Derived.Test.YtnboilombfnpkaaRc
namespace Go.Proofs.Ytnboilombfnpkaa
open Go.RowKit
set_option linter.unusedVariables false

/-- What a call that decodes bytes hands back. -/
def Dec (b : List UInt8) (w : World) (e : Ending) (w' : World) : Prop := Hd (dP b 1) (dP b 2) (dP b 3) (dP b 4) (dP b 5) (dP b 6) (dP b 7) (dM b) (dX b) w e w'
theorem dec_no {b : List UInt8} (h : dOK b = false) {w w' : World} {e : Ending} (hh : e = .returned (.tuple #[zeroP, .int .i64 2]) ∧ Chg (fun _ => False) w w') : Dec b w e w' := by
  unfold Dec
  simp only [dP_no h, dM_no h, dX_no h]
  exact hd_no hh
theorem dec_hd {b : List UInt8} (h : dOK b = true) {w w' : World} {e : Ending} (hh : Hd (dvl b 1) (dvl b 2) (dvl b 3) (dvl b 4) (dvl b 5) (dvl b 6) (dvl b 7) (dF b) 0 w e w') : Dec b w e w' := by
  unfold Dec
  simp only [dP_yes h, dM_yes h, dX_yes h]
  exact hh
theorem tget (p : Nat) (S : Nat → Prop) (b : List UInt8) (j : Nat) (k : Int) (w : World) (h : Rd 63 true w p S (dst b j)) (h1 : (getS k (dst b j)).1 = dvl b j) (h2 : (getS k (dst b j)).2 = dst b (j + 1)) :
    Calls Try.prog 27 #[.pointer (some ⟨p, 0, none⟩), .int .i64 k] w fun e w' => e = .returned (.int .i64 (dvl b j)) ∧ Rd 63 true w' p S (dst b (j + 1)) ∧ Chg (fun k => k = p) w w' := by
  have hg := get_any p S _ k w h
  rw [h1, h2] at hg
  exact hg
theorem dF_len (b : List UInt8) : (dF b).length ≤ 1514 := by
  unfold dF bytesR
  by_cases h : 1514 < (getS 2 (dst b 8)).1
  · rw [if_pos h]
    decide
  · rw [if_neg h]
    have := take_len8 (getS 2 (dst b 8)).1.toNat (getS 2 (dst b 8)).2
    omega
theorem dOK_eq (b : List UInt8) : dOK b = (doneS (dE b) == 0 && (dvl b 0 == 1 && pkR (dvl b 1) (dvl b 2) (dvl b 3) (dvl b 4) (dvl b 5) (dvl b 6) (dvl b 7) (dF b).length)) := rfl

set_option maxHeartbeats 1000000 in
theorem tdec_long (A : Option Addr) (n c : Nat) (b : List UInt8) (w : World) (hn : n = b.length) (h15 : 1533 < n) (hn2 : n ≤ 9223372036854775807) :
    Calls Try.prog 15 #[.slice A n c] w (Dec b w) := by
  have HNO := Lib.hid (dec_le (b := b) (by omega))
  clear hn
  go_enter Try.func15, Try.ntmps15
  go_wp2_with fail
  exact bodyPost_ret (v := .tuple #[zeroP, .int .i64 2]) (by simp [results, Try.results15, go_sem, zeroP, pkC]) rfl (dec_no HNO.out ⟨rfl, (Chg.refl _ w).alloc _⟩)

set_option maxHeartbeats 4000000 in
theorem tdec_short (A : Option Addr) (n c : Nat) (b : List UInt8) (S : Nat → Prop) (w : World) (hn : n = b.length) (h : Rds w S A n (bcs b)) (hz : A = none → c = 0) (h15 : n ≤ 1533) :
    Calls Try.prog 15 #[.slice A n c] w (Dec b w) := by
  have hR0 : Blk (w.alloc (.cells #[.int .i64 0, .int .i64 0, .int .i64 0, .int .i64 0, .int .i64 0, .int .i64 0, .int .i64 0, .slice none 0 0] 25)) w.heap.size 25 (pkC 0 0 0 0 0 0 0 none 0 0) := blk_new rfl
  have hC0 := (Chg.refl (fun _ => False) w).alloc (.cells #[.int .i64 0, .int .i64 0, .int .i64 0, .int .i64 0, .int .i64 0, .int .i64 0, .int .i64 0, .slice none 0 0] 25)
  have hz0 : (w.alloc (.cells #[.int .i64 0, .int .i64 0, .int .i64 0, .int .i64 0, .int .i64 0, .int .i64 0, .int .i64 0, .slice none 0 0] 25)).heap.size = w.heap.size + 1 := by simp
  have HRD := Lib.hid (read_any A n c b _ _ hn (h.alloc (.cells #[.int .i64 0, .int .i64 0, .int .i64 0, .int .i64 0, .int .i64 0, .int .i64 0, .int .i64 0, .slice none 0 0] 25)) hz (by omega))
  have HR := Lib.hid hR0
  have HC := Lib.hid hC0
  have HZ := Lib.hid hz0
  have HDOK := Lib.hid (dOK_eq b)
  clear hR0 hC0 hz0 h hn hz
  go_enter Try.func15, Try.ntmps15
  go_wp2_with fail
  refine HRD.out.mono ?_
  rintro e w0 ⟨p, rfl, hp, hrd, hc1⟩
  have hz := HZ.out
  have hrp : w.heap.size < p := by omega
  have hrd : Rd _ _ _ _ _ (dst b 0) := hrd.mono (S' := fun k => w.heap.size < k ∧ k < p) (fun k hk => by omega) (by omega)
  have hR := HR.out.chg hc1 id
  have hC := HC.out.trans hc1 (fun _ _ e => e)
  clear HRD HR HC HZ hz hp hc1
  have HG := Lib.hid (tget p _ b 0 1 _ hrd rfl rfl)
  have HR := Lib.hid hR
  have HC := Lib.hid hC
  clear hrd hR hC
  go_wp2_with fail
  refine HG.out.mono ?_
  rintro e w1 ⟨rfl, hrd, hc'⟩
  have hC := fresh_set HC.out hc' (by omega)
  have hR := HR.out.chg hc' (by omega)
  clear HG HR HC hc'
  have HG := Lib.hid (tget p _ b 1 1 _ hrd rfl rfl)
  have HR := Lib.hid hR
  have HC := Lib.hid hC
  clear hrd hR hC
  go_wp2_with fail
  refine HG.out.mono ?_
  rintro e w2 ⟨rfl, hrd, hc'⟩
  have hC := fresh_set HC.out hc' (by omega)
  have hR := HR.out.chg hc' (by omega)
  clear HG HR HC hc'
  have HG := Lib.hid (tget p _ b 2 1 _ hrd rfl rfl)
  have HR := Lib.hid hR
  have HC := Lib.hid hC
  clear hrd hR hC
  go_wp2_with fail
  refine HG.out.mono ?_
  rintro e w3 ⟨rfl, hrd, hc'⟩
  have hC := fresh_set HC.out hc' (by omega)
  have hR := HR.out.chg hc' (by omega)
  clear HG HR HC hc'
  have HG := Lib.hid (tget p _ b 3 1 _ hrd rfl rfl)
  have HR := Lib.hid hR
  have HC := Lib.hid hC
  clear hrd hR hC
  go_wp2_with fail
  refine HG.out.mono ?_
  rintro e w4 ⟨rfl, hrd, hc'⟩
  have hC := fresh_set HC.out hc' (by omega)
  have hR := HR.out.chg hc' (by omega)
  clear HG HR HC hc'
  have HG := Lib.hid (tget p _ b 4 1 _ hrd rfl rfl)
  have HR := Lib.hid hR
  have HC := Lib.hid hC
  clear hrd hR hC
  go_wp2_with fail
  refine HG.out.mono ?_
  rintro e w5 ⟨rfl, hrd, hc'⟩
  have hC := fresh_set HC.out hc' (by omega)
  have hR := HR.out.chg hc' (by omega)
  clear HG HR HC hc'
  have HG := Lib.hid (tget p _ b 5 1 _ hrd rfl rfl)
  have HR := Lib.hid hR
  have HC := Lib.hid hC
  clear hrd hR hC
  go_wp2_with fail
  refine HG.out.mono ?_
  rintro e w6 ⟨rfl, hrd, hc'⟩
  have hC := fresh_set HC.out hc' (by omega)
  have hR := HR.out.chg hc' (by omega)
  clear HG HR HC hc'
  have hpq : p < w6.heap.size := hrd.lt
  have hQ : Blk (w6.alloc (.cells #[.int .i64 (dvl b 1), .int .i64 (dvl b 2), .int .i64 (dvl b 3), .int .i64 (dvl b 4), .int .i64 (dvl b 5), .int .i64 0, .int .i64 0, .slice none 0 0] 25)) w6.heap.size 25 (pkC (dvl b 1) (dvl b 2) (dvl b 3) (dvl b 4) (dvl b 5) 0 0 none 0 0) := blk_new rfl
  have hca := (Chg.refl (fun _ => False) w6).alloc (.cells #[.int .i64 (dvl b 1), .int .i64 (dvl b 2), .int .i64 (dvl b 3), .int .i64 (dvl b 4), .int .i64 (dvl b 5), .int .i64 0, .int .i64 0, .slice none 0 0] 25)
  have hrd := hrd.chg hca id (fun _ _ => id)
  have hC := hC.trans hca (fun _ _ e => e)
  have hR := hR.chg hca id
  clear hca
  have HG := Lib.hid (tget p _ b 6 5 _ hrd rfl rfl)
  have HR := Lib.hid hR
  have HC := Lib.hid hC
  have HQ := Lib.hid hQ
  clear hrd hR hC hQ
  go_wp2_with fail
  refine HG.out.mono ?_
  rintro e w7 ⟨rfl, hrd, hc'⟩
  have hC := fresh_set HC.out hc' (by omega)
  have hR := HR.out.chg hc' (by omega)
  have hQ := HQ.out.chg hc' (by omega)
  clear HG HR HC hc' HQ
  have HG := Lib.hid (tget p _ b 7 6 _ hrd rfl rfl)
  have HR := Lib.hid hR
  have HC := Lib.hid hC
  have HQ := Lib.hid hQ
  clear hrd hR hC hQ
  go_wp2_with fail
  refine HG.out.mono ?_
  rintro e w8 ⟨rfl, hrd, hc'⟩
  have hC := fresh_set HC.out hc' (by omega)
  have hR := HR.out.chg hc' (by omega)
  have hQ := HQ.out.chg hc' (by omega)
  clear HG HR HC hc' HQ
  have HG := Lib.hid (rbytes_any p _ _ 1514 _ hrd)
  have HR := Lib.hid hR
  have HC := Lib.hid hC
  have HQ := Lib.hid hQ
  clear hrd hR hC hQ
  go_wp2_with fail
  refine HG.out.mono ?_
  rintro e w9 ⟨D, m, dc, rfl, hm, _, _, hfr, hrd, hc'⟩
  replace hm : m = (dF b).length := hm
  replace hfr : Rds w9 _ D m (bcs (dF b)) := hfr
  replace hrd : Rd _ _ _ _ _ (dE b) := hrd
  have hC := fresh_set HC.out hc' (by omega)
  have hR := HR.out.chg hc' (by omega)
  have hQ := HQ.out.chg hc' (by omega)
  clear HG HR HC HQ hc'
  obtain ⟨y0, y1, y2, y3, y4, y5, y6, y7⟩ := pk_cells hQ
  obtain ⟨f0, f1, f2, f3, f4, f5, f6, f7⟩ := pk_free hQ
  have hset := ((hQ.set 5 (.int .i64 (dvl b 6))).set 6 (.int .i64 (dvl b 7))).set 7 (.slice D m dc)
  simp only [pkC, List.setIfInBounds_toArray, List.set_cons_succ, List.set_cons_zero] at hset
  have hset : Blk _ _ 25 (pkC (dvl b 1) (dvl b 2) (dvl b 3) (dvl b 4) (dvl b 5) (dvl b 6) (dvl b 7) D m dc) := hset
  have hcs := (((Chg.refl (fun k => k = w6.heap.size) w9).put w6.heap.size 5 (fun _ => rfl) (.int .i64 (dvl b 6))).put w6.heap.size 6 (fun _ => rfl) (.int .i64 (dvl b 7))).put w6.heap.size 7 (fun _ => rfl) (.slice D m dc)
  have hC := fresh_set hC hcs (by omega)
  have hR := hR.chg hcs (by omega)
  have hrd := hrd.chg hcs (by omega) (fun k hk => by have := hk.2; omega)
  have hfr := hfr.chg hcs (fun k hk => by have := hk.2; omega)
  have HG := Lib.hid (rdone_any p _ _ _ hrd)
  have HR := Lib.hid hR
  have HC := Lib.hid hC
  have HQ := Lib.hid hset
  have HFR := Lib.hid hfr
  clear hrd hR hC hQ hset hcs hfr
  generalize hdn : doneS (dE b) = dn at *
  have HM := Lib.hid hm
  clear hm hdn
  go_wp2_with fail
  refine HG.out.mono ?_
  rintro e w10 ⟨rfl, hw10⟩
  rw [hw10] at HR HC HQ HFR
  clear hw10 HG y0 y1 y2 y3 y4 y5 y6 y7 f0 f1 f2 f3 f4 f5 f6 f7
  obtain ⟨y0, y1, y2, y3, y4, y5, y6, y7⟩ := pk_cells HQ.out
  by_cases q0 : dn = 0
  case neg =>
    have t0 : (dn == 0) = false := by simpa using q0
    have s0 : (dn != 0) = true := by simpa using q0
    have HNO := Lib.hid (show dOK b = false by rw [HDOK.out, t0]; rfl)
    clear q0
    have hR := HR.out
    have hC := HC.out
    obtain ⟨x0, x1, x2, x3, x4, x5, x6, x7⟩ := pk_cells hR
    obtain ⟨u0, u1, u2, u3, u4, u5, u6, u7⟩ := pk_free hR
    obtain ⟨r0, r1, r2, r3, r4, r5, r6, r7, _, hcs⟩ := pk_put hR 0 0 0 0 0 0 0 none 0 0
    have HF := Lib.hid (fresh_set hC hcs (Nat.le_refl _))
    have RR := Lib.hid (And.intro r0 (And.intro r1 (And.intro r2 (And.intro r3 (And.intro r4 (And.intro r5 (And.intro r6 r7)))))))
    clear r0 r1 r2 r3 r4 r5 r6 r7 hcs hR hC
    go_wp2_with fail
    obtain ⟨r0, r1, r2, r3, r4, r5, r6, r7⟩ := RR.out
    exact bodyPost_ret (v := .tuple #[zeroP, .int .i64 2]) (by simp [results, Try.results15, go_sem, zeroP, pkC, r0, r1, r2, r3, r4, r5, r6, r7]) rfl (dec_no HNO.out ⟨rfl, HF.out⟩)
  
  subst q0
  by_cases q1 : dvl b 0 = 1
  case neg =>
    have t0 : (dvl b 0 == 1) = false := by simpa using q1
    have s0 : (dvl b 0 != 1) = true := by simpa using q1
    have HNO := Lib.hid (show dOK b = false by rw [HDOK.out, t0]; rfl)
    clear q1
    have hR := HR.out
    have hC := HC.out
    obtain ⟨x0, x1, x2, x3, x4, x5, x6, x7⟩ := pk_cells hR
    obtain ⟨u0, u1, u2, u3, u4, u5, u6, u7⟩ := pk_free hR
    obtain ⟨r0, r1, r2, r3, r4, r5, r6, r7, _, hcs⟩ := pk_put hR 0 0 0 0 0 0 0 none 0 0
    have HF := Lib.hid (fresh_set hC hcs (Nat.le_refl _))
    have RR := Lib.hid (And.intro r0 (And.intro r1 (And.intro r2 (And.intro r3 (And.intro r4 (And.intro r5 (And.intro r6 r7)))))))
    clear r0 r1 r2 r3 r4 r5 r6 r7 hcs hR hC
    go_wp2_with fail
    obtain ⟨r0, r1, r2, r3, r4, r5, r6, r7⟩ := RR.out
    exact bodyPost_ret (v := .tuple #[zeroP, .int .i64 2]) (by simp [results, Try.results15, go_sem, zeroP, pkC, r0, r1, r2, r3, r4, r5, r6, r7]) rfl (dec_no HNO.out ⟨rfl, HF.out⟩)
  
  have t1 : (dvl b 0 == 1) = true := by simpa using q1
  have s1 : (dvl b 0 != 1) = false := by simpa using q1
  clear q1
  have hmx : m ≤ 9223372036854775807 := by have := dF_len b; have := HM.out; omega
  have hrt := fun W => tright_any (dvl b 1) (dvl b 2) (dvl b 3) (dvl b 4) (dvl b 5) (dvl b 6) (dvl b 7) D m dc W hmx
  have HD2 := Lib.hid (show dOK b = pkR (dvl b 1) (dvl b 2) (dvl b 3) (dvl b 4) (dvl b 5) (dvl b 6) (dvl b 7) m by rw [HDOK.out, t1, HM.out]; rfl)
  generalize hpr : pkR (dvl b 1) (dvl b 2) (dvl b 3) (dvl b 4) (dvl b 5) (dvl b 6) (dvl b 7) m = r at *
  have HPR := Lib.hid hpr
  clear hpr
  cases r with
  | false =>
    have HNO := Lib.hid HD2.out
    unfold pkC at hrt
    have HRT := Lib.hid hrt
    clear hrt
    go_wp2_with fail
    refine (HRT.out _).mono ?_
    rintro e w11 ⟨rfl, hc'⟩
    have HR := Lib.hid (HR.out.chg hc' id)
    have HC := Lib.hid (HC.out.trans hc' (fun _ _ e => e))
    clear hc' HRT
    have hR := HR.out
    have hC := HC.out
    obtain ⟨x0, x1, x2, x3, x4, x5, x6, x7⟩ := pk_cells hR
    obtain ⟨u0, u1, u2, u3, u4, u5, u6, u7⟩ := pk_free hR
    obtain ⟨r0, r1, r2, r3, r4, r5, r6, r7, _, hcs⟩ := pk_put hR 0 0 0 0 0 0 0 none 0 0
    have HF := Lib.hid (fresh_set hC hcs (Nat.le_refl _))
    have RR := Lib.hid (And.intro r0 (And.intro r1 (And.intro r2 (And.intro r3 (And.intro r4 (And.intro r5 (And.intro r6 r7)))))))
    clear r0 r1 r2 r3 r4 r5 r6 r7 hcs hR hC
    go_wp2_with fail
    obtain ⟨r0, r1, r2, r3, r4, r5, r6, r7⟩ := RR.out
    exact bodyPost_ret (v := .tuple #[zeroP, .int .i64 2]) (by simp [results, Try.results15, go_sem, zeroP, pkC, r0, r1, r2, r3, r4, r5, r6, r7]) rfl (dec_no HNO.out ⟨rfl, HF.out⟩)
  
  | true =>
    unfold pkC at hrt
    have HRT := Lib.hid hrt
    clear hrt
    go_wp2_with fail
    refine (HRT.out _).mono ?_
    rintro e w11 ⟨rfl, hc'⟩
    have hR := HR.out.chg hc' id
    have hC := HC.out.trans hc' (fun _ _ e => e)
    have hQ := HQ.out.chg hc' id
    have hfr := HFR.out.chg hc' (fun _ _ => id)
    clear hc' HRT HR HC HQ HFR y0 y1 y2 y3 y4 y5 y6 y7
    obtain ⟨y0, y1, y2, y3, y4, y5, y6, y7⟩ := pk_cells hQ
    obtain ⟨x0, x1, x2, x3, x4, x5, x6, x7⟩ := pk_cells hR
    obtain ⟨u0, u1, u2, u3, u4, u5, u6, u7⟩ := pk_free hR
    obtain ⟨r0, r1, r2, r3, r4, r5, r6, r7, _, hcs⟩ := pk_put hR (dvl b 1) (dvl b 2) (dvl b 3) (dvl b 4) (dvl b 5) (dvl b 6) (dvl b 7) D m dc
    have hF := fresh_set hC hcs (Nat.le_refl _)
    have hfr := hfr.chg hcs (fun k hk e => by have := hk.1; omega)
    have hnil := rds_nil_ok (c := dc) hfr (by have := (pkR_parts HPR.out).2.2.2.2.2.2.2.1; omega)
    have HF : Hid (Dec b w (.returned (.tuple #[.agg (pkC (dvl b 1) (dvl b 2) (dvl b 3) (dvl b 4) (dvl b 5) (dvl b 6) (dvl b 7) D m dc), .int .i64 0])) _) := dec_hd HD2.out ⟨D, dc, by rw [HM.out], hnil, by rw [← HM.out]; exact hfr.mono (fun _ _ => trivial), hF⟩
    have RR := Lib.hid (And.intro r0 (And.intro r1 (And.intro r2 (And.intro r3 (And.intro r4 (And.intro r5 (And.intro r6 r7)))))))
    clear r0 r1 r2 r3 r4 r5 r6 r7 hcs hF hfr hR hC hQ hnil
    go_wp2_with fail
    obtain ⟨r0, r1, r2, r3, r4, r5, r6, r7⟩ := RR.out
    exact bodyPost_ret (v := .tuple #[.agg (pkC (dvl b 1) (dvl b 2) (dvl b 3) (dvl b 4) (dvl b 5) (dvl b 6) (dvl b 7) D m dc), .int .i64 0]) (by simp [results, Try.results15, go_sem, pkC, r0, r1, r2, r3, r4, r5, r6, r7]) rfl HF.out

theorem tdec_any (A : Option Addr) (n c : Nat) (b : List UInt8) (S : Nat → Prop) (w : World) (hn : n = b.length) (h : Rds w S A n (bcs b)) (hz : A = none → c = 0) (hn2 : n ≤ 9223372036854775807) :
    Calls Try.prog 15 #[.slice A n c] w (Dec b w) := by
  by_cases h15 : n ≤ 1533
  · exact tdec_short A n c b S w hn h hz h15
  · exact tdec_long A n c b w hn (by omega) hn2

end Go.Proofs.Ytnboilombfnpkaa
