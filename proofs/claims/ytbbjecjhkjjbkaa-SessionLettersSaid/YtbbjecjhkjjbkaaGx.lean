/-
  Walk: session.Decode. Conditions: the bytes are read in memory.
-/
import Derived.Test.YtbbjecjhkjjbkaaGw
import Derived.Test.YtbbjecjhkjjbkaaRc
namespace Go.Proofs.Ytbbjecjhkjjbkaa
open Go.RowKit
set_option linter.unusedVariables false
set_option linter.unusedSimpArgs false

/-- A letter handed back, in letters. -/
def zeroL : Value := .agg (ltC 0 0 0 0 none 0 0)
def Hd11 (l : LV) (x : Int) (w : World) (e : Ending) (w' : World) : Prop :=
  ∃ A c, e = .returned (.tuple #[.agg (ltC l.mi l.pe l.ac l.se A l.b.length c), .int .i64 x]) ∧ Rds w' (fun _ => True) A l.b.length (bcs l.b) ∧ Chg (fun _ => False) w w'
/-- What a call that decodes bytes hands back. -/
def Dec11 (b : List UInt8) (w : World) (e : Ending) (w' : World) : Prop := Hd11 (jL b) (jX b) w e w'
theorem dec11_no {b : List UInt8} (h : jOK b = false) {w w' : World} {e : Ending} (hh : e = .returned (.tuple #[zeroL, .int .i64 2]) ∧ Chg (fun _ => False) w w') : Dec11 b w e w' := by
  unfold Dec11
  rw [jL_no h, jX_no h]
  exact ⟨none, 0, hh.1, Rds.nil _ _ _, hh.2⟩
theorem dec11_hd {b : List UInt8} (h : jOK b = true) {w w' : World} {e : Ending} (hh : Hd11 ⟨jvl b 0, jvl b 1, jvl b 2, jvl b 3, jF b⟩ 0 w e w') : Dec11 b w e w' := by
  unfold Dec11
  rw [jL_yes h, jX_yes h]
  exact hh
theorem jget11 (p : Nat) (S : Nat → Prop) (b : List UInt8) (j : Nat) (k : Int) (w : World) (h : Rd 110 true w p S (jst b j)) (h1 : (getS k (jst b j)).1 = jvl b j) (h2 : (getS k (jst b j)).2 = jst b (j + 1)) :
    Calls Try.prog 34 #[.pointer (some ⟨p, 0, none⟩), .int .i64 k] w fun e w' => e = .returned (.int .i64 (jvl b j)) ∧ Rd 110 true w' p S (jst b (j + 1)) ∧ Chg (fun k => k = p) w w' := by
  have hg := get_any p S _ k w h
  rw [h1, h2] at hg
  exact hg

set_option maxRecDepth 100000 in
set_option maxHeartbeats 1000000 in
theorem dec11_long (A : Option Addr) (n c : Nat) (b : List UInt8) (w : World) (hn : n = b.length) (h15 : 1024 < n) (hn2 : n ≤ 9223372036854775807) : Calls Try.prog 12 #[.slice A n c] w (Dec11 b w) := by
  have HNO := Lib.hid (jd_le (b := b) (by omega))
  clear hn
  go_enter Try.func12, Try.ntmps12
  go_wp2_with fail
  exact bodyPost_ret (v := .tuple #[zeroL, .int .i64 2]) (by simp [results, Try.results12, go_sem, zeroL, ltC]) rfl (dec11_no HNO.out ⟨rfl, (Chg.refl _ w).alloc _⟩)
set_option maxRecDepth 100000 in
set_option maxHeartbeats 4000000 in
theorem dec11_short (A : Option Addr) (n c : Nat) (b : List UInt8) (S : Nat → Prop) (w : World) (hn : n = b.length) (h : Rds w S A n (bcs b)) (hz : A = none → c = 0) (h15 : n ≤ 1024) : Calls Try.prog 12 #[.slice A n c] w (Dec11 b w) := by
  have hR0 : Blk (w.alloc (.cells #[.int .i64 0, .int .i64 0, .int .i64 0, .int .i64 0, .slice none 0 0] 24)) w.heap.size 24 (ltC 0 0 0 0 none 0 0) := blk_new rfl
  have hC0 := (Chg.refl (fun _ => False) w).alloc (.cells #[.int .i64 0, .int .i64 0, .int .i64 0, .int .i64 0, .slice none 0 0] 24)
  have hz0 : (w.alloc (.cells #[.int .i64 0, .int .i64 0, .int .i64 0, .int .i64 0, .slice none 0 0] 24)).heap.size = w.heap.size + 1 := by simp
  have HRD := Lib.hid (read_any A n c b _ _ hn (h.alloc (.cells #[.int .i64 0, .int .i64 0, .int .i64 0, .int .i64 0, .slice none 0 0] 24)) hz (by omega))
  have HR := Lib.hid hR0
  have HC := Lib.hid hC0
  have HZ := Lib.hid hz0
  have HDOK := Lib.hid (jOK_eq b)
  clear hR0 hC0 hz0 h hn hz
  go_enter Try.func12, Try.ntmps12
  go_wp2_with fail
  refine HRD.out.mono ?_
  rintro e w0 ⟨p, rfl, hp, hrd, hc1⟩
  have hz := HZ.out
  have hrp : w.heap.size < p := by omega
  have hrd : Rd _ _ _ _ _ (jst b 0) := hrd.mono (S' := fun k => w.heap.size < k ∧ k < p) (fun k hk => by omega) (by omega)
  have hR := HR.out.chg hc1 id
  have hC := HC.out.trans hc1 (fun _ _ e => e)
  clear HRD HR HC HZ hz hp hc1
  have HG := Lib.hid (jget11 p _ b 0 5 _ hrd rfl rfl)
  have HR := Lib.hid hR
  have HC := Lib.hid hC
  clear hrd hR hC
  go_wp2_with fail
  refine HG.out.mono ?_
  rintro e w1 ⟨rfl, hrd, hc'⟩
  have hC := fresh_set HC.out hc' (by omega)
  have hR := HR.out.chg hc' (by omega)
  clear HG HR HC hc'
  have HG := Lib.hid (jget11 p _ b 1 5 _ hrd rfl rfl)
  have HR := Lib.hid hR
  have HC := Lib.hid hC
  clear hrd hR hC
  go_wp2_with fail
  refine HG.out.mono ?_
  rintro e w2 ⟨rfl, hrd, hc'⟩
  have hC := fresh_set HC.out hc' (by omega)
  have hR := HR.out.chg hc' (by omega)
  clear HG HR HC hc'
  have HG := Lib.hid (jget11 p _ b 2 6 _ hrd rfl rfl)
  have HR := Lib.hid hR
  have HC := Lib.hid hC
  clear hrd hR hC
  go_wp2_with fail
  refine HG.out.mono ?_
  rintro e w3 ⟨rfl, hrd, hc'⟩
  have hC := fresh_set HC.out hc' (by omega)
  have hR := HR.out.chg hc' (by omega)
  clear HG HR HC hc'
  have HG := Lib.hid (jget11 p _ b 3 6 _ hrd rfl rfl)
  have HR := Lib.hid hR
  have HC := Lib.hid hC
  clear hrd hR hC
  go_wp2_with fail
  refine HG.out.mono ?_
  rintro e w4 ⟨rfl, hrd, hc'⟩
  have hC := fresh_set HC.out hc' (by omega)
  have hR := HR.out.chg hc' (by omega)
  clear HG HR HC hc'
  have HG := Lib.hid (rbytes_any p _ _ 1000 _ hrd)
  have HR := Lib.hid hR
  have HC := Lib.hid hC
  clear hrd hR hC
  go_wp2_with fail
  refine HG.out.mono ?_
  rintro e w9 ⟨D, k, dc, rfl, hm, _, _, hfr, hrd, hc'⟩
  replace hm : k = (jF b).length := hm
  replace hfr : Rds w9 _ D k (bcs (jF b)) := hfr
  replace hrd : Rd _ _ _ _ _ (jE b) := hrd
  have hC := fresh_set HC.out hc' (by omega)
  have hR := HR.out.chg hc' (by omega)
  clear HG HR HC hc'
  have hQ : Blk (w9.alloc (.cells #[.int .i64 ((jvl b 0)), .int .i64 ((jvl b 1)), .int .i64 ((jvl b 2)), .int .i64 ((jvl b 3)), .slice D k dc] 24)) w9.heap.size 24 (ltC (jvl b 0) (jvl b 1) (jvl b 2) (jvl b 3) D k dc) := blk_new rfl
  have hca := (Chg.refl (fun _ => False) w9).alloc (.cells #[.int .i64 ((jvl b 0)), .int .i64 ((jvl b 1)), .int .i64 ((jvl b 2)), .int .i64 ((jvl b 3)), .slice D k dc] 24)
  have hrd := hrd.chg hca id (fun _ _ => id)
  have hC := hC.trans hca (fun _ _ e => e)
  have hR := hR.chg hca id
  have hfr := hfr.chg hca (fun _ _ => id)
  have HG := Lib.hid (rdone_any p _ _ _ hrd)
  have HR := Lib.hid hR
  have HC := Lib.hid hC
  have HQ := Lib.hid hQ
  have HFR := Lib.hid hfr
  clear hrd hR hC hQ hca hfr
  generalize hdn : doneS (jE b) = dn at *
  have HM := Lib.hid hm
  clear hm hdn
  go_wp2_with fail
  refine HG.out.mono ?_
  rintro e w10 ⟨rfl, hw10⟩
  rw [hw10] at HR HC HQ HFR
  clear hw10 HG
  obtain ⟨y0, y1, y2, y3, y4⟩ := lt_cells HQ.out
  by_cases q0 : dn = 0
  case neg =>
    have t0 : (dn == 0) = false := by simpa using q0
    have s0 : (dn != 0) = true := by simpa using q0
    have HNO := Lib.hid (show jOK b = false by rw [HDOK.out, t0]; rfl)
    clear q0
    have hR := HR.out
    have hC := HC.out
    obtain ⟨x0, x1, x2, x3, x4⟩ := lt_cells hR
    obtain ⟨u0, u1, u2, u3, u4⟩ := lt_free hR
    obtain ⟨r0, r1, r2, r3, r4, _, hcs⟩ := lt_put hR 0 0 0 0 none 0 0
    have HF := Lib.hid (fresh_set hC hcs (Nat.le_refl _))
    have RR := Lib.hid (And.intro r0 (And.intro r1 (And.intro r2 (And.intro r3 r4))))
    clear r0 r1 r2 r3 r4 hcs hR hC
    go_wp2_with fail
    obtain ⟨r0, r1, r2, r3, r4⟩ := RR.out
    exact bodyPost_ret (v := .tuple #[zeroL, .int .i64 2]) (by simp [results, Try.results12, go_sem, zeroL, ltC, r0, r1, r2, r3, r4]) rfl (dec11_no HNO.out ⟨rfl, HF.out⟩)

  subst q0
  have hmx : k ≤ 9223372036854775807 := by have := jF_len b; have := HM.out; omega
  have hrt := fun W => right11_any (jvl b 0) (jvl b 1) (jvl b 2) (jvl b 3) D k dc W hmx
  have HD2 := Lib.hid (show jOK b = ltR (jvl b 0) (jvl b 1) (jvl b 2) (jvl b 3) k by rw [HDOK.out, HM.out]; rfl)
  generalize hpr : ltR (jvl b 0) (jvl b 1) (jvl b 2) (jvl b 3) k = r at *
  have HPR := Lib.hid hpr
  clear hpr
  cases r with
  | false =>
    have HNO := Lib.hid HD2.out
    unfold ltC at hrt
    have HRT := Lib.hid hrt
    clear hrt
    go_wp2_with fail
    refine (HRT.out _).mono ?_
    rintro e w11 ⟨rfl, hc'⟩
    have HR := Lib.hid (HR.out.chg hc' id)
    have HC := Lib.hid (HC.out.trans hc' (fun _ _ e => e))
    clear hc' HRT
    have hR := HR.out
    have hC := HC.out
    obtain ⟨x0, x1, x2, x3, x4⟩ := lt_cells hR
    obtain ⟨u0, u1, u2, u3, u4⟩ := lt_free hR
    obtain ⟨r0, r1, r2, r3, r4, _, hcs⟩ := lt_put hR 0 0 0 0 none 0 0
    have HF := Lib.hid (fresh_set hC hcs (Nat.le_refl _))
    have RR := Lib.hid (And.intro r0 (And.intro r1 (And.intro r2 (And.intro r3 r4))))
    clear r0 r1 r2 r3 r4 hcs hR hC
    go_wp2_with fail
    obtain ⟨r0, r1, r2, r3, r4⟩ := RR.out
    exact bodyPost_ret (v := .tuple #[zeroL, .int .i64 2]) (by simp [results, Try.results12, go_sem, zeroL, ltC, r0, r1, r2, r3, r4]) rfl (dec11_no HNO.out ⟨rfl, HF.out⟩)

  | true =>
    unfold ltC at hrt
    have HRT := Lib.hid hrt
    clear hrt
    go_wp2_with fail
    refine (HRT.out _).mono ?_
    rintro e w11 ⟨rfl, hc'⟩
    have hR := HR.out.chg hc' id
    have hC := HC.out.trans hc' (fun _ _ e => e)
    have hQ := HQ.out.chg hc' id
    have hfr := HFR.out.chg hc' (fun _ _ => id)
    clear hc' HRT HR HC HQ HFR y0 y1 y2 y3 y4
    obtain ⟨y0, y1, y2, y3, y4⟩ := lt_cells hQ
    obtain ⟨x0, x1, x2, x3, x4⟩ := lt_cells hR
    obtain ⟨u0, u1, u2, u3, u4⟩ := lt_free hR
    obtain ⟨r0, r1, r2, r3, r4, _, hcs⟩ := lt_put hR (jvl b 0) (jvl b 1) (jvl b 2) (jvl b 3) D k dc
    have hF := fresh_set hC hcs (Nat.le_refl _)
    have hfr := hfr.chg hcs (fun k hk e => by have := hk.1; omega)
    have HF : Hid (Dec11 b w (.returned (.tuple #[.agg (ltC (jvl b 0) (jvl b 1) (jvl b 2) (jvl b 3) D k dc), .int .i64 0])) _) := dec11_hd HD2.out ⟨D, dc, by rw [HM.out], by rw [← HM.out]; exact hfr.mono (fun _ _ => trivial), hF⟩
    have RR := Lib.hid (And.intro r0 (And.intro r1 (And.intro r2 (And.intro r3 r4))))
    clear r0 r1 r2 r3 r4 hcs hF hfr hR hC hQ
    go_wp2_with fail
    obtain ⟨r0, r1, r2, r3, r4⟩ := RR.out
    exact bodyPost_ret (v := .tuple #[.agg (ltC (jvl b 0) (jvl b 1) (jvl b 2) (jvl b 3) D k dc), .int .i64 0]) (by simp [results, Try.results12, go_sem, ltC, r0, r1, r2, r3, r4]) rfl HF.out

theorem dec11_any (A : Option Addr) (n c : Nat) (b : List UInt8) (S : Nat → Prop) (w : World) (hn : n = b.length) (h : Rds w S A n (bcs b)) (hz : A = none → c = 0) (hn2 : n ≤ 9223372036854775807) :
    Calls Try.prog 12 #[.slice A n c] w (Dec11 b w) := by
  by_cases h15 : n ≤ 1024
  · exact dec11_short A n c b S w hn h hz h15
  · exact dec11_long A n c b w hn (by omega) hn2


end Go.Proofs.Ytbbjecjhkjjbkaa
