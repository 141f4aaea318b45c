/-
  Walk: rutterref05.Parse. Conditions: the bytes are read in memory, not more than 100000.
-/
import Derived.Test.YtnboilombfnpkaaQf
import Derived.Test.YtnboilombfnpkaaRs
namespace Go.Proofs.Ytnboilombfnpkaa
open Go.RowKit
set_option linter.unusedVariables false

theorem rtget (p : Nat) (S : Nat → Prop) (b : List UInt8) (j : Nat) (k : Int) (w : World) (h : Rd 58 false w p S (dst b j)) (h1 : (getS k (dst b j)).1 = dvl b j) (h2 : (getS k (dst b j)).2 = dst b (j + 1)) :
    Calls Try.prog 31 #[.pointer (some ⟨p, 0, none⟩), .int .i64 k] w fun e w' => e = .returned (.int .i64 (dvl b j)) ∧ Rd 58 false w' p S (dst b (j + 1)) ∧ Chg (fun k => k = p) w w' := by
  have hg := rget_any p S _ k w h
  rw [h1, h2] at hg
  exact hg

theorem rdone5 (p : Nat) (S : Nat → Prop) (st : Option (List UInt8)) (w0 w : World) (h : Rd 58 false w0 p S st) (hc : Chg (fun _ => False) w0 w) :
    Calls Try.prog 33 #[.pointer (some ⟨p, 0, none⟩)] w fun e w' => e = .returned (.int .i64 (doneS st)) ∧ w = w' :=
  rrdone_any p S st w (h.chg hc id (fun _ _ => id))
set_option maxHeartbeats 4000000 in
theorem rparse5_any (A : Option Addr) (n c : Nat) (b : List UInt8) (S : Nat → Prop) (w : World) (hn : n = b.length) (h : Rds w S A n (bcs b)) (hb : n ≤ 100000) :
    Calls Try.prog 17 #[.slice A n c] w (Dec b w) := by
  obtain ⟨i0, hi0, hz0, hz1, hz2⟩ := info_parts infoByte
  have hR0 : Blk ((w.alloc (.cells #[.int .i64 0, .int .i64 0, .int .i64 0, .int .i64 0, .int .i64 0, .int .i64 0, .int .i64 0, .slice none 0 0] 25)).alloc (.cells #[] 5)) w.heap.size 25 (pkC 0 0 0 0 0 0 0 none 0 0) := (blk_new rfl).alloc _
  have hC0 := ((Chg.refl (fun _ => False) w).alloc (.cells #[.int .i64 0, .int .i64 0, .int .i64 0, .int .i64 0, .int .i64 0, .int .i64 0, .int .i64 0, .slice none 0 0] 25)).alloc (.cells #[] 5)
  have hmade : ((w.alloc (.cells #[.int .i64 0, .int .i64 0, .int .i64 0, .int .i64 0, .int .i64 0, .int .i64 0, .int .i64 0, .slice none 0 0] 25)).alloc (.cells #[] 5)).ownsRow (w.heap.size + 1) 5 1 (.slice (some ⟨w.heap.size + 1, 0, none⟩) 0 0) 0 [] := by
    have h := World.ownsRow_made (e := 5) (size := 1) (w.alloc (.cells #[.int .i64 0, .int .i64 0, .int .i64 0, .int .i64 0, .int .i64 0, .int .i64 0, .int .i64 0, .slice none 0 0] 25)) #[] 0 (Nat.le_refl _) (by decide) rfl
    simpa using h
  have hsz : ((w.alloc (.cells #[.int .i64 0, .int .i64 0, .int .i64 0, .int .i64 0, .int .i64 0, .int .i64 0, .int .i64 0, .slice none 0 0] 25)).alloc (.cells #[] 5)).heap.size = w.heap.size + 2 := by simp
  have hh := (h.alloc (.cells #[.int .i64 0, .int .i64 0, .int .i64 0, .int .i64 0, .int .i64 0, .int .i64 0, .int .i64 0, .slice none 0 0] 25)).alloc (.cells #[] 5)
  have HN := Lib.hid hn
  have HR0 := Lib.hid hR0
  have HC0 := Lib.hid hC0
  have HDOK := Lib.hid (dOK_eq b)
  clear hR0 hC0 hn h
  go_enter Try.func17, Try.ntmps17
  go_wp2_with (at_builtin; refine wpList_own_append _ rfl (.tmp 8) (.tmp 9) 23 rfl (w.heap.size + 1) 5 i0 (.int .u8 0) 1 Try.underlying23 hi0 hz0 hz1 hz2 rfl (.slice (some ⟨w.heap.size + 1, 0, none⟩) 0 0) 0 [] rfl hmade S A n c (bcs b) rfl hh (bcs_one b) (by unfold maxLen; omega) (by omega) (by omega) ?_; intro v' wa hown hg hat; rw [Nat.zero_add, List.nil_append] at hown; obtain ⟨D, dc, rfl, hdc1, hdc2⟩ := own_form hown; have hC := grown_fresh HC0.out hg hmade (by omega); have hR := blk_grown HR0.out hg (by simp [Value.ownBlock]); clear hg hat hmade hh HR0 HC0)
  have hrd : Rd 58 false (wa.alloc (.cells #[.slice D n dc, .bool false] 58)) wa.heap.size (fun k => w.heap.size < k ∧ k < wa.heap.size) (dst b 0) :=
    ⟨fun h => absurd h.2 (Nat.lt_irrefl _), D, n, dc, false, b, heap_alloc_new wa _, hdc1, hdc2, HN.out, ((own_rds2 hown).mono (fun k hk => ⟨by omega, hk.2⟩)).alloc _, rfl, rfl⟩
  have hrp := hR.lt
  have hC := hC.alloc (.cells #[.slice D n dc, .bool false] 58)
  have hR := hR.alloc (.cells #[.slice D n dc, .bool false] 58)
  clear hown hdc1 hdc2
  generalize hpp : wa.heap.size = p at *
  have HPP := Lib.hid hpp
  clear hpp
  have HG := Lib.hid (rtget p _ b 0 1 _ hrd rfl rfl)
  have HR := Lib.hid hR
  have HC := Lib.hid hC
  clear hrd hR hC
  go_wp2_with fail
  refine HG.out.mono ?_
  rintro e w0 ⟨rfl, hrd, hc'⟩
  have hC := fresh_set HC.out hc' (by omega)
  have hR := HR.out.chg hc' (by omega)
  clear HG HR HC hc'
  have HG := Lib.hid (rtget p _ b 1 1 _ hrd rfl rfl)
  have HR := Lib.hid hR
  have HC := Lib.hid hC
  clear hrd hR hC
  go_wp2_with fail
  refine HG.out.mono ?_
  rintro e w1 ⟨rfl, hrd, hc'⟩
  have hC := fresh_set HC.out hc' (by omega)
  have hR := HR.out.chg hc' (by omega)
  clear HG HR HC hc'
  have hpq : p < w1.heap.size := hrd.lt
  have hQ : Blk (w1.alloc (.cells #[.int .i64 (dvl b 1), .int .i64 0, .int .i64 0, .int .i64 0, .int .i64 0, .int .i64 0, .int .i64 0, .slice none 0 0] 25)) w1.heap.size 25 (pkC (dvl b 1) 0 0 0 0 0 0 none 0 0) := blk_new rfl
  have hca := (Chg.refl (fun _ => False) w1).alloc (.cells #[.int .i64 (dvl b 1), .int .i64 0, .int .i64 0, .int .i64 0, .int .i64 0, .int .i64 0, .int .i64 0, .slice none 0 0] 25)
  have hrd := hrd.chg hca id (fun _ _ => id)
  have hC := hC.trans hca (fun _ _ e => e)
  have hR := hR.chg hca id
  clear hca
  have HG := Lib.hid (rtget p _ b 2 1 _ hrd rfl rfl)
  have HR := Lib.hid hR
  have HC := Lib.hid hC
  have HQ := Lib.hid hQ
  clear hrd hR hC hQ
  go_wp2_with fail
  refine HG.out.mono ?_
  rintro e w2 ⟨rfl, hrd, hc'⟩
  have hC := fresh_set HC.out hc' (by omega)
  have hR := HR.out.chg hc' (by omega)
  have hQ := HQ.out.chg hc' (by omega)
  clear HG HR HC hc' HQ
  obtain ⟨y0, y1, y2, y3, y4, y5, y6, y7⟩ := pk_cells hQ
  obtain ⟨f0, f1, f2, f3, f4, f5, f6, f7⟩ := pk_free hQ
  have hcs := (Chg.refl (fun k => k = w1.heap.size) w2).put w1.heap.size 1 (fun _ => rfl) (.int .i64 (dvl b 2))
  have hC := fresh_set hC hcs (by omega)
  have hR := hR.chg hcs (by omega)
  have hQ := hQ.set 1 (.int .i64 (dvl b 2))
  have hrd := hrd.chg hcs (by omega) (fun k hk => by have := hk.2; omega)
  simp only [pkC, List.setIfInBounds_toArray, List.set_cons_succ, List.set_cons_zero] at hQ
  have hQ : Blk _ _ 25 (pkC (dvl b 1) (dvl b 2) 0 0 0 0 0 none 0 0) := hQ
  clear hcs
  have HG := Lib.hid (rtget p _ b 3 1 _ hrd rfl rfl)
  have HR := Lib.hid hR
  have HC := Lib.hid hC
  have HQ := Lib.hid hQ
  clear hrd hR hC hQ
  go_wp2_with fail
  clear y0 y1 y2 y3 y4 y5 y6 y7 f0 f1 f2 f3 f4 f5 f6 f7
  refine HG.out.mono ?_
  rintro e w3 ⟨rfl, hrd, hc'⟩
  have hC := fresh_set HC.out hc' (by omega)
  have hR := HR.out.chg hc' (by omega)
  have hQ := HQ.out.chg hc' (by omega)
  clear HG HR HC hc' HQ
  obtain ⟨y0, y1, y2, y3, y4, y5, y6, y7⟩ := pk_cells hQ
  obtain ⟨f0, f1, f2, f3, f4, f5, f6, f7⟩ := pk_free hQ
  have hcs := (Chg.refl (fun k => k = w1.heap.size) w3).put w1.heap.size 2 (fun _ => rfl) (.int .i64 (dvl b 3))
  have hC := fresh_set hC hcs (by omega)
  have hR := hR.chg hcs (by omega)
  have hQ := hQ.set 2 (.int .i64 (dvl b 3))
  have hrd := hrd.chg hcs (by omega) (fun k hk => by have := hk.2; omega)
  simp only [pkC, List.setIfInBounds_toArray, List.set_cons_succ, List.set_cons_zero] at hQ
  have hQ : Blk _ _ 25 (pkC (dvl b 1) (dvl b 2) (dvl b 3) 0 0 0 0 none 0 0) := hQ
  clear hcs
  have HG := Lib.hid (rtget p _ b 4 1 _ hrd rfl rfl)
  have HR := Lib.hid hR
  have HC := Lib.hid hC
  have HQ := Lib.hid hQ
  clear hrd hR hC hQ
  go_wp2_with fail
  clear y0 y1 y2 y3 y4 y5 y6 y7 f0 f1 f2 f3 f4 f5 f6 f7
  refine HG.out.mono ?_
  rintro e w4 ⟨rfl, hrd, hc'⟩
  have hC := fresh_set HC.out hc' (by omega)
  have hR := HR.out.chg hc' (by omega)
  have hQ := HQ.out.chg hc' (by omega)
  clear HG HR HC hc' HQ
  obtain ⟨y0, y1, y2, y3, y4, y5, y6, y7⟩ := pk_cells hQ
  obtain ⟨f0, f1, f2, f3, f4, f5, f6, f7⟩ := pk_free hQ
  have hcs := (Chg.refl (fun k => k = w1.heap.size) w4).put w1.heap.size 3 (fun _ => rfl) (.int .i64 (dvl b 4))
  have hC := fresh_set hC hcs (by omega)
  have hR := hR.chg hcs (by omega)
  have hQ := hQ.set 3 (.int .i64 (dvl b 4))
  have hrd := hrd.chg hcs (by omega) (fun k hk => by have := hk.2; omega)
  simp only [pkC, List.setIfInBounds_toArray, List.set_cons_succ, List.set_cons_zero] at hQ
  have hQ : Blk _ _ 25 (pkC (dvl b 1) (dvl b 2) (dvl b 3) (dvl b 4) 0 0 0 none 0 0) := hQ
  clear hcs
  have HG := Lib.hid (rtget p _ b 5 1 _ hrd rfl rfl)
  have HR := Lib.hid hR
  have HC := Lib.hid hC
  have HQ := Lib.hid hQ
  clear hrd hR hC hQ
  go_wp2_with fail
  clear y0 y1 y2 y3 y4 y5 y6 y7 f0 f1 f2 f3 f4 f5 f6 f7
  refine HG.out.mono ?_
  rintro e w5 ⟨rfl, hrd, hc'⟩
  have hC := fresh_set HC.out hc' (by omega)
  have hR := HR.out.chg hc' (by omega)
  have hQ := HQ.out.chg hc' (by omega)
  clear HG HR HC hc' HQ
  obtain ⟨y0, y1, y2, y3, y4, y5, y6, y7⟩ := pk_cells hQ
  obtain ⟨f0, f1, f2, f3, f4, f5, f6, f7⟩ := pk_free hQ
  have hcs := (Chg.refl (fun k => k = w1.heap.size) w5).put w1.heap.size 4 (fun _ => rfl) (.int .i64 (dvl b 5))
  have hC := fresh_set hC hcs (by omega)
  have hR := hR.chg hcs (by omega)
  have hQ := hQ.set 4 (.int .i64 (dvl b 5))
  have hrd := hrd.chg hcs (by omega) (fun k hk => by have := hk.2; omega)
  simp only [pkC, List.setIfInBounds_toArray, List.set_cons_succ, List.set_cons_zero] at hQ
  have hQ : Blk _ _ 25 (pkC (dvl b 1) (dvl b 2) (dvl b 3) (dvl b 4) (dvl b 5) 0 0 none 0 0) := hQ
  clear hcs
  have HG := Lib.hid (rtget p _ b 6 5 _ hrd rfl rfl)
  have HR := Lib.hid hR
  have HC := Lib.hid hC
  have HQ := Lib.hid hQ
  clear hrd hR hC hQ
  go_wp2_with fail
  clear y0 y1 y2 y3 y4 y5 y6 y7 f0 f1 f2 f3 f4 f5 f6 f7
  refine HG.out.mono ?_
  rintro e w6 ⟨rfl, hrd, hc'⟩
  have hC := fresh_set HC.out hc' (by omega)
  have hR := HR.out.chg hc' (by omega)
  have hQ := HQ.out.chg hc' (by omega)
  clear HG HR HC hc' HQ
  obtain ⟨y0, y1, y2, y3, y4, y5, y6, y7⟩ := pk_cells hQ
  obtain ⟨f0, f1, f2, f3, f4, f5, f6, f7⟩ := pk_free hQ
  have hcs := (Chg.refl (fun k => k = w1.heap.size) w6).put w1.heap.size 5 (fun _ => rfl) (.int .i64 (dvl b 6))
  have hC := fresh_set hC hcs (by omega)
  have hR := hR.chg hcs (by omega)
  have hQ := hQ.set 5 (.int .i64 (dvl b 6))
  have hrd := hrd.chg hcs (by omega) (fun k hk => by have := hk.2; omega)
  simp only [pkC, List.setIfInBounds_toArray, List.set_cons_succ, List.set_cons_zero] at hQ
  have hQ : Blk _ _ 25 (pkC (dvl b 1) (dvl b 2) (dvl b 3) (dvl b 4) (dvl b 5) (dvl b 6) 0 none 0 0) := hQ
  clear hcs
  have HG := Lib.hid (rtget p _ b 7 6 _ hrd rfl rfl)
  have HR := Lib.hid hR
  have HC := Lib.hid hC
  have HQ := Lib.hid hQ
  clear hrd hR hC hQ
  go_wp2_with fail
  clear y0 y1 y2 y3 y4 y5 y6 y7 f0 f1 f2 f3 f4 f5 f6 f7
  refine HG.out.mono ?_
  rintro e w7 ⟨rfl, hrd, hc'⟩
  have hC := fresh_set HC.out hc' (by omega)
  have hR := HR.out.chg hc' (by omega)
  have hQ := HQ.out.chg hc' (by omega)
  clear HG HR HC hc' HQ
  obtain ⟨y0, y1, y2, y3, y4, y5, y6, y7⟩ := pk_cells hQ
  obtain ⟨f0, f1, f2, f3, f4, f5, f6, f7⟩ := pk_free hQ
  have hcs := (Chg.refl (fun k => k = w1.heap.size) w7).put w1.heap.size 6 (fun _ => rfl) (.int .i64 (dvl b 7))
  have hC := fresh_set hC hcs (by omega)
  have hR := hR.chg hcs (by omega)
  have hQ := hQ.set 6 (.int .i64 (dvl b 7))
  have hrd := hrd.chg hcs (by omega) (fun k hk => by have := hk.2; omega)
  simp only [pkC, List.setIfInBounds_toArray, List.set_cons_succ, List.set_cons_zero] at hQ
  have hQ : Blk _ _ 25 (pkC (dvl b 1) (dvl b 2) (dvl b 3) (dvl b 4) (dvl b 5) (dvl b 6) (dvl b 7) none 0 0) := hQ
  clear hcs
  have HG := Lib.hid (rrbytes_any p _ _ 1514 _ hrd)
  have HR := Lib.hid hR
  have HC := Lib.hid hC
  have HQ := Lib.hid hQ
  have hq8 := hQ.lt
  clear hrd hR hC hQ
  go_wp2_with fail
  clear y0 y1 y2 y3 y4 y5 y6 y7 f0 f1 f2 f3 f4 f5 f6 f7
  refine HG.out.mono ?_
  rintro e w8 ⟨E, m, ec, rfl, hm, hfr, hrd, hc'⟩
  replace hm : m = (dF b).length := hm
  replace hfr : Rds w8 _ E m (bcs (dF b)) := hfr
  replace hrd : Rd _ _ _ _ _ (dE b) := hrd
  have hC := fresh_set HC.out hc' (by omega)
  have hR := HR.out.chg hc' (by omega)
  have hQ := HQ.out.chg hc' (by omega)
  have hr8 := HR.out.lt
  clear HG HR HC HQ hc'
  obtain ⟨y0, y1, y2, y3, y4, y5, y6, y7⟩ := pk_cells hQ
  obtain ⟨f0, f1, f2, f3, f4, f5, f6, f7⟩ := pk_free hQ
  have hcs := (Chg.refl (fun k => k = w1.heap.size) w8).put w1.heap.size 7 (fun _ => rfl) (.slice E m ec)
  have hC := fresh_set hC hcs (by omega)
  have hR := hR.chg hcs (by omega)
  have hQ := hQ.set 7 (.slice E m ec)
  have hrd := hrd.chg hcs (by omega) (fun k hk => by have := hk.2; omega)
  simp only [pkC, List.setIfInBounds_toArray, List.set_cons_succ, List.set_cons_zero] at hQ
  have hQ : Blk _ _ 25 (pkC (dvl b 1) (dvl b 2) (dvl b 3) (dvl b 4) (dvl b 5) (dvl b 6) (dvl b 7) E m ec) := hQ
  have hfr := hfr.chg hcs (fun k hk e => by subst e; omega)
  clear hcs
  have hmx : m ≤ 9223372036854775807 := by have := dF_len b; omega
  have hrt := fun W => rright5_any (dvl b 1) (dvl b 2) (dvl b 3) (dvl b 4) (dvl b 5) (dvl b 6) (dvl b 7) E m ec W hmx
  have HD2 := Lib.hid (show dOK b = (doneS (dE b) == 0 && (dvl b 0 == 1 && pkR (dvl b 1) (dvl b 2) (dvl b 3) (dvl b 4) (dvl b 5) (dvl b 6) (dvl b 7) m)) by rw [HDOK.out, hm])
  generalize hpr : pkR (dvl b 1) (dvl b 2) (dvl b 3) (dvl b 4) (dvl b 5) (dvl b 6) (dvl b 7) m = r at *
  have HPR := Lib.hid hpr
  unfold pkC at hrt
  have HRT := Lib.hid hrt
  have HG := Lib.hid (fun W hw => rdone5 p _ _ _ W hrd hw)
  have HR := Lib.hid hR
  have HC := Lib.hid hC
  have HQ := Lib.hid hQ
  have HFR := Lib.hid hfr
  have HM := Lib.hid hm
  clear hpr hrt hrd hR hC hQ hfr hm
  generalize hdn : doneS (dE b) = dn at *
  clear hdn
  go_wp2_with fail
  clear y0 y1 y2 y3 y4 y5 y6 y7 f0 f1 f2 f3 f4 f5 f6 f7
  refine (HRT.out _).mono ?_
  rintro e w9 ⟨rfl, hc'⟩
  have HG := Lib.hid (HG.out _ hc')
  have HR := Lib.hid (HR.out.chg hc' id)
  have HC := Lib.hid (HC.out.trans hc' (fun _ _ e => e))
  have HQ := Lib.hid (HQ.out.chg hc' id)
  have HFR := Lib.hid (HFR.out.chg hc' (fun _ _ => id))
  clear hc' HRT
  go_wp2_with fail
  refine HG.out.mono ?_
  rintro e w10 ⟨rfl, hw10⟩
  rw [hw10] at HR HC HQ HFR
  clear hw10 HG
  by_cases q0 : dn = 0
  case neg =>
    have t0 : (dn == 0) = false := by simpa using q0
    have s0 : (dn != 0) = true := by simpa using q0
    have HNO := Lib.hid (show dOK b = false by rw [HD2.out, t0]; rfl)
    clear q0
    have hR := HR.out
    have hC := HC.out
    obtain ⟨x0, x1, x2, x3, x4, x5, x6, x7⟩ := pk_cells hR
    obtain ⟨u0, u1, u2, u3, u4, u5, u6, u7⟩ := pk_free hR
    obtain ⟨r0, r1, r2, r3, r4, r5, r6, r7, _, hcs⟩ := pk_put hR 0 0 0 0 0 0 0 none 0 0
    have HF := Lib.hid (fresh_set hC hcs (Nat.le_refl _))
    have RR := Lib.hid (And.intro r0 (And.intro r1 (And.intro r2 (And.intro r3 (And.intro r4 (And.intro r5 (And.intro r6 r7)))))))
    clear r0 r1 r2 r3 r4 r5 r6 r7 hcs hR hC
    go_wp2_with fail
    obtain ⟨r0, r1, r2, r3, r4, r5, r6, r7⟩ := RR.out
    exact bodyPost_ret (v := .tuple #[zeroP, .int .i64 2]) (by simp [results, Try.results17, go_sem, zeroP, pkC, r0, r1, r2, r3, r4, r5, r6, r7]) rfl (dec_no HNO.out ⟨rfl, HF.out⟩)
  
  subst q0
  by_cases q1 : dvl b 0 = 1
  case neg =>
    have t0 : (dvl b 0 == 1) = false := by simpa using q1
    have s0 : (dvl b 0 != 1) = true := by simpa using q1
    have HNO := Lib.hid (show dOK b = false by rw [HD2.out, t0]; rfl)
    clear q1
    have hR := HR.out
    have hC := HC.out
    obtain ⟨x0, x1, x2, x3, x4, x5, x6, x7⟩ := pk_cells hR
    obtain ⟨u0, u1, u2, u3, u4, u5, u6, u7⟩ := pk_free hR
    obtain ⟨r0, r1, r2, r3, r4, r5, r6, r7, _, hcs⟩ := pk_put hR 0 0 0 0 0 0 0 none 0 0
    have HF := Lib.hid (fresh_set hC hcs (Nat.le_refl _))
    have RR := Lib.hid (And.intro r0 (And.intro r1 (And.intro r2 (And.intro r3 (And.intro r4 (And.intro r5 (And.intro r6 r7)))))))
    clear r0 r1 r2 r3 r4 r5 r6 r7 hcs hR hC
    go_wp2_with fail
    obtain ⟨r0, r1, r2, r3, r4, r5, r6, r7⟩ := RR.out
    exact bodyPost_ret (v := .tuple #[zeroP, .int .i64 2]) (by simp [results, Try.results17, go_sem, zeroP, pkC, r0, r1, r2, r3, r4, r5, r6, r7]) rfl (dec_no HNO.out ⟨rfl, HF.out⟩)
  
  have t1 : (dvl b 0 == 1) = true := by simpa using q1
  have s1 : (dvl b 0 != 1) = false := by simpa using q1
  have HD3 := Lib.hid (show dOK b = r by rw [HD2.out, t1]; rfl)
  clear q1
  cases r with
  | false =>
    have HNO := Lib.hid HD3.out
    have hR := HR.out
    have hC := HC.out
    obtain ⟨x0, x1, x2, x3, x4, x5, x6, x7⟩ := pk_cells hR
    obtain ⟨u0, u1, u2, u3, u4, u5, u6, u7⟩ := pk_free hR
    obtain ⟨r0, r1, r2, r3, r4, r5, r6, r7, _, hcs⟩ := pk_put hR 0 0 0 0 0 0 0 none 0 0
    have HF := Lib.hid (fresh_set hC hcs (Nat.le_refl _))
    have RR := Lib.hid (And.intro r0 (And.intro r1 (And.intro r2 (And.intro r3 (And.intro r4 (And.intro r5 (And.intro r6 r7)))))))
    clear r0 r1 r2 r3 r4 r5 r6 r7 hcs hR hC
    go_wp2_with fail
    obtain ⟨r0, r1, r2, r3, r4, r5, r6, r7⟩ := RR.out
    exact bodyPost_ret (v := .tuple #[zeroP, .int .i64 2]) (by simp [results, Try.results17, go_sem, zeroP, pkC, r0, r1, r2, r3, r4, r5, r6, r7]) rfl (dec_no HNO.out ⟨rfl, HF.out⟩)
  
  | true =>
    have hR := HR.out
    have hC := HC.out
    have hfr := HFR.out
    have hQ := HQ.out
    obtain ⟨y0, y1, y2, y3, y4, y5, y6, y7⟩ := pk_cells hQ
    obtain ⟨x0, x1, x2, x3, x4, x5, x6, x7⟩ := pk_cells hR
    obtain ⟨u0, u1, u2, u3, u4, u5, u6, u7⟩ := pk_free hR
    obtain ⟨r0, r1, r2, r3, r4, r5, r6, r7, _, hcs⟩ := pk_put hR (dvl b 1) (dvl b 2) (dvl b 3) (dvl b 4) (dvl b 5) (dvl b 6) (dvl b 7) E m ec
    have hF := fresh_set hC hcs (Nat.le_refl _)
    have hfr := hfr.chg hcs (fun k hk e => by omega)
    have hnil := rds_nil_ok (c := ec) hfr (by have := (pkR_parts HPR.out).2.2.2.2.2.2.2.1; omega)
    have HF : Hid (Dec b w (.returned (.tuple #[.agg (pkC (dvl b 1) (dvl b 2) (dvl b 3) (dvl b 4) (dvl b 5) (dvl b 6) (dvl b 7) E m ec), .int .i64 0])) _) := dec_hd HD3.out ⟨E, ec, by rw [HM.out], hnil, by rw [← HM.out]; exact hfr.mono (fun _ _ => trivial), hF⟩
    have RR := Lib.hid (And.intro r0 (And.intro r1 (And.intro r2 (And.intro r3 (And.intro r4 (And.intro r5 (And.intro r6 r7)))))))
    clear r0 r1 r2 r3 r4 r5 r6 r7 hcs hF hfr hR hC hQ hnil
    go_wp2_with fail
    obtain ⟨r0, r1, r2, r3, r4, r5, r6, r7⟩ := RR.out
    exact bodyPost_ret (v := .tuple #[.agg (pkC (dvl b 1) (dvl b 2) (dvl b 3) (dvl b 4) (dvl b 5) (dvl b 6) (dvl b 7) E m ec), .int .i64 0]) (by simp [results, Try.results17, go_sem, pkC, r0, r1, r2, r3, r4, r5, r6, r7]) rfl HF.out

end Go.Proofs.Ytnboilombfnpkaa
