/-
  Walk: rutterref11.Parse. Conditions: the bytes are read in memory, not more than 100000.
-/
import Derived.Test.YtbbjecjhkjjbkaaGx
import Derived.Test.YtbbjecjhkjjbkaaGk
import Derived.Test.YtbbjecjhkjjbkaaRs
namespace Go.Proofs.Ytbbjecjhkjjbkaa
open Go.RowKit
set_option linter.unusedVariables false
set_option linter.unusedSimpArgs false

def zeroR : Value := .agg (rlC 0 0 0 0 ⟨#[]⟩)
/-- What the document's parser hands back. -/
def Par11 (b : List UInt8) (w : World) (e : Ending) (w' : World) : Prop := e = .returned (.tuple #[.agg (rlC (jL b).mi (jL b).pe (jL b).ac (jL b).se ⟨(jL b).b.toArray⟩), .int .i64 (jX b)]) ∧ Chg (fun _ => False) w w'
theorem par11_no {b : List UInt8} (h : jOK b = false) {w w' : World} {e : Ending} (hh : e = .returned (.tuple #[zeroR, .int .i64 2]) ∧ Chg (fun _ => False) w w') : Par11 b w e w' := by
  unfold Par11
  rw [jL_no h, jX_no h]
  exact hh
theorem par11_yes {b : List UInt8} (h : jOK b = true) {w w' : World} {e : Ending} (hh : e = .returned (.tuple #[.agg (rlC (jvl b 0) (jvl b 1) (jvl b 2) (jvl b 3) ⟨(jF b).toArray⟩), .int .i64 0]) ∧ Chg (fun _ => False) w w') : Par11 b w e w' := by
  unfold Par11
  rw [jL_yes h, jX_yes h]
  exact hh
theorem rjget11 (p : Nat) (S : Nat → Prop) (b : List UInt8) (j : Nat) (k : Int) (w : World) (h : Rd 89 false w p S (jst b j)) (h1 : (getS k (jst b j)).1 = jvl b j) (h2 : (getS k (jst b j)).2 = jst b (j + 1)) :
    Calls Try.prog 37 #[.pointer (some ⟨p, 0, none⟩), .int .i64 k] w fun e w' => e = .returned (.int .i64 (jvl b j)) ∧ Rd 89 false w' p S (jst b (j + 1)) ∧ Chg (fun k => k = p) w w' := by
  have hg := rget_any p S _ k w h
  rw [h1, h2] at hg
  exact hg
theorem rjdone11 (p : Nat) (S : Nat → Prop) (st : Option (List UInt8)) (w0 w : World) (h : Rd 89 false w0 p S st) (hc : Chg (fun _ => False) w0 w) :
    Calls Try.prog 39 #[.pointer (some ⟨p, 0, none⟩)] w fun e w' => e = .returned (.int .i64 (doneS st)) ∧ w = w' :=
  rrdone_any p S st w (h.chg hc id (fun _ _ => id))

set_option maxRecDepth 100000 in
set_option maxHeartbeats 4000000 in
theorem rparse11_any (A : Option Addr) (n c : Nat) (b : List UInt8) (S : Nat → Prop) (w : World) (hn : n = b.length) (h : Rds w S A n (bcs b)) (hb : n ≤ 100000) : Calls Try.prog 13 #[.slice A n c] w (Par11 b w) := by
  obtain ⟨i0, hi0, hz0, hz1, hz2⟩ := info_parts infoByte
  have hR0 : Blk ((w.alloc (.cells #[.int .i64 0, .int .i64 0, .int .i64 0, .int .i64 0, .string (⟨#[]⟩)] 28)).alloc (.cells #[] 5)) w.heap.size 28 (rlC 0 0 0 0 ⟨#[]⟩) := (blk_new rfl).alloc _
  have hC0 := ((Chg.refl (fun _ => False) w).alloc (.cells #[.int .i64 0, .int .i64 0, .int .i64 0, .int .i64 0, .string (⟨#[]⟩)] 28)).alloc (.cells #[] 5)
  have hmade : ((w.alloc (.cells #[.int .i64 0, .int .i64 0, .int .i64 0, .int .i64 0, .string (⟨#[]⟩)] 28)).alloc (.cells #[] 5)).ownsRow (w.heap.size + 1) 5 1 (.slice (some ⟨w.heap.size + 1, 0, none⟩) 0 0) 0 [] := by
    have h := World.ownsRow_made (e := 5) (size := 1) (w.alloc (.cells #[.int .i64 0, .int .i64 0, .int .i64 0, .int .i64 0, .string (⟨#[]⟩)] 28)) #[] 0 (Nat.le_refl _) (by decide) rfl
    simpa using h
  have hsz : ((w.alloc (.cells #[.int .i64 0, .int .i64 0, .int .i64 0, .int .i64 0, .string (⟨#[]⟩)] 28)).alloc (.cells #[] 5)).heap.size = w.heap.size + 2 := by simp
  have hh := (h.alloc (.cells #[.int .i64 0, .int .i64 0, .int .i64 0, .int .i64 0, .string (⟨#[]⟩)] 28)).alloc (.cells #[] 5)
  have HN := Lib.hid hn
  have HR0 := Lib.hid hR0
  have HC0 := Lib.hid hC0
  have HDOK := Lib.hid (jOK_eq b)
  clear hR0 hC0 hn h
  go_enter Try.func13, Try.ntmps13
  go_wp2_with (at_builtin; refine wpList_own_append _ rfl (.tmp 7) (.tmp 8) 22 rfl (w.heap.size + 1) 5 i0 (.int .u8 0) 1 Try.underlying22 hi0 hz0 hz1 hz2 rfl (.slice (some ⟨w.heap.size + 1, 0, none⟩) 0 0) 0 [] rfl hmade S A n c (bcs b) rfl hh (bcs_one b) (by unfold maxLen; omega) (by omega) (by omega) ?_; intro v' wa hown hg hat; rw [Nat.zero_add, List.nil_append] at hown; obtain ⟨D, dc, rfl, hdc1, hdc2⟩ := own_form hown; have hC := grown_fresh HC0.out hg hmade (by omega); have hR := blk_grown HR0.out hg (by simp [Value.ownBlock]); clear hg hat hmade hh HR0 HC0)
  have hrd : Rd 89 false (wa.alloc (.cells #[.slice D n dc, .bool false] 89)) wa.heap.size (fun k => w.heap.size < k ∧ k < wa.heap.size) (jst b 0) :=
    ⟨fun h => absurd h.2 (Nat.lt_irrefl _), D, n, dc, false, b, heap_alloc_new wa _, hdc1, hdc2, HN.out, ((own_rds2 hown).mono (fun k hk => ⟨by omega, hk.2⟩)).alloc _, rfl, rfl⟩
  have hrp := hR.lt
  have hC := hC.alloc (.cells #[.slice D n dc, .bool false] 89)
  have hR := hR.alloc (.cells #[.slice D n dc, .bool false] 89)
  clear hown hdc1 hdc2
  generalize hpp : wa.heap.size = p at *
  have HPP := Lib.hid hpp
  clear hpp
  have HG := Lib.hid (rjget11 p _ b 0 5 _ hrd rfl rfl)
  have HR := Lib.hid hR
  have HC := Lib.hid hC
  clear hrd hR hC
  go_wp2_with fail
  refine HG.out.mono ?_
  rintro e w1 ⟨rfl, hrd, hc'⟩
  have hC := fresh_set HC.out hc' (by omega)
  have hR := HR.out.chg hc' (by omega)
  clear HG HR HC hc'
  have hpq : p < w1.heap.size := hrd.lt
  have hQ : Blk (w1.alloc (.cells #[.int .i64 (jvl b 0), .int .i64 0, .int .i64 0, .int .i64 0, .string (⟨#[]⟩)] 28)) w1.heap.size 28 (rlC (jvl b 0) 0 0 0 ⟨#[]⟩) := blk_new rfl
  have hca := (Chg.refl (fun _ => False) w1).alloc (.cells #[.int .i64 (jvl b 0), .int .i64 0, .int .i64 0, .int .i64 0, .string (⟨#[]⟩)] 28)
  have hrd := hrd.chg hca id (fun _ _ => id)
  have hC := hC.trans hca (fun _ _ e => e)
  have hR := hR.chg hca id
  clear hca
  have HG := Lib.hid (rjget11 p _ b 1 5 _ hrd rfl rfl)
  have HR := Lib.hid hR
  have HC := Lib.hid hC
  have HQ := Lib.hid hQ
  clear hrd hR hC hQ
  go_wp2_with fail

  refine HG.out.mono ?_
  rintro e w2 ⟨rfl, hrd, hc'⟩
  have hC := fresh_set HC.out hc' (by omega)
  have hR := HR.out.chg hc' (by omega)
  have hQ := HQ.out.chg hc' (by omega)
  clear HG HR HC hc' HQ
  obtain ⟨y0, y1, y2, y3, y4⟩ := rl_cells hQ
  obtain ⟨f0, f1, f2, f3, f4⟩ := lt_free hQ
  have hcs := (Chg.refl (fun k => k = w1.heap.size) w2).put w1.heap.size 1 (fun _ => rfl) (.int .i64 (jvl b 1))
  have hC := fresh_set hC hcs (by omega)
  have hR := hR.chg hcs (by omega)
  have hQ := hQ.set 1 (.int .i64 (jvl b 1))
  have hrd := hrd.chg hcs (by omega) (fun k hk => by have := hk.2; omega)
  simp only [rlC, List.setIfInBounds_toArray, List.set_cons_succ, List.set_cons_zero] at hQ
  have hQ : Blk _ _ 28 (rlC (jvl b 0) (jvl b 1) 0 0 ⟨#[]⟩) := hQ
  clear hcs
  have HG := Lib.hid (rjget11 p _ b 2 6 _ hrd rfl rfl)
  have HR := Lib.hid hR
  have HC := Lib.hid hC
  have HQ := Lib.hid hQ
  clear hrd hR hC hQ
  go_wp2_with fail
  clear y0 y1 y2 y3 y4 f0 f1 f2 f3 f4
  refine HG.out.mono ?_
  rintro e w3 ⟨rfl, hrd, hc'⟩
  have hC := fresh_set HC.out hc' (by omega)
  have hR := HR.out.chg hc' (by omega)
  have hQ := HQ.out.chg hc' (by omega)
  clear HG HR HC hc' HQ
  obtain ⟨y0, y1, y2, y3, y4⟩ := rl_cells hQ
  obtain ⟨f0, f1, f2, f3, f4⟩ := lt_free hQ
  have hcs := (Chg.refl (fun k => k = w1.heap.size) w3).put w1.heap.size 2 (fun _ => rfl) (.int .i64 (jvl b 2))
  have hC := fresh_set hC hcs (by omega)
  have hR := hR.chg hcs (by omega)
  have hQ := hQ.set 2 (.int .i64 (jvl b 2))
  have hrd := hrd.chg hcs (by omega) (fun k hk => by have := hk.2; omega)
  simp only [rlC, List.setIfInBounds_toArray, List.set_cons_succ, List.set_cons_zero] at hQ
  have hQ : Blk _ _ 28 (rlC (jvl b 0) (jvl b 1) (jvl b 2) 0 ⟨#[]⟩) := hQ
  clear hcs
  have HG := Lib.hid (rjget11 p _ b 3 6 _ hrd rfl rfl)
  have HR := Lib.hid hR
  have HC := Lib.hid hC
  have HQ := Lib.hid hQ
  clear hrd hR hC hQ
  go_wp2_with fail
  clear y0 y1 y2 y3 y4 f0 f1 f2 f3 f4
  refine HG.out.mono ?_
  rintro e w4 ⟨rfl, hrd, hc'⟩
  have hC := fresh_set HC.out hc' (by omega)
  have hR := HR.out.chg hc' (by omega)
  have hQ := HQ.out.chg hc' (by omega)
  clear HG HR HC hc' HQ
  obtain ⟨y0, y1, y2, y3, y4⟩ := rl_cells hQ
  obtain ⟨f0, f1, f2, f3, f4⟩ := lt_free hQ
  have hcs := (Chg.refl (fun k => k = w1.heap.size) w4).put w1.heap.size 3 (fun _ => rfl) (.int .i64 (jvl b 3))
  have hC := fresh_set hC hcs (by omega)
  have hR := hR.chg hcs (by omega)
  have hQ := hQ.set 3 (.int .i64 (jvl b 3))
  have hrd := hrd.chg hcs (by omega) (fun k hk => by have := hk.2; omega)
  simp only [rlC, List.setIfInBounds_toArray, List.set_cons_succ, List.set_cons_zero] at hQ
  have hQ : Blk _ _ 28 (rlC (jvl b 0) (jvl b 1) (jvl b 2) (jvl b 3) ⟨#[]⟩) := hQ
  clear hcs
  have HG := Lib.hid (rrbytes_any p _ _ 1000 _ hrd)
  have HR := Lib.hid hR
  have HC := Lib.hid hC
  have HQ := Lib.hid hQ
  clear hrd hR hC hQ
  go_wp2_with fail
  clear y0 y1 y2 y3 y4 f0 f1 f2 f3 f4
  refine HG.out.mono ?_
  rintro e w8 ⟨E, k, ec, rfl, hm, hfr, hrd, hc'⟩
  replace hm : k = (jF b).length := hm
  replace hfr : Rds w8 _ E k (bcs (jF b)) := hfr
  replace hrd : Rd _ _ _ _ _ (jE b) := hrd
  have hC := fresh_set HC.out hc' (by omega)
  have hR := HR.out.chg hc' (by omega)
  have hQ := HQ.out.chg hc' (by omega)
  clear HG HR HC HQ hc'
  have s1 := conv_any (c := ec) hfr
  obtain ⟨y0, y1, y2, y3, y4⟩ := rl_cells hQ
  obtain ⟨f0, f1, f2, f3, f4⟩ := lt_free hQ
  have hcs := (Chg.refl (fun k => k = w1.heap.size) w8).put w1.heap.size 4 (fun _ => rfl) (.string ⟨(jF b).toArray⟩)
  have hC := fresh_set hC hcs (by omega)
  have hR := hR.chg hcs (by omega)
  have hQ := hQ.set 4 (.string ⟨(jF b).toArray⟩)
  have hrd := hrd.chg hcs (by omega) (fun k hk => by have := hk.2; omega)
  simp only [rlC, List.setIfInBounds_toArray, List.set_cons_succ, List.set_cons_zero] at hQ
  have hQ : Blk _ _ 28 (rlC (jvl b 0) (jvl b 1) (jvl b 2) (jvl b 3) ⟨(jF b).toArray⟩) := hQ
  clear hcs hfr
  have hmx : k ≤ 9223372036854775807 := by have := jF_len b; omega
  have hrt := fun W => rright11_any (jvl b 0) (jvl b 1) (jvl b 2) (jvl b 3) ⟨(jF b).toArray⟩ k W (by rw [hm]; rfl) hmx
  have HD2 := Lib.hid (show jOK b = (doneS (jE b) == 0 && ltR (jvl b 0) (jvl b 1) (jvl b 2) (jvl b 3) k) by rw [HDOK.out, hm])
  generalize hpr : ltR (jvl b 0) (jvl b 1) (jvl b 2) (jvl b 3) k = r at *
  have HPR := Lib.hid hpr
  unfold rlC at hrt
  have HRT := Lib.hid hrt
  have HG := Lib.hid (fun W hw => rjdone11 p _ _ _ W hrd hw)
  obtain ⟨z0, z1, z2, z3, z4⟩ := rl_cells hQ
  have HR := Lib.hid hR
  have HC := Lib.hid hC
  have HQ := Lib.hid hQ
  clear hpr hrt hrd hR hC hQ hm
  generalize hdn : doneS (jE b) = dn at *
  clear hdn
  go_wp2_with fail
  clear y0 y1 y2 y3 y4 f0 f1 f2 f3 f4 z0 z1 z2 z3 z4 s1
  refine (HRT.out _).mono ?_
  rintro e w9 ⟨rfl, hc'⟩
  have HG := Lib.hid (HG.out _ hc')
  have HR := Lib.hid (HR.out.chg hc' id)
  have HC := Lib.hid (HC.out.trans hc' (fun _ _ e => e))
  have HQ := Lib.hid (HQ.out.chg hc' id)
  clear hc' HRT
  go_wp2_with fail
  refine HG.out.mono ?_
  rintro e w10 ⟨rfl, hw10⟩
  rw [hw10] at HR HC HQ
  clear hw10 HG
  by_cases q0 : dn = 0
  case neg =>
    have t0 : (dn == 0) = false := by simpa using q0
    have s0 : (dn != 0) = true := by simpa using q0
    have HNO := Lib.hid (show jOK b = false by rw [HD2.out, t0]; rfl)
    clear q0
    have hR := HR.out
    have hC := HC.out
    obtain ⟨x0, x1, x2, x3, x4⟩ := rl_cells hR
    obtain ⟨u0, u1, u2, u3, u4⟩ := lt_free hR
    obtain ⟨r0, r1, r2, r3, r4, _, hcs⟩ := rl_put hR 0 0 0 0 ⟨#[]⟩
    have HF := Lib.hid (fresh_set hC hcs (Nat.le_refl _))
    have RR := Lib.hid (And.intro r0 (And.intro r1 (And.intro r2 (And.intro r3 r4))))
    clear r0 r1 r2 r3 r4 hcs hR hC
    go_wp2_with fail
    obtain ⟨r0, r1, r2, r3, r4⟩ := RR.out
    exact bodyPost_ret (v := .tuple #[zeroR, .int .i64 2]) (by simp [results, Try.results13, go_sem, zeroR, rlC, r0, r1, r2, r3, r4]) rfl (par11_no HNO.out ⟨rfl, HF.out⟩)

  subst q0
  have HD3 := Lib.hid (show jOK b = r by rw [HD2.out]; rfl)
  cases r with
  | false =>
    have HNO := Lib.hid HD3.out
    have hR := HR.out
    have hC := HC.out
    obtain ⟨x0, x1, x2, x3, x4⟩ := rl_cells hR
    obtain ⟨u0, u1, u2, u3, u4⟩ := lt_free hR
    obtain ⟨r0, r1, r2, r3, r4, _, hcs⟩ := rl_put hR 0 0 0 0 ⟨#[]⟩
    have HF := Lib.hid (fresh_set hC hcs (Nat.le_refl _))
    have RR := Lib.hid (And.intro r0 (And.intro r1 (And.intro r2 (And.intro r3 r4))))
    clear r0 r1 r2 r3 r4 hcs hR hC
    go_wp2_with fail
    obtain ⟨r0, r1, r2, r3, r4⟩ := RR.out
    exact bodyPost_ret (v := .tuple #[zeroR, .int .i64 2]) (by simp [results, Try.results13, go_sem, zeroR, rlC, r0, r1, r2, r3, r4]) rfl (par11_no HNO.out ⟨rfl, HF.out⟩)

  | true =>
    have hR := HR.out
    have hC := HC.out
    have hQ := HQ.out
    obtain ⟨y0, y1, y2, y3, y4⟩ := rl_cells hQ
    obtain ⟨x0, x1, x2, x3, x4⟩ := rl_cells hR
    obtain ⟨u0, u1, u2, u3, u4⟩ := lt_free hR
    obtain ⟨r0, r1, r2, r3, r4, _, hcs⟩ := rl_put hR (jvl b 0) (jvl b 1) (jvl b 2) (jvl b 3) ⟨(jF b).toArray⟩
    have HF : Hid (Par11 b w (.returned (.tuple #[.agg (rlC (jvl b 0) (jvl b 1) (jvl b 2) (jvl b 3) ⟨(jF b).toArray⟩), .int .i64 0])) _) := Lib.hid (par11_yes HD3.out ⟨rfl, fresh_set hC hcs (Nat.le_refl _)⟩)
    have RR := Lib.hid (And.intro r0 (And.intro r1 (And.intro r2 (And.intro r3 r4))))
    clear r0 r1 r2 r3 r4 hcs hR hC hQ
    go_wp2_with fail
    obtain ⟨r0, r1, r2, r3, r4⟩ := RR.out
    exact bodyPost_ret (v := .tuple #[.agg (rlC (jvl b 0) (jvl b 1) (jvl b 2) (jvl b 3) ⟨(jF b).toArray⟩), .int .i64 0]) (by simp [results, Try.results13, go_sem, rlC, r0, r1, r2, r3, r4]) rfl HF.out

end Go.Proofs.Ytbbjecjhkjjbkaa
