/-
  Walk: rutterref06.Parse. Conditions: the bytes are read in memory, not more than 100000.
-/
import Derived.Test.YtalfbijcjghemaaUp
import Derived.Test.YtalfbijcjghemaaUo
import Derived.Test.YtalfbijcjghemaaRs
import Derived.Deep.RegionLaw
namespace Go.Proofs.Ytalfbijcjghemaa
open Go.RowKit
set_option linter.unusedVariables false

theorem rds_at {w : World} {S : Nat → Prop} {ad : Addr} {n : Nat} {xs : List Value} (h : Rds w S (some ad) n xs) (hn : 0 < n) : ∀ j u, xs[j]? = some u → w.cell? (ad.add j) = some u := by
  obtain ⟨ad', e, _, _, hc⟩ := h.2 hn
  injection e with e
  subst e
  exact hc
/-- The cells of records, one behind the other. -/
def rflat (l : List Rc) : List Value := l.flatMap (fun x => x.cs.toList)
theorem rflat_at : ∀ {l : List Rc} {i : Nat} {x : Rc} (h : l[i]? = some x) {j : Nat} {u : Value} (hu : x.cs[j]? = some u), (rflat l)[i * 6 + j]? = some u
  | [], i, x, h, _, _, _ => by simp at h
  | y :: r, 0, x, h, j, u, hu => by
    simp only [List.getElem?_cons_zero, Option.some.injEq] at h
    subst h
    have hj : j < y.cs.toList.length := by
      have := (Array.getElem?_eq_some_iff.1 hu).1
      simpa using this
    have e : rflat (y :: r) = y.cs.toList ++ rflat r := rfl
    rw [e, Nat.zero_mul, Nat.zero_add, List.getElem?_append_left hj]
    rw [← hu]
    simp
  | y :: r, i + 1, x, h, j, u, hu => by
    have ih := rflat_at (l := r) (i := i) (x := x) (by simpa using h) hu
    have e : rflat (y :: r) = y.cs.toList ++ rflat r := rfl
    have hl : y.cs.toList.length = 6 := rfl
    rw [e, List.getElem?_append_right (by rw [hl]; omega), hl]
    rw [show (i + 1) * 6 + j - 6 = i * 6 + j by omega]
    exact ih
theorem rflat_snoc (l : List Rc) (x : Rc) : rflat (l ++ [x]) = rflat l ++ x.cs.toList := by simp [rflat, List.flatMap_append]
theorem own_rcr {w : World} {base n c : Nat} {A : Option Addr} {l : List Rc} (h : w.ownsRow base 46 6 (.slice A n c) n (rflat l)) (hn : n = l.length) : RcR w (fun k => base ≤ k ∧ k < w.heap.size) A n l := by
  refine ⟨hn, fun hm => ?_⟩
  have hlt := h.lt
  rcases h.2 with ⟨hv, rfl⟩ | ⟨g, cap, cur, hv, _⟩
  · omega
  · injection hv with hA hn hc
    subst hA
    have h1 := hlt g rfl
    exact ⟨⟨g, 0, none⟩, rfl, h1, h1.2, fun i x hi j u hu => h.cells (g := g) rfl _ _ (rflat_at hi hu)⟩
theorem own_ne {w : World} {base n c : Nat} {A : Option Addr} {e : TypeId} {size : Nat} {xs : List Value} (h : w.ownsRow base e size (.slice A n c) n xs) {k : Nat} (hk : k < base) : A.map (·.block) ≠ some k := by
  intro e
  have := (h.lt k (by rw [own_block]; exact e)).1
  omega

set_option maxHeartbeats 4000000 in
theorem rpar_1 (A : Option Addr) (n c : Nat) (b : List UInt8) (S : Nat → Prop) (w : World) (hn : n = b.length) (h : Rds w S A n (bcs b)) (hb : n ≤ 100000) (hk : cK b = 1) :
    Calls Try.prog 16 #[.slice A n c] w (Dec6 b w) := by
  have HDOK := Lib.hid (cOK_1 hk)
  have HV := Lib.hid (cV_1 hk)
  have HK := Lib.hid hk
  clear hk
  obtain ⟨i0, hi0, hz0, hz1, hz2⟩ := info_parts infoByte
  have hR0 : Blk ((w.alloc (.cells #[.int .i64 0, .int .i64 0, .int .u64 0, .int .i64 0, .int .i64 0, .int .i64 0, .int .i64 0, .int .i64 0, .int .i64 0, .int .i64 0, .int .i64 0, .int .i64 0, .slice none 0 0] 28)).alloc (.cells #[] 5)) w.heap.size 28 (msC 0 0 0 0 0 0 0 0 0 0 0 0 none 0 0) := (blk_new rfl).alloc _
  have hC0 := ((Chg.refl (fun _ => False) w).alloc (.cells #[.int .i64 0, .int .i64 0, .int .u64 0, .int .i64 0, .int .i64 0, .int .i64 0, .int .i64 0, .int .i64 0, .int .i64 0, .int .i64 0, .int .i64 0, .int .i64 0, .slice none 0 0] 28)).alloc (.cells #[] 5)
  have hmade : ((w.alloc (.cells #[.int .i64 0, .int .i64 0, .int .u64 0, .int .i64 0, .int .i64 0, .int .i64 0, .int .i64 0, .int .i64 0, .int .i64 0, .int .i64 0, .int .i64 0, .int .i64 0, .slice none 0 0] 28)).alloc (.cells #[] 5)).ownsRow (w.heap.size + 1) 5 1 (.slice (some ⟨w.heap.size + 1, 0, none⟩) 0 0) 0 [] := by
    have h := World.ownsRow_made (e := 5) (size := 1) (w.alloc (.cells #[.int .i64 0, .int .i64 0, .int .u64 0, .int .i64 0, .int .i64 0, .int .i64 0, .int .i64 0, .int .i64 0, .int .i64 0, .int .i64 0, .int .i64 0, .int .i64 0, .slice none 0 0] 28)) #[] 0 (Nat.le_refl _) (by decide) rfl
    simpa using h
  have hsz : ((w.alloc (.cells #[.int .i64 0, .int .i64 0, .int .u64 0, .int .i64 0, .int .i64 0, .int .i64 0, .int .i64 0, .int .i64 0, .int .i64 0, .int .i64 0, .int .i64 0, .int .i64 0, .slice none 0 0] 28)).alloc (.cells #[] 5)).heap.size = w.heap.size + 2 := by simp
  have hh := (h.alloc (.cells #[.int .i64 0, .int .i64 0, .int .u64 0, .int .i64 0, .int .i64 0, .int .i64 0, .int .i64 0, .int .i64 0, .int .i64 0, .int .i64 0, .int .i64 0, .int .i64 0, .slice none 0 0] 28)).alloc (.cells #[] 5)
  have HN := Lib.hid hn
  have HR0 := Lib.hid hR0
  have HC0 := Lib.hid hC0
  clear hR0 hC0 hn h
  go_enter Try.func16, Try.ntmps16
  go_wp2_with (at_builtin; refine wpList_own_append _ rfl (.tmp 9) (.tmp 10) 33 rfl (w.heap.size + 1) 5 i0 (.int .u8 0) 1 Try.underlying33 hi0 hz0 hz1 hz2 rfl (.slice (some ⟨w.heap.size + 1, 0, none⟩) 0 0) 0 [] rfl hmade S A n c (bcs b) rfl hh (bcs_one b) (by unfold maxLen; omega) (by omega) (by omega) ?_; intro v' wa hown hg hat; rw [Nat.zero_add, List.nil_append] at hown; obtain ⟨D, dc, rfl, hdc1, hdc2⟩ := own_form hown; have hC := grown_fresh HC0.out hg hmade (by omega); have hR := blk_grown HR0.out hg (by simp [Value.ownBlock]); clear hg hat hmade hh HR0 HC0)
  have HRD : Hid (Rd 72 false (wa.alloc (.cells #[.slice D n dc, .bool false] 72)) wa.heap.size (fun k => w.heap.size < k ∧ k < wa.heap.size) (some b)) := Lib.hid
    ⟨fun h => absurd h.2 (Nat.lt_irrefl _), D, n, dc, false, b, heap_alloc_new wa _, hdc1, hdc2, HN.out, ((own_rds2 hown).mono (fun k hk => ⟨by omega, hk.2⟩)).alloc _, rfl, rfl⟩
  have hrp := hR.lt
  have HC := Lib.hid (hC.alloc (.cells #[.slice D n dc, .bool false] 72))
  have HR := Lib.hid (hR.alloc (.cells #[.slice D n dc, .bool false] 72))
  clear hown hdc1 hdc2 hC hR hsz
  generalize hpp : wa.heap.size = p at *
  have HPP := Lib.hid hpp
  clear hpp
  have HG : Hid (Calls Try.prog 36 #[.pointer (some ⟨p, 0, none⟩), .int .i64 1] _ fun e w' => e = .returned (.int .i64 1) ∧ Rd 72 false w' p (fun k => w.heap.size < k ∧ k < p) (cS1 b) ∧ Chg (fun k => k = p) _ w') := Lib.hid (by
    have hg := rcget p 1 _ (some b) _ HRD.out
    rw [show gv 1 (some b) = 1 from HK.out] at hg
    exact hg)
  go_wp2_with fail
  refine HG.out.mono ?_
  rintro e w1 ⟨rfl, hrd, hc'⟩
  replace HC := Lib.hid (fresh_set HC.out hc' (by omega))
  replace HR := Lib.hid (HR.out.chg hc' (by omega))
  have hpq := hrd.lt
  have HQ : Hid (Blk (w1.alloc (.cells #[.int .i64 1, .int .i64 0, .int .u64 0, .int .i64 0, .int .i64 0, .int .i64 0, .int .i64 0, .int .i64 0, .int .i64 0, .int .i64 0, .int .i64 0, .int .i64 0, .slice none 0 0] 28)) w1.heap.size 28 (msC 1 0 0 0 0 0 0 0 0 0 0 0 none 0 0)) := Lib.hid (blk_new rfl)
  have hca := (Chg.refl (fun _ => False) w1).alloc (.cells #[.int .i64 1, .int .i64 0, .int .u64 0, .int .i64 0, .int .i64 0, .int .i64 0, .int .i64 0, .int .i64 0, .int .i64 0, .int .i64 0, .int .i64 0, .int .i64 0, .slice none 0 0] 28)
  replace HRD := Lib.hid (hrd.chg hca id (fun _ _ => id))
  replace HC := Lib.hid (HC.out.trans hca (fun _ _ e => e))
  replace HR := Lib.hid (HR.out.chg hca id)
  clear HG hrd hc' hca
  obtain ⟨y0, y1, y2, y3, y4, y5, y6, y7, y8, y9, y10, y11, y12⟩ := ms_cells HQ.out
  have HG := Lib.hid (rrow6_any p _ (cS1 b) _ HRD.out (fun k hk => hk.2))
  unfold rvC at HG
  go_wp2_with fail
  refine HG.out.mono ?_
  rintro e v1 ⟨rfl, hrd, hc'⟩
  replace HC := Lib.hid (fresh_set HC.out hc' (by omega))
  replace HR := Lib.hid (HR.out.chg hc' (by omega))
  replace HQ := Lib.hid (HQ.out.chg hc' (by omega))
  replace HRD := Lib.hid hrd
  clear HG hrd hc' y0 y1 y2 y3 y4 y5 y6 y7 y8 y9 y10 y11 y12
  obtain ⟨y0, y1, y2, y3, y4, y5, y6, y7, y8, y9, y10, y11, y12⟩ := ms_cells HQ.out
  obtain ⟨u0, u1, u2, u3, u4, u5, u6, u7, u8, u9, u10, u11, u12⟩ := ms_free HQ.out
  have hset := (((((((((HQ.out).set 1 (.int .i64 (rv (cS1 b) 0))).set 2 (.int .u64 (rv (cS1 b) 1))).set 3 (.int .i64 (rv (cS1 b) 2 - 1))).set 4 (.int .i64 (rv (cS1 b) 3 - 1))).set 5 (.int .i64 (rv (cS1 b) 4 - 1))).set 6 (.int .i64 (rv (cS1 b) 6))).set 7 (.int .i64 (rv (cS1 b) 5))).set 8 (.int .i64 (rv (cS1 b) 7))).set 9 (.int .i64 (rv (cS1 b) 8))
  simp only [msC, List.setIfInBounds_toArray, List.set_cons_succ, List.set_cons_zero] at hset
  have hset : Blk _ _ 28 (msC 1 (rv (cS1 b) 0) (rv (cS1 b) 1) (rv (cS1 b) 2 - 1) (rv (cS1 b) 3 - 1) (rv (cS1 b) 4 - 1) (rv (cS1 b) 6) (rv (cS1 b) 5) (rv (cS1 b) 7) (rv (cS1 b) 8) 0 0 none 0 0) := hset
  have hcs : Chg (fun k => k = w1.heap.size) _ _ := (((((((((Chg.refl (fun k => k = w1.heap.size) v1).put w1.heap.size 1 (fun _ => rfl) (.int .i64 (rv (cS1 b) 0))).put w1.heap.size 2 (fun _ => rfl) (.int .u64 (rv (cS1 b) 1))).put w1.heap.size 3 (fun _ => rfl) (.int .i64 (rv (cS1 b) 2 - 1))).put w1.heap.size 4 (fun _ => rfl) (.int .i64 (rv (cS1 b) 3 - 1))).put w1.heap.size 5 (fun _ => rfl) (.int .i64 (rv (cS1 b) 4 - 1))).put w1.heap.size 6 (fun _ => rfl) (.int .i64 (rv (cS1 b) 6))).put w1.heap.size 7 (fun _ => rfl) (.int .i64 (rv (cS1 b) 5))).put w1.heap.size 8 (fun _ => rfl) (.int .i64 (rv (cS1 b) 7))).put w1.heap.size 9 (fun _ => rfl) (.int .i64 (rv (cS1 b) 8))
  replace HC := Lib.hid (fresh_set HC.out hcs (by omega))
  replace HR := Lib.hid (HR.out.chg hcs (by omega))
  replace HRD := Lib.hid (HRD.out.chg hcs (by omega) (fun k hk => by have := hk.2; omega))
  replace HQ := Lib.hid hset
  clear hset hcs
  obtain ⟨z0, z1, z2, z3, z4, z5, z6, z7, z8, z9, z10, z11, z12⟩ := ms_cells HQ.out
  go_wp2_with fail
  go_loopg [7] 0 (fun g i wr => g = 0 ∧ i = .int .i64 0 ∧ Hid (Rd 72 false wr p (fun k => w.heap.size < k ∧ k < p) (rs (cS1 b) 9)) ∧ Hid (Blk wr w1.heap.size 28 (msC 1 (rv (cS1 b) 0) (rv (cS1 b) 1) (rv (cS1 b) 2 - 1) (rv (cS1 b) 3 - 1) (rv (cS1 b) 4 - 1) (rv (cS1 b) 6) (rv (cS1 b) 5) (rv (cS1 b) 7) (rv (cS1 b) 8) 0 0 none 0 0)) ∧ Hid (Blk wr w.heap.size 28 (msC 0 0 0 0 0 0 0 0 0 0 0 0 none 0 0)) ∧ Hid (Chg (fun _ => False) w wr))
  case atStart => exact ⟨rfl, rfl, HRD, HQ, HR, HC⟩
  case round =>
    clear HRD HQ HR HC
    obtain ⟨rfl, rfl, HRD, HQ, HR, HC⟩ := hrel
    obtain ⟨y0, y1, y2, y3, y4, y5, y6, y7, y8, y9, y10, y11, y12⟩ := ms_cells HQ.out
    have hrt := fun W => rright6_any 1 (rv (cS1 b) 0) (rv (cS1 b) 1) (rv (cS1 b) 2 - 1) (rv (cS1 b) 3 - 1) (rv (cS1 b) 4 - 1) (rv (cS1 b) 6) (rv (cS1 b) 5) (rv (cS1 b) 7) (rv (cS1 b) 8) 0 0 none 0 0 ([]) (fun _ => True) W (RcR.nil _ _ _) (by decide)
    have HD2 := Lib.hid HDOK.out
    replace HD2 : Hid (cOK b = (doneS (rs (cS1 b) 9) == 0 && msR 1 (rv (cS1 b) 0) (rv (cS1 b) 1) (rv (cS1 b) 2 - 1) (rv (cS1 b) 3 - 1) (rv (cS1 b) 4 - 1) (rv (cS1 b) 6) (rv (cS1 b) 5) (rv (cS1 b) 7) (rv (cS1 b) 8) 0 0 ([]))) := Lib.hid HD2.out
    generalize msR 1 (rv (cS1 b) 0) (rv (cS1 b) 1) (rv (cS1 b) 2 - 1) (rv (cS1 b) 3 - 1) (rv (cS1 b) 4 - 1) (rv (cS1 b) 6) (rv (cS1 b) 5) (rv (cS1 b) 7) (rv (cS1 b) 8) 0 0 ([]) = r at *
    unfold msC at hrt
    have HRT := Lib.hid hrt
    clear hrt
    go_wp2_with fail
    refine (HRT.out _).mono ?_
    rintro e v10 ⟨rfl, hc'⟩
    replace HR := Lib.hid (HR.out.chg hc' id)
    replace HQ := Lib.hid (HQ.out.chg hc' id)
    replace HRD := Lib.hid (HRD.out.chg hc' id (fun _ _ => id))
    replace HC := Lib.hid (HC.out.trans hc' (fun _ _ e => e))
    clear hc' HRT y0 y1 y2 y3 y4 y5 y6 y7 y8 y9 y10 y11 y12
    have HG := Lib.hid (rrdone_any p _ _ _ HRD.out)
    generalize hdn : doneS (rs (cS1 b) 9) = dn at *
    clear hdn
    go_wp2_with fail
    refine HG.out.mono ?_
    rintro e v11 ⟨rfl, rfl⟩
    by_cases q0 : dn = 0
    case neg =>
      have t0 : (dn == 0) = false := by simpa using q0
      have s0 : (dn != 0) = true := by simpa using q0
      have HNO := Lib.hid (show cOK b = false by rw [HD2.out, t0]; rfl)
      clear q0
      obtain ⟨x0, x1, x2, x3, x4, x5, x6, x7, x8, x9, x10, x11, x12⟩ := ms_cells HR.out
      obtain ⟨u0, u1, u2, u3, u4, u5, u6, u7, u8, u9, u10, u11, u12⟩ := ms_free HR.out
      obtain ⟨r0, r1, r2, r3, r4, r5, r6, r7, r8, r9, r10, r11, r12, _, hcs⟩ := ms_put HR.out 0 0 0 0 0 0 0 0 0 0 0 0 none 0 0
      have HF := Lib.hid (fresh_set HC.out hcs (Nat.le_refl _))
      have RR := Lib.hid (And.intro r0 (And.intro r1 (And.intro r2 (And.intro r3 (And.intro r4 (And.intro r5 (And.intro r6 (And.intro r7 (And.intro r8 (And.intro r9 (And.intro r10 (And.intro r11 (r12)))))))))))))
      clear r0 r1 r2 r3 r4 r5 r6 r7 r8 r9 r10 r11 r12 hcs
      go_wp2_with fail
      obtain ⟨r0, r1, r2, r3, r4, r5, r6, r7, r8, r9, r10, r11, r12⟩ := RR.out
      exact bodyPost_ret (v := .tuple #[zeroM, .int .i64 2]) (by simp [results, Try.results16, go_sem, zeroM, msC, r0, r1, r2, r3, r4, r5, r6, r7, r8, r9, r10, r11, r12]) rfl (dec6_no HNO.out ⟨rfl, HF.out⟩)
    subst q0
    cases r with
    | false =>
      have HNO := Lib.hid (show cOK b = false by rw [HD2.out]; rfl)
      obtain ⟨x0, x1, x2, x3, x4, x5, x6, x7, x8, x9, x10, x11, x12⟩ := ms_cells HR.out
      obtain ⟨u0, u1, u2, u3, u4, u5, u6, u7, u8, u9, u10, u11, u12⟩ := ms_free HR.out
      obtain ⟨r0, r1, r2, r3, r4, r5, r6, r7, r8, r9, r10, r11, r12, _, hcs⟩ := ms_put HR.out 0 0 0 0 0 0 0 0 0 0 0 0 none 0 0
      have HF := Lib.hid (fresh_set HC.out hcs (Nat.le_refl _))
      have RR := Lib.hid (And.intro r0 (And.intro r1 (And.intro r2 (And.intro r3 (And.intro r4 (And.intro r5 (And.intro r6 (And.intro r7 (And.intro r8 (And.intro r9 (And.intro r10 (And.intro r11 (r12)))))))))))))
      clear r0 r1 r2 r3 r4 r5 r6 r7 r8 r9 r10 r11 r12 hcs
      go_wp2_with fail
      obtain ⟨r0, r1, r2, r3, r4, r5, r6, r7, r8, r9, r10, r11, r12⟩ := RR.out
      exact bodyPost_ret (v := .tuple #[zeroM, .int .i64 2]) (by simp [results, Try.results16, go_sem, zeroM, msC, r0, r1, r2, r3, r4, r5, r6, r7, r8, r9, r10, r11, r12]) rfl (dec6_no HNO.out ⟨rfl, HF.out⟩)
    | true =>
      replace HD2 := Lib.hid (show cOK b = true by rw [HD2.out]; rfl)
      obtain ⟨y0, y1, y2, y3, y4, y5, y6, y7, y8, y9, y10, y11, y12⟩ := ms_cells HQ.out
      obtain ⟨x0, x1, x2, x3, x4, x5, x6, x7, x8, x9, x10, x11, x12⟩ := ms_cells HR.out
      obtain ⟨u0, u1, u2, u3, u4, u5, u6, u7, u8, u9, u10, u11, u12⟩ := ms_free HR.out
      obtain ⟨r0, r1, r2, r3, r4, r5, r6, r7, r8, r9, r10, r11, r12, _, hcs⟩ := ms_put HR.out 1 (rv (cS1 b) 0) (rv (cS1 b) 1) (rv (cS1 b) 2 - 1) (rv (cS1 b) 3 - 1) (rv (cS1 b) 4 - 1) (rv (cS1 b) 6) (rv (cS1 b) 5) (rv (cS1 b) 7) (rv (cS1 b) 8) 0 0 none 0 0
      have HF := Lib.hid (fresh_set HC.out hcs (Nat.le_refl _))
      have RR := Lib.hid (And.intro r0 (And.intro r1 (And.intro r2 (And.intro r3 (And.intro r4 (And.intro r5 (And.intro r6 (And.intro r7 (And.intro r8 (And.intro r9 (And.intro r10 (And.intro r11 (r12)))))))))))))
      clear r0 r1 r2 r3 r4 r5 r6 r7 r8 r9 r10 r11 r12 hcs
      go_wp2_with fail
      obtain ⟨r0, r1, r2, r3, r4, r5, r6, r7, r8, r9, r10, r11, r12⟩ := RR.out
      exact bodyPost_ret (v := .tuple #[.agg (msC 1 (rv (cS1 b) 0) (rv (cS1 b) 1) (rv (cS1 b) 2 - 1) (rv (cS1 b) 3 - 1) (rv (cS1 b) 4 - 1) (rv (cS1 b) 6) (rv (cS1 b) 5) (rv (cS1 b) 7) (rv (cS1 b) 8) 0 0 none 0 0), .int .i64 0]) (by simp [results, Try.results16, go_sem, msC, r0, r1, r2, r3, r4, r5, r6, r7, r8, r9, r10, r11, r12]) rfl (dec6_hd HD2.out HV.out ⟨none, 0, rfl, RcR.nil _ _ _, HF.out⟩)

set_option maxHeartbeats 4000000 in
theorem rpar_2 (A : Option Addr) (n c : Nat) (b : List UInt8) (S : Nat → Prop) (w : World) (hn : n = b.length) (h : Rds w S A n (bcs b)) (hb : n ≤ 100000) (hk : cK b = 2) :
    Calls Try.prog 16 #[.slice A n c] w (Dec6 b w) := by
  have HDOK := Lib.hid (cOK_2 hk)
  have HV := Lib.hid (cV_2 hk)
  have HK := Lib.hid hk
  clear hk
  obtain ⟨i0, hi0, hz0, hz1, hz2⟩ := info_parts infoByte
  have hR0 : Blk ((w.alloc (.cells #[.int .i64 0, .int .i64 0, .int .u64 0, .int .i64 0, .int .i64 0, .int .i64 0, .int .i64 0, .int .i64 0, .int .i64 0, .int .i64 0, .int .i64 0, .int .i64 0, .slice none 0 0] 28)).alloc (.cells #[] 5)) w.heap.size 28 (msC 0 0 0 0 0 0 0 0 0 0 0 0 none 0 0) := (blk_new rfl).alloc _
  have hC0 := ((Chg.refl (fun _ => False) w).alloc (.cells #[.int .i64 0, .int .i64 0, .int .u64 0, .int .i64 0, .int .i64 0, .int .i64 0, .int .i64 0, .int .i64 0, .int .i64 0, .int .i64 0, .int .i64 0, .int .i64 0, .slice none 0 0] 28)).alloc (.cells #[] 5)
  have hmade : ((w.alloc (.cells #[.int .i64 0, .int .i64 0, .int .u64 0, .int .i64 0, .int .i64 0, .int .i64 0, .int .i64 0, .int .i64 0, .int .i64 0, .int .i64 0, .int .i64 0, .int .i64 0, .slice none 0 0] 28)).alloc (.cells #[] 5)).ownsRow (w.heap.size + 1) 5 1 (.slice (some ⟨w.heap.size + 1, 0, none⟩) 0 0) 0 [] := by
    have h := World.ownsRow_made (e := 5) (size := 1) (w.alloc (.cells #[.int .i64 0, .int .i64 0, .int .u64 0, .int .i64 0, .int .i64 0, .int .i64 0, .int .i64 0, .int .i64 0, .int .i64 0, .int .i64 0, .int .i64 0, .int .i64 0, .slice none 0 0] 28)) #[] 0 (Nat.le_refl _) (by decide) rfl
    simpa using h
  have hsz : ((w.alloc (.cells #[.int .i64 0, .int .i64 0, .int .u64 0, .int .i64 0, .int .i64 0, .int .i64 0, .int .i64 0, .int .i64 0, .int .i64 0, .int .i64 0, .int .i64 0, .int .i64 0, .slice none 0 0] 28)).alloc (.cells #[] 5)).heap.size = w.heap.size + 2 := by simp
  have hh := (h.alloc (.cells #[.int .i64 0, .int .i64 0, .int .u64 0, .int .i64 0, .int .i64 0, .int .i64 0, .int .i64 0, .int .i64 0, .int .i64 0, .int .i64 0, .int .i64 0, .int .i64 0, .slice none 0 0] 28)).alloc (.cells #[] 5)
  have HN := Lib.hid hn
  have HR0 := Lib.hid hR0
  have HC0 := Lib.hid hC0
  clear hR0 hC0 hn h
  go_enter Try.func16, Try.ntmps16
  go_wp2_with (at_builtin; refine wpList_own_append _ rfl (.tmp 9) (.tmp 10) 33 rfl (w.heap.size + 1) 5 i0 (.int .u8 0) 1 Try.underlying33 hi0 hz0 hz1 hz2 rfl (.slice (some ⟨w.heap.size + 1, 0, none⟩) 0 0) 0 [] rfl hmade S A n c (bcs b) rfl hh (bcs_one b) (by unfold maxLen; omega) (by omega) (by omega) ?_; intro v' wa hown hg hat; rw [Nat.zero_add, List.nil_append] at hown; obtain ⟨D, dc, rfl, hdc1, hdc2⟩ := own_form hown; have hC := grown_fresh HC0.out hg hmade (by omega); have hR := blk_grown HR0.out hg (by simp [Value.ownBlock]); clear hg hat hmade hh HR0 HC0)
  have HRD : Hid (Rd 72 false (wa.alloc (.cells #[.slice D n dc, .bool false] 72)) wa.heap.size (fun k => w.heap.size < k ∧ k < wa.heap.size) (some b)) := Lib.hid
    ⟨fun h => absurd h.2 (Nat.lt_irrefl _), D, n, dc, false, b, heap_alloc_new wa _, hdc1, hdc2, HN.out, ((own_rds2 hown).mono (fun k hk => ⟨by omega, hk.2⟩)).alloc _, rfl, rfl⟩
  have hrp := hR.lt
  have HC := Lib.hid (hC.alloc (.cells #[.slice D n dc, .bool false] 72))
  have HR := Lib.hid (hR.alloc (.cells #[.slice D n dc, .bool false] 72))
  clear hown hdc1 hdc2 hC hR hsz
  generalize hpp : wa.heap.size = p at *
  have HPP := Lib.hid hpp
  clear hpp
  have HG : Hid (Calls Try.prog 36 #[.pointer (some ⟨p, 0, none⟩), .int .i64 1] _ fun e w' => e = .returned (.int .i64 2) ∧ Rd 72 false w' p (fun k => w.heap.size < k ∧ k < p) (cS1 b) ∧ Chg (fun k => k = p) _ w') := Lib.hid (by
    have hg := rcget p 1 _ (some b) _ HRD.out
    rw [show gv 1 (some b) = 2 from HK.out] at hg
    exact hg)
  go_wp2_with fail
  refine HG.out.mono ?_
  rintro e w1 ⟨rfl, hrd, hc'⟩
  replace HC := Lib.hid (fresh_set HC.out hc' (by omega))
  replace HR := Lib.hid (HR.out.chg hc' (by omega))
  have hpq := hrd.lt
  have HQ : Hid (Blk (w1.alloc (.cells #[.int .i64 2, .int .i64 0, .int .u64 0, .int .i64 0, .int .i64 0, .int .i64 0, .int .i64 0, .int .i64 0, .int .i64 0, .int .i64 0, .int .i64 0, .int .i64 0, .slice none 0 0] 28)) w1.heap.size 28 (msC 2 0 0 0 0 0 0 0 0 0 0 0 none 0 0)) := Lib.hid (blk_new rfl)
  have hca := (Chg.refl (fun _ => False) w1).alloc (.cells #[.int .i64 2, .int .i64 0, .int .u64 0, .int .i64 0, .int .i64 0, .int .i64 0, .int .i64 0, .int .i64 0, .int .i64 0, .int .i64 0, .int .i64 0, .int .i64 0, .slice none 0 0] 28)
  replace HRD := Lib.hid (hrd.chg hca id (fun _ _ => id))
  replace HC := Lib.hid (HC.out.trans hca (fun _ _ e => e))
  replace HR := Lib.hid (HR.out.chg hca id)
  clear HG hrd hc' hca
  obtain ⟨y0, y1, y2, y3, y4, y5, y6, y7, y8, y9, y10, y11, y12⟩ := ms_cells HQ.out
  have HG := Lib.hid (show Calls _ _ _ _ (fun e w' => e = .returned (.int .i64 (cPt b)) ∧ Rd 72 false w' p _ (cS2 b) ∧ Chg (fun k => k = p) _ w') from rcget p 1 _ (cS1 b) _ HRD.out)
  go_wp2_with fail
  refine HG.out.mono ?_
  rintro e v1 ⟨rfl, hrd, hc'⟩
  replace HC := Lib.hid (fresh_set HC.out hc' (by omega))
  replace HR := Lib.hid (HR.out.chg hc' (by omega))
  replace HQ := Lib.hid (HQ.out.chg hc' (by omega))
  replace HRD := Lib.hid hrd
  clear HG hrd hc'
  clear y0 y1 y2 y3 y4 y5 y6 y7 y8 y9 y10 y11 y12
  obtain ⟨y0, y1, y2, y3, y4, y5, y6, y7, y8, y9, y10, y11, y12⟩ := ms_cells HQ.out
  obtain ⟨u0, u1, u2, u3, u4, u5, u6, u7, u8, u9, u10, u11, u12⟩ := ms_free HQ.out
  have hset := (HQ.out).set 10 (.int .i64 (cPt b))
  simp only [msC, List.setIfInBounds_toArray, List.set_cons_succ, List.set_cons_zero] at hset
  have hset : Blk _ _ 28 (msC 2 0 0 0 0 0 0 0 0 0 (cPt b) 0 none 0 0) := hset
  have hcs : Chg (fun k => k = w1.heap.size) _ _ := (Chg.refl (fun k => k = w1.heap.size) v1).put w1.heap.size 10 (fun _ => rfl) (.int .i64 (cPt b))
  replace HC := Lib.hid (fresh_set HC.out hcs (by omega))
  replace HR := Lib.hid (HR.out.chg hcs (by omega))
  replace HRD := Lib.hid (HRD.out.chg hcs (by omega) (fun k hk => by have := hk.2; omega))
  replace HQ := Lib.hid hset
  clear hset hcs
  have HG := Lib.hid (show Calls _ _ _ _ (fun e w' => e = .returned (.int .i64 (cVr b)) ∧ Rd 72 false w' p _ (cS3 b) ∧ Chg (fun k => k = p) _ w') from rcget p 6 _ (cS2 b) _ HRD.out)
  go_wp2_with fail
  refine HG.out.mono ?_
  rintro e v2 ⟨rfl, hrd, hc'⟩
  replace HC := Lib.hid (fresh_set HC.out hc' (by omega))
  replace HR := Lib.hid (HR.out.chg hc' (by omega))
  replace HQ := Lib.hid (HQ.out.chg hc' (by omega))
  replace HRD := Lib.hid hrd
  clear HG hrd hc'
  clear y0 y1 y2 y3 y4 y5 y6 y7 y8 y9 y10 y11 y12 u0 u1 u2 u3 u4 u5 u6 u7 u8 u9 u10 u11 u12
  obtain ⟨y0, y1, y2, y3, y4, y5, y6, y7, y8, y9, y10, y11, y12⟩ := ms_cells HQ.out
  obtain ⟨u0, u1, u2, u3, u4, u5, u6, u7, u8, u9, u10, u11, u12⟩ := ms_free HQ.out
  have hset := (HQ.out).set 11 (.int .i64 (cVr b))
  simp only [msC, List.setIfInBounds_toArray, List.set_cons_succ, List.set_cons_zero] at hset
  have hset : Blk _ _ 28 (msC 2 0 0 0 0 0 0 0 0 0 (cPt b) (cVr b) none 0 0) := hset
  have hcs : Chg (fun k => k = w1.heap.size) _ _ := (Chg.refl (fun k => k = w1.heap.size) v2).put w1.heap.size 11 (fun _ => rfl) (.int .i64 (cVr b))
  replace HC := Lib.hid (fresh_set HC.out hcs (by omega))
  replace HR := Lib.hid (HR.out.chg hcs (by omega))
  replace HRD := Lib.hid (HRD.out.chg hcs (by omega) (fun k hk => by have := hk.2; omega))
  replace HQ := Lib.hid hset
  clear hset hcs
  obtain ⟨z0, z1, z2, z3, z4, z5, z6, z7, z8, z9, z10, z11, z12⟩ := ms_cells HQ.out
  go_wp2_with fail
  go_loopg [7] 0 (fun g i wr => g = 0 ∧ i = .int .i64 0 ∧ Hid (Rd 72 false wr p (fun k => w.heap.size < k ∧ k < p) (cS3 b)) ∧ Hid (Blk wr w1.heap.size 28 (msC 2 0 0 0 0 0 0 0 0 0 (cPt b) (cVr b) none 0 0)) ∧ Hid (Blk wr w.heap.size 28 (msC 0 0 0 0 0 0 0 0 0 0 0 0 none 0 0)) ∧ Hid (Chg (fun _ => False) w wr))
  case atStart => exact ⟨rfl, rfl, HRD, HQ, HR, HC⟩
  case round =>
    clear HRD HQ HR HC
    obtain ⟨rfl, rfl, HRD, HQ, HR, HC⟩ := hrel
    obtain ⟨y0, y1, y2, y3, y4, y5, y6, y7, y8, y9, y10, y11, y12⟩ := ms_cells HQ.out
    have hrt := fun W => rright6_any 2 0 0 0 0 0 0 0 0 0 (cPt b) (cVr b) none 0 0 ([]) (fun _ => True) W (RcR.nil _ _ _) (by decide)
    have HD2 := Lib.hid HDOK.out
    replace HD2 : Hid (cOK b = (doneS (cS3 b) == 0 && msR 2 0 0 0 0 0 0 0 0 0 (cPt b) (cVr b) ([]))) := Lib.hid HD2.out
    generalize msR 2 0 0 0 0 0 0 0 0 0 (cPt b) (cVr b) ([]) = r at *
    unfold msC at hrt
    have HRT := Lib.hid hrt
    clear hrt
    go_wp2_with fail
    refine (HRT.out _).mono ?_
    rintro e v10 ⟨rfl, hc'⟩
    replace HR := Lib.hid (HR.out.chg hc' id)
    replace HQ := Lib.hid (HQ.out.chg hc' id)
    replace HRD := Lib.hid (HRD.out.chg hc' id (fun _ _ => id))
    replace HC := Lib.hid (HC.out.trans hc' (fun _ _ e => e))
    clear hc' HRT y0 y1 y2 y3 y4 y5 y6 y7 y8 y9 y10 y11 y12
    have HG := Lib.hid (rrdone_any p _ _ _ HRD.out)
    generalize hdn : doneS (cS3 b) = dn at *
    clear hdn
    go_wp2_with fail
    refine HG.out.mono ?_
    rintro e v11 ⟨rfl, rfl⟩
    by_cases q0 : dn = 0
    case neg =>
      have t0 : (dn == 0) = false := by simpa using q0
      have s0 : (dn != 0) = true := by simpa using q0
      have HNO := Lib.hid (show cOK b = false by rw [HD2.out, t0]; rfl)
      clear q0
      obtain ⟨x0, x1, x2, x3, x4, x5, x6, x7, x8, x9, x10, x11, x12⟩ := ms_cells HR.out
      obtain ⟨u0, u1, u2, u3, u4, u5, u6, u7, u8, u9, u10, u11, u12⟩ := ms_free HR.out
      obtain ⟨r0, r1, r2, r3, r4, r5, r6, r7, r8, r9, r10, r11, r12, _, hcs⟩ := ms_put HR.out 0 0 0 0 0 0 0 0 0 0 0 0 none 0 0
      have HF := Lib.hid (fresh_set HC.out hcs (Nat.le_refl _))
      have RR := Lib.hid (And.intro r0 (And.intro r1 (And.intro r2 (And.intro r3 (And.intro r4 (And.intro r5 (And.intro r6 (And.intro r7 (And.intro r8 (And.intro r9 (And.intro r10 (And.intro r11 (r12)))))))))))))
      clear r0 r1 r2 r3 r4 r5 r6 r7 r8 r9 r10 r11 r12 hcs
      go_wp2_with fail
      obtain ⟨r0, r1, r2, r3, r4, r5, r6, r7, r8, r9, r10, r11, r12⟩ := RR.out
      exact bodyPost_ret (v := .tuple #[zeroM, .int .i64 2]) (by simp [results, Try.results16, go_sem, zeroM, msC, r0, r1, r2, r3, r4, r5, r6, r7, r8, r9, r10, r11, r12]) rfl (dec6_no HNO.out ⟨rfl, HF.out⟩)
    subst q0
    cases r with
    | false =>
      have HNO := Lib.hid (show cOK b = false by rw [HD2.out]; rfl)
      obtain ⟨x0, x1, x2, x3, x4, x5, x6, x7, x8, x9, x10, x11, x12⟩ := ms_cells HR.out
      obtain ⟨u0, u1, u2, u3, u4, u5, u6, u7, u8, u9, u10, u11, u12⟩ := ms_free HR.out
      obtain ⟨r0, r1, r2, r3, r4, r5, r6, r7, r8, r9, r10, r11, r12, _, hcs⟩ := ms_put HR.out 0 0 0 0 0 0 0 0 0 0 0 0 none 0 0
      have HF := Lib.hid (fresh_set HC.out hcs (Nat.le_refl _))
      have RR := Lib.hid (And.intro r0 (And.intro r1 (And.intro r2 (And.intro r3 (And.intro r4 (And.intro r5 (And.intro r6 (And.intro r7 (And.intro r8 (And.intro r9 (And.intro r10 (And.intro r11 (r12)))))))))))))
      clear r0 r1 r2 r3 r4 r5 r6 r7 r8 r9 r10 r11 r12 hcs
      go_wp2_with fail
      obtain ⟨r0, r1, r2, r3, r4, r5, r6, r7, r8, r9, r10, r11, r12⟩ := RR.out
      exact bodyPost_ret (v := .tuple #[zeroM, .int .i64 2]) (by simp [results, Try.results16, go_sem, zeroM, msC, r0, r1, r2, r3, r4, r5, r6, r7, r8, r9, r10, r11, r12]) rfl (dec6_no HNO.out ⟨rfl, HF.out⟩)
    | true =>
      replace HD2 := Lib.hid (show cOK b = true by rw [HD2.out]; rfl)
      obtain ⟨y0, y1, y2, y3, y4, y5, y6, y7, y8, y9, y10, y11, y12⟩ := ms_cells HQ.out
      obtain ⟨x0, x1, x2, x3, x4, x5, x6, x7, x8, x9, x10, x11, x12⟩ := ms_cells HR.out
      obtain ⟨u0, u1, u2, u3, u4, u5, u6, u7, u8, u9, u10, u11, u12⟩ := ms_free HR.out
      obtain ⟨r0, r1, r2, r3, r4, r5, r6, r7, r8, r9, r10, r11, r12, _, hcs⟩ := ms_put HR.out 2 0 0 0 0 0 0 0 0 0 (cPt b) (cVr b) none 0 0
      have HF := Lib.hid (fresh_set HC.out hcs (Nat.le_refl _))
      have RR := Lib.hid (And.intro r0 (And.intro r1 (And.intro r2 (And.intro r3 (And.intro r4 (And.intro r5 (And.intro r6 (And.intro r7 (And.intro r8 (And.intro r9 (And.intro r10 (And.intro r11 (r12)))))))))))))
      clear r0 r1 r2 r3 r4 r5 r6 r7 r8 r9 r10 r11 r12 hcs
      go_wp2_with fail
      obtain ⟨r0, r1, r2, r3, r4, r5, r6, r7, r8, r9, r10, r11, r12⟩ := RR.out
      exact bodyPost_ret (v := .tuple #[.agg (msC 2 0 0 0 0 0 0 0 0 0 (cPt b) (cVr b) none 0 0), .int .i64 0]) (by simp [results, Try.results16, go_sem, msC, r0, r1, r2, r3, r4, r5, r6, r7, r8, r9, r10, r11, r12]) rfl (dec6_hd HD2.out HV.out ⟨none, 0, rfl, RcR.nil _ _ _, HF.out⟩)

set_option maxHeartbeats 4000000 in
theorem rpar_9 (A : Option Addr) (n c : Nat) (b : List UInt8) (S : Nat → Prop) (w : World) (hn : n = b.length) (h : Rds w S A n (bcs b)) (hb : n ≤ 100000) (h1 : cK b ≠ 1) (h2 : cK b ≠ 2) (h3 : cK b ≠ 3) :
    Calls Try.prog 16 #[.slice A n c] w (Dec6 b w) := by
  have HNO := Lib.hid (cOK_9 h1 h2 h3)
  obtain ⟨K, hK⟩ : ∃ K, K = cK b := ⟨_, rfl⟩
  rw [← hK] at h1 h2 h3
  have t1 : (K == 1) = false := by simpa using h1
  have t2 : (K == 2) = false := by simpa using h2
  have t3 : (K == 3) = false := by simpa using h3
  have HK := Lib.hid hK.symm
  have HRF := Lib.hid (show ∀ l, msR K 0 0 0 0 0 0 0 0 0 (cPt b) (cVr b) l = false from fun l => by unfold msR; rw [if_neg h1, if_neg h2, if_neg h3])
  clear h1 h2 h3 hK
  obtain ⟨i0, hi0, hz0, hz1, hz2⟩ := info_parts infoByte
  have hR0 : Blk ((w.alloc (.cells #[.int .i64 0, .int .i64 0, .int .u64 0, .int .i64 0, .int .i64 0, .int .i64 0, .int .i64 0, .int .i64 0, .int .i64 0, .int .i64 0, .int .i64 0, .int .i64 0, .slice none 0 0] 28)).alloc (.cells #[] 5)) w.heap.size 28 (msC 0 0 0 0 0 0 0 0 0 0 0 0 none 0 0) := (blk_new rfl).alloc _
  have hC0 := ((Chg.refl (fun _ => False) w).alloc (.cells #[.int .i64 0, .int .i64 0, .int .u64 0, .int .i64 0, .int .i64 0, .int .i64 0, .int .i64 0, .int .i64 0, .int .i64 0, .int .i64 0, .int .i64 0, .int .i64 0, .slice none 0 0] 28)).alloc (.cells #[] 5)
  have hmade : ((w.alloc (.cells #[.int .i64 0, .int .i64 0, .int .u64 0, .int .i64 0, .int .i64 0, .int .i64 0, .int .i64 0, .int .i64 0, .int .i64 0, .int .i64 0, .int .i64 0, .int .i64 0, .slice none 0 0] 28)).alloc (.cells #[] 5)).ownsRow (w.heap.size + 1) 5 1 (.slice (some ⟨w.heap.size + 1, 0, none⟩) 0 0) 0 [] := by
    have h := World.ownsRow_made (e := 5) (size := 1) (w.alloc (.cells #[.int .i64 0, .int .i64 0, .int .u64 0, .int .i64 0, .int .i64 0, .int .i64 0, .int .i64 0, .int .i64 0, .int .i64 0, .int .i64 0, .int .i64 0, .int .i64 0, .slice none 0 0] 28)) #[] 0 (Nat.le_refl _) (by decide) rfl
    simpa using h
  have hsz : ((w.alloc (.cells #[.int .i64 0, .int .i64 0, .int .u64 0, .int .i64 0, .int .i64 0, .int .i64 0, .int .i64 0, .int .i64 0, .int .i64 0, .int .i64 0, .int .i64 0, .int .i64 0, .slice none 0 0] 28)).alloc (.cells #[] 5)).heap.size = w.heap.size + 2 := by simp
  have hh := (h.alloc (.cells #[.int .i64 0, .int .i64 0, .int .u64 0, .int .i64 0, .int .i64 0, .int .i64 0, .int .i64 0, .int .i64 0, .int .i64 0, .int .i64 0, .int .i64 0, .int .i64 0, .slice none 0 0] 28)).alloc (.cells #[] 5)
  have HN := Lib.hid hn
  have HR0 := Lib.hid hR0
  have HC0 := Lib.hid hC0
  clear hR0 hC0 hn h
  go_enter Try.func16, Try.ntmps16
  go_wp2_with (at_builtin; refine wpList_own_append _ rfl (.tmp 9) (.tmp 10) 33 rfl (w.heap.size + 1) 5 i0 (.int .u8 0) 1 Try.underlying33 hi0 hz0 hz1 hz2 rfl (.slice (some ⟨w.heap.size + 1, 0, none⟩) 0 0) 0 [] rfl hmade S A n c (bcs b) rfl hh (bcs_one b) (by unfold maxLen; omega) (by omega) (by omega) ?_; intro v' wa hown hg hat; rw [Nat.zero_add, List.nil_append] at hown; obtain ⟨D, dc, rfl, hdc1, hdc2⟩ := own_form hown; have hC := grown_fresh HC0.out hg hmade (by omega); have hR := blk_grown HR0.out hg (by simp [Value.ownBlock]); clear hg hat hmade hh HR0 HC0)
  have HRD : Hid (Rd 72 false (wa.alloc (.cells #[.slice D n dc, .bool false] 72)) wa.heap.size (fun k => w.heap.size < k ∧ k < wa.heap.size) (some b)) := Lib.hid
    ⟨fun h => absurd h.2 (Nat.lt_irrefl _), D, n, dc, false, b, heap_alloc_new wa _, hdc1, hdc2, HN.out, ((own_rds2 hown).mono (fun k hk => ⟨by omega, hk.2⟩)).alloc _, rfl, rfl⟩
  have hrp := hR.lt
  have HC := Lib.hid (hC.alloc (.cells #[.slice D n dc, .bool false] 72))
  have HR := Lib.hid (hR.alloc (.cells #[.slice D n dc, .bool false] 72))
  clear hown hdc1 hdc2 hC hR hsz
  generalize hpp : wa.heap.size = p at *
  have HPP := Lib.hid hpp
  clear hpp
  have HG : Hid (Calls Try.prog 36 #[.pointer (some ⟨p, 0, none⟩), .int .i64 1] _ fun e w' => e = .returned (.int .i64 K) ∧ Rd 72 false w' p (fun k => w.heap.size < k ∧ k < p) (cS1 b) ∧ Chg (fun k => k = p) _ w') := Lib.hid (by
    have hg := rcget p 1 _ (some b) _ HRD.out
    rw [show gv 1 (some b) = K from HK.out] at hg
    exact hg)
  go_wp2_with fail
  refine HG.out.mono ?_
  rintro e w1 ⟨rfl, hrd, hc'⟩
  replace HC := Lib.hid (fresh_set HC.out hc' (by omega))
  replace HR := Lib.hid (HR.out.chg hc' (by omega))
  have hpq := hrd.lt
  have HQ : Hid (Blk (w1.alloc (.cells #[.int .i64 K, .int .i64 0, .int .u64 0, .int .i64 0, .int .i64 0, .int .i64 0, .int .i64 0, .int .i64 0, .int .i64 0, .int .i64 0, .int .i64 0, .int .i64 0, .slice none 0 0] 28)) w1.heap.size 28 (msC K 0 0 0 0 0 0 0 0 0 0 0 none 0 0)) := Lib.hid (blk_new rfl)
  have hca := (Chg.refl (fun _ => False) w1).alloc (.cells #[.int .i64 K, .int .i64 0, .int .u64 0, .int .i64 0, .int .i64 0, .int .i64 0, .int .i64 0, .int .i64 0, .int .i64 0, .int .i64 0, .int .i64 0, .int .i64 0, .slice none 0 0] 28)
  replace HRD := Lib.hid (hrd.chg hca id (fun _ _ => id))
  replace HC := Lib.hid (HC.out.trans hca (fun _ _ e => e))
  replace HR := Lib.hid (HR.out.chg hca id)
  clear HG hrd hc' hca
  obtain ⟨y0, y1, y2, y3, y4, y5, y6, y7, y8, y9, y10, y11, y12⟩ := ms_cells HQ.out
  have HG := Lib.hid (show Calls _ _ _ _ (fun e w' => e = .returned (.int .i64 (cPt b)) ∧ Rd 72 false w' p _ (cS2 b) ∧ Chg (fun k => k = p) _ w') from rcget p 1 _ (cS1 b) _ HRD.out)
  go_wp2_with fail
  refine HG.out.mono ?_
  rintro e v1 ⟨rfl, hrd, hc'⟩
  replace HC := Lib.hid (fresh_set HC.out hc' (by omega))
  replace HR := Lib.hid (HR.out.chg hc' (by omega))
  replace HQ := Lib.hid (HQ.out.chg hc' (by omega))
  replace HRD := Lib.hid hrd
  clear HG hrd hc'
  clear y0 y1 y2 y3 y4 y5 y6 y7 y8 y9 y10 y11 y12
  obtain ⟨y0, y1, y2, y3, y4, y5, y6, y7, y8, y9, y10, y11, y12⟩ := ms_cells HQ.out
  obtain ⟨u0, u1, u2, u3, u4, u5, u6, u7, u8, u9, u10, u11, u12⟩ := ms_free HQ.out
  have hset := (HQ.out).set 10 (.int .i64 (cPt b))
  simp only [msC, List.setIfInBounds_toArray, List.set_cons_succ, List.set_cons_zero] at hset
  have hset : Blk _ _ 28 (msC K 0 0 0 0 0 0 0 0 0 (cPt b) 0 none 0 0) := hset
  have hcs : Chg (fun k => k = w1.heap.size) _ _ := (Chg.refl (fun k => k = w1.heap.size) v1).put w1.heap.size 10 (fun _ => rfl) (.int .i64 (cPt b))
  replace HC := Lib.hid (fresh_set HC.out hcs (by omega))
  replace HR := Lib.hid (HR.out.chg hcs (by omega))
  replace HRD := Lib.hid (HRD.out.chg hcs (by omega) (fun k hk => by have := hk.2; omega))
  replace HQ := Lib.hid hset
  clear hset hcs
  have HG := Lib.hid (show Calls _ _ _ _ (fun e w' => e = .returned (.int .i64 (cVr b)) ∧ Rd 72 false w' p _ (cS3 b) ∧ Chg (fun k => k = p) _ w') from rcget p 6 _ (cS2 b) _ HRD.out)
  go_wp2_with fail
  refine HG.out.mono ?_
  rintro e v2 ⟨rfl, hrd, hc'⟩
  replace HC := Lib.hid (fresh_set HC.out hc' (by omega))
  replace HR := Lib.hid (HR.out.chg hc' (by omega))
  replace HQ := Lib.hid (HQ.out.chg hc' (by omega))
  replace HRD := Lib.hid hrd
  clear HG hrd hc'
  clear y0 y1 y2 y3 y4 y5 y6 y7 y8 y9 y10 y11 y12 u0 u1 u2 u3 u4 u5 u6 u7 u8 u9 u10 u11 u12
  obtain ⟨y0, y1, y2, y3, y4, y5, y6, y7, y8, y9, y10, y11, y12⟩ := ms_cells HQ.out
  obtain ⟨u0, u1, u2, u3, u4, u5, u6, u7, u8, u9, u10, u11, u12⟩ := ms_free HQ.out
  have hset := (HQ.out).set 11 (.int .i64 (cVr b))
  simp only [msC, List.setIfInBounds_toArray, List.set_cons_succ, List.set_cons_zero] at hset
  have hset : Blk _ _ 28 (msC K 0 0 0 0 0 0 0 0 0 (cPt b) (cVr b) none 0 0) := hset
  have hcs : Chg (fun k => k = w1.heap.size) _ _ := (Chg.refl (fun k => k = w1.heap.size) v2).put w1.heap.size 11 (fun _ => rfl) (.int .i64 (cVr b))
  replace HC := Lib.hid (fresh_set HC.out hcs (by omega))
  replace HR := Lib.hid (HR.out.chg hcs (by omega))
  replace HRD := Lib.hid (HRD.out.chg hcs (by omega) (fun k hk => by have := hk.2; omega))
  replace HQ := Lib.hid hset
  clear hset hcs
  obtain ⟨z0, z1, z2, z3, z4, z5, z6, z7, z8, z9, z10, z11, z12⟩ := ms_cells HQ.out
  go_wp2_with fail
  go_loopg [7] 0 (fun g i wr => g = 0 ∧ i = .int .i64 0 ∧ Hid (Rd 72 false wr p (fun k => w.heap.size < k ∧ k < p) (cS3 b)) ∧ Hid (Blk wr w1.heap.size 28 (msC K 0 0 0 0 0 0 0 0 0 (cPt b) (cVr b) none 0 0)) ∧ Hid (Blk wr w.heap.size 28 (msC 0 0 0 0 0 0 0 0 0 0 0 0 none 0 0)) ∧ Hid (Chg (fun _ => False) w wr))
  case atStart => exact ⟨rfl, rfl, HRD, HQ, HR, HC⟩
  case round =>
    clear HRD HQ HR HC
    obtain ⟨rfl, rfl, HRD, HQ, HR, HC⟩ := hrel
    obtain ⟨y0, y1, y2, y3, y4, y5, y6, y7, y8, y9, y10, y11, y12⟩ := ms_cells HQ.out
    have hrt := fun W => rright6_any K 0 0 0 0 0 0 0 0 0 (cPt b) (cVr b) none 0 0 ([]) (fun _ => True) W (RcR.nil _ _ _) (by decide)
    rw [HRF.out] at hrt
    unfold msC at hrt
    have HRT := Lib.hid hrt
    clear hrt
    go_wp2_with fail
    refine (HRT.out _).mono ?_
    rintro e v10 ⟨rfl, hc'⟩
    replace HR := Lib.hid (HR.out.chg hc' id)
    replace HQ := Lib.hid (HQ.out.chg hc' id)
    replace HRD := Lib.hid (HRD.out.chg hc' id (fun _ _ => id))
    replace HC := Lib.hid (HC.out.trans hc' (fun _ _ e => e))
    clear hc' HRT y0 y1 y2 y3 y4 y5 y6 y7 y8 y9 y10 y11 y12
    have HG := Lib.hid (rrdone_any p _ _ _ HRD.out)
    generalize hdn : doneS (cS3 b) = dn at *
    clear hdn
    go_wp2_with fail
    refine HG.out.mono ?_
    rintro e v11 ⟨rfl, rfl⟩
    by_cases q0 : dn = 0
    case neg =>
      have t0 : (dn == 0) = false := by simpa using q0
      have s0 : (dn != 0) = true := by simpa using q0
      clear q0
      obtain ⟨x0, x1, x2, x3, x4, x5, x6, x7, x8, x9, x10, x11, x12⟩ := ms_cells HR.out
      obtain ⟨u0, u1, u2, u3, u4, u5, u6, u7, u8, u9, u10, u11, u12⟩ := ms_free HR.out
      obtain ⟨r0, r1, r2, r3, r4, r5, r6, r7, r8, r9, r10, r11, r12, _, hcs⟩ := ms_put HR.out 0 0 0 0 0 0 0 0 0 0 0 0 none 0 0
      have HF := Lib.hid (fresh_set HC.out hcs (Nat.le_refl _))
      have RR := Lib.hid (And.intro r0 (And.intro r1 (And.intro r2 (And.intro r3 (And.intro r4 (And.intro r5 (And.intro r6 (And.intro r7 (And.intro r8 (And.intro r9 (And.intro r10 (And.intro r11 (r12)))))))))))))
      clear r0 r1 r2 r3 r4 r5 r6 r7 r8 r9 r10 r11 r12 hcs
      go_wp2_with fail
      obtain ⟨r0, r1, r2, r3, r4, r5, r6, r7, r8, r9, r10, r11, r12⟩ := RR.out
      exact bodyPost_ret (v := .tuple #[zeroM, .int .i64 2]) (by simp [results, Try.results16, go_sem, zeroM, msC, r0, r1, r2, r3, r4, r5, r6, r7, r8, r9, r10, r11, r12]) rfl (dec6_no HNO.out ⟨rfl, HF.out⟩)
    subst q0
    obtain ⟨x0, x1, x2, x3, x4, x5, x6, x7, x8, x9, x10, x11, x12⟩ := ms_cells HR.out
    obtain ⟨u0, u1, u2, u3, u4, u5, u6, u7, u8, u9, u10, u11, u12⟩ := ms_free HR.out
    obtain ⟨r0, r1, r2, r3, r4, r5, r6, r7, r8, r9, r10, r11, r12, _, hcs⟩ := ms_put HR.out 0 0 0 0 0 0 0 0 0 0 0 0 none 0 0
    have HF := Lib.hid (fresh_set HC.out hcs (Nat.le_refl _))
    have RR := Lib.hid (And.intro r0 (And.intro r1 (And.intro r2 (And.intro r3 (And.intro r4 (And.intro r5 (And.intro r6 (And.intro r7 (And.intro r8 (And.intro r9 (And.intro r10 (And.intro r11 (r12)))))))))))))
    clear r0 r1 r2 r3 r4 r5 r6 r7 r8 r9 r10 r11 r12 hcs
    go_wp2_with fail
    obtain ⟨r0, r1, r2, r3, r4, r5, r6, r7, r8, r9, r10, r11, r12⟩ := RR.out
    exact bodyPost_ret (v := .tuple #[zeroM, .int .i64 2]) (by simp [results, Try.results16, go_sem, zeroM, msC, r0, r1, r2, r3, r4, r5, r6, r7, r8, r9, r10, r11, r12]) rfl (dec6_no HNO.out ⟨rfl, HF.out⟩)

end Go.Proofs.Ytalfbijcjghemaa
