/-
  Walk: flow's Look, on nil too. Condition: the table lies in memory, with at most 256 entries.
-/
import Derived.Test.YtacbgelbffmngaaYd
namespace Go.Proofs.Ytacbgelbffmngaa
open Go.RowKit
set_option linter.unusedVariables false
set_option linter.unusedSimpArgs false

theorem en_put13 {w : World} {q : Nat} {T : TypeId} {y : En} (hb : Blk w q T y.cs) (x : En) : Blk (((((((((((w.setCell ⟨q, 0, none⟩ (.int .i64 x.pr)).setCell ⟨q, 1, none⟩ (.int .i64 x.ins)).setCell ⟨q, 2, none⟩ (.int .u64 x.ma)).setCell ⟨q, 3, none⟩ (.int .i64 x.po)).setCell ⟨q, 4, none⟩ (.int .i64 x.fr)).setCell ⟨q, 5, none⟩ (.int .i64 x.up)).setCell ⟨q, 6, none⟩ (.int .i64 x.no)).setCell ⟨q, 7, none⟩ (.int .i64 x.ak)).setCell ⟨q, 8, none⟩ (.int .i64 x.ap)).setCell ⟨q, 9, none⟩ (.int .i64 x.ao)).setCell ⟨q, 10, none⟩ (.int .i64 x.ag)) q T x.cs ∧ Chg (fun k => k = q) w (((((((((((w.setCell ⟨q, 0, none⟩ (.int .i64 x.pr)).setCell ⟨q, 1, none⟩ (.int .i64 x.ins)).setCell ⟨q, 2, none⟩ (.int .u64 x.ma)).setCell ⟨q, 3, none⟩ (.int .i64 x.po)).setCell ⟨q, 4, none⟩ (.int .i64 x.fr)).setCell ⟨q, 5, none⟩ (.int .i64 x.up)).setCell ⟨q, 6, none⟩ (.int .i64 x.no)).setCell ⟨q, 7, none⟩ (.int .i64 x.ak)).setCell ⟨q, 8, none⟩ (.int .i64 x.ap)).setCell ⟨q, 9, none⟩ (.int .i64 x.ao)).setCell ⟨q, 10, none⟩ (.int .i64 x.ag)) := by
  have h0 := hb.set 0 (.int .i64 x.pr)
  have h1 := h0.set 1 (.int .i64 x.ins)
  have h2 := h1.set 2 (.int .u64 x.ma)
  have h3 := h2.set 3 (.int .i64 x.po)
  have h4 := h3.set 4 (.int .i64 x.fr)
  have h5 := h4.set 5 (.int .i64 x.up)
  have h6 := h5.set 6 (.int .i64 x.no)
  have h7 := h6.set 7 (.int .i64 x.ak)
  have h8 := h7.set 8 (.int .i64 x.ap)
  have h9 := h8.set 9 (.int .i64 x.ao)
  have h10 := h9.set 10 (.int .i64 x.ag)
  simp only [En.cs, enC, List.setIfInBounds_toArray, List.set_cons_succ, List.set_cons_zero] at h10
  refine ⟨h10, ?_⟩
  exact (((((((((((Chg.refl (fun k => k = q) w).put q 0 (fun _ => rfl) _).put q 1 (fun _ => rfl) _).put q 2 (fun _ => rfl) _).put q 3 (fun _ => rfl) _).put q 4 (fun _ => rfl) _).put q 5 (fun _ => rfl) _).put q 6 (fun _ => rfl) _).put q 7 (fun _ => rfl) _).put q 8 (fun _ => rfl) _).put q 9 (fun _ => rfl) _).put q 10 (fun _ => rfl) _
theorem en_free13 {w : World} {q : Nat} {T : TypeId} {cs : Array Value} (h : Blk w q T cs) : w.frozen? ⟨q, 0, none⟩ = false ∧ w.frozen? ⟨q, 1, none⟩ = false ∧ w.frozen? ⟨q, 2, none⟩ = false ∧ w.frozen? ⟨q, 3, none⟩ = false ∧ w.frozen? ⟨q, 4, none⟩ = false ∧ w.frozen? ⟨q, 5, none⟩ = false ∧ w.frozen? ⟨q, 6, none⟩ = false ∧ w.frozen? ⟨q, 7, none⟩ = false ∧ w.frozen? ⟨q, 8, none⟩ = false ∧ w.frozen? ⟨q, 9, none⟩ = false ∧ w.frozen? ⟨q, 10, none⟩ = false := ⟨h.frozen 0, h.frozen 1, h.frozen 2, h.frozen 3, h.frozen 4, h.frozen 5, h.frozen 6, h.frozen 7, h.frozen 8, h.frozen 9, h.frozen 10⟩
/-- What a look hands back. -/
def LkP13 (o : Option En) (w : World) (e : Ending) (w' : World) : Prop := e = .returned (.tuple #[.agg (acO13 o), .bool o.isSome]) ∧ Chg (fun _ => False) w w'
def ze13 : En := ⟨0, 0, 0, 0, 0, 0, 0, 0, 0, 0, 0⟩
/-- The box of what was found. -/
def bx13 : Option En → Array Value
  | none => ze13.cs
  | some y => y.cs
theorem bx13_ac : ∀ o : Option En, ∃ a b c d : Int, acO13 o = acC a b c d ∧ (bx13 o)[7]? = some (.int .i64 a) ∧ (bx13 o)[8]? = some (.int .i64 b) ∧ (bx13 o)[9]? = some (.int .i64 c) ∧ (bx13 o)[10]? = some (.int .i64 d)
  | none => ⟨0, 0, 0, 0, rfl, rfl, rfl, rfl, rfl⟩
  | some y => ⟨y.ak, y.ap, y.ao, y.ag, rfl, rfl, rfl, rfl, rfl⟩
set_option maxRecDepth 100000 in
set_option maxHeartbeats 2000000 in
theorem flook13_nil (ki km kp ks ko : Int) (w : World) : Calls Try.prog 39 #[.pointer none, .agg (kyC ki km kp ks ko)] w (LkP13 none w) := by
  have HR : Hid (Blk ((w.alloc (.cells #[.int .i64 ki, .int .u64 km, .int .i64 kp, .int .i64 ks, .int .i64 ko] 77)).alloc (.cells #[.int .i64 0, .int .i64 0, .int .i64 0, .int .i64 0] 68)) (w.heap.size + 1) 68 (acC 0 0 0 0)) := Lib.hid (blk_new (by simp))
  have HX0 := Lib.hid (((Chg.refl (fun _ => False) w).alloc (.cells #[.int .i64 ki, .int .u64 km, .int .i64 kp, .int .i64 ks, .int .i64 ko] 77)).alloc (.cells #[.int .i64 0, .int .i64 0, .int .i64 0, .int .i64 0] 68))
  unfold kyC
  go_enter Try.func39, Try.ntmps39
  go_upto_region 1 with fail
  generalize (w.alloc (.cells #[.int .i64 ki, .int .u64 km, .int .i64 kp, .int .i64 ks, .int .i64 ko] 77)).alloc (.cells #[.int .i64 0, .int .i64 0, .int .i64 0, .int .i64 0] 68) = w1 at *
  obtain ⟨x0, x1, x2, x3⟩ := ac_cells13 HR.out
  obtain ⟨f0, f1, f2, f3⟩ := ac_free13 HR.out
  obtain ⟨r0, r1, r2, r3, hcs⟩ := ac_put13 HR.out 0 0 0 0
  have RR := Lib.hid (And.intro r0 (And.intro r1 (And.intro r2 r3)))
  have HF := Lib.hid (fresh_set HX0.out hcs (by omega))
  clear r0 r1 r2 r3 hcs
  go_wp2_with fail
  obtain ⟨r0, r1, r2, r3⟩ := RR.out
  exact bodyPost_ret (v := .tuple #[.agg (acC 0 0 0 0), .bool false]) (by simp [results, Try.results39, go_sem, acC, r0, r1, r2, r3]) rfl ⟨rfl, HF.out⟩
set_option maxRecDepth 100000 in
set_option maxHeartbeats 8000000 in
theorem flook13_any {w : World} {p : Nat} {l : List En} (h : TF w p l) (hb : l.length ≤ 256) (ki km kp ks ko : Int) : Calls Try.prog 39 #[.pointer (some ⟨p, 0, none⟩), .agg (kyC ki km kp ks ko)] w (LkP13 (lk13 ⟨ki, km, kp, ks, ko⟩ l) w) := by
  obtain ⟨A, c, hblk, hr, -, -, -⟩ := h
  have HRD := Lib.hid hr
  have HX0 := Lib.hid ((((Chg.refl (fun _ => False) w).alloc (.cells #[.int .i64 ki, .int .u64 km, .int .i64 kp, .int .i64 ks, .int .i64 ko] 77)).alloc (.cells #[.int .i64 0, .int .i64 0, .int .i64 0, .int .i64 0] 68)).alloc (.cells #[.int .i64 0, .int .i64 0, .int .u64 0, .int .i64 0, .int .i64 0, .int .i64 0, .int .i64 0, .int .i64 0, .int .i64 0, .int .i64 0, .int .i64 0] 70))
  have HK0 : Hid (Blk (((w.alloc (.cells #[.int .i64 ki, .int .u64 km, .int .i64 kp, .int .i64 ks, .int .i64 ko] 77)).alloc (.cells #[.int .i64 0, .int .i64 0, .int .i64 0, .int .i64 0] 68)).alloc (.cells #[.int .i64 0, .int .i64 0, .int .u64 0, .int .i64 0, .int .i64 0, .int .i64 0, .int .i64 0, .int .i64 0, .int .i64 0, .int .i64 0, .int .i64 0] 70)) w.heap.size 77 (kyC ki km kp ks ko)) := Lib.hid (Blk.alloc (Blk.alloc (blk_new rfl) _) _)
  have HR0 : Hid (Blk (((w.alloc (.cells #[.int .i64 ki, .int .u64 km, .int .i64 kp, .int .i64 ks, .int .i64 ko] 77)).alloc (.cells #[.int .i64 0, .int .i64 0, .int .i64 0, .int .i64 0] 68)).alloc (.cells #[.int .i64 0, .int .i64 0, .int .u64 0, .int .i64 0, .int .i64 0, .int .i64 0, .int .i64 0, .int .i64 0, .int .i64 0, .int .i64 0, .int .i64 0] 70)) (w.heap.size + 1) 68 (acC 0 0 0 0)) := Lib.hid (Blk.alloc (blk_new (by simp)) _)
  have HB0 : Hid (Blk (((w.alloc (.cells #[.int .i64 ki, .int .u64 km, .int .i64 kp, .int .i64 ks, .int .i64 ko] 77)).alloc (.cells #[.int .i64 0, .int .i64 0, .int .i64 0, .int .i64 0] 68)).alloc (.cells #[.int .i64 0, .int .i64 0, .int .u64 0, .int .i64 0, .int .i64 0, .int .i64 0, .int .i64 0, .int .i64 0, .int .i64 0, .int .i64 0, .int .i64 0] 70)) (w.heap.size + 1 + 1) 70 ze13.cs) := Lib.hid (blk_new (by simp))
  have c0 := (hblk.chg HX0.out id).cell 0
  simp only [List.getElem?_toArray, List.getElem?_cons_zero] at c0
  clear hblk hr
  generalize hm : l.length = m at *
  have HL := Lib.hid hm.symm
  clear hm
  unfold kyC
  go_enter Try.func39, Try.ntmps39
  go_upto_region 4 with fail
  generalize ((w.alloc (.cells #[.int .i64 ki, .int .u64 km, .int .i64 kp, .int .i64 ks, .int .i64 ko] 77)).alloc (.cells #[.int .i64 0, .int .i64 0, .int .i64 0, .int .i64 0] 68)).alloc (.cells #[.int .i64 0, .int .i64 0, .int .u64 0, .int .i64 0, .int .i64 0, .int .i64 0, .int .i64 0, .int .i64 0, .int .i64 0, .int .i64 0, .int .i64 0] 70) = w2 at *
  have HQ : Hid (w.heap.size ≠ w.heap.size + 1 + 1 ∧ w.heap.size + 1 ≠ w.heap.size + 1 + 1 ∧ w.heap.size ≤ w.heap.size + 1 ∧ w.heap.size ≤ w.heap.size + 1 + 1) := Lib.hid (by omega)
  generalize hq2 : w.heap.size + 1 + 1 = Q2 at *
  generalize hq1 : w.heap.size + 1 = Q1 at *
  generalize hq0 : w.heap.size = Q0 at HK0 HQ ⊢
  have HQ0 := Lib.hid hq0
  clear hq2 hq1 hq0
  go_wp2_with fail
  go_loopg [7, 9, 18] m (fun g s7 s9 i wr => ∃ (j : Nat) (b : Option En), g = m - j ∧ j ≤ m ∧ i = .int .i64 (j : Int) ∧ s7 = .bool b.isSome ∧ Hid (lk13 ⟨ki, km, kp, ks, ko⟩ (l.take j) = b) ∧ Hid (Blk wr Q0 77 (kyC ki km kp ks ko)) ∧ Hid (Blk wr Q2 70 (bx13 b)) ∧ Hid (Blk wr Q1 68 (acC 0 0 0 0)) ∧ Hid (Chg (fun _ => False) w wr))
  case atStart => exact ⟨0, none, rfl, Nat.zero_le _, rfl, rfl, Lib.hid rfl, HK0, HB0, HR0, HX0⟩
  case round =>
    clear HK0 HB0 HR0 HX0 c0
    obtain ⟨j, b, rfl, hj, rfl, rfl, HLK, HK0, HB0, HR0, HX0⟩ := hrel
    by_cases hlt : j < m
    · have hh := HRD.out.chg HX0.out
      obtain ⟨ad, rfl, -⟩ := hh.2 (by omega)
      have hjl : j < l.length := by have := HL.out; omega
      have hx : l[j]? = some l[j] := List.getElem?_eq_getElem hjl
      generalize l[j] = x at *
      obtain ⟨z0, z1, z2, z3, z4, z5, z6, z7, z8, z9, z10⟩ := hh.at hx
      have HJ := Lib.hid (lk13_take (k := ⟨ki, km, kp, ks, ko⟩) hx)
      clear hx hh hjl
      have hca := (Chg.refl (fun _ => False) wr).alloc (.cells #[.int .i64 x.pr, .int .i64 x.ins, .int .u64 x.ma, .int .i64 x.po, .int .i64 x.fr, .int .i64 x.up, .int .i64 x.no, .int .i64 x.ak, .int .i64 x.ap, .int .i64 x.ao, .int .i64 x.ag] 70)
      have HEA : Hid (Blk (wr.alloc (.cells #[.int .i64 x.pr, .int .i64 x.ins, .int .u64 x.ma, .int .i64 x.po, .int .i64 x.fr, .int .i64 x.up, .int .i64 x.no, .int .i64 x.ak, .int .i64 x.ap, .int .i64 x.ao, .int .i64 x.ag] 70)) wr.heap.size 70 (enC x.pr x.ins x.ma x.po x.fr x.up x.no x.ak x.ap x.ao x.ag)) := Lib.hid (blk_new rfl)
      have HXA := Lib.hid (HX0.out.trans hca (fun _ _ e => e))
      have HKA := Lib.hid (HK0.out.chg hca id)
      have HBA := Lib.hid (HB0.out.chg hca id)
      have HRA := Lib.hid (HR0.out.chg hca id)
      clear hca
      have hft := fun W => ffits13_any x.pr x.ins x.ma x.po x.fr x.up x.no x.ak x.ap x.ao x.ag ki km kp ks ko W
      replace hft : ∀ W, Calls _ _ _ W (fun e w' => e = .returned (.bool (fit13 x ⟨ki, km, kp, ks, ko⟩)) ∧ Chg (fun _ => False) W w') := hft
      unfold enC kyC at hft
      cases b with
      | none =>
        go_upto_region 8 with fail
        generalize wr.alloc (.cells #[.int .i64 x.pr, .int .i64 x.ins, .int .u64 x.ma, .int .i64 x.po, .int .i64 x.fr, .int .i64 x.up, .int .i64 x.no, .int .i64 x.ak, .int .i64 x.ap, .int .i64 x.ao, .int .i64 x.ag] 70) = wa at *
        generalize wr.heap.size = Q3 at *
        clear z0 z1 z2 z3 z4 z5 z6 z7 z8 z9 z10
        obtain ⟨y0, y1, y2, y3, y4, y5, y6, y7, y8, y9, y10⟩ := en_cells13 HEA.out
        obtain ⟨u0, u1, u2, u3, u4⟩ := ky_cells13 HKA.out
        cases hf : fit13 x ⟨ki, km, kp, ks, ko⟩ with
        | false =>
          rw [hf] at hft
          have HFT := Lib.hid hft
          have HFF := Lib.hid hf
          clear hft hf
          go_wp2_with fail
          refine (HFT.out _).mono ?_
          rintro e w5 ⟨rfl, hc⟩
          have HX5 := Lib.hid (HXA.out.trans hc (fun _ _ e => e))
          have HK5 := Lib.hid (HKA.out.chg hc id)
          have HB5 : Hid (Blk w5 Q2 70 ze13.cs) := Lib.hid (HBA.out.chg hc id)
          have HR5 := Lib.hid (HRA.out.chg hc id)
          have HE5 := Lib.hid (HEA.out.chg hc id)
          clear hc y0 y1 y2 y3 y4 y5 y6 y7 y8 y9 y10 u0 u1 u2 u3 u4
          obtain ⟨y0, y1, y2, y3, y4, y5, y6, y7, y8, y9, y10⟩ := en_cells13 HE5.out
          go_wp2_with fail
          go_roundg (m - (j + 1))
          case measure => omega
          case rel => exact ⟨j + 1, none, rfl, by omega, by go_num, rfl, Lib.hid (by rw [HJ.out, HLK.out]; exact up13_no HFF.out), HK5, HB5, HR5, HX5⟩
        | true =>
          rw [hf] at hft
          have HFT := Lib.hid hft
          have HFF := Lib.hid hf
          clear hft hf
          go_wp2_with fail
          refine (HFT.out _).mono ?_
          rintro e w5 ⟨rfl, hc⟩
          have HX5 := Lib.hid (HXA.out.trans hc (fun _ _ e => e))
          have HK5 := Lib.hid (HKA.out.chg hc id)
          have HB5 : Hid (Blk w5 Q2 70 ze13.cs) := Lib.hid (HBA.out.chg hc id)
          have HR5 := Lib.hid (HRA.out.chg hc id)
          have HE5 := Lib.hid (HEA.out.chg hc id)
          clear hc y0 y1 y2 y3 y4 y5 y6 y7 y8 y9 y10 u0 u1 u2 u3 u4
          obtain ⟨y0, y1, y2, y3, y4, y5, y6, y7, y8, y9, y10⟩ := en_cells13 HE5.out
          obtain ⟨g0, g1, g2, g3, g4, g5, g6, g7, g8, g9, g10⟩ := en_cells13 (show Blk w5 Q2 70 (enC 0 0 0 0 0 0 0 0 0 0 0) from HB5.out)
          obtain ⟨f0, f1, f2, f3, f4, f5, f6, f7, f8, f9, f10⟩ := en_free13 HB5.out
          have HP := Lib.hid (en_put13 HB5.out x)
          go_wp2_with fail
          generalize (((((((((((w5.setCell ⟨Q2, 0, none⟩ (.int .i64 x.pr)).setCell ⟨Q2, 1, none⟩ (.int .i64 x.ins)).setCell ⟨Q2, 2, none⟩ (.int .u64 x.ma)).setCell ⟨Q2, 3, none⟩ (.int .i64 x.po)).setCell ⟨Q2, 4, none⟩ (.int .i64 x.fr)).setCell ⟨Q2, 5, none⟩ (.int .i64 x.up)).setCell ⟨Q2, 6, none⟩ (.int .i64 x.no)).setCell ⟨Q2, 7, none⟩ (.int .i64 x.ak)).setCell ⟨Q2, 8, none⟩ (.int .i64 x.ap)).setCell ⟨Q2, 9, none⟩ (.int .i64 x.ao)).setCell ⟨Q2, 10, none⟩ (.int .i64 x.ag)) = w6 at *
          replace HX5 := Lib.hid (fresh_set HX5.out HP.out.2 (by have := HQ.out; have := HQ0.out; omega))
          have HK6 := Lib.hid (HK5.out.chg HP.out.2 (by have := HQ.out; omega))
          have HR6 := Lib.hid (HR5.out.chg HP.out.2 (by have := HQ.out; omega))
          go_roundg (m - (j + 1))
          case measure => omega
          case rel => exact ⟨j + 1, some x, rfl, by omega, by go_num, rfl, Lib.hid (by rw [HJ.out, HLK.out]; exact up13_none HFF.out), HK6, Lib.hid HP.out.1, HR6, HX5⟩
      | some y =>
        go_upto_region 8 with fail
        generalize wr.alloc (.cells #[.int .i64 x.pr, .int .i64 x.ins, .int .u64 x.ma, .int .i64 x.po, .int .i64 x.fr, .int .i64 x.up, .int .i64 x.no, .int .i64 x.ak, .int .i64 x.ap, .int .i64 x.ao, .int .i64 x.ag] 70) = wa at *
        generalize wr.heap.size = Q3 at *
        clear z0 z1 z2 z3 z4 z5 z6 z7 z8 z9 z10
        obtain ⟨y0, y1, y2, y3, y4, y5, y6, y7, y8, y9, y10⟩ := en_cells13 HEA.out
        obtain ⟨u0, u1, u2, u3, u4⟩ := ky_cells13 HKA.out
        cases hf : fit13 x ⟨ki, km, kp, ks, ko⟩ with
        | false =>
          rw [hf] at hft
          have HFT := Lib.hid hft
          have HFF := Lib.hid hf
          clear hft hf
          go_wp2_with fail
          refine (HFT.out _).mono ?_
          rintro e w5 ⟨rfl, hc⟩
          have HX5 := Lib.hid (HXA.out.trans hc (fun _ _ e => e))
          have HK5 := Lib.hid (HKA.out.chg hc id)
          have HB5 : Hid (Blk w5 Q2 70 y.cs) := Lib.hid (HBA.out.chg hc id)
          have HR5 := Lib.hid (HRA.out.chg hc id)
          have HE5 := Lib.hid (HEA.out.chg hc id)
          clear hc y0 y1 y2 y3 y4 y5 y6 y7 y8 y9 y10 u0 u1 u2 u3 u4
          obtain ⟨y0, y1, y2, y3, y4, y5, y6, y7, y8, y9, y10⟩ := en_cells13 HE5.out
          go_wp2_with fail
          go_roundg (m - (j + 1))
          case measure => omega
          case rel => exact ⟨j + 1, some y, rfl, by omega, by go_num, rfl, Lib.hid (by rw [HJ.out, HLK.out]; exact up13_no HFF.out), HK5, HB5, HR5, HX5⟩
        | true =>
          rw [hf] at hft
          have HFT := Lib.hid hft
          have HFF := Lib.hid hf
          clear hft hf
          go_wp2_with fail
          refine (HFT.out _).mono ?_
          rintro e w5 ⟨rfl, hc⟩
          have HX5 := Lib.hid (HXA.out.trans hc (fun _ _ e => e))
          have HK5 := Lib.hid (HKA.out.chg hc id)
          have HB5 : Hid (Blk w5 Q2 70 y.cs) := Lib.hid (HBA.out.chg hc id)
          have HR5 := Lib.hid (HRA.out.chg hc id)
          have HE5 := Lib.hid (HEA.out.chg hc id)
          clear hc y0 y1 y2 y3 y4 y5 y6 y7 y8 y9 y10 u0 u1 u2 u3 u4
          obtain ⟨y0, y1, y2, y3, y4, y5, y6, y7, y8, y9, y10⟩ := en_cells13 HE5.out
          obtain ⟨g0, g1, g2, g3, g4, g5, g6, g7, g8, g9, g10⟩ := en_cells13 (show Blk w5 Q2 70 (enC y.pr y.ins y.ma y.po y.fr y.up y.no y.ak y.ap y.ao y.ag) from HB5.out)
          by_cases hpr : y.pr < x.pr
          · have HPR := Lib.hid hpr
            obtain ⟨f0, f1, f2, f3, f4, f5, f6, f7, f8, f9, f10⟩ := en_free13 HB5.out
            have HP := Lib.hid (en_put13 HB5.out x)
            go_wp2_with fail
            generalize (((((((((((w5.setCell ⟨Q2, 0, none⟩ (.int .i64 x.pr)).setCell ⟨Q2, 1, none⟩ (.int .i64 x.ins)).setCell ⟨Q2, 2, none⟩ (.int .u64 x.ma)).setCell ⟨Q2, 3, none⟩ (.int .i64 x.po)).setCell ⟨Q2, 4, none⟩ (.int .i64 x.fr)).setCell ⟨Q2, 5, none⟩ (.int .i64 x.up)).setCell ⟨Q2, 6, none⟩ (.int .i64 x.no)).setCell ⟨Q2, 7, none⟩ (.int .i64 x.ak)).setCell ⟨Q2, 8, none⟩ (.int .i64 x.ap)).setCell ⟨Q2, 9, none⟩ (.int .i64 x.ao)).setCell ⟨Q2, 10, none⟩ (.int .i64 x.ag)) = w6 at *
            replace HX5 := Lib.hid (fresh_set HX5.out HP.out.2 (by have := HQ.out; have := HQ0.out; omega))
            have HK6 := Lib.hid (HK5.out.chg HP.out.2 (by have := HQ.out; omega))
            have HR6 := Lib.hid (HR5.out.chg HP.out.2 (by have := HQ.out; omega))
            go_roundg (m - (j + 1))
            case measure => omega
            case rel => exact ⟨j + 1, some x, rfl, by omega, by go_num, rfl, Lib.hid (by rw [HJ.out, HLK.out]; exact up13_lt HFF.out HPR.out), HK6, Lib.hid HP.out.1, HR6, HX5⟩
          · have HPR := Lib.hid hpr
            go_wp2_with fail
            go_roundg (m - (j + 1))
            case measure => omega
            case rel => exact ⟨j + 1, some y, rfl, by omega, by go_num, rfl, Lib.hid (by rw [HJ.out, HLK.out]; exact up13_le (by have := HPR.out; omega)), HK5, HB5, HR5, HX5⟩
    · have hjm : j = m := by omega
      subst hjm
      obtain ⟨a0, a1, a2, a3, hac, b7, b8, b9, b10⟩ := bx13_ac b
      have g7 := HB0.out.cell 7
      have g8 := HB0.out.cell 8
      have g9 := HB0.out.cell 9
      have g10 := HB0.out.cell 10
      rw [b7] at g7
      rw [b8] at g8
      rw [b9] at g9
      rw [b10] at g10
      have HAC := Lib.hid (show lk13 ⟨ki, km, kp, ks, ko⟩ l = b from by rw [← HLK.out, List.take_of_length_le (by have := HL.out; omega)])
      have HA2 := Lib.hid hac
      obtain ⟨x0, x1, x2, x3⟩ := ac_cells13 HR0.out
      obtain ⟨f0, f1, f2, f3⟩ := ac_free13 HR0.out
      obtain ⟨r0, r1, r2, r3, hcs⟩ := ac_put13 HR0.out a0 a1 a2 a3
      have RR := Lib.hid (And.intro r0 (And.intro r1 (And.intro r2 r3)))
      have HF := Lib.hid (fresh_set HX0.out hcs (by have := HQ.out; have := HQ0.out; omega))
      clear r0 r1 r2 r3 hcs b7 b8 b9 b10 hac
      go_wp2_with fail
      obtain ⟨r0, r1, r2, r3⟩ := RR.out
      exact bodyPost_ret (v := .tuple #[.agg (acC a0 a1 a2 a3), .bool b.isSome]) (by simp [results, Try.results39, go_sem, acC, r0, r1, r2, r3]) rfl ⟨by rw [HAC.out, HA2.out], HF.out⟩

end Go.Proofs.Ytacbgelbffmngaa
