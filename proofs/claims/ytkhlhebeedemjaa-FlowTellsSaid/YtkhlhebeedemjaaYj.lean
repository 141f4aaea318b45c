/-
  Walk: rutterlaw13.FlowTells. Condition: the entries are read in memory.
-/
import Derived.Test.YtkhlhebeedemjaaYf
import Derived.Test.YtkhlhebeedemjaaYg
import Derived.Test.YtkhlhebeedemjaaYh
namespace Go.Proofs.Ytkhlhebeedemjaa
open Go.RowKit
set_option linter.unusedVariables false
set_option linter.unusedSimpArgs false

theorem stRa13 : Try.prog.underlying 38 = some (.struct (Try.prog.fieldsOf 38)) := by kernel_rfl
theorem hpRa13 : Try.prog.stoodInHeld 38 = false := by kernel_rfl
theorem neRa13 (W : World) (a b c d : Int) : (binOp .neq 38 (.agg #[.int .i64 a, .int .i64 b, .int .i64 c, .int .i64 d]) (.agg #[.int .i64 a, .int .i64 b, .int .i64 c, .int .i64 d])).run Try.prog W = .ok (.bool false) W := by
  rw [run_neq_struct, show (10000 : Nat) = 9999 + 1 from rfl, run_equalIn_agg W 9999 38 _ _ stRa13 hpRa13]
  go_simp
theorem stRe13 : Try.prog.underlying 46 = some (.struct (Try.prog.fieldsOf 46)) := by kernel_rfl
theorem hpRe13 : Try.prog.stoodInHeld 46 = false := by kernel_rfl
theorem neRe13 (W : World) (pr ins ma po fr up no ak ap ao ag : Int) : (binOp .neq 46 (.agg #[.int .i64 pr, .int .i64 ins, .int .u64 ma, .int .i64 po, .int .i64 fr, .int .i64 up, .int .i64 no, .int .i64 ak, .int .i64 ap, .int .i64 ao, .int .i64 ag]) (.agg #[.int .i64 pr, .int .i64 ins, .int .u64 ma, .int .i64 po, .int .i64 fr, .int .i64 up, .int .i64 no, .int .i64 ak, .int .i64 ap, .int .i64 ao, .int .i64 ag])).run Try.prog W = .ok (.bool false) W := by
  rw [run_neq_struct, show (10000 : Nat) = 9999 + 1 from rfl, run_equalIn_agg W 9999 46 _ _ stRe13 hpRe13]
  go_simp
set_option maxRecDepth 100000 in
set_option maxHeartbeats 8000000 in
theorem tells13_big {w : World} {L : Option Addr} {m lc : Nat} {l : List En} (h : EnR w L m l) (hz : L = none → lc = 0) (hmc : m ≤ 9223372036854775807) (hb : 256 < m) (ki km kp ks ko : Int) : Calls Try.prog 3 #[.slice L m lc, .agg (kyC ki km kp ks ko)] w fun e w' => e = .returned (.bool true) ∧ Chg (fun _ => False) w w' := by
  by_cases h4 : 400 < m
  · skip
    have HK : Hid (Blk (w.alloc (.cells #[.int .i64 ki, .int .u64 km, .int .i64 kp, .int .i64 ks, .int .i64 ko] 25)) w.heap.size 25 (kyC ki km kp ks ko)) := Lib.hid (blk_new rfl)
    have HX := Lib.hid ((Chg.refl (fun _ => False) w).alloc (.cells #[.int .i64 ki, .int .u64 km, .int .i64 kp, .int .i64 ks, .int .i64 ko] 25))
    have HR := Lib.hid (h.alloc (.cells #[.int .i64 ki, .int .u64 km, .int .i64 kp, .int .i64 ks, .int .i64 ko] 25))
    have HZ := Lib.hid hz
    have HAL := Lib.hid (fun W => alive13_any W)
    clear h hz
    unfold kyC
    go_enter Try.func3, Try.ntmps3
    go_upto_region 1 with fail
    generalize w.alloc (.cells #[.int .i64 ki, .int .u64 km, .int .i64 kp, .int .i64 ks, .int .i64 ko] 25) = w1 at *
    generalize w.heap.size = QK at *
    go_wp2_with fail
    refine (HAL.out _).mono ?_
    rintro e wa ⟨rfl, hc⟩
    replace HX := Lib.hid (HX.out.trans hc (fun _ _ e => e))
    clear hc
    go_wp2_with fail
    go_ret
    exact ⟨rfl, HX.out⟩
  · have hmay := fun W => rmay13_any m W
    rw [show may13 m = 3 from if_pos hb] at hmay
    have HMY := Lib.hid hmay
    have HN := Lib.hid (fun W => fnew13_full (L := L) (lc := lc) hb W)
    clear hmay
    have HK : Hid (Blk (w.alloc (.cells #[.int .i64 ki, .int .u64 km, .int .i64 kp, .int .i64 ks, .int .i64 ko] 25)) w.heap.size 25 (kyC ki km kp ks ko)) := Lib.hid (blk_new rfl)
    have HX := Lib.hid ((Chg.refl (fun _ => False) w).alloc (.cells #[.int .i64 ki, .int .u64 km, .int .i64 kp, .int .i64 ks, .int .i64 ko] 25))
    have HR := Lib.hid (h.alloc (.cells #[.int .i64 ki, .int .u64 km, .int .i64 kp, .int .i64 ks, .int .i64 ko] 25))
    have HZ := Lib.hid hz
    have HAL := Lib.hid (fun W => alive13_any W)
    clear h hz
    unfold kyC
    go_enter Try.func3, Try.ntmps3
    go_upto_region 1 with fail
    generalize w.alloc (.cells #[.int .i64 ki, .int .u64 km, .int .i64 kp, .int .i64 ks, .int .i64 ko] 25) = w1 at *
    generalize w.heap.size = QK at *
    go_wp2_with fail
    refine (HN.out _).mono ?_
    rintro e w2 ⟨rfl, rfl⟩
    go_wp2_with fail
    refine (HMY.out _).mono ?_
    rintro e w3 ⟨rfl, rfl⟩
    go_wp2_with fail
    refine (HAL.out _).mono ?_
    rintro e wa ⟨rfl, hc⟩
    replace HX := Lib.hid (HX.out.trans hc (fun _ _ e => e))
    clear hc
    go_wp2_with fail
    go_ret
    exact ⟨rfl, HX.out⟩
set_option maxRecDepth 100000 in
set_option maxHeartbeats 16000000 in
theorem tells13_any {w : World} {L : Option Addr} {m lc : Nat} {l : List En} (h : EnR w L m l) (hz : L = none → lc = 0) (hb : m ≤ 256) (ki km kp ks ko : Int) : Calls Try.prog 3 #[.slice L m lc, .agg (kyC ki km kp ks ko)] w fun e w' => e = .returned (.bool true) ∧ Chg (fun _ => False) w w' := by
  have HL := Lib.hid h.1
  have h256 : ¬ 400 < m := by omega
  have hmay := fun W => rmay13_any m W
  rw [show may13 m = 0 from if_neg (by omega)] at hmay
  have HMY := Lib.hid hmay
  have HB256 := Lib.hid (show l.length ≤ 256 by have := HL.out; omega)
  obtain ⟨a0, a1, a2, a3, hac, -, -, -, -⟩ := bx13_ac (lk13 ⟨ki, km, kp, ks, ko⟩ l)
  generalize hbb : (lk13 ⟨ki, km, kp, ks, ko⟩ l).isSome = bb at *
  have HLK := Lib.hid (show ∀ (W : World) (p : Nat), TF W p l → Calls Try.prog 9 #[.pointer (some ⟨p, 0, none⟩), .agg #[.int .i64 ki, .int .u64 km, .int .i64 kp, .int .i64 ks, .int .i64 ko]] W (fun e w' => e = .returned (.tuple #[.agg #[.int .i64 a0, .int .i64 a1, .int .i64 a2, .int .i64 a3], .bool bb]) ∧ Chg (fun _ => False) W w') from fun W p hT => by
    have h2 := flook13_any hT HB256.out ki km kp ks ko
    unfold LkP13 at h2
    rw [hac, hbb] at h2
    exact h2)
  have HRL := Lib.hid (show ∀ (W : World) (M : Option Addr) (d : Nat), EnR W M m l → Calls Try.prog 10 #[.slice M m d, .agg #[.int .i64 ki, .int .u64 km, .int .i64 kp, .int .i64 ks, .int .i64 ko]] W (fun e w' => e = .returned (.tuple #[.agg #[.int .i64 a0, .int .i64 a1, .int .i64 a2, .int .i64 a3], .bool bb]) ∧ Chg (fun _ => False) W w') from fun W M d hM => by
    have h2 := rlook13_any (lc := d) hM (by omega) ki km kp ks ko
    unfold LkP13 at h2
    rw [hac, hbb] at h2
    exact h2)
  have hkey := fun W => lkey13_any ki km kp ks ko W
  have hact := fun W => lact13_any a0 a1 a2 a3 W
  unfold kyC at hkey
  unfold acC at hact
  have HKEY := Lib.hid hkey
  have HACT := Lib.hid hact
  clear hmay hac hbb hkey hact
  have HK : Hid (Blk (w.alloc (.cells #[.int .i64 ki, .int .u64 km, .int .i64 kp, .int .i64 ks, .int .i64 ko] 25)) w.heap.size 25 (kyC ki km kp ks ko)) := Lib.hid (blk_new rfl)
  have HX := Lib.hid ((Chg.refl (fun _ => False) w).alloc (.cells #[.int .i64 ki, .int .u64 km, .int .i64 kp, .int .i64 ks, .int .i64 ko] 25))
  have HR := Lib.hid (h.alloc (.cells #[.int .i64 ki, .int .u64 km, .int .i64 kp, .int .i64 ks, .int .i64 ko] 25))
  have HZ := Lib.hid hz
  have HAL := Lib.hid (fun W => alive13_any W)
  clear h hz
  unfold kyC
  go_enter Try.func3, Try.ntmps3
  go_upto_region 1 with fail
  generalize w.alloc (.cells #[.int .i64 ki, .int .u64 km, .int .i64 kp, .int .i64 ks, .int .i64 ko] 25) = w1 at *
  generalize w.heap.size = QK at *
  have HN := Lib.hid (fnew13_any HR.out HZ.out hb)
  go_wp2_with fail
  refine HN.out.mono ?_
  rintro e w2 ⟨p, rfl, hT, hc⟩
  have HT := Lib.hid hT
  replace HK := Lib.hid (HK.out.chg hc id)
  replace HR := Lib.hid (HR.out.chg hc)
  replace HX := Lib.hid (HX.out.trans hc (fun _ _ e => e))
  clear hT hc HN
  go_wp2_with fail
  refine (HMY.out _).mono ?_
  rintro e w3 ⟨rfl, rfl⟩
  have HOF := Lib.hid (lof13_any (lc := lc) HR.out (by omega))
  go_wp2_with fail
  refine HOF.out.mono ?_
  rintro e w3 ⟨M, md, rfl, hM, hc⟩
  have HM := Lib.hid hM
  replace HK := Lib.hid (HK.out.chg hc id)
  replace HR := Lib.hid (HR.out.chg hc)
  replace HT := Lib.hid (HT.out.chg hc)
  replace HX := Lib.hid (HX.out.trans hc (fun _ _ e => e))
  clear hM hc HOF
  obtain ⟨u0, u1, u2, u3, u4⟩ := ky_cells13 HK.out
  go_wp2_with fail
  refine (HLK.out _ p HT.out).mono ?_
  rintro e w4 ⟨rfl, hc⟩
  have hca := hc.alloc (.cells #[.int .i64 a0, .int .i64 a1, .int .i64 a2, .int .i64 a3] 35)
  have HA : Hid (Blk (w4.alloc (.cells #[.int .i64 a0, .int .i64 a1, .int .i64 a2, .int .i64 a3] 35)) w4.heap.size 35 (acC a0 a1 a2 a3)) := Lib.hid (blk_new rfl)
  replace HK := Lib.hid (HK.out.chg hca id)
  replace HR := Lib.hid (HR.out.chg hca)
  replace HT := Lib.hid (HT.out.chg hca)
  replace HM := Lib.hid (HM.out.chg hca)
  replace HX := Lib.hid (HX.out.trans hca (fun _ _ e => e))
  clear hc hca u0 u1 u2 u3 u4
  go_upto_region 10 with fail
  generalize w4.alloc (.cells #[.int .i64 a0, .int .i64 a1, .int .i64 a2, .int .i64 a3] 35) = v4 at *
  generalize w4.heap.size = X8 at *
  obtain ⟨u0, u1, u2, u3, u4⟩ := ky_cells13 HK.out
  go_wp2_with fail
  refine (HKEY.out _).mono ?_
  rintro e w5 ⟨rfl, hc⟩
  replace HK := Lib.hid (HK.out.chg hc id)
  replace HR := Lib.hid (HR.out.chg hc)
  replace HT := Lib.hid (HT.out.chg hc)
  replace HM := Lib.hid (HM.out.chg hc)
  replace HA := Lib.hid (HA.out.chg hc id)
  replace HX := Lib.hid (HX.out.trans hc (fun _ _ e => e))
  clear hc u0 u1 u2 u3 u4
  go_wp2_with fail
  refine (HRL.out _ M md HM.out).mono ?_
  rintro e w6 ⟨rfl, hc⟩
  have hca := hc.alloc (.cells #[.int .i64 a0, .int .i64 a1, .int .i64 a2, .int .i64 a3] 38)
  have HB : Hid (Blk (w6.alloc (.cells #[.int .i64 a0, .int .i64 a1, .int .i64 a2, .int .i64 a3] 38)) w6.heap.size 38 (acC a0 a1 a2 a3)) := Lib.hid (blk_new rfl)
  replace HK := Lib.hid (HK.out.chg hca id)
  replace HR := Lib.hid (HR.out.chg hca)
  replace HT := Lib.hid (HT.out.chg hca)
  replace HM := Lib.hid (HM.out.chg hca)
  replace HA := Lib.hid (HA.out.chg hca id)
  replace HX := Lib.hid (HX.out.trans hca (fun _ _ e => e))
  clear hc hca
  go_upto_region 11 with fail
  generalize w6.alloc (.cells #[.int .i64 a0, .int .i64 a1, .int .i64 a2, .int .i64 a3] 38) = v6 at *
  generalize w6.heap.size = X10 at *
  have HEN : Hid (Calls Try.prog 12 #[.pointer (some ⟨p, 0, none⟩)] v6 (ClP13 m l v6)) := Lib.hid (by
    have h2 := fent13_any HT.out HB256.out
    rw [← HL.out] at h2
    exact h2)
  go_wp2_with fail
  refine HEN.out.mono ?_
  rintro e w7 ⟨E, ed, rfl, hE, -, -, -, hc⟩
  replace HK := Lib.hid (HK.out.chg hc id)
  replace HR := Lib.hid (HR.out.chg hc)
  replace HT := Lib.hid (HT.out.chg hc)
  replace HM := Lib.hid (HM.out.chg hc)
  replace HA := Lib.hid (HA.out.chg hc id)
  replace HB := Lib.hid (HB.out.chg hc id)
  replace HX := Lib.hid (HX.out.trans hc (fun _ _ e => e))
  have HOF := Lib.hid (lof13_any (lc := ed) hE (by omega))
  clear hc hE HEN
  go_wp2_with fail
  refine HOF.out.mono ?_
  rintro e w8 ⟨G, gd, rfl, hG, hc⟩
  have HG := Lib.hid hG
  replace HK := Lib.hid (HK.out.chg hc id)
  replace HR := Lib.hid (HR.out.chg hc)
  replace HT := Lib.hid (HT.out.chg hc)
  replace HM := Lib.hid (HM.out.chg hc)
  replace HA := Lib.hid (HA.out.chg hc id)
  replace HB := Lib.hid (HB.out.chg hc id)
  replace HX := Lib.hid (HX.out.trans hc (fun _ _ e => e))
  clear hG hc HOF HT
  have HKEEP : Hid (∀ W : World, Chg (fun _ => False) w8 W → (W.cell? ⟨X8, 0, none⟩ = some (.int .i64 a0) ∧ W.cell? ⟨X8, 1, none⟩ = some (.int .i64 a1) ∧ W.cell? ⟨X8, 2, none⟩ = some (.int .i64 a2) ∧ W.cell? ⟨X8, 3, none⟩ = some (.int .i64 a3) ∧ W.cell? ⟨X10, 0, none⟩ = some (.int .i64 a0) ∧ W.cell? ⟨X10, 1, none⟩ = some (.int .i64 a1) ∧ W.cell? ⟨X10, 2, none⟩ = some (.int .i64 a2) ∧ W.cell? ⟨X10, 3, none⟩ = some (.int .i64 a3))) := Lib.hid (fun W hw => by
    obtain ⟨x0, x1, x2, x3⟩ := ac_cells13 (HA.out.chg hw id)
    obtain ⟨z0, z1, z2, z3⟩ := ac_cells13 (HB.out.chg hw id)
    exact ⟨x0, x1, x2, x3, z0, z1, z2, z3⟩)
  have HXA := Lib.hid ((Chg.refl (fun _ => False) w8).drew)
  obtain ⟨x0, x1, x2, x3, z0, z1, z2, z3⟩ := HKEEP.out _ HXA.out
  have hne := fun W => neRa13 W a0 a1 a2 a3
  have tb : (bb != bb) = false := by cases bb <;> rfl
  have tm : ((m : Int) != (m : Int)) = false := by simp
  go_wp2_with fail
  go_region_held3 (fun w' => w'.cell? ⟨X8, 0, none⟩ = some (.int .i64 a0) ∧ w'.cell? ⟨X8, 1, none⟩ = some (.int .i64 a1) ∧ w'.cell? ⟨X8, 2, none⟩ = some (.int .i64 a2) ∧ w'.cell? ⟨X8, 3, none⟩ = some (.int .i64 a3) ∧ w'.cell? ⟨X10, 0, none⟩ = some (.int .i64 a0) ∧ w'.cell? ⟨X10, 1, none⟩ = some (.int .i64 a1) ∧ w'.cell? ⟨X10, 2, none⟩ = some (.int .i64 a2) ∧ w'.cell? ⟨X10, 3, none⟩ = some (.int .i64 a3))
    (first | with_reducible exact HKEEP.out _ HXA.out | with_reducible exact HKEEP.out _ HXB.out | fail)
    (first
      | (go_at_call 13; (with_reducible refine (HACT.out _).mono ?_); rintro e wb ⟨rfl, hc⟩; have HXB := Lib.hid (HXA.out.trans hc (fun _ _ e => e)); clear hc)
      | fail)
  all_goals
    replace HK := Lib.hid (HK.out.chg HXB.out id)
    replace HR := Lib.hid (HR.out.chg HXB.out)
    replace HM := Lib.hid (HM.out.chg HXB.out)
    replace HG := Lib.hid (HG.out.chg HXB.out)
    replace HX := Lib.hid (HX.out.trans HXB.out (fun _ _ e => e))
    clear x0 x1 x2 x3 z0 z1 z2 z3 HKEEP HA HB hne tb
    go_wp2_with fail
    go_loopg [13] m (fun g i wr => ∃ (j : Nat), g = m - j ∧ j ≤ m ∧ i = .int .i64 (j : Int) ∧ Hid (Chg (fun _ => False) wb wr))
    case atStart => exact ⟨0, rfl, Nat.zero_le _, rfl, Lib.hid (Chg.refl _ _)⟩
    case round =>
      obtain ⟨j, rfl, hj, rfl, HY⟩ := hrel
      by_cases hlt : j < m
      · have hh := HR.out.chg HY.out
        have hh2 := HM.out.chg HY.out
        have hh3 := HG.out.chg HY.out
        obtain ⟨aL, rfl, -⟩ := hh.2 (by omega)
        obtain ⟨aM, rfl, -⟩ := hh2.2 (by omega)
        obtain ⟨aG, rfl, -⟩ := hh3.2 (by omega)
        have hjl : j < l.length := by have := HL.out; omega
        have hx : l[j]? = some l[j] := List.getElem?_eq_getElem hjl
        generalize l[j] = x at *
        have HKEEP2 : Hid (∀ W : World, Chg (fun _ => False) wr W → (W.cell? ⟨QK, 0, none⟩ = some (.int .i64 ki) ∧ W.cell? ⟨QK, 1, none⟩ = some (.int .u64 km) ∧ W.cell? ⟨QK, 2, none⟩ = some (.int .i64 kp) ∧ W.cell? ⟨QK, 3, none⟩ = some (.int .i64 ks) ∧ W.cell? ⟨QK, 4, none⟩ = some (.int .i64 ko) ∧ W.cell? (aL.add (j * 11)) = some (.int .i64 x.pr) ∧ W.cell? ⟨(aL.add (j * 11)).block, (aL.add (j * 11)).off + 1, none⟩ = some (.int .i64 x.ins) ∧ W.cell? ⟨(aL.add (j * 11)).block, (aL.add (j * 11)).off + 2, none⟩ = some (.int .u64 x.ma) ∧ W.cell? ⟨(aL.add (j * 11)).block, (aL.add (j * 11)).off + 3, none⟩ = some (.int .i64 x.po) ∧ W.cell? ⟨(aL.add (j * 11)).block, (aL.add (j * 11)).off + 4, none⟩ = some (.int .i64 x.fr) ∧ W.cell? ⟨(aL.add (j * 11)).block, (aL.add (j * 11)).off + 5, none⟩ = some (.int .i64 x.up) ∧ W.cell? ⟨(aL.add (j * 11)).block, (aL.add (j * 11)).off + 6, none⟩ = some (.int .i64 x.no) ∧ W.cell? ⟨(aL.add (j * 11)).block, (aL.add (j * 11)).off + 7, none⟩ = some (.int .i64 x.ak) ∧ W.cell? ⟨(aL.add (j * 11)).block, (aL.add (j * 11)).off + 8, none⟩ = some (.int .i64 x.ap) ∧ W.cell? ⟨(aL.add (j * 11)).block, (aL.add (j * 11)).off + 9, none⟩ = some (.int .i64 x.ao) ∧ W.cell? ⟨(aL.add (j * 11)).block, (aL.add (j * 11)).off + 10, none⟩ = some (.int .i64 x.ag) ∧ W.cell? (aM.add (j * 11)) = some (.int .i64 x.pr) ∧ W.cell? ⟨(aM.add (j * 11)).block, (aM.add (j * 11)).off + 1, none⟩ = some (.int .i64 x.ins) ∧ W.cell? ⟨(aM.add (j * 11)).block, (aM.add (j * 11)).off + 2, none⟩ = some (.int .u64 x.ma) ∧ W.cell? ⟨(aM.add (j * 11)).block, (aM.add (j * 11)).off + 3, none⟩ = some (.int .i64 x.po) ∧ W.cell? ⟨(aM.add (j * 11)).block, (aM.add (j * 11)).off + 4, none⟩ = some (.int .i64 x.fr) ∧ W.cell? ⟨(aM.add (j * 11)).block, (aM.add (j * 11)).off + 5, none⟩ = some (.int .i64 x.up) ∧ W.cell? ⟨(aM.add (j * 11)).block, (aM.add (j * 11)).off + 6, none⟩ = some (.int .i64 x.no) ∧ W.cell? ⟨(aM.add (j * 11)).block, (aM.add (j * 11)).off + 7, none⟩ = some (.int .i64 x.ak) ∧ W.cell? ⟨(aM.add (j * 11)).block, (aM.add (j * 11)).off + 8, none⟩ = some (.int .i64 x.ap) ∧ W.cell? ⟨(aM.add (j * 11)).block, (aM.add (j * 11)).off + 9, none⟩ = some (.int .i64 x.ao) ∧ W.cell? ⟨(aM.add (j * 11)).block, (aM.add (j * 11)).off + 10, none⟩ = some (.int .i64 x.ag) ∧ W.cell? (aG.add (j * 11)) = some (.int .i64 x.pr) ∧ W.cell? ⟨(aG.add (j * 11)).block, (aG.add (j * 11)).off + 1, none⟩ = some (.int .i64 x.ins) ∧ W.cell? ⟨(aG.add (j * 11)).block, (aG.add (j * 11)).off + 2, none⟩ = some (.int .u64 x.ma) ∧ W.cell? ⟨(aG.add (j * 11)).block, (aG.add (j * 11)).off + 3, none⟩ = some (.int .i64 x.po) ∧ W.cell? ⟨(aG.add (j * 11)).block, (aG.add (j * 11)).off + 4, none⟩ = some (.int .i64 x.fr) ∧ W.cell? ⟨(aG.add (j * 11)).block, (aG.add (j * 11)).off + 5, none⟩ = some (.int .i64 x.up) ∧ W.cell? ⟨(aG.add (j * 11)).block, (aG.add (j * 11)).off + 6, none⟩ = some (.int .i64 x.no) ∧ W.cell? ⟨(aG.add (j * 11)).block, (aG.add (j * 11)).off + 7, none⟩ = some (.int .i64 x.ak) ∧ W.cell? ⟨(aG.add (j * 11)).block, (aG.add (j * 11)).off + 8, none⟩ = some (.int .i64 x.ap) ∧ W.cell? ⟨(aG.add (j * 11)).block, (aG.add (j * 11)).off + 9, none⟩ = some (.int .i64 x.ao) ∧ W.cell? ⟨(aG.add (j * 11)).block, (aG.add (j * 11)).off + 10, none⟩ = some (.int .i64 x.ag))) := Lib.hid (fun W hw => by
          obtain ⟨u0, u1, u2, u3, u4⟩ := ky_cells13 (HK.out.chg (HY.out.trans hw (fun _ _ e => e)) id)
          obtain ⟨p0, p1, p2, p3, p4, p5, p6, p7, p8, p9, p10⟩ := (hh.chg hw).at hx
          obtain ⟨q0, q1, q2, q3, q4, q5, q6, q7, q8, q9, q10⟩ := (hh2.chg hw).at hx
          obtain ⟨r0, r1, r2, r3, r4, r5, r6, r7, r8, r9, r10⟩ := (hh3.chg hw).at hx
          exact ⟨u0, u1, u2, u3, u4, p0, p1, p2, p3, p4, p5, p6, p7, p8, p9, p10, q0, q1, q2, q3, q4, q5, q6, q7, q8, q9, q10, r0, r1, r2, r3, r4, r5, r6, r7, r8, r9, r10⟩)
        clear hx hh hh2 hh3 hjl
        have hf1 := fun W => ffits13_any x.pr x.ins x.ma x.po x.fr x.up x.no x.ak x.ap x.ao x.ag ki km kp ks ko W
        have hf2 := fun W => rfits13_any x.pr x.ins x.ma x.po x.fr x.up x.no x.ak x.ap x.ao x.ag ki km kp ks ko W
        replace hf1 : ∀ W, Calls _ _ _ W (fun e w' => e = .returned (.bool (fit13 x ⟨ki, km, kp, ks, ko⟩)) ∧ Chg (fun _ => False) W w') := hf1
        replace hf2 : ∀ W, Calls _ _ _ W (fun e w' => e = .returned (.bool (fit13 x ⟨ki, km, kp, ks, ko⟩)) ∧ Chg (fun _ => False) W w') := hf2
        unfold enC kyC at hf1 hf2
        generalize fit13 x ⟨ki, km, kp, ks, ko⟩ = bf at *
        have HF1 := Lib.hid hf1
        have HF2 := Lib.hid hf2
        clear hf1 hf2
        have hne := fun W => neRe13 W x.pr x.ins x.ma x.po x.fr x.up x.no x.ak x.ap x.ao x.ag
        have tb : (bf != bf) = false := by cases bf <;> rfl
        have HYA := Lib.hid ((Chg.refl (fun _ => False) wr).drew)
        obtain ⟨u0, u1, u2, u3, u4, p0, p1, p2, p3, p4, p5, p6, p7, p8, p9, p10, q0, q1, q2, q3, q4, q5, q6, q7, q8, q9, q10, r0, r1, r2, r3, r4, r5, r6, r7, r8, r9, r10⟩ := HKEEP2.out _ HYA.out
        go_wp2_with fail
        go_region_held3 (fun w' => w'.cell? ⟨QK, 0, none⟩ = some (.int .i64 ki) ∧ w'.cell? ⟨QK, 1, none⟩ = some (.int .u64 km) ∧ w'.cell? ⟨QK, 2, none⟩ = some (.int .i64 kp) ∧ w'.cell? ⟨QK, 3, none⟩ = some (.int .i64 ks) ∧ w'.cell? ⟨QK, 4, none⟩ = some (.int .i64 ko) ∧ w'.cell? (aL.add (j * 11)) = some (.int .i64 x.pr) ∧ w'.cell? ⟨(aL.add (j * 11)).block, (aL.add (j * 11)).off + 1, none⟩ = some (.int .i64 x.ins) ∧ w'.cell? ⟨(aL.add (j * 11)).block, (aL.add (j * 11)).off + 2, none⟩ = some (.int .u64 x.ma) ∧ w'.cell? ⟨(aL.add (j * 11)).block, (aL.add (j * 11)).off + 3, none⟩ = some (.int .i64 x.po) ∧ w'.cell? ⟨(aL.add (j * 11)).block, (aL.add (j * 11)).off + 4, none⟩ = some (.int .i64 x.fr) ∧ w'.cell? ⟨(aL.add (j * 11)).block, (aL.add (j * 11)).off + 5, none⟩ = some (.int .i64 x.up) ∧ w'.cell? ⟨(aL.add (j * 11)).block, (aL.add (j * 11)).off + 6, none⟩ = some (.int .i64 x.no) ∧ w'.cell? ⟨(aL.add (j * 11)).block, (aL.add (j * 11)).off + 7, none⟩ = some (.int .i64 x.ak) ∧ w'.cell? ⟨(aL.add (j * 11)).block, (aL.add (j * 11)).off + 8, none⟩ = some (.int .i64 x.ap) ∧ w'.cell? ⟨(aL.add (j * 11)).block, (aL.add (j * 11)).off + 9, none⟩ = some (.int .i64 x.ao) ∧ w'.cell? ⟨(aL.add (j * 11)).block, (aL.add (j * 11)).off + 10, none⟩ = some (.int .i64 x.ag) ∧ w'.cell? (aM.add (j * 11)) = some (.int .i64 x.pr) ∧ w'.cell? ⟨(aM.add (j * 11)).block, (aM.add (j * 11)).off + 1, none⟩ = some (.int .i64 x.ins) ∧ w'.cell? ⟨(aM.add (j * 11)).block, (aM.add (j * 11)).off + 2, none⟩ = some (.int .u64 x.ma) ∧ w'.cell? ⟨(aM.add (j * 11)).block, (aM.add (j * 11)).off + 3, none⟩ = some (.int .i64 x.po) ∧ w'.cell? ⟨(aM.add (j * 11)).block, (aM.add (j * 11)).off + 4, none⟩ = some (.int .i64 x.fr) ∧ w'.cell? ⟨(aM.add (j * 11)).block, (aM.add (j * 11)).off + 5, none⟩ = some (.int .i64 x.up) ∧ w'.cell? ⟨(aM.add (j * 11)).block, (aM.add (j * 11)).off + 6, none⟩ = some (.int .i64 x.no) ∧ w'.cell? ⟨(aM.add (j * 11)).block, (aM.add (j * 11)).off + 7, none⟩ = some (.int .i64 x.ak) ∧ w'.cell? ⟨(aM.add (j * 11)).block, (aM.add (j * 11)).off + 8, none⟩ = some (.int .i64 x.ap) ∧ w'.cell? ⟨(aM.add (j * 11)).block, (aM.add (j * 11)).off + 9, none⟩ = some (.int .i64 x.ao) ∧ w'.cell? ⟨(aM.add (j * 11)).block, (aM.add (j * 11)).off + 10, none⟩ = some (.int .i64 x.ag) ∧ w'.cell? (aG.add (j * 11)) = some (.int .i64 x.pr) ∧ w'.cell? ⟨(aG.add (j * 11)).block, (aG.add (j * 11)).off + 1, none⟩ = some (.int .i64 x.ins) ∧ w'.cell? ⟨(aG.add (j * 11)).block, (aG.add (j * 11)).off + 2, none⟩ = some (.int .u64 x.ma) ∧ w'.cell? ⟨(aG.add (j * 11)).block, (aG.add (j * 11)).off + 3, none⟩ = some (.int .i64 x.po) ∧ w'.cell? ⟨(aG.add (j * 11)).block, (aG.add (j * 11)).off + 4, none⟩ = some (.int .i64 x.fr) ∧ w'.cell? ⟨(aG.add (j * 11)).block, (aG.add (j * 11)).off + 5, none⟩ = some (.int .i64 x.up) ∧ w'.cell? ⟨(aG.add (j * 11)).block, (aG.add (j * 11)).off + 6, none⟩ = some (.int .i64 x.no) ∧ w'.cell? ⟨(aG.add (j * 11)).block, (aG.add (j * 11)).off + 7, none⟩ = some (.int .i64 x.ak) ∧ w'.cell? ⟨(aG.add (j * 11)).block, (aG.add (j * 11)).off + 8, none⟩ = some (.int .i64 x.ap) ∧ w'.cell? ⟨(aG.add (j * 11)).block, (aG.add (j * 11)).off + 9, none⟩ = some (.int .i64 x.ao) ∧ w'.cell? ⟨(aG.add (j * 11)).block, (aG.add (j * 11)).off + 10, none⟩ = some (.int .i64 x.ag))
          (first | with_reducible exact HKEEP2.out _ HYA.out | with_reducible exact HKEEP2.out _ HYB.out | with_reducible exact HKEEP2.out _ HYC.out | with_reducible exact HKEEP2.out _ HYD.out | fail)
          (first
            | (go_at_call 14; (with_reducible refine (HF1.out _).mono ?_); rintro e wp ⟨rfl, hc⟩; have HYB := Lib.hid (HYA.out.trans hc (fun _ _ e => e)); clear hc)
            | (go_at_call 11; (with_reducible refine (HKEY.out _).mono ?_); rintro e wq ⟨rfl, hc⟩; have HYC := Lib.hid (HYB.out.trans hc (fun _ _ e => e)); clear hc)
            | (go_at_call 15; (with_reducible refine (HF2.out _).mono ?_); rintro e wt ⟨rfl, hc⟩; have HYD := Lib.hid (HYC.out.trans hc (fun _ _ e => e)); clear hc)
            | fail)
        all_goals
          go_wp2_with fail
          go_roundg (m - (j + 1))
          case measure => omega
          case rel => exact ⟨j + 1, rfl, by omega, by go_num, Lib.hid (HY.out.trans HYD.out (fun _ _ e => e))⟩
      · have hjm : j = m := by omega
        subst hjm
        replace HK := Lib.hid (HK.out.chg HY.out id)
        replace HX := Lib.hid (HX.out.trans HY.out (fun _ _ e => e))
        obtain ⟨u0, u1, u2, u3, u4⟩ := ky_cells13 HK.out
        have hnl := fun W => flook13_nil ki km kp ks ko W
        unfold LkP13 kyC at hnl
        replace hnl : ∀ W, Calls _ _ _ W (fun e w' => e = .returned (.tuple #[.agg #[.int .i64 0, .int .i64 0, .int .i64 0, .int .i64 0], .bool false]) ∧ Chg (fun _ => False) W w') := hnl
        have HNL := Lib.hid hnl
        clear hnl
        go_wp2_with fail
        refine (HNL.out _).mono ?_
        rintro e w9 ⟨rfl, hc⟩
        have hca := hc.alloc (.cells #[.int .i64 0, .int .i64 0, .int .i64 0, .int .i64 0] 35)
        replace HX := Lib.hid (HX.out.trans hca (fun _ _ e => e))
        clear hc hca u0 u1 u2 u3 u4
        go_wp2_with fail
        refine (HAL.out _).mono ?_
        rintro e wa ⟨rfl, hc⟩
        replace HX := Lib.hid (HX.out.trans hc (fun _ _ e => e))
        clear hc
        have HEN := Lib.hid (fent13_nil wa)
        go_wp2_with fail
        refine HEN.out.mono ?_
        rintro e we ⟨rfl, rfl⟩
        go_wp2_with fail
        go_ret
        exact ⟨rfl, HX.out⟩
theorem tells13_all {w : World} {L : Option Addr} {m lc : Nat} {l : List En} (h : EnR w L m l) (hz : L = none → lc = 0) (hmc : m ≤ 9223372036854775807) (k : Ky) : Calls Try.prog 3 #[.slice L m lc, .agg (kyC k.ki k.km k.kp k.ks k.ko)] w fun e w' => e = .returned (.bool true) ∧ Chg (fun _ => False) w w' := by
  by_cases hb : 256 < m
  · exact tells13_big h hz hmc hb _ _ _ _ _
  · exact tells13_any h hz (by omega) _ _ _ _ _

end Go.Proofs.Ytkhlhebeedemjaa
