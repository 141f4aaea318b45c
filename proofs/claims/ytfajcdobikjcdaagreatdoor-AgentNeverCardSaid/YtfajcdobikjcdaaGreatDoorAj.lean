/-
  Walk: agent.note. Conditions: the agent, the load, the table of widths lie in memory.
-/
import Derived.Test.YtfajcdobikjcdaaGreatDoorAh
import Derived.Test.YtfajcdobikjcdaaGreatDoorM2
import Derived.Test.YtfajcdobikjcdaaGreatDoorMA
import Derived.Deep.RegionHeld3
set_option maxRecDepth 100000
set_option maxHeartbeats 40000000
set_option linter.unusedVariables false
set_option linter.unusedSimpArgs false
namespace Go.Proofs.YtfajcdobikjcdaaGreatDoor
open Go.Value (int)
open Go.IntKind (i64)
open Go.RowKit
def noteL16 (life now : Int) (fl : List Rc) (kd t : Int) (b : List UInt8) : List Rc :=
 if kd = 0 then fl else if t = 2048 then (if parC b = 0 then noL life now fl (pN b 9 1) (pN b 12 4) (pN b 16 4) (pN b 20 2) (pN b 22 2) else fl) else fl
def note16 (x : AV) (kd t : Int) (b : List UInt8) (now : Int) : AV := { x with fl:=noteL16 x.life now x.fl kd t b }
theorem pN_four (b : List UInt8) (i : Nat) : 0 ≤ pN b i 4 ∧ pN b i 4 ≤ 4294967295:=by
 unfold pN
 split
 ·have h:=num_take_lt (b.drop i) (min 4 (b.drop i).length) (Nat.min_le_right _ _)
  rw [← List.take_eq_take_min] at h
  have h2 : 256 ^ (min 4 (b.drop i).length) ≤ 256 ^ 4:=Nat.pow_le_pow_right (by decide) (Nat.min_le_left _ _)
  unfold nAt
  omega
 ·omega
theorem noL_rn {life t : Int} {l : List Rc} {p s d sp dp : Int} (h : ∀ x ∈ l,RcN x) (hs : 0 ≤ s ∧ s ≤ 4294967295) (hd : 0 ≤ d ∧ d ≤ 4294967295) : ∀ x ∈ noL life t l p s d sp dp,RcN x:=by
 unfold noL
 split
 ·exact pu12_rn (fun x hx=>h x (ex12_mem hx)) ⟨hs,hd⟩
 ·exact h
theorem AOk.note {j : Nat} {x : AV} (h : AOk j x) (kd t : Int) (b : List UInt8) (now : Int) : AOk j (note16 x kd t b now):=by
 have h1 : (noteL16 x.life now x.fl kd t b).length ≤ 16 ∧ ∀ r ∈ noteL16 x.life now x.fl kd t b,RcN r:=by
  unfold noteL16
  split
  ·exact ⟨h.fl,h.rn⟩
  ·split
   ·split
    ·exact ⟨noL_len h.fl,noL_rn h.rn (pN_four b 12) (pN_four b 16)⟩
    ·exact ⟨h.fl,h.rn⟩
   ·exact ⟨h.fl,h.rn⟩
 exact ⟨h.c0,h.s,h.lf,h1.1,h1.2,h.rw⟩
theorem note_up (x : AV) (kd t : Int) (b : List UInt8) (now : Int) : Up16 x (note16 x kd t b now):=⟨rfl,fun _ _ => .inl rfl⟩
theorem anote_any {w : World} {a ps q m : Nat} {D : Nat → Prop} {x : AV} {n0 : Nat} (h : AM w a ps q m D x) (hok : AOk n0 x) (hg : Gw w) (d s t : Int) (A : Option Addr) (n c : Nat) (l : List UInt8) (S : Nat → Prop) (hn : n = l.length) (hr : Rds w S A n (bcs l)) (hc : n ≤ c) (hcm : c ≤ maxLen) (hb : n ≤ 100000) (kd po ge st k o f tt p g i : Int) (FA : Option Addr) (fn fc : Nat) (PA : Option Addr) (pn pc : Nat) (now : Int) : Calls Tryz.prog 33 #[.pointer (some ⟨a, 0, none⟩), .agg #[.int .u64 d, .int .u64 s, .int .i64 t, .slice A n c], .agg (ouC15 kd po ge st FA fn fc k o f tt p g i PA pn pc), .int .i64 now] w fun e w' => e = .returned (.tuple #[]) ∧ AMv a ps q m D (note16 x kd t l now) w w' := by
  have HM := Lib.hid h
  have HOK := Lib.hid hok
  have HX : Hid (Chg (fun _ => False) w (((w.alloc (.cells #[.int .u64 d, .int .u64 s, .int .i64 t, .slice A n c] 34)).alloc (.cells #[.int .i64 kd, .int .i64 po, .int .i64 ge, .int .i64 st, .slice FA fn fc, .int .i64 k, .int .i64 o, .int .i64 f, .int .i64 tt, .int .i64 p, .int .i64 g, .int .i64 i, .slice PA pn pc] 44)))) := Lib.hid (((Chg.refl (fun _ => False) w).alloc _).alloc _)
  have HB : Hid (Blk ((w.alloc (.cells #[.int .u64 d, .int .u64 s, .int .i64 t, .slice A n c] 34)).alloc (.cells #[.int .i64 kd, .int .i64 po, .int .i64 ge, .int .i64 st, .slice FA fn fc, .int .i64 k, .int .i64 o, .int .i64 f, .int .i64 tt, .int .i64 p, .int .i64 g, .int .i64 i, .slice PA pn pc] 44)) w.heap.size 34 #[.int .u64 d, .int .u64 s, .int .i64 t, .slice A n c]) := Lib.hid ((blk_new rfl).alloc _)
  have HO : Hid (Blk ((w.alloc (.cells #[.int .u64 d, .int .u64 s, .int .i64 t, .slice A n c] 34)).alloc (.cells #[.int .i64 kd, .int .i64 po, .int .i64 ge, .int .i64 st, .slice FA fn fc, .int .i64 k, .int .i64 o, .int .i64 f, .int .i64 tt, .int .i64 p, .int .i64 g, .int .i64 i, .slice PA pn pc] 44)) (w.heap.size + 1) 44 (ouC15 kd po ge st FA fn fc k o f tt p g i PA pn pc)) := Lib.hid (blk_new (by simp))
  have HPA := Lib.hid (fun W (hW : Chg (fun _ => False) w W) => iparse_any A n c l S W (hg.chg hW id) hn (hr.old.chg hW (fun _ _ => id) |>.mono (S' := S) (fun k hk => hk.1)) hc hcm hb)
  have HNT := Lib.hid (show note16 x kd t l now = { x with fl := noteL16 x.life now x.fl kd t l } from rfl)
  have HNL := Lib.hid (show noteL16 x.life now x.fl kd t l = if kd = 0 then x.fl else if t = 2048 then (if parC l = 0 then noL x.life now x.fl (pN l 9 1) (pN l 12 4) (pN l 16 4) (pN l 20 2) (pN l 22 2) else x.fl) else x.fl from rfl)
  unfold Parsed at HPA
  generalize noteL16 x.life now x.fl kd t l = nl at *
  generalize note16 x kd t l now = xn at *
  generalize parC l = pc0 at *
  generalize pN l 9 1 = f1 at *
  generalize pN l 12 4 = f2 at *
  generalize pN l 16 4 = f3 at *
  generalize pN l 20 2 = f4 at *
  generalize pN l 22 2 = f5 at *
  replace HM := Lib.hid (HM.out.new HX.out)
  clear h hok hg hn hr hc hcm hb
  unfold ouC15
  go_enter Tryz.func33, Tryz.ntmps33
  go_upto_region 1 with fail
  generalize (w.alloc (.cells #[.int .u64 d, .int .u64 s, .int .i64 t, .slice A n c] 34)).alloc (.cells #[.int .i64 kd, .int .i64 po, .int .i64 ge, .int .i64 st, .slice FA fn fc, .int .i64 k, .int .i64 o, .int .i64 f, .int .i64 tt, .int .i64 p, .int .i64 g, .int .i64 i, .slice PA pn pc] 44) = w2 at *
  generalize w.heap.size + 1 = QO at *
  generalize w.heap.size = QF at HB ⊢
  have y0 := HB.out.cell 0
  have y1 := HB.out.cell 1
  have y2 := HB.out.cell 2
  have y3 := HB.out.cell 3
  simp only [List.getElem?_toArray, List.getElem?_cons_zero, List.getElem?_cons_succ] at y0 y1 y2 y3
  obtain ⟨x0, x1, x2, x3, x4, x5, x6, x7, x8, x9, x10, x11, x12⟩ := ou_cells15 HO.out
  by_cases hk0 : kd = 0
  case pos =>
    have tk : (kd == 0) = true := by simpa using hk0
    have HE := Lib.hid (show xn = x from by rw [HNT.out, HNL.out, if_pos hk0])
    clear hk0
    go_wp2_with fail
    exact bodyPost_ret (results_none rfl _ _ _) rfl ⟨rfl, by rw [HE.out]; exact ⟨D, HM.out, Mv16.of HX.out⟩⟩
  case neg =>
  have tk : (kd == 0) = false := by simpa using hk0
  have HK0 := Lib.hid hk0
  clear hk0
  by_cases ht : t = 2048
  case neg =>
    have t2 : (t != 2048) = true := by simpa using ht
    have HE := Lib.hid (show xn = x from by rw [HNT.out, HNL.out, if_neg HK0.out, if_neg ht])
    clear ht
    go_wp2_with fail
    exact bodyPost_ret (results_none rfl _ _ _) rfl ⟨rfl, by rw [HE.out]; exact ⟨D, HM.out, Mv16.of HX.out⟩⟩
  case pos =>
  subst ht
  replace HNL := Lib.hid (show nl = if pc0 = 0 then noL x.life now x.fl f1 f2 f3 f4 f5 else x.fl from by rw [HNL.out, if_neg HK0.out, if_pos rfl])
  go_wp2_with fail
  refine (HPA.out _ HX.out).mono ?_
  rintro e w3 ⟨E, ek, ec, rfl, -, -, hc⟩
  replace HX := Lib.hid (HX.out.trans hc (fun _ _ e => e))
  replace HM := Lib.hid (HM.out.new hc)
  clear hc HPA y0 y1 y2 y3 x0 x1 x2 x3 x4 x5 x6 x7 x8 x9 x10 x11 x12
  unfold flC
  go_upto_region 3 with fail
  have HBF : Hid (Blk (w3.alloc (.cells #[.int .i64 f1, .int .u32 f2, .int .u32 f3, .int .i64 f4, .int .i64 f5] 129)) w3.heap.size 129 #[.int .i64 f1, .int .u32 f2, .int .u32 f3, .int .i64 f4, .int .i64 f5]) := Lib.hid (blk_new rfl)
  have hc := (Chg.refl (fun _ => False) w3).alloc (.cells #[.int .i64 f1, .int .u32 f2, .int .u32 f3, .int .i64 f4, .int .i64 f5] 129)
  replace HX := Lib.hid (HX.out.trans hc (fun _ _ e => e))
  replace HM := Lib.hid (HM.out.new hc)
  clear hc
  generalize w3.alloc (.cells #[.int .i64 f1, .int .u32 f2, .int .u32 f3, .int .i64 f4, .int .i64 f5] 129) = w4 at *
  generalize w3.heap.size = QL at *
  by_cases hp : pc0 = 0
  case neg =>
    have tp : (pc0 == 0) = false := by simpa using hp
    have HE := Lib.hid (show xn = x from by rw [HNT.out, HNL.out, if_neg hp])
    clear hp
    go_wp2_with fail
    exact bodyPost_end (results_none rfl _ _ _) rfl ⟨rfl, by rw [HE.out]; exact ⟨D, HM.out, Mv16.of HX.out⟩⟩
  case pos =>
  subst hp
  replace HNL := Lib.hid (show nl = noL x.life now x.fl f1 f2 f3 f4 f5 from by rw [HNL.out, if_pos rfl])
  obtain ⟨o2, oq, hDD, hP⟩ := HM.out
  have HP := Lib.hid hP
  have HDD := Lib.hid hDD
  have hnt := fun W (hW : Chg (fun _ => False) w4 W) => tnote_any (HP.out.new hW).tn HOK.out.fl ⟨by have := HOK.out.lf; omega, by have := HOK.out.lf; omega⟩ f1 f2 f3 f4 f5 now
  unfold flC at hnt
  have HTN := Lib.hid hnt
  clear hP hDD hnt
  have HKEEP : Hid (∀ W : World, Chg (fun _ => False) w4 W → (W.cell? ⟨QL, 0, none⟩ = some (.int .i64 f1) ∧ W.cell? ⟨QL, 1, none⟩ = some (.int .u32 f2) ∧ W.cell? ⟨QL, 2, none⟩ = some (.int .u32 f3) ∧ W.cell? ⟨QL, 3, none⟩ = some (.int .i64 f4) ∧ W.cell? ⟨QL, 4, none⟩ = some (.int .i64 f5) ∧ W.cell? ⟨a, 322, none⟩ = some (.pointer (some ⟨q, 0, none⟩)))) := Lib.hid (fun W hW => by
    have z0 := (HBF.out.chg hW id).cell 0
    have z1 := (HBF.out.chg hW id).cell 1
    have z2 := (HBF.out.chg hW id).cell 2
    have z3 := (HBF.out.chg hW id).cell 3
    have z4 := (HBF.out.chg hW id).cell 4
    simp only [List.getElem?_toArray, List.getElem?_cons_zero, List.getElem?_cons_succ] at z0 z1 z2 z3 z4
    exact ⟨z0, z1, z2, z3, z4, (HM.out.new hW).ab.c322⟩)
  have HXA := Lib.hid (Chg.refl (fun _ => False) w4).drew
  go_wp2_with fail
  obtain ⟨z0, z1, z2, z3, z4, c322⟩ := HKEEP.out _ HXA.out
  go_region_held3 (fun w' => (w'.cell? ⟨QL, 0, none⟩ = some (.int .i64 f1) ∧ w'.cell? ⟨QL, 1, none⟩ = some (.int .u32 f2) ∧ w'.cell? ⟨QL, 2, none⟩ = some (.int .u32 f3) ∧ w'.cell? ⟨QL, 3, none⟩ = some (.int .i64 f4) ∧ w'.cell? ⟨QL, 4, none⟩ = some (.int .i64 f5) ∧ w'.cell? ⟨a, 322, none⟩ = some (.pointer (some ⟨q, 0, none⟩))))
    (first | with_reducible exact HKEEP.out _ HXA.out | with_reducible exact HSD.out | fail)
    (first
      | (go_at_call 68; (with_reducible refine (HTN.out _ HXA.out).mono ?_); rintro e wf ⟨rfl, oq', ht, hmv⟩; have hfl := (HP.out.new HXA.out).flows ht hmv; have HFL := Lib.hid hfl; have HSD : Hid ((wf.cell? ⟨QL, 0, none⟩ = some (.int .i64 f1) ∧ wf.cell? ⟨QL, 1, none⟩ = some (.int .u32 f2) ∧ wf.cell? ⟨QL, 2, none⟩ = some (.int .u32 f3) ∧ wf.cell? ⟨QL, 3, none⟩ = some (.int .i64 f4) ∧ wf.cell? ⟨QL, 4, none⟩ = some (.int .i64 f5) ∧ wf.cell? ⟨a, 322, none⟩ = some (.pointer (some ⟨q, 0, none⟩)))) := Lib.hid (by
          have hb5 := HBF.out.chg ((HXA.out.mono (fun _ _ e => e.elim)).trans hfl.2.1 (fun _ _ e => e)) (HP.out.apart HBF.out (by decide) (by decide) (by decide) (by decide) (by decide))
          have z0 := hb5.cell 0
          have z1 := hb5.cell 1
          have z2 := hb5.cell 2
          have z3 := hb5.cell 3
          have z4 := hb5.cell 4
          simp only [List.getElem?_toArray, List.getElem?_cons_zero, List.getElem?_cons_succ] at z0 z1 z2 z3 z4
          exact ⟨z0, z1, z2, z3, z4, hfl.1.ab.c322⟩); clear ht hmv hfl)
      | fail)
  all_goals
    go_wp2_with fail
    exact bodyPost_end (results_none rfl _ _ _) rfl ⟨rfl, by rw [HNT.out, HNL.out]; exact ⟨_, ⟨o2, oq', rfl, HFL.out.1⟩, (Mv16.of (HX.out.trans HXA.out (fun _ _ e => e))).trans (show Mv16 D _ _ _ from by rw [HDD.out]; exact ⟨HFL.out.2.1, HFL.out.2.2⟩)⟩⟩
end Go.Proofs.YtfajcdobikjcdaaGreatDoor
