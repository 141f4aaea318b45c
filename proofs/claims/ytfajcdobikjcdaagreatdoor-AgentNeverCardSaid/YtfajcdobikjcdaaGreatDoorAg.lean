/-
  Walk: agent.hear. Conditions: the agent, and the bytes, lie in memory.
-/
import Derived.Test.YtfajcdobikjcdaaGreatDoorAf
import Derived.Test.YtfajcdobikjcdaaGreatDoorM5
set_option maxRecDepth 100000
set_option maxHeartbeats 40000000
set_option linter.unusedVariables false
set_option linter.unusedSimpArgs false
namespace Go.Proofs.YtfajcdobikjcdaaGreatDoor
open Go.Value (int)
open Go.IntKind (i64)
open Go.RowKit
def mvR (m : MV) : RV:=⟨m.po,m.ma,m.ow,m.ta,m.ol,m.ge,m.ph,m.ve,m.si⟩
def hearM16 (x : AV) (m : MV) (now : Int) : AV :=
 if m.kd = 1 then (if (x.R m.po.toNat).ve < m.ve then { x with R:=at16 x.R m.po.toNat (mvR m) } else x)
 else if m.kd = 3 then (if 0 < (x.R m.pt.toNat).ve ∧ (x.R m.pt.toNat).ow = x.c then { x with fl:=imL now x.fl m.l } else x)
 else x
def hear16 (x : AV) (b : List UInt8) (now : Int) : AV:=if cX b = 0 then hearM16 x (cM b) now else x
theorem cX_ok {b : List UInt8} (h : cX b = 0) : cOK b = true:=by
 cases hb : cOK b with
 | true=>rfl
 | false=>rw [cX_no hb] at h; omega
theorem cM_is {b : List UInt8} (h : cX b = 0) : (cM b).ok = true ∧ (cM b).nm ∧ ((cM b).kd = 1 ∨ (cM b).kd = 2 ∨ (cM b).kd = 3):=by
 have ho:=cX_ok h
 rw [cM_yes ho]
 refine ⟨cV_ok ho,cV_num b, ?_⟩
 rcases cOK_cases ho with e | e | e
 ·rw [cV_1 e]; exact .inl rfl
 ·rw [cV_2 e]; exact .inr (.inl rfl)
 ·rw [cV_3 e]; exact .inr (.inr rfl)
theorem mok_row {m : MV} (h : m.ok = true) (h1 : m.kd = 1) : (mvR m).ok = true:=by
 unfold MV.ok msR at h
 rw [if_pos h1,Bool.and_eq_true] at h
 exact h.1
theorem mok_three {m : MV} (h : m.ok = true) (h1 : m.kd = 3) : (0 ≤ m.pt ∧ m.pt ≤ 31) ∧ m.l.length ≤ 16:=by
 unfold MV.ok msR at h
 rw [if_neg (by omega),if_neg (by omega),if_pos h1,Bool.and_eq_true,Bool.and_eq_true] at h
 have h2:=h.2.2
 unfold keptB at h2
 rw [Bool.and_eq_true] at h2
 exact ⟨(named_parts h.2.1).1,by simpa using h2.1⟩
theorem pu12_rn {l : List Rc} {r : Rc} (h : ∀ x ∈ l,RcN x) (hr : RcN r) : ∀ x ∈ pu12 l r,RcN x:=by
 have hu : ∀ l : List Rc,(∀ x ∈ l,RcN x) → ∀ x ∈ up12 r l,RcN x:=by
  intro l
  induction l with
  | nil=>intro h x hx; simp [up12] at hx
  | cons y l ih =>
   intro h x hx
   unfold up12 at hx
   split at hx
   ·rcases List.mem_cons.1 hx with rfl | hx
    ·exact h y (by simp)
    ·exact h x (by simp [hx])
   ·rcases List.mem_cons.1 hx with rfl | hx
    ·exact h x (by simp)
    ·exact ih (fun z hz=>h z (by simp [hz])) x hx
 unfold pu12
 split
 ·exact hu l h
 ·split
  ·exact h
  ·intro x hx
   rcases List.mem_append.1 hx with hx | hx
   ·exact h x hx
   ·rw [List.mem_singleton.1 hx]; exact hr
theorem imF_rn {t : Int} {l rs : List Rc} (h : ∀ x ∈ l,RcN x) (hr : ∀ x ∈ rs,RcN x) : ∀ x ∈ (imF t l rs).1,RcN x:=by
 unfold imF
 have hg : ∀ (rs : List Rc) (st : List Rc × Nat),(∀ x ∈ st.1,RcN x) → (∀ x ∈ rs,RcN x) → ∀ x ∈ (rs.foldl (imS t) st).1,RcN x:=by
  intro rs
  induction rs with
  | nil=>intro st h _; exact h
  | cons r rs ih =>
   intro st h hr
   refine ih _ ?_ (fun x hx=>hr x (by simp [hx]))
   unfold imS
   split
   ·exact pu12_rn h (hr r (by simp))
   ·exact h
 exact hg rs (l,0) h hr
theorem imL_rn {t : Int} {l rs : List Rc} (h : ∀ x ∈ l,RcN x) (hr : ∀ x ∈ rs,RcN x) : ∀ x ∈ imL t l rs,RcN x:=by
 unfold imL
 split
 ·exact imF_rn (fun x hx=>h x (ex12_mem hx)) hr
 ·exact h
theorem AOk.hearM {j : Nat} {x : AV} (h : AOk j x) {m : MV} (hm : m.ok = true) (hn : m.nm) (now : Int) : AOk j (hearM16 x m now):=by
 unfold hearM16
 split
 case isTrue h1 =>
  split
  ·have hr:=mok_row hm h1
   have hb:=(ok_bounds hr).1
   refine ⟨h.c0,h.s,h.lf,h.fl,h.rn,fun i hi => ?_⟩
   by_cases e : i = m.po.toNat
   ·subst e
    right
    show (at16 x.R _ (mvR m) _).ok = true ∧ (at16 x.R _ (mvR m) _).po = _
    rw [at16_self]
    refine ⟨hr, ?_⟩
    show m.po = ((m.po.toNat : Nat) : Int)
    have : 0 ≤ m.po:=hb.1
    omega
   ·have:=h.rw i hi
    show at16 x.R _ (mvR m) i = z9 ∨ (at16 x.R _ (mvR m) i).ok = true ∧ (at16 x.R _ (mvR m) i).po = _
    rw [at16_ne _ _ e]
    exact this
  ·exact h
 case isFalse =>
  split
  case isTrue h3 =>
   split
   ·exact ⟨h.c0,h.s,h.lf,imL_len h.fl,imL_rn h.rn hn.2,h.rw⟩
   ·exact h
  case isFalse=>exact h
theorem AOk.hear {j : Nat} {x : AV} (h : AOk j x) (b : List UInt8) (now : Int) : AOk j (hear16 x b now):=by
 unfold hear16
 split
 case isTrue e=>exact h.hearM (cM_is e).1 (cM_is e).2.1 now
 case isFalse=>exact h
theorem hear_up (x : AV) (b : List UInt8) (now : Int) : Up16 x (hear16 x b now):=by
 unfold hear16 hearM16
 split
 ·split
  ·split
   ·rename_i hv
    refine ⟨rfl,fun i hi => ?_⟩
    by_cases e : i = (cM b).po.toNat
    ·subst e
     right
     show _ < (at16 x.R _ (mvR _) _).ve
     rw [at16_self]
     exact hv
    ·left
     show _ = at16 x.R _ (mvR _) i
     rw [at16_ne _ _ e]
   ·exact Up16.refl x
  ·split
   ·split
    ·exact ⟨rfl,fun _ _ => .inl rfl⟩
    ·exact Up16.refl x
   ·exact Up16.refl x
 ·exact Up16.refl x
theorem ahear_any {w : World} {a ps q m : Nat} {D : Nat → Prop} {x : AV} {n0 : Nat} (h : AM w a ps q m D x) (hok : AOk n0 x) (A : Option Addr) (n c : Nat) (b : List UInt8) (S : Nat → Prop) (hn : n = b.length) (hr : Rds w S A n (bcs b)) (hz : A = none → c = 0) (hn2 : n ≤ 9223372036854775807) (now : Int) : Calls Tryz.prog 28 #[.pointer (some ⟨a, 0, none⟩), .slice A n c, .int .i64 now] w fun e w' => e = .returned (.tuple #[]) ∧ AMv a ps q m D (hear16 x b now) w w' := by
  have HM := Lib.hid h
  have HOK := Lib.hid hok
  have HD := Lib.hid (cdec_any A n c b S w hn hr hz hn2)
  have HZH := Lib.hid (show hear16 x b now = if cX b = 0 then hearM16 x (cM b) now else x from rfl)
  have HIS := Lib.hid (fun e => cM_is (b := b) e)
  unfold Dec6 at HD
  have hlen := cM_len b
  generalize hmm : cM b = mm at *
  generalize hxx : cX b = xx at *
  obtain ⟨kd, po, ma, ow, ta, ol, ge, ph, ve, si, pt, vr, l⟩ := mm
  clear h hok hr hz hn hn2 hmm hxx
  have HLEN := Lib.hid (show l.length ≤ 16 from hlen)
  clear hlen
  go_enter Tryz.func28, Tryz.ntmps28
  go_wp2_with fail
  refine HD.out.mono ?_
  rintro e w1 ⟨E, d, rfl, hrc, hc⟩
  simp only at hrc
  replace hrc : RcR w1 (fun k => w.heap.size ≤ k) E l.length l := hrc
  generalize hk : l.length = k at *
  have HK := Lib.hid hk
  have HLT := Lib.hid HM.out.lt
  have HX := Lib.hid (Mv16.of (D := D) hc)
  replace HM := Lib.hid (HM.out.new hc)
  have HSZ := Lib.hid hc.size
  have HRC := Lib.hid hrc
  clear hc hrc HD hk
  unfold msC
  go_upto_region 1 with fail
  have HB : Hid (Blk (w1.alloc (.cells #[.int .i64 kd, .int .i64 po, .int .u64 ma, .int .i64 ow, .int .i64 ta, .int .i64 ol, .int .i64 ge, .int .i64 ph, .int .i64 ve, .int .i64 si, .int .i64 pt, .int .i64 vr, .slice E k d] 71)) w1.heap.size 71 (msC kd po ma ow ta ol ge ph ve si pt vr E k d)) := Lib.hid (blk_new rfl)
  have hc := (Chg.refl (fun _ => False) w1).alloc (.cells #[.int .i64 kd, .int .i64 po, .int .u64 ma, .int .i64 ow, .int .i64 ta, .int .i64 ol, .int .i64 ge, .int .i64 ph, .int .i64 ve, .int .i64 si, .int .i64 pt, .int .i64 vr, .slice E k d] 71)
  replace HM := Lib.hid (HM.out.new hc)
  replace HX := Lib.hid (HX.out.trans (Mv16.of hc))
  replace HRC := Lib.hid (HRC.out.chg hc (fun _ _ => id))
  have HQB : Hid (∀ k, D k → ¬ k = w1.heap.size) := Lib.hid (fun k e h => by have := HLT.out k e; have := HSZ.out; omega)
  clear hc
  generalize w1.alloc (.cells #[.int .i64 kd, .int .i64 po, .int .u64 ma, .int .i64 ow, .int .i64 ta, .int .i64 ol, .int .i64 ge, .int .i64 ph, .int .i64 ve, .int .i64 si, .int .i64 pt, .int .i64 vr, .slice E k d] 71) = w2 at *
  generalize w1.heap.size = Q at *
  obtain ⟨y0, y1, y2, y3, y4, y5, y6, y7, y8, y9, y10, y11, y12⟩ := ms_cells HB.out
  by_cases hx : xx = 0
  case neg =>
    have tx : (xx != 0) = true := by simpa using hx
    have HE := Lib.hid (show hear16 x b now = x from by rw [HZH.out, if_neg hx])
    clear hx
    go_wp2_with fail
    exact bodyPost_ret (results_none rfl _ _ _) rfl ⟨rfl, by rw [HE.out]; exact ⟨D, HM.out, HX.out⟩⟩
  case pos =>
    subst hx
    obtain ⟨hmo, hmn, hkd⟩ := HIS.out rfl
    have HE := Lib.hid (show hear16 x b now = hearM16 x ⟨kd, po, ma, ow, ta, ol, ge, ph, ve, si, pt, vr, l⟩ now from by rw [HZH.out]; rfl)
    have HRO := Lib.hid (fun e => mok_row hmo e)
    have HTH := Lib.hid (fun e => mok_three hmo e)
    replace hkd : kd = 1 ∨ kd = 2 ∨ kd = 3 := hkd
    clear hmo hmn HIS HZH
    rcases hkd with rfl | rfl | rfl
    · have hbd := (ok_bounds (show rwR po ma ow ta ol ge ph ve si = true from HRO.out rfl)).1
      obtain ⟨i, rfl⟩ := Int.eq_ofNat_of_zero_le hbd.1
      have hi : i < 32 := by omega
      have hrow := HM.out.ab.row hi
      obtain ⟨rpo, rma, row_, rta, rol, rge, rph, rve, rsi, hv⟩ := rv_let16 (x.R i)
      rw [hv] at hrow
      have HV := Lib.hid hv
      obtain ⟨d0, d1, d2, d3, d4, d5, d6, d7, d8⟩ := hrow
      clear hv hbd
      by_cases hlt : rve < ve
      · have HLV := Lib.hid hlt
        have HW := Lib.hid (show hearM16 x ⟨1, (i : Int), ma, ow, ta, ol, ge, ph, ve, si, pt, vr, l⟩ now = { x with R := at16 x.R i ⟨(i : Int), ma, ow, ta, ol, ge, ph, ve, si⟩ } from by
          unfold hearM16
          rw [if_pos rfl]
          simp only [Int.toNat_natCast]
          rw [if_pos (by rw [HV.out]; exact hlt)]
          rfl)
        go_wp2_with fail
        go_region
        clear d0 d1 d2 d3 d4 d5 d6 d7 d8 y0 y1 y2 y3 y4 y5 y6 y7 y8 y9 y10 y11 y12
        have hc := (Chg.refl (fun _ => False) w2).drew
        replace HM := Lib.hid (HM.out.new hc)
        replace HX := Lib.hid (HX.out.trans (Mv16.of hc))
        replace HB := Lib.hid (HB.out.chg hc id)
        clear hc
        generalize w2.drew = w3 at *
        obtain ⟨y0, y1, y2, y3, y4, y5, y6, y7, y8, y9, y10, y11, y12⟩ := ms_cells HB.out
        have hrow := HM.out.ab.row hi
        rw [HV.out] at hrow
        obtain ⟨d0, d1, d2, d3, d4, d5, d6, d7, d8⟩ := hrow
        have f0 := HM.out.ab.free (2 + i * 9)
        have f1 := HM.out.ab.free (2 + i * 9 + 1)
        have f2 := HM.out.ab.free (2 + i * 9 + 2)
        have f3 := HM.out.ab.free (2 + i * 9 + 3)
        have f4 := HM.out.ab.free (2 + i * 9 + 4)
        have f5 := HM.out.ab.free (2 + i * 9 + 5)
        have f6 := HM.out.ab.free (2 + i * 9 + 6)
        have f7 := HM.out.ab.free (2 + i * 9 + 7)
        have f8 := HM.out.ab.free (2 + i * 9 + 8)
        have hset := HM.out.ab.setR hi ⟨(i : Int), ma, ow, ta, ol, ge, ph, ve, si⟩
        have hcs := chg_setCells16 (q := a) (RV.cs ⟨(i : Int), ma, ow, ta, ol, ge, ph, ve, si⟩).toList (2 + i * 9) w3
        replace hset : AB (((((((((w3.setCell ⟨a, 2 + i * 9, none⟩ (.int .i64 ((i : Int)))).setCell ⟨a, 2 + i * 9 + 1, none⟩ (.int .u64 ma)).setCell ⟨a, 2 + i * 9 + 2, none⟩ (.int .i64 ow)).setCell ⟨a, 2 + i * 9 + 3, none⟩ (.int .i64 ta)).setCell ⟨a, 2 + i * 9 + 4, none⟩ (.int .i64 ol)).setCell ⟨a, 2 + i * 9 + 5, none⟩ (.int .i64 ge)).setCell ⟨a, 2 + i * 9 + 6, none⟩ (.int .i64 ph)).setCell ⟨a, 2 + i * 9 + 7, none⟩ (.int .i64 ve)).setCell ⟨a, 2 + i * 9 + 8, none⟩ (.int .i64 si)) a ps x.c (at16 x.R i ⟨(i : Int), ma, ow, ta, ol, ge, ph, ve, si⟩) x.V q m := hset
        replace hcs : Chg (fun k => k = a) w3 (((((((((w3.setCell ⟨a, 2 + i * 9, none⟩ (.int .i64 ((i : Int)))).setCell ⟨a, 2 + i * 9 + 1, none⟩ (.int .u64 ma)).setCell ⟨a, 2 + i * 9 + 2, none⟩ (.int .i64 ow)).setCell ⟨a, 2 + i * 9 + 3, none⟩ (.int .i64 ta)).setCell ⟨a, 2 + i * 9 + 4, none⟩ (.int .i64 ol)).setCell ⟨a, 2 + i * 9 + 5, none⟩ (.int .i64 ge)).setCell ⟨a, 2 + i * 9 + 6, none⟩ (.int .i64 ph)).setCell ⟨a, 2 + i * 9 + 7, none⟩ (.int .i64 ve)).setCell ⟨a, 2 + i * 9 + 8, none⟩ (.int .i64 si)) := hcs
        have HM2 := Lib.hid (HM.out.own hcs (y := { x with R := at16 x.R i ⟨(i : Int), ma, ow, ta, ol, ge, ph, ve, si⟩ }) hset rfl rfl rfl rfl)
        clear hset hcs
        go_wp2_with fail
        go_region
        go_wp2_with fail
        exact bodyPost_end (results_none rfl _ _ _) rfl ⟨rfl, by rw [HE.out, HW.out]; exact ⟨D, HM2.out.1.new (Chg.refl (fun _ => False) _).drew, (HX.out.trans HM2.out.2).trans (Mv16.of (Chg.refl (fun _ => False) _).drew)⟩⟩
      · have HW := Lib.hid (show hearM16 x ⟨1, (i : Int), ma, ow, ta, ol, ge, ph, ve, si, pt, vr, l⟩ now = x from by
          unfold hearM16
          rw [if_pos rfl]
          simp only [Int.toNat_natCast]
          rw [if_neg (by rw [HV.out]; exact hlt)])
        go_wp2_with fail
        go_region
        go_wp2_with fail
        exact bodyPost_end (results_none rfl _ _ _) rfl ⟨rfl, by rw [HE.out, HW.out]; exact ⟨D, HM.out.new (Chg.refl (fun _ => False) _).drew, HX.out.trans (Mv16.of (Chg.refl (fun _ => False) _).drew)⟩⟩
    · have HW := Lib.hid (show hearM16 x ⟨2, po, ma, ow, ta, ol, ge, ph, ve, si, pt, vr, l⟩ now = x from rfl)
      go_wp2_with fail
      exact bodyPost_end (results_none rfl _ _ _) rfl ⟨rfl, by rw [HE.out, HW.out]; exact ⟨D, HM.out, HX.out⟩⟩
    · have hbd := (HTH.out rfl).1
      simp only at hbd
      obtain ⟨i, rfl⟩ := Int.eq_ofNat_of_zero_le hbd.1
      have hi : i < 32 := by omega
      have hro := arow_any HM.out (i : Int) i rfl hi
      obtain ⟨rpo, rma, row_, rta, rol, rge, rph, rve, rsi, hv⟩ := rv_let16 (x.R i)
      rw [hv] at hro
      have HV := Lib.hid hv
      replace hro : Calls _ _ _ _ (HB9 rpo rma row_ rta rol rge rph rve rsi (decide (0 < rve)) w2) := hro
      have HRW := Lib.hid hro
      clear hv hbd hro
      go_wp2_with fail
      refine HRW.out.mono ?_
      rintro e w3 ⟨rfl, hc⟩
      replace HM := Lib.hid (HM.out.new hc)
      replace HX := Lib.hid (HX.out.trans (Mv16.of hc))
      replace HB := Lib.hid (HB.out.chg hc id)
      replace HRC := Lib.hid (HRC.out.chg hc (fun _ _ => id))
      clear hc HRW y0 y1 y2 y3 y4 y5 y6 y7 y8 y9 y10 y11 y12
      go_upto_region 8 with fail
      have HBR : Hid (Blk (w3.alloc (.cells #[.int .i64 rpo, .int .u64 rma, .int .i64 row_, .int .i64 rta, .int .i64 rol, .int .i64 rge, .int .i64 rph, .int .i64 rve, .int .i64 rsi] 63)) w3.heap.size 63 (rvC rpo rma row_ rta rol rge rph rve rsi)) := Lib.hid (blk_new rfl)
      have hc := (Chg.refl (fun _ => False) w3).alloc (.cells #[.int .i64 rpo, .int .u64 rma, .int .i64 row_, .int .i64 rta, .int .i64 rol, .int .i64 rge, .int .i64 rph, .int .i64 rve, .int .i64 rsi] 63)
      replace HM := Lib.hid (HM.out.new hc)
      replace HX := Lib.hid (HX.out.trans (Mv16.of hc))
      replace HB := Lib.hid (HB.out.chg hc id)
      replace HRC := Lib.hid (HRC.out.chg hc (fun _ _ => id))
      clear hc
      generalize w3.alloc (.cells #[.int .i64 rpo, .int .u64 rma, .int .i64 row_, .int .i64 rta, .int .i64 rol, .int .i64 rge, .int .i64 rph, .int .i64 rve, .int .i64 rsi] 63) = w4 at *
      generalize w3.heap.size = QR at HBR ⊢
      obtain ⟨z0, z1, z2, z3, z4, z5, z6, z7, z8⟩ := rv_cells HBR.out
      have c1 := HM.out.ab.c1
      by_cases hve : 0 < rve
      · have tve : decide (0 < rve) = true := by simpa using hve
        by_cases how : row_ = x.c
        · have tow : (row_ == x.c) = true := by simpa using how
          have HW := Lib.hid (show hearM16 x ⟨3, po, ma, ow, ta, ol, ge, ph, ve, si, (i : Int), vr, l⟩ now = { x with fl := imL now x.fl l } from by
            unfold hearM16
            rw [if_neg (show ¬ (3 : Int) = 1 by omega), if_pos rfl]
            simp only [Int.toNat_natCast]
            rw [if_pos (by rw [HV.out]; exact ⟨hve, how⟩)])
          clear hve how
          go_quiet (fail)
          clear z0 z1 z2 z3 z4 z5 z6 z7 z8 c1
          have hc := (Chg.refl (fun _ => False) w4).drewN nq
          replace HM := Lib.hid (HM.out.new hc)
          replace HX := Lib.hid (HX.out.trans (Mv16.of hc))
          replace HB := Lib.hid (HB.out.chg hc id)
          replace HRC := Lib.hid (HRC.out.chg hc (fun _ _ => id))
          clear hc
          generalize w4.drewN nq = w5 at *
          go_wp2_with fail
          obtain ⟨o, oq, hD, hP⟩ := HM.out
          have HP := Lib.hid hP
          have HDD := Lib.hid hD
          have HIM := Lib.hid (show ∀ W, Chg (fun _ => False) w5 W → _ from fun W hW => timport_any (HP.out.new hW).tn HOK.out.fl now E k d l (fun k => w.heap.size ≤ k) (HRC.out.chg hW (fun _ _ => id)) (fun k hk e => by
            have h1 := HLT.out k (by rw [HDD.out]; exact e.elim (fun e => .inr (.inr (.inr (.inl e)))) (fun e => .inr (.inr (.inr (.inr (.inl e))))))
            omega) (by have := HLEN.out; omega))
          clear hP hD
          have HKEEP : Hid (∀ W : World, Chg (fun _ => False) w5 W → (W.cell? ⟨Q, 12, none⟩ = some (.slice E k d) ∧ W.cell? ⟨a, 322, none⟩ = some (.pointer (some ⟨q, 0, none⟩)))) := Lib.hid (fun W hW => ⟨(ms_cells (HB.out.chg hW id)).2.2.2.2.2.2.2.2.2.2.2.2, (HM.out.new hW).ab.c322⟩)
          have HXA := Lib.hid (Chg.refl (fun _ => False) w5).drew
          obtain ⟨y12, c322⟩ := HKEEP.out _ HXA.out
          go_region_held3 (fun w' => (w'.cell? ⟨Q, 12, none⟩ = some (.slice E k d) ∧ w'.cell? ⟨a, 322, none⟩ = some (.pointer (some ⟨q, 0, none⟩))))
            (first | with_reducible exact HKEEP.out _ HXA.out | with_reducible exact HSD.out | fail)
            (first
              | (go_at_call 57; (with_reducible refine (HIM.out _ HXA.out).mono ?_); rintro e wf ⟨rfl, oq', ht, hmv⟩; have hfl := (HP.out.new HXA.out).flows ht hmv; have HFL := Lib.hid hfl; have HSD : Hid ((wf.cell? ⟨Q, 12, none⟩ = some (.slice E k d) ∧ wf.cell? ⟨a, 322, none⟩ = some (.pointer (some ⟨q, 0, none⟩)))) := Lib.hid ⟨(ms_cells (HB.out.chg ((HXA.out.mono (fun _ _ e => e.elim)).trans hfl.2.1 (fun _ _ e => e)) (fun e => HQB.out _ (by rw [HDD.out]; exact e) rfl))).2.2.2.2.2.2.2.2.2.2.2.2, hfl.1.ab.c322⟩; clear ht hmv hfl)
              | fail)
          all_goals
            go_wp2_with fail
            exact bodyPost_end (results_none rfl _ _ _) rfl ⟨rfl, by rw [HE.out, HW.out]; exact ⟨_, ⟨o, oq', rfl, HFL.out.1⟩, (HX.out.trans (Mv16.of HXA.out)).trans (show Mv16 D _ _ _ from by rw [HDD.out]; exact ⟨HFL.out.2.1, HFL.out.2.2⟩)⟩⟩
        · have tow : (row_ == x.c) = false := by simpa using how
          have HW := Lib.hid (show hearM16 x ⟨3, po, ma, ow, ta, ol, ge, ph, ve, si, (i : Int), vr, l⟩ now = x from by
            unfold hearM16
            rw [if_neg (show ¬ (3 : Int) = 1 by omega), if_pos rfl]
            simp only [Int.toNat_natCast]
            rw [if_neg (by rw [HV.out]; exact fun e => how e.2)])
          clear how
          go_quiet (fail)
          go_wp2_with fail
          exact bodyPost_end (results_none rfl _ _ _) rfl ⟨rfl, by rw [HE.out, HW.out]; exact ⟨D, HM.out.new ((Chg.refl (fun _ => False) _).drewN nq), HX.out.trans (Mv16.of ((Chg.refl (fun _ => False) _).drewN nq))⟩⟩
      · have tve : decide (0 < rve) = false := by simpa using hve
        have HW := Lib.hid (show hearM16 x ⟨3, po, ma, ow, ta, ol, ge, ph, ve, si, (i : Int), vr, l⟩ now = x from by
          unfold hearM16
          rw [if_neg (show ¬ (3 : Int) = 1 by omega), if_pos rfl]
          simp only [Int.toNat_natCast]
          rw [if_neg (by rw [HV.out]; exact fun e => hve e.1)])
        clear hve
        go_quiet (fail)
        go_wp2_with fail
        exact bodyPost_end (results_none rfl _ _ _) rfl ⟨rfl, by rw [HE.out, HW.out]; exact ⟨D, HM.out.new ((Chg.refl (fun _ => False) _).drewN nq), HX.out.trans (Mv16.of ((Chg.refl (fun _ => False) _).drewN nq))⟩⟩
end Go.Proofs.YtfajcdobikjcdaaGreatDoor
