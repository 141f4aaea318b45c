/-
  Walk: ctl.read. Conditions: the bytes can be read.
-/
import Derived.Test.YtnojmbejedlilaaGreatQCd
import Derived.Test.YtnojmbejedlilaaGreatQM4
import Derived.Test.YtnojmbejedlilaaGreatQM1
import Derived.Deep.RegionHeld3
import Derived.RegionTactic
set_option maxRecDepth 100000
set_option maxHeartbeats 40000000
set_option linter.unusedVariables false
set_option linter.unusedSimpArgs false
namespace Go.Proofs.YtnojmbejedlilaaGreat
open Go.Value (int)
open Go.IntKind (i64)
open Go.RowKit
theorem rc_free17 {w : World} {q : Nat} {T : TypeId} {cs : Array Value} (h : Blk w q T cs) : w.frozen? ⟨q,0,none⟩ = false ∧ w.frozen? ⟨q,1,none⟩ = false ∧ w.frozen? ⟨q,2,none⟩ = false ∧ w.frozen? ⟨q,3,none⟩ = false ∧ w.frozen? ⟨q,4,none⟩ = false ∧ w.frozen? ⟨q,5,none⟩ = false ∧ w.frozen? ⟨q,6,none⟩ = false ∧ w.frozen? ⟨q,7,none⟩ = false ∧ w.frozen? ⟨q,8,none⟩ = false ∧ w.frozen? ⟨q,9,none⟩ = false ∧ w.frozen? ⟨q,10,none⟩ = false ∧ w.frozen? ⟨q,11,none⟩ = false :=
 ⟨h.frozen 0,h.frozen 1,h.frozen 2,h.frozen 3,h.frozen 4,h.frozen 5,h.frozen 6,h.frozen 7,h.frozen 8,h.frozen 9,h.frozen 10,h.frozen 11⟩
theorem rc_put17 {w : World} {r : Nat} {T : TypeId} {cs : Array Value} (hb : Blk w r T cs) (hs : cs.size = 12) (k : Int) (po : Int) (ma : Int) (ow : Int) (ta : Int) (ol : Int) (ge : Int) (ph : Int) (ve : Int) (si : Int) (z : Int) (n : Int) :
  (w.setCell ⟨r,0,none⟩ (int i64 k)).cell? ⟨r,0,none⟩ = some (int i64 k) ∧ ((w.setCell ⟨r,0,none⟩ (int i64 k)).setCell ⟨r,1,none⟩ (int i64 po)).cell? ⟨r,1,none⟩ = some (int i64 po) ∧ (((w.setCell ⟨r,0,none⟩ (int i64 k)).setCell ⟨r,1,none⟩ (int i64 po)).setCell ⟨r,2,none⟩ (int .u64 ma)).cell? ⟨r,2,none⟩ = some (int .u64 ma) ∧ ((((w.setCell ⟨r,0,none⟩ (int i64 k)).setCell ⟨r,1,none⟩ (int i64 po)).setCell ⟨r,2,none⟩ (int .u64 ma)).setCell ⟨r,3,none⟩ (int i64 ow)).cell? ⟨r,3,none⟩ = some (int i64 ow) ∧ (((((w.setCell ⟨r,0,none⟩ (int i64 k)).setCell ⟨r,1,none⟩ (int i64 po)).setCell ⟨r,2,none⟩ (int .u64 ma)).setCell ⟨r,3,none⟩ (int i64 ow)).setCell ⟨r,4,none⟩ (int i64 ta)).cell? ⟨r,4,none⟩ = some (int i64 ta) ∧ ((((((w.setCell ⟨r,0,none⟩ (int i64 k)).setCell ⟨r,1,none⟩ (int i64 po)).setCell ⟨r,2,none⟩ (int .u64 ma)).setCell ⟨r,3,none⟩ (int i64 ow)).setCell ⟨r,4,none⟩ (int i64 ta)).setCell ⟨r,5,none⟩ (int i64 ol)).cell? ⟨r,5,none⟩ = some (int i64 ol) ∧ (((((((w.setCell ⟨r,0,none⟩ (int i64 k)).setCell ⟨r,1,none⟩ (int i64 po)).setCell ⟨r,2,none⟩ (int .u64 ma)).setCell ⟨r,3,none⟩ (int i64 ow)).setCell ⟨r,4,none⟩ (int i64 ta)).setCell ⟨r,5,none⟩ (int i64 ol)).setCell ⟨r,6,none⟩ (int i64 ge)).cell? ⟨r,6,none⟩ = some (int i64 ge) ∧ ((((((((w.setCell ⟨r,0,none⟩ (int i64 k)).setCell ⟨r,1,none⟩ (int i64 po)).setCell ⟨r,2,none⟩ (int .u64 ma)).setCell ⟨r,3,none⟩ (int i64 ow)).setCell ⟨r,4,none⟩ (int i64 ta)).setCell ⟨r,5,none⟩ (int i64 ol)).setCell ⟨r,6,none⟩ (int i64 ge)).setCell ⟨r,7,none⟩ (int i64 ph)).cell? ⟨r,7,none⟩ = some (int i64 ph) ∧ (((((((((w.setCell ⟨r,0,none⟩ (int i64 k)).setCell ⟨r,1,none⟩ (int i64 po)).setCell ⟨r,2,none⟩ (int .u64 ma)).setCell ⟨r,3,none⟩ (int i64 ow)).setCell ⟨r,4,none⟩ (int i64 ta)).setCell ⟨r,5,none⟩ (int i64 ol)).setCell ⟨r,6,none⟩ (int i64 ge)).setCell ⟨r,7,none⟩ (int i64 ph)).setCell ⟨r,8,none⟩ (int i64 ve)).cell? ⟨r,8,none⟩ = some (int i64 ve) ∧ ((((((((((w.setCell ⟨r,0,none⟩ (int i64 k)).setCell ⟨r,1,none⟩ (int i64 po)).setCell ⟨r,2,none⟩ (int .u64 ma)).setCell ⟨r,3,none⟩ (int i64 ow)).setCell ⟨r,4,none⟩ (int i64 ta)).setCell ⟨r,5,none⟩ (int i64 ol)).setCell ⟨r,6,none⟩ (int i64 ge)).setCell ⟨r,7,none⟩ (int i64 ph)).setCell ⟨r,8,none⟩ (int i64 ve)).setCell ⟨r,9,none⟩ (int i64 si)).cell? ⟨r,9,none⟩ = some (int i64 si) ∧ (((((((((((w.setCell ⟨r,0,none⟩ (int i64 k)).setCell ⟨r,1,none⟩ (int i64 po)).setCell ⟨r,2,none⟩ (int .u64 ma)).setCell ⟨r,3,none⟩ (int i64 ow)).setCell ⟨r,4,none⟩ (int i64 ta)).setCell ⟨r,5,none⟩ (int i64 ol)).setCell ⟨r,6,none⟩ (int i64 ge)).setCell ⟨r,7,none⟩ (int i64 ph)).setCell ⟨r,8,none⟩ (int i64 ve)).setCell ⟨r,9,none⟩ (int i64 si)).setCell ⟨r,10,none⟩ (int i64 z)).cell? ⟨r,10,none⟩ = some (int i64 z) ∧ ((((((((((((w.setCell ⟨r,0,none⟩ (int i64 k)).setCell ⟨r,1,none⟩ (int i64 po)).setCell ⟨r,2,none⟩ (int .u64 ma)).setCell ⟨r,3,none⟩ (int i64 ow)).setCell ⟨r,4,none⟩ (int i64 ta)).setCell ⟨r,5,none⟩ (int i64 ol)).setCell ⟨r,6,none⟩ (int i64 ge)).setCell ⟨r,7,none⟩ (int i64 ph)).setCell ⟨r,8,none⟩ (int i64 ve)).setCell ⟨r,9,none⟩ (int i64 si)).setCell ⟨r,10,none⟩ (int i64 z)).setCell ⟨r,11,none⟩ (int i64 n)).cell? ⟨r,11,none⟩ = some (int i64 n) ∧ Chg (fun k=>k = r) w ((((((((((((w.setCell ⟨r,0,none⟩ (int i64 k)).setCell ⟨r,1,none⟩ (int i64 po)).setCell ⟨r,2,none⟩ (int .u64 ma)).setCell ⟨r,3,none⟩ (int i64 ow)).setCell ⟨r,4,none⟩ (int i64 ta)).setCell ⟨r,5,none⟩ (int i64 ol)).setCell ⟨r,6,none⟩ (int i64 ge)).setCell ⟨r,7,none⟩ (int i64 ph)).setCell ⟨r,8,none⟩ (int i64 ve)).setCell ⟨r,9,none⟩ (int i64 si)).setCell ⟨r,10,none⟩ (int i64 z)).setCell ⟨r,11,none⟩ (int i64 n)):=by
 have h0:=hb.set 0 (int i64 k)
 have r0:=h0.cell 0
 rw [Array.getElem?_setIfInBounds_self_of_lt (by simp [hs])] at r0
 have h1:=h0.set 1 (int i64 po)
 have r1:=h1.cell 1
 rw [Array.getElem?_setIfInBounds_self_of_lt (by simp [hs])] at r1
 have h2:=h1.set 2 (int .u64 ma)
 have r2:=h2.cell 2
 rw [Array.getElem?_setIfInBounds_self_of_lt (by simp [hs])] at r2
 have h3:=h2.set 3 (int i64 ow)
 have r3:=h3.cell 3
 rw [Array.getElem?_setIfInBounds_self_of_lt (by simp [hs])] at r3
 have h4:=h3.set 4 (int i64 ta)
 have r4:=h4.cell 4
 rw [Array.getElem?_setIfInBounds_self_of_lt (by simp [hs])] at r4
 have h5:=h4.set 5 (int i64 ol)
 have r5:=h5.cell 5
 rw [Array.getElem?_setIfInBounds_self_of_lt (by simp [hs])] at r5
 have h6:=h5.set 6 (int i64 ge)
 have r6:=h6.cell 6
 rw [Array.getElem?_setIfInBounds_self_of_lt (by simp [hs])] at r6
 have h7:=h6.set 7 (int i64 ph)
 have r7:=h7.cell 7
 rw [Array.getElem?_setIfInBounds_self_of_lt (by simp [hs])] at r7
 have h8:=h7.set 8 (int i64 ve)
 have r8:=h8.cell 8
 rw [Array.getElem?_setIfInBounds_self_of_lt (by simp [hs])] at r8
 have h9:=h8.set 9 (int i64 si)
 have r9:=h9.cell 9
 rw [Array.getElem?_setIfInBounds_self_of_lt (by simp [hs])] at r9
 have h10:=h9.set 10 (int i64 z)
 have r10:=h10.cell 10
 rw [Array.getElem?_setIfInBounds_self_of_lt (by simp [hs])] at r10
 have h11:=h10.set 11 (int i64 n)
 have r11:=h11.cell 11
 rw [Array.getElem?_setIfInBounds_self_of_lt (by simp [hs])] at r11
 exact ⟨r0,r1,r2,r3,r4,r5,r6,r7,r8,r9,r10,r11,((((((((((((Chg.refl (fun k=>k = r) w).put r 0 (fun _=>rfl) _).put r 1 (fun _=>rfl) _).put r 2 (fun _=>rfl) _).put r 3 (fun _=>rfl) _).put r 4 (fun _=>rfl) _).put r 5 (fun _=>rfl) _).put r 6 (fun _=>rfl) _).put r 7 (fun _=>rfl) _).put r 8 (fun _=>rfl) _).put r 9 (fun _=>rfl) _).put r 10 (fun _=>rfl) _).put r 11 (fun _=>rfl) _⟩
def rcC17 (r : RcV17) : Array Value:=#[int i64 r.k,int i64 r.x.po,int .u64 r.x.ma,int i64 r.x.ow,int i64 r.x.ta,int i64 r.x.ol,int i64 r.x.ge,int i64 r.x.ph,int i64 r.x.ve,int i64 r.x.si,int i64 r.z,int i64 r.n]
theorem cget17 (p : Nat) (S : Nat → Prop) (st : Option (List UInt8)) (k : Nat) (w : World) (h : Rd 259 true w p S st) :
  Calls Tryz.prog 119 #[.pointer (some ⟨p,0,none⟩),int i64 (k : Int)] w fun e w'=>e = .returned (int i64 (gv k st)) ∧ Rd 259 true w' p S (gn k st) ∧ Chg (fun j=>j = p) w w':=get_any p S st (k : Int) w h
def RdP17 (b : List UInt8) (w : World) (e : Ending) (w' : World) : Prop:=e = .returned (.tuple #[.agg (rcC17 (rdV17 b).1), .bool (rdV17 b).2]) ∧ Chg (fun _=>False) w w'
theorem read17_any (A : Option Addr) (n c : Nat) (b : List UInt8) (S : Nat → Prop) (w : World) (hn : n = b.length) (hr : Rds w S A n (bcs b)) (hz : A = none → c = 0) (hn2 : n ≤ 140737488355328) : Calls Tryz.prog 100 #[.slice A n c] w (RdP17 b w):=by
 have HR0 : Blk (w.alloc (.cells #[int i64 0,int i64 0,int .u64 0,int i64 0,int i64 0,int i64 0,int i64 0,int i64 0,int i64 0,int i64 0,int i64 0,int i64 0] 110)) w.heap.size 110 #[int i64 0,int i64 0,int .u64 0,int i64 0,int i64 0,int i64 0,int i64 0,int i64 0,int i64 0,int i64 0,int i64 0,int i64 0]:=blk_new rfl
 have HR:=hd_ HR0
 have HX:=hd_ ((Chg.refl (fun _=>False) w).alloc (.cells #[int i64 0,int i64 0,int .u64 0,int i64 0,int i64 0,int i64 0,int i64 0,int i64 0,int i64 0,int i64 0,int i64 0,int i64 0] 110))
 have HRR:=hd_ (hr.old.chg ((Chg.refl (fun _=>False) w).alloc (.cells #[int i64 0,int i64 0,int .u64 0,int i64 0,int i64 0,int i64 0,int i64 0,int i64 0,int i64 0,int i64 0,int i64 0,int i64 0] 110)) (fun _ _=>id))
 have HN:=hd_ hn
 have HN2:=hd_ hn2
 have HQ0:=hd_ ((Chg.refl (fun _=>False) w).alloc (.cells #[int i64 0,int i64 0,int .u64 0,int i64 0,int i64 0,int i64 0,int i64 0,int i64 0,int i64 0,int i64 0,int i64 0,int i64 0] 110)).size
 have HZ:=hd_ hz
 clear HR0 hr hn hz hn2
 go_in
 go_upto_region 1 with fail
 generalize w.alloc (.cells #[int i64 0,int i64 0,int .u64 0,int i64 0,int i64 0,int i64 0,int i64 0,int i64 0,int i64 0,int i64 0,int i64 0,int i64 0] 110) = w1 at *
 have HQL:=hd_ HR.out.lt
 generalize hq0 : w.heap.size = Q0 at HR HQL ⊢
 have HQ : Hid (w.heap.size ≤ Q0):=hd_ (by omega)
 clear hq0
 have hd:=cdec_any A n c b _ w1 HN.out HRR.out HZ.out (by have:=HN2.out; omega)
 unfold Dec6 Hd6 msC at hd
 have HV0:=hd_ (show rdV17 b = if cX b = 0 then (rowR17 ⟨(cM b).po,(cM b).ma,(cM b).ow,(cM b).ta,(cM b).ol,(cM b).ge,(cM b).ph,(cM b).ve,(cM b).si⟩,(cM b).kd == 1) else if rdK17 b = 4 ∨ rdK17 b = 5 then (⟨rdK17 b,z9,gv 1 (rdS17 b),0⟩,doneS (gn 1 (rdS17 b)) == 0) else if rdK17 b = 6 then (⟨6,z9,0,gv 5 (rdS17 b)⟩,doneS (gn 5 (rdS17 b)) == 0) else (⟨0,z9,0,0⟩,false) from rfl)
 generalize cX b = xb at *
 generalize cM b = m at *
 obtain ⟨kd,po,ma,ow,ta,ol,ge,ph,ve,si,pt,vr,l⟩:=m
 simp only at hd
 generalize l.length = ml at *
 have HD:=hd_ hd
 clear hd
 go_wp2_with fail
 refine HD.out.mono ?_
 rintro e w2 ⟨D,dc,rfl,hrl,hc⟩
 have HW12:=hd_ hc.size
 replace HR:=hd_ (HR.out.chg hc id)
 replace HX:=hd_ (HX.out.tr hc)
 replace HRR:=hd_ (HRR.out.chg hc (fun _ _=>id))
 clear hrl hc HD
 go_upto_region 2 with fail
 have HM : Hid (Blk (w2.alloc (.cells #[int i64 kd,int i64 po,int .u64 ma,int i64 ow,int i64 ta,int i64 ol,int i64 ge,int i64 ph,int i64 ve,int i64 si,int i64 pt,int i64 vr, .slice D ml dc] 74)) w2.heap.size 74 (msC kd po ma ow ta ol ge ph ve si pt vr D ml dc)):=hd_ (blk_new rfl)
 have hc:=(Chg.refl (fun _=>False) w2).alloc (.cells #[int i64 kd,int i64 po,int .u64 ma,int i64 ow,int i64 ta,int i64 ol,int i64 ge,int i64 ph,int i64 ve,int i64 si,int i64 pt,int i64 vr, .slice D ml dc] 74)
 replace HR:=hd_ (HR.out.chg hc id)
 replace HX:=hd_ (HX.out.tr hc)
 replace HRR:=hd_ (HRR.out.chg hc (fun _ _=>id))
 have HW13 : Hid (w1.heap.size ≤ (w2.alloc (.cells #[int i64 kd,int i64 po,int .u64 ma,int i64 ow,int i64 ta,int i64 ol,int i64 ge,int i64 ph,int i64 ve,int i64 si,int i64 pt,int i64 vr, .slice D ml dc] 74)).heap.size):=hd_ (Nat.le_trans HW12.out hc.size)
 clear hc
 generalize w2.alloc (.cells #[int i64 kd,int i64 po,int .u64 ma,int i64 ow,int i64 ta,int i64 ol,int i64 ge,int i64 ph,int i64 ve,int i64 si,int i64 pt,int i64 vr, .slice D ml dc] 74) = w3 at *
 have HQM : Hid (Q0 < w2.heap.size):=hd_ (by have:=HQL.out; have:=HW12.out; omega)
 generalize w2.heap.size = QM at *
 by_cases hx : xb = 0
 ·subst hx
  have HV:=hd_ (show rdV17 b = (rowR17 ⟨po,ma,ow,ta,ol,ge,ph,ve,si⟩,kd == 1) from HV0.out.trans (if_pos rfl))
  go_upto_region 3 with fail
  obtain ⟨y0,y1,y2,y3,y4,y5,y6,y7,y8,y9,y10,y11,y12⟩:=ms_cells HM.out
  have hnm : ¬ QM = Q0:=by have h1:=HM.out.lt; have h2:=HQM.out; omega
  obtain ⟨x0,x1,x2,x3,x4,x5,x6,x7,x8,x9,x10,x11⟩:=rc_cells17 HR.out
  obtain ⟨u0,u1,u2,u3,u4,u5,u6,u7,u8,u9,u10,u11⟩:=rc_free17 HR.out
  obtain ⟨r0,r1,r2,r3,r4,r5,r6,r7,r8,r9,r10,r11,hcs⟩:=rc_put17 HR.out rfl 1 po ma ow ta ol ge ph ve si 0 0
  have RR:=cj12 r0 r1 r2 r3 r4 r5 r6 r7 r8 r9 r10 r11
  have HF:=hd_ (fresh_set HX.out hcs HQ.out)
  have k0:=(ms_cells (HM.out.chg hcs hnm)).1
  clear r0 r1 r2 r3 r4 r5 r6 r7 r8 r9 r10 r11 hcs hnm
  go_region
  all_goals
   go_wp2_with fail
   exact bodyPost_ret (v := .tuple #[.agg #[int i64 1,int i64 po,int .u64 ma,int i64 ow,int i64 ta,int i64 ol,int i64 ge,int i64 ph,int i64 ve,int i64 si,int i64 0,int i64 0], .bool (kd == 1)]) (by simp [results,Tryz.results100,go_sem,RR.out]) rfl ⟨by rw [HV.out]; rfl,HF.out.drew⟩
 ·have tx : (xb == 0) = false:=by simpa using hx
  replace HV0:=hd_ (HV0.out.trans (if_neg hx))
  clear hx HM
  have HRA:=hd_ (read_any A n c b _ w3 HN.out HRR.out HZ.out HN2.out)
  go_wp2_with fail
  refine HRA.out.mono ?_
  rintro e w4 ⟨p,rfl,hp,hrd,hc1⟩
  have HRD0:=hd_ hrd
  have HP:=hd_ hp
  replace HR:=hd_ (HR.out.chg hc1 id)
  have HXP:=hd_ HX.out.size
  have HXP1 : Hid (w1.heap.size ≤ w3.heap.size):=hd_ HW13.out
  replace HX:=hd_ (HX.out.tr hc1)
  clear hrd hp hc1 HRA
  have HG1:=hd_ (cget17 p _ _ 1 w4 HRD0.out)
  have HK0 : Hid (gv 1 (some b) = rdK17 b):=hd_ rfl
  go_wp2_with fail
  refine HG1.out.mono ?_
  rintro e w5 ⟨rfl,hrd,hc⟩
  have HRD:=hd_ hrd
  have HPQ : Hid (¬ Q0 = p):=hd_ (by have h1:=HQL.out; have h2:=HXP1.out; have h3:=HP.out; omega)
  have HPW : Hid (w.heap.size ≤ p):=hd_ (by have h2:=HXP.out; have h3:=HP.out; omega)
  replace HX:=hd_ (fresh_set HX.out hc HPW.out)
  replace HR:=hd_ (HR.out.chg hc HPQ.out)
  clear hrd hc HG1 HRD0
  have HPL:=hd_ HRD.out.lt
  go_upto_region 6 with fail
  generalize gv 1 (some b) = kk at *
  have hc:=(Chg.refl (fun _=>False) w5).alloc (.cells #[int i64 kk,int i64 0,int .u64 0,int i64 0,int i64 0,int i64 0,int i64 0,int i64 0,int i64 0,int i64 0,int i64 0,int i64 0] 110)
  have HK : Hid (Blk (w5.alloc (.cells #[int i64 kk,int i64 0,int .u64 0,int i64 0,int i64 0,int i64 0,int i64 0,int i64 0,int i64 0,int i64 0,int i64 0,int i64 0] 110)) w5.heap.size 110 #[int i64 kk,int i64 0,int .u64 0,int i64 0,int i64 0,int i64 0,int i64 0,int i64 0,int i64 0,int i64 0,int i64 0,int i64 0]):=hd_ (blk_new rfl)
  have HPK : Hid (¬ w5.heap.size = p):=hd_ (by have:=HPL.out; omega)
  have HPK2 : Hid (¬ p = w5.heap.size):=hd_ (by have:=HPL.out; omega)
  have HQK : Hid (¬ Q0 = w5.heap.size):=hd_ (by have:=HR.out.lt; omega)
  have HQK2 : Hid (¬ w5.heap.size = Q0):=hd_ (by have:=HR.out.lt; omega)
  have HKW : Hid (w.heap.size ≤ w5.heap.size):=hd_ HX.out.size
  have HSK : Hid (∀ k,(w3.heap.size ≤ k ∧ k < p) → ¬ k = w5.heap.size):=hd_ (fun k hk=>by have:=HPL.out; omega)
  replace HX:=hd_ (HX.out.tr hc)
  replace HR:=hd_ (HR.out.chg hc id)
  replace HRD:=hd_ ((HRD.out.mono (S':=fun k=>w3.heap.size ≤ k ∧ k < p) (fun k hk=>by have:=HP.out; omega) (by omega)).chg hc id (fun _ _=>id))
  clear hc
  generalize w5.alloc (.cells #[int i64 kk,int i64 0,int .u64 0,int i64 0,int i64 0,int i64 0,int i64 0,int i64 0,int i64 0,int i64 0,int i64 0,int i64 0] 110) = w7 at *
  generalize w5.heap.size = QK at *
  obtain ⟨y0,y1,y2,y3,y4,y5,y6,y7,y8,y9,y10,y11⟩:=rc_cells17 HK.out
  by_cases h4 : kk = 4
  ·subst h4
   have HV:=hd_ (HV0.out.trans (if_pos (.inl HK0.out.symm)))
   rw [← HK0.out] at HV
   have HG2:=hd_ (cget17 p _ _ 1 w7 HRD.out)
   have HGX : Hid (gv 1 (gn 1 (some b)) = gv 1 (rdS17 b)):=hd_ rfl
   generalize gv 1 (gn 1 (some b)) = gx at *
   generalize hst : gn 1 (gn 1 (some b)) = st2 at *
   have HST:=hd_ hst
   clear hst
   go_wp2_with fail
   refine HG2.out.mono ?_
   rintro e w8 ⟨rfl,hrd,hc⟩
   have HRD2:=hd_ hrd
   have hX:=fresh_set HX.out hc HPW.out
   replace HX:=hd_ hX
   replace HR:=hd_ (HR.out.chg hc HPQ.out)
   replace HK:=hd_ (HK.out.chg hc HPK.out)
   clear hrd hX hc HG2 HRD y0 y1 y2 y3 y4 y5 y6 y7 y8 y9 y10 y11
   obtain ⟨y0,y1,y2,y3,y4,y5,y6,y7,y8,y9,y10,y11⟩:=rc_cells17 HK.out
   have f0:=HK.out.frozen 10
   go_upto_region 13 with fail
   have hcs:=(Chg.refl (fun k=>k = QK) w8).put QK 10 (fun _=>rfl) (int i64 gx)
   replace HX:=hd_ (fresh_set HX.out hcs HKW.out)
   replace HR:=hd_ (HR.out.chg hcs HQK.out)
   replace HRD2:=hd_ (HRD2.out.chg hcs HPK2.out HSK.out)
   have HK2 : Hid (Blk (w8.setCell ⟨QK,10,none⟩ (int i64 gx)) QK 110 #[int i64 4,int i64 0,int .u64 0,int i64 0,int i64 0,int i64 0,int i64 0,int i64 0,int i64 0,int i64 0,int i64 gx,int i64 0]):=hd_ (HK.out.set 10 (int i64 gx))
   clear hcs f0 HK y0 y1 y2 y3 y4 y5 y6 y7 y8 y9 y10 y11
   generalize w8.setCell ⟨QK,10,none⟩ (int i64 gx) = w9 at *
   have HDN:=hd_ (rdone_any p _ st2 w9.drew (HRD2.out.chg (Chg.refl (fun _=>False) w9).drew id (fun _ _=>id)))
   replace HX:=hd_ HX.out.drew
   replace HR:=hd_ HR.out.drew
   have HKEEP : Hid (∀ W : World,Chg (fun k=>k = Q0) w9 W → (W.cell? ⟨QK,0,none⟩ = some (int i64 4) ∧ W.cell? ⟨QK,1,none⟩ = some (int i64 0) ∧ W.cell? ⟨QK,2,none⟩ = some (int .u64 0) ∧ W.cell? ⟨QK,3,none⟩ = some (int i64 0) ∧ W.cell? ⟨QK,4,none⟩ = some (int i64 0) ∧ W.cell? ⟨QK,5,none⟩ = some (int i64 0) ∧ W.cell? ⟨QK,6,none⟩ = some (int i64 0) ∧ W.cell? ⟨QK,7,none⟩ = some (int i64 0) ∧ W.cell? ⟨QK,8,none⟩ = some (int i64 0) ∧ W.cell? ⟨QK,9,none⟩ = some (int i64 0) ∧ W.cell? ⟨QK,10,none⟩ = some (int i64 gx) ∧ W.cell? ⟨QK,11,none⟩ = some (int i64 0))):=hd_ (fun W hw=>rc_cells17 (HK2.out.chg hw HQK2.out))
   have HYA:=hd_ (Chg.refl (fun k=>k = Q0) w9).drew
   obtain ⟨y0,y1,y2,y3,y4,y5,y6,y7,y8,y9,y10,y11⟩:=HKEEP.out _ HYA.out
   go_region_held3 (fun w'=>w'.cell? ⟨QK,0,none⟩ = some (int i64 4) ∧ w'.cell? ⟨QK,1,none⟩ = some (int i64 0) ∧ w'.cell? ⟨QK,2,none⟩ = some (int .u64 0) ∧ w'.cell? ⟨QK,3,none⟩ = some (int i64 0) ∧ w'.cell? ⟨QK,4,none⟩ = some (int i64 0) ∧ w'.cell? ⟨QK,5,none⟩ = some (int i64 0) ∧ w'.cell? ⟨QK,6,none⟩ = some (int i64 0) ∧ w'.cell? ⟨QK,7,none⟩ = some (int i64 0) ∧ w'.cell? ⟨QK,8,none⟩ = some (int i64 0) ∧ w'.cell? ⟨QK,9,none⟩ = some (int i64 0) ∧ w'.cell? ⟨QK,10,none⟩ = some (int i64 gx) ∧ w'.cell? ⟨QK,11,none⟩ = some (int i64 0))
    (first | with_reducible exact HKEEP.out _ HYA.out | with_reducible exact HKEEP.out _ HYB.out | with_reducible exact HKEEP.out _ HYC.out | fail)
    (first
     | (go_at_call 121; (with_reducible refine HDN.out.mono ?_); rintro e wd ⟨rfl,hww⟩; have hc : Chg (fun _=>False) w9.drew wd:=hww ▸ Chg.refl _ _; have HYB:=hd_ (HYA.out.trans (hc.mono (S':=fun k=>k = Q0) (fun _ _ h=>h.elim)) (fun _ _ e=>e)); replace HR:=hd_ (HR.out.chg hc id); replace HX:=hd_ (HX.out.tr hc); clear hc; obtain ⟨x0,x1,x2,x3,x4,x5,x6,x7,x8,x9,x10,x11⟩:=rc_cells17 HR.out; obtain ⟨u0,u1,u2,u3,u4,u5,u6,u7,u8,u9,u10,u11⟩:=rc_free17 HR.out; obtain ⟨r0,r1,r2,r3,r4,r5,r6,r7,r8,r9,r10,r11,hcs⟩:=rc_put17 HR.out rfl 4 0 0 0 0 0 0 0 0 0 gx 0; have RR:=cj12 r0 r1 r2 r3 r4 r5 r6 r7 r8 r9 r10 r11; have HF:=hd_ (fresh_set HX.out hcs HQ.out); have HCS:=hd_ hcs; clear r0 r1 r2 r3 r4 r5 r6 r7 r8 r9 r10 r11 hcs; have HYC:=hd_ (HYB.out.tr HCS.out))
     | fail)
   all_goals
    go_wp2_with fail
    exact bodyPost_ret (v := .tuple #[.agg #[int i64 4,int i64 0,int .u64 0,int i64 0,int i64 0,int i64 0,int i64 0,int i64 0,int i64 0,int i64 0,int i64 gx,int i64 0], .bool (doneS st2 == 0)]) (by simp [results,Tryz.results100,go_sem,RR.out]) rfl ⟨by rw [HV.out, ← HGX.out, ← HST.out]; rfl,HF.out⟩
  ·by_cases h5 : kk = 5
   ·subst h5
    have HV:=hd_ (HV0.out.trans (if_pos (.inr HK0.out.symm)))
    rw [← HK0.out] at HV
    clear h4
    have HG2:=hd_ (cget17 p _ _ 1 w7 HRD.out)
    have HGX : Hid (gv 1 (gn 1 (some b)) = gv 1 (rdS17 b)):=hd_ rfl
    generalize gv 1 (gn 1 (some b)) = gx at *
    generalize hst : gn 1 (gn 1 (some b)) = st2 at *
    have HST:=hd_ hst
    clear hst
    go_wp2_with fail
    refine HG2.out.mono ?_
    rintro e w8 ⟨rfl,hrd,hc⟩
    have HRD2:=hd_ hrd
    have hX:=fresh_set HX.out hc HPW.out
    replace HX:=hd_ hX
    replace HR:=hd_ (HR.out.chg hc HPQ.out)
    replace HK:=hd_ (HK.out.chg hc HPK.out)
    clear hrd hX hc HG2 HRD y0 y1 y2 y3 y4 y5 y6 y7 y8 y9 y10 y11
    obtain ⟨y0,y1,y2,y3,y4,y5,y6,y7,y8,y9,y10,y11⟩:=rc_cells17 HK.out
    have f0:=HK.out.frozen 10
    go_upto_region 13 with fail
    have hcs:=(Chg.refl (fun k=>k = QK) w8).put QK 10 (fun _=>rfl) (int i64 gx)
    replace HX:=hd_ (fresh_set HX.out hcs HKW.out)
    replace HR:=hd_ (HR.out.chg hcs HQK.out)
    replace HRD2:=hd_ (HRD2.out.chg hcs HPK2.out HSK.out)
    have HK2 : Hid (Blk (w8.setCell ⟨QK,10,none⟩ (int i64 gx)) QK 110 #[int i64 5,int i64 0,int .u64 0,int i64 0,int i64 0,int i64 0,int i64 0,int i64 0,int i64 0,int i64 0,int i64 gx,int i64 0]):=hd_ (HK.out.set 10 (int i64 gx))
    clear hcs f0 HK y0 y1 y2 y3 y4 y5 y6 y7 y8 y9 y10 y11
    generalize w8.setCell ⟨QK,10,none⟩ (int i64 gx) = w9 at *
    have HDN:=hd_ (rdone_any p _ st2 w9.drew (HRD2.out.chg (Chg.refl (fun _=>False) w9).drew id (fun _ _=>id)))
    replace HX:=hd_ HX.out.drew
    replace HR:=hd_ HR.out.drew
    have HKEEP : Hid (∀ W : World,Chg (fun k=>k = Q0) w9 W → (W.cell? ⟨QK,0,none⟩ = some (int i64 5) ∧ W.cell? ⟨QK,1,none⟩ = some (int i64 0) ∧ W.cell? ⟨QK,2,none⟩ = some (int .u64 0) ∧ W.cell? ⟨QK,3,none⟩ = some (int i64 0) ∧ W.cell? ⟨QK,4,none⟩ = some (int i64 0) ∧ W.cell? ⟨QK,5,none⟩ = some (int i64 0) ∧ W.cell? ⟨QK,6,none⟩ = some (int i64 0) ∧ W.cell? ⟨QK,7,none⟩ = some (int i64 0) ∧ W.cell? ⟨QK,8,none⟩ = some (int i64 0) ∧ W.cell? ⟨QK,9,none⟩ = some (int i64 0) ∧ W.cell? ⟨QK,10,none⟩ = some (int i64 gx) ∧ W.cell? ⟨QK,11,none⟩ = some (int i64 0))):=hd_ (fun W hw=>rc_cells17 (HK2.out.chg hw HQK2.out))
    have HYA:=hd_ (Chg.refl (fun k=>k = Q0) w9).drew
    obtain ⟨y0,y1,y2,y3,y4,y5,y6,y7,y8,y9,y10,y11⟩:=HKEEP.out _ HYA.out
    go_region_held3 (fun w'=>w'.cell? ⟨QK,0,none⟩ = some (int i64 5) ∧ w'.cell? ⟨QK,1,none⟩ = some (int i64 0) ∧ w'.cell? ⟨QK,2,none⟩ = some (int .u64 0) ∧ w'.cell? ⟨QK,3,none⟩ = some (int i64 0) ∧ w'.cell? ⟨QK,4,none⟩ = some (int i64 0) ∧ w'.cell? ⟨QK,5,none⟩ = some (int i64 0) ∧ w'.cell? ⟨QK,6,none⟩ = some (int i64 0) ∧ w'.cell? ⟨QK,7,none⟩ = some (int i64 0) ∧ w'.cell? ⟨QK,8,none⟩ = some (int i64 0) ∧ w'.cell? ⟨QK,9,none⟩ = some (int i64 0) ∧ w'.cell? ⟨QK,10,none⟩ = some (int i64 gx) ∧ w'.cell? ⟨QK,11,none⟩ = some (int i64 0))
     (first | with_reducible exact HKEEP.out _ HYA.out | with_reducible exact HKEEP.out _ HYB.out | with_reducible exact HKEEP.out _ HYC.out | fail)
     (first
      | (go_at_call 121; (with_reducible refine HDN.out.mono ?_); rintro e wd ⟨rfl,hww⟩; have hc : Chg (fun _=>False) w9.drew wd:=hww ▸ Chg.refl _ _; have HYB:=hd_ (HYA.out.trans (hc.mono (S':=fun k=>k = Q0) (fun _ _ h=>h.elim)) (fun _ _ e=>e)); replace HR:=hd_ (HR.out.chg hc id); replace HX:=hd_ (HX.out.tr hc); clear hc; obtain ⟨x0,x1,x2,x3,x4,x5,x6,x7,x8,x9,x10,x11⟩:=rc_cells17 HR.out; obtain ⟨u0,u1,u2,u3,u4,u5,u6,u7,u8,u9,u10,u11⟩:=rc_free17 HR.out; obtain ⟨r0,r1,r2,r3,r4,r5,r6,r7,r8,r9,r10,r11,hcs⟩:=rc_put17 HR.out rfl 5 0 0 0 0 0 0 0 0 0 gx 0; have RR:=cj12 r0 r1 r2 r3 r4 r5 r6 r7 r8 r9 r10 r11; have HF:=hd_ (fresh_set HX.out hcs HQ.out); have HCS:=hd_ hcs; clear r0 r1 r2 r3 r4 r5 r6 r7 r8 r9 r10 r11 hcs; have HYC:=hd_ (HYB.out.tr HCS.out))
      | fail)
    all_goals
     go_wp2_with fail
     exact bodyPost_ret (v := .tuple #[.agg #[int i64 5,int i64 0,int .u64 0,int i64 0,int i64 0,int i64 0,int i64 0,int i64 0,int i64 0,int i64 0,int i64 gx,int i64 0], .bool (doneS st2 == 0)]) (by simp [results,Tryz.results100,go_sem,RR.out]) rfl ⟨by rw [HV.out, ← HGX.out, ← HST.out]; rfl,HF.out⟩
   ·have hn45 : ¬ (rdK17 b = 4 ∨ rdK17 b = 5):=by rw [← HK0.out]; omega
    by_cases h6 : kk = 6
    ·subst h6
     have HV:=hd_ ((HV0.out.trans (if_neg hn45)).trans (if_pos HK0.out.symm))
     clear h4 h5 hn45
     have HG2:=hd_ (cget17 p _ _ 5 w7 HRD.out)
     have HGX : Hid (gv 5 (gn 1 (some b)) = gv 5 (rdS17 b)):=hd_ rfl
     generalize gv 5 (gn 1 (some b)) = gx at *
     generalize hst : gn 5 (gn 1 (some b)) = st2 at *
     have HST:=hd_ hst
     clear hst
     go_wp2_with fail
     refine HG2.out.mono ?_
     rintro e w8 ⟨rfl,hrd,hc⟩
     have HRD2:=hd_ hrd
     have hX:=fresh_set HX.out hc HPW.out
     replace HX:=hd_ hX
     replace HR:=hd_ (HR.out.chg hc HPQ.out)
     replace HK:=hd_ (HK.out.chg hc HPK.out)
     clear hrd hX hc HG2 HRD y0 y1 y2 y3 y4 y5 y6 y7 y8 y9 y10 y11
     obtain ⟨y0,y1,y2,y3,y4,y5,y6,y7,y8,y9,y10,y11⟩:=rc_cells17 HK.out
     have f0:=HK.out.frozen 11
     go_upto_region 13 with fail
     have hcs:=(Chg.refl (fun k=>k = QK) w8).put QK 11 (fun _=>rfl) (int i64 gx)
     replace HX:=hd_ (fresh_set HX.out hcs HKW.out)
     replace HR:=hd_ (HR.out.chg hcs HQK.out)
     replace HRD2:=hd_ (HRD2.out.chg hcs HPK2.out HSK.out)
     have HK2 : Hid (Blk (w8.setCell ⟨QK,11,none⟩ (int i64 gx)) QK 110 #[int i64 6,int i64 0,int .u64 0,int i64 0,int i64 0,int i64 0,int i64 0,int i64 0,int i64 0,int i64 0,int i64 0,int i64 gx]):=hd_ (HK.out.set 11 (int i64 gx))
     clear hcs f0 HK y0 y1 y2 y3 y4 y5 y6 y7 y8 y9 y10 y11
     generalize w8.setCell ⟨QK,11,none⟩ (int i64 gx) = w9 at *
     have HDN:=hd_ (rdone_any p _ st2 w9.drew (HRD2.out.chg (Chg.refl (fun _=>False) w9).drew id (fun _ _=>id)))
     replace HX:=hd_ HX.out.drew
     replace HR:=hd_ HR.out.drew
     have HKEEP : Hid (∀ W : World,Chg (fun k=>k = Q0) w9 W → (W.cell? ⟨QK,0,none⟩ = some (int i64 6) ∧ W.cell? ⟨QK,1,none⟩ = some (int i64 0) ∧ W.cell? ⟨QK,2,none⟩ = some (int .u64 0) ∧ W.cell? ⟨QK,3,none⟩ = some (int i64 0) ∧ W.cell? ⟨QK,4,none⟩ = some (int i64 0) ∧ W.cell? ⟨QK,5,none⟩ = some (int i64 0) ∧ W.cell? ⟨QK,6,none⟩ = some (int i64 0) ∧ W.cell? ⟨QK,7,none⟩ = some (int i64 0) ∧ W.cell? ⟨QK,8,none⟩ = some (int i64 0) ∧ W.cell? ⟨QK,9,none⟩ = some (int i64 0) ∧ W.cell? ⟨QK,10,none⟩ = some (int i64 0) ∧ W.cell? ⟨QK,11,none⟩ = some (int i64 gx))):=hd_ (fun W hw=>rc_cells17 (HK2.out.chg hw HQK2.out))
     have HYA:=hd_ (Chg.refl (fun k=>k = Q0) w9).drew
     obtain ⟨y0,y1,y2,y3,y4,y5,y6,y7,y8,y9,y10,y11⟩:=HKEEP.out _ HYA.out
     go_region_held3 (fun w'=>w'.cell? ⟨QK,0,none⟩ = some (int i64 6) ∧ w'.cell? ⟨QK,1,none⟩ = some (int i64 0) ∧ w'.cell? ⟨QK,2,none⟩ = some (int .u64 0) ∧ w'.cell? ⟨QK,3,none⟩ = some (int i64 0) ∧ w'.cell? ⟨QK,4,none⟩ = some (int i64 0) ∧ w'.cell? ⟨QK,5,none⟩ = some (int i64 0) ∧ w'.cell? ⟨QK,6,none⟩ = some (int i64 0) ∧ w'.cell? ⟨QK,7,none⟩ = some (int i64 0) ∧ w'.cell? ⟨QK,8,none⟩ = some (int i64 0) ∧ w'.cell? ⟨QK,9,none⟩ = some (int i64 0) ∧ w'.cell? ⟨QK,10,none⟩ = some (int i64 0) ∧ w'.cell? ⟨QK,11,none⟩ = some (int i64 gx))
      (first | with_reducible exact HKEEP.out _ HYA.out | with_reducible exact HKEEP.out _ HYB.out | with_reducible exact HKEEP.out _ HYC.out | fail)
      (first
       | (go_at_call 121; (with_reducible refine HDN.out.mono ?_); rintro e wd ⟨rfl,hww⟩; have hc : Chg (fun _=>False) w9.drew wd:=hww ▸ Chg.refl _ _; have HYB:=hd_ (HYA.out.trans (hc.mono (S':=fun k=>k = Q0) (fun _ _ h=>h.elim)) (fun _ _ e=>e)); replace HR:=hd_ (HR.out.chg hc id); replace HX:=hd_ (HX.out.tr hc); clear hc; obtain ⟨x0,x1,x2,x3,x4,x5,x6,x7,x8,x9,x10,x11⟩:=rc_cells17 HR.out; obtain ⟨u0,u1,u2,u3,u4,u5,u6,u7,u8,u9,u10,u11⟩:=rc_free17 HR.out; obtain ⟨r0,r1,r2,r3,r4,r5,r6,r7,r8,r9,r10,r11,hcs⟩:=rc_put17 HR.out rfl 6 0 0 0 0 0 0 0 0 0 0 gx; have RR:=cj12 r0 r1 r2 r3 r4 r5 r6 r7 r8 r9 r10 r11; have HF:=hd_ (fresh_set HX.out hcs HQ.out); have HCS:=hd_ hcs; clear r0 r1 r2 r3 r4 r5 r6 r7 r8 r9 r10 r11 hcs; have HYC:=hd_ (HYB.out.tr HCS.out))
       | fail)
     all_goals
      go_wp2_with fail
      exact bodyPost_ret (v := .tuple #[.agg #[int i64 6,int i64 0,int .u64 0,int i64 0,int i64 0,int i64 0,int i64 0,int i64 0,int i64 0,int i64 0,int i64 0,int i64 gx], .bool (doneS st2 == 0)]) (by simp [results,Tryz.results100,go_sem,RR.out]) rfl ⟨by rw [HV.out, ← HGX.out, ← HST.out]; rfl,HF.out⟩
    ·have HV:=hd_ ((HV0.out.trans (if_neg hn45)).trans (if_neg (by rw [← HK0.out]; exact h6)))
     have t4 : (kk == 4) = false:=by simpa using h4
     have t5 : (kk == 5) = false:=by simpa using h5
     have t6 : (kk == 6) = false:=by simpa using h6
     clear h4 h5 h6 hn45
     go_upto_region 7 with fail
     obtain ⟨x0,x1,x2,x3,x4,x5,x6,x7,x8,x9,x10,x11⟩:=rc_cells17 HR.out
     obtain ⟨u0,u1,u2,u3,u4,u5,u6,u7,u8,u9,u10,u11⟩:=rc_free17 HR.out
     obtain ⟨r0,r1,r2,r3,r4,r5,r6,r7,r8,r9,r10,r11,hcs⟩:=rc_put17 HR.out rfl 0 0 0 0 0 0 0 0 0 0 0 0
     have RR:=cj12 r0 r1 r2 r3 r4 r5 r6 r7 r8 r9 r10 r11
     have HF:=hd_ (fresh_set HX.out hcs HQ.out)
     clear r0 r1 r2 r3 r4 r5 r6 r7 r8 r9 r10 r11 hcs
     go_wp2_with fail
     exact bodyPost_ret (v := .tuple #[.agg #[int i64 0,int i64 0,int .u64 0,int i64 0,int i64 0,int i64 0,int i64 0,int i64 0,int i64 0,int i64 0,int i64 0,int i64 0], .bool false]) (by simp [results,Tryz.results100,go_sem,RR.out]) rfl ⟨by rw [HV.out]; rfl,HF.out⟩
end Go.Proofs.YtnojmbejedlilaaGreat
