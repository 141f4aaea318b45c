/-
  Walk: ctl.Take. Conditions: the controller lies in memory, and holds what always holds; the bytes can be read.
-/
import Derived.Test.YtnojmbejedlilaaGreatKQCr
import Derived.Test.YtnojmbejedlilaaGreatKQMA
import Derived.Test.YtnojmbejedlilaaGreatKQM9
set_option maxRecDepth 100000
set_option maxHeartbeats 40000000
set_option linter.unusedVariables false
set_option linter.unusedSimpArgs false
namespace Go.Proofs.YtnojmbejedlilaaGreat
open Nat renaming le_refl→zG,le_trans→zH
open Go renaming bodyPost_ret→AW
open Go.Value renaming int→U
open Go.IntKind renaming i64→Z
open Go.RowKit
theorem uQ{s:SV}{l:LV}(h:¬tkE s l=0):tkS s l=s:=by
 unfold tkS;rw[if_neg];intro hok;apply h;unfold gk at hok;rw[Bool.and_eq_true,decide_eq_true_eq]at hok;unfold tkE;rw[if_pos hok.1,if_neg (by have:=hok.2;omega)]
theorem KOk.tk{j:Nat}{x:KV}(h:KOk j x)(i:Nat)(l:LV):KOk (j+1) (kN x i l):=by
 refine⟨h.wf,h.ma,h.bt,h.sp,h.no,fun k hk=>?_,h.b,h.m,h.sf⟩;show bh (j+1) (aF x.S i (tkS (x.S i) l) k);by_cases e:k=i
 ·subst e;rw[di];exact(h.s k hk).take l
 ·rw[fj _ _ e];exact(h.s k hk).le (by omega)
theorem KOk.ref{j:Nat}{x:KV}(h:KOk j x)(i:Nat):KOk j (c_ x i):=by
 unfold c_
 split
 ·refine⟨h.wf,h.ma,h.bt,h.sp,h.no,fun k hk=>?_,h.b,h.m,h.sf⟩;show bh j (aF x.S i (dj (x.S i) (aO x.t.R)) k);by_cases e:k=i
  ·subst e;rw[di];exact bh.ref _ (h.s k hk)
  ·rw[fj _ _ e];exact h.s k hk
 ·exact h
theorem o8{x:RV}(hx:0≤x.ma)(c ve now:Int):0≤(aw9 x c ve now).1.ma:=by
 unfold aw9;refine iC (x:=x) hx (fun _=>?_);unfold awA ik;repeat' (first|exact hx|split)
theorem KOk.hearM{j:Nat}{x:KV}(h:KOk j x)(c:Int)(m:MV)(b:List UInt8):KOk j (ep x c m b):=by
 unfold ep
 split
 ·exact h
 ·rename_i r hr
  split
  ·unfold iA
   split
   ·exact h.chg _ (o8 (h.ma _ _ hr) _ _ _)
   ·exact h
  ·split
   ·unfold iB
    split
    ·exact h
    ·split
     ·refine⟨h.wf,h.ma,h.bt,h.sp,h.no,fun k hk=>?_,h.b,h.m,h.sf⟩;show bh j (aF x.S r.ow.toNat (bL (x.S r.ow.toNat) b) k);by_cases e:k=r.ow.toNat
      ·rw[e,di];exact(h.s _ (by omega)).push b
      ·rw[fj _ _ e];exact h.s k hk
     ·exact h
   ·exact h
theorem KOk.hear{j:Nat}{x:KV}(h:KOk j x)(c:Int)(got:Bool)(b:List UInt8):KOk j (cA x c got b).2:=by
 unfold cA
 split
 ·split
  ·exact h.hearM _ _ _
  ·exact h
 ·exact h
theorem KOk.take{j:Nat}{x:KV}(h:KOk j x)(c:Int)(b:List UInt8):KOk (j+1) (au x c b).2.2:=by
 unfold au
 split
 ·exact h.le (by omega)
 ·unfold lz
  split
  ·split
   ·unfold jv
    split
    ·exact((h.tk _ _).ref _).hear _ _ _
    ·exact h.le (by omega)
   ·exact h.le (by omega)
  ·exact h.le (by omega)
theorem nY{w:World}{lab:Nat→Nat}{n p:Nat}{s:SV}(h:dY w lab n p s)(hok:SOk s)(l:LV)(B:Option Addr)(k kc:Nat)(S:Nat→Prop)(hk:k=l.b.length)(hr:Rds w S B k (bcs l.b))(hz:1≤k→B=none→kc=0)(hm:k≤9223372036854775807)(hS:∀q,S q→lab q≠n):
  Calls Tryz.prog 65 #[.pointer (some ⟨p,0,none⟩),.agg (ltC l.mi l.pe l.ac l.se B k kc)] w fun e w'=>∃A c lab',e=.returned (.tuple #[.agg (tkC A (tkB s l).length c (dP s l) (el s l)),U Z (tkE s l)])∧(A=none→c=0)∧Rds w' (fun k=>w.heap.size≤k) A (tkB s l).length (bcs (tkB s l))∧dY w' lab' n p (tkS s l)∧am (fun m=>m=n) lab lab' w w'∧ev lab' w'∧∀q,w.heap.size≤q→lab' q=30∨lab' q=0:=by
 obtain⟨o,G,hs,h1,h2,h3⟩:=h;refine(rY p o G s l B k kc S w hs hok hk hr hz hm (fun e=>hS _ e h1) (fun q hq e=>hS _ e (h2 q hq))).mono ?_;rintro e w' ⟨A,c,he,hz',hrd,hsm⟩;obtain⟨lab',g1,g2,g3,g4⟩:=uJ hs h1 h2 h3 hsm;exact⟨A,c,lab',he,hz',hrd,g1,g2,g3,g4⟩
def xZ(lab:Nat→Nat)(c ps pj pf:Nat)(P:Nat→Nat)(x:KV)(i:Nat)(y:SV)(bb:List UInt8)(got res:Bool)(er:Int)(wr:World)(s12 s10:Value)(wx:World):Prop:=
 ∃Q A tc lab1,s12=.pointer (some ⟨Q,0,none⟩)∧s10=U Z er∧Blk wx Q 126 (tkC A bb.length tc got res)∧(A=none→tc=0)∧Rds wx (fun k=>lab1 k=30∨lab1 k=0) A bb.length (bcs bb)∧KP wx lab1 c ps pj pf P {x with S:=aF x.S i y}∧am (fun n=>n=5+i) lab lab1 wr wx∧wr.heap.size≤Q∧lab1 Q=0
def yU(lab:Nat→Nat)(c pj pf:Nat)(P:Nat→Nat)(r:MV×Int×KV)(w:World)(e:Ending)(w':World):Prop:=
 ∃(ps':Nat) (lab':Nat→Nat) (A:Option Addr) (rc:Nat),e=.returned (.tuple #[.agg (msC r.1.kd r.1.po r.1.ma r.1.ow r.1.ta r.1.ol r.1.ge r.1.ph r.1.ve r.1.si r.1.pt r.1.vr A r.1.l.length rc),U Z r.2.1])∧RcR w' (fun k=>w.heap.size≤k) A r.1.l.length r.1.l∧KP w' lab' c ps' pj pf P r.2.2∧am (fun n=>1≤n∧n≤20) lab lab' w w'
theorem KP.frs17{N:Nat→Prop}{lab lab1:Nat→Nat}{w w1 w2:World}{c ps pj pf:Nat}{P:Nat→Nat}{y:KV}{q:Nat}(h:KP w1 lab1 c ps pj pf P y)(m:am N lab lab1 w w1)(hc:Chg (fun k=>k=q) w1 w2)(hq:lab1 q=0)(hw:w.heap.size≤q):KP w2 lab1 c ps pj pf P y∧am N lab lab1 w w2:=
 ⟨h.mv (N:=fun n=>n=0) (⟨hc.mono (fun k _ e=>by rw[e];exact hq),fun _ _=>rfl⟩) (h.q.lt.new hc.size) (by decide) (by decide) (by decide) (by decide) (fun i _=>by omega) (by decide),m.put hc (fun hlt=>absurd hlt (by omega))⟩
theorem qG{w:World}{lab:Nat→Nat}{c ps pj pf:Nat}{P:Nat→Nat}{x:KV}{j:Nat}(h:KP w lab c ps pj pf P x)(ho:KOk j x)(hj:j≤100000)(ch:Int)(A:Option Addr)(n bc:Nat)(b:List UInt8)(Sb:Nat→Prop)(hm:n=b.length)(hr:Rds w Sb A n (bcs b))(hz:A=none→bc=0)(hm2:n≤9223372036854775807):Calls Tryz.prog 31 #[.pointer (some ⟨c,0,none⟩),U Z ch,.slice A n bc] w (yU lab c pj pf P (au x ch b) w):=by
 have hc0:=(Chg.refl (fun _=>False) w).alloc (.cells #[U Z 0,U Z 0,U .u64 0,U Z 0,U Z 0,U Z 0,U Z 0,U Z 0,U Z 0,U Z 0,U Z 0,U Z 0,.slice none 0 0] 74);have HK:=hd_ (h.new hc0);have HZ:Hid (Blk (w.alloc (.cells #[U Z 0,U Z 0,U .u64 0,U Z 0,U Z 0,U Z 0,U Z 0,U Z 0,U Z 0,U Z 0,U Z 0,U Z 0,.slice none 0 0] 74)) w.heap.size 74 (msC 0 0 0 0 0 0 0 0 0 0 0 0 none 0 0)):=hd_ (af rfl);have HX:=hd_ hc0;have HLZ:Hid (lab w.heap.size=0):=hd_ (h.q.lt _ (zG _));have HLT:=hd_ h.q.lt;have HO:=hd_ ho;have HJ:=hd_ hj;have HD0:=hd_ (fun W hW=>sc A n bc b Sb W hm (hr.old.chg hW (fun _ _=>id) |>.mono (S':=Sb) (fun k hk=>hk.1)) hz hm2);have HG:=hd_ (fP HK.out);clear h ho hj hm hr hz hm2 hc0
 cases hst:x.st with
 |true=>
  have HT:Hid (au x ch b=(MV.zero,13,x)):=hd_ (by unfold au;rw[hst];rfl);rw[hst,show gy true=13 from rfl]at HG;clear hst HD0;go_in;go_upto_region 1 with fail;generalize w.alloc (.cells #[U Z 0,U Z 0,U .u64 0,U Z 0,U Z 0,U Z 0,U Z 0,U Z 0,U Z 0,U Z 0,U Z 0,U Z 0,.slice none 0 0] 74)=w1 at*;generalize hq1:w.heap.size=Q1 at HZ HLZ⊢;have HQ:Hid (w.heap.size≤Q1):=hd_ (by omega);clear hq1;go_wp2_with fail;refine HG.out.mono ?_;rintro e w2 ⟨rfl,rfl⟩;obtain⟨x0,x1,x2,x3,x4,x5,x6,x7,x8,x9,x10,x11,x12⟩:=ai HZ.out;obtain⟨u0,u1,u2,u3,u4,u5,u6,u7,u8,u9,u10,u11,u12⟩:=aS HZ.out;obtain⟨r0,r1,r2,r3,r4,r5,r6,r7,r8,r9,r10,r11,r12,-,hcs⟩:=bx HZ.out 0 0 0 0 0 0 0 0 0 0 0 0 none 0 0;have RR:=cr r0 r1 r2 r3 r4 r5 r6 r7 r8 r9 r10 r11 r12;have HCS:=hd_ hcs;clear r0 r1 r2 r3 r4 r5 r6 r7 r8 r9 r10 r11 r12 hcs;go_wp2_with fail;obtain⟨r0,r1,r2,r3,r4,r5,r6,r7,r8,r9,r10,r11,r12⟩:=RR.out;obtain⟨hk,hm⟩:=KP.fr17 HK.out (am.of HX.out) HCS.out HLZ.out HQ.out;exact AW (v:=.tuple #[.agg #[U Z 0,U Z 0,U .u64 0,U Z 0,U Z 0,U Z 0,U Z 0,U Z 0,U Z 0,U Z 0,U Z 0,U Z 0,.slice none 0 0],U Z 13]) (by simp[results,Tryz.results31,go_sem,r0,r1,r2,r3,r4,r5,r6,r7,r8,r9,r10,r11,r12]) rfl ⟨ps,lab,none,0,by rw[HT.out];first|done|rfl,by rw[HT.out];exact(RcR.nil17 _ _),by rw[HT.out];exact hk,hm⟩
 |false=>
  have HTA:Hid (au x ch b=if eV x.t.C ch=0 then(if jX b=0 then jv x ch (jL b)else(MV.zero,jX b,x))else(MV.zero,eV x.t.C ch,x)):=hd_ (by unfold au;rw[hst];rfl);rw[hst,show gy false=0 from rfl]at HG;clear hst;go_in;go_upto_region 1 with fail;have HSW:=hd_ HX.out.size;have HFR:=hd_ (qD HK.out ch);generalize w.alloc (.cells #[U Z 0,U Z 0,U .u64 0,U Z 0,U Z 0,U Z 0,U Z 0,U Z 0,U Z 0,U Z 0,U Z 0,U Z 0,.slice none 0 0] 74)=w1 at*;generalize hq1:w.heap.size=Q1 at HZ HLZ⊢;have HQ:Hid (w.heap.size≤Q1):=hd_ (by omega);clear hq1;go_wp2_with fail;refine HG.out.mono ?_;rintro e w2 ⟨rfl,rfl⟩;unfold vp at HFR;generalize eV x.t.C ch=fe at*;go_wp2_with fail;refine HFR.out.mono ?_;rintro e w3 ⟨pv,rfl,hww,hfe⟩;have HFE:=hd_ hfe;have HWW:=hd_ hww;clear hfe HFR hww;by_cases hf:fe=0
  case neg=>
   have te:(fe !=0)=true:=by simpa using hf
   have HT:=hd_ (HTA.out.trans (if_neg hf));clear hf HD0 HFE;have hww:=HWW.out;subst hww;obtain⟨x0,x1,x2,x3,x4,x5,x6,x7,x8,x9,x10,x11,x12⟩:=ai HZ.out;obtain⟨u0,u1,u2,u3,u4,u5,u6,u7,u8,u9,u10,u11,u12⟩:=aS HZ.out;obtain⟨r0,r1,r2,r3,r4,r5,r6,r7,r8,r9,r10,r11,r12,-,hcs⟩:=bx HZ.out 0 0 0 0 0 0 0 0 0 0 0 0 none 0 0;have RR:=cr r0 r1 r2 r3 r4 r5 r6 r7 r8 r9 r10 r11 r12;have HCS:=hd_ hcs;clear r0 r1 r2 r3 r4 r5 r6 r7 r8 r9 r10 r11 r12 hcs;go_wp2_with fail;obtain⟨r0,r1,r2,r3,r4,r5,r6,r7,r8,r9,r10,r11,r12⟩:=RR.out;obtain⟨hk,hm⟩:=KP.fr17 HK.out (am.of HX.out) HCS.out HLZ.out HQ.out;exact AW (v:=.tuple #[.agg #[U Z 0,U Z 0,U .u64 0,U Z 0,U Z 0,U Z 0,U Z 0,U Z 0,U Z 0,U Z 0,U Z 0,U Z 0,.slice none 0 0],U Z fe]) (by simp[results,Tryz.results31,go_sem,r0,r1,r2,r3,r4,r5,r6,r7,r8,r9,r10,r11,r12]) rfl ⟨ps,lab,none,0,by rw[HT.out];first|done|rfl,by rw[HT.out];exact(RcR.nil17 _ _),by rw[HT.out];exact hk,hm⟩
  case pos=>
   obtain⟨i,hci,hi,hpv⟩:=HFE.out hf;have hww:=HWW.out;subst hww hf hci hpv;have HI:=hd_ hi;replace HTA:=hd_ (HTA.out.trans (if_pos rfl));have HD:=hd_ (HD0.out _ HX.out);clear hi HFE HD0 HWW;go_wp2_with fail;refine HD.out.mono ?_;rintro e w4 hp;unfold fJ at hp;have hlb:=xE b;generalize jX b=xb at*;generalize jL b=l at*;obtain⟨lm,lp,la,ls,lb⟩:=l;obtain⟨B,kc,rfl,hrd,hc⟩:=hp;simp only at hrd;have HLB:=hd_ (show lb.length≤1000 from hlb);replace HK:=hd_ (HK.out.new hc);replace HZ:=hd_ (HZ.out.chg hc id);have HS34:=hd_ hc.size;replace HX:=hd_ (HX.out.tr hc);have HRD:=hd_ hrd;clear hlb hrd hc HD;generalize hk:lb.length=k at*;have HKL:=hd_ hk;clear hk;unfold ltC;go_upto_region 8 with fail;have HB:Hid (Blk (w4.alloc (.cells #[U Z lm,U Z lp,U Z la,U Z ls,.slice B k kc] 122)) w4.heap.size 122 (ltC lm lp la ls B k kc)):=hd_ (af rfl);have hc:=(Chg.refl (fun _=>False) w4).alloc (.cells #[U Z lm,U Z lp,U Z la,U Z ls,.slice B k kc] 122);have HLL:Hid (lab w4.heap.size=0):=hd_ (HLT.out _ (by have:=HSW.out;have:=HS34.out;omega));have HLB0:Hid (∀q,w1.heap.size≤q→lab q=0):=hd_ (fun q hq=>HLT.out q (by have:=HSW.out;omega));replace HK:=hd_ (HK.out.new hc);replace HZ:=hd_ (HZ.out.chg hc id);replace HX:=hd_ (HX.out.tr hc);replace HRD:=hd_ (HRD.out.chg hc (fun _ _=>id));clear hc;have HSR:Hid (w1.heap.size≤(w4.alloc (.cells #[U Z lm,U Z lp,U Z la,U Z ls,.slice B k kc] 122)).heap.size):=hd_ (by have:=HS34.out;simp;omega);generalize w4.alloc (.cells #[U Z lm,U Z lp,U Z la,U Z ls,.slice B k kc] 122)=wr at*;generalize hql:w4.heap.size=QL at HB HLL⊢;clear hql;by_cases hx:xb=0
   case neg=>
    have tx:(xb !=0)=true:=by simpa using hx
    have HT:=hd_ (HTA.out.trans (if_neg hx));clear hx;obtain⟨x0,x1,x2,x3,x4,x5,x6,x7,x8,x9,x10,x11,x12⟩:=ai HZ.out;obtain⟨u0,u1,u2,u3,u4,u5,u6,u7,u8,u9,u10,u11,u12⟩:=aS HZ.out;obtain⟨r0,r1,r2,r3,r4,r5,r6,r7,r8,r9,r10,r11,r12,-,hcs⟩:=bx HZ.out 0 0 0 0 0 0 0 0 0 0 0 0 none 0 0;have RR:=cr r0 r1 r2 r3 r4 r5 r6 r7 r8 r9 r10 r11 r12;have HCS:=hd_ hcs;clear r0 r1 r2 r3 r4 r5 r6 r7 r8 r9 r10 r11 r12 hcs;go_wp2_with fail;obtain⟨r0,r1,r2,r3,r4,r5,r6,r7,r8,r9,r10,r11,r12⟩:=RR.out;obtain⟨hk,hm⟩:=KP.fr17 HK.out (am.of HX.out) HCS.out HLZ.out HQ.out;exact AW (v:=.tuple #[.agg #[U Z 0,U Z 0,U .u64 0,U Z 0,U Z 0,U Z 0,U Z 0,U Z 0,U Z 0,U Z 0,U Z 0,U Z 0,.slice none 0 0],U Z xb]) (by simp[results,Tryz.results31,go_sem,r0,r1,r2,r3,r4,r5,r6,r7,r8,r9,r10,r11,r12]) rfl ⟨ps,lab,none,0,by rw[HT.out];first|done|rfl,by rw[HT.out];exact(RcR.nil17 _ _),by rw[HT.out];exact hk,hm⟩
   case pos=>
    subst hx;replace HTA:=hd_ (HTA.out.trans (if_pos rfl))
    have htk:=fun W (hW:Chg (fun _=>False) wr W)=>nY ((HK.out.new hW).ln i HI.out) ((HO.out.s i HI.out).ok (by have:=HJ.out;omega)) ⟨lm,lp,la,ls,lb⟩ B k kc (fun q=>w1.heap.size≤q) HKL.out.symm (HRD.out.chg hW (fun _ _=>id)) (fun h1 h2=>by
     obtain⟨ad,e,_⟩:=HRD.out.2 (by omega);rw[h2]at e
     cases e) (by have:=HLB.out;omega) (fun q hq=>by rw[HLB0.out q hq];omega)
    unfold ltC tkC at htk;have HNO:=hd_ (fun h=>uQ (s:=x.S i) (l:=⟨lm,lp,la,ls,lb⟩) h);have HTI:Hid (au x (i:Int) b=if tkE (x.S i) ⟨lm,lp,la,ls,lb⟩=0 then((cA (c_ {x with S:=aF x.S i (tkS (x.S i) ⟨lm,lp,la,ls,lb⟩),B:=aF x.B i (x.B i||el (x.S i) ⟨lm,lp,la,ls,lb⟩)} i) (i:Int) (dP (x.S i) ⟨lm,lp,la,ls,lb⟩) (tkB (x.S i) ⟨lm,lp,la,ls,lb⟩)).1,0,(cA (c_ {x with S:=aF x.S i (tkS (x.S i) ⟨lm,lp,la,ls,lb⟩),B:=aF x.B i (x.B i||el (x.S i) ⟨lm,lp,la,ls,lb⟩)} i) (i:Int) (dP (x.S i) ⟨lm,lp,la,ls,lb⟩) (tkB (x.S i) ⟨lm,lp,la,ls,lb⟩)).2)else(MV.zero,tkE (x.S i) ⟨lm,lp,la,ls,lb⟩,x)):=hd_ HTA.out
    have HBBL:=hd_ (show (tkB (x.S i) ⟨lm,lp,la,ls,lb⟩).length≤1000 from by
     unfold tkB
     split
     ·have:=HLB.out;have:=HKL.out;simp only;omega
     ·simp)
    have HO1:=hd_ (show KOk (j+1) {x with S:=aF x.S i (tkS (x.S i) ⟨lm,lp,la,ls,lb⟩),B:=aF x.B i (x.B i||el (x.S i) ⟨lm,lp,la,ls,lb⟩)}from HO.out.tk i ⟨lm,lp,la,ls,lb⟩);generalize tkE (x.S i) ⟨lm,lp,la,ls,lb⟩=er at*;generalize el (x.S i) ⟨lm,lp,la,ls,lb⟩=res at*;generalize dP (x.S i) ⟨lm,lp,la,ls,lb⟩=got at*;generalize tkB (x.S i) ⟨lm,lp,la,ls,lb⟩=bb at*;generalize tkS (x.S i) ⟨lm,lp,la,ls,lb⟩=sy at*;obtain⟨hh,hhe⟩:∃hh,cA (c_ {x with S:=aF x.S i sy,B:=aF x.B i (x.B i||res)} i) (i:Int) got bb=hh:=⟨_,rfl⟩;rw[hhe]at HTI;have HHQ:=hd_ hhe;have HTK:=hd_ htk;clear htk hhe HTA
    have HKEEP:Hid (∀W:World,Chg (fun k=>lab k=5+i∨k=wr.heap.size) wr W→(W.cell? ⟨QL,0,none⟩=some (U Z lm)∧W.cell? ⟨QL,1,none⟩=some (U Z lp)∧W.cell? ⟨QL,2,none⟩=some (U Z la)∧W.cell? ⟨QL,3,none⟩=some (U Z ls)∧W.cell? ⟨QL,4,none⟩=some (.slice B k kc)∧W.cell? ⟨c,5+i*2,none⟩=some (.pointer (some ⟨P i,0,none⟩)))):=hd_ (fun W hw=>by
     have hbl:=HB.out.lt;obtain⟨y0,y1,y2,y3,y4⟩:=aW (HB.out.chg hw (by rw[HLL.out];omega));have hcl:=HK.out.q.cb.lt
     exact⟨y0,y1,y2,y3,y4,((HK.out.q.cb.chg hw (by rw[HK.out.q.lc];omega)).line HI.out).1⟩)
    have HXA:=hd_ (Chg.refl (fun _=>False) wr).drew;have HXA2:=hd_ (((Chg.refl (fun _=>False) wr).alloc (.cells #[.slice none 0 0,.bool false,.bool false] 126)).drew);have HYA:=hd_ ((Chg.refl (fun k=>lab k=5+i∨k=wr.heap.size) wr).drew);have HYA2:=hd_ (((Chg.refl (fun k=>lab k=5+i∨k=wr.heap.size) wr).alloc (.cells #[.slice none 0 0,.bool false,.bool false] 126)).drew);have HNA:Hid (Blk (wr.alloc (.cells #[.slice none 0 0,.bool false,.bool false] 126)).drew wr.heap.size 126 (tkC none 0 0 false false)):=hd_ (af rfl).drew;have HLW:Hid (lab wr.heap.size=0):=hd_ (HLB0.out _ HSR.out);go_upto_region 10 with fail
    go_cut [12,10] (fun s12 s10 wx=>xZ lab c ps pj pf P x i sy bb got res er wr s12 s10 wx)
    case first=>
     obtain⟨g0,g1,g2,g3,g4,g5⟩:=HKEEP.out _ HYA.out
     go_region_held3 (fun w'=>(w'.cell? ⟨QL,0,none⟩=some (U Z lm)∧w'.cell? ⟨QL,1,none⟩=some (U Z lp)∧w'.cell? ⟨QL,2,none⟩=some (U Z la)∧w'.cell? ⟨QL,3,none⟩=some (U Z ls)∧w'.cell? ⟨QL,4,none⟩=some (.slice B k kc)∧w'.cell? ⟨c,5+i*2,none⟩=some (.pointer (some ⟨P i,0,none⟩))))
      (first|with_reducible exact HKEEP.out _ HYA.out|with_reducible exact HKEEP.out _ HYA2.out|with_reducible exact HKEEP.out _ HXB.out|with_reducible exact HKEEP.out _ (HXB.out.alloc _)|with_reducible exact HKEEP.out _ HXC.out|with_reducible exact HKEEP.out _ HXD.out|fail)
      (first
       |(go_at_call 65;(with_reducible refine(HTK.out wr.drew HXA.out).mono ?_);rintro e wz ⟨E,ec,lab1,rfl,hz1,hr1,hs,hm,hl,hn⟩;have HK1:=hd_ ((HK.out.new HXA.out).sess HI.out hs hm hl);have HM1:=hd_ ((am.of (N:=fun n=>n=5+i) HXA.out).trans hm);have HZ1:=hd_ hz1;have HR1:=hd_ (hr1.mono hn);have HXB:=hd_ (HYA.out.trans hm.1 (fun _ _ e=>.inl e));have HL1:=hd_ hl;clear hz1 hr1 hs hm hl hn)
       |(go_at_call 65;(with_reducible refine(HTK.out (wr.alloc (.cells #[.slice none 0 0,.bool false,.bool false] 126)).drew HXA2.out).mono ?_);rintro e wz ⟨E,ec,lab1,rfl,hz1,hr1,hs,hm,hl,hn⟩;have hk1:=(HK.out.new HXA2.out).sess HI.out hs hm hl;have HM1:=hd_ ((am.of (N:=fun n=>n=5+i) HXA2.out).trans hm);have HXC:=hd_ (HYA2.out.trans hm.1 (fun _ _ e=>.inl e));have HNC:=hd_ (HNA.out.chg hm.1 (by rw[HLW.out];omega));have hlq:=(hm.2 _ HNA.out.lt).trans HLW.out;obtain⟨x0,x1,x2⟩:=aT HNC.out;obtain⟨u0,u1,u2⟩:=dz HNC.out;obtain⟨-,-,-,hset,hcs⟩:=eS HNC.out E bb.length ec got res;have hrr:=hr1.chg hcs (fun q hq e=>by have:=HNA.out.lt;omega);have HXD:=hd_ (HXC.out.trans (hcs.mono (S':=fun k=>lab k=5+i∨k=wr.heap.size) (fun _ _ e=>.inr e)) (fun _ _ e=>e));have hfr:=KP.frs17 hk1 HM1.out hcs hlq (zG _);have HWB:Hid (xZ lab c ps pj pf P x i sy bb got res er wr (.pointer (some ⟨wr.heap.size,0,none⟩)) (U Z er) (((wz.setCell ⟨wr.heap.size,0,none⟩ (.slice E bb.length ec)).setCell ⟨wr.heap.size,1,none⟩ (.bool got)).setCell ⟨wr.heap.size,2,none⟩ (.bool res))):=hd_ ⟨_,E,ec,lab1,rfl,rfl,hset,hz1,hrr.mono hn,hfr.1,hfr.2,zG _,hlq⟩;clear hz1 hr1 hs hm hl hn hk1 hlq hset hcs hrr hfr)
       |fail)
     all_goals
      go_wp2_with fail
      go_meet
      first
       |exact HWB.out
       |exact⟨wz.heap.size,E,ec,lab1,rfl,rfl,af rfl,HZ1.out,HR1.out.alloc _,HK1.out.new ((Chg.refl _ _).alloc _),HM1.out.trans (am.of ((Chg.refl _ _).alloc _)),HM1.out.1.size,HL1.out _ (zG _)⟩
    case rest=>
     obtain⟨QT,E,ec,lab1,rfl,rfl,hb,hz1,hr1,hk1,hm1,hq1,hlq1⟩:=hcut;have HBT:=hd_ hb;have HZ1:=hd_ hz1;have HR1:=hd_ hr1;have HK1:=hd_ hk1;have HLT1:=hd_ hlq1;have HLZ1:=hd_ ((hm1.2 _ HZ.out.lt).trans HLZ.out);replace HZ:=hd_ (HZ.out.chg hm1.1 (by rw[HLZ.out];omega));have HM1:=hd_ ((am.of (N:=fun n=>1≤n∧n≤20) HX.out).trans (hm1.mono (fun n e=>by have:=HI.out;omega)));clear hb hz1 hr1 hk1 hm1 hq1 hlq1 HKEEP HXA HXA2 HNA HYA HYA2 HTK HB HRD HK HX;by_cases her:er=0
     case neg=>
      have te:(er !=0)=true:=by simpa using her
      have HT:=hd_ (HTI.out.trans (if_neg her));have HSY:=hd_ (HNO.out her);have HKX:Hid (KP wc lab1 c ps pj pf P x):=hd_ (by have h:=HK1.out;rw[HSY.out,oY]at h;exact h);clear her;obtain⟨x0,x1,x2,x3,x4,x5,x6,x7,x8,x9,x10,x11,x12⟩:=ai HZ.out;obtain⟨u0,u1,u2,u3,u4,u5,u6,u7,u8,u9,u10,u11,u12⟩:=aS HZ.out;obtain⟨r0,r1,r2,r3,r4,r5,r6,r7,r8,r9,r10,r11,r12,-,hcs⟩:=bx HZ.out 0 0 0 0 0 0 0 0 0 0 0 0 none 0 0;have RR:=cr r0 r1 r2 r3 r4 r5 r6 r7 r8 r9 r10 r11 r12;have HCS:=hd_ hcs;clear r0 r1 r2 r3 r4 r5 r6 r7 r8 r9 r10 r11 r12 hcs;go_wp2_with fail;obtain⟨r0,r1,r2,r3,r4,r5,r6,r7,r8,r9,r10,r11,r12⟩:=RR.out;obtain⟨hk,hm⟩:=KP.fr17 HKX.out HM1.out HCS.out HLZ1.out HQ.out;exact AW (v:=.tuple #[.agg #[U Z 0,U Z 0,U .u64 0,U Z 0,U Z 0,U Z 0,U Z 0,U Z 0,U Z 0,U Z 0,U Z 0,U Z 0,.slice none 0 0],U Z er]) (by simp[results,Tryz.results31,go_sem,r0,r1,r2,r3,r4,r5,r6,r7,r8,r9,r10,r11,r12]) rfl ⟨ps,lab1,none,0,by rw[HT.out];first|done|rfl,by rw[HT.out];exact(RcR.nil17 _ _),by rw[HT.out];exact hk,hm⟩
     case pos=>
      subst her;replace HTI:=hd_ (HTI.out.trans (if_pos rfl));have l1:=(HK1.out.q.cb.line HI.out).2;have f1:=HK1.out.q.cb.free (5+i*2+1);obtain⟨t0,t1,t2⟩:=aT HBT.out;have hcs:=(Chg.refl (fun k=>k=c) wc).put c (5+i*2+1) (fun _=>rfl) (.bool (x.B i||res));have HK2:=hd_ (HK1.out.own (y:={x with S:=aF x.S i sy,B:=aF x.B i (x.B i||res)}) hcs (HK1.out.q.cb.setB HI.out (x.B i||res)) ⟨rfl,rfl⟩ ⟨rfl,rfl,rfl⟩ rfl);have hlc1:=HK1.out.q.lc;have HM2:=hd_ (HM1.out.put hcs (fun hlt=>by rw[←HM1.out.2 _ hlt,hlc1];decide))
      have hnq:∀{q:Nat},lab1 q=0→¬q=c:=fun{q} e e2=>by rw[e2,hlc1]at e;cases e
      have HBT2:=hd_ (HBT.out.chg hcs (hnq HLT1.out));have HZ2:=hd_ (HZ.out.chg hcs (hnq HLZ1.out));have HR2:=hd_ (HR1.out.chg hcs (fun q hq e=>by rw[e,hlc1]at hq;rcases hq with h|h<;>cases h));clear hlc1 hnq hcs HBT HZ HR1 HK1 HM1;dsimp only at l1;generalize x.B i=bi at*;generalize hnb:(bi||res)=nb at*
      cases bi with
      |true=>
       obtain rfl:nb=true:=hnb.symm;have HHX:Hid (cA (c_ {x with S:=aF x.S i sy,B:=aF x.B i true} i) (i:Int) got bb=hh):=hd_ HHQ.out;go_upto_region 14 with fail;generalize wc.setCell ⟨c,5+i*2+1,none⟩ (.bool true)=w2b at*;have HZ:=HZ2;have HRF:=hd_ (gz HK2.out HO1.out i HI.out);clear l1 f1 t0 t1 t2;go_wp2_with fail;refine HRF.out.mono ?_;rintro e w5 ⟨rfl,lab2,hk3,hm3⟩;have HO2:=hd_ (HO1.out.ref i);have HBT3:=hd_ (HBT2.out.chg hm3.1 (by rw[HLT1.out];omega));have HLZ3:=hd_ ((hm3.2 _ HZ2.out.lt).trans HLZ1.out);have HZ3:=hd_ (HZ2.out.chg hm3.1 (by rw[HLZ1.out];omega));have HR3:=hd_ (HR2.out.chg hm3.1 (fun q hq=>by have:=HI.out;omega));have HM3:=hd_ (HM2.out.trans (hm3.mono (fun n e=>by have:=HI.out;omega)));have HHE:=hd_ (iE hk3 HO2.out (i:Int) E bb.length ec bb got res _ rfl HR3.out HZ1.out (by have:=HBBL.out;omega));have HEX:=HHX;rw[HEX.out]at HHE;have HZL:=hd_ HZ3.out.lt;clear hk3 hm3 HRF HZ2 HR2 HBT2 HK2 HEX;obtain⟨t0,t1,t2⟩:=aT HBT3.out;obtain⟨⟨kd,po,ma,ow,ta,ol,ge,ph,ve,si,pt,vr,l⟩,yy⟩:=hh;unfold mt msC at HHE;simp only at HHE;generalize hml:l.length=ml at*;have HML:=hd_ hml;clear hml;go_wp2_with fail;refine HHE.out.mono ?_;rintro e w6 ⟨ps4,lab4,D,dc,rfl,hrc,hk4,hm4⟩;have HLZ4:=hd_ ((hm4.2 _ HZ3.out.lt).trans HLZ3.out);have HZ:=hd_ (HZ3.out.chg hm4.1 (by rw[HLZ3.out];decide));have HRC:=hd_ hrc;have HK4:=hd_ hk4;have HM4:=hd_ (HM3.out.trans hm4);have HWS:=hd_ HM3.out.1.size;clear hrc hk4 hm4 HHE HZ3 HM3 t0 t1 t2;obtain⟨x0,x1,x2,x3,x4,x5,x6,x7,x8,x9,x10,x11,x12⟩:=ai HZ.out;obtain⟨u0,u1,u2,u3,u4,u5,u6,u7,u8,u9,u10,u11,u12⟩:=aS HZ.out;obtain⟨r0,r1,r2,r3,r4,r5,r6,r7,r8,r9,r10,r11,r12,-,hcs⟩:=bx HZ.out kd po ma ow ta ol ge ph ve si pt vr D ml dc;have RR:=cr r0 r1 r2 r3 r4 r5 r6 r7 r8 r9 r10 r11 r12;have HCS:=hd_ hcs;clear r0 r1 r2 r3 r4 r5 r6 r7 r8 r9 r10 r11 r12 hcs;go_wp2_with fail;obtain⟨r0,r1,r2,r3,r4,r5,r6,r7,r8,r9,r10,r11,r12⟩:=RR.out;have hml:=HML.out;subst hml;obtain⟨hk,hm⟩:=KP.fr17 HK4.out HM4.out HCS.out HLZ4.out HQ.out;exact AW (v:=.tuple #[.agg #[U Z kd,U Z po,U .u64 ma,U Z ow,U Z ta,U Z ol,U Z ge,U Z ph,U Z ve,U Z si,U Z pt,U Z vr,.slice D l.length dc],U Z 0]) (by simp[results,Tryz.results31,go_sem,r0,r1,r2,r3,r4,r5,r6,r7,r8,r9,r10,r11,r12]) rfl ⟨ps4,lab4,D,dc,by rw[HTI.out];first|done|rfl,by rw[HTI.out];exact((HRC.out.chg HCS.out (fun q hq e=>by have:=HZL.out;omega)).mono (fun q hq=>zH HWS.out hq)),by rw[HTI.out];exact hk,hm⟩
      |false=>
       obtain rfl:res=nb:=hnb
       cases res with
       |true=>
        have HHX:Hid (cA (c_ {x with S:=aF x.S i sy,B:=aF x.B i true} i) (i:Int) got bb=hh):=hd_ HHQ.out;go_upto_region 14 with fail;generalize wc.setCell ⟨c,5+i*2+1,none⟩ (.bool true)=w2b at*;have HZ:=HZ2;have HRF:=hd_ (gz HK2.out HO1.out i HI.out);clear l1 f1 t0 t1 t2;go_wp2_with fail;refine HRF.out.mono ?_;rintro e w5 ⟨rfl,lab2,hk3,hm3⟩;have HO2:=hd_ (HO1.out.ref i);have HBT3:=hd_ (HBT2.out.chg hm3.1 (by rw[HLT1.out];omega));have HLZ3:=hd_ ((hm3.2 _ HZ2.out.lt).trans HLZ1.out);have HZ3:=hd_ (HZ2.out.chg hm3.1 (by rw[HLZ1.out];omega));have HR3:=hd_ (HR2.out.chg hm3.1 (fun q hq=>by have:=HI.out;omega));have HM3:=hd_ (HM2.out.trans (hm3.mono (fun n e=>by have:=HI.out;omega)));have HHE:=hd_ (iE hk3 HO2.out (i:Int) E bb.length ec bb got true _ rfl HR3.out HZ1.out (by have:=HBBL.out;omega));have HEX:=HHX;rw[HEX.out]at HHE;have HZL:=hd_ HZ3.out.lt;clear hk3 hm3 HRF HZ2 HR2 HBT2 HK2 HEX;obtain⟨t0,t1,t2⟩:=aT HBT3.out;obtain⟨⟨kd,po,ma,ow,ta,ol,ge,ph,ve,si,pt,vr,l⟩,yy⟩:=hh;unfold mt msC at HHE;simp only at HHE;generalize hml:l.length=ml at*;have HML:=hd_ hml;clear hml;go_wp2_with fail;refine HHE.out.mono ?_;rintro e w6 ⟨ps4,lab4,D,dc,rfl,hrc,hk4,hm4⟩;have HLZ4:=hd_ ((hm4.2 _ HZ3.out.lt).trans HLZ3.out);have HZ:=hd_ (HZ3.out.chg hm4.1 (by rw[HLZ3.out];decide));have HRC:=hd_ hrc;have HK4:=hd_ hk4;have HM4:=hd_ (HM3.out.trans hm4);have HWS:=hd_ HM3.out.1.size;clear hrc hk4 hm4 HHE HZ3 HM3 t0 t1 t2;obtain⟨x0,x1,x2,x3,x4,x5,x6,x7,x8,x9,x10,x11,x12⟩:=ai HZ.out;obtain⟨u0,u1,u2,u3,u4,u5,u6,u7,u8,u9,u10,u11,u12⟩:=aS HZ.out;obtain⟨r0,r1,r2,r3,r4,r5,r6,r7,r8,r9,r10,r11,r12,-,hcs⟩:=bx HZ.out kd po ma ow ta ol ge ph ve si pt vr D ml dc;have RR:=cr r0 r1 r2 r3 r4 r5 r6 r7 r8 r9 r10 r11 r12;have HCS:=hd_ hcs;clear r0 r1 r2 r3 r4 r5 r6 r7 r8 r9 r10 r11 r12 hcs;go_wp2_with fail;obtain⟨r0,r1,r2,r3,r4,r5,r6,r7,r8,r9,r10,r11,r12⟩:=RR.out;have hml:=HML.out;subst hml;obtain⟨hk,hm⟩:=KP.fr17 HK4.out HM4.out HCS.out HLZ4.out HQ.out;exact AW (v:=.tuple #[.agg #[U Z kd,U Z po,U .u64 ma,U Z ow,U Z ta,U Z ol,U Z ge,U Z ph,U Z ve,U Z si,U Z pt,U Z vr,.slice D l.length dc],U Z 0]) (by simp[results,Tryz.results31,go_sem,r0,r1,r2,r3,r4,r5,r6,r7,r8,r9,r10,r11,r12]) rfl ⟨ps4,lab4,D,dc,by rw[HTI.out];first|done|rfl,by rw[HTI.out];exact((HRC.out.chg HCS.out (fun q hq e=>by have:=HZL.out;omega)).mono (fun q hq=>zH HWS.out hq)),by rw[HTI.out];exact hk,hm⟩
       |false=>
        have HHX:Hid (cA (c_ {x with S:=aF x.S i sy,B:=aF x.B i false} i) (i:Int) got bb=hh):=hd_ HHQ.out;go_upto_region 14 with fail;generalize wc.setCell ⟨c,5+i*2+1,none⟩ (.bool false)=w2b at*;have HZ:=HZ2;have HRF:=hd_ (gz HK2.out HO1.out i HI.out);clear l1 f1 t0 t1 t2;go_wp2_with fail;refine HRF.out.mono ?_;rintro e w5 ⟨rfl,lab2,hk3,hm3⟩;have HO2:=hd_ (HO1.out.ref i);have HBT3:=hd_ (HBT2.out.chg hm3.1 (by rw[HLT1.out];omega));have HLZ3:=hd_ ((hm3.2 _ HZ2.out.lt).trans HLZ1.out);have HZ3:=hd_ (HZ2.out.chg hm3.1 (by rw[HLZ1.out];omega));have HR3:=hd_ (HR2.out.chg hm3.1 (fun q hq=>by have:=HI.out;omega));have HM3:=hd_ (HM2.out.trans (hm3.mono (fun n e=>by have:=HI.out;omega)));have HHE:=hd_ (iE hk3 HO2.out (i:Int) E bb.length ec bb got false _ rfl HR3.out HZ1.out (by have:=HBBL.out;omega));have HEX:=HHX;rw[HEX.out]at HHE;have HZL:=hd_ HZ3.out.lt;clear hk3 hm3 HRF HZ2 HR2 HBT2 HK2 HEX;obtain⟨t0,t1,t2⟩:=aT HBT3.out;obtain⟨⟨kd,po,ma,ow,ta,ol,ge,ph,ve,si,pt,vr,l⟩,yy⟩:=hh;unfold mt msC at HHE;simp only at HHE;generalize hml:l.length=ml at*;have HML:=hd_ hml;clear hml;go_wp2_with fail;refine HHE.out.mono ?_;rintro e w6 ⟨ps4,lab4,D,dc,rfl,hrc,hk4,hm4⟩;have HLZ4:=hd_ ((hm4.2 _ HZ3.out.lt).trans HLZ3.out);have HZ:=hd_ (HZ3.out.chg hm4.1 (by rw[HLZ3.out];decide));have HRC:=hd_ hrc;have HK4:=hd_ hk4;have HM4:=hd_ (HM3.out.trans hm4);have HWS:=hd_ HM3.out.1.size;clear hrc hk4 hm4 HHE HZ3 HM3 t0 t1 t2;obtain⟨x0,x1,x2,x3,x4,x5,x6,x7,x8,x9,x10,x11,x12⟩:=ai HZ.out;obtain⟨u0,u1,u2,u3,u4,u5,u6,u7,u8,u9,u10,u11,u12⟩:=aS HZ.out;obtain⟨r0,r1,r2,r3,r4,r5,r6,r7,r8,r9,r10,r11,r12,-,hcs⟩:=bx HZ.out kd po ma ow ta ol ge ph ve si pt vr D ml dc;have RR:=cr r0 r1 r2 r3 r4 r5 r6 r7 r8 r9 r10 r11 r12;have HCS:=hd_ hcs;clear r0 r1 r2 r3 r4 r5 r6 r7 r8 r9 r10 r11 r12 hcs;go_wp2_with fail;obtain⟨r0,r1,r2,r3,r4,r5,r6,r7,r8,r9,r10,r11,r12⟩:=RR.out;have hml:=HML.out;subst hml;obtain⟨hk,hm⟩:=KP.fr17 HK4.out HM4.out HCS.out HLZ4.out HQ.out;exact AW (v:=.tuple #[.agg #[U Z kd,U Z po,U .u64 ma,U Z ow,U Z ta,U Z ol,U Z ge,U Z ph,U Z ve,U Z si,U Z pt,U Z vr,.slice D l.length dc],U Z 0]) (by simp[results,Tryz.results31,go_sem,r0,r1,r2,r3,r4,r5,r6,r7,r8,r9,r10,r11,r12]) rfl ⟨ps4,lab4,D,dc,by rw[HTI.out];first|done|rfl,by rw[HTI.out];exact((HRC.out.chg HCS.out (fun q hq e=>by have:=HZL.out;omega)).mono (fun q hq=>zH HWS.out hq)),by rw[HTI.out];exact hk,hm⟩
end Go.Proofs.YtnojmbejedlilaaGreat
