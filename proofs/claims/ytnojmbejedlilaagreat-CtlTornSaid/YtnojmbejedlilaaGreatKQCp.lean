/-
  Walk: ctl.Half. Conditions: the controller lies in memory, and holds what always holds; the address is no negative number.
-/
import Derived.Test.YtnojmbejedlilaaGreatKQCo
set_option maxRecDepth 100000
set_option maxHeartbeats 40000000
set_option linter.unusedVariables false
set_option linter.unusedSimpArgs false
namespace Go.Proofs.YtnojmbejedlilaaGreat
open Nat renaming le_refl→zG
open Go.Value renaming int→U
open Go.IntKind renaming i64→Z
open Go.RowKit
theorem wZ(R:Int→Option RV)(op po c ma now:Int):(aD R op po c ma now).1.k=0∨(aD R op po c ma now).1.k=1∨(aD R op po c ma now).1.k=4∨(aD R op po c ma now).1.k=5:=by
 unfold aD av;repeat' (first|exact .inl rfl|exact .inr (.inl rfl)|exact .inr (.inr (.inl rfl))|exact .inr (.inr (.inr rfl))|split)
theorem qO{w:World}{lab:Nat→Nat}{c ps pj pf:Nat}{P:Nat→Nat}{x:KV}{j:Nat}(h:KP w lab c ps pj pf P x)(ho:KOk j x)(op po ch ma:Int)(hma:0≤ma):Calls Tryz.prog 24 #[.pointer (some ⟨c,0,none⟩),.agg #[U Z op,U Z po,U Z ch,U .u64 ma]] w (vo lab c pj pf P (aB x op po ch ma).1 (aB x op po ch ma).2 w):=by
 have hc0:=(Chg.refl (fun _=>False) w).alloc (.cells #[U Z op,U Z po,U Z ch,U .u64 ma] 44);have HK:=hd_ (h.new hc0);have HB:Hid (Blk (w.alloc (.cells #[U Z op,U Z po,U Z ch,U .u64 ma] 44)) w.heap.size 44 #[U Z op,U Z po,U Z ch,U .u64 ma]):=hd_ (af rfl);have HX:=hd_ hc0;have HLT:=hd_ h.q.lt;have HO:=hd_ ho;have HMA:=hd_ hma;clear h hc0 ho hma;have HG:=hd_ (fP HK.out)
 cases hst:x.st with
 |true=>
  have HT:Hid (aB x op po ch ma=(13,x)):=hd_ (by unfold aB;rw[hst];rfl);rw[hst,show gy true=13 from rfl]at HG;clear hst;go_in;go_upto_region 1 with fail;have HSW:=hd_ HX.out.size;generalize w.alloc (.cells #[U Z op,U Z po,U Z ch,U .u64 ma] 44)=w1 at*;generalize w.heap.size=Q0 at HB⊢;go_wp2_with fail;refine HG.out.mono ?_;rintro e w2 ⟨rfl,rfl⟩;go_wp2_with fail;go_ret;exact⟨ps,lab,by rw[HT.out];rfl,by rw[HT.out];exact HK.out,am.of HX.out⟩
 |false=>
  have HT:Hid (aB x op po ch ma=if (aD x.t.R op po ch ma x.no).2=0 then gb x (aD x.t.R op po ch ma x.no).1 else((aD x.t.R op po ch ma x.no).2,x)):=hd_ (by unfold aB ju;rw[hst];rfl);rw[hst,show gy false=0 from rfl]at HG;clear hst;go_in;go_upto_region 1 with fail;have HSW:=hd_ HX.out.size;generalize w.alloc (.cells #[U Z op,U Z po,U Z ch,U .u64 ma] 44)=w1 at*;generalize w.heap.size=Q0 at HB⊢;go_wp2_with fail;refine HG.out.mono ?_;rintro e w2 ⟨rfl,rfl⟩;generalize hno:x.no=no at HT;have HNOW:=hd_ hno;clear hno
  have hask:=fun(W:World) (hW:Chg (fun _=>False) w1 W)=>(show Calls Tryz.prog 58 #[.pointer (some ⟨ps,0,none⟩),.agg #[U Z op,U Z po,U Z ch,U .u64 ma],U Z no] W (ms (aD x.t.R op po ch ma no) W)from by
   obtain⟨B,bc,br,hs,-,-,-⟩:=HK.out.q.sr
   exact jJ (hs.keep hW) op po ch ma no)
  have HAM:Hid (0≤(aD x.t.R op po ch ma no).1.x.ma):=hd_ (gA HO.out.ma op po ch HMA.out no);have HAK:=hd_ (wZ x.t.R op po ch ma no);obtain⟨ar,har⟩:∃ar,aD x.t.R op po ch ma no=ar:=⟨_,rfl⟩;rw[har]at hask HAM HT HAK;obtain⟨⟨k,⟨a0,a1,a2,a3,a4,a5,a6,a7,a8⟩,z,n⟩,ae⟩:=ar;have HASK:Hid (∀W,Chg (fun _=>False) w1 W→Calls _ _ _ W (fun e w'=>e=.returned (.tuple #[.agg #[U Z k,U Z a0,U .u64 a1,U Z a2,U Z a3,U Z a4,U Z a5,U Z a6,U Z a7,U Z a8,U Z z,U Z n],U Z ae])∧Chg (fun _=>False) W w')):=hd_ hask;clear hask har
  have HKEEP:Hid (∀W:World,Chg (fun _=>False) w1 W→((W.cell? ⟨c,0,none⟩=some (.pointer (some ⟨ps,0,none⟩))∧W.cell? ⟨c,4,none⟩=some (U Z no)∧W.cell? ⟨Q0,0,none⟩=some (U Z op)∧W.cell? ⟨Q0,1,none⟩=some (U Z po)∧W.cell? ⟨Q0,2,none⟩=some (U Z ch)∧W.cell? ⟨Q0,3,none⟩=some (U .u64 ma)))):=hd_ (fun W hw=>by
   obtain⟨d0,-,-,-,d4⟩:=(HK.out.q.cb.chg hw id).hd;rw[HNOW.out]at d4;exact⟨d0,d4,cP (HB.out.chg hw id)⟩
  )
  have HXA:=hd_ (Chg.refl (fun _=>False) w1).drew;have HXA2:=hd_ (((Chg.refl (fun _=>False) w1).alloc (.cells #[U Z 0,U Z 0,U .u64 0,U Z 0,U Z 0,U Z 0,U Z 0,U Z 0,U Z 0,U Z 0,U Z 0,U Z 0] 110)).drew);have HNA:Hid (Blk (w1.alloc (.cells #[U Z 0,U Z 0,U .u64 0,U Z 0,U Z 0,U Z 0,U Z 0,U Z 0,U Z 0,U Z 0,U Z 0,U Z 0] 110)).drew w1.heap.size 110 #[U Z 0,U Z 0,U .u64 0,U Z 0,U Z 0,U Z 0,U Z 0,U Z 0,U Z 0,U Z 0,U Z 0,U Z 0]):=hd_ (af rfl).drew;go_upto_region 4 with fail
  go_cut [6,7] (fun s6 s7 wx=>hO 110 #[U Z k,U Z a0,U .u64 a1,U Z a2,U Z a3,U Z a4,U Z a5,U Z a6,U Z a7,U Z a8,U Z z,U Z n] (U Z ae) w1 s6 s7 wx)
  case first=>
   have hkk:=HKEEP.out _ HXA.out;obtain⟨g0,g1,g2,g3,g4,g5⟩:=hkk
   go_region_held3 (fun w'=>(w'.cell? ⟨c,0,none⟩=some (.pointer (some ⟨ps,0,none⟩))∧w'.cell? ⟨c,4,none⟩=some (U Z no)∧w'.cell? ⟨Q0,0,none⟩=some (U Z op)∧w'.cell? ⟨Q0,1,none⟩=some (U Z po)∧w'.cell? ⟨Q0,2,none⟩=some (U Z ch)∧w'.cell? ⟨Q0,3,none⟩=some (U .u64 ma)))
    (first|with_reducible exact HKEEP.out _ HXA.out|with_reducible exact HKEEP.out _ HXA2.out|with_reducible exact HKEEP.out _ HXB.out|with_reducible exact HKEEP.out _ (HXB.out.alloc _)|with_reducible exact HKEEP.out _ HXC.out|with_reducible exact HKEEP.out _ HXD.out|fail)
    (first
     |(go_at_call 58;(with_reducible refine(HASK.out w1.drew HXA.out).mono ?_);rintro e wz ⟨rfl,hc⟩;have HXB:=hd_ (HXA.out.tr hc);clear hc)
     |(go_at_call 58;(with_reducible refine(HASK.out (w1.alloc (.cells #[U Z 0,U Z 0,U .u64 0,U Z 0,U Z 0,U Z 0,U Z 0,U Z 0,U Z 0,U Z 0,U Z 0,U Z 0] 110)).drew HXA2.out).mono ?_);rintro e wz ⟨rfl,hc⟩;have HXC:=hd_ (HXA2.out.tr hc);have HNC:=hd_ (HNA.out.chg hc id);obtain⟨x0,x1,x2,x3,x4,x5,x6,x7,x8,x9,x10,x11⟩:=ak HNC.out;obtain⟨u0,u1,u2,u3,u4,u5,u6,u7,u8,u9,u10,u11⟩:=bA HNC.out;obtain⟨-,-,-,-,-,-,-,-,-,-,-,-,hcs⟩:=bK HNC.out rfl k a0 a1 a2 a3 a4 a5 a6 a7 a8 z n;have hset:=na HNC.out k a0 a1 a2 a3 a4 a5 a6 a7 a8 z n;have HXD:=hd_ (ab HXC.out hcs (zG _));have HWB:Hid (hO 110 #[U Z k,U Z a0,U .u64 a1,U Z a2,U Z a3,U Z a4,U Z a5,U Z a6,U Z a7,U Z a8,U Z z,U Z n] (U Z ae) w1 (.pointer (some ⟨w1.heap.size,0,none⟩)) (U Z ae) ((((((((((((wz.setCell ⟨w1.heap.size,0,none⟩ (U Z k)).setCell ⟨w1.heap.size,1,none⟩ (U Z a0)).setCell ⟨w1.heap.size,2,none⟩ (U .u64 a1)).setCell ⟨w1.heap.size,3,none⟩ (U Z a2)).setCell ⟨w1.heap.size,4,none⟩ (U Z a3)).setCell ⟨w1.heap.size,5,none⟩ (U Z a4)).setCell ⟨w1.heap.size,6,none⟩ (U Z a5)).setCell ⟨w1.heap.size,7,none⟩ (U Z a6)).setCell ⟨w1.heap.size,8,none⟩ (U Z a7)).setCell ⟨w1.heap.size,9,none⟩ (U Z a8)).setCell ⟨w1.heap.size,10,none⟩ (U Z z)).setCell ⟨w1.heap.size,11,none⟩ (U Z n))):=hd_ ⟨_,rfl,rfl,hset,HXD.out,zG _⟩;clear hset hcs hc)
     |fail)
   all_goals
    go_wp2_with fail
    go_meet
    first
     |exact HWB.out
     |exact⟨wz.heap.size,rfl,rfl,af rfl,HXB.out.alloc _,HXB.out.size⟩
  case rest=>
   obtain⟨QB,rfl,rfl,hbx,hcx,hqx⟩:=hcut;have HBX:=hd_ hbx;have HCX:=hd_ hcx;have HQX:=hd_ hqx;clear hbx hcx hqx HKEEP HXA HXA2 HNA;replace HK:=hd_ (HK.out.new HCX.out);have HX2:=hd_ (HX.out.tr HCX.out);clear HCX HX HB HASK;obtain⟨y0,y1,y2,y3,y4,y5,y6,y7,y8,y9,y10,y11⟩:=ak HBX.out;by_cases he:ae=0
   ·subst he;replace HT:=hd_ (HT.out.trans (if_pos rfl));by_cases k0:k=0
    ·subst k0;replace HT:=hd_ (HT.out.trans (if_pos rfl));go_wp2_with fail;go_ret;exact⟨ps,lab,by rw[HT.out];rfl,by rw[HT.out];exact HK.out,am.of HX2.out⟩
    ·have t0:(k==0)=false:=by simpa using k0
     replace HT:=hd_ (HT.out.trans (if_neg k0))
     have HPU:=hd_ (lZ HK.out.q HO.out.wf HO.out.b HO.out.m k a0 a1 a2 a3 a4 a5 a6 a7 a8 z n (dO HO.out.wf (by
      rcases HAK.out with e|e|e|e
      ·exact absurd e k0
      ·exact .inl e
      ·exact .inr (.inl e)
      ·exact .inr (.inr (.inl e))) (fun _=>HAM.out)))
     clear k0;go_wp2_with fail;refine HPU.out.mono ?_;rintro e w3 ⟨sv,bt',lab3,rfl,hk3,hm3,-⟩;have HK3:=hd_ ((HK.out.ofq17 hk3 hm3 (fun i=>by omega) (by decide) (wQ _ _)).new ((Chg.refl (fun _=>False) w3).alloc (.cells #[.pointer sv,U Z bt'] 99)));have HM3:=hd_ (((am.of (N:=fun n=>1≤n∧n≤20) HX2.out).trans (hm3.mono (fun n e=>by omega))).trans (am.of ((Chg.refl (fun _=>False) w3).alloc (.cells #[.pointer sv,U Z bt'] 99))));clear hk3 hm3 HPU y0 y1 y2 y3 y4 y5 y6 y7 y8 y9 y10 y11;go_upto_region 8 with fail;generalize w3.alloc (.cells #[.pointer sv,U Z bt'] 99)=w4 at*;by_cases hx:ao x ⟨k,⟨a0,a1,a2,a3,a4,a5,a6,a7,a8⟩,z,n⟩=0
     ·replace HT:=hd_ (HT.out.trans (if_pos hx));rw[hx];clear hx;have c37:=HK3.out.q.cb.stop;have f37:=HK3.out.q.cb.free 37;generalize (aM x ⟨k,⟨a0,a1,a2,a3,a4,a5,a6,a7,a8⟩,z,n⟩).st=st0 at c37;go_wp2_with fail;go_ret;have hcs:=(Chg.refl (fun k=>k=c) w4).put c 37 (fun _=>rfl) (.bool true);refine⟨ps,lab3,by rw[HT.out];rfl,?_,HM3.out.put hcs (fun hlt=>?_)⟩
      ·rw[HT.out];exact HK3.out.own (y:={aM x ⟨k,⟨a0,a1,a2,a3,a4,a5,a6,a7,a8⟩,z,n⟩with st:=true}) hcs (HK3.out.q.cb.setSt true) ⟨rfl,rfl⟩ ⟨rfl,rfl,rfl⟩ rfl
      ·rw[←HM3.out.2 _ hlt,HK3.out.q.lc];decide
     ·have te:(ao x ⟨k,⟨a0,a1,a2,a3,a4,a5,a6,a7,a8⟩,z,n⟩ !=0)=true:=by simpa using hx
      replace HT:=hd_ (HT.out.trans (if_neg hx));have HY:Hid (aM x ⟨k,⟨a0,a1,a2,a3,a4,a5,a6,a7,a8⟩,z,n⟩=x):=hd_ (if_neg hx);rw[HY.out]at HK3;clear hx;generalize ao x ⟨k,⟨a0,a1,a2,a3,a4,a5,a6,a7,a8⟩,z,n⟩=er at*;go_wp2_with fail;go_ret;exact⟨ps,lab3,by rw[HT.out];rfl,by rw[HT.out];exact HK3.out,HM3.out⟩
   ·have te:(ae !=0)=true:=by simpa using he
    replace HT:=hd_ (HT.out.trans (if_neg he));clear he;go_wp2_with fail;go_ret;exact⟨ps,lab,by rw[HT.out];rfl,by rw[HT.out];exact HK.out,am.of HX2.out⟩
end Go.Proofs.YtnojmbejedlilaaGreat
