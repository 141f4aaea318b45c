/-
  Walks: ctl.Do, Half. Conditions: the controller lies in memory, and holds what always holds; the address is no negative number.
-/
import Derived.Test.YtnojmbejedlilaaGreatKQCm
import Derived.Test.YtnojmbejedlilaaGreatKQCn
import Derived.Deep.Cut
import Derived.Deep.DeepCutAuto
set_option maxRecDepth 100000
set_option maxHeartbeats 40000000
set_option linter.unusedVariables false
set_option linter.unusedSimpArgs false
namespace Go.Proofs.YtnojmbejedlilaaGreat
open Int renaming le_refl→CJ
open Go renaming bodyPost_ret→AW
open Nat renaming le_refl→zG
open Go.Value renaming int→U
open Go.IntKind renaming i64→Z
open Go.RowKit
theorem eW{x:RV}{now:Int}{may:Bool}{a:RV×Int}(ha:a.2=0→0≤a.1.ma):0≤(ap x now may a).1.ma:=by
 unfold ap
 split
 ·split
  ·rename_i h0;unfold cU
   split
   ·exact ha h0
   ·exact CJ 0
  ·exact CJ 0
 ·exact CJ 0
theorem gA{R:Int→Option RV}(hR:∀z r,R z=some r→0≤r.ma)(op po c:Int){ma:Int}(hma:0≤ma)(now:Int):0≤(aD R op po c ma now).1.x.ma:=by
 have hl:0≤(bY R po).ma:=by
  unfold bY
  split
  ·exact CJ 0
  ·rename_i r hr
   split
   ·exact CJ 0
   ·exact hR _ _ hr
 have hb:0≤(cZ R po c ma now).1.ma:=by
  unfold cZ
  split
  ·unfold iS cU
   split
   ·exact hma
   ·exact CJ 0
  ·split
   ·refine eW (fun _=>?_);unfold agA;repeat' (first|exact hma|exact hR _ _ (by assumption)|split)
   ·exact CJ 0
 have hm:0≤(bN R op po c now).1.ma:=by
  unfold bN;generalize bY R po=r at*
  split
  ·split
   ·refine eW (fun _=>?_);unfold drA;repeat' (first|exact hl|split)
   ·split
    ·refine eW (fun _=>?_);unfold eu;repeat' (first|exact hl|split)
    ·split
     ·refine eW (fun _=>?_);unfold coA ik;repeat' (first|exact hl|split)
     ·refine eW (fun _=>?_);unfold abA;repeat' (first|exact hl|split)
  ·exact CJ 0
 unfold aD
 split
 ·exact CJ 0
 ·split
  ·exact CJ 0
  ·split
   ·exact hl
   ·split
    ·exact hb
    ·split
     ·exact hm
     ·exact CJ 0
def yT(lab:Nat→Nat)(c pj pf:Nat)(P:Nat→Nat)(r:RV×Int×KV)(w:World)(e:Ending)(w':World):Prop:=
 ∃(ps':Nat) (lab':Nat→Nat),e=.returned (.tuple #[.agg r.1.cs,U Z r.2.1])∧KP w' lab' c ps' pj pf P r.2.2∧am (fun n=>1≤n∧n≤20) lab lab' w w'
theorem KOk.behind{j:Nat}{x:KV}(h:KOk j x)(B:Nat→Bool):KOk j {x with B:=B}:=⟨h.wf,h.ma,h.bt,h.sp,h.no,h.s,h.b,h.m,h.sf⟩
theorem KOk.doR{j:Nat}{x:KV}(h:KOk j x)(r:aI)(hma:0≤r.x.ma)(hn:r.n≤4294967296):KOk j (cO x r).2.2:=by
 unfold cO
 split
 ·split
  ·exact h.chg _ hma
  ·exact h
 ·split
  ·split
   ·exact(h.note r (fun _=>hma) hn).behind _
   ·exact h
  ·split
   ·split
    ·exact h.note r (fun _=>hma) hn
    ·exact h
   ·exact h
theorem wR(R:Int→Option RV)(op po c ma now:Int):(aD R op po c ma now).1.n=0:=by
 unfold aD av;repeat' (first|rfl|split)
theorem KOk.do_{j:Nat}{x:KV}(h:KOk j x)(op po c:Int){ma:Int}(hma:0≤ma):KOk j (aP x op po c ma).2.2:=by
 unfold aP
 split
 ·exact h
 ·unfold kM
  split
  ·exact h.doR _ (gA h.ma op po c hma x.no) (by rw[wR];decide)
  ·exact h
theorem KOk.half{j:Nat}{x:KV}(h:KOk j x)(op po c ma:Int):KOk j (aB x op po c ma).2:=by
 unfold aB
 split
 ·exact h
 ·unfold ju
  split
  ·unfold gb
   split
   ·exact h
   ·split
    ·exact(h.put _).stop true
    ·exact h
  ·exact h
theorem KP.fr17{lab lab1:Nat→Nat}{w w1 w2:World}{c ps pj pf:Nat}{P:Nat→Nat}{y:KV}{q:Nat}(h:KP w1 lab1 c ps pj pf P y)(m:am (fun n=>1≤n∧n≤20) lab lab1 w w1)(hc:Chg (fun k=>k=q) w1 w2)(hq:lab1 q=0)(hw:w.heap.size≤q):KP w2 lab1 c ps pj pf P y∧am (fun n=>1≤n∧n≤20) lab lab1 w w2:=
 ⟨h.mv (N:=fun n=>n=0) (⟨hc.mono (fun k _ e=>by rw[e];exact hq),fun _ _=>rfl⟩) (h.q.lt.new hc.size) (by decide) (by decide) (by decide) (by decide) (fun i _=>by omega) (by decide),m.put hc (fun hlt=>absurd hlt (by omega))⟩
theorem uN(x:KV)(r:RV)(z n:Int):cO x ⟨1,r,z,n⟩=if cx x r=0 then(r,0,bj x r)else(z9,cx x r,x):=rfl
theorem j8(x:KV)(r:RV)(z n:Int):cO x ⟨4,r,z,n⟩=if ao x ⟨4,r,z,n⟩=0 then(r,0,{aH x ⟨4,r,z,n⟩with B:=aF x.B z.toNat true})else(z9,ao x ⟨4,r,z,n⟩,x):=rfl
theorem j9(x:KV)(r:RV)(z n:Int):cO x ⟨5,r,z,n⟩=if ao x ⟨5,r,z,n⟩=0 then(r,0,aH x ⟨5,r,z,n⟩)else(z9,ao x ⟨5,r,z,n⟩,x):=rfl
theorem uO(x:KV)(r:RV)(z n:Int){k:Int}(h1:¬k=1)(h4:¬k=4)(h5:¬k=5):cO x ⟨k,r,z,n⟩=(r,0,x):=by
 unfold cO;rw[if_neg h1,if_neg h4,if_neg h5]
theorem uP{w:World}{lab:Nat→Nat}{c ps pj pf:Nat}{P:Nat→Nat}{x:KV}{j:Nat}(h:KP w lab c ps pj pf P x)(ho:KOk j x)(op po ch ma:Int)(hma:0≤ma):Calls Tryz.prog 23 #[.pointer (some ⟨c,0,none⟩),.agg #[U Z op,U Z po,U Z ch,U .u64 ma]] w (yT lab c pj pf P (aP x op po ch ma) w):=by
 have HMA:=hd_ hma;have hc0:=((Chg.refl (fun _=>False) w).alloc (.cells #[U Z op,U Z po,U Z ch,U .u64 ma] 44)).alloc (.cells #[U Z 0,U .u64 0,U Z 0,U Z 0,U Z 0,U Z 0,U Z 0,U Z 0,U Z 0] 60);have HK:=hd_ (h.new hc0);have HB:Hid (Blk ((w.alloc (.cells #[U Z op,U Z po,U Z ch,U .u64 ma] 44)).alloc (.cells #[U Z 0,U .u64 0,U Z 0,U Z 0,U Z 0,U Z 0,U Z 0,U Z 0,U Z 0] 60)) w.heap.size 44 #[U Z op,U Z po,U Z ch,U .u64 ma]):=hd_ ((af rfl).alloc _);have HZ:Hid (Blk ((w.alloc (.cells #[U Z op,U Z po,U Z ch,U .u64 ma] 44)).alloc (.cells #[U Z 0,U .u64 0,U Z 0,U Z 0,U Z 0,U Z 0,U Z 0,U Z 0,U Z 0] 60)) (w.heap.size+1) 60 (rvC 0 0 0 0 0 0 0 0 0)):=hd_ (af (by simp));have HX:=hd_ hc0;have HLZ:Hid (lab (w.heap.size+1)=0):=hd_ (h.q.lt _ (by omega));have HLT:=hd_ h.q.lt;have HO:=hd_ ho;clear h hc0;clear ho hma;have HG:=hd_ (fP HK.out);have HLC0:=hd_ HK.out.q.lc
 cases hst:x.st with
 |true=>
  have HT:Hid (aP x op po ch ma=(z9,13,x)):=hd_ (by unfold aP;rw[hst];rfl);rw[hst,show gy true=13 from rfl]at HG;clear hst;go_in;go_upto_region 1 with fail;have HSW:=hd_ HX.out.size;generalize (w.alloc (.cells #[U Z op,U Z po,U Z ch,U .u64 ma] 44)).alloc (.cells #[U Z 0,U .u64 0,U Z 0,U Z 0,U Z 0,U Z 0,U Z 0,U Z 0,U Z 0] 60)=w1 at*;generalize hq1:w.heap.size+1=Q1 at HZ HLZ⊢;have HQ:Hid (w.heap.size≤Q1):=hd_ (by omega);clear hq1;generalize w.heap.size=Q0 at HB⊢;go_wp2_with fail;refine HG.out.mono ?_;rintro e w2 ⟨rfl,rfl⟩;obtain⟨x0,x1,x2,x3,x4,x5,x6,x7,x8⟩:=aa HZ.out;obtain⟨u0,u1,u2,u3,u4,u5,u6,u7,u8⟩:=ag HZ.out;obtain⟨r0,r1,r2,r3,r4,r5,r6,r7,r8,-,hcs⟩:=aj HZ.out 0 0 0 0 0 0 0 0 0;have RR:=cj9 r0 r1 r2 r3 r4 r5 r6 r7 r8;have HCS:=hd_ hcs;clear r0 r1 r2 r3 r4 r5 r6 r7 r8 hcs;go_wp2_with fail;obtain⟨r0,r1,r2,r3,r4,r5,r6,r7,r8⟩:=RR.out;refine AW (v:=.tuple #[.agg #[U Z 0,U .u64 0,U Z 0,U Z 0,U Z 0,U Z 0,U Z 0,U Z 0,U Z 0],U Z 13]) (by simp[results,Tryz.results23,go_sem,r0,r1,r2,r3,r4,r5,r6,r7,r8]) rfl ?_;obtain⟨hk,hm⟩:=KP.fr17 HK.out (am.of HX.out) HCS.out HLZ.out HQ.out;exact⟨ps,lab,by rw[HT.out];first|done|rfl,by rw[HT.out];exact hk,hm⟩
 |false=>
  have HT:Hid (aP x op po ch ma=if (aD x.t.R op po ch ma x.no).2=0 then cO x (aD x.t.R op po ch ma x.no).1 else(z9,(aD x.t.R op po ch ma x.no).2,x)):=hd_ (by unfold aP kM;rw[hst];rfl);rw[hst,show gy false=0 from rfl]at HG;clear hst;go_in;go_upto_region 1 with fail;have HSW:=hd_ HX.out.size;generalize (w.alloc (.cells #[U Z op,U Z po,U Z ch,U .u64 ma] 44)).alloc (.cells #[U Z 0,U .u64 0,U Z 0,U Z 0,U Z 0,U Z 0,U Z 0,U Z 0,U Z 0] 60)=w1 at*;generalize hq1:w.heap.size+1=Q1 at HZ HLZ⊢;have HQ:Hid (w.heap.size≤Q1):=hd_ (by omega);clear hq1;generalize w.heap.size=Q0 at HB⊢;go_wp2_with fail;refine HG.out.mono ?_;rintro e w2 ⟨rfl,rfl⟩;generalize hno:x.no=no at HT;have HNOW:=hd_ hno;clear hno
  have hask:=fun(W:World) (hW:Chg (fun _=>False) w1 W)=>(show Calls Tryz.prog 58 #[.pointer (some ⟨ps,0,none⟩),.agg #[U Z op,U Z po,U Z ch,U .u64 ma],U Z no] W (ms (aD x.t.R op po ch ma no) W)from by
   obtain⟨B,bc,br,hs,-,-,-⟩:=HK.out.q.sr
   exact jJ (hs.keep hW) op po ch ma no)
  have HAM:Hid (0≤(aD x.t.R op po ch ma no).1.x.ma):=hd_ (gA HO.out.ma op po ch HMA.out no);obtain⟨ar,har⟩:∃ar,aD x.t.R op po ch ma no=ar:=⟨_,rfl⟩;rw[har]at hask HAM HT;obtain⟨⟨k,⟨a0,a1,a2,a3,a4,a5,a6,a7,a8⟩,z,n⟩,ae⟩:=ar;have HASK:Hid (∀W,Chg (fun _=>False) w1 W→Calls _ _ _ W (fun e w'=>e=.returned (.tuple #[.agg #[U Z k,U Z a0,U .u64 a1,U Z a2,U Z a3,U Z a4,U Z a5,U Z a6,U Z a7,U Z a8,U Z z,U Z n],U Z ae])∧Chg (fun _=>False) W w')):=hd_ hask;clear hask har
  have HKEEP:Hid (∀W:World,Chg (fun _=>False) w1 W→((W.cell? ⟨c,0,none⟩=some (.pointer (some ⟨ps,0,none⟩))∧W.cell? ⟨c,4,none⟩=some (U Z no)∧W.cell? ⟨Q0,0,none⟩=some (U Z op)∧W.cell? ⟨Q0,1,none⟩=some (U Z po)∧W.cell? ⟨Q0,2,none⟩=some (U Z ch)∧W.cell? ⟨Q0,3,none⟩=some (U .u64 ma)))):=hd_ (fun W hw=>by
   obtain⟨d0,-,-,-,d4⟩:=(HK.out.q.cb.chg hw id).hd;rw[HNOW.out]at d4;exact⟨d0,d4,cP (HB.out.chg hw id)⟩
  )
  have HXA:=hd_ (Chg.refl (fun _=>False) w1).drew;have HXA2:=hd_ (((Chg.refl (fun _=>False) w1).alloc (.cells #[U Z 0,U Z 0,U .u64 0,U Z 0,U Z 0,U Z 0,U Z 0,U Z 0,U Z 0,U Z 0,U Z 0,U Z 0] 110)).drew);have HNA:Hid (Blk (w1.alloc (.cells #[U Z 0,U Z 0,U .u64 0,U Z 0,U Z 0,U Z 0,U Z 0,U Z 0,U Z 0,U Z 0,U Z 0,U Z 0] 110)).drew w1.heap.size 110 #[U Z 0,U Z 0,U .u64 0,U Z 0,U Z 0,U Z 0,U Z 0,U Z 0,U Z 0,U Z 0,U Z 0,U Z 0]):=hd_ (af rfl).drew;go_upto_region 4 with fail
  go_cut [7,8] (fun s7 s8 wx=>hO 110 #[U Z k,U Z a0,U .u64 a1,U Z a2,U Z a3,U Z a4,U Z a5,U Z a6,U Z a7,U Z a8,U Z z,U Z n] (U Z ae) w1 s7 s8 wx)
  case first=>
   have hkk:=HKEEP.out _ HXA.out;obtain⟨g0,g1,g2,g3,g4,g5⟩:=hkk
   go_region_held3 (fun w'=>(w'.cell? ⟨c,0,none⟩=some (.pointer (some ⟨ps,0,none⟩))∧w'.cell? ⟨c,4,none⟩=some (U Z no)∧w'.cell? ⟨Q0,0,none⟩=some (U Z op)∧w'.cell? ⟨Q0,1,none⟩=some (U Z po)∧w'.cell? ⟨Q0,2,none⟩=some (U Z ch)∧w'.cell? ⟨Q0,3,none⟩=some (U .u64 ma)))
    (first|with_reducible exact HKEEP.out _ HXA.out|with_reducible exact HKEEP.out _ HXA2.out|with_reducible exact HKEEP.out _ HXB.out|with_reducible exact HKEEP.out _ (HXB.out.alloc _)|with_reducible exact HKEEP.out _ HXC.out|with_reducible exact HKEEP.out _ HXD.out|fail)
    (first
     |(go_at_call 58;(with_reducible refine(HASK.out w1.drew HXA.out).mono ?_);rintro e wz ⟨rfl,hc⟩;have HXB:=hd_ (HXA.out.tr hc);clear hc)
     |(go_at_call 58;(with_reducible refine(HASK.out (w1.alloc (.cells #[U Z 0,U Z 0,U .u64 0,U Z 0,U Z 0,U Z 0,U Z 0,U Z 0,U Z 0,U Z 0,U Z 0,U Z 0] 110)).drew HXA2.out).mono ?_);rintro e wz ⟨rfl,hc⟩;have HXC:=hd_ (HXA2.out.tr hc);have HNC:=hd_ (HNA.out.chg hc id);obtain⟨x0,x1,x2,x3,x4,x5,x6,x7,x8,x9,x10,x11⟩:=ak HNC.out;obtain⟨u0,u1,u2,u3,u4,u5,u6,u7,u8,u9,u10,u11⟩:=bA HNC.out;obtain⟨-,-,-,-,-,-,-,-,-,-,-,-,hcs⟩:=bK HNC.out rfl k a0 a1 a2 a3 a4 a5 a6 a7 a8 z n;have hset:=na HNC.out k a0 a1 a2 a3 a4 a5 a6 a7 a8 z n;have HXD:=hd_ (ab HXC.out hcs (zG _));have HWB:Hid (hO 110 #[U Z k,U Z a0,U .u64 a1,U Z a2,U Z a3,U Z a4,U Z a5,U Z a6,U Z a7,U Z a8,U Z z,U Z n] (U Z ae) w1 (.pointer (some ⟨w1.heap.size,0,none⟩)) (U Z ae) ((((((((((((wz.setCell ⟨w1.heap.size,0,none⟩ (U Z k)).setCell ⟨w1.heap.size,1,none⟩ (U Z a0)).setCell ⟨w1.heap.size,2,none⟩ (U .u64 a1)).setCell ⟨w1.heap.size,3,none⟩ (U Z a2)).setCell ⟨w1.heap.size,4,none⟩ (U Z a3)).setCell ⟨w1.heap.size,5,none⟩ (U Z a4)).setCell ⟨w1.heap.size,6,none⟩ (U Z a5)).setCell ⟨w1.heap.size,7,none⟩ (U Z a6)).setCell ⟨w1.heap.size,8,none⟩ (U Z a7)).setCell ⟨w1.heap.size,9,none⟩ (U Z a8)).setCell ⟨w1.heap.size,10,none⟩ (U Z z)).setCell ⟨w1.heap.size,11,none⟩ (U Z n))):=hd_ ⟨_,rfl,rfl,hset,HXD.out,zG _⟩;clear hset hcs hc)
     |fail)
   all_goals
    go_wp2_with fail
    go_meet
    first
     |exact HWB.out
     |exact⟨wz.heap.size,rfl,rfl,af rfl,HXB.out.alloc _,HXB.out.size⟩
  case rest=>
   obtain⟨QB,rfl,rfl,hbx,hcx,hqx⟩:=hcut;have HBX:=hd_ hbx;have HCX:=hd_ hcx;have HQX:=hd_ hqx;clear hbx hcx hqx HKEEP HXA HXA2 HNA;replace HK:=hd_ (HK.out.new HCX.out);replace HZ:=hd_ (HZ.out.chg HCX.out id);have HX2:=hd_ (HX.out.tr HCX.out);have HLB:Hid (lab QB=0):=hd_ (HLT.out _ (Nat.le_trans HSW.out HQX.out));clear HCX HX HB HASK;by_cases he:ae=0
   ·subst he;replace HT:=hd_ (HT.out.trans (if_pos rfl));by_cases k1:k=1
    ·subst k1;replace HT:=hd_ (HT.out.trans (uN x ⟨a0,a1,a2,a3,a4,a5,a6,a7,a8⟩ z n));have HCH:=hd_ (gt HK.out HO.out a0 a1 a2 a3 a4 a5 a6 a7 a8 HAM.out);obtain⟨y0,y1,y2,y3,y4,y5,y6,y7,y8,y9,y10,y11⟩:=ak HBX.out;go_wp2_with fail;refine HCH.out.mono ?_;rintro e w3 ⟨ps3,lab3,rfl,hk3,hm3⟩;have HK3:=hd_ hk3;replace HBX:=hd_ (HBX.out.chg hm3.1 (by rw[HLB.out];decide));have HLZ3:=hd_ ((hm3.2 _ HZ.out.lt).trans HLZ.out);replace HZ:=hd_ (HZ.out.chg hm3.1 (by rw[HLZ.out];decide));have HM3:=hd_ ((am.of (N:=fun n=>1≤n∧n≤20) HX2.out).trans hm3);clear hk3 hm3 HCH y0 y1 y2 y3 y4 y5 y6 y7 y8 y9 y10 y11;by_cases hx:cx x ⟨a0,a1,a2,a3,a4,a5,a6,a7,a8⟩=0
     ·have HT2:=hd_ (HT.out.trans (if_pos hx));rw[hx];clear hx;obtain⟨y0,y1,y2,y3,y4,y5,y6,y7,y8,y9,y10,y11⟩:=ak HBX.out;obtain⟨x0,x1,x2,x3,x4,x5,x6,x7,x8⟩:=aa HZ.out;obtain⟨u0,u1,u2,u3,u4,u5,u6,u7,u8⟩:=ag HZ.out;obtain⟨r0,r1,r2,r3,r4,r5,r6,r7,r8,-,hcs⟩:=aj HZ.out a0 a1 a2 a3 a4 a5 a6 a7 a8;have RR:=cj9 r0 r1 r2 r3 r4 r5 r6 r7 r8;have HCS:=hd_ hcs;clear r0 r1 r2 r3 r4 r5 r6 r7 r8 hcs;go_wp2_with fail;obtain⟨r0,r1,r2,r3,r4,r5,r6,r7,r8⟩:=RR.out;refine AW (v:=.tuple #[.agg #[U Z a0,U .u64 a1,U Z a2,U Z a3,U Z a4,U Z a5,U Z a6,U Z a7,U Z a8],U Z 0]) (by simp[results,Tryz.results23,go_sem,r0,r1,r2,r3,r4,r5,r6,r7,r8]) rfl ?_;obtain⟨hk,hm⟩:=KP.fr17 HK3.out HM3.out HCS.out HLZ3.out HQ.out;exact⟨ps3,lab3,by rw[HT2.out];first|done|rfl,by rw[HT2.out];exact hk,hm⟩
     ·have te:(cx x ⟨a0,a1,a2,a3,a4,a5,a6,a7,a8⟩ !=0)=true:=by simpa using hx
      have HT2:=hd_ (HT.out.trans (if_neg hx));have HY:Hid (bj x ⟨a0,a1,a2,a3,a4,a5,a6,a7,a8⟩=x):=hd_ (if_neg hx);rw[HY.out]at HK3;clear hx;generalize cx x ⟨a0,a1,a2,a3,a4,a5,a6,a7,a8⟩=er at*;obtain⟨x0,x1,x2,x3,x4,x5,x6,x7,x8⟩:=aa HZ.out;obtain⟨u0,u1,u2,u3,u4,u5,u6,u7,u8⟩:=ag HZ.out;obtain⟨r0,r1,r2,r3,r4,r5,r6,r7,r8,-,hcs⟩:=aj HZ.out 0 0 0 0 0 0 0 0 0;have RR:=cj9 r0 r1 r2 r3 r4 r5 r6 r7 r8;have HCS:=hd_ hcs;clear r0 r1 r2 r3 r4 r5 r6 r7 r8 hcs;go_wp2_with fail;obtain⟨r0,r1,r2,r3,r4,r5,r6,r7,r8⟩:=RR.out;refine AW (v:=.tuple #[.agg #[U Z 0,U .u64 0,U Z 0,U Z 0,U Z 0,U Z 0,U Z 0,U Z 0,U Z 0],U Z er]) (by simp[results,Tryz.results23,go_sem,r0,r1,r2,r3,r4,r5,r6,r7,r8]) rfl ?_;obtain⟨hk,hm⟩:=KP.fr17 HK3.out HM3.out HCS.out HLZ3.out HQ.out;exact⟨ps3,lab3,by rw[HT2.out];first|done|rfl,by rw[HT2.out];exact hk,hm⟩
    ·have t1:(k==1)=false:=by simpa using k1
     by_cases k4:k=4
     ·subst k4;replace HT:=hd_ (HT.out.trans (j8 x ⟨a0,a1,a2,a3,a4,a5,a6,a7,a8⟩ z n));clear k1;have HNO:=hd_ (fO HK.out.q HO.out.wf HO.out.b HO.out.m 4 a0 a1 a2 a3 a4 a5 a6 a7 a8 z n (dO HO.out.wf (.inr (.inl rfl)) (fun e=>absurd (show (4:Int)=1 from e) (by decide))));obtain⟨y0,y1,y2,y3,y4,y5,y6,y7,y8,y9,y10,y11⟩:=ak HBX.out;go_wp2_with fail;refine HNO.out.mono ?_;rintro e w3 ⟨ps3,lab3,rfl,hk3,hm3⟩;have HK3:=hd_ (HK.out.ofq17 hk3 hm3 (fun i=>by omega) (by decide) (j7 _ _));have HLC:=hd_ HLC0.out;have HQC:Hid (¬Q1=c):=hd_ (fun e=>by have h1:=HLZ.out;have h2:=HLC.out;rw[e,h2]at h1;cases h1);have HBC:Hid (¬QB=c):=hd_ (fun e=>by have h1:=HLB.out;have h2:=HLC.out;rw[e,h2]at h1;cases h1);replace HBX:=hd_ (HBX.out.chg hm3.1 (by rw[HLB.out];omega));have HLZ3:=hd_ ((hm3.2 _ HZ.out.lt).trans HLZ.out);replace HZ:=hd_ (HZ.out.chg hm3.1 (by rw[HLZ.out];omega));have HM3:=hd_ ((am.of (N:=fun n=>1≤n∧n≤20) HX2.out).trans (hm3.mono (fun n e=>by omega)));clear hk3 hm3 HNO y0 y1 y2 y3 y4 y5 y6 y7 y8 y9 y10 y11;by_cases hx:ao x ⟨4,⟨a0,a1,a2,a3,a4,a5,a6,a7,a8⟩,z,n⟩=0
      ·have HT2:=hd_ (HT.out.trans (if_pos hx))
       skip
       have hz:0≤z∧z≤15:=by
        have h0:=hx;unfold ao at h0
        split at h0
        ·rename_i hb;rcases dO HO.out.wf (.inr (.inl rfl)) (fun e=>absurd (show (4:Int)=1 from e) (by decide)) hb with h|h|h
         ·exact absurd (show (4:Int)=1 from h.1) (by decide)
         ·exact absurd (show (4:Int)=6 from h.1) (by decide)
         ·exact h.2
        ·rename_i hb;exact absurd h0 hb
       obtain⟨i,rfl⟩:=Int.eq_ofNat_of_zero_le hz.1
       have hi:i<16:=by omega
       have hi2:(i:Int)<16:=by omega
       have HI:=hd_ hi;rw[hx];clear hx hz hi;obtain⟨y0,y1,y2,y3,y4,y5,y6,y7,y8,y9,y10,y11⟩:=ak HBX.out;have l1:=(HK3.out.q.cb.line HI.out).2;have f1:=HK3.out.q.cb.free (5+i*2+1);go_upto_region 13 with fail;have y10d:w3.drew.cell? ⟨QB,10,none⟩=some (U Z (i:Int)):=y10;have hcs:=(Chg.refl (fun k=>k=c) w3).put c (5+i*2+1) (fun _=>rfl) (.bool true);have HK4:=hd_ ((HK3.out.own (y:={aH x ⟨4,⟨a0,a1,a2,a3,a4,a5,a6,a7,a8⟩,(i:Int),n⟩with B:=aF (aH x ⟨4,⟨a0,a1,a2,a3,a4,a5,a6,a7,a8⟩,(i:Int),n⟩).B i true}) hcs (HK3.out.q.cb.setB HI.out true) ⟨rfl,rfl⟩ ⟨rfl,rfl,rfl⟩ rfl).new (Chg.refl (fun _=>False) _).drew);have HM4:=hd_ (HM3.out.put (hcs.trans ((Chg.refl (fun k=>k=c) _).drew) (fun _ _ e=>e)) (fun _=>by rw[HLC.out];decide));have HZ4:=hd_ (HZ.out.chg (hcs.trans ((Chg.refl (fun k=>k=c) _).drew) (fun _ _ e=>e)) HQC.out);have HBX4:=hd_ (HBX.out.chg (hcs.trans ((Chg.refl (fun k=>k=c) _).drew) (fun _ _ e=>e)) HBC.out);have HBE:Hid ((aH x ⟨4,⟨a0,a1,a2,a3,a4,a5,a6,a7,a8⟩,(i:Int),n⟩).B=x.B):=hd_ (by unfold aH;split<;>rfl);rw[HBE.out]at HK4;clear hcs HK3 HM3 HZ HBX
       go_region
       clear l1 f1 y0 y1 y2 y3 y4 y5 y6 y7 y8 y9 y10 y11 y10d;generalize (w3.setCell ⟨c,5+i*2+1,none⟩ (.bool true)).drew=w4 at*;have HZ:=HZ4;have HBX:=HBX4;obtain⟨y0,y1,y2,y3,y4,y5,y6,y7,y8,y9,y10,y11⟩:=ak HBX.out;obtain⟨x0,x1,x2,x3,x4,x5,x6,x7,x8⟩:=aa HZ.out;obtain⟨u0,u1,u2,u3,u4,u5,u6,u7,u8⟩:=ag HZ.out;obtain⟨r0,r1,r2,r3,r4,r5,r6,r7,r8,-,hcs⟩:=aj HZ.out a0 a1 a2 a3 a4 a5 a6 a7 a8;have RR:=cj9 r0 r1 r2 r3 r4 r5 r6 r7 r8;have HCS:=hd_ hcs;clear r0 r1 r2 r3 r4 r5 r6 r7 r8 hcs;go_wp2_with fail;obtain⟨r0,r1,r2,r3,r4,r5,r6,r7,r8⟩:=RR.out;refine AW (v:=.tuple #[.agg #[U Z a0,U .u64 a1,U Z a2,U Z a3,U Z a4,U Z a5,U Z a6,U Z a7,U Z a8],U Z 0]) (by simp[results,Tryz.results23,go_sem,r0,r1,r2,r3,r4,r5,r6,r7,r8]) rfl ?_;obtain⟨hk,hm⟩:=KP.fr17 HK4.out HM4.out HCS.out HLZ3.out HQ.out;exact⟨ps3,lab3,by rw[HT2.out];first|done|rfl,by rw[HT2.out];exact hk,hm⟩
      ·have te:(ao x ⟨4,⟨a0,a1,a2,a3,a4,a5,a6,a7,a8⟩,z,n⟩ !=0)=true:=by simpa using hx
       have te2:(ao x ⟨4,⟨a0,a1,a2,a3,a4,a5,a6,a7,a8⟩,z,n⟩==0)=false:=by simpa using hx
       have HT2:=hd_ (HT.out.trans (if_neg hx));have HY:Hid (aH x ⟨4,⟨a0,a1,a2,a3,a4,a5,a6,a7,a8⟩,z,n⟩=x):=hd_ (if_neg hx);rw[HY.out]at HK3;clear hx;generalize ao x ⟨4,⟨a0,a1,a2,a3,a4,a5,a6,a7,a8⟩,z,n⟩=er at*;obtain⟨x0,x1,x2,x3,x4,x5,x6,x7,x8⟩:=aa HZ.out;obtain⟨u0,u1,u2,u3,u4,u5,u6,u7,u8⟩:=ag HZ.out;obtain⟨r0,r1,r2,r3,r4,r5,r6,r7,r8,-,hcs⟩:=aj HZ.out 0 0 0 0 0 0 0 0 0;have RR:=cj9 r0 r1 r2 r3 r4 r5 r6 r7 r8;have HCS:=hd_ hcs;clear r0 r1 r2 r3 r4 r5 r6 r7 r8 hcs;go_wp2_with fail;obtain⟨r0,r1,r2,r3,r4,r5,r6,r7,r8⟩:=RR.out;refine AW (v:=.tuple #[.agg #[U Z 0,U .u64 0,U Z 0,U Z 0,U Z 0,U Z 0,U Z 0,U Z 0,U Z 0],U Z er]) (by simp[results,Tryz.results23,go_sem,r0,r1,r2,r3,r4,r5,r6,r7,r8]) rfl ?_;obtain⟨hk,hm⟩:=KP.fr17 HK3.out HM3.out HCS.out HLZ3.out HQ.out;exact⟨ps3,lab3,by rw[HT2.out];first|done|rfl,by rw[HT2.out];exact hk,hm⟩
     ·have t4:(k==4)=false:=by simpa using k4
      by_cases k5:k=5
      ·subst k5;replace HT:=hd_ (HT.out.trans (j9 x ⟨a0,a1,a2,a3,a4,a5,a6,a7,a8⟩ z n));clear k1 k4;have HNO:=hd_ (fO HK.out.q HO.out.wf HO.out.b HO.out.m 5 a0 a1 a2 a3 a4 a5 a6 a7 a8 z n (dO HO.out.wf (.inr (.inr (.inl rfl))) (fun e=>absurd (show (5:Int)=1 from e) (by decide))));obtain⟨y0,y1,y2,y3,y4,y5,y6,y7,y8,y9,y10,y11⟩:=ak HBX.out;go_wp2_with fail;refine HNO.out.mono ?_;rintro e w3 ⟨ps3,lab3,rfl,hk3,hm3⟩;have HK3:=hd_ (HK.out.ofq17 hk3 hm3 (fun i=>by omega) (by decide) (j7 _ _));have HLC:=hd_ HLC0.out;have HQC:Hid (¬Q1=c):=hd_ (fun e=>by have h1:=HLZ.out;have h2:=HLC.out;rw[e,h2]at h1;cases h1);have HBC:Hid (¬QB=c):=hd_ (fun e=>by have h1:=HLB.out;have h2:=HLC.out;rw[e,h2]at h1;cases h1);replace HBX:=hd_ (HBX.out.chg hm3.1 (by rw[HLB.out];omega));have HLZ3:=hd_ ((hm3.2 _ HZ.out.lt).trans HLZ.out);replace HZ:=hd_ (HZ.out.chg hm3.1 (by rw[HLZ.out];omega));have HM3:=hd_ ((am.of (N:=fun n=>1≤n∧n≤20) HX2.out).trans (hm3.mono (fun n e=>by omega)));clear hk3 hm3 HNO y0 y1 y2 y3 y4 y5 y6 y7 y8 y9 y10 y11;by_cases hx:ao x ⟨5,⟨a0,a1,a2,a3,a4,a5,a6,a7,a8⟩,z,n⟩=0
       ·have HT2:=hd_ (HT.out.trans (if_pos hx));rw[hx];clear hx;obtain⟨y0,y1,y2,y3,y4,y5,y6,y7,y8,y9,y10,y11⟩:=ak HBX.out;obtain⟨x0,x1,x2,x3,x4,x5,x6,x7,x8⟩:=aa HZ.out;obtain⟨u0,u1,u2,u3,u4,u5,u6,u7,u8⟩:=ag HZ.out;obtain⟨r0,r1,r2,r3,r4,r5,r6,r7,r8,-,hcs⟩:=aj HZ.out a0 a1 a2 a3 a4 a5 a6 a7 a8;have RR:=cj9 r0 r1 r2 r3 r4 r5 r6 r7 r8;have HCS:=hd_ hcs;clear r0 r1 r2 r3 r4 r5 r6 r7 r8 hcs;go_wp2_with fail;obtain⟨r0,r1,r2,r3,r4,r5,r6,r7,r8⟩:=RR.out;refine AW (v:=.tuple #[.agg #[U Z a0,U .u64 a1,U Z a2,U Z a3,U Z a4,U Z a5,U Z a6,U Z a7,U Z a8],U Z 0]) (by simp[results,Tryz.results23,go_sem,r0,r1,r2,r3,r4,r5,r6,r7,r8]) rfl ?_;obtain⟨hk,hm⟩:=KP.fr17 HK3.out HM3.out HCS.out HLZ3.out HQ.out;exact⟨ps3,lab3,by rw[HT2.out];first|done|rfl,by rw[HT2.out];exact hk,hm⟩
       ·have te:(ao x ⟨5,⟨a0,a1,a2,a3,a4,a5,a6,a7,a8⟩,z,n⟩ !=0)=true:=by simpa using hx
        have te2:(ao x ⟨5,⟨a0,a1,a2,a3,a4,a5,a6,a7,a8⟩,z,n⟩==0)=false:=by simpa using hx
        have HT2:=hd_ (HT.out.trans (if_neg hx));have HY:Hid (aH x ⟨5,⟨a0,a1,a2,a3,a4,a5,a6,a7,a8⟩,z,n⟩=x):=hd_ (if_neg hx);rw[HY.out]at HK3;clear hx;generalize ao x ⟨5,⟨a0,a1,a2,a3,a4,a5,a6,a7,a8⟩,z,n⟩=er at*;obtain⟨x0,x1,x2,x3,x4,x5,x6,x7,x8⟩:=aa HZ.out;obtain⟨u0,u1,u2,u3,u4,u5,u6,u7,u8⟩:=ag HZ.out;obtain⟨r0,r1,r2,r3,r4,r5,r6,r7,r8,-,hcs⟩:=aj HZ.out 0 0 0 0 0 0 0 0 0;have RR:=cj9 r0 r1 r2 r3 r4 r5 r6 r7 r8;have HCS:=hd_ hcs;clear r0 r1 r2 r3 r4 r5 r6 r7 r8 hcs;go_wp2_with fail;obtain⟨r0,r1,r2,r3,r4,r5,r6,r7,r8⟩:=RR.out;refine AW (v:=.tuple #[.agg #[U Z 0,U .u64 0,U Z 0,U Z 0,U Z 0,U Z 0,U Z 0,U Z 0,U Z 0],U Z er]) (by simp[results,Tryz.results23,go_sem,r0,r1,r2,r3,r4,r5,r6,r7,r8]) rfl ?_;obtain⟨hk,hm⟩:=KP.fr17 HK3.out HM3.out HCS.out HLZ3.out HQ.out;exact⟨ps3,lab3,by rw[HT2.out];first|done|rfl,by rw[HT2.out];exact hk,hm⟩
      ·have t5:(k==5)=false:=by simpa using k5
       have HT2:=hd_ (HT.out.trans (uO x ⟨a0,a1,a2,a3,a4,a5,a6,a7,a8⟩ z n k1 k4 k5));clear k1 k4 k5;obtain⟨y0,y1,y2,y3,y4,y5,y6,y7,y8,y9,y10,y11⟩:=ak HBX.out;obtain⟨x0,x1,x2,x3,x4,x5,x6,x7,x8⟩:=aa HZ.out;obtain⟨u0,u1,u2,u3,u4,u5,u6,u7,u8⟩:=ag HZ.out;obtain⟨r0,r1,r2,r3,r4,r5,r6,r7,r8,-,hcs⟩:=aj HZ.out a0 a1 a2 a3 a4 a5 a6 a7 a8;have RR:=cj9 r0 r1 r2 r3 r4 r5 r6 r7 r8;have HCS:=hd_ hcs;clear r0 r1 r2 r3 r4 r5 r6 r7 r8 hcs;go_wp2_with fail;obtain⟨r0,r1,r2,r3,r4,r5,r6,r7,r8⟩:=RR.out;refine AW (v:=.tuple #[.agg #[U Z a0,U .u64 a1,U Z a2,U Z a3,U Z a4,U Z a5,U Z a6,U Z a7,U Z a8],U Z 0]) (by simp[results,Tryz.results23,go_sem,r0,r1,r2,r3,r4,r5,r6,r7,r8]) rfl ?_;obtain⟨hk,hm⟩:=KP.fr17 HK.out (am.of HX2.out) HCS.out HLZ.out HQ.out;exact⟨ps,lab,by rw[HT2.out];first|done|rfl,by rw[HT2.out];exact hk,hm⟩
   ·have te:(ae !=0)=true:=by simpa using he
    have HT2:=hd_ (HT.out.trans (if_neg he));clear he;obtain⟨x0,x1,x2,x3,x4,x5,x6,x7,x8⟩:=aa HZ.out;obtain⟨u0,u1,u2,u3,u4,u5,u6,u7,u8⟩:=ag HZ.out;obtain⟨r0,r1,r2,r3,r4,r5,r6,r7,r8,-,hcs⟩:=aj HZ.out 0 0 0 0 0 0 0 0 0;have RR:=cj9 r0 r1 r2 r3 r4 r5 r6 r7 r8;have HCS:=hd_ hcs;clear r0 r1 r2 r3 r4 r5 r6 r7 r8 hcs;go_wp2_with fail;obtain⟨r0,r1,r2,r3,r4,r5,r6,r7,r8⟩:=RR.out;refine AW (v:=.tuple #[.agg #[U Z 0,U .u64 0,U Z 0,U Z 0,U Z 0,U Z 0,U Z 0,U Z 0,U Z 0],U Z ae]) (by simp[results,Tryz.results23,go_sem,r0,r1,r2,r3,r4,r5,r6,r7,r8]) rfl ?_;obtain⟨hk,hm⟩:=KP.fr17 HK.out (am.of HX2.out) HCS.out HLZ.out HQ.out;exact⟨ps,lab,by rw[HT2.out];first|done|rfl,by rw[HT2.out];exact hk,hm⟩
end Go.Proofs.YtnojmbejedlilaaGreat
