/-
  Walks: ctl.from, refill, with its closure, awake, forward. Conditions: the controller lies in memory, and holds what always holds.
-/
import Derived.Test.YtnojmbejedlilaaGreatKQCm
import Derived.Test.YtnojmbejedlilaaGreatKQCf
import Derived.Test.YtnojmbejedlilaaGreatKQM7
set_option maxRecDepth 100000
set_option maxHeartbeats 40000000
set_option linter.unusedVariables false
set_option linter.unusedSimpArgs false
namespace Go.Proofs.YtnojmbejedlilaaGreat
open Int renaming eq_ofNat_of_zero_le→Ak
open Nat renaming le_refl→zG
open List renaming foldl_cons→Aa
open Go.Value renaming int→U
open Go.IntKind renaming i64→Z
open Go.RowKit
def vp(C:Int→Bool)(c:Nat)(ch:Int)(w:World)(e:Ending)(w':World):Prop:=
 ∃pv:Option Addr,e=.returned (.tuple #[.pointer pv,U Z (eV C ch)])∧w=w'∧(eV C ch=0→∃i:Nat,ch=(i:Int)∧i<16∧pv=some ⟨c,5+i*2,none⟩)
theorem uM{x:RV}(h:x.ok=true)(h3:x.ph≠3):0≤x.ow∧x.ow≤15:=by
 unfold RV.ok rwR at h;simp only[Bool.and_eq_true]at h;have hh:=h.2.2.2.2;unfold ew at hh
 split at hh
 ·simp[ah]at hh;omega
 ·split at hh
  ·simp[ah]at hh;omega
  ·split at hh
   ·simp[ah]at hh;omega
   ·first|(cases hh;done)|(rw[if_neg h3]at hh;cases hh)
theorem qD{w:World}{lab:Nat→Nat}{c ps pj pf:Nat}{P:Nat→Nat}{x:KV}(h:KP w lab c ps pj pf P x)(ch:Int):Calls Tryz.prog 63 #[.pointer (some ⟨c,0,none⟩),U Z ch] w (vp x.t.C c ch w):=by
 obtain⟨c0,-,-,-,-⟩:=h.q.cb.hd;obtain⟨B,bc,br,hs,-,-,-⟩:=h.q.sr;have HH:=hd_ (ir hs ch);clear hs h;generalize x.t.C=C at*;by_cases hb:0≤ch∧ch≤15
 case neg=>
  have HE:Hid (eV C ch=1):=hd_ (by unfold eV;rw[if_pos (by simp only[Bool.or_eq_true,decide_eq_true_eq];omega)]);by_cases h0:ch<0
  ·clear hb;go_in;go_wp2_with fail;go_ret2;exact⟨none,by rw[HE.out];rfl,rfl,fun h=>absurd (HE.out.symm.trans h) (by decide)⟩
  ·have h1:¬ch<16:=by omega
   clear hb;go_in;go_wp2_with fail;go_ret2;exact⟨none,by rw[HE.out];rfl,rfl,fun h=>absurd (HE.out.symm.trans h) (by decide)⟩
 case pos=>
  obtain⟨i,rfl⟩:=Ak hb.1
  have hi:i<16:=by omega
  have hi2:(i:Int)<16:=by omega
  have HI:=hd_ hi
  have hg:(decide ((i:Int)<0)||decide (15<(i:Int)))=false:=by simp only[Bool.or_eq_false_iff,decide_eq_false_iff_not];omega
  have HE0:Hid (eV C (i:Int)=if C (i:Int)=true then 0 else 4):=hd_ (by unfold eV;rw[if_neg (by rw[hg];decide)]);clear hb hi hg
  cases hC:C (i:Int)with
  |true=>
   rw[hC]at HH HE0;clear hC;go_in;go_wp2_with fail;refine HH.out.mono ?_;rintro e w1 ⟨rfl,rfl⟩;go_wp2_with fail;go_ret2;exact⟨some ⟨c,5+i*2,none⟩,by rw[HE0.out];rfl,rfl,fun _=>⟨i,rfl,HI.out,rfl⟩⟩
  |false=>
   rw[hC]at HH HE0;clear hC;go_in;go_wp2_with fail;refine HH.out.mono ?_;rintro e w1 ⟨rfl,rfl⟩;go_wp2_with fail;go_ret2;exact⟨none,by rw[HE0.out];rfl,rfl,fun h=>by rw[HE0.out]at h;exact absurd h (by decide)⟩
def vq(x:KV)(i:Nat)(b:List UInt8):KV:={x with S:=aF x.S i (bL (x.S i) b)}
theorem qE{w:World}{lab:Nat→Nat}{c ps pj pf:Nat}{P:Nat→Nat}{x:KV}(h:KP w lab c ps pj pf P x)(i:Nat)(hi:i<16)(hq:(x.S i).q.length≤64)(q:Nat)(h1:Blk w q 118 #[.pointer (some ⟨c,5+i*2,none⟩)])(hl1:lab q=0)(po ma ow ta ol ge ph ve si:Int)(hx:RV.ok ⟨po,ma,ow,ta,ol,ge,ph,ve,si⟩=true)(hma:0≤ma):Calls Tryz.prog 126 #[.agg #[U Z po,U .u64 ma,U Z ow,U Z ta,U Z ol,U Z ge,U Z ph,U Z ve,U Z si],.pointer (some ⟨q,0,none⟩)] w (kT (fun n=>n=5+i) lab c ps pj pf P (vq x i (ci ⟨po,ma,ow,ta,ol,ge,ph,ve,si⟩)) w):=by
 have hc0:=(Chg.refl (fun _=>False) w).alloc (.cells #[U Z po,U .u64 ma,U Z ow,U Z ta,U Z ol,U Z ge,U Z ph,U Z ve,U Z si] 60);have HK:=hd_ (h.new hc0);have HB:Hid (Blk (w.alloc (.cells #[U Z po,U .u64 ma,U Z ow,U Z ta,U Z ol,U Z ge,U Z ph,U Z ve,U Z si] 60)) w.heap.size 60 (rvC po ma ow ta ol ge ph ve si)):=hd_ (af rfl);have HX:=hd_ hc0;have H1:=hd_ (h1.chg hc0 id);have HL1:=hd_ hl1;have HL0:Hid (lab w.heap.size=0):=hd_ (h.q.lt _ (zG _));have HI:=hd_ hi;have HQ:=hd_ hq;have HMS:=hd_ (fun W=>fB po ma ow ta ol ge ph ve si hx hma W);have HML:=hd_ (gP ⟨po,ma,ow,ta,ol,ge,ph,ve,si⟩);clear h hi hq h1 hl1 hx hma hc0;generalize ci ⟨po,ma,ow,ta,ol,ge,ph,ve,si⟩=mb at*;go_in;go_upto_region 1 with fail;generalize w.alloc (.cells #[U Z po,U .u64 ma,U Z ow,U Z ta,U Z ol,U Z ge,U Z ph,U Z ve,U Z si] 60)=w1 at*;generalize w.heap.size=Q0 at HB HL0⊢;have HKEEP:Hid (∀W:World,Chg (fun k=>lab k=5+i) w1 W→(W.cell? ⟨q,0,none⟩=some (.pointer (some ⟨c,5+i*2,none⟩))∧W.cell? ⟨c,5+i*2,none⟩=some (.pointer (some ⟨P i,0,none⟩))∧W.cell? ⟨Q0,0,none⟩=some (U Z po)∧W.cell? ⟨Q0,1,none⟩=some (U .u64 ma)∧W.cell? ⟨Q0,2,none⟩=some (U Z ow)∧W.cell? ⟨Q0,3,none⟩=some (U Z ta)∧W.cell? ⟨Q0,4,none⟩=some (U Z ol)∧W.cell? ⟨Q0,5,none⟩=some (U Z ge)∧W.cell? ⟨Q0,6,none⟩=some (U Z ph)∧W.cell? ⟨Q0,7,none⟩=some (U Z ve)∧W.cell? ⟨Q0,8,none⟩=some (U Z si))):=hd_ (fun W hw=>⟨(H1.out.chg hw (by rw[HL1.out];omega)).cell 0,((HK.out.q.cb.chg hw (by rw[HK.out.q.lc];omega)).line HI.out).1,aa (HB.out.chg hw (by rw[HL0.out];omega))⟩);have HYA:=hd_ (Chg.refl (fun k=>lab k=5+i) w1).drew;have hkk:=HKEEP.out _ HYA.out;obtain⟨g0,g1,g2,g3,g4,g5,g6,g7,g8,g9,g10⟩:=hkk
 go_region_held3 (fun w'=>(w'.cell? ⟨q,0,none⟩=some (.pointer (some ⟨c,5+i*2,none⟩))∧w'.cell? ⟨c,5+i*2,none⟩=some (.pointer (some ⟨P i,0,none⟩))∧w'.cell? ⟨Q0,0,none⟩=some (U Z po)∧w'.cell? ⟨Q0,1,none⟩=some (U .u64 ma)∧w'.cell? ⟨Q0,2,none⟩=some (U Z ow)∧w'.cell? ⟨Q0,3,none⟩=some (U Z ta)∧w'.cell? ⟨Q0,4,none⟩=some (U Z ol)∧w'.cell? ⟨Q0,5,none⟩=some (U Z ge)∧w'.cell? ⟨Q0,6,none⟩=some (U Z ph)∧w'.cell? ⟨Q0,7,none⟩=some (U Z ve)∧w'.cell? ⟨Q0,8,none⟩=some (U Z si)))
  (first|with_reducible exact HKEEP.out _ HYA.out|with_reducible exact HKEEP.out _ HYB.out|with_reducible exact HKEEP.out _ HYC.out|fail)
  (first
   |(go_at_call 128;(with_reducible refine(HMS.out _).mono ?_);rintro e w2 ⟨A,bc,rfl,hz,hr,hc⟩;have HYB:=hd_ (HYA.out.trans (hc.mono (S':=fun k=>lab k=5+i) (fun _ _ h=>h.elim)) (fun _ _ e=>e));have HC2:=hd_ ((Chg.refl (fun _=>False) w1).drew.tr hc);have HR:=hd_ hr;have HZ:=hd_ hz;clear hz hr hc)
   |(go_at_call 127;(with_reducible refine(iD ((HK.out.new HC2.out).ln i HI.out) HQ.out A mb.length bc mb _ rfl HR.out HZ.out (by rw[HML.out];decide)).mono ?_);rintro e wz ⟨rfl,lab1,hs,hm,hl⟩;have HK1:=hd_ ((HK.out.new HC2.out).sess HI.out hs hm hl);have HM1:=hd_ (((am.of (N:=fun n=>n=5+i) HX.out).trans (am.of HC2.out)).trans hm);have HYC:=hd_ (HYB.out.trans hm.1 (fun _ _ e=>e));clear hs hm hl)
   |fail)
 all_goals
  go_wp2_with fail
  go_end0
  exact⟨rfl,lab1,HK1.out,HM1.out⟩
theorem nW(s:SV)(l:List RV)(r:RV):dj s (l++[r])=bL (dj s l) (ci r):=by unfold dj;simp only[List.foldl_append,Aa,List.foldl_nil]
theorem bh.ref{j:Nat}:∀(l:List RV) {s:SV},bh j s→bh j (dj s l)
 |[],_,h=>h
 |r::l,s,h=>by
  have:=bh.ref l (h.push (ci r));unfold dj at this⊢;rw[Aa];exact this
theorem sK{α:Type}(f:Nat→α)(i:Nat)(u v:α):aF (aF f i u) i v=aF f i v:=by
 funext k;unfold aF
 split<;>rfl
theorem gz{w:World}{lab:Nat→Nat}{c ps pj pf:Nat}{P:Nat→Nat}{x:KV}{j:Nat}(h:KP w lab c ps pj pf P x)(ho:KOk j x)(i:Nat)(hi:i<16):Calls Tryz.prog 66 #[.pointer (some ⟨c,0,none⟩),.pointer (some ⟨c,5+i*2,none⟩)] w (kT (fun n=>n=1∨n=5+i) lab c ps pj pf P (c_ x i) w):=by
 have hmf:∀(fn:Fn) (first cap:Array Value) (w:World),(Instr.makeFunc fn first cap).run Tryz.prog w=.ok (.func fn first cap) w:=fun _ _ _ _=>rfl;have hc0:=(Chg.refl (fun _=>False) w).alloc (.cells #[.pointer (some ⟨c,5+i*2,none⟩)] 118);have HK:=hd_ (h.new hc0);have HB:Hid (Blk (w.alloc (.cells #[.pointer (some ⟨c,5+i*2,none⟩)] 118)) w.heap.size 118 #[.pointer (some ⟨c,5+i*2,none⟩)]):=hd_ (af rfl);have HX:=hd_ hc0;have HL0:Hid (lab w.heap.size=0):=hd_ (h.q.lt _ (zG _));have HLT:=hd_ h.q.lt;have HSW:=hd_ hc0.size;have HI:=hd_ hi;have HO:=hd_ ho;have HT:Hid (c_ x i=if x.B i=true∧(x.S i).q.length=0 then{x with S:=aF x.S i (dj (x.S i) (aO x.t.R)),B:=aF x.B i false}else x):=hd_ rfl;clear h ho hi hc0;go_in;go_upto_region 1 with fail;generalize w.alloc (.cells #[.pointer (some ⟨c,5+i*2,none⟩)] 118)=w1 at*;generalize w.heap.size=Q0 at HB HL0⊢;obtain⟨l0,l1⟩:=HK.out.q.cb.line HI.out;have q0:w1.cell? ⟨Q0,0,none⟩=some (.pointer (some ⟨c,5+i*2,none⟩)):=HB.out.cell 0;have l0:w1.cell? ⟨c,5+i*2,none⟩=some (.pointer (some ⟨P i,0,none⟩)):=l0;have HLE:=hd_ (sJ (HK.out.ln i HI.out))
 cases hb:x.B i with
 |false=>
  rw[hb]at l1 HT;replace HT:=hd_ (HT.out.trans (if_neg (fun e=>by cases e.1)));clear hb;go_wp2_with fail
  go_end0
  exact⟨rfl,lab,by rw[HT.out];exact HK.out,am.of HX.out⟩
 |true=>
  rw[hb]at l1 HT;clear hb;generalize hn:(x.S i).q.length=n at*;have HN:=hd_ hn;clear hn;by_cases h0:n=0
  ·subst h0;replace HT:=hd_ (HT.out.trans (if_pos ⟨rfl,rfl⟩));go_wp2_with fail;refine HLE.out.mono ?_;rintro e w2 ⟨rfl,rfl⟩;obtain⟨c0,-,-,-,-⟩:=HK.out.q.cb.hd;obtain⟨B,sbc,sbr,hs,-,-,-⟩:=HK.out.q.sr;have HRW:=hd_ (eJ hs);clear hs HLE;go_wp2_with fail;refine HRW.out.mono ?_;rintro e w3 ⟨AL,ln,lc,rfl,hln,hown,hc⟩;have hsr:=ft ga hown hln;have hl32:=dH x.t.R;replace HK:=hd_ (HK.out.new hc);replace HB:=hd_ (HB.out.chg hc id);have HLS:Hid (∀k,(w1.heap.size≤k∧k<w3.heap.size)→lab k=0):=hd_ (fun k hk=>HLT.out k (by have h1:=HSW.out;have h2:=hk.1;omega));replace HX:=hd_ (HX.out.tr hc)
   have HEA:=hd_ (qp AL ln lc (aO x.t.R) _ w3 (.pointer (some ⟨Q0,0,none⟩)) (fun j' W=>∃lab',KP W lab' c ps pj pf P {x with S:=aF x.S i (dj (x.S i) ((aO x.t.R).take j'))}∧am (fun n=>n=5+i) lab lab' w3 W) (by omega)
    ⟨lab,by rw[List.take_zero,show dj (x.S i) []=x.S i from rfl,oY];exact HK.out,am.refl _ _ _⟩ hln
    (fun j' W hI=>by
     obtain⟨lab',hk,hm⟩:=hI
     exact hsr.chg hm.1 (fun k hk=>by rw[HLS.out k hk];omega))
    (fun j' W W' hI hc'=>by
     obtain⟨lab',hk,hm⟩:=hI
     exact⟨lab',hk.new hc',hm.trans (am.of hc')⟩)
    (fun j' r W hx hI=>by
     obtain⟨lab',hk,hm⟩:=hI;obtain⟨po,ma,ow,ta,ol,ge,ph,ve,si,rfl⟩:=bm r;obtain⟨zz,hz⟩:=HO.out.wf.mem.1 (List.mem_of_getElem? hx);have hok:=(HO.out.wf.row _ _ hz).1;have hma:=HO.out.ma _ _ hz;have hself:aF x.S i (dj (x.S i) ((aO x.t.R).take j')) i=dj (x.S i) ((aO x.t.R).take j'):=di _ _ _;refine(qE hk i HI.out (by show (aF x.S i (dj (x.S i) ((aO x.t.R).take j')) i).q.length≤64;rw[hself];exact(bh.ref _ (HO.out.s i HI.out)).len) Q0 (HB.out.chg hm.1 (by rw[HL0.out];omega)) ((hm.2 _ HB.out.lt).trans HL0.out) po ma ow ta ol ge ph ve si hok hma).mono ?_;rintro e W' ⟨he,lab2,hk2,hm2⟩;refine⟨he,lab2,?_,hm.trans hm2⟩;rw[dI hx,nW];unfold vq at hk2;simp only[di,sK]at hk2
     exact hk2))
   have HLN:=hd_ hln;clear hsr hl32 hc hown hln l0 l1 q0 c0 HRW;go_wp2_with fail;refine HEA.out.mono ?_;rintro e w4 ⟨rfl,lab4,hk4,hm4⟩;rw[List.take_of_length_le (by have:=HLN.out;omega)]at hk4;have HK4:=hd_ hk4;have HM4:=hd_ ((am.of (N:=fun n=>n=1∨n=5+i) HX.out).trans (hm4.mono (fun n e=>.inr e)));have q0:w4.cell? ⟨Q0,0,none⟩=some (.pointer (some ⟨c,5+i*2,none⟩)):=(HB.out.chg hm4.1 (by rw[HL0.out];omega)).cell 0;have l1:=(hk4.q.cb.line HI.out).2;have f1:=hk4.q.cb.free (5+i*2+1);have HLC:=hd_ HK.out.q.lc;clear hk4 hm4 HEA;dsimp only at l1;generalize x.B i=bb at l1;go_wp2_with fail
   go_end0
   have hcs:=(Chg.refl (fun k=>k=c) w4).put c (5+i*2+1) (fun _=>rfl) (.bool false);refine⟨rfl,lab4,?_,HM4.out.put hcs (fun _=>.inl HLC.out)⟩;rw[HT.out];exact HK4.out.own (y:={x with S:=aF x.S i (dj (x.S i) (aO x.t.R)),B:=aF x.B i false}) hcs (HK4.out.q.cb.setB HI.out false) ⟨rfl,rfl⟩ ⟨rfl,rfl,rfl⟩ rfl
  ·replace HT:=hd_ (HT.out.trans (if_neg (fun e=>h0 e.2)))
   have hn0:(0:Int)<(n:Int):=by omega
   clear h0;go_wp2_with fail;refine HLE.out.mono ?_;rintro e w2 ⟨rfl,rfl⟩;go_wp2_with fail
   go_end0
   exact⟨rfl,lab,by rw[HT.out];exact HK.out,am.of HX.out⟩
theorem nX{w:World}{lab:Nat→Nat}{c ps pj pf:Nat}{P:Nat→Nat}{x:KV}{j:Nat}(h:KP w lab c ps pj pf P x)(ho:KOk j x)(po ma ow ta ol ge ph ve si ch vr:Int)(hma:0≤ma):Calls Tryz.prog 130 #[.pointer (some ⟨c,0,none⟩),.agg #[U Z po,U .u64 ma,U Z ow,U Z ta,U Z ol,U Z ge,U Z ph,U Z ve,U Z si],U Z ch,U Z vr] w (qy lab c pj pf P (iA x ⟨po,ma,ow,ta,ol,ge,ph,ve,si⟩ ch vr) w):=by
 have hc0:=(Chg.refl (fun _=>False) w).alloc (.cells #[U Z po,U .u64 ma,U Z ow,U Z ta,U Z ol,U Z ge,U Z ph,U Z ve,U Z si] 60);have HK:=hd_ (h.new hc0);have HB:Hid (Blk (w.alloc (.cells #[U Z po,U .u64 ma,U Z ow,U Z ta,U Z ol,U Z ge,U Z ph,U Z ve,U Z si] 60)) w.heap.size 60 (rvC po ma ow ta ol ge ph ve si)):=hd_ (af rfl);have HX:=hd_ hc0;have HO:=hd_ ho;have HT:Hid (iA x ⟨po,ma,ow,ta,ol,ge,ph,ve,si⟩ ch vr=if (aw9 ⟨po,ma,ow,ta,ol,ge,ph,ve,si⟩ ch vr x.no).2=0 then bj x (aw9 ⟨po,ma,ow,ta,ol,ge,ph,ve,si⟩ ch vr x.no).1 else x):=hd_ rfl
 have HAM:Hid (0≤(aw9 ⟨po,ma,ow,ta,ol,ge,ph,ve,si⟩ ch vr x.no).1.ma):=hd_ (by
  unfold aw9;refine iC (x:=⟨po,ma,ow,ta,ol,ge,ph,ve,si⟩) hma (fun _=>?_);unfold awA ik
  repeat' (first|exact hma|split))
 clear h ho hma hc0;generalize hno:x.no=no at HT HAM;have HNOW:=hd_ hno;clear hno;obtain⟨a0,a1,a2,a3,a4,a5,a6,a7,a8,ae,hv⟩:=bE (r:=aw9 ⟨po,ma,ow,ta,ol,ge,ph,ve,si⟩ ch vr no);have haw:=fun W=>tV po ma ow ta ol ge ph ve si ch vr no W;rw[hv]at haw HT HAM;have HAW:Hid (∀W,Calls _ _ _ W (HR9 a0 a1 a2 a3 a4 a5 a6 a7 a8 ae W)):=hd_ haw;clear haw hv;go_in;go_upto_region 1 with fail;generalize w.alloc (.cells #[U Z po,U .u64 ma,U Z ow,U Z ta,U Z ol,U Z ge,U Z ph,U Z ve,U Z si] 60)=w1 at*;generalize w.heap.size=Q0 at HB⊢
 have HKEEP:Hid (∀W:World,Chg (fun _=>False) w1 W→(((W.cell? ⟨Q0,0,none⟩=some (U Z po)∧W.cell? ⟨Q0,1,none⟩=some (U .u64 ma)∧W.cell? ⟨Q0,2,none⟩=some (U Z ow)∧W.cell? ⟨Q0,3,none⟩=some (U Z ta)∧W.cell? ⟨Q0,4,none⟩=some (U Z ol)∧W.cell? ⟨Q0,5,none⟩=some (U Z ge)∧W.cell? ⟨Q0,6,none⟩=some (U Z ph)∧W.cell? ⟨Q0,7,none⟩=some (U Z ve)∧W.cell? ⟨Q0,8,none⟩=some (U Z si))∧W.cell? ⟨c,4,none⟩=some (U Z no)))):=hd_ (fun W hw=>by
  obtain⟨-,-,-,-,d4⟩:=(HK.out.q.cb.chg hw id).hd;rw[HNOW.out]at d4;obtain⟨e0,e1,e2,e3,e4,e5,e6,e7,e8⟩:=aa (HB.out.chg hw id);exact⟨⟨e0,e1,e2,e3,e4,e5,e6,e7,e8⟩,d4⟩
 )
 have HXA:=hd_ (Chg.refl (fun _=>False) w1).drew;have HXA2:=hd_ (((Chg.refl (fun _=>False) w1).alloc (.cells #[U Z 0,U .u64 0,U Z 0,U Z 0,U Z 0,U Z 0,U Z 0,U Z 0,U Z 0] 60)).drew);have HNA:Hid (Blk (w1.alloc (.cells #[U Z 0,U .u64 0,U Z 0,U Z 0,U Z 0,U Z 0,U Z 0,U Z 0,U Z 0] 60)).drew w1.heap.size 60 (rvC 0 0 0 0 0 0 0 0 0)):=hd_ (af rfl).drew;go_upto_region 1 with fail
 go_cut [8,9] (fun s8 s9 wx=>hO 60 #[U Z a0,U .u64 a1,U Z a2,U Z a3,U Z a4,U Z a5,U Z a6,U Z a7,U Z a8] (U Z ae) w1 s8 s9 wx)
 case first=>
  have hkk:=HKEEP.out _ HXA.out;obtain⟨⟨g0,g1,g2,g3,g4,g5,g6,g7,g8⟩,g9⟩:=hkk
  go_region_held3 (fun w'=>((w'.cell? ⟨Q0,0,none⟩=some (U Z po)∧w'.cell? ⟨Q0,1,none⟩=some (U .u64 ma)∧w'.cell? ⟨Q0,2,none⟩=some (U Z ow)∧w'.cell? ⟨Q0,3,none⟩=some (U Z ta)∧w'.cell? ⟨Q0,4,none⟩=some (U Z ol)∧w'.cell? ⟨Q0,5,none⟩=some (U Z ge)∧w'.cell? ⟨Q0,6,none⟩=some (U Z ph)∧w'.cell? ⟨Q0,7,none⟩=some (U Z ve)∧w'.cell? ⟨Q0,8,none⟩=some (U Z si))∧w'.cell? ⟨c,4,none⟩=some (U Z no)))
   (first|with_reducible exact HKEEP.out _ HXA.out|with_reducible exact HKEEP.out _ HXA2.out|with_reducible exact HKEEP.out _ HXB.out|with_reducible exact HKEEP.out _ (HXB.out.alloc _)|with_reducible exact HKEEP.out _ HXC.out|with_reducible exact HKEEP.out _ HXD.out|fail)
   (first
    |(go_at_call 189;(with_reducible refine(HAW.out w1.drew).mono ?_);rintro e wz ⟨rfl,hc⟩;have HXB:=hd_ (HXA.out.tr hc);clear hc)
    |(go_at_call 189;(with_reducible refine(HAW.out (w1.alloc (.cells #[U Z 0,U .u64 0,U Z 0,U Z 0,U Z 0,U Z 0,U Z 0,U Z 0,U Z 0] 60)).drew).mono ?_);rintro e wz ⟨rfl,hc⟩;have HXC:=hd_ (HXA2.out.tr hc);have HNC:=hd_ (HNA.out.chg hc id);obtain⟨x0,x1,x2,x3,x4,x5,x6,x7,x8⟩:=aa HNC.out;obtain⟨u0,u1,u2,u3,u4,u5,u6,u7,u8⟩:=ag HNC.out;obtain⟨-,-,-,-,-,-,-,-,-,hcs⟩:=j4 HNC.out rfl a0 a1 a2 a3 a4 a5 a6 a7 a8;have hset:=j5 HNC.out a0 a1 a2 a3 a4 a5 a6 a7 a8;have HXD:=hd_ (ab HXC.out hcs (zG _));have HWB:Hid (hO 60 #[U Z a0,U .u64 a1,U Z a2,U Z a3,U Z a4,U Z a5,U Z a6,U Z a7,U Z a8] (U Z ae) w1 (.pointer (some ⟨w1.heap.size,0,none⟩)) (U Z ae) (((((((((wz.setCell ⟨w1.heap.size,0,none⟩ (U Z a0)).setCell ⟨w1.heap.size,1,none⟩ (U .u64 a1)).setCell ⟨w1.heap.size,2,none⟩ (U Z a2)).setCell ⟨w1.heap.size,3,none⟩ (U Z a3)).setCell ⟨w1.heap.size,4,none⟩ (U Z a4)).setCell ⟨w1.heap.size,5,none⟩ (U Z a5)).setCell ⟨w1.heap.size,6,none⟩ (U Z a6)).setCell ⟨w1.heap.size,7,none⟩ (U Z a7)).setCell ⟨w1.heap.size,8,none⟩ (U Z a8))):=hd_ ⟨_,rfl,rfl,hset,HXD.out,zG _⟩;clear hset hcs hc)
    |fail)
  all_goals
   go_wp2_with fail
   go_meet
   first
    |exact HWB.out
    |exact⟨wz.heap.size,rfl,rfl,af rfl,HXB.out.alloc _,HXB.out.size⟩
 case rest=>
  obtain⟨QB,rfl,rfl,hbx,hcx,hqx⟩:=hcut;have HBX:=hd_ hbx;have HCX:=hd_ hcx;have HQX:=hd_ hqx;clear hbx hcx hqx HKEEP HXA HXA2 HNA;replace HK:=hd_ (HK.out.new HCX.out);have HX2:=hd_ (HX.out.tr HCX.out);clear HCX HX HB HAW;obtain⟨y0,y1,y2,y3,y4,y5,y6,y7,y8⟩:=aa (show Blk _ QB 60 (rvC a0 a1 a2 a3 a4 a5 a6 a7 a8)from HBX.out);by_cases he:ae=0
  ·subst he;replace HT:=hd_ (HT.out.trans (if_pos rfl));have HCH:=hd_ (gt HK.out HO.out a0 a1 a2 a3 a4 a5 a6 a7 a8 HAM.out);go_wp2_with fail;refine HCH.out.mono ?_;rintro e w3 ⟨ps3,lab3,rfl,hk3,hm3⟩;go_wp2_with fail
   go_end0
   exact⟨rfl,ps3,lab3,by rw[HT.out];exact hk3,(am.of HX2.out).trans hm3⟩
  ·have te:(ae==0)=false:=by simpa using he
   replace HT:=hd_ (HT.out.trans (if_neg he));clear he;go_wp2_with fail
   go_end0
   exact⟨rfl,ps,lab,by rw[HT.out];exact HK.out,am.of HX2.out⟩
theorem mo{w:World}{lab:Nat→Nat}{c ps pj pf:Nat}{P:Nat→Nat}{x:KV}{j:Nat}(h:KP w lab c ps pj pf P x)(ho:KOk j x)(po ma ow ta ol ge ph ve si ch:Int)(hok:RV.ok ⟨po,ma,ow,ta,ol,ge,ph,ve,si⟩=true)(A:Option Addr)(m bc:Nat)(b:List UInt8)(Sb:Nat→Prop)(hm:m=b.length)(hr:Rds w Sb A m (bcs b))(hz:A=none→bc=0)(hm2:m≤1000000):Calls Tryz.prog 131 #[.pointer (some ⟨c,0,none⟩),.agg #[U Z po,U .u64 ma,U Z ow,U Z ta,U Z ol,U Z ge,U Z ph,U Z ve,U Z si],U Z ch,.slice A m bc] w (kT (fun n=>5≤n∧n≤20) lab c ps pj pf P (iB x ⟨po,ma,ow,ta,ol,ge,ph,ve,si⟩ ch b) w):=by
 have hc0:=(Chg.refl (fun _=>False) w).alloc (.cells #[U Z po,U .u64 ma,U Z ow,U Z ta,U Z ol,U Z ge,U Z ph,U Z ve,U Z si] 60);have HK:=hd_ (h.new hc0);have HB:Hid (Blk (w.alloc (.cells #[U Z po,U .u64 ma,U Z ow,U Z ta,U Z ol,U Z ge,U Z ph,U Z ve,U Z si] 60)) w.heap.size 60 (rvC po ma ow ta ol ge ph ve si)):=hd_ (af rfl);have HX:=hd_ hc0;have HO:=hd_ ho;have HR:=hd_ (hr.old.chg hc0 (fun _ _=>id));have HZ:=hd_ hz;have HM:=hd_ hm;have HM2:=hd_ hm2;have HOW:=hd_ (fun h3=>uM (x:=⟨po,ma,ow,ta,ol,ge,ph,ve,si⟩) hok h3);have HT:Hid (iB x ⟨po,ma,ow,ta,ol,ge,ph,ve,si⟩ ch b=if ph=3∨ow=ch then x else if 0<(x.S ow.toNat).pe then{x with S:=aF x.S ow.toNat (bL (x.S ow.toNat) b)}else x):=hd_ rfl;clear h ho hr hz hm hm2 hok hc0;go_in;go_upto_region 1 with fail;generalize w.alloc (.cells #[U Z po,U .u64 ma,U Z ow,U Z ta,U Z ol,U Z ge,U Z ph,U Z ve,U Z si] 60)=w1 at*;generalize w.heap.size=Q0 at HB⊢;obtain⟨y0,y1,y2,y3,y4,y5,y6,y7,y8⟩:=aa HB.out;by_cases h3:ph=3
 ·subst h3;replace HT:=hd_ (HT.out.trans (if_pos (.inl rfl)));go_wp2_with fail
  go_end0
  exact⟨rfl,lab,by rw[HT.out];exact HK.out,am.of HX.out⟩
 ·have t3:(ph==3)=false:=by simpa using h3
  by_cases ho:ow=ch
  ·subst ho;replace HT:=hd_ (HT.out.trans (if_pos (.inr rfl)));clear h3;go_wp2_with fail
   go_end0
   exact⟨rfl,lab,by rw[HT.out];exact HK.out,am.of HX.out⟩
  ·have to_:(ow==ch)=false:=by simpa using ho
   replace HT:=hd_ (HT.out.trans (if_neg (fun e=>e.elim h3 ho)));obtain⟨w0,w15⟩:=HOW.out h3;clear h3 ho HOW;obtain⟨i,hi⟩:=Ak (show 0≤ow from w0);subst hi
   have hi:i<16:=by have h:((i:Int))≤15:=w15;omega
   have hi2:(i:Int)<16:=by omega
   have HI:=hd_ hi;rw[show ((i:Int)).toNat=i from rfl]at HT;clear hi w0 w15;go_upto_region 2 with fail
   go_region
   have HKD:=hd_ (HK.out.new (Chg.refl (fun _=>False) w1).drew);have HXD:=hd_ HX.out.drew;have HRD:=hd_ (HR.out.chg (Chg.refl (fun _=>False) w1).drew (fun _ _=>id));clear y0 y1 y2 y3 y4 y5 y6 y7 y8 HK HX HR HB;generalize w1.drew=w2 at*;have l0:w2.cell? ⟨c,5+i*2,none⟩=some (.pointer (some ⟨P i,0,none⟩)):=(HKD.out.q.cb.line HI.out).1;have HPE:=hd_ (kS (HKD.out.ln i HI.out));have HPU:=hd_ (iD (HKD.out.ln i HI.out) (HO.out.s i HI.out).len A m bc b _ HM.out HRD.out HZ.out (by have:=HM2.out;omega));have hpe:=(HO.out.s i HI.out).pe0;generalize (x.S i).pe=pe at*;by_cases hp:0<pe
   ·replace HT:=hd_ (HT.out.trans (if_pos hp));go_wp2_with fail;refine HPE.out.mono ?_;rintro e w3 ⟨rfl,rfl⟩;go_wp2_with fail;refine HPU.out.mono ?_;rintro e w4 ⟨rfl,lab1,hs,hm,hl⟩;have hk:=HKD.out.sess HI.out hs hm hl;go_wp2_with fail
    go_end0
    exact⟨rfl,lab1,by rw[HT.out];exact hk,(am.of HXD.out).trans (hm.mono (fun n e=>by omega))⟩
   ·replace HT:=hd_ (HT.out.trans (if_neg hp))
    obtain rfl:pe=0:=by omega
    clear hp hpe;go_wp2_with fail;refine HPE.out.mono ?_;rintro e w3 ⟨rfl,rfl⟩;go_wp2_with fail
    go_end0
    exact⟨rfl,lab,by rw[HT.out];exact HKD.out,am.of HXD.out⟩
end Go.Proofs.YtnojmbejedlilaaGreat
