/-
  Walks: ctl.expire, with its closure, goes, Tick. Conditions: the controller lies in memory, and holds what always holds.
-/
import Derived.Test.YtnojmbejedlilaaGreatKQCl
import Derived.Test.YtnojmbejedlilaaGreatKQM8
set_option maxRecDepth 100000
set_option maxHeartbeats 40000000
set_option linter.unusedVariables false
set_option linter.unusedSimpArgs false
namespace Go.Proofs.YtnojmbejedlilaaGreat
open Go renaming wpAnyH_take→AY,wpAnyH_ready→A_
open List renaming getElem_toArray→AZ,getElem_cons_succ→A7,getElem_cons_zero→A8,setIfInBounds_toArray→AQ,set_cons_zero→AS,set_cons_succ→AR
open Go.AllReadyH renaming cons→Ba
open Go.Value renaming int→U
open Go.IntKind renaming i64→Z
open Go.RowKit
def qy(lab:Nat→Nat)(c pj pf:Nat)(P:Nat→Nat)(y:KV)(w:World)(e:Ending)(w':World):Prop:=
 e=.returned (.tuple #[])∧∃(ps':Nat) (lab':Nat→Nat),KP w' lab' c ps' pj pf P y∧am (fun n=>1≤n∧n≤20) lab lab' w w'
theorem qz(x:KV)(r:RV):(bj x r).sp=x.sp∧(bj x r).no=x.no∧(bj x r).st=x.st∧(bj x r).rm=x.rm:=by
 have hn:(aH x (av r)).sp=x.sp∧(aH x (av r)).no=x.no∧(aH x (av r)).st=x.st∧(aH x (av r)).rm=x.rm:=by unfold aH;split<;>exact⟨rfl,rfl,rfl,rfl⟩
 unfold bj
 split
 ·exact hn
 ·exact⟨rfl,rfl,rfl,rfl⟩
theorem jI:∀(l:List CV) (x:KV),(dL x l).sp=x.sp∧(dL x l).no=x.no∧(dL x l).st=x.st∧(dL x l).rm=x.rm
 |[],x=>⟨rfl,rfl,rfl,rfl⟩
 |d::l,x=>by
  have h1:=jI l (bj x d.r);have h2:=qz x d.r;exact⟨h1.1.trans h2.1,h1.2.1.trans h2.2.1,h1.2.2.1.trans h2.2.2.1,h1.2.2.2.trans h2.2.2.2⟩
theorem nV(x:KV)(l:List CV)(d:CV):dL x (l++[d])=bj (dL x l) d.r:=by
 unfold dL;rw[List.foldl_append];rfl
theorem qB{w:World}{lab:Nat→Nat}{c ps pj pf:Nat}{P:Nat→Nat}{x:KV}{j:Nat}(h:KP w lab c ps pj pf P x)(ho:KOk j x)(q1:Nat)(h1:Blk w q1 37 #[.pointer (some ⟨c,0,none⟩)])(po ma ow ta ol ge ph ve si was:Int)(hma:0≤ma):Calls Tryz.prog 105 #[.agg #[U Z po,U .u64 ma,U Z ow,U Z ta,U Z ol,U Z ge,U Z ph,U Z ve,U Z si,U Z was],.pointer (some ⟨q1,0,none⟩)] w (qy lab c pj pf P (bj x ⟨po,ma,ow,ta,ol,ge,ph,ve,si⟩) w):=by
 have hc0:=(Chg.refl (fun _=>False) w).alloc (.cells #[U Z po,U .u64 ma,U Z ow,U Z ta,U Z ol,U Z ge,U Z ph,U Z ve,U Z si,U Z was] 188);have HK:=hd_ (h.new hc0);have HB:Hid (Blk (w.alloc (.cells #[U Z po,U .u64 ma,U Z ow,U Z ta,U Z ol,U Z ge,U Z ph,U Z ve,U Z si,U Z was] 188)) w.heap.size 188 #[U Z po,U .u64 ma,U Z ow,U Z ta,U Z ol,U Z ge,U Z ph,U Z ve,U Z si,U Z was]):=hd_ (af rfl);have H1:=hd_ (h1.chg hc0 id);have HX:=hd_ hc0;have HO:=hd_ ho;have HMA:=hd_ hma;clear h ho h1 hma hc0;go_in;go_upto_region 1 with fail;generalize w.alloc (.cells #[U Z po,U .u64 ma,U Z ow,U Z ta,U Z ol,U Z ge,U Z ph,U Z ve,U Z si,U Z was] 188)=w1 at*;generalize w.heap.size=Q0 at HB⊢;have HCC:=hd_ (gt HK.out HO.out po ma ow ta ol ge ph ve si HMA.out);have q0:w1.cell? ⟨q1,0,none⟩=some (.pointer (some ⟨c,0,none⟩)):=H1.out.cell 0;obtain⟨y0,y1,y2,y3,y4,y5,y6,y7,y8,y9⟩:=dU HB.out;go_wp2_with fail;refine HCC.out.mono ?_;rintro e w2 ⟨ps2,lab2,rfl,hk,hm⟩;go_wp2_with fail
 go_end0
 exact⟨rfl,ps2,lab2,hk,(am.of HX.out).trans hm⟩
theorem jc{w:World}{lab:Nat→Nat}{c ps pj pf:Nat}{P:Nat→Nat}{x:KV}{j:Nat}(h:KP w lab c ps pj pf P x)(ho:KOk j x):Calls Tryz.prog 54 #[.pointer (some ⟨c,0,none⟩)] w (qy lab c pj pf P (cW x) w):=by
 have hmf:∀(fn:Fn) (first cap:Array Value) (w:World),(Instr.makeFunc fn first cap).run Tryz.prog w=.ok (.func fn first cap) w:=fun _ _ _ _=>rfl;have hc0:=(Chg.refl (fun _=>False) w).alloc (.cells #[.pointer (some ⟨c,0,none⟩)] 37);have HK:=hd_ (h.new hc0);have HB:Hid (Blk (w.alloc (.cells #[.pointer (some ⟨c,0,none⟩)] 37)) w.heap.size 37 #[.pointer (some ⟨c,0,none⟩)]):=hd_ (af rfl);have HX:=hd_ hc0;have HL0:Hid (lab w.heap.size=0):=hd_ (h.q.lt _ (Nat.le_refl _));have HLT:=hd_ h.q.lt;have HSW:=hd_ hc0.size;have HO:=hd_ ho;have HMA:=hd_ (i_ ho.ma x.no x.sp);have HEX:Hid (cW x=dL x (dg x.t.R x.no x.sp)):=hd_ rfl;have HSB:=hd_ ho.sp;clear h ho hc0;generalize hsp:x.sp=sp at*;generalize hno:x.no=no at*;have HSP:=hd_ hsp;have HNO:=hd_ hno;clear hsp hno;go_in;go_upto_region 1 with fail;generalize w.alloc (.cells #[.pointer (some ⟨c,0,none⟩)] 37)=w1 at*;generalize w.heap.size=Q0 at HB HL0⊢;obtain⟨B,bc,br,hs,-,-,-⟩:=HK.out.q.sr;have HLA:=hd_ (rC hs.drew no sp ⟨by have:=HSB.out;omega,by have:=HSB.out;omega⟩)
 have HKEEP:Hid (∀W:World,Chg (fun k=>lab k≠0∧k≠c) w1 W→(W.cell? ⟨Q0,0,none⟩=some (.pointer (some ⟨c,0,none⟩))∧W.cell? ⟨c,3,none⟩=some (U Z sp)∧W.cell? ⟨c,4,none⟩=some (U Z no))):=hd_ (fun W hw=>by
  obtain⟨-,-,-,d3,d4⟩:=(HK.out.q.cb.chg hw (fun e=>e.2 rfl)).hd;rw[HSP.out]at d3;rw[HNO.out]at d4
  exact⟨(HB.out.chg hw (fun e=>e.1 HL0.out)).cell 0,d3,d4⟩)
 have HYA:=hd_ (Chg.refl (fun k=>lab k≠0∧k≠c) w1).drew;obtain⟨c0,-,-,-,-⟩:=HK.out.q.cb.hd;have c0d:w1.drew.cell? ⟨c,0,none⟩=some (.pointer (some ⟨ps,0,none⟩)):=c0;clear hs;go_wp2_with fail;have s2:=HKEEP.out _ HYA.out;refine wp_region_noPanic ?_;refine wp_region_held_drew (S:=fun w'=>(w'.cell? ⟨Q0,0,none⟩=some (.pointer (some ⟨c,0,none⟩))∧w'.cell? ⟨c,3,none⟩=some (U Z sp)∧w'.cell? ⟨c,4,none⟩=some (U Z no))) (by kernel_rfl) s2 (fun hHeld=>?_)
 iterate 5
  first
   |refine tk 0 ?_ ?_ ?_
   |refine tk 1 ?_ ?_ ?_
   |refine tk 2 ?_ ?_ ?_
   |refine tk 3 ?_ ?_ ?_
   |refine tk 5 ?_ ?_ ?_
  rotate_left
  ·intro w' hSw;(try dsimp only at hSw);go_simp;first|done|(with_reducible rfl)
  try simp only[AZ,A7,A8,Act.put,AQ,AS,AR]
 iterate 5
  first
   |refine tk 6 ?_ ?_ ?_
   |refine tk 7 ?_ ?_ ?_
   |refine tk 8 ?_ ?_ ?_
   |refine tk 9 ?_ ?_ ?_
   |refine tk 10 ?_ ?_ ?_
  rotate_left
  ·intro w' hSw;(try dsimp only at hSw);go_simp;first|done|(with_reducible rfl)
  try simp only[AZ,A7,A8,Act.put,AQ,AS,AR]
 iterate 3
  first
   |refine tk 11 ?_ ?_ ?_
   |refine tk 12 ?_ ?_ ?_
   |refine tk 14 ?_ ?_ ?_
  rotate_left
  ·intro w' hSw;(try dsimp only at hSw);go_simp;first|done|(with_reducible rfl)
  try simp only[AZ,A7,A8,Act.put,AQ,AS,AR]
 refine A_ (rs:=[4]) (by kernel_rfl) (by simp) ?_;refine Ba rfl (fun K hK=>?_) AllReadyH.nil;go_simp;refine hK.out _ _ s2 (fun hHeld=>?_);clear hK K;(try simp only[AZ,A7,A8,Act.put,AQ,AS,AR]);refine A_ (rs:=[13]) (by kernel_rfl) (by simp) ?_;refine Ba rfl (fun K hK=>?_) AllReadyH.nil;go_simp;refine HLA.out.mono ?_;rintro e w4 ⟨AL,ln,lc,rfl,hln,hown,hc⟩;have hsr:=ft oJ hown hln;have hl32:=tZ x.t.R no sp;have HC4:=hd_ hc;have HKW:=hd_ (HK.out.new ((Chg.refl (fun _=>False) w1).drew.tr hc));have HBW:=hd_ (HB.out.chg ((Chg.refl (fun _=>False) w1).drew.tr hc) id);have hlab:∀k,(w1.drew.heap.size≤k∧k<w4.heap.size)→lab k=0:=fun k hk=>HLT.out k (by have h1:=hk.1;have h2:=HSW.out;simp at h1;omega)
 have HEA:=hd_ (qq AL ln lc (dg x.t.R no sp) _ w4 (.pointer (some ⟨Q0,0,none⟩)) (fun i W=>∃ps' lab',KP W lab' c ps' pj pf P (dL x ((dg x.t.R no sp).take i))∧am (fun n=>1≤n∧n≤20) lab lab' w4 W) (by omega)
  ⟨ps,lab,HKW.out,am.refl _ _ _⟩ hln
  (fun i W hI=>by
   obtain⟨ps',lab',hk,hm⟩:=hI
   exact hsr.chg hm.1 (fun k hk=>by rw[hlab k hk];decide))
  (fun i W W' hI hc'=>by
   obtain⟨ps',lab',hk,hm⟩:=hI
   exact⟨ps',lab',hk.new hc',hm.trans (am.of hc')⟩)
  (fun i d W hx hI=>by
   obtain⟨ps',lab',hk,hm⟩:=hI;have hmd:=HMA.out d (List.mem_of_getElem? hx);have hok:=KOk.exps ((dg x.t.R no sp).take i) HO.out (fun d hd=>HMA.out d (List.mem_of_mem_take hd));obtain⟨⟨a0,a1,a2,a3,a4,a5,a6,a7,a8⟩,aw⟩:=d;refine(qB hk hok Q0 (HBW.out.chg hm.1 (by rw[HL0.out];decide)) a0 a1 a2 a3 a4 a5 a6 a7 a8 aw hmd).mono ?_;rintro e W' ⟨he,ps2,lab2,hk2,hm2⟩;rw[dI hx,nV]
   exact⟨he,ps2,lab2,hk2,hm.trans hm2⟩))
 have HLN:=hd_ hln;have s2:=HKEEP.out _ (HYA.out.trans (hc.mono (S':=fun k=>lab k≠0∧k≠c) (fun _ _ h=>h.elim)) (fun _ _ e=>e));clear hsr hl32 hc hown hln hlab;go_wp2_with fail;refine hK.out _ _ s2 (fun hHeld=>?_);clear hK K;(try simp only[AZ,A7,A8,Act.put,AQ,AS,AR]);refine A_ (rs:=[15]) (by kernel_rfl) (by simp) ?_;refine Ba rfl (fun K hK=>?_) AllReadyH.nil;go_simp;refine HEA.out.mono ?_;rintro e w5 ⟨rfl,ps5,lab5,hk5,hm5⟩;rw[List.take_of_length_le (by have:=HLN.out;omega)]at hk5;have hsm:=jI (dg x.t.R no sp) x;obtain⟨-,-,-,d3,d4⟩:=hk5.q.cb.hd;rw[hsm.1,HSP.out]at d3;rw[hsm.2.1,HNO.out]at d4;have s2:(w5.cell? ⟨Q0,0,none⟩=some (.pointer (some ⟨c,0,none⟩))∧w5.cell? ⟨c,3,none⟩=some (U Z sp)∧w5.cell? ⟨c,4,none⟩=some (U Z no)):=⟨(HBW.out.chg hm5.1 (by rw[HL0.out];decide)).cell 0,d3,d4⟩;have HK5:=hd_ hk5;have HM5:=hd_ ((am.of (N:=fun n=>1≤n∧n≤20) (HX.out.trans ((Chg.refl (fun _=>False) w1).drew.tr HC4.out) (fun _ _ e=>e))).trans hm5);clear hsm d3 d4 hk5 hm5;go_wp2_with fail;refine hK.out _ _ s2 (fun hHeld=>?_);clear hK K;(try simp only[AZ,A7,A8,Act.put,AQ,AS,AR]);refine wpAnyH_done (by kernel_rfl) ?_ _;refine NoPanic.normal ?_;go_wp2_with fail
 go_end0
 refine⟨rfl,ps5,lab5,?_,HM5.out⟩;rw[HEX.out];exact HK5.out
def gy(st:Bool):Int:=if st then 13 else 0
theorem fP{w:World}{lab:Nat→Nat}{c ps pj pf:Nat}{P:Nat→Nat}{x:KV}(h:KP w lab c ps pj pf P x):Calls Tryz.prog 57 #[.pointer (some ⟨c,0,none⟩)] w fun e w'=>e=.returned (U Z (gy x.st))∧w=w':=by
 have c37:=h.q.cb.stop;clear h;generalize x.st=st at*;go_in
 cases st with
 |false=>
  go_wp2_with fail;go_ret;exact⟨rfl,rfl⟩
 |true=>
  go_wp2_with fail;go_ret;exact⟨rfl,rfl⟩
def vo(lab:Nat→Nat)(c pj pf:Nat)(P:Nat→Nat)(er:Int)(y:KV)(w:World)(e:Ending)(w':World):Prop:=
 ∃(ps':Nat) (lab':Nat→Nat),e=.returned (U Z er)∧KP w' lab' c ps' pj pf P y∧am (fun n=>1≤n∧n≤20) lab lab' w w'
theorem KOk.now{j:Nat}{x:KV}(h:KOk j x){now:Int}(hn:0≤now∧now≤1099511627776):KOk j {x with no:=now}:=⟨h.wf,h.ma,h.bt,h.sp,hn,h.s,h.b,h.m,h.sf⟩
theorem KOk.stop{j:Nat}{x:KV}(h:KOk j x)(b:Bool):KOk j {x with st:=b}:=⟨h.wf,h.ma,h.bt,h.sp,h.no,h.s,h.b,h.m,h.sf⟩
theorem KOk.tick{j:Nat}{x:KV}(h:KOk j x)(now:Int):KOk j (bG x now).2:=by
 unfold bG
 split
 ·exact h
 ·split
  ·exact h
  ·rename_i hn;have:=h.no;exact(h.now ⟨by omega,by omega⟩).exp
theorem qC{w:World}{lab:Nat→Nat}{c ps pj pf:Nat}{P:Nat→Nat}{x:KV}{j:Nat}(h:KP w lab c ps pj pf P x)(ho:KOk j x)(now:Int):Calls Tryz.prog 33 #[.pointer (some ⟨c,0,none⟩),U Z now] w (vo lab c pj pf P (bG x now).1 (bG x now).2 w):=by
 have HG:=hd_ (fP h);have HK:=hd_ h;have HO:=hd_ ho;clear h ho
 cases hst:x.st with
 |true=>
  have HT:Hid (bG x now=(13,x)):=hd_ (by unfold bG;rw[hst];rfl);rw[hst]at HG;clear hst;go_in;go_wp2_with fail;refine HG.out.mono ?_;rintro e w1 ⟨rfl,rfl⟩;go_wp2_with fail;go_ret;exact⟨ps,lab,by rw[HT.out];rfl,by rw[HT.out];exact HK.out,am.refl _ _ _⟩
 |false=>
  have HT0:Hid (bG x now=if now<x.no∨1099511627776<now then(1,x)else(0,cW {x with no:=now})):=hd_ (by unfold bG;rw[hst];rfl);rw[hst]at HG;clear hst;obtain⟨-,-,-,-,c4⟩:=HK.out.q.cb.hd;generalize hno:x.no=no at c4 HT0;have HNO:=hd_ hno;clear hno;by_cases hn:now<no∨1099511627776<now
  ·have HT:=hd_ (HT0.out.trans (if_pos hn));have HN:=hd_ hn;clear hn;go_in;go_wp2_with fail;refine HG.out.mono ?_;rintro e w1 ⟨rfl,rfl⟩;rcases HN.out with hn|hn
   ·go_wp2_with fail;go_ret;exact⟨ps,lab,by rw[HT.out];rfl,by rw[HT.out];exact HK.out,am.refl _ _ _⟩
   ·by_cases hn2:now<no
    ·go_wp2_with fail;go_ret;exact⟨ps,lab,by rw[HT.out];rfl,by rw[HT.out];exact HK.out,am.refl _ _ _⟩
    ·go_wp2_with fail;go_ret;exact⟨ps,lab,by rw[HT.out];rfl,by rw[HT.out];exact HK.out,am.refl _ _ _⟩
  ·have HT:=hd_ (HT0.out.trans (if_neg hn));have hn1:¬now<no:=fun e=>hn (.inl e);have hn2:¬1099511627776<now:=fun e=>hn (.inr e);have hb:=HO.out.no
   have hnb:0≤now∧now≤1099511627776:=by have:=HNO.out;omega
   have HOO:=hd_ (HO.out.now hnb);clear hn hb hnb;have f4:=HK.out.q.cb.free 4;go_in;go_wp2_with fail;refine HG.out.mono ?_;rintro e w1 ⟨rfl,rfl⟩;go_upto_region 7 with fail;have hcs:=(Chg.refl (fun k=>k=c) w).put c 4 (fun _=>rfl) (U Z now);have HK2:=hd_ (HK.out.own (y:={x with no:=now}) hcs (HK.out.q.cb.setNo now) ⟨rfl,rfl⟩ ⟨rfl,rfl,rfl⟩ rfl);have HM2:Hid (am (fun n=>1≤n∧n≤20) lab lab w (w.setCell ⟨c,4,none⟩ (U Z now))):=hd_ ((am.refl _ _ _).put hcs (fun _=>by rw[HK.out.q.lc];decide));clear hcs c4 f4;generalize w.setCell ⟨c,4,none⟩ (U Z now)=w2 at*;have HE:=hd_ (jc HK2.out HOO.out);go_wp2_with fail;refine HE.out.mono ?_;rintro e w3 ⟨rfl,ps3,lab3,hk,hm⟩;go_wp2_with fail;go_ret;exact⟨ps3,lab3,by rw[HT.out];rfl,by rw[HT.out];exact hk,HM2.out.trans hm⟩
end Go.Proofs.YtnojmbejedlilaaGreat
