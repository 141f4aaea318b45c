/-
  Walks: ctl.put, note. Conditions: the controller lies in memory, its store is whole; what may become so can be put.
-/
import Derived.Test.YtnojmbejedlilaaGreatKQCg
import Derived.Test.YtnojmbejedlilaaGreatKQM6
set_option maxRecDepth 100000
set_option maxHeartbeats 40000000
set_option linter.unusedVariables false
set_option linter.unusedSimpArgs false
namespace Go.Proofs.YtnojmbejedlilaaGreat
open List renaming length_append→zY
open Nat renaming le_refl→zG
open Go.Value renaming int→U
open Go.IntKind renaming i64→Z
open Go.RowKit
section
variable {N : Nat → Prop} {lab lab1 : Nat → Nat} {w w1 w' : World} {c ps pj pf : Nat} {V : Nat → Value} {P : Nat → Nat} {x : KV}
theorem KQ.free(h:KQ w lab c ps pj pf V x){S:Nat→Prop}(hc:Chg S w w1)(hS:∀k,S k→lab k=0):KQ w1 lab c ps pj pf V x:=
 h.mv (N:=fun n=>n=0) (⟨hc.mono (fun k _ e=>hS k e),fun _ _=>rfl⟩) (h.lt.new hc.size) (by decide) (by decide) (by decide) (by decide)
theorem KQ.state(h:KQ w lab c ps pj pf V x){p B bc br:Nat}{t:ba}(hs:CS B w p bc br t.C t.R)(h1:lab p=0)(h2:lab bc=0)(h3:lab br=0):KQ ((w.setCell ⟨c,0,none⟩ (.pointer (some ⟨p,0,none⟩))).setCell ⟨c,1,none⟩ (U Z t.bt)) (j3 lab p bc br) c p pj pf V {x with t:=t}:=by
 have hc:=((Chg.refl (fun k=>k=c) w).put c 0 (fun _=>rfl) (.pointer (some ⟨p,0,none⟩))).put c 1 (fun _=>rfl) (U Z t.bt);have hl:=hs.lt3
 have hag:∀{k n:Nat},lab k=n→n≠0→j3 lab p bc br k=n:=fun{k n} e hn=>by
  unfold j3;rw[if_neg]
  ·exact e
  ·rintro(rfl|rfl|rfl)
   ·exact hn (e.symm.trans h1)
   ·exact hn (e.symm.trans h2)
   ·exact hn (e.symm.trans h3)
 have hne:∀{k n:Nat},lab k=n→n≠1→¬k=c:=fun{k n} e hn hk=>hn (by rw[←e,hk];exact h.lc);refine⟨fun k hk=>?_,h.cb.setTS p t.bt,hag h.lc (by decide),⟨B,bc,br,hs.chg hc (hne h1 (by decide)) (hne h2 (by decide)) (hne h3 (by decide)),if_pos (.inl rfl),if_pos (.inr (.inl rfl)),if_pos (.inr (.inr rfl))⟩,h.jb.chg hc (hne h.lj (by decide)),hag h.lj (by decide),?_⟩
 ·have hk2:w.heap.size≤k:=by simpa[World.setCell]using hk
  unfold j3;rw[if_neg (by omega)];exact h.lt k hk2
 ·obtain⟨o,hf,g1,g2⟩:=h.fi;exact⟨o,hf.chg hc (hne g1 (by decide)) (fun k hk=>hne (g2 k hk) (by decide)),hag g1 (by decide),fun k hk=>hag (g2 k hk) (by decide)⟩
end
theorem nd{t:ba}(h:WF t.C t.R)(r:aI):WF (aA t r).C (aA t r).R:=by
 unfold aA
 split
 ·unfold doR
  split
  ·rename_i hw;exact h.put hw
  ·exact h
 ·split
  ·exact h.addK r.z
  ·split
   ·exact h.remK r.z
   ·split
    ·exact h
    ·exact h
theorem sG{r:Nat}{bs b:List UInt8}(h:fz r bs b≠0):cJ r bs b=bs:=by
 unfold fz ll at h;unfold cJ iW
 split at h
 ·rename_i h1;rw[if_pos h1]
 ·rename_i h1;rw[if_neg h1]
  split at h
  ·rename_i h2;rw[if_pos h2]
  ·exact absurd rfl h
theorem qw{x:KV}{r:aI}(h:bU x.t r=0):aM x r={x with bs:=cJ x.rm x.bs r.bs}∧ao x r=fz x.rm x.bs r.bs:=by
 have hx:ao x r=fz x.rm x.bs r.bs:=if_pos h;refine⟨?_,hx⟩;unfold aM;rw[hx]
 split
 ·rfl
 ·rename_i hn;rw[sG hn]
theorem sH{x:KV}{r:aI}(h:¬bU x.t r=0):aM x r=x∧ao x r=bU x.t r:=by
 have hx:ao x r=bU x.t r:=if_neg h;refine⟨?_,hx⟩;unfold aM;rw[hx,if_neg h]
theorem sI{r:Nat}{bs b:List UInt8}(h:bs.length≤r):(iW r bs b).length≤r:=by
 unfold iW
 split
 ·exact h
 ·rw[zY];omega
theorem lY{r:Nat}{bs b:List UInt8}(h:bs.length≤r):(cJ r bs b).length≤r∧bs.length≤(cJ r bs b).length:=by
 unfold cJ
 split
 ·exact⟨h,zG _⟩
 ·refine⟨sI h,?_⟩;unfold iW
  split
  ·exact zG _
  ·rw[zY];omega
def xY(lab:Nat→Nat)(c ps pj pf:Nat)(V:Nat→Value)(x:KV)(r:aI)(w:World)(e:Ending)(w':World):Prop:=
 ∃(sv:Option Addr) (bt':Int) (lab':Nat→Nat),e=.returned (.tuple #[.agg #[.pointer sv,U Z bt'],U Z (ao x r)])∧KQ w' lab' c ps pj pf V (aM x r)∧am (fun n=>n=4) lab lab' w w'∧
  (ao x r=0→bt'=(aA x.t r).bt∧∃p B bc br,sv=some ⟨p,0,none⟩∧CS B w' p bc br (aA x.t r).C (aA x.t r).R∧w.heap.size≤B∧lab' p=0∧lab' bc=0∧lab' br=0)
def oZ(lab:Nat→Nat)(c pj pf:Nat)(V:Nat→Value)(x:KV)(r:aI)(w:World)(e:Ending)(w':World):Prop:=
 ∃(ps':Nat) (lab':Nat→Nat),e=.returned (U Z (ao x r))∧KQ w' lab' c ps' pj pf V (aH x r)∧am (fun n=>1≤n∧n≤4) lab lab' w w'
theorem lZ{w:World}{lab:Nat→Nat}{c ps pj pf:Nat}{V:Nat→Value}{x:KV}(h:KQ w lab c ps pj pf V x)(hw:WF x.t.C x.t.R)(hb:x.bs.length≤x.rm)(hm:x.rm≤16777216)(k po ma ow ta ol ge ph ve si z n:Int)(hr:bU x.t ⟨k,⟨po,ma,ow,ta,ol,ge,ph,ve,si⟩,z,n⟩=0→aI.ok ⟨k,⟨po,ma,ow,ta,ol,ge,ph,ve,si⟩,z,n⟩):Calls Tryz.prog 61 #[.pointer (some ⟨c,0,none⟩),.agg #[U Z k,U Z po,U .u64 ma,U Z ow,U Z ta,U Z ol,U Z ge,U Z ph,U Z ve,U Z si,U Z z,U Z n]] w (xY lab c ps pj pf V x ⟨k,⟨po,ma,ow,ta,ol,ge,ph,ve,si⟩,z,n⟩ w):=by
 have hc0:=(((Chg.refl (fun _=>False) w).alloc (.cells #[U Z k,U Z po,U .u64 ma,U Z ow,U Z ta,U Z ol,U Z ge,U Z ph,U Z ve,U Z si,U Z z,U Z n] 110)).alloc (.cells #[.pointer none,U Z 0] 99));have HK:=hd_ (h.new hc0);have HQ:Hid (Blk ((w.alloc (.cells #[U Z k,U Z po,U .u64 ma,U Z ow,U Z ta,U Z ol,U Z ge,U Z ph,U Z ve,U Z si,U Z z,U Z n] 110)).alloc (.cells #[.pointer none,U Z 0] 99)) w.heap.size 110 #[U Z k,U Z po,U .u64 ma,U Z ow,U Z ta,U Z ol,U Z ge,U Z ph,U Z ve,U Z si,U Z z,U Z n]):=hd_ ((af rfl).alloc _);have HZ:Hid (Blk ((w.alloc (.cells #[U Z k,U Z po,U .u64 ma,U Z ow,U Z ta,U Z ol,U Z ge,U Z ph,U Z ve,U Z si,U Z z,U Z n] 110)).alloc (.cells #[.pointer none,U Z 0] 99)) (w.heap.size+1) 99 #[.pointer none,U Z 0]):=hd_ (af (by simp));have HX:=hd_ hc0;have HQW:Hid (w.heap.size≤w.heap.size∧w.heap.size≤w.heap.size+1∧w.heap.size+1<((w.alloc (.cells #[U Z k,U Z po,U .u64 ma,U Z ow,U Z ta,U Z ol,U Z ge,U Z ph,U Z ve,U Z si,U Z z,U Z n] 110)).alloc (.cells #[.pointer none,U Z 0] 99)).heap.size):=hd_ ⟨zG _,by omega,HZ.out.lt⟩;have HL0:Hid (lab w.heap.size=0):=hd_ (h.lt _ (zG _));have HL1:Hid (lab (w.heap.size+1)=0):=hd_ (h.lt _ (by omega));have HLT:=hd_ h.lt;have HW:=hd_ hw;have HB:=hd_ hb;have HM:=hd_ hm;have HRK:=hd_ hr;clear h hw hb hm hr hc0;go_in;go_upto_region 1 with fail;generalize (w.alloc (.cells #[U Z k,U Z po,U .u64 ma,U Z ow,U Z ta,U Z ol,U Z ge,U Z ph,U Z ve,U Z si,U Z z,U Z n] 110)).alloc (.cells #[.pointer none,U Z 0] 99)=w1 at*;generalize hq1:w.heap.size+1=Q1 at HZ HL1 HQW⊢;generalize hq0:w.heap.size=Q0 at HQ HL0⊢;have HQ01:Hid (w.heap.size≤Q0∧w.heap.size≤Q1∧Q0≠Q1∧Q0<Q1):=hd_ (by omega);clear hq0 hq1;obtain⟨B,bc,br,hs,l1,l2,l3⟩:=HK.out.sr;obtain⟨c0,c1,-,-,-⟩:=HK.out.cb.hd;have HCP:=hd_ (nc B ps bc br x.t.C x.t.R x.t.bt w1 hs HW.out);clear hs l1 l2 l3;go_wp2_with fail;refine HCP.out.mono ?_;rintro e w2 ⟨pn,bcn,brn,rfl,hs,hc⟩;have HSN:=hd_ hs;replace HK:=hd_ (HK.out.new hc);replace HQ:=hd_ (HQ.out.chg hc id);replace HZ:=hd_ (HZ.out.chg hc id);replace HX:=hd_ (HX.out.tr hc);have HS12:=hd_ hc.size;clear hs hc HCP c0 c1;dsimp only at HSN;go_upto_region 2 with fail;have hc:=(Chg.refl (fun _=>False) w2).alloc (.cells #[.pointer (some ⟨pn,0,none⟩),U Z x.t.bt] 99);have HN:Hid (Blk (w2.alloc (.cells #[.pointer (some ⟨pn,0,none⟩),U Z x.t.bt] 99)) w2.heap.size 99 #[.pointer (some ⟨pn,0,none⟩),U Z x.t.bt]):=hd_ (af rfl);replace HSN:=hd_ (HSN.out.keep hc);replace HK:=hd_ (HK.out.new hc);replace HQ:=hd_ (HQ.out.chg hc id);replace HZ:=hd_ (HZ.out.chg hc id);replace HX:=hd_ (HX.out.tr hc);have HN2:Hid (w1.heap.size≤w2.heap.size):=HS12;clear hc HS12;generalize w2.alloc (.cells #[.pointer (some ⟨pn,0,none⟩),U Z x.t.bt] 99)=w3 at*;generalize w2.heap.size=QN at*;obtain⟨y0,y1,y2,y3,y4,y5,y6,y7,y8,y9,y10,y11⟩:=ak HQ.out;have HBC:=hd_ (i8 _ pn bcn brn QN 99 #[.pointer (some ⟨pn,0,none⟩),U Z x.t.bt] x.t.C x.t.R x.t.bt k po ma ow ta ol ge ph ve si z n w3 HSN.out HN.out (by decide) rfl rfl);have HWW:Hid (w.heap.size≤w1.heap.size):=hd_ (by have:=HQW.out;omega);have HGE:Hid (w1.heap.size≤pn∧w1.heap.size≤bcn∧Q0<w1.heap.size∧Q1<w1.heap.size):=hd_ ⟨HSN.out.bp,HSN.out.bbc,by have h1:=HQW.out;have h2:=HQ01.out;omega,by have h1:=HQW.out;have h2:=HQ01.out;omega⟩;go_wp2_with fail;refine HBC.out.mono ?_;rintro e w4 ⟨brn',rfl,hs,hn,hc⟩;have hge:=HGE.out;have hww:=HWW.out;have hn2:=HN2.out;replace HSN:=hd_ hs;replace HN:=hd_ hn;replace HK:=hd_ (HK.out.free hc (fun k hk=>HLT.out k (by omega)));replace HQ:=hd_ (HQ.out.chg hc (by omega));replace HZ:=hd_ (HZ.out.chg hc (by omega));have HXW:=hd_ (HX.out.trans hc (fun i hi e=>by omega));clear hs hn hc HBC HX hge hww hn2 y0 y1 y2 y3 y4 y5 y6 y7 y8 y9 y10 y11;have HTT:Hid ((⟨x.t.C,x.t.R,x.t.bt⟩:ba)=x.t):=hd_ rfl;rw[HTT.out]at HSN HN⊢;have HYES:=hd_ (fun h=>qw (x:=x) (r:=⟨k,⟨po,ma,ow,ta,ol,ge,ph,ve,si⟩,z,n⟩) h);have HNO:=hd_ (fun h=>sH (x:=x) (r:=⟨k,⟨po,ma,ow,ta,ol,ge,ph,ve,si⟩,z,n⟩) h);by_cases he:bU x.t ⟨k,⟨po,ma,ow,ta,ol,ge,ph,ve,si⟩,z,n⟩=0
 case neg=>
  obtain⟨hk,hx⟩:=HNO.out he;have HPK:=hd_ hk;have HPX:=hd_ hx;have HEN:=hd_ he;generalize bU x.t ⟨k,⟨po,ma,ow,ta,ol,ge,ph,ve,si⟩,z,n⟩=eb at*
  have te:(eb !=0)=true:=by simpa using he
  clear hk hx he HYES HNO HRK;have f0:=HZ.out.frozen 0;have f1:=HZ.out.frozen 1;have z0:w4.cell? ⟨Q1,0,none⟩=some (.pointer none):=HZ.out.cell 0;have z1:w4.cell? ⟨Q1,1,none⟩=some (U Z 0):=HZ.out.cell 1;have hcs:=((Chg.refl (fun k=>k=Q1) w4).put Q1 0 (fun _=>rfl) (.pointer none)).put Q1 1 (fun _=>rfl) (U Z 0);have hZ:=(HZ.out.set 0 (.pointer none));have r0:(w4.setCell ⟨Q1,0,none⟩ (.pointer none)).cell? ⟨Q1,0,none⟩=some (.pointer none):=hZ.cell 0;have r1:((w4.setCell ⟨Q1,0,none⟩ (.pointer none)).setCell ⟨Q1,1,none⟩ (U Z 0)).cell? ⟨Q1,1,none⟩=some (U Z 0):=(hZ.set 1 (U Z 0)).cell 1;have RR:=hd_ (And.intro r0 r1);have HCS:=hd_ hcs;clear hcs hZ r0 r1;go_wp2_with fail;obtain⟨r0,r1⟩:=RR.out;exact bodyPost_ret (v:=.tuple #[.agg #[.pointer none,U Z 0],U Z eb]) (by simp[results,Tryz.results61,go_sem,r0,r1]) rfl ⟨none,0,lab,by rw[HPX.out],by rw[HPK.out];exact HK.out.free HCS.out (fun k hk=>by rw[hk];exact HL1.out),⟨(ab HXW.out HCS.out HQ01.out.2.1).mono (fun _ _ e=>e.elim),fun _ _=>rfl⟩,fun h0=>absurd (HPX.out.symm.trans h0) HEN.out⟩
 case pos=>
  obtain⟨hk,hx⟩:=HYES.out he;have HPK:=hd_ hk;have HPX:=hd_ hx;have hrk:=HRK.out he;have HBY:=hd_ (fun W=>nQ k po ma ow ta ol ge ph ve si z n hrk W);have hrl:=(gQ (k:=k) (x:=⟨po,ma,ow,ta,ol,ge,ph,ve,si⟩) (z:=z) (n:=n)).2;have hbse:aI.bs ⟨k,⟨po,ma,ow,ta,ol,ge,ph,ve,si⟩,z,n⟩=eo k ⟨po,ma,ow,ta,ol,ge,ph,ve,si⟩ z n:=rfl;rw[hbse]at HPK HPX;rw[he];generalize eo k ⟨po,ma,ow,ta,ol,ge,ph,ve,si⟩ z n=rb at*;have HRL:=hd_ hrl;generalize htn:aA x.t ⟨k,⟨po,ma,ow,ta,ol,ge,ph,ve,si⟩,z,n⟩=tn at*;have HTN:=hd_ htn;generalize htb:tn.bt=tb at*;have HTB:=hd_ htb;clear hk hx he hrk hbse hrl htn htb HYES HNO HRK;have HN3:Hid (Blk w4 QN 99 #[.pointer (some ⟨pn,0,none⟩),U Z tb]):=HN;clear HN
  have HLN:Hid (lab pn=0∧lab bcn=0∧lab brn'=0):=hd_ (by
   have h1:=HGE.out;have h2:=HWW.out;have h3:=HSN.out.bbr
   exact⟨HLT.out _ (by omega),HLT.out _ (by omega),HLT.out _ (by omega)⟩)
  have HNQ:Hid (¬lab QN=4∧¬QN=Q1∧¬lab Q0=4∧¬Q0=Q1∧¬lab c=4∧¬c=Q1):=hd_ (by
   have h1:=HGE.out;have h2:=HWW.out;have h3:=HN2.out;refine⟨?_,by omega,?_,HQ01.out.2.2.1,?_,?_⟩
   ·rw[HLT.out QN (by omega)];decide
   ·rw[HL0.out];decide
   ·rw[HK.out.lc];decide
   ·intro e;have h4:=HK.out.lc;rw[e,HL1.out]at h4;cases h4)
  have HKEEP:Hid (∀W:World,Chg (fun k=>lab k=4∨k=Q1) w4 W→((W.cell? ⟨QN,0,none⟩=some (.pointer (some ⟨pn,0,none⟩))∧W.cell? ⟨QN,1,none⟩=some (U Z tb)∧W.cell? ⟨c,2,none⟩=some (.pointer (some ⟨pj,0,none⟩))∧W.cell? ⟨Q0,0,none⟩=some (U Z k)∧W.cell? ⟨Q0,1,none⟩=some (U Z po)∧W.cell? ⟨Q0,2,none⟩=some (U .u64 ma)∧W.cell? ⟨Q0,3,none⟩=some (U Z ow)∧W.cell? ⟨Q0,4,none⟩=some (U Z ta)∧W.cell? ⟨Q0,5,none⟩=some (U Z ol)∧W.cell? ⟨Q0,6,none⟩=some (U Z ge)∧W.cell? ⟨Q0,7,none⟩=some (U Z ph)∧W.cell? ⟨Q0,8,none⟩=some (U Z ve)∧W.cell? ⟨Q0,9,none⟩=some (U Z si)∧W.cell? ⟨Q0,10,none⟩=some (U Z z)∧W.cell? ⟨Q0,11,none⟩=some (U Z n)))):=hd_ (fun W hw=>by
   obtain⟨g1,g2,g3,g4,g5,g6⟩:=HNQ.out;have hn:=HN3.out.chg hw (by rintro(e|e);exact g1 e;exact g2 e);have hq:=ak (HQ.out.chg hw (by rintro(e|e);exact g3 e;exact g4 e));obtain⟨-,-,hc2,-,-⟩:=(HK.out.cb.chg hw (by rintro(e|e);exact g5 e;exact g6 e)).hd
   exact⟨hn.cell 0,hn.cell 1,hc2,hq⟩)
  have HYA:=hd_ (Chg.refl (fun k=>lab k=4∨k=Q1) w4).drew;have HKW:=HK;have hkk:=HKEEP.out _ HYA.out;obtain⟨g0,g1,g2,g3,g4,g5,g6,g7,g8,g9,g10,g11,g12,g13,g14⟩:=hkk;go_wp2_with fail
  go_region_held3 (fun w'=>(w'.cell? ⟨QN,0,none⟩=some (.pointer (some ⟨pn,0,none⟩))∧w'.cell? ⟨QN,1,none⟩=some (U Z tb)∧w'.cell? ⟨c,2,none⟩=some (.pointer (some ⟨pj,0,none⟩))∧w'.cell? ⟨Q0,0,none⟩=some (U Z k)∧w'.cell? ⟨Q0,1,none⟩=some (U Z po)∧w'.cell? ⟨Q0,2,none⟩=some (U .u64 ma)∧w'.cell? ⟨Q0,3,none⟩=some (U Z ow)∧w'.cell? ⟨Q0,4,none⟩=some (U Z ta)∧w'.cell? ⟨Q0,5,none⟩=some (U Z ol)∧w'.cell? ⟨Q0,6,none⟩=some (U Z ge)∧w'.cell? ⟨Q0,7,none⟩=some (U Z ph)∧w'.cell? ⟨Q0,8,none⟩=some (U Z ve)∧w'.cell? ⟨Q0,9,none⟩=some (U Z si)∧w'.cell? ⟨Q0,10,none⟩=some (U Z z)∧w'.cell? ⟨Q0,11,none⟩=some (U Z n)))
   (first|with_reducible exact HKEEP.out _ HYA.out|with_reducible exact HKEEP.out _ HYB.out|with_reducible exact HKEEP.out _ HYC.out|with_reducible exact HKEEP.out _ HYD.out|fail)
   (first
    |(go_at_call 117;(with_reducible refine(HBY.out w4.drew).mono ?_);rintro e wb ⟨A,bc',rfl,hz,hrd,hc⟩;have HYB:=hd_ (HYA.out.trans (hc.mono (S':=fun k=>lab k=4∨k=Q1) (fun _ _ h=>h.elim)) (fun _ _ e=>e));replace HKW:=hd_ (HKW.out.new ((Chg.refl (fun _=>False) w4).drew.tr hc));replace HZ:=hd_ (HZ.out.chg ((Chg.refl (fun _=>False) w4).drew.tr hc) id);replace HXW:=hd_ (HXW.out.trans ((Chg.refl (fun _=>False) w4).drew.tr hc) (fun _ _ e=>e));replace HSN:=hd_ (HSN.out.keep ((Chg.refl (fun _=>False) w4).drew.tr hc));have HRB:=hd_ hrd;clear hz hrd hc)
    |(go_at_call 116;(obtain⟨of_,hfi,hl1,hl2⟩:=HKW.out.fi);(have HZL:=hd_ HZ.out.lt);(with_reducible refine(uo pj pf of_ x.bs rb x.sf x.rm rb.length bc' A _ wb HKW.out.jb hfi rfl HRB.out HB.out HM.out (by have:=HRL.out;omega)).mono ?_);rintro e wz ⟨rfl,o',hf',hmv⟩;obtain⟨hfl,hm4,hl4⟩:=m7 hfi hl1 hl2 hf' hmv;have HKF:=hd_ (HKW.out.file hfl hm4 hl4);have HM4:=hd_ hm4;have HYC:=hd_ (HYB.out.trans (hm4.1.mono (fun k _ e=>.inl e)) (fun _ _ e=>e));have hq1:¬lab Q1=4:=fun e=>absurd (e.symm.trans HL1.out) (by decide);have h3:=HSN.out.lt3;replace HZ:=hd_ (HZ.out.chg hm4.1 hq1);replace HSN:=hd_ (HSN.out.chg hm4.1 (by rw[HLN.out.1];decide) (by rw[HLN.out.2.1];decide) (by rw[HLN.out.2.2];decide));have HOL:=hd_ (And.intro (hm4.2 _ h3.1) (And.intro (hm4.2 _ h3.2.1) (And.intro (hm4.2 _ h3.2.2) (hm4.2 _ HZL.out))));clear hfl hm4 hl4 hf' hmv hq1 h3;have f0:=HZ.out.frozen 0;have f1:=HZ.out.frozen 1;have z0:wz.cell? ⟨Q1,0,none⟩=some (.pointer none):=HZ.out.cell 0;have z1:wz.cell? ⟨Q1,1,none⟩=some (U Z 0):=HZ.out.cell 1;have hcs:=((Chg.refl (fun k=>k=Q1) wz).put Q1 0 (fun _=>rfl) (.pointer (some ⟨pn,0,none⟩))).put Q1 1 (fun _=>rfl) (U Z tb);have hZ:=(HZ.out.set 0 (.pointer (some ⟨pn,0,none⟩)));have r0:(wz.setCell ⟨Q1,0,none⟩ (.pointer (some ⟨pn,0,none⟩))).cell? ⟨Q1,0,none⟩=some (.pointer (some ⟨pn,0,none⟩)):=hZ.cell 0;have r1:((wz.setCell ⟨Q1,0,none⟩ (.pointer (some ⟨pn,0,none⟩))).setCell ⟨Q1,1,none⟩ (U Z tb)).cell? ⟨Q1,1,none⟩=some (U Z tb):=(hZ.set 1 (U Z tb)).cell 1;have RR:=hd_ (And.intro r0 r1);have HCS:=hd_ hcs;clear hcs hZ r0 r1;have HYD:=hd_ (HYC.out.trans (HCS.out.mono (S':=fun k=>lab k=4∨k=Q1) (fun _ _ e=>.inr e)) (fun _ _ e=>e)))
    |fail)
  all_goals
   go_wp2_with fail;obtain⟨r0,r1⟩:=RR.out;have hge:=HGE.out;have hww:=HWW.out;refine bodyPost_ret (v:=.tuple #[.agg #[.pointer (some ⟨pn,0,none⟩),U Z tb],U Z (fz x.rm x.bs rb)]) (by simp[results,Tryz.results61,go_sem,r0,r1]) rfl ⟨some ⟨pn,0,none⟩,tb,hJ lab wb wz 4,by rw[HPX.out],?_,?_,fun _=>⟨by rw[HTN.out];exact HTB.out.symm,pn,_,bcn,brn',rfl,?_,hww,?_⟩⟩
   ·rw[HPK.out];exact HKF.out.free HCS.out (fun k hk=>by rw[hk,HOL.out.2.2.2];exact HL1.out)
   ·exact((am.of HXW.out).trans HM4.out).put HCS.out (fun hlt=>absurd hlt (by have:=HQ01.out;omega))
   ·rw[HTN.out];exact HSN.out.chg HCS.out (by omega) (by omega) (by have:=HSN.out.bbr;omega)
   ·exact⟨HOL.out.1.trans HLN.out.1,HOL.out.2.1.trans HLN.out.2.1,HOL.out.2.2.1.trans HLN.out.2.2⟩
end Go.Proofs.YtnojmbejedlilaaGreat
