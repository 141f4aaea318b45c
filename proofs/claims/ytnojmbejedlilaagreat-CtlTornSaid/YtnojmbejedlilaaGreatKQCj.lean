/-
  Walk: ctl.note. Conditions: the controller lies in memory, its store is whole; what may become so can be put.
-/
import Derived.Test.YtnojmbejedlilaaGreatKQCi
set_option maxRecDepth 100000
set_option maxHeartbeats 40000000
set_option linter.unusedVariables false
set_option linter.unusedSimpArgs false
namespace Go.Proofs.YtnojmbejedlilaaGreat
open Go.Value renaming int→U
open Go.IntKind renaming i64→Z
open Go.RowKit
theorem cp{x:KV}{r:aI}(h:ao x r=0):aH x r={x with t:=aA x.t r,bs:=cJ x.rm x.bs r.bs,sf:=(cJ x.rm x.bs r.bs).length}∧aM x r={x with bs:=cJ x.rm x.bs r.bs}:=⟨if_pos h,if_pos h⟩
theorem fN{x:KV}{r:aI}(h:¬ao x r=0):aH x r=x∧aM x r=x:=⟨if_neg h,if_neg h⟩
theorem uL{lab:Nat→Nat}{p q r k:Nat}(h1:k≠p)(h2:k≠q)(h3:k≠r):j3 lab p q r k=lab k:=by
 unfold j3;rw[if_neg];rintro(e|e|e)
 ·exact h1 e
 ·exact h2 e
 ·exact h3 e
theorem fO{w:World}{lab:Nat→Nat}{c ps pj pf:Nat}{V:Nat→Value}{x:KV}(h:KQ w lab c ps pj pf V x)(hw:WF x.t.C x.t.R)(hb:x.bs.length≤x.rm)(hm:x.rm≤16777216)(k po ma ow ta ol ge ph ve si z n:Int)(hr:bU x.t ⟨k,⟨po,ma,ow,ta,ol,ge,ph,ve,si⟩,z,n⟩=0→aI.ok ⟨k,⟨po,ma,ow,ta,ol,ge,ph,ve,si⟩,z,n⟩):Calls Tryz.prog 60 #[.pointer (some ⟨c,0,none⟩),.agg #[U Z k,U Z po,U .u64 ma,U Z ow,U Z ta,U Z ol,U Z ge,U Z ph,U Z ve,U Z si,U Z z,U Z n]] w (oZ lab c pj pf V x ⟨k,⟨po,ma,ow,ta,ol,ge,ph,ve,si⟩,z,n⟩ w):=by
 have hc0:=((Chg.refl (fun _=>False) w).alloc (.cells #[U Z k,U Z po,U .u64 ma,U Z ow,U Z ta,U Z ol,U Z ge,U Z ph,U Z ve,U Z si,U Z z,U Z n] 110));have HK:=h.new hc0;have HQ:Hid (Blk (w.alloc (.cells #[U Z k,U Z po,U .u64 ma,U Z ow,U Z ta,U Z ol,U Z ge,U Z ph,U Z ve,U Z si,U Z z,U Z n] 110)) w.heap.size 110 #[U Z k,U Z po,U .u64 ma,U Z ow,U Z ta,U Z ol,U Z ge,U Z ph,U Z ve,U Z si,U Z z,U Z n]):=hd_ (af rfl);have HX:=hd_ (am.of (N:=fun n=>1≤n∧n≤4) (lab:=lab) hc0);have HPUT:=hd_ (lZ HK hw hb hm k po ma ow ta ol ge ph ve si z n hr);have HSW:=hd_ hc0.size;have HLC:=hd_ h.lc;have HYES:=hd_ (fun h=>cp (x:=x) (r:=⟨k,⟨po,ma,ow,ta,ol,ge,ph,ve,si⟩,z,n⟩) h);have HNO:=hd_ (fun h=>fN (x:=x) (r:=⟨k,⟨po,ma,ow,ta,ol,ge,ph,ve,si⟩,z,n⟩) h);clear h hw hb hm hr hc0 HK;go_in;go_upto_region 1 with fail;generalize w.alloc (.cells #[U Z k,U Z po,U .u64 ma,U Z ow,U Z ta,U Z ol,U Z ge,U Z ph,U Z ve,U Z si,U Z z,U Z n] 110)=w1 at*;generalize w.heap.size=Q0 at HQ⊢;obtain⟨y0,y1,y2,y3,y4,y5,y6,y7,y8,y9,y10,y11⟩:=ak HQ.out;go_wp2_with fail;refine HPUT.out.mono ?_;rintro e w2 ⟨sv,bt',lab1,rfl,hk,hm4,hyes⟩;have HKP:=hd_ hk;have HM1:=hd_ (HX.out.trans (hm4.mono (fun n e=>by omega)));have HYS:=hd_ hyes;have HS12:=hd_ hm4.1.size;clear hk hm4 hyes HPUT HQ y0 y1 y2 y3 y4 y5 y6 y7 y8 y9 y10 y11;go_upto_region 2 with fail;have hc:=(Chg.refl (fun _=>False) w2).alloc (.cells #[.pointer sv,U Z bt'] 99);have HN:Hid (Blk (w2.alloc (.cells #[.pointer sv,U Z bt'] 99)) w2.heap.size 99 #[.pointer sv,U Z bt']):=hd_ (af rfl);have HNL:Hid (lab1 w2.heap.size=0):=hd_ (HKP.out.lt _ (Nat.le_refl _));have HCA:=hd_ hc;replace HKP:=hd_ (HKP.out.new hc);replace HM1:=hd_ (HM1.out.trans (am.of hc));have HBT0:=hd_ (fun h0=>(HYS.out h0).1);replace HYS:=hd_ (fun h0=>(HYS.out h0).2);clear hc;generalize w2.alloc (.cells #[.pointer sv,U Z bt'] 99)=w3 at*;generalize hqn:w2.heap.size=QN at HN HNL⊢;clear hqn;by_cases he:ao x ⟨k,⟨po,ma,ow,ta,ol,ge,ph,ve,si⟩,z,n⟩=0
 case neg=>
  obtain⟨hn,hp⟩:=HNO.out he
  have te:(ao x ⟨k,⟨po,ma,ow,ta,ol,ge,ph,ve,si⟩,z,n⟩ !=0)=true:=by simpa using he
  have HNK:=hd_ hn;have HPK:=hd_ hp;clear hn hp he HYES HNO;generalize her:ao x ⟨k,⟨po,ma,ow,ta,ol,ge,ph,ve,si⟩,z,n⟩=er at*;have HER:=hd_ her;clear her;go_wp2_with fail;go_ret;exact⟨ps,lab1,by rw[HER.out];rfl,by rw[HNK.out];have h:=HKP.out;rw[HPK.out]at h;exact h,HM1.out⟩
 case pos=>
  obtain⟨hn,hp⟩:=HYES.out he;obtain⟨p,B,bc,br,hsv,hs,hB,l1,l2,l3⟩:=HYS.out he;subst hsv;have HBT:=hd_ (HBT0.out he);have HNK:=hd_ hn;have HPK:=hd_ hp;have HS:=hd_ (hs.keep HCA.out);have HLL:=hd_ (And.intro l1 (And.intro l2 l3));have HBW:Hid (w.heap.size≤B):=hd_ (Nat.le_trans HSW.out hB);have HE:=hd_ he;rw[he];clear hn hp hs hB l1 l2 l3 he HYES HNO HYS HCA;obtain⟨-,-,c2,-,-⟩:=HKP.out.cb.hd;obtain⟨o,hf,g1,g2⟩:=HKP.out.fi;have HFI:=hd_ (And.intro hf (And.intro g1 g2));have HSY:=hd_ (rO pj pf o _ _ _ w3 HKP.out.jb hf);clear hf g1 g2;go_wp2_with fail;refine HSY.out.mono ?_;rintro e w4 ⟨rfl,hf',hmv⟩;obtain⟨hfl,hm4,hl4⟩:=m7 HFI.out.1 HFI.out.2.1 HFI.out.2.2 hf' hmv;have HK4:=hd_ (HKP.out.file hfl hm4 hl4);have hlt:=HS.out.lt3;have HL4:=hd_ (And.intro (hm4.2 _ hlt.1) (And.intro (hm4.2 _ hlt.2.1) (hm4.2 _ hlt.2.2)));replace HS:=hd_ (HS.out.chg hm4.1 (by rw[HLL.out.1];decide) (by rw[HLL.out.2.1];decide) (by rw[HLL.out.2.2];decide));replace HN:=hd_ (HN.out.chg hm4.1 (by rw[HNL.out];decide));replace HM1:=hd_ (HM1.out.trans (hm4.mono (fun n e=>by omega)));generalize hJ lab1 w3 w4 4=lab2 at*;clear hfl hm4 hl4 hf' hmv hlt HKP HFI HSY c2;obtain⟨c0,c1,-,-,-⟩:=HK4.out.cb.hd;have f0:=HK4.out.cb.free 0;have f1:=HK4.out.cb.free 1;have n0:w4.cell? ⟨QN,0,none⟩=some (.pointer (some ⟨p,0,none⟩)):=HN.out.cell 0;have n1:w4.cell? ⟨QN,1,none⟩=some (U Z bt'):=HN.out.cell 1;generalize hb1:(aM x ⟨k,⟨po,ma,ow,ta,ol,ge,ph,ve,si⟩,z,n⟩).t.bt=b1 at c1;clear hb1;go_wp2_with fail;go_ret;have hl1:=HL4.out.1.trans HLL.out.1;have hl2:=HL4.out.2.1.trans HLL.out.2.1;have hl3:=HL4.out.2.2.trans HLL.out.2.2;have hbw:=HBW.out;have h1:=HS.out.bp;have h2:=HS.out.bbc;have h3:=HS.out.bbr;have hst:=HK4.out.state (t:=aA x.t ⟨k,⟨po,ma,ow,ta,ol,ge,ph,ve,si⟩,z,n⟩) HS.out hl1 hl2 hl3;rw[←HBT.out]at hst;refine⟨p,j3 lab2 p bc br,by rw[HE.out];rfl,?_,?_⟩
  ·rw[HNK.out];rw[HPK.out]at hst;exact hst
  ·have hcs:=((Chg.refl (fun k=>k=c) w4).put c 0 (fun _=>rfl) (.pointer (some ⟨p,0,none⟩))).put c 1 (fun _=>rfl) (U Z bt');exact(HM1.out.put hcs (fun _=>by rw[HLC.out];decide)).relab (fun k hk=>uL (by omega) (by omega) (by omega))
end Go.Proofs.YtnojmbejedlilaaGreat
