/-
  Walk: state.become. Conditions: the state and its store lie in memory.
-/
import Derived.Test.YtnojmbejedlilaaGreatKQCe
import Derived.Test.YtnojmbejedlilaaGreatKQM8
import Derived.Deep.Cut
import Derived.Deep.DeepCutAuto
import Derived.Deep.QuietTactic
import Derived.BigQuiet
set_option maxRecDepth 100000
set_option maxHeartbeats 40000000
set_option linter.unusedVariables false
set_option linter.unusedSimpArgs false
namespace Go.Proofs.YtnojmbejedlilaaGreat
open _root_.Array renaming getElem?_setIfInBounds_self_of_lt→CG
open List renaming setIfInBounds_toArray→AQ,set_cons_zero→AS,set_cons_succ→AR
open Nat renaming le_refl→zG
open Go.Value renaming int→U
open Go.IntKind renaming i64→Z
open Go.RowKit
def hO(T:TypeId)(cs:Array Value)(v:Value)(w1:World)(s5 s6:Value)(wx:World):Prop:=
 ∃Q,s5=.pointer (some ⟨Q,0,none⟩)∧s6=v∧Blk wx Q T cs∧Chg (fun _=>False) w1 wx∧w1.heap.size≤Q
theorem j4{w:World}{r:Nat}{T:TypeId}{cs:Array Value}(hb:Blk w r T cs)(hs:cs.size=9)(po:Int)(ma:Int)(ow:Int)(ta:Int)(ol:Int)(ge:Int)(ph:Int)(ve:Int)(si:Int):
  (w.setCell ⟨r,0,none⟩ (U Z po)).cell? ⟨r,0,none⟩=some (U Z po)∧((w.setCell ⟨r,0,none⟩ (U Z po)).setCell ⟨r,1,none⟩ (U .u64 ma)).cell? ⟨r,1,none⟩=some (U .u64 ma)∧(((w.setCell ⟨r,0,none⟩ (U Z po)).setCell ⟨r,1,none⟩ (U .u64 ma)).setCell ⟨r,2,none⟩ (U Z ow)).cell? ⟨r,2,none⟩=some (U Z ow)∧((((w.setCell ⟨r,0,none⟩ (U Z po)).setCell ⟨r,1,none⟩ (U .u64 ma)).setCell ⟨r,2,none⟩ (U Z ow)).setCell ⟨r,3,none⟩ (U Z ta)).cell? ⟨r,3,none⟩=some (U Z ta)∧(((((w.setCell ⟨r,0,none⟩ (U Z po)).setCell ⟨r,1,none⟩ (U .u64 ma)).setCell ⟨r,2,none⟩ (U Z ow)).setCell ⟨r,3,none⟩ (U Z ta)).setCell ⟨r,4,none⟩ (U Z ol)).cell? ⟨r,4,none⟩=some (U Z ol)∧((((((w.setCell ⟨r,0,none⟩ (U Z po)).setCell ⟨r,1,none⟩ (U .u64 ma)).setCell ⟨r,2,none⟩ (U Z ow)).setCell ⟨r,3,none⟩ (U Z ta)).setCell ⟨r,4,none⟩ (U Z ol)).setCell ⟨r,5,none⟩ (U Z ge)).cell? ⟨r,5,none⟩=some (U Z ge)∧(((((((w.setCell ⟨r,0,none⟩ (U Z po)).setCell ⟨r,1,none⟩ (U .u64 ma)).setCell ⟨r,2,none⟩ (U Z ow)).setCell ⟨r,3,none⟩ (U Z ta)).setCell ⟨r,4,none⟩ (U Z ol)).setCell ⟨r,5,none⟩ (U Z ge)).setCell ⟨r,6,none⟩ (U Z ph)).cell? ⟨r,6,none⟩=some (U Z ph)∧((((((((w.setCell ⟨r,0,none⟩ (U Z po)).setCell ⟨r,1,none⟩ (U .u64 ma)).setCell ⟨r,2,none⟩ (U Z ow)).setCell ⟨r,3,none⟩ (U Z ta)).setCell ⟨r,4,none⟩ (U Z ol)).setCell ⟨r,5,none⟩ (U Z ge)).setCell ⟨r,6,none⟩ (U Z ph)).setCell ⟨r,7,none⟩ (U Z ve)).cell? ⟨r,7,none⟩=some (U Z ve)∧(((((((((w.setCell ⟨r,0,none⟩ (U Z po)).setCell ⟨r,1,none⟩ (U .u64 ma)).setCell ⟨r,2,none⟩ (U Z ow)).setCell ⟨r,3,none⟩ (U Z ta)).setCell ⟨r,4,none⟩ (U Z ol)).setCell ⟨r,5,none⟩ (U Z ge)).setCell ⟨r,6,none⟩ (U Z ph)).setCell ⟨r,7,none⟩ (U Z ve)).setCell ⟨r,8,none⟩ (U Z si)).cell? ⟨r,8,none⟩=some (U Z si)∧Chg (fun k=>k=r) w (((((((((w.setCell ⟨r,0,none⟩ (U Z po)).setCell ⟨r,1,none⟩ (U .u64 ma)).setCell ⟨r,2,none⟩ (U Z ow)).setCell ⟨r,3,none⟩ (U Z ta)).setCell ⟨r,4,none⟩ (U Z ol)).setCell ⟨r,5,none⟩ (U Z ge)).setCell ⟨r,6,none⟩ (U Z ph)).setCell ⟨r,7,none⟩ (U Z ve)).setCell ⟨r,8,none⟩ (U Z si)):=by
 have h0:=hb.set 0 (U Z po);have r0:=h0.cell 0;rw[CG (by simp[hs])]at r0;have h1:=h0.set 1 (U .u64 ma);have r1:=h1.cell 1;rw[CG (by simp[hs])]at r1;have h2:=h1.set 2 (U Z ow);have r2:=h2.cell 2;rw[CG (by simp[hs])]at r2;have h3:=h2.set 3 (U Z ta);have r3:=h3.cell 3;rw[CG (by simp[hs])]at r3;have h4:=h3.set 4 (U Z ol);have r4:=h4.cell 4;rw[CG (by simp[hs])]at r4;have h5:=h4.set 5 (U Z ge);have r5:=h5.cell 5;rw[CG (by simp[hs])]at r5;have h6:=h5.set 6 (U Z ph);have r6:=h6.cell 6;rw[CG (by simp[hs])]at r6;have h7:=h6.set 7 (U Z ve);have r7:=h7.cell 7;rw[CG (by simp[hs])]at r7;have h8:=h7.set 8 (U Z si);have r8:=h8.cell 8;rw[CG (by simp[hs])]at r8;exact⟨r0,r1,r2,r3,r4,r5,r6,r7,r8,(((((((((Chg.refl (fun k=>k=r) w).put r 0 (fun _=>rfl) _).put r 1 (fun _=>rfl) _).put r 2 (fun _=>rfl) _).put r 3 (fun _=>rfl) _).put r 4 (fun _=>rfl) _).put r 5 (fun _=>rfl) _).put r 6 (fun _=>rfl) _).put r 7 (fun _=>rfl) _).put r 8 (fun _=>rfl) _⟩
theorem j5{w:World}{r:Nat}{T:TypeId}{a0 a1 a2 a3 a4 a5 a6 a7 a8:Int}(hb:Blk w r T (rvC a0 a1 a2 a3 a4 a5 a6 a7 a8))(po:Int)(ma:Int)(ow:Int)(ta:Int)(ol:Int)(ge:Int)(ph:Int)(ve:Int)(si:Int):Blk (((((((((w.setCell ⟨r,0,none⟩ (U Z po)).setCell ⟨r,1,none⟩ (U .u64 ma)).setCell ⟨r,2,none⟩ (U Z ow)).setCell ⟨r,3,none⟩ (U Z ta)).setCell ⟨r,4,none⟩ (U Z ol)).setCell ⟨r,5,none⟩ (U Z ge)).setCell ⟨r,6,none⟩ (U Z ph)).setCell ⟨r,7,none⟩ (U Z ve)).setCell ⟨r,8,none⟩ (U Z si)) r T #[U Z po,U .u64 ma,U Z ow,U Z ta,U Z ol,U Z ge,U Z ph,U Z ve,U Z si]:=by
 unfold rvC at hb;have h0:=hb.set 0 (U Z po);have h1:=h0.set 1 (U .u64 ma);have h2:=h1.set 2 (U Z ow);have h3:=h2.set 3 (U Z ta);have h4:=h3.set 4 (U Z ol);have h5:=h4.set 5 (U Z ge);have h6:=h5.set 6 (U Z ph);have h7:=h6.set 7 (U Z ve);have h8:=h7.set 8 (U Z si);simp only[AQ,AS,AR]at h8;exact h8
theorem na{w:World}{r:Nat}{T:TypeId}{a0 a1 a2 a3 a4 a5 a6 a7 a8 a9 a10 a11:Int}(hb:Blk w r T #[U Z a0,U Z a1,U .u64 a2,U Z a3,U Z a4,U Z a5,U Z a6,U Z a7,U Z a8,U Z a9,U Z a10,U Z a11])(k:Int)(po:Int)(ma:Int)(ow:Int)(ta:Int)(ol:Int)(ge:Int)(ph:Int)(ve:Int)(si:Int)(z:Int)(n:Int):Blk ((((((((((((w.setCell ⟨r,0,none⟩ (U Z k)).setCell ⟨r,1,none⟩ (U Z po)).setCell ⟨r,2,none⟩ (U .u64 ma)).setCell ⟨r,3,none⟩ (U Z ow)).setCell ⟨r,4,none⟩ (U Z ta)).setCell ⟨r,5,none⟩ (U Z ol)).setCell ⟨r,6,none⟩ (U Z ge)).setCell ⟨r,7,none⟩ (U Z ph)).setCell ⟨r,8,none⟩ (U Z ve)).setCell ⟨r,9,none⟩ (U Z si)).setCell ⟨r,10,none⟩ (U Z z)).setCell ⟨r,11,none⟩ (U Z n)) r T #[U Z k,U Z po,U .u64 ma,U Z ow,U Z ta,U Z ol,U Z ge,U Z ph,U Z ve,U Z si,U Z z,U Z n]:=by
 have h0:=hb.set 0 (U Z k);have h1:=h0.set 1 (U Z po);have h2:=h1.set 2 (U .u64 ma);have h3:=h2.set 3 (U Z ow);have h4:=h3.set 4 (U Z ta);have h5:=h4.set 5 (U Z ol);have h6:=h5.set 6 (U Z ge);have h7:=h6.set 7 (U Z ph);have h8:=h7.set 8 (U Z ve);have h9:=h8.set 9 (U Z si);have h10:=h9.set 10 (U Z z);have h11:=h10.set 11 (U Z n);simp only[AQ,AS,AR]at h11;exact h11
theorem fM{cs:Array Value}{v:Value}{i:Nat}(h:cs[i]?=some v):cs.setIfInBounds i v=cs:=by
 apply Array.ext_getElem?;intro k;rw[Array.getElem?_setIfInBounds]
 split
 ·rename_i e;subst e
  split
  ·exact h.symm
  ·rename_i hn;rw[Array.getElem?_eq_none (by omega)]
 ·rfl
def yQ(B ps bc q:Nat)(T:TypeId)(cs:Array Value)(t:ba)(r:aI)(w:World)(e:Ending)(w':World):Prop:=
 ∃br',e=.returned (U Z (bU t r))∧CS B w' ps bc br' (aA t r).C (aA t r).R∧Blk w' q T (cs.setIfInBounds 1 (U Z (aA t r).bt))∧Chg (fun k=>k=q∨k=ps∨k=bc) w w'
theorem sC(C:Int→Bool)(R:Int→Option RV)(c:CV):(bF C [c] R).1=aC C R c∧gZ C [c] R=doR C R c:=by
 have h:bF C [c] R=if aC C R c=0 then bF C [] (cm R c.r)else(aC C R c,R):=rfl;unfold gZ doR;by_cases hw:aC C R c=0
 ·rw[h,if_pos hw];exact⟨hw.symm,by rw[if_pos (show (bF C [] (cm R c.r)).1=0 from rfl),if_pos hw];rfl⟩
 ·rw[h,if_neg hw];exact⟨rfl,by rw[if_neg hw,if_neg hw]⟩
theorem Chg.widen17{S S':Nat→Prop}{a w w':World}(h:Chg (fun _=>False) a w)(k:Chg S w w')(hs:∀i,S i→S' i):Chg S' a w':=
 (h.mono (fun _ _ e=>e.elim)).trans k (fun i _ e=>hs i e)
theorem uK{w:World}{q:Nat}{T:TypeId}{c:CV}(h:Blk w q T c.cs):SR 10 CV.cs w (fun k=>k=q) (some ⟨q,0,none⟩) 1 [c]:=by
 refine⟨rfl,fun _=>⟨_,rfl,rfl,h.lt,fun i x hx j u hu=>?_⟩⟩
 have hi:i=0:=by have:=(List.getElem?_eq_some_iff.1 hx).1;simpa using this
 subst hi;simp only[List.getElem?_cons_zero,Option.some.injEq]at hx;subst hx;rw[show 0*10+j=j by omega];have hc:=(h.cell j).trans hu;unfold Addr.add
 split
 ·rename_i e;subst e;exact hc
 ·rw[show (0:Nat)+j=j by omega];exact hc
theorem i8(B ps bc br q:Nat)(T:TypeId)(cs:Array Value)(C:Int→Bool)(R:Int→Option RV)(bt:Int)(k po ma ow ta ol ge ph ve si z n:Int)(w:World)(h:CS B w ps bc br C R)(hq:Blk w q T cs)(hT:T≠180)(h0:cs[0]?=some (.pointer (some ⟨ps,0,none⟩)))(h1:cs[1]?=some (U Z bt)):Calls Tryz.prog 101 #[.pointer (some ⟨q,0,none⟩),.agg #[U Z k,U Z po,U .u64 ma,U Z ow,U Z ta,U Z ol,U Z ge,U Z ph,U Z ve,U Z si,U Z z,U Z n]] w (yQ B ps bc q T cs ⟨C,R,bt⟩ ⟨k,⟨po,ma,ow,ta,ol,ge,ph,ve,si⟩,z,n⟩ w):=by
 by_cases e1:k=1
 ·subst e1;have HROW0:=fun(W:World) (hW:CS B W ps bc br C R)=>ff hW po;obtain⟨v,hv⟩:∃v,cw (R po)=v:=⟨_,rfl⟩;have HVE:Hid (v.1.ve=cH R po):=hd_ (by rw[←hv];rfl);rw[hv]at HROW0;clear hv;obtain⟨⟨a0,a1,a2,a3,a4,a5,a6,a7,a8⟩,vb⟩:=v;have HROW:=hd_ HROW0;clear HROW0;have hap:=h.apart hq hT;have hlt:=hq.lt;have hc0:=(Chg.refl (fun _=>False) w).alloc (.cells #[U Z 1,U Z po,U .u64 ma,U Z ow,U Z ta,U Z ol,U Z ge,U Z ph,U Z ve,U Z si,U Z z,U Z n] 110);have HQ:Hid (Blk (w.alloc (.cells #[U Z 1,U Z po,U .u64 ma,U Z ow,U Z ta,U Z ol,U Z ge,U Z ph,U Z ve,U Z si,U Z z,U Z n] 110)) w.heap.size 110 #[U Z 1,U Z po,U .u64 ma,U Z ow,U Z ta,U Z ol,U Z ge,U Z ph,U Z ve,U Z si,U Z z,U Z n]):=hd_ (af rfl);have HS:=hd_ (h.keep hc0);have HB:=hd_ (hq.chg hc0 id);have HX:=hd_ hc0;have HAP:=hd_ hap;have HC0:=hd_ h0;have HC1:=hd_ h1;have HQQ:Hid (¬w.heap.size=q∧¬w.heap.size=ps∧¬w.heap.size=bc):=hd_ (by have h1:=h.lt3;omega);have HQW:=hd_ (zG w.heap.size);clear h hq hT h0 h1 hap hlt hc0;go_in;go_upto_region 1 with fail;generalize w.alloc (.cells #[U Z 1,U Z po,U .u64 ma,U Z ow,U Z ta,U Z ol,U Z ge,U Z ph,U Z ve,U Z si,U Z z,U Z n] 110)=w1 at*;generalize w.heap.size=Q at HQ HQQ HQW⊢;obtain⟨y0,y1,y2,y3,y4,y5,y6,y7,y8,y9,y10,y11⟩:=ak HQ.out;have c0:w1.cell? ⟨q,0,none⟩=some (.pointer (some ⟨ps,0,none⟩)):=(HB.out.cell 0).trans HC0.out;have c1:w1.cell? ⟨q,1,none⟩=some (U Z bt):=(HB.out.cell 1).trans HC1.out;have HROW2:Hid (∀(W:World),Chg (fun _=>False) w1 W→Calls _ _ _ W (HB9 a0 a1 a2 a3 a4 a5 a6 a7 a8 vb W)):=hd_ (fun W hW=>HROW.out W (HS.out.keep hW));clear HROW y0 y1 y2 y3 y4 y5 y6 y7 y8 y9 y10 y11 c0 c1;obtain⟨g0,g1,g2,g3,g4,g5,g6,g7,g8,g9,g10,g11⟩:=ak HQ.out
  have HKEEP:Hid (∀W:World,Chg (fun _=>False) w1 W→((W.cell? ⟨q,0,none⟩=some (.pointer (some ⟨ps,0,none⟩))∧W.cell? ⟨Q,0,none⟩=some (U Z 1)∧W.cell? ⟨Q,1,none⟩=some (U Z po)∧W.cell? ⟨Q,2,none⟩=some (U .u64 ma)∧W.cell? ⟨Q,3,none⟩=some (U Z ow)∧W.cell? ⟨Q,4,none⟩=some (U Z ta)∧W.cell? ⟨Q,5,none⟩=some (U Z ol)∧W.cell? ⟨Q,6,none⟩=some (U Z ge)∧W.cell? ⟨Q,7,none⟩=some (U Z ph)∧W.cell? ⟨Q,8,none⟩=some (U Z ve)∧W.cell? ⟨Q,9,none⟩=some (U Z si)∧W.cell? ⟨Q,10,none⟩=some (U Z z)∧W.cell? ⟨Q,11,none⟩=some (U Z n)))):=hd_ (fun W hw=>by
   exact⟨((HB.out.chg hw id).cell 0).trans HC0.out,ak (HQ.out.chg hw id)⟩
  )
  have HXA:=hd_ (Chg.refl (fun _=>False) w1).drew;have HXA2:=hd_ (((Chg.refl (fun _=>False) w1).alloc (.cells #[U Z 0,U .u64 0,U Z 0,U Z 0,U Z 0,U Z 0,U Z 0,U Z 0,U Z 0] 60)).drew);have HNA:Hid (Blk (w1.alloc (.cells #[U Z 0,U .u64 0,U Z 0,U Z 0,U Z 0,U Z 0,U Z 0,U Z 0,U Z 0] 60)).drew w1.heap.size 60 (rvC 0 0 0 0 0 0 0 0 0)):=hd_ (af rfl).drew;go_upto_region 3 with fail
  go_cut [5,6] (fun s5 s6 wx=>hO 60 #[U Z a0,U .u64 a1,U Z a2,U Z a3,U Z a4,U Z a5,U Z a6,U Z a7,U Z a8] (.bool vb) w1 s5 s6 wx)
  case first=>
   have hkk:=HKEEP.out _ HXA.out;obtain⟨g0,g1,g2,g3,g4,g5,g6,g7,g8,g9,g10,g11,g12⟩:=hkk
   go_region_held3 (fun w'=>(w'.cell? ⟨q,0,none⟩=some (.pointer (some ⟨ps,0,none⟩))∧w'.cell? ⟨Q,0,none⟩=some (U Z 1)∧w'.cell? ⟨Q,1,none⟩=some (U Z po)∧w'.cell? ⟨Q,2,none⟩=some (U .u64 ma)∧w'.cell? ⟨Q,3,none⟩=some (U Z ow)∧w'.cell? ⟨Q,4,none⟩=some (U Z ta)∧w'.cell? ⟨Q,5,none⟩=some (U Z ol)∧w'.cell? ⟨Q,6,none⟩=some (U Z ge)∧w'.cell? ⟨Q,7,none⟩=some (U Z ph)∧w'.cell? ⟨Q,8,none⟩=some (U Z ve)∧w'.cell? ⟨Q,9,none⟩=some (U Z si)∧w'.cell? ⟨Q,10,none⟩=some (U Z z)∧w'.cell? ⟨Q,11,none⟩=some (U Z n)))
    (first|with_reducible exact HKEEP.out _ HXA.out|with_reducible exact HKEEP.out _ HXA2.out|with_reducible exact HKEEP.out _ HXB.out|with_reducible exact HKEEP.out _ (HXB.out.alloc _)|with_reducible exact HKEEP.out _ HXC.out|with_reducible exact HKEEP.out _ HXD.out|fail)
    (first
     |(go_at_call 106;(with_reducible refine(HROW2.out w1.drew HXA.out).mono ?_);rintro e wz ⟨rfl,hc⟩;have HXB:=hd_ (HXA.out.tr hc);clear hc)
     |(go_at_call 106;(with_reducible refine(HROW2.out (w1.alloc (.cells #[U Z 0,U .u64 0,U Z 0,U Z 0,U Z 0,U Z 0,U Z 0,U Z 0,U Z 0] 60)).drew HXA2.out).mono ?_);rintro e wz ⟨rfl,hc⟩;have HXC:=hd_ (HXA2.out.tr hc);have HNC:=hd_ (HNA.out.chg hc id);obtain⟨x0,x1,x2,x3,x4,x5,x6,x7,x8⟩:=aa HNC.out;obtain⟨u0,u1,u2,u3,u4,u5,u6,u7,u8⟩:=ag HNC.out;obtain⟨-,-,-,-,-,-,-,-,-,hcs⟩:=j4 HNC.out rfl a0 a1 a2 a3 a4 a5 a6 a7 a8;have hset:=j5 HNC.out a0 a1 a2 a3 a4 a5 a6 a7 a8;have HXD:=hd_ (ab HXC.out hcs (zG _));have HWB:Hid (hO 60 #[U Z a0,U .u64 a1,U Z a2,U Z a3,U Z a4,U Z a5,U Z a6,U Z a7,U Z a8] (.bool vb) w1 (.pointer (some ⟨w1.heap.size,0,none⟩)) (.bool vb) (((((((((wz.setCell ⟨w1.heap.size,0,none⟩ (U Z a0)).setCell ⟨w1.heap.size,1,none⟩ (U .u64 a1)).setCell ⟨w1.heap.size,2,none⟩ (U Z a2)).setCell ⟨w1.heap.size,3,none⟩ (U Z a3)).setCell ⟨w1.heap.size,4,none⟩ (U Z a4)).setCell ⟨w1.heap.size,5,none⟩ (U Z a5)).setCell ⟨w1.heap.size,6,none⟩ (U Z a6)).setCell ⟨w1.heap.size,7,none⟩ (U Z a7)).setCell ⟨w1.heap.size,8,none⟩ (U Z a8))):=hd_ ⟨_,rfl,rfl,hset,HXD.out,zG _⟩;clear hset hcs hc)
     |fail)
   all_goals
    go_wp2_with fail
    go_meet
    first
     |exact HWB.out
     |exact⟨wz.heap.size,rfl,rfl,af rfl,HXB.out.alloc _,HXB.out.size⟩
  case rest=>
   obtain⟨QB,rfl,rfl,hbx,hcx,hqx⟩:=hcut;have HBX:=hd_ hbx;have HCX:=hd_ hcx;have HQX:=hd_ hqx;clear hbx hcx hqx HKEEP HXA HXA2 HNA;clear g0 g1 g2 g3 g4 g5 g6 g7 g8 g9 g10 g11;have HS2:=hd_ (HS.out.keep HCX.out);have HB2:=hd_ (HB.out.chg HCX.out id);have HQ2:=hd_ (HQ.out.chg HCX.out id);replace HX:=hd_ (HX.out.tr HCX.out);have HQP:Hid (¬QB=ps):=hd_ (by have h1:=HQX.out;have h2:=HS.out.lt3;omega)
   have HKEEP2:Hid (∀W:World,Chg (fun k=>k=ps) wc W→(W.cell? ⟨q,0,none⟩=some (.pointer (some ⟨ps,0,none⟩))∧W.cell? ⟨Q,0,none⟩=some (U Z 1)∧W.cell? ⟨Q,1,none⟩=some (U Z po)∧W.cell? ⟨Q,2,none⟩=some (U .u64 ma)∧W.cell? ⟨Q,3,none⟩=some (U Z ow)∧W.cell? ⟨Q,4,none⟩=some (U Z ta)∧W.cell? ⟨Q,5,none⟩=some (U Z ol)∧W.cell? ⟨Q,6,none⟩=some (U Z ge)∧W.cell? ⟨Q,7,none⟩=some (U Z ph)∧W.cell? ⟨Q,8,none⟩=some (U Z ve)∧W.cell? ⟨Q,9,none⟩=some (U Z si)∧W.cell? ⟨Q,10,none⟩=some (U Z z)∧W.cell? ⟨Q,11,none⟩=some (U Z n)∧W.cell? ⟨QB,7,none⟩=some (U Z a7))):=hd_ (fun W hw=>by
    obtain⟨g0,g1,g2,g3,g4,g5,g6,g7,g8,g9,g10,g11⟩:=ak (HQ2.out.chg hw HQQ.out.2.1);obtain⟨-,-,-,-,-,-,-,g12,-⟩:=aa (show Blk W QB 60 (rvC a0 a1 a2 a3 a4 a5 a6 a7 a8)from HBX.out.chg hw HQP.out)
    exact⟨((HB2.out.chg hw HAP.out.1).cell 0).trans HC0.out,g0,g1,g2,g3,g4,g5,g6,g7,g8,g9,g10,g11,g12⟩)
   go_upto_region 4 with fail;have HYA:=hd_ (Chg.refl (fun k=>k=ps) wc).drew;have HYC:=hd_ (((Chg.refl (fun k=>k=ps) wc).alloc (.cells #[U Z po,U .u64 ma,U Z ow,U Z ta,U Z ol,U Z ge,U Z ph,U Z ve,U Z si,U Z a7] 188)).drew);have hsl:Blk ((wc.alloc (.cells #[U Z po,U .u64 ma,U Z ow,U Z ta,U Z ol,U Z ge,U Z ph,U Z ve,U Z si,U Z a7] 188)).drew) wc.heap.size 188 (CV.cs ⟨⟨po,ma,ow,ta,ol,ge,ph,ve,si⟩,a7⟩):=(af rfl).drew;have HAPP:=hd_ (kF (HS2.out.keep (((Chg.refl (fun _=>False) wc).alloc (.cells #[U Z po,U .u64 ma,U Z ow,U Z ta,U Z ol,U Z ge,U Z ph,U Z ve,U Z si,U Z a7] 188)).drew)) (some ⟨wc.heap.size,0,none⟩) 1 1 [⟨⟨po,ma,ow,ta,ol,ge,ph,ve,si⟩,a7⟩] _ (uK hsl) (by decide));have HNW:Hid (¬wc.heap.size=q∧wc.heap.size≠ps):=hd_ (by have h1:=HB2.out.lt;have h2:=HS2.out.lt3;omega);clear hsl;have hkk:=HKEEP2.out _ HYA.out;obtain⟨g0,g1,g2,g3,g4,g5,g6,g7,g8,g9,g10,g11,g12,g13⟩:=hkk
   go_region_held3 (fun w'=>(w'.cell? ⟨q,0,none⟩=some (.pointer (some ⟨ps,0,none⟩))∧w'.cell? ⟨Q,0,none⟩=some (U Z 1)∧w'.cell? ⟨Q,1,none⟩=some (U Z po)∧w'.cell? ⟨Q,2,none⟩=some (U .u64 ma)∧w'.cell? ⟨Q,3,none⟩=some (U Z ow)∧w'.cell? ⟨Q,4,none⟩=some (U Z ta)∧w'.cell? ⟨Q,5,none⟩=some (U Z ol)∧w'.cell? ⟨Q,6,none⟩=some (U Z ge)∧w'.cell? ⟨Q,7,none⟩=some (U Z ph)∧w'.cell? ⟨Q,8,none⟩=some (U Z ve)∧w'.cell? ⟨Q,9,none⟩=some (U Z si)∧w'.cell? ⟨Q,10,none⟩=some (U Z z)∧w'.cell? ⟨Q,11,none⟩=some (U Z n)∧w'.cell? ⟨QB,7,none⟩=some (U Z a7)))
    (first|with_reducible exact HKEEP2.out _ HYA.out|with_reducible exact HKEEP2.out _ HYC.out|with_reducible exact HYB.out|fail)
    (first
     |(go_at_call 160;(with_reducible refine HAPP.out.mono ?_);rintro e wz ⟨br',rfl,hs,hc⟩;have HCZ:=hd_ (HYC.out.tr hc);have HSZ:=hd_ hs;have HYB:=hd_ (HKEEP2.out _ HCZ.out);clear hs hc)
     |fail)
   all_goals
    go_wp2_with fail;go_ret;have hv:=HVE.out;subst hv;obtain⟨ha,hb⟩:=sC C R ⟨⟨po,ma,ow,ta,ol,ge,ph,ve,si⟩,cH R po⟩;have hsz:=HSZ.out;rw[hb]at hsz;refine⟨br',by rw[ha];rfl,hsz,?_,?_⟩
    ·rw[show (aA ⟨C,R,bt⟩ ⟨1,⟨po,ma,ow,ta,ol,ge,ph,ve,si⟩,z,n⟩).bt=bt from rfl,fM HC1.out];exact HB2.out.chg HCZ.out HAP.out.1
    ·exact HX.out.widen17 HCZ.out (fun k hk=>.inr (.inl hk))
 ·by_cases e4:k=4
  ·subst e4;clear e1;have HADD:=hd_ (fun(W:World) (hW:CS B W ps bc br C R)=>mS hW z);have hap:=h.apart hq hT;have hlt:=hq.lt;have hc0:=(Chg.refl (fun _=>False) w).alloc (.cells #[U Z 4,U Z po,U .u64 ma,U Z ow,U Z ta,U Z ol,U Z ge,U Z ph,U Z ve,U Z si,U Z z,U Z n] 110);have HQ:Hid (Blk (w.alloc (.cells #[U Z 4,U Z po,U .u64 ma,U Z ow,U Z ta,U Z ol,U Z ge,U Z ph,U Z ve,U Z si,U Z z,U Z n] 110)) w.heap.size 110 #[U Z 4,U Z po,U .u64 ma,U Z ow,U Z ta,U Z ol,U Z ge,U Z ph,U Z ve,U Z si,U Z z,U Z n]):=hd_ (af rfl);have HS:=hd_ (h.keep hc0);have HB:=hd_ (hq.chg hc0 id);have HX:=hd_ hc0;have HAP:=hd_ hap;have HC0:=hd_ h0;have HC1:=hd_ h1;have HQQ:Hid (¬w.heap.size=q∧¬w.heap.size=ps∧¬w.heap.size=bc):=hd_ (by have h1:=h.lt3;omega);have HQW:=hd_ (zG w.heap.size);clear h hq hT h0 h1 hap hlt hc0;go_in;go_upto_region 1 with fail;generalize w.alloc (.cells #[U Z 4,U Z po,U .u64 ma,U Z ow,U Z ta,U Z ol,U Z ge,U Z ph,U Z ve,U Z si,U Z z,U Z n] 110)=w1 at*;generalize w.heap.size=Q at HQ HQQ HQW⊢;obtain⟨y0,y1,y2,y3,y4,y5,y6,y7,y8,y9,y10,y11⟩:=ak HQ.out;have c0:w1.cell? ⟨q,0,none⟩=some (.pointer (some ⟨ps,0,none⟩)):=(HB.out.cell 0).trans HC0.out;have c1:w1.cell? ⟨q,1,none⟩=some (U Z bt):=(HB.out.cell 1).trans HC1.out;have HKEEP:Hid (∀W:World,Chg (fun k=>k=bc) w1 W→(W.cell? ⟨q,0,none⟩=some (.pointer (some ⟨ps,0,none⟩))∧W.cell? ⟨Q,0,none⟩=some (U Z 4)∧W.cell? ⟨Q,1,none⟩=some (U Z po)∧W.cell? ⟨Q,2,none⟩=some (U .u64 ma)∧W.cell? ⟨Q,3,none⟩=some (U Z ow)∧W.cell? ⟨Q,4,none⟩=some (U Z ta)∧W.cell? ⟨Q,5,none⟩=some (U Z ol)∧W.cell? ⟨Q,6,none⟩=some (U Z ge)∧W.cell? ⟨Q,7,none⟩=some (U Z ph)∧W.cell? ⟨Q,8,none⟩=some (U Z ve)∧W.cell? ⟨Q,9,none⟩=some (U Z si)∧W.cell? ⟨Q,10,none⟩=some (U Z z)∧W.cell? ⟨Q,11,none⟩=some (U Z n))):=hd_ (fun W hw=>⟨((HB.out.chg hw HAP.out.2.1).cell 0).trans HC0.out,ak (HQ.out.chg hw HQQ.out.2.2)⟩);have HYA:=hd_ (Chg.refl (fun k=>k=bc) w1).drew;clear y0 y1 y2 y3 y4 y5 y6 y7 y8 y9 y10 y11 c0 c1;obtain⟨g0,g1,g2,g3,g4,g5,g6,g7,g8,g9,g10,g11,g12⟩:=HKEEP.out _ (Chg.refl _ w1);go_wp2_with fail
   go_region_held3 (fun w'=>(w'.cell? ⟨q,0,none⟩=some (.pointer (some ⟨ps,0,none⟩))∧w'.cell? ⟨Q,0,none⟩=some (U Z 4)∧w'.cell? ⟨Q,1,none⟩=some (U Z po)∧w'.cell? ⟨Q,2,none⟩=some (U .u64 ma)∧w'.cell? ⟨Q,3,none⟩=some (U Z ow)∧w'.cell? ⟨Q,4,none⟩=some (U Z ta)∧w'.cell? ⟨Q,5,none⟩=some (U Z ol)∧w'.cell? ⟨Q,6,none⟩=some (U Z ge)∧w'.cell? ⟨Q,7,none⟩=some (U Z ph)∧w'.cell? ⟨Q,8,none⟩=some (U Z ve)∧w'.cell? ⟨Q,9,none⟩=some (U Z si)∧w'.cell? ⟨Q,10,none⟩=some (U Z z)∧w'.cell? ⟨Q,11,none⟩=some (U Z n)))
    (first|with_reducible exact HKEEP.out _ HYA.out|with_reducible exact HKEEP.out _ HYB.out|fail)
    (first
     |(go_at_call 161;(with_reducible refine(HADD.out w1.drew HS.out.drew).mono ?_);rintro e wz ⟨rfl,hs,hc⟩;have HYB:=hd_ (HYA.out.tr hc);have HSZ:=hd_ hs;clear hs hc)
     |fail)
   all_goals
    go_wp2_with fail;go_ret;refine⟨br,rfl,HSZ.out,?_,?_⟩
    ·rw[show (aA ⟨C,R,bt⟩ ⟨4,⟨po,ma,ow,ta,ol,ge,ph,ve,si⟩,z,n⟩).bt=bt from rfl,fM HC1.out];exact HB.out.chg HYB.out HAP.out.2.1
    ·exact HX.out.widen17 HYB.out (fun k hk=>.inr (.inr hk))
  ·by_cases e5:k=5
   ·subst e5;clear e1 e4;have HADD:=hd_ (fun(W:World) (hW:CS B W ps bc br C R)=>uc hW z);have hap:=h.apart hq hT;have hlt:=hq.lt;have hc0:=(Chg.refl (fun _=>False) w).alloc (.cells #[U Z 5,U Z po,U .u64 ma,U Z ow,U Z ta,U Z ol,U Z ge,U Z ph,U Z ve,U Z si,U Z z,U Z n] 110);have HQ:Hid (Blk (w.alloc (.cells #[U Z 5,U Z po,U .u64 ma,U Z ow,U Z ta,U Z ol,U Z ge,U Z ph,U Z ve,U Z si,U Z z,U Z n] 110)) w.heap.size 110 #[U Z 5,U Z po,U .u64 ma,U Z ow,U Z ta,U Z ol,U Z ge,U Z ph,U Z ve,U Z si,U Z z,U Z n]):=hd_ (af rfl);have HS:=hd_ (h.keep hc0);have HB:=hd_ (hq.chg hc0 id);have HX:=hd_ hc0;have HAP:=hd_ hap;have HC0:=hd_ h0;have HC1:=hd_ h1;have HQQ:Hid (¬w.heap.size=q∧¬w.heap.size=ps∧¬w.heap.size=bc):=hd_ (by have h1:=h.lt3;omega);have HQW:=hd_ (zG w.heap.size);clear h hq hT h0 h1 hap hlt hc0;go_in;go_upto_region 1 with fail;generalize w.alloc (.cells #[U Z 5,U Z po,U .u64 ma,U Z ow,U Z ta,U Z ol,U Z ge,U Z ph,U Z ve,U Z si,U Z z,U Z n] 110)=w1 at*;generalize w.heap.size=Q at HQ HQQ HQW⊢;obtain⟨y0,y1,y2,y3,y4,y5,y6,y7,y8,y9,y10,y11⟩:=ak HQ.out;have c0:w1.cell? ⟨q,0,none⟩=some (.pointer (some ⟨ps,0,none⟩)):=(HB.out.cell 0).trans HC0.out;have c1:w1.cell? ⟨q,1,none⟩=some (U Z bt):=(HB.out.cell 1).trans HC1.out;have HKEEP:Hid (∀W:World,Chg (fun k=>k=bc) w1 W→(W.cell? ⟨q,0,none⟩=some (.pointer (some ⟨ps,0,none⟩))∧W.cell? ⟨Q,0,none⟩=some (U Z 5)∧W.cell? ⟨Q,1,none⟩=some (U Z po)∧W.cell? ⟨Q,2,none⟩=some (U .u64 ma)∧W.cell? ⟨Q,3,none⟩=some (U Z ow)∧W.cell? ⟨Q,4,none⟩=some (U Z ta)∧W.cell? ⟨Q,5,none⟩=some (U Z ol)∧W.cell? ⟨Q,6,none⟩=some (U Z ge)∧W.cell? ⟨Q,7,none⟩=some (U Z ph)∧W.cell? ⟨Q,8,none⟩=some (U Z ve)∧W.cell? ⟨Q,9,none⟩=some (U Z si)∧W.cell? ⟨Q,10,none⟩=some (U Z z)∧W.cell? ⟨Q,11,none⟩=some (U Z n))):=hd_ (fun W hw=>⟨((HB.out.chg hw HAP.out.2.1).cell 0).trans HC0.out,ak (HQ.out.chg hw HQQ.out.2.2)⟩);have HYA:=hd_ (Chg.refl (fun k=>k=bc) w1).drew;clear y0 y1 y2 y3 y4 y5 y6 y7 y8 y9 y10 y11 c0 c1;obtain⟨g0,g1,g2,g3,g4,g5,g6,g7,g8,g9,g10,g11,g12⟩:=HKEEP.out _ (Chg.refl _ w1);go_wp2_with fail
    go_region_held3 (fun w'=>(w'.cell? ⟨q,0,none⟩=some (.pointer (some ⟨ps,0,none⟩))∧w'.cell? ⟨Q,0,none⟩=some (U Z 5)∧w'.cell? ⟨Q,1,none⟩=some (U Z po)∧w'.cell? ⟨Q,2,none⟩=some (U .u64 ma)∧w'.cell? ⟨Q,3,none⟩=some (U Z ow)∧w'.cell? ⟨Q,4,none⟩=some (U Z ta)∧w'.cell? ⟨Q,5,none⟩=some (U Z ol)∧w'.cell? ⟨Q,6,none⟩=some (U Z ge)∧w'.cell? ⟨Q,7,none⟩=some (U Z ph)∧w'.cell? ⟨Q,8,none⟩=some (U Z ve)∧w'.cell? ⟨Q,9,none⟩=some (U Z si)∧w'.cell? ⟨Q,10,none⟩=some (U Z z)∧w'.cell? ⟨Q,11,none⟩=some (U Z n)))
     (first|with_reducible exact HKEEP.out _ HYA.out|with_reducible exact HKEEP.out _ HYB.out|fail)
     (first
      |(go_at_call 162;(with_reducible refine(HADD.out w1.drew HS.out.drew).mono ?_);rintro e wz ⟨rfl,hs,hc⟩;have HYB:=hd_ (HYA.out.tr hc);have HSZ:=hd_ hs;clear hs hc)
      |fail)
    all_goals
     go_wp2_with fail;go_ret;refine⟨br,rfl,HSZ.out,?_,?_⟩
     ·rw[show (aA ⟨C,R,bt⟩ ⟨5,⟨po,ma,ow,ta,ol,ge,ph,ve,si⟩,z,n⟩).bt=bt from rfl,fM HC1.out];exact HB.out.chg HYB.out HAP.out.2.1
     ·exact HX.out.widen17 HYB.out (fun k hk=>.inr (.inr hk))
   ·have t1:(k==1)=false:=by simpa using e1
    have t4:(k==4)=false:=by simpa using e4
    have t5:(k==5)=false:=by simpa using e5
    have HE:Hid (bU ⟨C,R,bt⟩ ⟨k,⟨po,ma,ow,ta,ol,ge,ph,ve,si⟩,z,n⟩=if n≤bt then 2 else 0):=hd_ (by simp[bU,e1,e4,e5]);have HSS:Hid (aA ⟨C,R,bt⟩ ⟨k,⟨po,ma,ow,ta,ol,ge,ph,ve,si⟩,z,n⟩=if n≤bt then⟨C,R,bt⟩else⟨C,R,n⟩):=hd_ (by simp[aA,e1,e4,e5]);clear e1 e4 e5;have hap:=h.apart hq hT;have hlt:=hq.lt;have hc0:=(Chg.refl (fun _=>False) w).alloc (.cells #[U Z k,U Z po,U .u64 ma,U Z ow,U Z ta,U Z ol,U Z ge,U Z ph,U Z ve,U Z si,U Z z,U Z n] 110);have HQ:Hid (Blk (w.alloc (.cells #[U Z k,U Z po,U .u64 ma,U Z ow,U Z ta,U Z ol,U Z ge,U Z ph,U Z ve,U Z si,U Z z,U Z n] 110)) w.heap.size 110 #[U Z k,U Z po,U .u64 ma,U Z ow,U Z ta,U Z ol,U Z ge,U Z ph,U Z ve,U Z si,U Z z,U Z n]):=hd_ (af rfl);have HS:=hd_ (h.keep hc0);have HB:=hd_ (hq.chg hc0 id);have HX:=hd_ hc0;have HAP:=hd_ hap;have HC0:=hd_ h0;have HC1:=hd_ h1;have HQQ:Hid (¬w.heap.size=q∧¬w.heap.size=ps∧¬w.heap.size=bc):=hd_ (by have h1:=h.lt3;omega);have HQW:=hd_ (zG w.heap.size);clear h hq hT h0 h1 hap hlt hc0;go_in;go_upto_region 1 with fail;generalize w.alloc (.cells #[U Z k,U Z po,U .u64 ma,U Z ow,U Z ta,U Z ol,U Z ge,U Z ph,U Z ve,U Z si,U Z z,U Z n] 110)=w1 at*;generalize w.heap.size=Q at HQ HQQ HQW⊢;obtain⟨y0,y1,y2,y3,y4,y5,y6,y7,y8,y9,y10,y11⟩:=ak HQ.out;have c0:w1.cell? ⟨q,0,none⟩=some (.pointer (some ⟨ps,0,none⟩)):=(HB.out.cell 0).trans HC0.out;have c1:w1.cell? ⟨q,1,none⟩=some (U Z bt):=(HB.out.cell 1).trans HC1.out;by_cases hn:n≤bt
    ·replace HE:=hd_ (HE.out.trans (if_pos hn));replace HSS:=hd_ (HSS.out.trans (if_pos hn));go_wp2_with fail
     go_region
     all_goals
      go_wp2_with fail;go_ret;refine⟨br,by rw[HE.out];rfl,by rw[HSS.out];exact HS.out.drew,?_,?_⟩
      ·rw[HSS.out,fM HC1.out];exact HB.out.drew
      ·exact HX.out.drew.mono (fun _ _ e=>e.elim)
    ·replace HE:=hd_ (HE.out.trans (if_neg hn));replace HSS:=hd_ (HSS.out.trans (if_neg hn))
     have hn2:bt<n:=by omega
     clear hn;have f1:=HB.out.frozen 1;go_wp2_with fail
     go_region
     all_goals
      go_wp2_with fail;go_ret;have hcs:=(Chg.refl (fun k=>k=q) w1.drew).put q 1 (fun _=>rfl) (U Z n);refine⟨br,by rw[HE.out];rfl,by rw[HSS.out];exact HS.out.drew.chg hcs (fun e=>HAP.out.1 e.symm) (fun e=>HAP.out.2.1 e.symm) (fun e=>HAP.out.2.2 e.symm),?_,?_⟩
      ·rw[HSS.out];exact HB.out.drew.set 1 (U Z n)
      ·exact HX.out.drew.widen17 hcs (fun k hk=>.inl hk)
end Go.Proofs.YtnojmbejedlilaaGreat
