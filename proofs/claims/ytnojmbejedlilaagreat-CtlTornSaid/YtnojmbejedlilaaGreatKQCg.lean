/-
  Walk: state.copied, with its closures. Conditions: the store lies in memory and is whole.
-/
import Derived.Test.YtnojmbejedlilaaGreatKQCc
import Derived.Test.YtnojmbejedlilaaGreatKQCf
import Derived.Test.YtnojmbejedlilaaGreatKQM8
set_option maxRecDepth 100000
set_option maxHeartbeats 40000000
set_option linter.unusedVariables false
set_option linter.unusedSimpArgs false
namespace Go.Proofs.YtnojmbejedlilaaGreat
open List renaming map_append→CH,map_nil→zU,mem_filter→By,getElem?_eq_some_iff→zS,length_take→zN,length_append→zY,take_of_length_le→Ax,length_map→AH
open Bool renaming eq_false_iff→CI
open Go.Value renaming slice→zW
open Nat renaming le_trans→zH,le_refl→zG
open Go.Value renaming int→U
open Go.IntKind renaming i64→Z
open Go.RowKit
def da(R:Int→Option RV)(k:Nat):Int→Option RV:=fun z=>if 0≤z∧z<(k:Int)then R z else none
theorem sD{C:Int→Bool}{R:Int→Option RV}(h:WF C R)(k:Nat):WF C (da R k):=by
 have hh:∀{z x},da R k z=some x→R z=some x:=fun{z x} e=>by
  unfold da at e
  split at e
  ·exact e
  ·cases e
 exact⟨h.ch,fun z x e=>h.row z x (hh e),fun z y x u e1 e2=>h.one z y x u (hh e1) (hh e2)⟩
theorem qs{C:Int→Bool}{R:Int→Option RV}(h:WF C R):da R 32=R:=by
 funext z;unfold da
 split
 ·rfl
 ·rename_i hn
  cases hz:R z with
  |none=>rfl
  |some x=>exact absurd (h.bounds hz) (by omega)
theorem nR(R:Int→Option RV):fF R 32=aO R:=rfl
theorem kQ{C:Int→Bool}{R:Int→Option RV}(h:WF C R):∀k:Nat,k≤32→bF C ((fF R k).map fun x=>⟨x,0⟩) (fun _=>none)=(0,da R k)
 |0,_=>by
  show (0,fun _=>none)=(0,da R 0);congr 1;funext z;unfold da;rw[if_neg (by omega)]
 |k+1,hk=>by
  have ih:=kQ h k (by omega);rw[kz,CH]
  cases hR:R (k:Int)with
  |none=>
   simp only[Option.toList_none,zU,List.append_nil];rw[ih];congr 1;funext z;unfold da;by_cases hz:0≤z∧z<(k:Int)
   ·rw[if_pos hz,if_pos (by omega)]
   ·rw[if_neg hz]
    split
    ·rename_i h2
     have:z=(k:Int):=by omega
     rw[this,hR]
    ·rfl
  |some x=>
   simp only[Option.toList_some,List.map_cons,zU]
   have h0:(bF C ((fF R k).map fun x=>(⟨x,0⟩:CV)) (fun _=>none)).1=0:=by rw[ih]
   rw[jT C _ _ _ h0,ih];obtain⟨hok,hpo,hla⟩:=h.row _ _ hR;have hve:=(RV.bd hok).2.1
   have hw:aC C (da R k) ⟨x,0⟩=0:=by
    have hv:cH (da R k) x.po=0:=by
     unfold cH da;rw[hpo,if_neg (by omega)];rfl
    have ht:eA (da R k) x=false:=by
     rw[CI];intro hc;obtain⟨hph,z,u,hz,hzp,hup,hma⟩:=((sD h k).take x).1 hc
     have hz2:R z=some u:=by
      unfold da at hz
      split at hz
      ·exact hz
      ·cases hz
     exact hzp ((h.one z (k:Int) u x hz2 hR hup hph hma).trans hpo.symm)
    unfold aC;simp only;rw[if_neg (by rw[hok,decide_eq_false (by omega)];decide),if_neg (by rw[hla];decide),if_neg (by rw[hv];decide),if_neg (by rw[ht];decide)]
   rw[if_pos hw];congr 1;funext z;unfold cm da;simp only;rw[hpo];by_cases hz:z=(k:Int)
   ·rw[if_pos hz,if_pos (by omega),hz,hR]
   ·rw[if_neg hz];by_cases hz2:0≤z∧z<(k:Int)
    ·rw[if_pos hz2,if_pos (by omega)]
    ·rw[if_neg hz2,if_neg (by omega)]
theorem sE{C:Int→Bool}{R:Int→Option RV}(h:WF C R):(bF C ((aO R).map fun x=>⟨x,0⟩) (fun _=>none)).1=0∧gZ C ((aO R).map fun x=>⟨x,0⟩) (fun _=>none)=R:=by
 have:=kQ h 32 (by omega);rw[nR,qs h]at this;unfold gZ;rw[this];exact⟨rfl,rfl⟩
def gr(l:List Int):Int→Bool:=fun z=>decide (z∈l)
theorem i9(C:Int→Bool):(bw C).Nodup:=by
 unfold bw;exact List.Pairwise.filter _ (show List.Nodup ((List.range 32).map Int.ofNat)from by decide)
theorem gR{w:World}{q q':Nat}{T T':TypeId}{cs cs':Array Value}(h:Blk w q T cs)(h':Blk w q' T' cs')(ht:T≠T'):q≠q':=by
 rintro rfl;have e:=h.symm.trans h';simp only[Option.some.injEq,Obj.cells.injEq]at e;exact ht e.2.1
theorem kR{C:Int→Bool}{R:Int→Option RV}(h:WF C R):gr (bw C)=C:=by
 funext z;unfold gr;by_cases hz:C z=true
 ·rw[hz,decide_eq_true_eq];have:=h.ch z hz;unfold bw;rw[By,List.mem_map];exact⟨⟨z.toNat,by rw[List.mem_range];omega,by simp;omega⟩,hz⟩
 ·rw[CI.2 hz];rw[decide_eq_false_iff_not];intro hm;unfold bw at hm;exact hz (By.1 hm).2
theorem lX{C:Int→Bool}{R:Int→Option RV}(h:WF C R){j:Nat}{x:Int}(hx:(bw C)[j]?=some x):0≤x∧x≤15:=by
 have hm:=List.mem_of_getElem? hx;unfold bw at hm;exact h.ch x (By.1 hm).2
theorem qt{C:Int→Bool}{R:Int→Option RV}(h:WF C R){j:Nat}{x:Int}(hx:(bw C)[j]?=some x):addK (gr ((bw C).take j)) x=gr ((bw C).take (j+1)):=by
 have hb:=lX h hx
 have hn:¬x∈(bw C).take j:=by
  intro hm;obtain⟨i,hi⟩:=List.getElem?_of_mem hm
  have hil:i<j:=by have:=(zS.1 hi).1;rw[zN]at this;omega
  rw[List.getElem?_take,if_pos hil]at hi;have:=(List.getElem?_inj (by exact(zS.1 hi).1) (i9 C)).1 (hi.trans hx.symm);omega
 unfold addK;rw[if_pos]
 ·rw[dI hx];funext z;unfold gY gr;by_cases hz:z=x
  ·rw[if_pos hz];simp[hz]
  ·rw[if_neg hz];simp[hz]
 ·unfold fd;rw[if_neg (by simp only[Bool.or_eq_true,decide_eq_true_eq];omega),if_neg (by unfold gr;simpa using hn)]
theorem sF:(Tryz.prog.info? 188).map (fun i=>(i.zero,i.size,i.bytes))=some (some (.agg #[U Z 0,U .u64 0,U Z 0,U Z 0,U Z 0,U Z 0,U Z 0,U Z 0,U Z 0,U Z 0]),10,80):=by kernel_rfl
theorem qu{B:Nat}{w:World}{p bc br q:Nat}{C:Int→Bool}{R:Int→Option RV}{bt:Int}(h:CS B w p bc br C R)(hq:Blk w q 99 #[.pointer (some ⟨p,0,none⟩),U Z bt])(z:Int):Calls Tryz.prog 176 #[U Z z,.pointer (some ⟨q,0,none⟩)] w fun e w'=>e=.returned (.tuple #[])∧CS B w' p bc br (addK C z) R∧Chg (fun k=>k=bc) w w':=by
 have c0:w.cell? ⟨q,0,none⟩=some (.pointer (some ⟨p,0,none⟩)):=hq.cell 0;have HA:=hd_ (mS h z);clear h hq;go_in;go_wp2_with fail;refine HA.out.mono ?_;rintro e w1 ⟨rfl,hs,hc⟩;go_wp2_with fail
 go_end0
 exact⟨rfl,hs,hc⟩
def j6(base q:Nat)(l:List CV)(w:World):Prop:=∃A c,Blk w q 189 #[.slice A l.length c]∧w.ownsRow base 188 10 (.slice A l.length c) l.length (l.flatMap fun x=>(CV.cs x).toList)
theorem j6.new{base q:Nat}{l:List CV}{w w':World}(h:j6 base q l w)(hc:Chg (fun _=>False) w w'):j6 base q l w':=by
 obtain⟨A,c,hb,ho⟩:=h;exact⟨A,c,hb.chg hc id,ay ho hc (fun _ _=>id)⟩
theorem qv(base q:Nat)(l:List CV)(po ma ow ta ol ge ph ve si:Int)(w:World)(h:j6 base q l w)(hl:l.length≤1000)(hb:base≤w.heap.size):Calls Tryz.prog 177 #[.agg #[U Z po,U .u64 ma,U Z ow,U Z ta,U Z ol,U Z ge,U Z ph,U Z ve,U Z si],.pointer (some ⟨q,0,none⟩)] w fun e w'=>e=.returned (.tuple #[])∧j6 base q (l++[⟨⟨po,ma,ow,ta,ol,ge,ph,ve,si⟩,0⟩]) w'∧Chg (fun k=>k=q∨base≤k) w w':=by
 obtain⟨i0,hi,hz0,hz1,hz2⟩:=info_parts sF;obtain⟨A,c,hq,ho⟩:=h;generalize hn:l.length=n at*;have HN:=hd_ hn;clear hn;have hne:A.map (·.block)≠some q:=kI ho hq (by decide);have hca:=((Chg.refl (fun _=>False) w).alloc (.cells #[U Z po,U .u64 ma,U Z ow,U Z ta,U Z ol,U Z ge,U Z ph,U Z ve,U Z si] 60));have HQ:=hd_ (hq.chg hca id);have HO:=hd_ (ay ho hca (fun _ _=>id));have HR:Hid (Blk (w.alloc (.cells #[U Z po,U .u64 ma,U Z ow,U Z ta,U Z ol,U Z ge,U Z ph,U Z ve,U Z si] 60)) w.heap.size 60 (rvC po ma ow ta ol ge ph ve si)):=hd_ (af rfl);have HX:=hd_ hca;have HNE:=hd_ hne;clear hq ho hca hne;go_in;go_upto_region 1 with fail
 have hbw:base≤(w.alloc (.cells #[U Z po,U .u64 ma,U Z ow,U Z ta,U Z ol,U Z ge,U Z ph,U Z ve,U Z si] 60)).heap.size:=by simp;omega
 generalize w.alloc (.cells #[U Z po,U .u64 ma,U Z ow,U Z ta,U Z ol,U Z ge,U Z ph,U Z ve,U Z si] 60)=w1 at*;obtain⟨y0,y1,y2,y3,y4,y5,y6,y7,y8⟩:=aa HR.out;have q0:w1.cell? ⟨q,0,none⟩=some (.slice A n c):=HQ.out.cell 0;have hc2:=(Chg.refl (fun _=>False) w1).alloc (.cells #[U Z po,U .u64 ma,U Z ow,U Z ta,U Z ol,U Z ge,U Z ph,U Z ve,U Z si,U Z 0] 188);have hown:=ay HO.out hc2 (fun _ _=>id);have hq2:=HQ.out.chg hc2 id
 have hsz:base≤(w1.alloc (.cells #[U Z po,U .u64 ma,U Z ow,U Z ta,U Z ol,U Z ge,U Z ph,U Z ve,U Z si,U Z 0] 188)).heap.size:=by simp;omega
 go_wp2_with (at_builtin;refine dT _ rfl (.tmp 3) (.tmp 6) 189 rfl base 188 i0 _ 10 80 Tryz.underlying189 hi hz0 hz1 hz2 rfl (by decide) (.slice A n c) n _ rfl hown ⟨w1.heap.size,0,none⟩ 1 1 [U Z po,U .u64 ma,U Z ow,U Z ta,U Z ol,U Z ge,U Z ph,U Z ve,U Z si,U Z 0] rfl rfl (gH rfl) (by simp[Value.oneCell']) (by unfold maxLen;omega) (by omega) hsz ?_;intro v3 w3 hown3 hg3 hat3;obtain⟨A3,c3,rfl,_,_⟩:=aV hown3;have hc3:=(Chg.refl (fun k=>base≤k) (w1.alloc (.cells #[U Z po,U .u64 ma,U Z ow,U Z ta,U Z ol,U Z ge,U Z ph,U Z ve,U Z si,U Z 0] 188))).grown hg3 (fun k hk _=>(hown.lt k hk).1);have HC3:=hd_ ((HX.out.widen17 ((Chg.refl (fun k=>base≤k) w1).alloc (.cells #[U Z po,U .u64 ma,U Z ow,U Z ta,U Z ol,U Z ge,U Z ph,U Z ve,U Z si,U Z 0] 188)) (fun _ e=>e)).tr hc3);have HQ3:=hd_ (hq2.chg ((Chg.refl (fun k=>(zW A n c).ownBlock=some k) _).grown hg3 (fun k hk _=>hk)) (fun e=>HNE.out (by rw[←aG];exact e)));have HO3:=hd_ hown3;have HAT:=hd_ hat3;have q3:w3.cell? ⟨q,0,none⟩=some (.slice A n c):=HQ3.out.cell 0;have f3:=HQ3.out.frozen 0;clear hown3 hg3 hat3 hown hc3 hq2 hc2 q0)
 go_end0
 have hcs:=(Chg.refl (fun k=>k=q) w3).put q 0 (fun _=>rfl) (.slice A3 (n+1) c3);have hQ4:=HQ3.out.set 0 (.slice A3 (n+1) c3)
 have hne3:(zW A3 (n+1) c3).ownBlock≠some q:=by
  rw[aG];exact kI HO3.out HQ3.out (by decide)
 refine⟨rfl,⟨A3,c3,?_,?_⟩,?_⟩
 ·rw[zY,HN.out];exact hQ4
 ·rw[zY,HN.out,List.flatMap_append];exact ay HO3.out hcs (fun k hk e=>hne3 (by rw[aG,hk,e]))
 ·exact(HC3.out.mono (fun _ _ e=>.inr e)).trans hcs (fun k _ e=>.inl e)
def xX(bt:Int)(w1:World)(s3:Value)(wx:World):Prop:=
 ∃Q p bc br,s3=.pointer (some ⟨Q,0,none⟩)∧Blk wx Q 99 #[.pointer (some ⟨p,0,none⟩),U Z bt]∧CS w1.heap.size wx p bc br (fun _=>false) (fun _=>none)∧Chg (fun _=>False) w1 wx∧w1.heap.size≤Q
def yR(t:ba)(w:World)(e:Ending)(w':World):Prop:=
 ∃p bc br,e=.returned (.agg #[.pointer (some ⟨p,0,none⟩),U Z t.bt])∧CS w.heap.size w' p bc br t.C t.R∧Chg (fun _=>False) w w'
theorem CS.base17{B B':Nat}{w:World}{p bc br:Nat}{C:Int→Bool}{R:Int→Option RV}(h:CS B w p bc br C R)(hb:B'≤B):CS B' w p bc br C R:=⟨zH hb h.bp,zH hb h.bbc,zH hb h.bbr,h.ne,h.blk,h.ch,h.ro⟩
theorem nc(B ps bc br:Nat)(C:Int→Bool)(R:Int→Option RV)(bt:Int)(w:World)(h:CS B w ps bc br C R)(hw:WF C R):Calls Tryz.prog 115 #[.agg #[.pointer (some ⟨ps,0,none⟩),U Z bt]] w (yR ⟨C,R,bt⟩ w):=by
 have hmf:∀(fn:Fn) (first cap:Array Value) (w:World),(Instr.makeFunc fn first cap).run Tryz.prog w=.ok (.func fn first cap) w:=fun _ _ _ _=>rfl;have hc0:=(((Chg.refl (fun _=>False) w).alloc (.cells #[.pointer (some ⟨ps,0,none⟩),U Z bt] 99)).alloc (.cells #[.pointer none,U Z 0] 99));have HS:=hd_ (h.keep hc0);have HB0:Hid (Blk ((w.alloc (.cells #[.pointer (some ⟨ps,0,none⟩),U Z bt] 99)).alloc (.cells #[.pointer none,U Z 0] 99)) w.heap.size 99 #[.pointer (some ⟨ps,0,none⟩),U Z bt]):=hd_ ((af rfl).alloc _);have HZ:Hid (Blk ((w.alloc (.cells #[.pointer (some ⟨ps,0,none⟩),U Z bt] 99)).alloc (.cells #[.pointer none,U Z 0] 99)) (w.heap.size+1) 99 #[.pointer none,U Z 0]):=hd_ (af (by simp));have HX:=hd_ hc0;have HW:=hd_ hw;have HQQ:Hid (w.heap.size≤w.heap.size+1):=hd_ (by omega);clear h hw hc0;go_in;go_upto_region 1 with fail;have HLT:Hid (ps<((w.alloc (.cells #[.pointer (some ⟨ps,0,none⟩),U Z bt] 99)).alloc (.cells #[.pointer none,U Z 0] 99)).heap.size∧bc<((w.alloc (.cells #[.pointer (some ⟨ps,0,none⟩),U Z bt] 99)).alloc (.cells #[.pointer none,U Z 0] 99)).heap.size∧br<((w.alloc (.cells #[.pointer (some ⟨ps,0,none⟩),U Z bt] 99)).alloc (.cells #[.pointer none,U Z 0] 99)).heap.size∧w.heap.size<((w.alloc (.cells #[.pointer (some ⟨ps,0,none⟩),U Z bt] 99)).alloc (.cells #[.pointer none,U Z 0] 99)).heap.size∧w.heap.size+1<((w.alloc (.cells #[.pointer (some ⟨ps,0,none⟩),U Z bt] 99)).alloc (.cells #[.pointer none,U Z 0] 99)).heap.size):=hd_ (by have h:=HS.out.lt3;have h1:=HB0.out.lt;have h2:=HZ.out.lt;exact⟨h.1,h.2.1,h.2.2,h1,h2⟩);generalize (w.alloc (.cells #[.pointer (some ⟨ps,0,none⟩),U Z bt] 99)).alloc (.cells #[.pointer none,U Z 0] 99)=w1 at*;generalize w.heap.size+1=Q1 at*;generalize w.heap.size=Q0 at HB0 HLT⊢;have HKEEP:Hid (∀W:World,Chg (fun _=>False) w1 W→(W.cell? ⟨Q0,1,none⟩=some (U Z bt))):=hd_ (fun W hw=>(HB0.out.chg hw id).cell 1);have HXA:=hd_ (Chg.refl (fun _=>False) w1).drew;have HXA2:=hd_ (((Chg.refl (fun _=>False) w1).alloc (.cells #[.pointer none,U Z 0] 99)).drew);have HNA:Hid (Blk (w1.alloc (.cells #[.pointer none,U Z 0] 99)).drew w1.heap.size 99 #[.pointer none,U Z 0]):=hd_ (af rfl).drew
 go_cut [3] (fun s3 wx=>xX bt w1 s3 wx)
 case first=>
  have hkk:=HKEEP.out _ HXA.out
  go_region_held3 (fun w'=>w'.cell? ⟨Q0,1,none⟩=some (U Z bt))
   (first|with_reducible exact HKEEP.out _ HXA.out|with_reducible exact HKEEP.out _ HXA2.out|with_reducible exact HKEEP.out _ HXB.out|with_reducible exact HKEEP.out _ (HXB.out.alloc _)|with_reducible exact HKEEP.out _ HXC.out|with_reducible exact HKEEP.out _ HXD.out|fail)
   (first
    |(go_at_call 50;(with_reducible refine(jU w1.drew).mono ?_);rintro e wz ⟨rfl,hs,hc⟩;have HSB:=hd_ hs;have HXB:=hd_ (HXA.out.tr hc);clear hc hs)
    |(go_at_call 50;(with_reducible refine(jU (w1.alloc (.cells #[.pointer none,U Z 0] 99)).drew).mono ?_);rintro e wz ⟨rfl,hs,hc⟩;have hsz:(w1.alloc (.cells #[.pointer none,U Z 0] 99)).drew.heap.size=w1.heap.size+1:=(by simp);rw[hsz]at hs;have HXC:=hd_ (HXA2.out.tr hc);have HNC:=hd_ (HNA.out.chg hc id);have f0:=HNC.out.frozen 0;have f1:=HNC.out.frozen 1;have n0:wz.cell? ⟨w1.heap.size,0,none⟩=some (.pointer none):=HNC.out.cell 0;have n1:wz.cell? ⟨w1.heap.size,1,none⟩=some (U Z 0):=HNC.out.cell 1;have hset:=(HNC.out.set 0 (.pointer (some ⟨w1.heap.size+1+1+1,0,none⟩))).set 1 (U Z bt);have hcs:=((Chg.refl (fun k=>k=w1.heap.size) wz).put w1.heap.size 0 (fun _=>rfl) (.pointer (some ⟨w1.heap.size+1+1+1,0,none⟩))).put w1.heap.size 1 (fun _=>rfl) (U Z bt);have HXD:=hd_ (ab HXC.out hcs (zG _));have hz:=HNA.out.lt;have HWB:Hid (xX bt w1 (.pointer (some ⟨w1.heap.size,0,none⟩)) ((wz.setCell ⟨w1.heap.size,0,none⟩ (.pointer (some ⟨w1.heap.size+1+1+1,0,none⟩))).setCell ⟨w1.heap.size,1,none⟩ (U Z bt))):=hd_ ⟨_,_,_,_,rfl,hset,(hs.chg hcs (by omega) (by omega) (by omega)).base17 (by omega),HXD.out,zG _⟩;clear hset hcs hc hs hz)
    |fail)
  all_goals
   go_wp2_with fail
   go_meet
   first
    |exact HWB.out
    |exact⟨wz.heap.size,_,_,_,rfl,af rfl,HSB.out.keep ((Chg.refl _ _).alloc _),HXB.out.alloc _,HXB.out.size⟩
 case rest=>
  obtain⟨QS,pn,bcn,brn,rfl,hbx,hsn,hcx,hqx⟩:=hcut;have HN:=hd_ hbx;have HSN:=hd_ hsn;have HCX:=hd_ hcx;have HQX:=hd_ hqx;clear hbx hsn hcx hqx HKEEP HXA HXA2 HNA;replace HS:=hd_ (HS.out.keep HCX.out);replace HB0:=hd_ (HB0.out.chg HCX.out id);replace HZ:=hd_ (HZ.out.chg HCX.out id);have HXW:=hd_ (HX.out.tr HCX.out);have HSZ:=hd_ HX.out.size;have HPQ:Hid (w1.heap.size≤pn∧w1.heap.size≤bcn∧Q1<w1.heap.size∧w.heap.size≤w1.heap.size):=hd_ ⟨HSN.out.bp,HSN.out.bbc,HLT.out.2.2.2.2,HSZ.out⟩;have HQW:Hid (w.heap.size≤wc.heap.size):=hd_ HXW.out.size;have z0:wc.cell? ⟨Q0,0,none⟩=some (.pointer (some ⟨ps,0,none⟩)):=HB0.out.cell 0;have HCH:=hd_ (iV HS.out);go_wp2_with fail;refine HCH.out.mono ?_;rintro e w3 ⟨AL,ln,lc,rfl,hln,hrl,hc⟩;have hl16:=iq C;have HLN:=hd_ hln;have HRL:=hd_ hrl;have HX3:=hd_ hc;have hq3:=HN.out.lt
  have HEA:=hd_ (qm AL ln lc (bw C) _ w3 (.pointer (some ⟨QS,0,none⟩)) (fun j W=>CS w1.heap.size W pn bcn brn (gr ((bw C).take j)) (fun _=>none)∧Blk W QS 99 #[.pointer (some ⟨pn,0,none⟩),U Z bt]∧Chg (fun k=>k=bcn) w3 W) (by omega)
   ⟨HSN.out.keep hc,HN.out.chg hc id,Chg.refl _ _⟩ hln (fun j W hI=>hrl.chg hI.2.2 (fun k hk e=>by have h1:=HSN.out.lt3;omega))
   (fun j W W' hI hc'=>⟨hI.1.keep hc',hI.2.1.chg hc' id,hI.2.2.trans (hc'.mono (fun _ _ e=>e.elim)) (fun _ _ e=>e)⟩)
   (fun j x W hx hI=>(qu hI.1 hI.2.1 x).mono (fun e W' hh=>by
    obtain⟨he,hs,hc'⟩:=hh;rw[qt HW.out hx]at hs
    exact⟨he,hs,hI.2.1.chg hc' (fun e=>by have:=hI.1.ch.ne hI.2.1;omega),hI.2.2.tr hc'⟩)))
  clear hln hrl hc hl16 hq3 z0 HCH;go_wp2_with fail;refine HEA.out.mono ?_;rintro e w4 ⟨rfl,hs4,hn4,hc4⟩;rw[Ax (by have:=HLN.out;omega),kR HW.out]at hs4;have hbc:=hs4.bbc;have hlt:=HLT.out;have HC4:=hd_ ((HX3.out.mono (S':=fun k=>k=bcn) (fun _ _ e=>e.elim)).tr hc4);replace HSN:=hd_ hs4;replace HN:=hd_ hn4;replace HS:=hd_ (HS.out.chg HC4.out (by omega) (by omega) (by omega));replace HB0:=hd_ (HB0.out.chg HC4.out (by omega));replace HZ:=hd_ (HZ.out.chg HC4.out (by omega));replace HXW:=hd_ (HXW.out.trans HC4.out (fun i hi e=>by have:=HSZ.out;omega));clear hs4 hn4 hc4 hbc hlt HC4 HEA HRL HLN HX3;go_upto_region 4 with fail;have hc5:=(Chg.refl (fun _=>False) w4).alloc (.cells #[.slice none 0 0] 189);have HG5:Hid (Blk (w4.alloc (.cells #[.slice none 0 0] 189)) w4.heap.size 189 #[.slice none 0 0]):=hd_ (af rfl);replace HSN:=hd_ (HSN.out.keep hc5);replace HN:=hd_ (HN.out.chg hc5 id);replace HS:=hd_ (HS.out.keep hc5);replace HB0:=hd_ (HB0.out.chg hc5 id);replace HZ:=hd_ (HZ.out.chg hc5 id);have HXW4:=hd_ HXW.out.size;replace HXW:=hd_ (HXW.out.tr hc5);clear hc5;have HQL:=hd_ HG5.out.lt;have HQW2:Hid (w.heap.size≤w4.heap.size):=hd_ HXW4.out;generalize w4.alloc (.cells #[.slice none 0 0] 189)=w5 at*;generalize w4.heap.size=QL at*;have z0:w5.cell? ⟨Q0,0,none⟩=some (.pointer (some ⟨ps,0,none⟩)):=HB0.out.cell 0;have HRW:=hd_ (eJ HS.out);go_wp2_with fail;refine HRW.out.mono ?_;rintro e w6 ⟨AL,ln,lc,rfl,hln,hown,hc⟩;have hsr:=ft ga hown hln;have hl32:=dH R;have HLN:=hd_ hln;replace HSN:=hd_ (HSN.out.keep hc);replace HN:=hd_ (HN.out.chg hc id);replace HZ:=hd_ (HZ.out.chg hc id);replace HXW:=hd_ (HXW.out.tr hc);have HG6:Hid (j6 w6.heap.size QL [] w6):=hd_ ⟨none,0,HG5.out.chg hc id,il⟩;have hapn:=HSN.out.apart HN.out (by decide);have hlt6:=HSN.out.lt3;have hn6:=HN.out.lt;have hz6:=HZ.out.lt
  have HNE:Hid (¬QL=pn∧¬QL=bcn∧¬QL=brn∧¬QL=QS∧¬QL=Q1):=hd_ (by
   obtain⟨A,c,hg,_⟩:=HG6.out;have h1:=HSN.out.apart hg (by decide)
   exact⟨h1.1,h1.2.1,h1.2.2,gR hg HN.out (by decide),gR hg HZ.out (by decide)⟩)
  have HEB:=hd_ (qo AL ln lc (aO R) _ w6 (.pointer (some ⟨QL,0,none⟩)) (fun j W=>j6 w6.heap.size QL (((aO R).take j).map fun x=>⟨x,0⟩) W∧Chg (fun k=>k=QL∨w6.heap.size≤k) w6 W) (by omega)
   ⟨HG6.out,Chg.refl _ _⟩ hln (fun j W hI=>hsr.chg hI.2 (fun k hk e=>by have h1:=HQL.out;omega))
   (fun j W W' hI hc'=>⟨hI.1.new hc',hI.2.trans (hc'.mono (fun _ _ e=>e.elim)) (fun _ _ e=>e)⟩)
   (fun j x W hx hI=>by
    obtain⟨po,ma,ow,ta,ol,ge,ph,ve,si,rfl⟩:=bm x;refine(qv w6.heap.size QL _ po ma ow ta ol ge ph ve si W hI.1 (by rw[AH,zN];omega) hI.2.size).mono ?_;rintro e W' ⟨he,hg,hc'⟩;rw[dI hx,CH]
    exact⟨he,hg,hI.2.tr hc'⟩))
  have HLT6:=hd_ (And.intro hlt6 (And.intro hn6 hz6));have HAPN:=hd_ hapn;clear hln hown hc hsr hl32 z0 HRW HG5 HG6 hapn hlt6 hn6 hz6;go_wp2_with fail;refine HEB.out.mono ?_;rintro e w7 ⟨rfl,hg,hc⟩;rw[Ax (by have:=HLN.out;omega)]at hg;have hlt:=HLT6.out;have hne:=HNE.out;replace HSN:=hd_ (HSN.out.chg hc (by omega) (by omega) (by omega));replace HN:=hd_ (HN.out.chg hc (by omega));replace HZ:=hd_ (HZ.out.chg hc (by omega));replace HXW:=hd_ (HXW.out.trans hc (fun i hi e=>by have h1:=HQW2.out;have h2:=HXW.out.size;omega));obtain⟨GA,gc,hgb,hgo⟩:=hg
  have hll:((aO R).map fun x=>(⟨x,0⟩:CV)).length≤32:=by rw[AH];exact dH R
  have hap:=sE HW.out;generalize hgl:((aO R).map fun x=>(⟨x,0⟩:CV))=gl at*;have hsr:=ft oJ hgo rfl;have HAP:=hd_ (kF HSN.out GA gl.length gc gl _ hsr (by omega));have HAPV:=hd_ hap;have g0:w7.cell? ⟨QL,0,none⟩=some (.slice GA gl.length gc):=hgb.cell 0;have n0:w7.cell? ⟨QS,0,none⟩=some (.pointer (some ⟨pn,0,none⟩)):=HN.out.cell 0;generalize gl.length=gn at*;clear hc hlt hne hgb hgo hll hap hgl hsr HEB;go_wp2_with fail;refine HAP.out.mono ?_;rintro e w8 ⟨br',rfl,hs,hc⟩;rw[HAPV.out.2]at hs;replace HSN:=hd_ hs;replace HN:=hd_ (HN.out.chg hc HAPN.out.1);replace HZ:=hd_ (HZ.out.chg hc (by have:=HPQ.out;omega));replace HXW:=hd_ (HXW.out.trans hc (fun i hi e=>by have:=HPQ.out;omega));clear hs hc HAP g0 n0;have n0:w8.cell? ⟨QS,0,none⟩=some (.pointer (some ⟨pn,0,none⟩)):=HN.out.cell 0;have n1:w8.cell? ⟨QS,1,none⟩=some (U Z bt):=HN.out.cell 1;have z0:w8.cell? ⟨Q1,0,none⟩=some (.pointer none):=HZ.out.cell 0;have z1:w8.cell? ⟨Q1,1,none⟩=some (U Z 0):=HZ.out.cell 1;have f0:=HZ.out.frozen 0;have f1:=HZ.out.frozen 1;have hcs:=((Chg.refl (fun k=>k=Q1) w8).put Q1 0 (fun _=>rfl) (.pointer (some ⟨pn,0,none⟩))).put Q1 1 (fun _=>rfl) (U Z bt);have hZ:=(HZ.out.set 0 (.pointer (some ⟨pn,0,none⟩)));have r0:(w8.setCell ⟨Q1,0,none⟩ (.pointer (some ⟨pn,0,none⟩))).cell? ⟨Q1,0,none⟩=some (.pointer (some ⟨pn,0,none⟩)):=hZ.cell 0;have r1:((w8.setCell ⟨Q1,0,none⟩ (.pointer (some ⟨pn,0,none⟩))).setCell ⟨Q1,1,none⟩ (U Z bt)).cell? ⟨Q1,1,none⟩=some (U Z bt):=(hZ.set 1 (U Z bt)).cell 1;have HF:=hd_ (ab HXW.out hcs HQQ.out);have HSF:=hd_ (HSN.out.chg hcs (by have:=HPQ.out;omega) (by have:=HPQ.out;omega) (by have h1:=HPQ.out;have h2:=HSN.out.bbr;omega));have RR:=hd_ (And.intro r0 r1);clear hcs hZ r0 r1;go_wp2_with fail;obtain⟨r0,r1⟩:=RR.out;exact bodyPost_ret (v:=.agg #[.pointer (some ⟨pn,0,none⟩),U Z bt]) (by simp[results,Tryz.results115,go_sem,r0,r1]) rfl ⟨pn,bcn,br',rfl,HSF.out.base17 HSZ.out,HF.out⟩
end Go.Proofs.YtnojmbejedlilaaGreat
