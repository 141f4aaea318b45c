/-
  Walks: ctl.tell, with its closure, change. Conditions: the controller lies in memory, and holds what always holds; the row may be.
-/
import Derived.Test.YtnojmbejedlilaaGreatKQCk
import Derived.Test.YtnojmbejedlilaaGreatKQCc
import Derived.Test.YtnojmbejedlilaaGreatKQM8
import Derived.Deep.RegionHeld3
import Derived.RegionTactic
set_option maxRecDepth 100000
set_option maxHeartbeats 40000000
set_option linter.unusedVariables false
set_option linter.unusedSimpArgs false
namespace Go.Proofs.YtnojmbejedlilaaGreat
open Bool renaming false_and→CL,and_false→CM
open Go renaming wpAnyH_take→AY
open List renaming getElem_toArray→AZ,getElem_cons_succ→A7,getElem_cons_zero→A8,setIfInBounds_toArray→AQ,set_cons_zero→AS,set_cons_succ→AR,getElem?_eq_some_iff→zS
open Nat renaming le_refl→zG
open Go.Value renaming int→U
open Go.IntKind renaming i64→Z
open Go.RowKit
def jw(x:KV)(i:Nat)(b:List UInt8):KV:=if 0<(x.S i).pe then{x with S:=aF x.S i (bL (x.S i) b),B:=if db (x.S i) b=0 then x.B else aF x.B i true}else x
def aY(x:KV)(l:List Int)(b:List UInt8):KV:={x with S:=fun i=>if decide ((i:Int)∈l)&&decide (0<(x.S i).pe)then bL (x.S i) b else x.S i,B:=fun i=>x.B i||(decide ((i:Int)∈l)&&decide (0<(x.S i).pe)&&db (x.S i) b !=0)}
theorem nS(x:KV)(b:List UInt8):aY x [] b=x:=by
 unfold aY;simp
theorem ng (x : KV) (l : List Int) (b : List UInt8) (i : Nat) (hn : ¬ (i : Int) ∈ l) : jw (aY x l b) i b = aY x (l ++ [(i : Int)]) b := by
  have hS : (aY x l b).S i = x.S i := by
    show (if decide ((i : Int) ∈ l) && decide (0 < (x.S i).pe) then bL (x.S i) b else x.S i) = x.S i
    rw [decide_eq_false hn, CL]
    rfl
  have hB : (aY x l b).B i = x.B i := by
    show (x.B i || (decide ((i : Int) ∈ l) && decide (0 < (x.S i).pe) && db (x.S i) b != 0)) = x.B i
    rw [decide_eq_false hn]
    simp
  unfold jw
  rw [hS]
  by_cases hp : 0 < (x.S i).pe
  · rw [if_pos hp]
    have e1 : aF (aY x l b).S i (bL (x.S i) b) = (aY x (l ++ [(i : Int)]) b).S := by
      funext k
      by_cases hk : k = i
      · subst hk
        rw [di]
        show _ = (if decide ((k : Int) ∈ l ++ [(k : Int)]) && decide (0 < (x.S k).pe) then bL (x.S k) b else x.S k)
        rw [decide_eq_true (by simp), decide_eq_true hp]
        rfl
      · rw [fj _ _ hk]
        show (if decide ((k : Int) ∈ l) && decide (0 < (x.S k).pe) then bL (x.S k) b else x.S k) = (if decide ((k : Int) ∈ l ++ [(i : Int)]) && decide (0 < (x.S k).pe) then bL (x.S k) b else x.S k)
        have : ((k : Int) ∈ l ++ [(i : Int)]) ↔ (k : Int) ∈ l := by simp; omega
        simp only [this]
    have e2 : (if db (x.S i) b = 0 then (aY x l b).B else aF (aY x l b).B i true) = (aY x (l ++ [(i : Int)]) b).B := by
      funext k
      by_cases hk : k = i
      · subst hk
        show _ = (x.B k || (decide ((k : Int) ∈ l ++ [(k : Int)]) && decide (0 < (x.S k).pe) && db (x.S k) b != 0))
        rw [decide_eq_true (show (k : Int) ∈ l ++ [(k : Int)] by simp), decide_eq_true hp]
        split
        · rename_i h0; rw [hB, h0]; simp
        · rename_i h0; rw [di]; simp [h0]
      · have h1 : (aY x (l ++ [(i : Int)]) b).B k = (aY x l b).B k := by
          show (x.B k || (decide ((k : Int) ∈ l ++ [(i : Int)]) && decide (0 < (x.S k).pe) && db (x.S k) b != 0)) = (x.B k || (decide ((k : Int) ∈ l) && decide (0 < (x.S k).pe) && db (x.S k) b != 0))
          have : ((k : Int) ∈ l ++ [(i : Int)]) ↔ (k : Int) ∈ l := by simp; omega
          simp only [this]
        rw [h1]
        split
        · rfl
        · rw [fj _ _ hk]
    rw [e1, e2]
    rfl
  · rw [if_neg hp]
    have e1 : (aY x l b).S = (aY x (l ++ [(i : Int)]) b).S := by
      funext k
      show (if decide ((k : Int) ∈ l) && decide (0 < (x.S k).pe) then bL (x.S k) b else x.S k) = (if decide ((k : Int) ∈ l ++ [(i : Int)]) && decide (0 < (x.S k).pe) then bL (x.S k) b else x.S k)
      by_cases hk : k = i
      · subst hk
        rw [decide_eq_false hp, CM, CM]
      · have : ((k : Int) ∈ l ++ [(i : Int)]) ↔ (k : Int) ∈ l := by simp; omega
        simp only [this]
    have e2 : (aY x l b).B = (aY x (l ++ [(i : Int)]) b).B := by
      funext k
      show (x.B k || (decide ((k : Int) ∈ l) && decide (0 < (x.S k).pe) && db (x.S k) b != 0)) = (x.B k || (decide ((k : Int) ∈ l ++ [(i : Int)]) && decide (0 < (x.S k).pe) && db (x.S k) b != 0))
      by_cases hk : k = i
      · subst hk
        rw [decide_eq_false hp, CM, CM]
      · have : ((k : Int) ∈ l ++ [(i : Int)]) ↔ (k : Int) ∈ l := by simp; omega
        simp only [this]
    show (⟨x.t, x.sp, x.no, (aY x l b).S, (aY x l b).B, x.st, x.bs, x.sf, x.rm⟩ : KV) = ⟨x.t, x.sp, x.no, (aY x (l ++ [(i : Int)]) b).S, (aY x (l ++ [(i : Int)]) b).B, x.st, x.bs, x.sf, x.rm⟩
    rw [e1, e2]
theorem nT{x:KV}(hw:WF x.t.C x.t.R)(r:RV):aY x (bw x.t.C) (ci r)=fk x r:=by
 have hm:=kR hw;have hi:∀i:Nat,decide ((i:Int)∈bw x.t.C)=x.t.C (i:Int):=fun i=>congrFun hm (i:Int);unfold aY fk kL;simp only[hi]
def kT(N:Nat→Prop)(lab:Nat→Nat)(c ps pj pf:Nat)(P:Nat→Nat)(y:KV)(w:World)(e:Ending)(w':World):Prop:=
 e=.returned (.tuple #[])∧∃lab',KP w' lab' c ps pj pf P y∧am N lab lab' w w'
theorem nU{w:World}{lab:Nat→Nat}{c ps pj pf:Nat}{P:Nat→Nat}{x:KV}(h:KP w lab c ps pj pf P x)(i:Nat)(hi:i<16)(hq:(x.S i).q.length≤64)(hp0:0≤(x.S i).pe)(q1 q2:Nat)(A:Option Addr)(m bc:Nat)(b:List UInt8)(Sb:Nat→Prop)(h1:Blk w q1 37 #[.pointer (some ⟨c,0,none⟩)])(h2:Blk w q2 23 #[.slice A m bc])(hl2:lab q2=0)(hm:m=b.length)(hr:Rds w Sb A m (bcs b))(hz:A=none→bc=0)(hm2:m≤1000):Calls Tryz.prog 175 #[U Z (i:Int),.pointer (some ⟨q1,0,none⟩),.pointer (some ⟨q2,0,none⟩)] w (kT (fun n=>n=1∨n=5+i) lab c ps pj pf P (jw x i b) w):=by
 have HK:=hd_ h;have HL:=hd_ (h.ln i hi);have HI:=hd_ hi;have H2:=hd_ h2;have HL2:=hd_ hl2;have q10:w.cell? ⟨q1,0,none⟩=some (.pointer (some ⟨c,0,none⟩)):=h1.cell 0
 have hi16:(i:Int)<16:=by omega
 have HKEEP:Hid (∀W:World,Chg (fun k=>lab k=5+i) w W→(W.cell? ⟨c,5+i*2,none⟩=some (.pointer (some ⟨P i,0,none⟩))∧W.cell? ⟨q2,0,none⟩=some (.slice A m bc))):=hd_ (fun W hw=>⟨((HK.out.q.cb.chg hw (by rw[HK.out.q.lc];omega)).line HI.out).1,(H2.out.chg hw (by rw[HL2.out];omega)).cell 0⟩);have HYA:=hd_ (Chg.refl (fun k=>lab k=5+i) w).drew;have HPE0:=hd_ (kS ((HL.out.mv (am.of (N:=fun _=>False) (Chg.refl (fun _=>False) w).drew) id id)));have HPU:=hd_ (iD ((HL.out.mv (am.of (N:=fun _=>False) (Chg.refl (fun _=>False) w).drew) id id)) hq A m bc b Sb hm hr.drew hz (by omega));have HT:Hid (jw x i b=if 0<(x.S i).pe then{x with S:=aF x.S i (bL (x.S i) b),B:=if db (x.S i) b=0 then x.B else aF x.B i true}else x):=hd_ rfl;clear h hi hq h1 h2 hl2 hm hr hz hm2;generalize (x.S i).pe=pe at*;generalize db (x.S i) b=er at*;have HPE:=HPE0;by_cases hp:0<pe
 ·replace HT:=hd_ (HT.out.trans (if_pos hp));go_in;go_wp2_with fail;obtain⟨g0,g1⟩:=HKEEP.out _ HYA.out
  go_region_held3 (fun w'=>(w'.cell? ⟨c,5+i*2,none⟩=some (.pointer (some ⟨P i,0,none⟩))∧w'.cell? ⟨q2,0,none⟩=some (.slice A m bc)))
   (first|with_reducible exact HKEEP.out _ HYA.out|with_reducible exact HKEEP.out _ HYB.out|fail)
   (first
    |(go_at_call 158;(with_reducible refine HPE.out.mono ?_);rintro e wb ⟨rfl,rfl⟩)
    |(go_at_call 127;(with_reducible refine HPU.out.mono ?_);rintro e wz ⟨rfl,lab1,hs,hm,hl⟩;have HK1:=hd_ ((HK.out.new (Chg.refl (fun _=>False) w).drew).sess HI.out hs hm hl);have HM1:=hd_ hm;have HYB:=hd_ (HYA.out.trans hm.1 (fun _ _ e=>e));clear hs hm hl)
    |fail)
  all_goals
   have HMV:Hid (am (fun n=>n=1∨n=5+i) lab lab1 w wz):=hd_ ⟨HYB.out.mono (fun k _ e=>.inr e),HM1.out.2⟩;by_cases he:er=0
   ·subst he;replace HT:=hd_ (HT.out.trans (by rw[if_pos rfl]));go_wp2_with fail
    go_end0
    refine⟨rfl,lab1,?_,HMV.out⟩;rw[HT.out];exact HK1.out
   ·have te:(er !=0)=true:=by simpa using he
    replace HT:=hd_ (HT.out.trans (by rw[if_neg he]));clear he;have l1:=(HK1.out.q.cb.line HI.out).2;have f1:=HK1.out.q.cb.free (5+i*2+1);go_wp2_with fail
    go_end0
    have hcs:=(Chg.refl (fun k=>k=c) wz).put c (5+i*2+1) (fun _=>rfl) (.bool true);refine⟨rfl,lab1,?_,HMV.out.put hcs (fun _=>by rw[HK.out.q.lc];exact .inl rfl)⟩;rw[HT.out];exact HK1.out.own hcs (HK1.out.q.cb.setB HI.out true) ⟨rfl,rfl⟩ ⟨rfl,rfl,rfl⟩ rfl
 ·replace HT:=hd_ (HT.out.trans (if_neg hp))
  obtain rfl:pe=0:=by omega
  clear hp hp0;go_in;go_wp2_with fail;have s2:=HKEEP.out _ HYA.out;refine wp_region_noPanic ?_;refine wp_region_held_drew (S:=fun w'=>(w'.cell? ⟨c,5+i*2,none⟩=some (.pointer (some ⟨P i,0,none⟩))∧w'.cell? ⟨q2,0,none⟩=some (.slice A m bc))) (by kernel_rfl) s2 (fun hHeld=>?_)
  iterate 4
   first
    |refine tk 0 ?_ ?_ ?_
    |refine tk 1 ?_ ?_ ?_
    |refine tk 2 ?_ ?_ ?_
    |refine tk 3 ?_ ?_ ?_
   rotate_left
   ·intro w' hSw;(try dsimp only at hSw);go_simp;first|done|(with_reducible rfl)
   try simp only[AZ,A7,A8,Act.put,AQ,AS,AR]
  refine wpAnyH_ready (rs:=[4]) (by kernel_rfl) (by simp) ?_;refine AllReadyH.cons rfl (fun K hK=>?_) AllReadyH.nil;go_simp;refine(HPE.out).mono ?_;rintro e wb ⟨rfl,rfl⟩;go_wp2_with fail;refine hK.out _ _ s2 (fun hHeld=>?_);clear hK K;try simp only[AZ,A7,A8,Act.put,AQ,AS,AR]
  iterate 2
   first
    |refine tk 5 ?_ ?_ ?_
    |refine tk 6 ?_ ?_ ?_
   rotate_left
   ·intro w' hSw;(try dsimp only at hSw);go_simp;first|done|(with_reducible rfl)
   try simp only[AZ,A7,A8,Act.put,AQ,AS,AR]
  refine AY (i:=7) (v:=_) rfl (by kernel_rfl) (by kernel_rfl) (by kernel_rfl) (fun _ _ _ h=>h) (Or.inr ⟨by rfl,rfl⟩) (by assumption) ?_;(try simp only[AZ,A7,A8,Act.put,AQ,AS,AR]);refine AY (i:=8) (v:=_) rfl (by kernel_rfl) (by kernel_rfl) (by kernel_rfl) (fun _ _ _ h=>h) (Or.inr ⟨by rfl,rfl⟩) (by assumption) ?_;(try simp only[AZ,A7,A8,Act.put,AQ,AS,AR]);refine AY (i:=9) (v:=_) rfl (by kernel_rfl) (by kernel_rfl) (by kernel_rfl) (fun _ _ _ h=>h) (Or.inr ⟨by rfl,rfl⟩) (by assumption) ?_;(try simp only[AZ,A7,A8,Act.put,AQ,AS,AR]);refine AY (i:=10) (v:=_) rfl (by kernel_rfl) (by kernel_rfl) (by kernel_rfl) (fun _ _ _ h=>h) (Or.inr ⟨by rfl,rfl⟩) (by assumption) ?_;(try simp only[AZ,A7,A8,Act.put,AQ,AS,AR]);refine AY (i:=11) (v:=_) rfl (by kernel_rfl) (by kernel_rfl) (by kernel_rfl) (fun _ _ _ h=>h) (Or.inr ⟨by rfl,rfl⟩) (by assumption) ?_;(try simp only[AZ,A7,A8,Act.put,AQ,AS,AR]);refine AY (i:=12) (v:=_) rfl (by kernel_rfl) (by kernel_rfl) (by kernel_rfl) (fun _ _ _ h=>h) (Or.inr ⟨by rfl,rfl⟩) (by assumption) ?_;(try simp only[AZ,A7,A8,Act.put,AQ,AS,AR]);refine AY (i:=13) (v:=_) rfl (by kernel_rfl) (by kernel_rfl) (by kernel_rfl) (fun _ _ _ h=>h) (Or.inr ⟨by rfl,rfl⟩) (by assumption) ?_;(try simp only[AZ,A7,A8,Act.put,AQ,AS,AR]);refine tk 14 ?_ ?_ ?_;rotate_left
  ·intro w' hSw;(try dsimp only at hSw);go_simp;first|done|(with_reducible rfl)
  (try simp only[AZ,A7,A8,Act.put,AQ,AS,AR]);refine wpAnyH_done (by kernel_rfl) ?_ _;refine NoPanic.normal ?_;go_wp2_with fail
  go_end0
  refine⟨rfl,lab,?_,am.of (Chg.refl (fun _=>False) w).drew⟩;rw[HT.out];exact HK.out.new (Chg.refl (fun _=>False) w).drew
theorem qx{w:World}{lab:Nat→Nat}{c ps pj pf:Nat}{P:Nat→Nat}{x:KV}(h:KP w lab c ps pj pf P x)(hw:WF x.t.C x.t.R)(hq:∀i,i<16→(x.S i).q.length≤64∧0≤(x.S i).pe)(po ma ow ta ol ge ph ve si:Int)(hx:RV.ok ⟨po,ma,ow,ta,ol,ge,ph,ve,si⟩=true)(hma:0≤ma):Calls Tryz.prog 113 #[.pointer (some ⟨c,0,none⟩),.agg #[U Z po,U .u64 ma,U Z ow,U Z ta,U Z ol,U Z ge,U Z ph,U Z ve,U Z si]] w (kT (fun n=>n=1∨(5≤n∧n≤20)) lab c ps pj pf P (fk x ⟨po,ma,ow,ta,ol,ge,ph,ve,si⟩) w):=by
 have hmf:∀(fn:Fn) (first cap:Array Value) (w:World),(Instr.makeFunc fn first cap).run Tryz.prog w=.ok (.func fn first cap) w:=fun _ _ _ _=>rfl;have hc0:=((Chg.refl (fun _=>False) w).alloc (.cells #[.pointer (some ⟨c,0,none⟩)] 37)).alloc (.cells #[U Z po,U .u64 ma,U Z ow,U Z ta,U Z ol,U Z ge,U Z ph,U Z ve,U Z si] 60);have HK:=hd_ (h.new hc0);have HB0:Hid (Blk ((w.alloc (.cells #[.pointer (some ⟨c,0,none⟩)] 37)).alloc (.cells #[U Z po,U .u64 ma,U Z ow,U Z ta,U Z ol,U Z ge,U Z ph,U Z ve,U Z si] 60)) w.heap.size 37 #[.pointer (some ⟨c,0,none⟩)]):=hd_ ((af rfl).alloc _);have HB1:Hid (Blk ((w.alloc (.cells #[.pointer (some ⟨c,0,none⟩)] 37)).alloc (.cells #[U Z po,U .u64 ma,U Z ow,U Z ta,U Z ol,U Z ge,U Z ph,U Z ve,U Z si] 60)) (w.heap.size+1) 60 (rvC po ma ow ta ol ge ph ve si)):=hd_ (af (by simp));have HX:=hd_ hc0;have HLT:=hd_ h.q.lt;have HL0:Hid (lab w.heap.size=0):=hd_ (h.q.lt _ (zG _));have HW:=hd_ hw;have HQ:=hd_ hq;have HMS:=hd_ (fun W=>fB po ma ow ta ol ge ph ve si hx hma W);have HTE:=hd_ (nT hw ⟨po,ma,ow,ta,ol,ge,ph,ve,si⟩);have HML:=hd_ (gP ⟨po,ma,ow,ta,ol,ge,ph,ve,si⟩);clear h hw hq hx hma hc0;generalize ci ⟨po,ma,ow,ta,ol,ge,ph,ve,si⟩=mb at*;go_in;go_upto_region 1 with fail;generalize (w.alloc (.cells #[.pointer (some ⟨c,0,none⟩)] 37)).alloc (.cells #[U Z po,U .u64 ma,U Z ow,U Z ta,U Z ol,U Z ge,U Z ph,U Z ve,U Z si] 60)=w1 at*;generalize w.heap.size+1=Q1 at HB1⊢;generalize hq0:w.heap.size=Q0 at HB0 HL0⊢;obtain⟨y0,y1,y2,y3,y4,y5,y6,y7,y8⟩:=aa HB1.out;go_wp2_with fail;refine(HMS.out w1).mono ?_;rintro e w2 ⟨A,bc,rfl,hz,hr,hc⟩;have HSW:=hd_ HX.out.size;replace HK:=hd_ (HK.out.new hc);replace HB0:=hd_ (HB0.out.chg hc id);replace HX:=hd_ (HX.out.tr hc);have HR:=hd_ hr.old;have HZ:=hd_ hz;clear hz hr hc HB1 HMS y0 y1 y2 y3 y4 y5 y6 y7 y8;have HS2:=hd_ HX.out.size;go_upto_region 2 with fail;have hc:=(Chg.refl (fun _=>False) w2).alloc (.cells #[.slice A mb.length bc] 23);have HB2:Hid (Blk (w2.alloc (.cells #[.slice A mb.length bc] 23)) w2.heap.size 23 #[.slice A mb.length bc]):=hd_ (af rfl);have HL2:Hid (lab w2.heap.size=0):=hd_ (HLT.out _ HS2.out);have HRL:Hid (∀k,(w1.heap.size≤k∧k<w2.heap.size)→lab k=0):=hd_ (fun k hk=>HLT.out _ (by have:=HSW.out;omega));replace HK:=hd_ (HK.out.new hc);replace HB0:=hd_ (HB0.out.chg hc id);replace HX:=hd_ (HX.out.tr hc);replace HR:=hd_ (HR.out.chg hc (fun _ _=>id));clear hc;generalize w2.alloc (.cells #[.slice A mb.length bc] 23)=w3 at*;generalize hq2:w2.heap.size=Q2 at HB2 HL2⊢;clear hq2;obtain⟨B,sbc,sbr,hs,-,-,-⟩:=HK.out.q.sr;have HCH:=hd_ (iV hs);have b0:w3.cell? ⟨Q0,0,none⟩=some (.pointer (some ⟨c,0,none⟩)):=HB0.out.cell 0;obtain⟨c0,-,-,-,-⟩:=HK.out.q.cb.hd;clear hs;go_wp2_with fail;refine HCH.out.mono ?_;rintro e w4 ⟨AL,ln,lc,rfl,hln,hrl,hc⟩;have hl16:=iq x.t.C;replace HK:=hd_ (HK.out.new hc);replace HB0:=hd_ (HB0.out.chg hc id);replace HB2:=hd_ (HB2.out.chg hc id);have HS3:=hd_ HX.out.size;replace HX:=hd_ (HX.out.tr hc);replace HR:=hd_ (HR.out.chg hc (fun _ _=>id));have hnd:=i9 x.t.C
 have HEA:=hd_ (nP AL ln lc (bw x.t.C) _ w4 (.pointer (some ⟨Q0,0,none⟩)) (.pointer (some ⟨Q2,0,none⟩)) (fun j W=>∃lab',KP W lab' c ps pj pf P (aY x ((bw x.t.C).take j) mb)∧am (fun n=>n=1∨(5≤n∧n≤20)) lab lab' w4 W) (by omega)
  ⟨lab,by rw[List.take_zero,nS];exact HK.out,am.refl _ _ _⟩ hln
  (fun j W hI=>by
   obtain⟨lab',hk,hm⟩:=hI
   exact hrl.chg hm.1 (fun k hk e=>by rw[HLT.out k (by have:=HS3.out;omega)]at e;omega))
  (fun j W W' hI hc'=>by
   obtain⟨lab',hk,hm⟩:=hI
   exact⟨lab',hk.new hc',hm.trans (am.of hc')⟩)
  (fun j n W hx hI=>by
   obtain⟨lab',hk,hm⟩:=hI;have hb:=lX HW.out hx;obtain⟨i,rfl⟩:=Int.eq_ofNat_of_zero_le hb.1
   have hi:i<16:=by omega
   have hnm:¬(i:Int)∈(bw x.t.C).take j:=by
    intro hmm;obtain⟨i',hi'⟩:=List.getElem?_of_mem hmm
    have hil:i'<j:=by have:=(zS.1 hi').1;rw[List.length_take]at this;omega
    rw[List.getElem?_take,if_pos hil]at hi';have:=(List.getElem?_inj (by exact(zS.1 hi').1) hnd).1 (hi'.trans hx.symm);omega
   have hqi:((aY x ((bw x.t.C).take j) mb).S i).q.length≤64∧0≤((aY x ((bw x.t.C).take j) mb).S i).pe:=by
    show (if decide ((i:Int)∈(bw x.t.C).take j)&&decide (0<(x.S i).pe)then bL (x.S i) mb else x.S i).q.length≤64∧0≤(if decide ((i:Int)∈(bw x.t.C).take j)&&decide (0<(x.S i).pe)then bL (x.S i) mb else x.S i).pe;rw[decide_eq_false hnm,CL];exact HQ.out i hi
   have hl0:∀{k:Nat},lab k=0→¬(lab k=1∨(5≤lab k∧lab k≤20)):=fun{k} e=>by rw[e];omega
   refine(nU hk i hi hqi.1 hqi.2 Q0 Q2 A mb.length bc mb _ (HB0.out.chg hm.1 (hl0 HL0.out)) (HB2.out.chg hm.1 (hl0 HL2.out)) ((hm.2 _ HB2.out.lt).trans HL2.out) rfl (HR.out.chg hm.1 (fun k hk=>hl0 (HRL.out k hk))) HZ.out (by rw[HML.out];decide)).mono ?_;rintro e W' ⟨he,lab2,hk2,hm2⟩;rw[ng _ _ _ _ hnm]at hk2;rw[dI hx]
   exact⟨he,lab2,hk2,hm.trans (hm2.mono (fun n hn=>by omega))⟩))
 have HLN:=hd_ hln;clear hln hrl hc hl16 hnd HCH b0 c0;go_wp2_with fail;refine HEA.out.mono ?_;rintro e w5 ⟨rfl,lab',hk,hm⟩;rw[List.take_of_length_le (by have:=HLN.out;omega),HTE.out]at hk;go_wp2_with fail
 go_end0
 exact⟨rfl,lab',hk,(am.of HX.out).trans hm⟩
def yS(lab:Nat→Nat)(c pj pf:Nat)(P:Nat→Nat)(er:Int)(y:KV)(w:World)(e:Ending)(w':World):Prop:=
 ∃(ps':Nat) (lab':Nat→Nat),e=.returned (U Z er)∧KP w' lab' c ps' pj pf P y∧am (fun n=>1≤n∧n≤20) lab lab' w w'
theorem gt{w:World}{lab:Nat→Nat}{c ps pj pf:Nat}{P:Nat→Nat}{x:KV}{j:Nat}(h:KP w lab c ps pj pf P x)(ho:KOk j x)(po ma ow ta ol ge ph ve si:Int)(hma:0≤ma):Calls Tryz.prog 59 #[.pointer (some ⟨c,0,none⟩),.agg #[U Z po,U .u64 ma,U Z ow,U Z ta,U Z ol,U Z ge,U Z ph,U Z ve,U Z si]] w (yS lab c pj pf P (cx x ⟨po,ma,ow,ta,ol,ge,ph,ve,si⟩) (bj x ⟨po,ma,ow,ta,ol,ge,ph,ve,si⟩) w):=by
 have hc0:=(Chg.refl (fun _=>False) w).alloc (.cells #[U Z po,U .u64 ma,U Z ow,U Z ta,U Z ol,U Z ge,U Z ph,U Z ve,U Z si] 60);have HK:=hd_ (h.new hc0);have HB1:Hid (Blk (w.alloc (.cells #[U Z po,U .u64 ma,U Z ow,U Z ta,U Z ol,U Z ge,U Z ph,U Z ve,U Z si] 60)) w.heap.size 60 (rvC po ma ow ta ol ge ph ve si)):=hd_ (af rfl);have HX:=hd_ hc0;have HL1:Hid (lab w.heap.size=0):=hd_ (h.q.lt _ (zG _));have HO:=hd_ ho;have HMA:=hd_ hma;clear h ho hma hc0;go_in;go_upto_region 1 with fail;generalize w.alloc (.cells #[U Z po,U .u64 ma,U Z ow,U Z ta,U Z ol,U Z ge,U Z ph,U Z ve,U Z si] 60)=w1 at*;generalize w.heap.size=Q0 at HB1 HL1⊢;have HNO:=hd_ (fO HK.out.q HO.out.wf HO.out.b HO.out.m 1 po ma ow ta ol ge ph ve si 0 0 (dO HO.out.wf (.inl rfl) (fun _=>HMA.out)));obtain⟨y0,y1,y2,y3,y4,y5,y6,y7,y8⟩:=aa HB1.out;go_wp2_with fail;refine HNO.out.mono ?_;rintro e w2 ⟨ps2,lab2,rfl,hk,hm⟩;have HCX:Hid (ao x ⟨1,⟨po,ma,ow,ta,ol,ge,ph,ve,si⟩,0,0⟩=cx x ⟨po,ma,ow,ta,ol,ge,ph,ve,si⟩):=hd_ rfl;rw[HCX.out];have HK2:=hd_ (HK.out.ofq17 hk hm (fun i=>by omega) (by decide) (j7 _ _));replace HB1:=hd_ (HB1.out.chg hm.1 (by rw[HL1.out];omega));have HMV:=hd_ ((am.of (N:=fun n=>1≤n∧n≤20) HX.out).trans (hm.mono (fun n e=>by omega)));clear hk hm HNO HK y0 y1 y2 y3 y4 y5 y6 y7 y8;by_cases he:cx x ⟨po,ma,ow,ta,ol,ge,ph,ve,si⟩=0
 ·have HE:=hd_ he;have HCK:Hid (bj x ⟨po,ma,ow,ta,ol,ge,ph,ve,si⟩=fk (aH x (av ⟨po,ma,ow,ta,ol,ge,ph,ve,si⟩)) ⟨po,ma,ow,ta,ol,ge,ph,ve,si⟩):=hd_ (if_pos he)
  have hok:RV.ok ⟨po,ma,ow,ta,ol,ge,ph,ve,si⟩=true:=by
   have h0:=he;unfold cx ao at h0
   split at h0
   ·rename_i hb;unfold bU at hb;rw[if_pos (show (av ⟨po,ma,ow,ta,ol,ge,ph,ve,si⟩).k=1 from rfl)]at hb;exact(dG hb).1
   ·rename_i hb;exact absurd h0 hb
  have HO2:=hd_ (HO.out.note (av ⟨po,ma,ow,ta,ol,ge,ph,ve,si⟩) (fun _=>HMA.out) (by show (0:Int)≤4294967296;decide));have HTE:=hd_ (qx HK2.out HO2.out.wf (fun i hi=>⟨(HO2.out.s i hi).len,(HO2.out.s i hi).pe0⟩) po ma ow ta ol ge ph ve si hok HMA.out);rw[he];clear he hok;obtain⟨y0,y1,y2,y3,y4,y5,y6,y7,y8⟩:=aa HB1.out;go_wp2_with fail;refine HTE.out.mono ?_;rintro e w3 ⟨rfl,lab3,hk,hm⟩;go_wp2_with fail;go_ret;refine⟨ps2,lab3,by rw[HE.out];rfl,?_,HMV.out.trans (hm.mono (fun n e=>by omega))⟩;rw[HCK.out];exact hk
 ·have te:(cx x ⟨po,ma,ow,ta,ol,ge,ph,ve,si⟩==0)=false:=by simpa using he
  have HNK:Hid (aH x ⟨1,⟨po,ma,ow,ta,ol,ge,ph,ve,si⟩,0,0⟩=x):=hd_ (if_neg he);have HCK:Hid (bj x ⟨po,ma,ow,ta,ol,ge,ph,ve,si⟩=x):=hd_ (if_neg he);clear he;generalize cx x ⟨po,ma,ow,ta,ol,ge,ph,ve,si⟩=er at*;go_wp2_with fail;go_ret;refine⟨ps2,lab2,rfl,?_,HMV.out⟩;have hk:=HK2.out;rw[HNK.out]at hk;rw[HCK.out];exact hk
end Go.Proofs.YtnojmbejedlilaaGreat
