/-
  Walks: control.putRow, putRecords. Conditions: the row, the records are read in memory, and may be.
-/
import Derived.Test.YtnojmbejedlilaaGreatKQM3
import Derived.Deep.RegionHeld3
import Derived.Deep.DeepCutAuto
import Derived.Deep.LoopGhost
import Derived.Test.YtnojmbejedlilaaGreatKQM1
import Derived.Laws.MakeOwn
import Derived.OwnWalk
set_option maxRecDepth 100000
set_option maxHeartbeats 40000000
set_option linter.unusedVariables false
set_option linter.unusedSimpArgs false
section
namespace Go.Proofs.YtnojmbejedlilaaGreat
open Go renaming wp_region_noPanic→Cr,wp_region_held_drew→Cs,wpAnyH_take→AY,bodyPost_ret→AW
open List renaming getElem_toArray→AZ,getElem_cons_succ→A7,getElem_cons_zero→A8,setIfInBounds_toArray→AQ,set_cons_zero→AS,set_cons_succ→AR,mem_cons→Cx,not_mem_nil→Cy,mem_singleton→Az,getElem?_eq_getElem→zM,all_eq_true→AJ,mem_of_getElem?→Be,take_of_length_le→Ax,eq_nil_of_length_eq_zero→zR,getElem?_toArray→Ap,getElem?_cons_zero→Aq,getElem?_cons_succ→Ar,all_cons→AT,getElem?_eq_some_iff→zS,length_append→zY,append_assoc→BY,append_nil→B0
open Go.NoPanic renaming normal→Cu
open Nat renaming zero_le→zP,le_refl→zG,le_succ→Cz
open Go.World renaming ownsRow_nil→As
open Bool renaming and_eq_true→AI,and_true→AV
open Option renaming some→AP
open Int renaming toNat_natCast→Al,sub_add_cancel→CA,add_sub_cancel→CB
open _root_.Array renaming size_setIfInBounds→CC
open Go.Value renaming int→U
open Go.IntKind renaming i64→Z
open Go.RowKit
theorem sd(po ma ow ta ol ge ph ve si:Int)(p N:Nat)(st:Option (List UInt8))(wB w:World)(hr:rwR po ma ow ta ol ge ph ve si=true)(hm:0≤ma)(hN:N≤1000)(hW:Wat wB p st N w):
  Calls Tryz.prog 224 #[.pointer (some ⟨p,0,none⟩),.agg (rvC po ma ow ta ol ge ph ve si)] w fun e w'=>e=.returned (.tuple #[])∧Wat wB p (py po ma ow ta ol ge ph ve si st) (N+72) w'∧Kp6 w w':=by
 obtain⟨h1,h2,h3,h4,h5,h6,h7,h8,h9⟩:=fs hr;have a1:IntKind.i64.wrap ma=ma:=bJ (by omega);have a2:IntKind.i64.wrap (ow+1)=ow+1:=bJ (by omega);have a3:IntKind.i64.wrap (ta+1)=ta+1:=bJ (by omega);have a4:IntKind.i64.wrap (ol+1)=ol+1:=bJ (by omega);clear hr;have HB0:Hid (Blk (w.alloc (.cells #[U Z po,U .u64 ma,U Z ow,U Z ta,U Z ol,U Z ge,U Z ph,U Z ve,U Z si] 60)) w.heap.size 60 (rvC po ma ow ta ol ge ph ve si)):=hd_ (af rfl);have HW0:=hd_ (hW.alloc (.cells #[U Z po,U .u64 ma,U Z ow,U Z ta,U Z ol,U Z ge,U Z ph,U Z ve,U Z si] 60));have HK0:=hd_ ((Kp6.refl w).alloc (.cells #[U Z po,U .u64 ma,U Z ow,U Z ta,U Z ol,U Z ge,U Z ph,U Z ve,U Z si] 60));clear hW;unfold rvC;go_in;go_upto_region 1 with fail;generalize w.alloc (.cells #[U Z po,U .u64 ma,U Z ow,U Z ta,U Z ol,U Z ge,U Z ph,U Z ve,U Z si] 60)=w0 at*;generalize w.heap.size=g at*
 go_cut [] (fun wx=>Wat wB p (ax 1 [ow+1,ta+1,ol+1,ph] (ax 6 [ma] (ax 1 [po] st))) (N+48) wx∧Blk wx g 60 (rvC po ma ow ta ol ge ph ve si)∧Kp6 w0 wx)
 case first=>
  refine Cr ?_;refine Cs (S:=(fun w=>w.cell? ⟨g,0,none⟩=some (U Z po)∧w.cell? ⟨g,1,none⟩=some (U .u64 ma)∧w.cell? ⟨g,2,none⟩=some (U Z ow)∧w.cell? ⟨g,3,none⟩=some (U Z ta)∧w.cell? ⟨g,4,none⟩=some (U Z ol)∧w.cell? ⟨g,5,none⟩=some (U Z ge)∧w.cell? ⟨g,6,none⟩=some (U Z ph)∧w.cell? ⟨g,7,none⟩=some (U Z ve)∧w.cell? ⟨g,8,none⟩=some (U Z si))) (by kernel_rfl) (by have hKK:=(And.intro HB0.out (Kp6.refl w0));exact aa hKK.1) (fun hHeld=>?_)
  iterate 5
   first
    |refine tk 0 (.pointer (some ⟨p,0,none⟩)) ?_ ?_
    |refine tk 1 (.pointer (some ⟨g,0,none⟩)) ?_ ?_
    |refine tk 2 (U Z po) ?_ ?_
    |refine tk 5 (.pointer (some ⟨g,1,none⟩)) ?_ ?_
    |refine tk 6 (U .u64 ma) ?_ ?_
   ·intro w' hSw;(try dsimp only at hSw);obtain⟨s0,s1,s2,s3,s4,s5,s6,s7,s8⟩:=hSw;go_simp;first|done|(with_reducible rfl)
   try simp only[AZ,A7,A8,Act.put,AQ,AS,AR]
  iterate 5
   first
    |refine tk 7 (U Z ma) ?_ ?_
    |refine tk 10 (.pointer (some ⟨g,2,none⟩)) ?_ ?_
    |refine tk 11 (U Z ow) ?_ ?_
    |refine tk 12 (U Z (ow+1)) ?_ ?_
    |refine tk 13 (.pointer (some ⟨g,3,none⟩)) ?_ ?_
   ·intro w' hSw;(try dsimp only at hSw);obtain⟨s0,s1,s2,s3,s4,s5,s6,s7,s8⟩:=hSw;go_simp;first|done|(with_reducible rfl)
   try simp only[AZ,A7,A8,Act.put,AQ,AS,AR]
  iterate 5
   first
    |refine tk 14 (U Z ta) ?_ ?_
    |refine tk 15 (U Z (ta+1)) ?_ ?_
    |refine tk 16 (.pointer (some ⟨g,4,none⟩)) ?_ ?_
    |refine tk 17 (U Z ol) ?_ ?_
    |refine tk 18 (U Z (ol+1)) ?_ ?_
   ·intro w' hSw;(try dsimp only at hSw);obtain⟨s0,s1,s2,s3,s4,s5,s6,s7,s8⟩:=hSw;go_simp;first|done|(with_reducible rfl)
   try simp only[AZ,A7,A8,Act.put,AQ,AS,AR]
  iterate 2
   first
    |refine tk 19 (.pointer (some ⟨g,6,none⟩)) ?_ ?_
    |refine tk 20 (U Z ph) ?_ ?_
   ·intro w' hSw;(try dsimp only at hSw);obtain⟨s0,s1,s2,s3,s4,s5,s6,s7,s8⟩:=hSw;go_simp;first|done|(with_reducible rfl)
   try simp only[AZ,A7,A8,Act.put,AQ,AS,AR]
  refine d_ (fun lb a w=>∃(b3 b4 b8 b9 b21 b22:Bool) (v7 v8 v12 v13 v25 v26:Value) (q7 q12 q25:Nat),lb=#[true,true,true,b3,b4,true,true,true,b8,b9,true,true,true,true,true,true,true,true,true,true,true,b21,b22]∧a={tmps:=#[.pointer (some ⟨p,0,none⟩),.agg #[U Z po,U .u64 ma,U Z ow,U Z ta,U Z ol,U Z ge,U Z ph,U Z ve,U Z si],undef,.pointer (some ⟨g,0,none⟩),.pointer (some ⟨p,0,none⟩),.pointer (some ⟨g,0,none⟩),U Z po,v7,v8,.pointer (some ⟨g,1,none⟩),U .u64 ma,U Z ma,v12,v13,.pointer (some ⟨g,2,none⟩),U Z ow,U Z (ow+1),.pointer (some ⟨g,3,none⟩),U Z ta,U Z (ta+1),.pointer (some ⟨g,4,none⟩),U Z ol,U Z (ol+1),.pointer (some ⟨g,6,none⟩),U Z ph,v25,v26,undef,undef,undef,undef,undef,undef,undef,undef,undef,undef,undef],defers:=[]}∧(Blk w g 60 (rvC po ma ow ta ol ge ph ve si)∧Kp6 w0 w)∧Ch wB w p true (.pointer (some ⟨p,0,none⟩)) (st) (N) [⟨b3,b4,v7,v8,q7,1,[po]⟩,⟨b8,b9,v12,v13,q12,6,[ma]⟩,⟨b21,b22,v25,v26,q25,1,[ow+1,ta+1,ol+1,ph]⟩]) ?hsz ?hS (by kernel_rfl) ?hend ?hops 6 #[true,true,true,false,false,true,true,true,false,false,true,true,true,true,true,true,true,true,true,true,true,false,false] _ _ (by decide) ?hstart
  case hsz=>
   rintro lb a w ⟨b3,b4,b8,b9,b21,b22,v7,v8,v12,v13,v25,v26,q7,q12,q25,rfl,rfl,hKK,hch⟩;rfl
  case hS=>
   rintro lb a w ⟨b3,b4,b8,b9,b21,b22,v7,v8,v12,v13,v25,v26,q7,q12,q25,rfl,rfl,hKK,hch⟩;exact aa hKK.1
  case hstart=>
   exact⟨false,false,false,false,false,false,_,_,_,_,_,_,0,0,0,rfl,rfl,(And.intro HB0.out (Kp6.refl w0)),⟨(fun _=>rfl),(fun h=>by cases h),(fun _=>rfl),(fun _ _=>HW0.out.drew),⟨(fun h=>by cases h),(fun h=>by cases h),(fun h=>by cases h),(fun h=>by cases h),⟨(fun h=>by cases h),(fun h=>by cases h),(fun h=>by cases h),(fun h=>by cases h),(fun h=>by cases h)⟩⟩⟩⟩
  case hops=>
   refine⟨?_,?_,?_,?_,?_,?_,?_,?_,?_,?_,?_,?_,?_,?_,?_,?_,?_,?_,?_,?_,?_,?_,?_,trivial⟩
   ·intro lb a w hI hun hdep K hK;obtain⟨b3,b4,b8,b9,b21,b22,v7,v8,v12,v13,v25,v26,q7,q12,q25,rfl,rfl,hKK,hch⟩:=hI;cases (show true=false from hun)
   ·intro lb a w hI hun hdep K hK;obtain⟨b3,b4,b8,b9,b21,b22,v7,v8,v12,v13,v25,v26,q7,q12,q25,rfl,rfl,hKK,hch⟩:=hI;cases (show true=false from hun)
   ·intro lb a w hI hun hdep K hK;obtain⟨b3,b4,b8,b9,b21,b22,v7,v8,v12,v13,v25,v26,q7,q12,q25,rfl,rfl,hKK,hch⟩:=hI;cases (show true=false from hun)
   ·intro lb a w hI hun hdep K hK;obtain⟨b3,b4,b8,b9,b21,b22,v7,v8,v12,v13,v25,v26,q7,q12,q25,rfl,rfl,hKK,hch⟩:=hI;have hb:b3=false:=hun;subst hb;have HCH:=hd_ hch;have HKK:=hd_ hKK;clear hch hKK hdep;go_simp;refine hK.out _ _ ?_;exact⟨true,b4,b8,b9,b21,b22,_,_,_,_,_,_,w.heap.size,q12,q25,rfl,rfl,(by have hKK:=HKK.out;exact⟨hKK.1.alloc _,hKK.2.alloc _⟩),Ch.lay ((Chg.refl _ _).alloc _) w.heap.size ⟨false,b4,v7,v8,q7,1,[po]⟩ [⟨b8,b9,v12,v13,q12,6,[ma]⟩,⟨b21,b22,v25,v26,q25,1,[ow+1,ta+1,ol+1,ph]⟩] (af rfl) [] _ _ _ _ HCH.out⟩
   ·intro lb a w hI hun hdep K hK;obtain⟨b3,b4,b8,b9,b21,b22,v7,v8,v12,v13,v25,v26,q7,q12,q25,rfl,rfl,hKK,hch⟩:=hI;have hb:b4=false:=hun;subst hb;have ha:b3=true:=hdep ⟨3,.data⟩ (by simp) rfl;subst ha;obtain⟨e1,e2,hblk,hwat⟩:=Ch.find ⟨true,false,v7,v8,q7,1,[po]⟩ [⟨b8,b9,v12,v13,q12,6,[ma]⟩,⟨b21,b22,v25,v26,q25,1,[ow+1,ta+1,ol+1,ph]⟩] rfl rfl [] _ _ _ _ hch rfl;have e2:v7=.slice (some ⟨q7,0,none⟩) 1 1:=e2;subst e2;have HPUT:=hd_ (bI p q7 _ 1 [po] _ wB w hwat hblk (fun x hx=>by simp only[Cx,Cy,or_false]at hx;subst hx;omega) (by simp[nOf];omega));have HCH:=hd_ hch;have HKK:=hd_ hKK;clear hch hKK hdep hwat hblk e1;go_simp;refine HPUT.out.mono ?_;rintro e w' ⟨rfl,hw',hk'⟩;go_wp2_with fail;refine hK.out _ _ ?_;exact⟨true,true,b8,b9,b21,b22,_,_,_,_,_,_,q7,q12,q25,rfl,rfl,(by have hKK:=HKK.out;exact⟨hk' _ _ _ (by decide) (by decide) hKK.1,hKK.2.trans hk'⟩),Ch.call hk'.kp ⟨true,false,(.slice (some ⟨q7,0,none⟩) 1 1),v8,q7,1,[po]⟩ [⟨b8,b9,v12,v13,q12,6,[ma]⟩,⟨b21,b22,v25,v26,q25,1,[ow+1,ta+1,ol+1,ph]⟩] rfl [] _ _ _ _ HCH.out rfl hw'⟩
   ·intro lb a w hI hun hdep K hK;obtain⟨b3,b4,b8,b9,b21,b22,v7,v8,v12,v13,v25,v26,q7,q12,q25,rfl,rfl,hKK,hch⟩:=hI;cases (show true=false from hun)
   ·intro lb a w hI hun hdep K hK;obtain⟨b3,b4,b8,b9,b21,b22,v7,v8,v12,v13,v25,v26,q7,q12,q25,rfl,rfl,hKK,hch⟩:=hI;cases (show true=false from hun)
   ·intro lb a w hI hun hdep K hK;obtain⟨b3,b4,b8,b9,b21,b22,v7,v8,v12,v13,v25,v26,q7,q12,q25,rfl,rfl,hKK,hch⟩:=hI;cases (show true=false from hun)
   ·intro lb a w hI hun hdep K hK;obtain⟨b3,b4,b8,b9,b21,b22,v7,v8,v12,v13,v25,v26,q7,q12,q25,rfl,rfl,hKK,hch⟩:=hI;have hb:b8=false:=hun;subst hb;have HCH:=hd_ hch;have HKK:=hd_ hKK;clear hch hKK hdep;go_simp;refine hK.out _ _ ?_;exact⟨b3,b4,true,b9,b21,b22,_,_,_,_,_,_,q7,w.heap.size,q25,rfl,rfl,(by have hKK:=HKK.out;exact⟨hKK.1.alloc _,hKK.2.alloc _⟩),Ch.lay ((Chg.refl _ _).alloc _) w.heap.size ⟨false,b9,v12,v13,q12,6,[ma]⟩ [⟨b21,b22,v25,v26,q25,1,[ow+1,ta+1,ol+1,ph]⟩] (af rfl) [⟨b3,b4,v7,v8,q7,1,[po]⟩] _ _ _ _ HCH.out⟩
   ·intro lb a w hI hun hdep K hK;obtain⟨b3,b4,b8,b9,b21,b22,v7,v8,v12,v13,v25,v26,q7,q12,q25,rfl,rfl,hKK,hch⟩:=hI;have hb:b9=false:=hun;subst hb;have ha:b8=true:=hdep ⟨8,.data⟩ (by simp) rfl;subst ha;have hp:b4=true:=hdep ⟨4,.data⟩ (by simp) rfl;subst hp;obtain⟨e1,e2,hblk,hwat⟩:=Ch.find ⟨true,false,v12,v13,q12,6,[ma]⟩ [⟨b21,b22,v25,v26,q25,1,[ow+1,ta+1,ol+1,ph]⟩] rfl rfl [⟨b3,true,v7,v8,q7,1,[po]⟩] _ _ _ _ hch rfl;have e1:v8=(.pointer (some ⟨p,0,none⟩)):=e1;subst e1;have e2:v12=.slice (some ⟨q12,0,none⟩) 1 1:=e2;subst e2;have HPUT:=hd_ (bI p q12 _ 6 [ma] _ wB w hwat hblk (fun x hx=>by simp only[Cx,Cy,or_false]at hx;subst hx;omega) (by simp[nOf];omega));have HCH:=hd_ hch;have HKK:=hd_ hKK;clear hch hKK hdep hwat hblk;go_simp;refine HPUT.out.mono ?_;rintro e w' ⟨rfl,hw',hk'⟩;go_wp2_with fail;refine hK.out _ _ ?_;exact⟨b3,true,true,true,b21,b22,_,_,_,_,_,_,q7,q12,q25,rfl,rfl,(by have hKK:=HKK.out;exact⟨hk' _ _ _ (by decide) (by decide) hKK.1,hKK.2.trans hk'⟩),Ch.call hk'.kp ⟨true,false,(.slice (some ⟨q12,0,none⟩) 1 1),v13,q12,6,[ma]⟩ [⟨b21,b22,v25,v26,q25,1,[ow+1,ta+1,ol+1,ph]⟩] rfl [⟨b3,true,v7,(.pointer (some ⟨p,0,none⟩)),q7,1,[po]⟩] _ _ _ _ HCH.out rfl hw'⟩
   ·intro lb a w hI hun hdep K hK;obtain⟨b3,b4,b8,b9,b21,b22,v7,v8,v12,v13,v25,v26,q7,q12,q25,rfl,rfl,hKK,hch⟩:=hI;cases (show true=false from hun)
   ·intro lb a w hI hun hdep K hK;obtain⟨b3,b4,b8,b9,b21,b22,v7,v8,v12,v13,v25,v26,q7,q12,q25,rfl,rfl,hKK,hch⟩:=hI;cases (show true=false from hun)
   ·intro lb a w hI hun hdep K hK;obtain⟨b3,b4,b8,b9,b21,b22,v7,v8,v12,v13,v25,v26,q7,q12,q25,rfl,rfl,hKK,hch⟩:=hI;cases (show true=false from hun)
   ·intro lb a w hI hun hdep K hK;obtain⟨b3,b4,b8,b9,b21,b22,v7,v8,v12,v13,v25,v26,q7,q12,q25,rfl,rfl,hKK,hch⟩:=hI;cases (show true=false from hun)
   ·intro lb a w hI hun hdep K hK;obtain⟨b3,b4,b8,b9,b21,b22,v7,v8,v12,v13,v25,v26,q7,q12,q25,rfl,rfl,hKK,hch⟩:=hI;cases (show true=false from hun)
   ·intro lb a w hI hun hdep K hK;obtain⟨b3,b4,b8,b9,b21,b22,v7,v8,v12,v13,v25,v26,q7,q12,q25,rfl,rfl,hKK,hch⟩:=hI;cases (show true=false from hun)
   ·intro lb a w hI hun hdep K hK;obtain⟨b3,b4,b8,b9,b21,b22,v7,v8,v12,v13,v25,v26,q7,q12,q25,rfl,rfl,hKK,hch⟩:=hI;cases (show true=false from hun)
   ·intro lb a w hI hun hdep K hK;obtain⟨b3,b4,b8,b9,b21,b22,v7,v8,v12,v13,v25,v26,q7,q12,q25,rfl,rfl,hKK,hch⟩:=hI;cases (show true=false from hun)
   ·intro lb a w hI hun hdep K hK;obtain⟨b3,b4,b8,b9,b21,b22,v7,v8,v12,v13,v25,v26,q7,q12,q25,rfl,rfl,hKK,hch⟩:=hI;cases (show true=false from hun)
   ·intro lb a w hI hun hdep K hK;obtain⟨b3,b4,b8,b9,b21,b22,v7,v8,v12,v13,v25,v26,q7,q12,q25,rfl,rfl,hKK,hch⟩:=hI;cases (show true=false from hun)
   ·intro lb a w hI hun hdep K hK;obtain⟨b3,b4,b8,b9,b21,b22,v7,v8,v12,v13,v25,v26,q7,q12,q25,rfl,rfl,hKK,hch⟩:=hI;cases (show true=false from hun)
   ·intro lb a w hI hun hdep K hK;obtain⟨b3,b4,b8,b9,b21,b22,v7,v8,v12,v13,v25,v26,q7,q12,q25,rfl,rfl,hKK,hch⟩:=hI;have hb:b21=false:=hun;subst hb;have HCH:=hd_ hch;have HKK:=hd_ hKK;clear hch hKK hdep;go_simp;refine hK.out _ _ ?_;exact⟨b3,b4,b8,b9,true,b22,_,_,_,_,_,_,q7,q12,w.heap.size,rfl,rfl,(by have hKK:=HKK.out;exact⟨hKK.1.alloc _,hKK.2.alloc _⟩),Ch.lay ((Chg.refl _ _).alloc _) w.heap.size ⟨false,b22,v25,v26,q25,1,[ow+1,ta+1,ol+1,ph]⟩ [] (af rfl) [⟨b3,b4,v7,v8,q7,1,[po]⟩,⟨b8,b9,v12,v13,q12,6,[ma]⟩] _ _ _ _ HCH.out⟩
   ·intro lb a w hI hun hdep K hK;obtain⟨b3,b4,b8,b9,b21,b22,v7,v8,v12,v13,v25,v26,q7,q12,q25,rfl,rfl,hKK,hch⟩:=hI;have hb:b22=false:=hun;subst hb;have ha:b21=true:=hdep ⟨21,.data⟩ (by simp) rfl;subst ha;have hp:b9=true:=hdep ⟨9,.data⟩ (by simp) rfl;subst hp;obtain⟨e1,e2,hblk,hwat⟩:=Ch.find ⟨true,false,v25,v26,q25,1,[ow+1,ta+1,ol+1,ph]⟩ [] rfl rfl [⟨b3,b4,v7,v8,q7,1,[po]⟩,⟨b8,true,v12,v13,q12,6,[ma]⟩] _ _ _ _ hch rfl;have e1:v13=(.pointer (some ⟨p,0,none⟩)):=e1;subst e1;have e2:v25=.slice (some ⟨q25,0,none⟩) 4 4:=e2;subst e2;have HPUT:=hd_ (bI p q25 _ 1 [ow+1,ta+1,ol+1,ph] _ wB w hwat hblk (fun x hx=>by simp only[Cx,Cy,or_false]at hx;rcases hx with rfl|rfl|rfl|rfl<;>omega) (by simp[nOf];omega));have HCH:=hd_ hch;have HKK:=hd_ hKK;clear hch hKK hdep hwat hblk;go_simp;refine HPUT.out.mono ?_;rintro e w' ⟨rfl,hw',hk'⟩;go_wp2_with fail;refine hK.out _ _ ?_;exact⟨b3,b4,b8,true,true,true,_,_,_,_,_,_,q7,q12,q25,rfl,rfl,(by have hKK:=HKK.out;exact⟨hk' _ _ _ (by decide) (by decide) hKK.1,hKK.2.trans hk'⟩),Ch.call hk'.kp ⟨true,false,(.slice (some ⟨q25,0,none⟩) 4 4),v26,q25,1,[ow+1,ta+1,ol+1,ph]⟩ [] rfl [⟨b3,b4,v7,v8,q7,1,[po]⟩,⟨b8,true,v12,(.pointer (some ⟨p,0,none⟩)),q12,6,[ma]⟩] _ _ _ _ HCH.out rfl hw'⟩
  case hend=>
   rintro lb a w ⟨b3,b4,b8,b9,b21,b22,v7,v8,v12,v13,v25,v26,q7,q12,q25,rfl,rfl,hKK,hch⟩ hall;have e9:b22=true:=hall 22 (by decide);subst e9;obtain⟨e1,hw⟩:=Ch.last [⟨b3,b4,v7,v8,q7,1,[po]⟩,⟨b8,b9,v12,v13,q12,6,[ma]⟩,⟨b21,true,v25,v26,q25,1,[ow+1,ta+1,ol+1,ph]⟩] _ _ _ _ hch rfl;have e1:v26=(.pointer (some ⟨p,0,none⟩)):=e1;subst e1;clear hch;refine Cu ?_;go_wp2_with fail
   go_meet
   exact⟨hw,hKK⟩
 obtain⟨hwx,hkx⟩:=hcut;have HWx:=hd_ hwx;have HKx:=hd_ hkx;clear hwx hkx;go_upto_region 2 with fail;refine Cr ?_;refine Cs (S:=(fun w=>w.cell? ⟨g,0,none⟩=some (U Z po)∧w.cell? ⟨g,1,none⟩=some (U .u64 ma)∧w.cell? ⟨g,2,none⟩=some (U Z ow)∧w.cell? ⟨g,3,none⟩=some (U Z ta)∧w.cell? ⟨g,4,none⟩=some (U Z ol)∧w.cell? ⟨g,5,none⟩=some (U Z ge)∧w.cell? ⟨g,6,none⟩=some (U Z ph)∧w.cell? ⟨g,7,none⟩=some (U Z ve)∧w.cell? ⟨g,8,none⟩=some (U Z si))) (by kernel_rfl) (by have hKK:=HKx.out;exact aa hKK.1) (fun hHeld=>?_)
 iterate 5
  first
   |refine tk 0 (.pointer (some ⟨p,0,none⟩)) ?_ ?_
   |refine tk 1 (.pointer (some ⟨g,5,none⟩)) ?_ ?_
   |refine tk 2 (U Z ge) ?_ ?_
   |refine tk 5 (.pointer (some ⟨g,7,none⟩)) ?_ ?_
   |refine tk 6 (U Z ve) ?_ ?_
  ·intro w' hSw;(try dsimp only at hSw);obtain⟨s0,s1,s2,s3,s4,s5,s6,s7,s8⟩:=hSw;go_simp;first|done|(with_reducible rfl)
  try simp only[AZ,A7,A8,Act.put,AQ,AS,AR]
 iterate 2
  first
   |refine tk 7 (.pointer (some ⟨g,8,none⟩)) ?_ ?_
   |refine tk 8 (U Z si) ?_ ?_
  ·intro w' hSw;(try dsimp only at hSw);obtain⟨s0,s1,s2,s3,s4,s5,s6,s7,s8⟩:=hSw;go_simp;first|done|(with_reducible rfl)
  try simp only[AZ,A7,A8,Act.put,AQ,AS,AR]
 refine d_ (fun lb a w=>∃(b3 b4 b9 b10:Bool) (v30 v31 v36 v37:Value) (q30 q36:Nat),lb=#[true,true,true,b3,b4,true,true,true,true,b9,b10]∧a={tmps:=#[.pointer (some ⟨p,0,none⟩),.agg #[U Z po,U .u64 ma,U Z ow,U Z ta,U Z ol,U Z ge,U Z ph,U Z ve,U Z si],undef,.pointer (some ⟨g,0,none⟩),u4,u5,u6,u7,u8,u9,u10,u11,u12,u13,u14,u15,u16,u17,u18,u19,u20,u21,u22,u23,u24,u25,u26,.pointer (some ⟨p,0,none⟩),.pointer (some ⟨g,5,none⟩),U Z ge,v30,v31,.pointer (some ⟨g,7,none⟩),U Z ve,.pointer (some ⟨g,8,none⟩),U Z si,v36,v37],defers:=[]}∧(Blk w g 60 (rvC po ma ow ta ol ge ph ve si)∧Kp6 w0 w)∧Ch wB w p true (.pointer (some ⟨p,0,none⟩)) (ax 1 [ow+1,ta+1,ol+1,ph] (ax 6 [ma] (ax 1 [po] st))) (N+48) [⟨b3,b4,v30,v31,q30,5,[ge]⟩,⟨b9,b10,v36,v37,q36,6,[ve,si]⟩]) ?hsz ?hS (by kernel_rfl) ?hend ?hops 4 #[true,true,true,false,false,true,true,true,true,false,false] _ _ (by decide) ?hstart
 case hsz=>
  rintro lb a w ⟨b3,b4,b9,b10,v30,v31,v36,v37,q30,q36,rfl,rfl,hKK,hch⟩;rfl
 case hS=>
  rintro lb a w ⟨b3,b4,b9,b10,v30,v31,v36,v37,q30,q36,rfl,rfl,hKK,hch⟩;exact aa hKK.1
 case hstart=>
  exact⟨false,false,false,false,_,_,_,_,0,0,rfl,rfl,HKx.out,⟨(fun _=>rfl),(fun h=>by cases h),(fun _=>rfl),(fun _ _=>HWx.out.drew),⟨(fun h=>by cases h),(fun h=>by cases h),(fun h=>by cases h),(fun h=>by cases h),(fun h=>by cases h)⟩⟩⟩
 case hops=>
  refine⟨?_,?_,?_,?_,?_,?_,?_,?_,?_,?_,?_,trivial⟩
  ·intro lb a w hI hun hdep K hK;obtain⟨b3,b4,b9,b10,v30,v31,v36,v37,q30,q36,rfl,rfl,hKK,hch⟩:=hI;cases (show true=false from hun)
  ·intro lb a w hI hun hdep K hK;obtain⟨b3,b4,b9,b10,v30,v31,v36,v37,q30,q36,rfl,rfl,hKK,hch⟩:=hI;cases (show true=false from hun)
  ·intro lb a w hI hun hdep K hK;obtain⟨b3,b4,b9,b10,v30,v31,v36,v37,q30,q36,rfl,rfl,hKK,hch⟩:=hI;cases (show true=false from hun)
  ·intro lb a w hI hun hdep K hK;obtain⟨b3,b4,b9,b10,v30,v31,v36,v37,q30,q36,rfl,rfl,hKK,hch⟩:=hI;have hb:b3=false:=hun;subst hb;have HCH:=hd_ hch;have HKK:=hd_ hKK;clear hch hKK hdep;go_simp;refine hK.out _ _ ?_;exact⟨true,b4,b9,b10,_,_,_,_,w.heap.size,q36,rfl,rfl,(by have hKK:=HKK.out;exact⟨hKK.1.alloc _,hKK.2.alloc _⟩),Ch.lay ((Chg.refl _ _).alloc _) w.heap.size ⟨false,b4,v30,v31,q30,5,[ge]⟩ [⟨b9,b10,v36,v37,q36,6,[ve,si]⟩] (af rfl) [] _ _ _ _ HCH.out⟩
  ·intro lb a w hI hun hdep K hK;obtain⟨b3,b4,b9,b10,v30,v31,v36,v37,q30,q36,rfl,rfl,hKK,hch⟩:=hI;have hb:b4=false:=hun;subst hb;have ha:b3=true:=hdep ⟨3,.data⟩ (by simp) rfl;subst ha;obtain⟨e1,e2,hblk,hwat⟩:=Ch.find ⟨true,false,v30,v31,q30,5,[ge]⟩ [⟨b9,b10,v36,v37,q36,6,[ve,si]⟩] rfl rfl [] _ _ _ _ hch rfl;have e2:v30=.slice (some ⟨q30,0,none⟩) 1 1:=e2;subst e2;have HPUT:=hd_ (bI p q30 _ 5 [ge] _ wB w hwat hblk (fun x hx=>by simp only[Cx,Cy,or_false]at hx;subst hx;omega) (by simp[nOf];omega));have HCH:=hd_ hch;have HKK:=hd_ hKK;clear hch hKK hdep hwat hblk e1;go_simp;refine HPUT.out.mono ?_;rintro e w' ⟨rfl,hw',hk'⟩;go_wp2_with fail;refine hK.out _ _ ?_;exact⟨true,true,b9,b10,_,_,_,_,q30,q36,rfl,rfl,(by have hKK:=HKK.out;exact⟨hk' _ _ _ (by decide) (by decide) hKK.1,hKK.2.trans hk'⟩),Ch.call hk'.kp ⟨true,false,(.slice (some ⟨q30,0,none⟩) 1 1),v31,q30,5,[ge]⟩ [⟨b9,b10,v36,v37,q36,6,[ve,si]⟩] rfl [] _ _ _ _ HCH.out rfl hw'⟩
  ·intro lb a w hI hun hdep K hK;obtain⟨b3,b4,b9,b10,v30,v31,v36,v37,q30,q36,rfl,rfl,hKK,hch⟩:=hI;cases (show true=false from hun)
  ·intro lb a w hI hun hdep K hK;obtain⟨b3,b4,b9,b10,v30,v31,v36,v37,q30,q36,rfl,rfl,hKK,hch⟩:=hI;cases (show true=false from hun)
  ·intro lb a w hI hun hdep K hK;obtain⟨b3,b4,b9,b10,v30,v31,v36,v37,q30,q36,rfl,rfl,hKK,hch⟩:=hI;cases (show true=false from hun)
  ·intro lb a w hI hun hdep K hK;obtain⟨b3,b4,b9,b10,v30,v31,v36,v37,q30,q36,rfl,rfl,hKK,hch⟩:=hI;cases (show true=false from hun)
  ·intro lb a w hI hun hdep K hK;obtain⟨b3,b4,b9,b10,v30,v31,v36,v37,q30,q36,rfl,rfl,hKK,hch⟩:=hI;have hb:b9=false:=hun;subst hb;have HCH:=hd_ hch;have HKK:=hd_ hKK;clear hch hKK hdep;go_simp;refine hK.out _ _ ?_;exact⟨b3,b4,true,b10,_,_,_,_,q30,w.heap.size,rfl,rfl,(by have hKK:=HKK.out;exact⟨hKK.1.alloc _,hKK.2.alloc _⟩),Ch.lay ((Chg.refl _ _).alloc _) w.heap.size ⟨false,b10,v36,v37,q36,6,[ve,si]⟩ [] (af rfl) [⟨b3,b4,v30,v31,q30,5,[ge]⟩] _ _ _ _ HCH.out⟩
  ·intro lb a w hI hun hdep K hK;obtain⟨b3,b4,b9,b10,v30,v31,v36,v37,q30,q36,rfl,rfl,hKK,hch⟩:=hI;have hb:b10=false:=hun;subst hb;have ha:b9=true:=hdep ⟨9,.data⟩ (by simp) rfl;subst ha;have hp:b4=true:=hdep ⟨4,.data⟩ (by simp) rfl;subst hp;obtain⟨e1,e2,hblk,hwat⟩:=Ch.find ⟨true,false,v36,v37,q36,6,[ve,si]⟩ [] rfl rfl [⟨b3,true,v30,v31,q30,5,[ge]⟩] _ _ _ _ hch rfl;have e1:v31=(.pointer (some ⟨p,0,none⟩)):=e1;subst e1;have e2:v36=.slice (some ⟨q36,0,none⟩) 2 2:=e2;subst e2;have HPUT:=hd_ (bI p q36 _ 6 [ve,si] _ wB w hwat hblk (fun x hx=>by simp only[Cx,Cy,or_false]at hx;rcases hx with rfl|rfl<;>omega) (by simp[nOf];omega));have HCH:=hd_ hch;have HKK:=hd_ hKK;clear hch hKK hdep hwat hblk;go_simp;refine HPUT.out.mono ?_;rintro e w' ⟨rfl,hw',hk'⟩;go_wp2_with fail;refine hK.out _ _ ?_;exact⟨b3,true,true,true,_,_,_,_,q30,q36,rfl,rfl,(by have hKK:=HKK.out;exact⟨hk' _ _ _ (by decide) (by decide) hKK.1,hKK.2.trans hk'⟩),Ch.call hk'.kp ⟨true,false,(.slice (some ⟨q36,0,none⟩) 2 2),v37,q36,6,[ve,si]⟩ [] rfl [⟨b3,true,v30,(.pointer (some ⟨p,0,none⟩)),q30,5,[ge]⟩] _ _ _ _ HCH.out rfl hw'⟩
 case hend=>
  rintro lb a w ⟨b3,b4,b9,b10,v30,v31,v36,v37,q30,q36,rfl,rfl,hKK,hch⟩ hall;have e9:b10=true:=hall 10 (by decide);subst e9;obtain⟨e1,hw⟩:=Ch.last [⟨b3,b4,v30,v31,q30,5,[ge]⟩,⟨b9,true,v36,v37,q36,6,[ve,si]⟩] _ _ _ _ hch rfl;have e1:v37=(.pointer (some ⟨p,0,none⟩)):=e1;subst e1;clear hch;refine Cu ?_;go_wp2_with fail;exact bodyPost_end (results_none rfl _ _ _) rfl ⟨rfl,hw,(HK0.out.trans hKK.2)⟩
theorem p_(p N:Nat)(L:Option Addr)(m c:Nat)(l:List Rc)(S:Nat→Prop)(st:Option (List UInt8))(wB w:World)(h:RcR wB S L m l)(hall:l.all rcR=true)(hn:∀x∈l,RcN x)(hm:m≤16)(hN:N≤1000)(hW:Wat wB p st N w):
  Calls Tryz.prog 225 #[.pointer (some ⟨p,0,none⟩),.slice L m c] w fun e w'=>e=.returned (.tuple #[])∧Wat wB p (ey l (ax 1 [(m:Int)] st)) (N+8+48*m) w'∧Kp6 w w':=by
 have HALL:=hd_ hall;have HN:=hd_ hn;have HL:=hd_ h.1;have HH:=hd_ h;have HPUT:=hd_ (bI p w.heap.size N 1 [(m:Int)] st wB (w.alloc (.cells #[U Z (m:Int)] 3)) (hW.alloc _) (af rfl) (fun x hx=>by simp only[Az]at hx;subst hx;omega) (by simp;omega));have HK0:=hd_ ((Kp6.refl w).alloc (.cells #[U Z (m:Int)] 3));clear h hall hn hW;go_in;go_wp2_with fail;refine HPUT.out.mono ?_;rintro e w1 ⟨rfl,hw1,hk1⟩;have HW1:Hid (Wat wB p (ax 1 [(m:Int)] st) (N+8) w1):=hd_ hw1;have HK1:=hd_ (HK0.out.trans hk1);clear hw1 hk1 HPUT HK0;go_wp2_with fail
 go_loopg [5,13] m (fun g s5 i wr=>∃j:Nat,g=m-j∧j≤m∧i=U Z (j:Int)∧Hid (Wat wB p (ey (l.take j) (ax 1 [(m:Int)] st)) (N+8+48*j) wr)∧Hid (Kp6 w wr))
 case atStart=>exact⟨0,rfl,zP _,rfl,HW1,HK1⟩
 case round=>
  obtain⟨j,rfl,hj,rfl,HW,HK⟩:=hrel;by_cases hlt:j<m
  ·have hh:=HH.out.chg HW.out.was (fun _ _=>id);obtain⟨ad,rfl,_,_,_⟩:=hh.2 (by omega)
   have hjl:j<l.length:=by have:=HL.out;omega
   have hx:l[j]?=some l[j]:=zM hjl;generalize l[j]=x at*;obtain⟨z0,z1,z2,z3,z4,z5⟩:=hh.at hx;have HX:=hd_ hx;have hxr:rcR x=true:=AJ.1 HALL.out x (Be hx);have hxn:=HN.out x (Be hx);obtain⟨hp1,hp2,hp3,hp4⟩:=eI hxr;obtain⟨hp5,hp6⟩:=hxn;clear hx hh hxr;obtain⟨pr,sr,ds,sp,dp,un⟩:=x;dsimp only at z0 z1 z2 z3 z4 z5 hp1 hp2 hp3 hp4 hp5 hp6;have a1:IntKind.i64.wrap sr=sr:=bJ (by omega);have a2:IntKind.i64.wrap ds=ds:=bJ (by omega);have HB0:Hid (Blk (wr.alloc (.cells #[U Z pr,U .u32 sr,U .u32 ds,U Z sp,U Z dp,U Z un] 219)) wr.heap.size 219 (rcC pr sr ds sp dp un)):=hd_ (af rfl);have HW0:=hd_ (HW.out.alloc (.cells #[U Z pr,U .u32 sr,U .u32 ds,U Z sp,U Z dp,U Z un] 219));have HK0:=hd_ (HK.out.alloc (.cells #[U Z pr,U .u32 sr,U .u32 ds,U Z sp,U Z dp,U Z un] 219));clear HW HK;go_upto_region 4 with fail;generalize wr.alloc (.cells #[U Z pr,U .u32 sr,U .u32 ds,U Z sp,U Z dp,U Z un] 219)=w0 at*;generalize wr.heap.size=g at*;generalize w.heap.size=gw at*
   go_cut [] (fun wx=>Wat wB p (ax 4 [sr,ds] (ax 1 [pr] (ey (l.take j) (ax 1 [(m:Int)] st)))) (N+8+48*j+24) wx∧Blk wx g 219 (rcC pr sr ds sp dp un)∧Kp6 w0 wx)
   case first=>
    refine Cr ?_;refine Cs (S:=(fun w=>w.cell? ⟨g,0,none⟩=some (U Z pr)∧w.cell? ⟨g,1,none⟩=some (U .u32 sr)∧w.cell? ⟨g,2,none⟩=some (U .u32 ds)∧w.cell? ⟨g,3,none⟩=some (U Z sp)∧w.cell? ⟨g,4,none⟩=some (U Z dp)∧w.cell? ⟨g,5,none⟩=some (U Z un))) (by kernel_rfl) (by have hKK:=(And.intro HB0.out (Kp6.refl w0));exact bH hKK.1) (fun hHeld=>?_)
    iterate 5
     first
      |refine tk 0 (.pointer (some ⟨p,0,none⟩)) ?_ ?_
      |refine tk 1 (.pointer (some ⟨g,0,none⟩)) ?_ ?_
      |refine tk 2 (.pointer (some ⟨g,0,none⟩)) ?_ ?_
      |refine tk 3 (U Z pr) ?_ ?_
      |refine tk 6 (.pointer (some ⟨g,0,none⟩)) ?_ ?_
     ·intro w' hSw;(try dsimp only at hSw);obtain⟨s0,s1,s2,s3,s4,s5⟩:=hSw;go_simp;first|done|(with_reducible rfl)
     try simp only[AZ,A7,A8,Act.put,AQ,AS,AR]
    iterate 5
     first
      |refine tk 7 (.pointer (some ⟨g,1,none⟩)) ?_ ?_
      |refine tk 8 (U .u32 sr) ?_ ?_
      |refine tk 9 (U Z sr) ?_ ?_
      |refine tk 10 (.pointer (some ⟨g,0,none⟩)) ?_ ?_
      |refine tk 11 (.pointer (some ⟨g,2,none⟩)) ?_ ?_
     ·intro w' hSw;(try dsimp only at hSw);obtain⟨s0,s1,s2,s3,s4,s5⟩:=hSw;go_simp;first|done|(with_reducible rfl)
     try simp only[AZ,A7,A8,Act.put,AQ,AS,AR]
    iterate 2
     first
      |refine tk 12 (U .u32 ds) ?_ ?_
      |refine tk 13 (U Z ds) ?_ ?_
     ·intro w' hSw;(try dsimp only at hSw);obtain⟨s0,s1,s2,s3,s4,s5⟩:=hSw;go_simp;first|done|(with_reducible rfl)
     try simp only[AZ,A7,A8,Act.put,AQ,AS,AR]
    refine d_ (fun lb a w=>∃(b4 b5 b14 b15:Bool) (v21 v22 v31 v32:Value) (q21 q31:Nat),lb=#[true,true,true,true,b4,b5,true,true,true,true,true,true,true,true,b14,b15]∧a={tmps:=#[.pointer (some ⟨p,0,none⟩),.slice (some ad) m c,undef,undef,undef,.pointer (some ⟨g,0,none⟩),.pointer (some ⟨p,0,none⟩),.slice (some ad) m c,U Z (m:Int),.slice (some ⟨gw,0,none⟩) 1 1,.pointer (some ⟨p,0,none⟩),.slice (some ad) m c,U Z (m:Int),U Z (j:Int),.bool true,.pointer (some (ad.add (j*6))),.agg #[U Z pr,U .u32 sr,U .u32 ds,U Z sp,U Z dp,U Z un],.pointer (some ⟨p,0,none⟩),.pointer (some ⟨g,0,none⟩),.pointer (some ⟨g,0,none⟩),U Z pr,v21,v22,.pointer (some ⟨g,0,none⟩),.pointer (some ⟨g,1,none⟩),U .u32 sr,U Z sr,.pointer (some ⟨g,0,none⟩),.pointer (some ⟨g,2,none⟩),U .u32 ds,U Z ds,v31,v32,u33,u34,u35,u36,u37,u38,u39,u40,u41,u42,u43,u44,u45,u46],defers:=[]}∧(Blk w g 219 (rcC pr sr ds sp dp un)∧Kp6 w0 w)∧Ch wB w p true (.pointer (some ⟨p,0,none⟩)) (ey (l.take j) (ax 1 [(m:Int)] st)) (N+8+48*j) [⟨b4,b5,v21,v22,q21,1,[pr]⟩,⟨b14,b15,v31,v32,q31,4,[sr,ds]⟩]) ?hsz ?hS (by kernel_rfl) ?hend ?hops 4 #[true,true,true,true,false,false,true,true,true,true,true,true,true,true,false,false] _ _ (by decide) ?hstart
    case hsz=>
     rintro lb a w ⟨b4,b5,b14,b15,v21,v22,v31,v32,q21,q31,rfl,rfl,hKK,hch⟩;rfl
    case hS=>
     rintro lb a w ⟨b4,b5,b14,b15,v21,v22,v31,v32,q21,q31,rfl,rfl,hKK,hch⟩;exact bH hKK.1
    case hstart=>
     exact⟨false,false,false,false,_,_,_,_,0,0,rfl,rfl,(And.intro HB0.out (Kp6.refl w0)),⟨(fun _=>rfl),(fun h=>by cases h),(fun _=>rfl),(fun _ _=>HW0.out.drew),⟨(fun h=>by cases h),(fun h=>by cases h),(fun h=>by cases h),(fun h=>by cases h),(fun h=>by cases h)⟩⟩⟩
    case hops=>
     refine⟨?_,?_,?_,?_,?_,?_,?_,?_,?_,?_,?_,?_,?_,?_,?_,?_,trivial⟩
     ·intro lb a w hI hun hdep K hK;obtain⟨b4,b5,b14,b15,v21,v22,v31,v32,q21,q31,rfl,rfl,hKK,hch⟩:=hI;cases (show true=false from hun)
     ·intro lb a w hI hun hdep K hK;obtain⟨b4,b5,b14,b15,v21,v22,v31,v32,q21,q31,rfl,rfl,hKK,hch⟩:=hI;cases (show true=false from hun)
     ·intro lb a w hI hun hdep K hK;obtain⟨b4,b5,b14,b15,v21,v22,v31,v32,q21,q31,rfl,rfl,hKK,hch⟩:=hI;cases (show true=false from hun)
     ·intro lb a w hI hun hdep K hK;obtain⟨b4,b5,b14,b15,v21,v22,v31,v32,q21,q31,rfl,rfl,hKK,hch⟩:=hI;cases (show true=false from hun)
     ·intro lb a w hI hun hdep K hK;obtain⟨b4,b5,b14,b15,v21,v22,v31,v32,q21,q31,rfl,rfl,hKK,hch⟩:=hI;have hb:b4=false:=hun;subst hb;have HCH:=hd_ hch;have HKK:=hd_ hKK;clear hch hKK hdep;go_simp;refine hK.out _ _ ?_;exact⟨true,b5,b14,b15,_,_,_,_,w.heap.size,q31,rfl,rfl,(by have hKK:=HKK.out;exact⟨hKK.1.alloc _,hKK.2.alloc _⟩),Ch.lay ((Chg.refl _ _).alloc _) w.heap.size ⟨false,b5,v21,v22,q21,1,[pr]⟩ [⟨b14,b15,v31,v32,q31,4,[sr,ds]⟩] (af rfl) [] _ _ _ _ HCH.out⟩
     ·intro lb a w hI hun hdep K hK;obtain⟨b4,b5,b14,b15,v21,v22,v31,v32,q21,q31,rfl,rfl,hKK,hch⟩:=hI;have hb:b5=false:=hun;subst hb;have ha:b4=true:=hdep ⟨4,.data⟩ (by simp) rfl;subst ha;obtain⟨e1,e2,hblk,hwat⟩:=Ch.find ⟨true,false,v21,v22,q21,1,[pr]⟩ [⟨b14,b15,v31,v32,q31,4,[sr,ds]⟩] rfl rfl [] _ _ _ _ hch rfl;have e2:v21=.slice (some ⟨q21,0,none⟩) 1 1:=e2;subst e2;have HPUT:=hd_ (bI p q21 _ 1 [pr] _ wB w hwat hblk (fun x hx=>by simp only[Cx,Cy,or_false]at hx;subst hx;omega) (by simp[nOf];omega));have HCH:=hd_ hch;have HKK:=hd_ hKK;clear hch hKK hdep hwat hblk e1;go_simp;refine HPUT.out.mono ?_;rintro e w' ⟨rfl,hw',hk'⟩;go_wp2_with fail;refine hK.out _ _ ?_;exact⟨true,true,b14,b15,_,_,_,_,q21,q31,rfl,rfl,(by have hKK:=HKK.out;exact⟨hk' _ _ _ (by decide) (by decide) hKK.1,hKK.2.trans hk'⟩),Ch.call hk'.kp ⟨true,false,(.slice (some ⟨q21,0,none⟩) 1 1),v22,q21,1,[pr]⟩ [⟨b14,b15,v31,v32,q31,4,[sr,ds]⟩] rfl [] _ _ _ _ HCH.out rfl hw'⟩
     ·intro lb a w hI hun hdep K hK;obtain⟨b4,b5,b14,b15,v21,v22,v31,v32,q21,q31,rfl,rfl,hKK,hch⟩:=hI;cases (show true=false from hun)
     ·intro lb a w hI hun hdep K hK;obtain⟨b4,b5,b14,b15,v21,v22,v31,v32,q21,q31,rfl,rfl,hKK,hch⟩:=hI;cases (show true=false from hun)
     ·intro lb a w hI hun hdep K hK;obtain⟨b4,b5,b14,b15,v21,v22,v31,v32,q21,q31,rfl,rfl,hKK,hch⟩:=hI;cases (show true=false from hun)
     ·intro lb a w hI hun hdep K hK;obtain⟨b4,b5,b14,b15,v21,v22,v31,v32,q21,q31,rfl,rfl,hKK,hch⟩:=hI;cases (show true=false from hun)
     ·intro lb a w hI hun hdep K hK;obtain⟨b4,b5,b14,b15,v21,v22,v31,v32,q21,q31,rfl,rfl,hKK,hch⟩:=hI;cases (show true=false from hun)
     ·intro lb a w hI hun hdep K hK;obtain⟨b4,b5,b14,b15,v21,v22,v31,v32,q21,q31,rfl,rfl,hKK,hch⟩:=hI;cases (show true=false from hun)
     ·intro lb a w hI hun hdep K hK;obtain⟨b4,b5,b14,b15,v21,v22,v31,v32,q21,q31,rfl,rfl,hKK,hch⟩:=hI;cases (show true=false from hun)
     ·intro lb a w hI hun hdep K hK;obtain⟨b4,b5,b14,b15,v21,v22,v31,v32,q21,q31,rfl,rfl,hKK,hch⟩:=hI;cases (show true=false from hun)
     ·intro lb a w hI hun hdep K hK;obtain⟨b4,b5,b14,b15,v21,v22,v31,v32,q21,q31,rfl,rfl,hKK,hch⟩:=hI;have hb:b14=false:=hun;subst hb;have HCH:=hd_ hch;have HKK:=hd_ hKK;clear hch hKK hdep;go_simp;refine hK.out _ _ ?_;exact⟨b4,b5,true,b15,_,_,_,_,q21,w.heap.size,rfl,rfl,(by have hKK:=HKK.out;exact⟨hKK.1.alloc _,hKK.2.alloc _⟩),Ch.lay ((Chg.refl _ _).alloc _) w.heap.size ⟨false,b15,v31,v32,q31,4,[sr,ds]⟩ [] (af rfl) [⟨b4,b5,v21,v22,q21,1,[pr]⟩] _ _ _ _ HCH.out⟩
     ·intro lb a w hI hun hdep K hK;obtain⟨b4,b5,b14,b15,v21,v22,v31,v32,q21,q31,rfl,rfl,hKK,hch⟩:=hI;have hb:b15=false:=hun;subst hb;have ha:b14=true:=hdep ⟨14,.data⟩ (by simp) rfl;subst ha;have hp:b5=true:=hdep ⟨5,.data⟩ (by simp) rfl;subst hp;obtain⟨e1,e2,hblk,hwat⟩:=Ch.find ⟨true,false,v31,v32,q31,4,[sr,ds]⟩ [] rfl rfl [⟨b4,true,v21,v22,q21,1,[pr]⟩] _ _ _ _ hch rfl;have e1:v22=(.pointer (some ⟨p,0,none⟩)):=e1;subst e1;have e2:v31=.slice (some ⟨q31,0,none⟩) 2 2:=e2;subst e2;have HPUT:=hd_ (bI p q31 _ 4 [sr,ds] _ wB w hwat hblk (fun x hx=>by simp only[Cx,Cy,or_false]at hx;rcases hx with rfl|rfl<;>omega) (by simp[nOf];omega));have HCH:=hd_ hch;have HKK:=hd_ hKK;clear hch hKK hdep hwat hblk;go_simp;refine HPUT.out.mono ?_;rintro e w' ⟨rfl,hw',hk'⟩;go_wp2_with fail;refine hK.out _ _ ?_;exact⟨b4,true,true,true,_,_,_,_,q21,q31,rfl,rfl,(by have hKK:=HKK.out;exact⟨hk' _ _ _ (by decide) (by decide) hKK.1,hKK.2.trans hk'⟩),Ch.call hk'.kp ⟨true,false,(.slice (some ⟨q31,0,none⟩) 2 2),v32,q31,4,[sr,ds]⟩ [] rfl [⟨b4,true,v21,(.pointer (some ⟨p,0,none⟩)),q21,1,[pr]⟩] _ _ _ _ HCH.out rfl hw'⟩
    case hend=>
     rintro lb a w ⟨b4,b5,b14,b15,v21,v22,v31,v32,q21,q31,rfl,rfl,hKK,hch⟩ hall;have e9:b15=true:=hall 15 (by decide);subst e9;obtain⟨e1,hw⟩:=Ch.last [⟨b4,b5,v21,v22,q21,1,[pr]⟩,⟨b14,true,v31,v32,q31,4,[sr,ds]⟩] _ _ _ _ hch rfl;have e1:v32=(.pointer (some ⟨p,0,none⟩)):=e1;subst e1;clear hch;refine Cu ?_;go_wp2_with fail
     go_meet
     exact⟨hw,hKK⟩
   obtain⟨hwx,hkx⟩:=hcut;have HWx:=hd_ hwx;have HKx:=hd_ hkx;clear hwx hkx;go_upto_region 5 with fail;refine Cr ?_;refine Cs (S:=(fun w=>w.cell? ⟨g,0,none⟩=some (U Z pr)∧w.cell? ⟨g,1,none⟩=some (U .u32 sr)∧w.cell? ⟨g,2,none⟩=some (U .u32 ds)∧w.cell? ⟨g,3,none⟩=some (U Z sp)∧w.cell? ⟨g,4,none⟩=some (U Z dp)∧w.cell? ⟨g,5,none⟩=some (U Z un))) (by kernel_rfl) (by have hKK:=HKx.out;exact bH hKK.1) (fun hHeld=>?_)
   iterate 5
    first
     |refine tk 0 (.pointer (some ⟨p,0,none⟩)) ?_ ?_
     |refine tk 1 (.pointer (some ⟨g,0,none⟩)) ?_ ?_
     |refine tk 2 (.pointer (some ⟨g,3,none⟩)) ?_ ?_
     |refine tk 3 (U Z sp) ?_ ?_
     |refine tk 4 (.pointer (some ⟨g,0,none⟩)) ?_ ?_
    ·intro w' hSw;(try dsimp only at hSw);obtain⟨s0,s1,s2,s3,s4,s5⟩:=hSw;go_simp;first|done|(with_reducible rfl)
    try simp only[AZ,A7,A8,Act.put,AQ,AS,AR]
   iterate 4
    first
     |refine tk 5 (.pointer (some ⟨g,4,none⟩)) ?_ ?_
     |refine tk 6 (U Z dp) ?_ ?_
     |refine tk 9 (.pointer (some ⟨g,5,none⟩)) ?_ ?_
     |refine tk 10 (U Z un) ?_ ?_
    ·intro w' hSw;(try dsimp only at hSw);obtain⟨s0,s1,s2,s3,s4,s5⟩:=hSw;go_simp;first|done|(with_reducible rfl)
    try simp only[AZ,A7,A8,Act.put,AQ,AS,AR]
   refine d_ (fun lb a w=>∃(b7 b8 b11 b12:Bool) (v40 v41 v44 v45:Value) (q40 q44:Nat),lb=#[true,true,true,true,true,true,true,b7,b8,true,true,b11,b12]∧a={tmps:=#[.pointer (some ⟨p,0,none⟩),.slice (some ad) m c,undef,undef,undef,.pointer (some ⟨g,0,none⟩),.pointer (some ⟨p,0,none⟩),.slice (some ad) m c,U Z (m:Int),.slice (some ⟨gw,0,none⟩) 1 1,.pointer (some ⟨p,0,none⟩),.slice (some ad) m c,U Z (m:Int),U Z (j:Int),u14,u15,u16,u17,u18,u19,u20,u21,u22,u23,u24,u25,u26,u27,u28,u29,u30,u31,u32,.pointer (some ⟨p,0,none⟩),.pointer (some ⟨g,0,none⟩),.pointer (some ⟨g,3,none⟩),U Z sp,.pointer (some ⟨g,0,none⟩),.pointer (some ⟨g,4,none⟩),U Z dp,v40,v41,.pointer (some ⟨g,5,none⟩),U Z un,v44,v45,u46],defers:=[]}∧(Blk w g 219 (rcC pr sr ds sp dp un)∧Kp6 w0 w)∧Ch wB w p true (.pointer (some ⟨p,0,none⟩)) (ax 4 [sr,ds] (ax 1 [pr] (ey (l.take j) (ax 1 [(m:Int)] st)))) (N+8+48*j+24) [⟨b7,b8,v40,v41,q40,2,[sp,dp]⟩,⟨b11,b12,v44,v45,q44,6,[un]⟩]) ?hsz ?hS (by kernel_rfl) ?hend ?hops 4 #[true,true,true,true,true,true,true,false,false,true,true,false,false] _ _ (by decide) ?hstart
   case hsz=>
    rintro lb a w ⟨b7,b8,b11,b12,v40,v41,v44,v45,q40,q44,rfl,rfl,hKK,hch⟩;rfl
   case hS=>
    rintro lb a w ⟨b7,b8,b11,b12,v40,v41,v44,v45,q40,q44,rfl,rfl,hKK,hch⟩;exact bH hKK.1
   case hstart=>
    exact⟨false,false,false,false,_,_,_,_,0,0,rfl,rfl,HKx.out,⟨(fun _=>rfl),(fun h=>by cases h),(fun _=>rfl),(fun _ _=>HWx.out.drew),⟨(fun h=>by cases h),(fun h=>by cases h),(fun h=>by cases h),(fun h=>by cases h),(fun h=>by cases h)⟩⟩⟩
   case hops=>
    refine⟨?_,?_,?_,?_,?_,?_,?_,?_,?_,?_,?_,?_,?_,trivial⟩
    ·intro lb a w hI hun hdep K hK;obtain⟨b7,b8,b11,b12,v40,v41,v44,v45,q40,q44,rfl,rfl,hKK,hch⟩:=hI;cases (show true=false from hun)
    ·intro lb a w hI hun hdep K hK;obtain⟨b7,b8,b11,b12,v40,v41,v44,v45,q40,q44,rfl,rfl,hKK,hch⟩:=hI;cases (show true=false from hun)
    ·intro lb a w hI hun hdep K hK;obtain⟨b7,b8,b11,b12,v40,v41,v44,v45,q40,q44,rfl,rfl,hKK,hch⟩:=hI;cases (show true=false from hun)
    ·intro lb a w hI hun hdep K hK;obtain⟨b7,b8,b11,b12,v40,v41,v44,v45,q40,q44,rfl,rfl,hKK,hch⟩:=hI;cases (show true=false from hun)
    ·intro lb a w hI hun hdep K hK;obtain⟨b7,b8,b11,b12,v40,v41,v44,v45,q40,q44,rfl,rfl,hKK,hch⟩:=hI;cases (show true=false from hun)
    ·intro lb a w hI hun hdep K hK;obtain⟨b7,b8,b11,b12,v40,v41,v44,v45,q40,q44,rfl,rfl,hKK,hch⟩:=hI;cases (show true=false from hun)
    ·intro lb a w hI hun hdep K hK;obtain⟨b7,b8,b11,b12,v40,v41,v44,v45,q40,q44,rfl,rfl,hKK,hch⟩:=hI;cases (show true=false from hun)
    ·intro lb a w hI hun hdep K hK;obtain⟨b7,b8,b11,b12,v40,v41,v44,v45,q40,q44,rfl,rfl,hKK,hch⟩:=hI;have hb:b7=false:=hun;subst hb;have HCH:=hd_ hch;have HKK:=hd_ hKK;clear hch hKK hdep;go_simp;refine hK.out _ _ ?_;exact⟨true,b8,b11,b12,_,_,_,_,w.heap.size,q44,rfl,rfl,(by have hKK:=HKK.out;exact⟨hKK.1.alloc _,hKK.2.alloc _⟩),Ch.lay ((Chg.refl _ _).alloc _) w.heap.size ⟨false,b8,v40,v41,q40,2,[sp,dp]⟩ [⟨b11,b12,v44,v45,q44,6,[un]⟩] (af rfl) [] _ _ _ _ HCH.out⟩
    ·intro lb a w hI hun hdep K hK;obtain⟨b7,b8,b11,b12,v40,v41,v44,v45,q40,q44,rfl,rfl,hKK,hch⟩:=hI;have hb:b8=false:=hun;subst hb;have ha:b7=true:=hdep ⟨7,.data⟩ (by simp) rfl;subst ha;obtain⟨e1,e2,hblk,hwat⟩:=Ch.find ⟨true,false,v40,v41,q40,2,[sp,dp]⟩ [⟨b11,b12,v44,v45,q44,6,[un]⟩] rfl rfl [] _ _ _ _ hch rfl;have e2:v40=.slice (some ⟨q40,0,none⟩) 2 2:=e2;subst e2;have HPUT:=hd_ (bI p q40 _ 2 [sp,dp] _ wB w hwat hblk (fun x hx=>by simp only[Cx,Cy,or_false]at hx;rcases hx with rfl|rfl<;>omega) (by simp[nOf];omega));have HCH:=hd_ hch;have HKK:=hd_ hKK;clear hch hKK hdep hwat hblk e1;go_simp;refine HPUT.out.mono ?_;rintro e w' ⟨rfl,hw',hk'⟩;go_wp2_with fail;refine hK.out _ _ ?_;exact⟨true,true,b11,b12,_,_,_,_,q40,q44,rfl,rfl,(by have hKK:=HKK.out;exact⟨hk' _ _ _ (by decide) (by decide) hKK.1,hKK.2.trans hk'⟩),Ch.call hk'.kp ⟨true,false,(.slice (some ⟨q40,0,none⟩) 2 2),v41,q40,2,[sp,dp]⟩ [⟨b11,b12,v44,v45,q44,6,[un]⟩] rfl [] _ _ _ _ HCH.out rfl hw'⟩
    ·intro lb a w hI hun hdep K hK;obtain⟨b7,b8,b11,b12,v40,v41,v44,v45,q40,q44,rfl,rfl,hKK,hch⟩:=hI;cases (show true=false from hun)
    ·intro lb a w hI hun hdep K hK;obtain⟨b7,b8,b11,b12,v40,v41,v44,v45,q40,q44,rfl,rfl,hKK,hch⟩:=hI;cases (show true=false from hun)
    ·intro lb a w hI hun hdep K hK;obtain⟨b7,b8,b11,b12,v40,v41,v44,v45,q40,q44,rfl,rfl,hKK,hch⟩:=hI;have hb:b11=false:=hun;subst hb;have HCH:=hd_ hch;have HKK:=hd_ hKK;clear hch hKK hdep;go_simp;refine hK.out _ _ ?_;exact⟨b7,b8,true,b12,_,_,_,_,q40,w.heap.size,rfl,rfl,(by have hKK:=HKK.out;exact⟨hKK.1.alloc _,hKK.2.alloc _⟩),Ch.lay ((Chg.refl _ _).alloc _) w.heap.size ⟨false,b12,v44,v45,q44,6,[un]⟩ [] (af rfl) [⟨b7,b8,v40,v41,q40,2,[sp,dp]⟩] _ _ _ _ HCH.out⟩
    ·intro lb a w hI hun hdep K hK;obtain⟨b7,b8,b11,b12,v40,v41,v44,v45,q40,q44,rfl,rfl,hKK,hch⟩:=hI;have hb:b12=false:=hun;subst hb;have ha:b11=true:=hdep ⟨11,.data⟩ (by simp) rfl;subst ha;have hp:b8=true:=hdep ⟨8,.data⟩ (by simp) rfl;subst hp;obtain⟨e1,e2,hblk,hwat⟩:=Ch.find ⟨true,false,v44,v45,q44,6,[un]⟩ [] rfl rfl [⟨b7,true,v40,v41,q40,2,[sp,dp]⟩] _ _ _ _ hch rfl;have e1:v41=(.pointer (some ⟨p,0,none⟩)):=e1;subst e1;have e2:v44=.slice (some ⟨q44,0,none⟩) 1 1:=e2;subst e2;have HPUT:=hd_ (bI p q44 _ 6 [un] _ wB w hwat hblk (fun x hx=>by simp only[Cx,Cy,or_false]at hx;subst hx;omega) (by simp[nOf];omega));have HCH:=hd_ hch;have HKK:=hd_ hKK;clear hch hKK hdep hwat hblk;go_simp;refine HPUT.out.mono ?_;rintro e w' ⟨rfl,hw',hk'⟩;go_wp2_with fail;refine hK.out _ _ ?_;exact⟨b7,true,true,true,_,_,_,_,q40,q44,rfl,rfl,(by have hKK:=HKK.out;exact⟨hk' _ _ _ (by decide) (by decide) hKK.1,hKK.2.trans hk'⟩),Ch.call hk'.kp ⟨true,false,(.slice (some ⟨q44,0,none⟩) 1 1),v45,q44,6,[un]⟩ [] rfl [⟨b7,true,v40,(.pointer (some ⟨p,0,none⟩)),q40,2,[sp,dp]⟩] _ _ _ _ HCH.out rfl hw'⟩
   case hend=>
    rintro lb a w ⟨b7,b8,b11,b12,v40,v41,v44,v45,q40,q44,rfl,rfl,hKK,hch⟩ hall;have e9:b12=true:=hall 12 (by decide);subst e9;obtain⟨e1,hw⟩:=Ch.last [⟨b7,b8,v40,v41,q40,2,[sp,dp]⟩,⟨b11,true,v44,v45,q44,6,[un]⟩] _ _ _ _ hch rfl;have e1:v45=(.pointer (some ⟨p,0,none⟩)):=e1;subst e1;clear hch;refine Cu ?_;have HKK:=hd_ hKK;have HWW:=hd_ hw;clear hKK hw;go_wp2_with fail;go_roundg (m-(j+1))
    case measure=>omega
    case rel=>
     refine⟨j+1,rfl,by omega,by go_num,?_,(HK0.out.trans HKK.out.2)⟩;rw[pB HX.out];exact HWW.out.mono (by simp[nOf];omega)
  ·have hjm:m=j:=by omega
   subst hjm;go_wp2_with fail;refine bodyPost_end (results_none rfl _ _ _) rfl ⟨rfl,?_,HK.out⟩;have e:l.take m=l:=Ax (by rw[HL.out];exact zG _);have hw:=HW.out;rw[e]at hw;exact hw
def Mk6(m:List UInt8)(x:Int)(w:World)(e:Ending)(w':World):Prop:=
 ∃A c,e=.returned (.tuple #[.slice A m.length c,U Z x])∧w'.ownsRow w.heap.size 5 1 (.slice A m.length c) m.length (bcs m)∧Chg (fun _=>False) w w'
theorem xG{w w':World}{e:Ending}(h:e=.returned (.tuple #[.slice none 0 0,U Z 1])∧Chg (fun _=>False) w w'):Mk6 [] 1 w e w':=
 ⟨none,0,h.1,As _ _ _ _,h.2⟩
theorem eK(p N:Nat)(b:List UInt8)(w1 W:World)(hN:N≤1000000)(h:Wat w1 p (some b) N W):
  Calls Tryz.prog 157 #[.pointer (some ⟨p,0,none⟩)] W fun e w'=>∃A c,e=.returned (.tuple #[.slice A b.length c,U Z 0])∧w'.ownsRow w1.heap.size 5 1 (.slice A b.length c) b.length (bcs b)∧Chg (fun _=>False) w1 w':=by
 obtain⟨o,hw,hC,_,_⟩:=h;refine(kq p o b N W hw (by omega)).mono ?_;rintro e w' ⟨A',k,c',rfl,rfl,hown,hc⟩;exact⟨A',c',rfl,cT hown hC.size,hC.tr hc⟩
def MsN(kd po ma ow ta ol ge ph ve si pt vr:Int)(l:List Rc):Prop:=(0≤ma∧ma≤18446744073709551615)∧∀x∈l,RcN x
theorem cz(n x:Int)(b:List UInt8)(hn:1≤n∧n≤8)(hf:a_ n.toNat x=true):ax n [x] (some b)=some (b++be n.toNat x.toNat):=by
 simp[ax,hn,cg,dR,hf]
theorem ce{p v:Int}(h:bD p v=true):(0≤p∧p≤31)∧(1≤v∧v≤1099511627776):=by
 unfold bD at h;simp only[AI]at h;exact⟨fa h.1,fa h.2⟩
theorem xH(po ma ow ta ol ge ph ve si:Int)(h:rwR po ma ow ta ol ge ph ve si=true)(hm:0≤ma)(pt vr:Int)(l:List Rc):py po ma ow ta ol ge ph ve si (ax 1 [1] (some []))=some (msB 1 po ma ow ta ol ge ph ve si pt vr l):=by
 rw[cz 1 1 [] (by decide) (by decide),vO h hm];rfl
theorem xI(po ma ow ta ol ge ph ve si pt vr:Int)(h:bD pt vr=true)(l:List Rc):ax 6 [vr] (ax 1 [pt] (ax 1 [2] (some [])))=some (msB 2 po ma ow ta ol ge ph ve si pt vr l):=by
 obtain⟨h1,h2⟩:=ce h;rw[cz 1 2 [] (by decide) (by decide),cz 1 pt _ (by decide) (az 1 (by omega) (by omega)),cz 6 vr _ (by decide) (az 6 (by omega) (by omega))];simp[msB]
theorem ux(po ma ow ta ol ge ph ve si pt vr:Int)(h:bD pt vr=true)(l:List Rc)(hl:l.length≤16)(ha:l.all rcR=true)(hn:∀x∈l,RcN x):
  ey l (ax 1 [(l.length:Int)] (ax 6 [vr] (ax 1 [pt] (ax 1 [3] (some [])))))=some (msB 3 po ma ow ta ol ge ph ve si pt vr l):=by
 obtain⟨h1,h2⟩:=ce h;rw[cz 1 3 [] (by decide) (by decide),cz 1 pt _ (by decide) (az 1 (by omega) (by omega)),cz 6 vr _ (by decide) (az 6 (by omega) (by omega)),cz 1 (l.length:Int) _ (by decide) (az 1 (by omega) (by omega)),mI ha hn];simp[msB]
theorem m4{po ma ow ta ol ge ph ve si:Int}(h:rvE po ma ow ta ol ge ph ve si 0 0 0 0 0 0 0 0 0=true):po=0∧ma=0∧ow=0∧ta=0∧ol=0∧ge=0∧ph=0∧ve=0∧si=0:=by
 unfold rvE at h;simp only[AI,beq_iff_eq]at h;exact h
theorem gO{kd po ma ow ta ol ge ph ve si pt vr:Int}{l:List Rc}(h:msR kd po ma ow ta ol ge ph ve si pt vr l=true):
  (kd=1∧rwR po ma ow ta ol ge ph ve si=true∧pt=0∧vr=0∧l=[])∨(kd=2∧rvE po ma ow ta ol ge ph ve si 0 0 0 0 0 0 0 0 0=true∧bD pt vr=true∧l=[])∨(kd=3∧rvE po ma ow ta ol ge ph ve si 0 0 0 0 0 0 0 0 0=true∧bD pt vr=true∧l.length≤16∧l.all rcR=true):=by
 unfold msR at h;by_cases h1:kd=1
 ·rw[if_pos h1]at h;simp only[AI,beq_iff_eq]at h;exact .inl ⟨h1,h.1,h.2.1,h.2.2.1,zR h.2.2.2⟩
 rw[if_neg h1]at h;by_cases h2:kd=2
 ·rw[if_pos h2]at h;simp only[AI,beq_iff_eq]at h;exact .inr (.inl ⟨h2,h.1,h.2.1,zR h.2.2⟩)
 rw[if_neg h2]at h;by_cases h3:kd=3
 ·rw[if_pos h3]at h;unfold fD at h;simp only[AI,decide_eq_true_eq]at h;exact .inr (.inr ⟨h3,h.1,h.2.1,h.2.2.1,h.2.2.2⟩)
 rw[if_neg h3]at h;cases h
theorem uy(kd po ma ow ta ol ge ph ve si pt vr:Int)(A:Option Addr)(n c:Nat)(l:List Rc)(S:Nat→Prop)(w:World)(h:RcR w S A n l)(hn2:n≤9223372036854775807)(hr:msR kd po ma ow ta ol ge ph ve si pt vr l=false):
  Calls Tryz.prog 185 #[.agg (msC kd po ma ow ta ol ge ph ve si pt vr A n c)] w (Mk6 [] 1 w):=by
 have HC0:=hd_ ((Chg.refl (fun _=>False) w).alloc (.cells #[U Z kd,U Z po,U .u64 ma,U Z ow,U Z ta,U Z ol,U Z ge,U Z ph,U Z ve,U Z si,U Z pt,U Z vr,.slice A n c] 74));have hrt:=df kd po ma ow ta ol ge ph ve si pt vr A n c l S _ (h.alloc (.cells #[U Z kd,U Z po,U .u64 ma,U Z ow,U Z ta,U Z ol,U Z ge,U Z ph,U Z ve,U Z si,U Z pt,U Z vr,.slice A n c] 74)) hn2;rw[hr]at hrt;have HRT:=hd_ hrt;clear hr hrt h;unfold msC at HRT⊢;go_in;go_wp2_with fail;refine HRT.out.mono ?_;rintro e w1 ⟨rfl,hc1⟩;go_wp2_with fail;go_ret2;exact xG ⟨rfl,HC0.out.tr hc1⟩
theorem xJ(po ma ow ta ol ge ph ve si pt vr:Int)(A:Option Addr)(n c:Nat)(l:List Rc)(S:Nat→Prop)(w:World)(h:RcR w S A n l)(hn2:n≤9223372036854775807)(hr:msR 1 po ma ow ta ol ge ph ve si pt vr l=true)(hrw:rwR po ma ow ta ol ge ph ve si=true)(hm:0≤ma):
  Calls Tryz.prog 185 #[.agg (msC 1 po ma ow ta ol ge ph ve si pt vr A n c)] w (Mk6 (msB 1 po ma ow ta ol ge ph ve si pt vr l) 0 w):=by
 have HST:=hd_ (xH po ma ow ta ol ge ph ve si hrw hm pt vr l);have hC0:=(Chg.refl (fun _=>False) w).alloc (.cells #[U Z 1,U Z po,U .u64 ma,U Z ow,U Z ta,U Z ol,U Z ge,U Z ph,U Z ve,U Z si,U Z pt,U Z vr,.slice A n c] 74);have hQ0:Blk (w.alloc (.cells #[U Z 1,U Z po,U .u64 ma,U Z ow,U Z ta,U Z ol,U Z ge,U Z ph,U Z ve,U Z si,U Z pt,U Z vr,.slice A n c] 74)) w.heap.size 74 (msC 1 po ma ow ta ol ge ph ve si pt vr A n c):=af rfl;have hrt:=df 1 po ma ow ta ol ge ph ve si pt vr A n c l S _ (h.alloc (.cells #[U Z 1,U Z po,U .u64 ma,U Z ow,U Z ta,U Z ol,U Z ge,U Z ph,U Z ve,U Z si,U Z pt,U Z vr,.slice A n c] 74)) hn2;have HH0:=hd_ (h.alloc (.cells #[U Z 1,U Z po,U .u64 ma,U Z ow,U Z ta,U Z ol,U Z ge,U Z ph,U Z ve,U Z si,U Z pt,U Z vr,.slice A n c] 74));have HL:=hd_ h.1;rw[hr]at hrt;have HRT:=hd_ hrt;have HC0:=hd_ hC0;have HQ0:=hd_ hQ0;clear h hr hrt hC0 hQ0;unfold msC at HRT⊢;go_in;go_wp2_with fail;refine HRT.out.mono ?_;rintro e w1 ⟨rfl,hc1⟩;have HQ1:=hd_ (HQ0.out.chg hc1 id);have HC1:=hd_ (HC0.out.tr hc1);have HH1:=hd_ (HH0.out.chg hc1 (fun _ _=>id));obtain⟨y0,y1,y2,y3,y4,y5,y6,y7,y8,y9,y10,y11,y12⟩:=cy HQ1.out ((Chg.refl (fun _=>False) w1).alloc (.cells #[.slice none 0 0,.bool false] 243));have HPUT:=hd_ (bI w1.heap.size (w1.heap.size+1) 0 1 [1] (some []) w1 ((w1.alloc (.cells #[.slice none 0 0,.bool false] 243)).alloc (.cells #[U Z 1] 3)) ((Wat.start ((Chg.refl _ _).alloc _) (zG _) (af rfl)).alloc _) (af (by simp)) (fun x hx=>by simp only[Az]at hx;omega) (by simp));clear HRT hc1 HC0 HQ0 HH0;go_wp2_with fail;refine HPUT.out.mono ?_;rintro e w2 ⟨rfl,hw2,_⟩;have HW2:Hid (Wat w1 w1.heap.size (ax 1 [1] (some [])) 8 w2):=hd_ hw2;have HX:=hd_ hw2.was;clear hw2 HPUT y0 y1 y2 y3 y4 y5 y6 y7 y8 y9 y10 y11 y12;obtain⟨y0,y1,y2,y3,y4,y5,y6,y7,y8,y9,y10,y11,y12⟩:=cy HQ1.out HX.out;generalize hpp:w1.heap.size=pp at*;have HPP:=hd_ hpp;clear hpp;have HPR:=hd_ (sd po ma ow ta ol ge ph ve si pp 8 (ax 1 [1] (some [])) w1 w2 hrw hm (by decide) HW2.out);unfold rvC at HPR;clear hrw hm;go_wp2_with fail;refine HPR.out.mono ?_;rintro e w3 ⟨rfl,hw3,_⟩;rw[HST.out]at hw3;have HW3:=hd_ hw3;clear hw3 HPR y0 y1 y2 y3 y4 y5 y6 y7 y8 y9 y10 y11 y12;go_wp2_with fail;refine(eK pp _ _ w1 _ (by simp;try omega) HW3.out).mono ?_;rintro e w7 ⟨D,dc,rfl,hown7,hc7⟩;have HO7:=hd_ hown7;have HC7:=hd_ hc7;clear hown7 hc7;go_wp2_with fail;go_ret2;exact⟨D,dc,rfl,cT HO7.out HC1.out.size,HC1.out.tr HC7.out⟩
theorem xK(po ma ow ta ol ge ph ve si pt vr:Int)(A:Option Addr)(n c:Nat)(l:List Rc)(S:Nat→Prop)(w:World)(h:RcR w S A n l)(hn2:n≤9223372036854775807)(hr:msR 2 po ma ow ta ol ge ph ve si pt vr l=true)(hnb:bD pt vr=true):
  Calls Tryz.prog 185 #[.agg (msC 2 po ma ow ta ol ge ph ve si pt vr A n c)] w (Mk6 (msB 2 po ma ow ta ol ge ph ve si pt vr l) 0 w):=by
 have HST:=hd_ (xI po ma ow ta ol ge ph ve si pt vr hnb l);obtain⟨hb1,hb2⟩:=ce hnb;have hC0:=(Chg.refl (fun _=>False) w).alloc (.cells #[U Z 2,U Z po,U .u64 ma,U Z ow,U Z ta,U Z ol,U Z ge,U Z ph,U Z ve,U Z si,U Z pt,U Z vr,.slice A n c] 74);have hQ0:Blk (w.alloc (.cells #[U Z 2,U Z po,U .u64 ma,U Z ow,U Z ta,U Z ol,U Z ge,U Z ph,U Z ve,U Z si,U Z pt,U Z vr,.slice A n c] 74)) w.heap.size 74 (msC 2 po ma ow ta ol ge ph ve si pt vr A n c):=af rfl;have hrt:=df 2 po ma ow ta ol ge ph ve si pt vr A n c l S _ (h.alloc (.cells #[U Z 2,U Z po,U .u64 ma,U Z ow,U Z ta,U Z ol,U Z ge,U Z ph,U Z ve,U Z si,U Z pt,U Z vr,.slice A n c] 74)) hn2;have HH0:=hd_ (h.alloc (.cells #[U Z 2,U Z po,U .u64 ma,U Z ow,U Z ta,U Z ol,U Z ge,U Z ph,U Z ve,U Z si,U Z pt,U Z vr,.slice A n c] 74));have HL:=hd_ h.1;rw[hr]at hrt;have HRT:=hd_ hrt;have HC0:=hd_ hC0;have HQ0:=hd_ hQ0;clear h hr hrt hC0 hQ0;unfold msC at HRT⊢;go_in;go_wp2_with fail;refine HRT.out.mono ?_;rintro e w1 ⟨rfl,hc1⟩;have HQ1:=hd_ (HQ0.out.chg hc1 id);have HC1:=hd_ (HC0.out.tr hc1);have HH1:=hd_ (HH0.out.chg hc1 (fun _ _=>id));obtain⟨y0,y1,y2,y3,y4,y5,y6,y7,y8,y9,y10,y11,y12⟩:=cy HQ1.out ((Chg.refl (fun _=>False) w1).alloc (.cells #[.slice none 0 0,.bool false] 243));have HPUT:=hd_ (bI w1.heap.size (w1.heap.size+1) 0 1 [2] (some []) w1 ((w1.alloc (.cells #[.slice none 0 0,.bool false] 243)).alloc (.cells #[U Z 2] 3)) ((Wat.start ((Chg.refl _ _).alloc _) (zG _) (af rfl)).alloc _) (af (by simp)) (fun x hx=>by simp only[Az]at hx;omega) (by simp));clear HRT hc1 HC0 HQ0 HH0;go_wp2_with fail;refine HPUT.out.mono ?_;rintro e w2 ⟨rfl,hw2,_⟩;have HW2:Hid (Wat w1 w1.heap.size (ax 1 [2] (some [])) 8 w2):=hd_ hw2;have HX:=hd_ hw2.was;clear hw2 HPUT y0 y1 y2 y3 y4 y5 y6 y7 y8 y9 y10 y11 y12;obtain⟨y0,y1,y2,y3,y4,y5,y6,y7,y8,y9,y10,y11,y12⟩:=cy HQ1.out HX.out;generalize hpp:w1.heap.size=pp at*;have HPP:=hd_ hpp;clear hpp;generalize w.heap.size=g at*;have HB0:=hd_ (HQ1.out.chg HX.out id);go_upto_region 8 with fail;clear y0 y1 y2 y3 y4 y5 y6 y7 y8 y9 y10 y11 y12;refine Cr ?_;refine Cs (S:=(fun w=>w.cell? ⟨g,0,none⟩=some (U Z 2)∧w.cell? ⟨g,1,none⟩=some (U Z po)∧w.cell? ⟨g,2,none⟩=some (U .u64 ma)∧w.cell? ⟨g,3,none⟩=some (U Z ow)∧w.cell? ⟨g,4,none⟩=some (U Z ta)∧w.cell? ⟨g,5,none⟩=some (U Z ol)∧w.cell? ⟨g,6,none⟩=some (U Z ge)∧w.cell? ⟨g,7,none⟩=some (U Z ph)∧w.cell? ⟨g,8,none⟩=some (U Z ve)∧w.cell? ⟨g,9,none⟩=some (U Z si)∧w.cell? ⟨g,10,none⟩=some (U Z pt)∧w.cell? ⟨g,11,none⟩=some (U Z vr)∧w.cell? ⟨g,12,none⟩=some (.slice A n c))) (by kernel_rfl) (by have hKK:=HB0.out;exact ai hKK) (fun hHeld=>?_)
 iterate 5
  first
   |refine tk 0 (.pointer (some ⟨pp,0,none⟩)) ?_ ?_
   |refine tk 1 (.pointer (some ⟨g,10,none⟩)) ?_ ?_
   |refine tk 2 (U Z pt) ?_ ?_
   |refine tk 5 (.pointer (some ⟨g,11,none⟩)) ?_ ?_
   |refine tk 6 (U Z vr) ?_ ?_
  ·intro w' hSw;(try dsimp only at hSw);obtain⟨s0,s1,s2,s3,s4,s5,s6,s7,s8,s9,s10,s11,s12⟩:=hSw;go_simp;first|done|(with_reducible rfl)
  try simp only[AZ,A7,A8,Act.put,AQ,AS,AR]
 refine d_ (fun lb a w=>∃(b3 b4 b7 b8:Bool) (v27 v28 v31 v32:Value) (q27 q31:Nat),lb=#[true,true,true,b3,b4,true,true,b7,b8]∧a={tmps:=#[.agg #[U Z 2,U Z po,U .u64 ma,U Z ow,U Z ta,U Z ol,U Z ge,U Z ph,U Z ve,U Z si,U Z pt,U Z vr,.slice A n c],.pointer (some ⟨g,0,none⟩),.slice none 0 0,U Z 0,.pointer (some ⟨pp,0,none⟩),.agg #[U Z 2,U Z po,U .u64 ma,U Z ow,U Z ta,U Z ol,U Z ge,U Z ph,U Z ve,U Z si,U Z pt,U Z vr,.slice A n c],.bool true,.bool false,.agg #[.slice none 0 0,.bool false],.pointer (some ⟨pp,0,none⟩),.pointer (some ⟨g,0,none⟩),U Z 2,.slice (some ⟨pp+1,0,none⟩) 1 1,.pointer (some ⟨pp,0,none⟩),.pointer (some ⟨g,0,none⟩),U Z 2,.bool false,.bool false,undef,undef,undef,undef,.bool true,.bool true,.pointer (some ⟨pp,0,none⟩),.pointer (some ⟨g,10,none⟩),U Z pt,v27,v28,.pointer (some ⟨g,11,none⟩),U Z vr,v31,v32,undef,undef,undef,undef,undef,undef,undef,undef,undef,undef,undef,undef,undef,undef,undef,undef,undef,undef,undef],defers:=[]}∧(Blk w g 74 (msC 2 po ma ow ta ol ge ph ve si pt vr A n c))∧Ch w1 w pp true (.pointer (some ⟨pp,0,none⟩)) (ax 1 [2] (some [])) (8) [⟨b3,b4,v27,v28,q27,1,[pt]⟩,⟨b7,b8,v31,v32,q31,6,[vr]⟩]) ?hsz ?hS (by kernel_rfl) ?hend ?hops 4 #[true,true,true,false,false,true,true,false,false] _ _ (by decide) ?hstart
 case hsz=>
  rintro lb a w ⟨b3,b4,b7,b8,v27,v28,v31,v32,q27,q31,rfl,rfl,hKK,hch⟩;rfl
 case hS=>
  rintro lb a w ⟨b3,b4,b7,b8,v27,v28,v31,v32,q27,q31,rfl,rfl,hKK,hch⟩;exact ai hKK
 case hstart=>
  exact⟨false,false,false,false,_,_,_,_,0,0,rfl,rfl,HB0.out,⟨(fun _=>rfl),(fun h=>by cases h),(fun _=>rfl),(fun _ _=>HW2.out.drew),⟨(fun h=>by cases h),(fun h=>by cases h),(fun h=>by cases h),(fun h=>by cases h),(fun h=>by cases h)⟩⟩⟩
 case hops=>
  refine⟨?_,?_,?_,?_,?_,?_,?_,?_,?_,trivial⟩
  ·intro lb a w hI hun hdep K hK;obtain⟨b3,b4,b7,b8,v27,v28,v31,v32,q27,q31,rfl,rfl,hKK,hch⟩:=hI;cases (show true=false from hun)
  ·intro lb a w hI hun hdep K hK;obtain⟨b3,b4,b7,b8,v27,v28,v31,v32,q27,q31,rfl,rfl,hKK,hch⟩:=hI;cases (show true=false from hun)
  ·intro lb a w hI hun hdep K hK;obtain⟨b3,b4,b7,b8,v27,v28,v31,v32,q27,q31,rfl,rfl,hKK,hch⟩:=hI;cases (show true=false from hun)
  ·intro lb a w hI hun hdep K hK;obtain⟨b3,b4,b7,b8,v27,v28,v31,v32,q27,q31,rfl,rfl,hKK,hch⟩:=hI;have hb:b3=false:=hun;subst hb;have HCH:=hd_ hch;have HKK:=hd_ hKK;clear hch hKK hdep;go_simp;refine hK.out _ _ ?_;exact⟨true,b4,b7,b8,_,_,_,_,w.heap.size,q31,rfl,rfl,(by have hKK:=HKK.out;exact hKK.alloc _),Ch.lay ((Chg.refl _ _).alloc _) w.heap.size ⟨false,b4,v27,v28,q27,1,[pt]⟩ [⟨b7,b8,v31,v32,q31,6,[vr]⟩] (af rfl) [] _ _ _ _ HCH.out⟩
  ·intro lb a w hI hun hdep K hK;obtain⟨b3,b4,b7,b8,v27,v28,v31,v32,q27,q31,rfl,rfl,hKK,hch⟩:=hI;have hb:b4=false:=hun;subst hb;have ha:b3=true:=hdep ⟨3,.data⟩ (by simp) rfl;subst ha;obtain⟨e1,e2,hblk,hwat⟩:=Ch.find ⟨true,false,v27,v28,q27,1,[pt]⟩ [⟨b7,b8,v31,v32,q31,6,[vr]⟩] rfl rfl [] _ _ _ _ hch rfl;have e2:v27=.slice (some ⟨q27,0,none⟩) 1 1:=e2;subst e2;have HPUT:=hd_ (bI pp q27 _ 1 [pt] _ w1 w hwat hblk (fun x hx=>by simp only[Cx,Cy,or_false]at hx;subst hx;omega) (by simp[nOf]));have HCH:=hd_ hch;have HKK:=hd_ hKK;clear hch hKK hdep hwat hblk e1;go_simp;refine HPUT.out.mono ?_;rintro e w' ⟨rfl,hw',hk'⟩;go_wp2_with fail;refine hK.out _ _ ?_;exact⟨true,true,b7,b8,_,_,_,_,q27,q31,rfl,rfl,(by have hKK:=HKK.out;exact hk' _ _ _ (by decide) (by decide) hKK),Ch.call hk'.kp ⟨true,false,(.slice (some ⟨q27,0,none⟩) 1 1),v28,q27,1,[pt]⟩ [⟨b7,b8,v31,v32,q31,6,[vr]⟩] rfl [] _ _ _ _ HCH.out rfl hw'⟩
  ·intro lb a w hI hun hdep K hK;obtain⟨b3,b4,b7,b8,v27,v28,v31,v32,q27,q31,rfl,rfl,hKK,hch⟩:=hI;cases (show true=false from hun)
  ·intro lb a w hI hun hdep K hK;obtain⟨b3,b4,b7,b8,v27,v28,v31,v32,q27,q31,rfl,rfl,hKK,hch⟩:=hI;cases (show true=false from hun)
  ·intro lb a w hI hun hdep K hK;obtain⟨b3,b4,b7,b8,v27,v28,v31,v32,q27,q31,rfl,rfl,hKK,hch⟩:=hI;have hb:b7=false:=hun;subst hb;have HCH:=hd_ hch;have HKK:=hd_ hKK;clear hch hKK hdep;go_simp;refine hK.out _ _ ?_;exact⟨b3,b4,true,b8,_,_,_,_,q27,w.heap.size,rfl,rfl,(by have hKK:=HKK.out;exact hKK.alloc _),Ch.lay ((Chg.refl _ _).alloc _) w.heap.size ⟨false,b8,v31,v32,q31,6,[vr]⟩ [] (af rfl) [⟨b3,b4,v27,v28,q27,1,[pt]⟩] _ _ _ _ HCH.out⟩
  ·intro lb a w hI hun hdep K hK;obtain⟨b3,b4,b7,b8,v27,v28,v31,v32,q27,q31,rfl,rfl,hKK,hch⟩:=hI;have hb:b8=false:=hun;subst hb;have ha:b7=true:=hdep ⟨7,.data⟩ (by simp) rfl;subst ha;have hp:b4=true:=hdep ⟨4,.data⟩ (by simp) rfl;subst hp;obtain⟨e1,e2,hblk,hwat⟩:=Ch.find ⟨true,false,v31,v32,q31,6,[vr]⟩ [] rfl rfl [⟨b3,true,v27,v28,q27,1,[pt]⟩] _ _ _ _ hch rfl;have e1:v28=(.pointer (some ⟨pp,0,none⟩)):=e1;subst e1;have e2:v31=.slice (some ⟨q31,0,none⟩) 1 1:=e2;subst e2;have HPUT:=hd_ (bI pp q31 _ 6 [vr] _ w1 w hwat hblk (fun x hx=>by simp only[Cx,Cy,or_false]at hx;subst hx;omega) (by simp[nOf]));have HCH:=hd_ hch;have HKK:=hd_ hKK;clear hch hKK hdep hwat hblk;go_simp;refine HPUT.out.mono ?_;rintro e w' ⟨rfl,hw',hk'⟩;go_wp2_with fail;refine hK.out _ _ ?_;exact⟨b3,true,true,true,_,_,_,_,q27,q31,rfl,rfl,(by have hKK:=HKK.out;exact hk' _ _ _ (by decide) (by decide) hKK),Ch.call hk'.kp ⟨true,false,(.slice (some ⟨q31,0,none⟩) 1 1),v32,q31,6,[vr]⟩ [] rfl [⟨b3,true,v27,(.pointer (some ⟨pp,0,none⟩)),q27,1,[pt]⟩] _ _ _ _ HCH.out rfl hw'⟩
 case hend=>
  rintro lb a w ⟨b3,b4,b7,b8,v27,v28,v31,v32,q27,q31,rfl,rfl,hKK,hch⟩ hall;have e9:b8=true:=hall 8 (by decide);subst e9;obtain⟨e1,hw⟩:=Ch.last [⟨b3,b4,v27,v28,q27,1,[pt]⟩,⟨b7,true,v31,v32,q31,6,[vr]⟩] _ _ _ _ hch rfl;have e1:v32=(.pointer (some ⟨pp,0,none⟩)):=e1;subst e1;clear hch;refine Cu ?_;have hw:Wat w1 pp (ax 6 [vr] (ax 1 [pt] (ax 1 [2] (some [])))) 24 w:=hw;rw[HST.out]at hw;have HW3:=hd_ hw;clear hw hKK;go_wp2_with fail;refine(eK pp _ _ w1 _ (by simp;try omega) HW3.out).mono ?_;rintro e w7 ⟨D,dc,rfl,hown7,hc7⟩;have HO7:=hd_ hown7;have HC7:=hd_ hc7;clear hown7 hc7;go_wp2_with fail;go_ret2;exact⟨D,dc,rfl,cT HO7.out HC1.out.size,HC1.out.tr HC7.out⟩
theorem xL(po ma ow ta ol ge ph ve si pt vr:Int)(A:Option Addr)(n c:Nat)(l:List Rc)(S:Nat→Prop)(w:World)(h:RcR w S A n l)(hn2:n≤9223372036854775807)(hr:msR 3 po ma ow ta ol ge ph ve si pt vr l=true)(hnb:bD pt vr=true)(hl:l.length≤16)(ha:l.all rcR=true)(hn:∀x∈l,RcN x):
  Calls Tryz.prog 185 #[.agg (msC 3 po ma ow ta ol ge ph ve si pt vr A n c)] w (Mk6 (msB 3 po ma ow ta ol ge ph ve si pt vr l) 0 w):=by
 have HST:=hd_ (ux po ma ow ta ol ge ph ve si pt vr hnb l hl ha hn);obtain⟨hb1,hb2⟩:=ce hnb;have hC0:=(Chg.refl (fun _=>False) w).alloc (.cells #[U Z 3,U Z po,U .u64 ma,U Z ow,U Z ta,U Z ol,U Z ge,U Z ph,U Z ve,U Z si,U Z pt,U Z vr,.slice A n c] 74);have hQ0:Blk (w.alloc (.cells #[U Z 3,U Z po,U .u64 ma,U Z ow,U Z ta,U Z ol,U Z ge,U Z ph,U Z ve,U Z si,U Z pt,U Z vr,.slice A n c] 74)) w.heap.size 74 (msC 3 po ma ow ta ol ge ph ve si pt vr A n c):=af rfl;have hrt:=df 3 po ma ow ta ol ge ph ve si pt vr A n c l S _ (h.alloc (.cells #[U Z 3,U Z po,U .u64 ma,U Z ow,U Z ta,U Z ol,U Z ge,U Z ph,U Z ve,U Z si,U Z pt,U Z vr,.slice A n c] 74)) hn2;have HH0:=hd_ (h.alloc (.cells #[U Z 3,U Z po,U .u64 ma,U Z ow,U Z ta,U Z ol,U Z ge,U Z ph,U Z ve,U Z si,U Z pt,U Z vr,.slice A n c] 74));have HL:=hd_ h.1;rw[hr]at hrt;have HRT:=hd_ hrt;have HC0:=hd_ hC0;have HQ0:=hd_ hQ0;clear h hr hrt hC0 hQ0;unfold msC at HRT⊢;go_in;go_wp2_with fail;refine HRT.out.mono ?_;rintro e w1 ⟨rfl,hc1⟩;have HQ1:=hd_ (HQ0.out.chg hc1 id);have HC1:=hd_ (HC0.out.tr hc1);have HH1:=hd_ (HH0.out.chg hc1 (fun _ _=>id));obtain⟨y0,y1,y2,y3,y4,y5,y6,y7,y8,y9,y10,y11,y12⟩:=cy HQ1.out ((Chg.refl (fun _=>False) w1).alloc (.cells #[.slice none 0 0,.bool false] 243));have HPUT:=hd_ (bI w1.heap.size (w1.heap.size+1) 0 1 [3] (some []) w1 ((w1.alloc (.cells #[.slice none 0 0,.bool false] 243)).alloc (.cells #[U Z 3] 3)) ((Wat.start ((Chg.refl _ _).alloc _) (zG _) (af rfl)).alloc _) (af (by simp)) (fun x hx=>by simp only[Az]at hx;omega) (by simp));clear HRT hc1 HC0 HQ0 HH0;go_wp2_with fail;refine HPUT.out.mono ?_;rintro e w2 ⟨rfl,hw2,_⟩;have HW2:Hid (Wat w1 w1.heap.size (ax 1 [3] (some [])) 8 w2):=hd_ hw2;have HX:=hd_ hw2.was;clear hw2 HPUT y0 y1 y2 y3 y4 y5 y6 y7 y8 y9 y10 y11 y12;obtain⟨y0,y1,y2,y3,y4,y5,y6,y7,y8,y9,y10,y11,y12⟩:=cy HQ1.out HX.out;generalize hpp:w1.heap.size=pp at*;have HPP:=hd_ hpp;clear hpp;generalize w.heap.size=g at*;have HB0:=hd_ (HQ1.out.chg HX.out id);go_upto_region 10 with fail;clear y0 y1 y2 y3 y4 y5 y6 y7 y8 y9 y10 y11 y12;have HAA:=hd_ ha;have HNN:=hd_ hn;clear ha hn;refine Cr ?_;refine Cs (S:=(fun w=>w.cell? ⟨g,0,none⟩=some (U Z 3)∧w.cell? ⟨g,1,none⟩=some (U Z po)∧w.cell? ⟨g,2,none⟩=some (U .u64 ma)∧w.cell? ⟨g,3,none⟩=some (U Z ow)∧w.cell? ⟨g,4,none⟩=some (U Z ta)∧w.cell? ⟨g,5,none⟩=some (U Z ol)∧w.cell? ⟨g,6,none⟩=some (U Z ge)∧w.cell? ⟨g,7,none⟩=some (U Z ph)∧w.cell? ⟨g,8,none⟩=some (U Z ve)∧w.cell? ⟨g,9,none⟩=some (U Z si)∧w.cell? ⟨g,10,none⟩=some (U Z pt)∧w.cell? ⟨g,11,none⟩=some (U Z vr)∧w.cell? ⟨g,12,none⟩=some (.slice A n c))) (by kernel_rfl) (by have hKK:=HB0.out;exact ai hKK) (fun hHeld=>?_)
 iterate 5
  first
   |refine tk 0 (.pointer (some ⟨pp,0,none⟩)) ?_ ?_
   |refine tk 1 (.pointer (some ⟨g,10,none⟩)) ?_ ?_
   |refine tk 2 (U Z pt) ?_ ?_
   |refine tk 5 (.pointer (some ⟨g,11,none⟩)) ?_ ?_
   |refine tk 6 (U Z vr) ?_ ?_
  ·intro w' hSw;(try dsimp only at hSw);obtain⟨s0,s1,s2,s3,s4,s5,s6,s7,s8,s9,s10,s11,s12⟩:=hSw;go_simp;first|done|(with_reducible rfl)
  try simp only[AZ,A7,A8,Act.put,AQ,AS,AR]
 refine d_ (fun lb a w=>∃(b3 b4 b7 b8:Bool) (v38 v39 v42 v43:Value) (q38 q42:Nat),lb=#[true,true,true,b3,b4,true,true,b7,b8]∧a={tmps:=#[.agg #[U Z 3,U Z po,U .u64 ma,U Z ow,U Z ta,U Z ol,U Z ge,U Z ph,U Z ve,U Z si,U Z pt,U Z vr,.slice A n c],.pointer (some ⟨g,0,none⟩),.slice none 0 0,U Z 0,.pointer (some ⟨pp,0,none⟩),.agg #[U Z 3,U Z po,U .u64 ma,U Z ow,U Z ta,U Z ol,U Z ge,U Z ph,U Z ve,U Z si,U Z pt,U Z vr,.slice A n c],.bool true,.bool false,.agg #[.slice none 0 0,.bool false],.pointer (some ⟨pp,0,none⟩),.pointer (some ⟨g,0,none⟩),U Z 3,.slice (some ⟨pp+1,0,none⟩) 1 1,.pointer (some ⟨pp,0,none⟩),.pointer (some ⟨g,0,none⟩),U Z 3,.bool false,.bool false,undef,undef,undef,undef,.bool false,.bool false,undef,undef,undef,undef,undef,undef,undef,undef,undef,.bool true,.bool true,.pointer (some ⟨pp,0,none⟩),.pointer (some ⟨g,10,none⟩),U Z pt,v38,v39,.pointer (some ⟨g,11,none⟩),U Z vr,v42,v43,undef,undef,undef,undef,undef,undef,undef,undef],defers:=[]}∧(Blk w g 74 (msC 3 po ma ow ta ol ge ph ve si pt vr A n c))∧Ch w1 w pp true (.pointer (some ⟨pp,0,none⟩)) (ax 1 [3] (some [])) (8) [⟨b3,b4,v38,v39,q38,1,[pt]⟩,⟨b7,b8,v42,v43,q42,6,[vr]⟩]) ?hsz ?hS (by kernel_rfl) ?hend ?hops 4 #[true,true,true,false,false,true,true,false,false] _ _ (by decide) ?hstart
 case hsz=>
  rintro lb a w ⟨b3,b4,b7,b8,v38,v39,v42,v43,q38,q42,rfl,rfl,hKK,hch⟩;rfl
 case hS=>
  rintro lb a w ⟨b3,b4,b7,b8,v38,v39,v42,v43,q38,q42,rfl,rfl,hKK,hch⟩;exact ai hKK
 case hstart=>
  exact⟨false,false,false,false,_,_,_,_,0,0,rfl,rfl,HB0.out,⟨(fun _=>rfl),(fun h=>by cases h),(fun _=>rfl),(fun _ _=>HW2.out.drew),⟨(fun h=>by cases h),(fun h=>by cases h),(fun h=>by cases h),(fun h=>by cases h),(fun h=>by cases h)⟩⟩⟩
 case hops=>
  refine⟨?_,?_,?_,?_,?_,?_,?_,?_,?_,trivial⟩
  ·intro lb a w hI hun hdep K hK;obtain⟨b3,b4,b7,b8,v38,v39,v42,v43,q38,q42,rfl,rfl,hKK,hch⟩:=hI;cases (show true=false from hun)
  ·intro lb a w hI hun hdep K hK;obtain⟨b3,b4,b7,b8,v38,v39,v42,v43,q38,q42,rfl,rfl,hKK,hch⟩:=hI;cases (show true=false from hun)
  ·intro lb a w hI hun hdep K hK;obtain⟨b3,b4,b7,b8,v38,v39,v42,v43,q38,q42,rfl,rfl,hKK,hch⟩:=hI;cases (show true=false from hun)
  ·intro lb a w hI hun hdep K hK;obtain⟨b3,b4,b7,b8,v38,v39,v42,v43,q38,q42,rfl,rfl,hKK,hch⟩:=hI;have hb:b3=false:=hun;subst hb;have HCH:=hd_ hch;have HKK:=hd_ hKK;clear hch hKK hdep;go_simp;refine hK.out _ _ ?_;exact⟨true,b4,b7,b8,_,_,_,_,w.heap.size,q42,rfl,rfl,(by have hKK:=HKK.out;exact hKK.alloc _),Ch.lay ((Chg.refl _ _).alloc _) w.heap.size ⟨false,b4,v38,v39,q38,1,[pt]⟩ [⟨b7,b8,v42,v43,q42,6,[vr]⟩] (af rfl) [] _ _ _ _ HCH.out⟩
  ·intro lb a w hI hun hdep K hK;obtain⟨b3,b4,b7,b8,v38,v39,v42,v43,q38,q42,rfl,rfl,hKK,hch⟩:=hI;have hb:b4=false:=hun;subst hb;have ha:b3=true:=hdep ⟨3,.data⟩ (by simp) rfl;subst ha;obtain⟨e1,e2,hblk,hwat⟩:=Ch.find ⟨true,false,v38,v39,q38,1,[pt]⟩ [⟨b7,b8,v42,v43,q42,6,[vr]⟩] rfl rfl [] _ _ _ _ hch rfl;have e2:v38=.slice (some ⟨q38,0,none⟩) 1 1:=e2;subst e2;have HPUT:=hd_ (bI pp q38 _ 1 [pt] _ w1 w hwat hblk (fun x hx=>by simp only[Cx,Cy,or_false]at hx;subst hx;omega) (by simp[nOf]));have HCH:=hd_ hch;have HKK:=hd_ hKK;clear hch hKK hdep hwat hblk e1;go_simp;refine HPUT.out.mono ?_;rintro e w' ⟨rfl,hw',hk'⟩;go_wp2_with fail;refine hK.out _ _ ?_;exact⟨true,true,b7,b8,_,_,_,_,q38,q42,rfl,rfl,(by have hKK:=HKK.out;exact hk' _ _ _ (by decide) (by decide) hKK),Ch.call hk'.kp ⟨true,false,(.slice (some ⟨q38,0,none⟩) 1 1),v39,q38,1,[pt]⟩ [⟨b7,b8,v42,v43,q42,6,[vr]⟩] rfl [] _ _ _ _ HCH.out rfl hw'⟩
  ·intro lb a w hI hun hdep K hK;obtain⟨b3,b4,b7,b8,v38,v39,v42,v43,q38,q42,rfl,rfl,hKK,hch⟩:=hI;cases (show true=false from hun)
  ·intro lb a w hI hun hdep K hK;obtain⟨b3,b4,b7,b8,v38,v39,v42,v43,q38,q42,rfl,rfl,hKK,hch⟩:=hI;cases (show true=false from hun)
  ·intro lb a w hI hun hdep K hK;obtain⟨b3,b4,b7,b8,v38,v39,v42,v43,q38,q42,rfl,rfl,hKK,hch⟩:=hI;have hb:b7=false:=hun;subst hb;have HCH:=hd_ hch;have HKK:=hd_ hKK;clear hch hKK hdep;go_simp;refine hK.out _ _ ?_;exact⟨b3,b4,true,b8,_,_,_,_,q38,w.heap.size,rfl,rfl,(by have hKK:=HKK.out;exact hKK.alloc _),Ch.lay ((Chg.refl _ _).alloc _) w.heap.size ⟨false,b8,v42,v43,q42,6,[vr]⟩ [] (af rfl) [⟨b3,b4,v38,v39,q38,1,[pt]⟩] _ _ _ _ HCH.out⟩
  ·intro lb a w hI hun hdep K hK;obtain⟨b3,b4,b7,b8,v38,v39,v42,v43,q38,q42,rfl,rfl,hKK,hch⟩:=hI;have hb:b8=false:=hun;subst hb;have ha:b7=true:=hdep ⟨7,.data⟩ (by simp) rfl;subst ha;have hp:b4=true:=hdep ⟨4,.data⟩ (by simp) rfl;subst hp;obtain⟨e1,e2,hblk,hwat⟩:=Ch.find ⟨true,false,v42,v43,q42,6,[vr]⟩ [] rfl rfl [⟨b3,true,v38,v39,q38,1,[pt]⟩] _ _ _ _ hch rfl;have e1:v39=(.pointer (some ⟨pp,0,none⟩)):=e1;subst e1;have e2:v42=.slice (some ⟨q42,0,none⟩) 1 1:=e2;subst e2;have HPUT:=hd_ (bI pp q42 _ 6 [vr] _ w1 w hwat hblk (fun x hx=>by simp only[Cx,Cy,or_false]at hx;subst hx;omega) (by simp[nOf]));have HCH:=hd_ hch;have HKK:=hd_ hKK;clear hch hKK hdep hwat hblk;go_simp;refine HPUT.out.mono ?_;rintro e w' ⟨rfl,hw',hk'⟩;go_wp2_with fail;refine hK.out _ _ ?_;exact⟨b3,true,true,true,_,_,_,_,q38,q42,rfl,rfl,(by have hKK:=HKK.out;exact hk' _ _ _ (by decide) (by decide) hKK),Ch.call hk'.kp ⟨true,false,(.slice (some ⟨q42,0,none⟩) 1 1),v43,q42,6,[vr]⟩ [] rfl [⟨b3,true,v38,(.pointer (some ⟨pp,0,none⟩)),q38,1,[pt]⟩] _ _ _ _ HCH.out rfl hw'⟩
 case hend=>
  rintro lb a w ⟨b3,b4,b7,b8,v38,v39,v42,v43,q38,q42,rfl,rfl,hKK,hch⟩ hall;have e9:b8=true:=hall 8 (by decide);subst e9;obtain⟨e1,hw⟩:=Ch.last [⟨b3,b4,v38,v39,q38,1,[pt]⟩,⟨b7,true,v42,v43,q42,6,[vr]⟩] _ _ _ _ hch rfl;have e1:v43=(.pointer (some ⟨pp,0,none⟩)):=e1;subst e1;clear hch;refine Cu ?_;have hw:Wat w1 pp (ax 6 [vr] (ax 1 [pt] (ax 1 [3] (some [])))) 24 w:=hw;obtain⟨y0,y1,y2,y3,y4,y5,y6,y7,y8,y9,y10,y11,y12⟩:=ai hKK;have HPS:=hd_ (p_ pp 24 A n c l S _ w1 w HH1.out HAA.out HNN.out (by have:=HL.out;omega) (by decide) hw);clear hw hKK;go_wp2_with fail;refine HPS.out.mono ?_;rintro e w3 ⟨rfl,hw3,_⟩;rw[HL.out,HST.out]at hw3;have HW3:=hd_ hw3;clear hw3 HPS y0 y1 y2 y3 y4 y5 y6 y7 y8 y9 y10 y11 y12;go_wp2_with fail;refine(eK pp _ _ w1 _ (by simp;try omega) HW3.out).mono ?_;rintro e w7 ⟨D,dc,rfl,hown7,hc7⟩;have HO7:=hd_ hown7;have HC7:=hd_ hc7;clear hown7 hc7;go_wp2_with fail;go_ret2;exact⟨D,dc,rfl,cT HO7.out HC1.out.size,HC1.out.tr HC7.out⟩
theorem uz(kd po ma ow ta ol ge ph ve si pt vr:Int)(A:Option Addr)(n c:Nat)(l:List Rc)(S:Nat→Prop)(w:World)(h:RcR w S A n l)(hn2:n≤9223372036854775807)(hN:MsN kd po ma ow ta ol ge ph ve si pt vr l):
  Calls Tryz.prog 185 #[.agg (msC kd po ma ow ta ol ge ph ve si pt vr A n c)] w (Mk6 (if msR kd po ma ow ta ol ge ph ve si pt vr l then msB kd po ma ow ta ol ge ph ve si pt vr l else []) (if msR kd po ma ow ta ol ge ph ve si pt vr l then 0 else 1) w):=by
 cases hr:msR kd po ma ow ta ol ge ph ve si pt vr l with
 |false=>exact uy kd po ma ow ta ol ge ph ve si pt vr A n c l S w h hn2 hr
 |true=>
  rcases gO hr with⟨rfl,hrw,_⟩|⟨rfl,_,hnb,_⟩|⟨rfl,_,hnb,hl,ha⟩
  ·exact xJ po ma ow ta ol ge ph ve si pt vr A n c l S w h hn2 hr hrw hN.1.1
  ·exact xK po ma ow ta ol ge ph ve si pt vr A n c l S w h hn2 hr hnb
  ·exact xL po ma ow ta ol ge ph ve si pt vr A n c l S w h hn2 hr hnb hl ha hN.2
def Kp7(w w':World):Prop:=∀(q:Nat) (T:TypeId) (cs:Array Value),T≠213→T≠5→Blk w q T cs→Blk w' q T cs
def Rat(w1:World)(p:Nat)(st:Option (List UInt8))(N:Nat)(w:World):Prop:=
 ∃o,Wr 213 5 w p o st N∧Chg (fun _=>False) w1 w∧w1.heap.size≤p∧(∀k,o=some k→w1.heap.size≤k)
section
variable {w1 w w' : World} {p : Nat} {st : Option (List UInt8)} {N : Nat}
theorem Rat.was(h:Rat w1 p st N w):Chg (fun _=>False) w1 w:=by
 obtain⟨o,_,hc,_⟩:=h;exact hc
theorem Rat.chg(h:Rat w1 p st N w)(hc:Chg (fun _=>False) w w'):Rat w1 p st N w':=by
 obtain⟨o,hw,hC,hp,ho⟩:=h;exact⟨o,hw.chg hc id (fun _ _=>id),hC.tr hc,hp,ho⟩
theorem Rat.alloc(h:Rat w1 p st N w)(o:Obj):Rat w1 p st N (w.alloc o):=h.chg ((Chg.refl _ w).alloc o)
theorem Rat.start(hC:Chg (fun _=>False) w1 w)(hp:w1.heap.size≤p)(hb:Blk w p 213 #[.slice none 0 0,.bool false]):Rat w1 p (some []) 0 w:=
 ⟨none,⟨[],false,none,0,⟨hb,As _ 0 _ 1,rfl,by simp⟩,zG _,rfl,rfl⟩,hC,hp,fun k hk=>by cases hk⟩
theorem Rat.shows{b:List UInt8}(h:Rat w1 p (some b) N w):∃A c,w.cell? ⟨p,0,none⟩=some (.slice A b.length c)∧w.cell? ⟨p,1,none⟩=some (.bool false)∧Rds w (fun _=>True) A b.length (bcs b)∧(A=none→c=0):=by
 obtain⟨o,⟨bs,f,A,c,hob,_,hf,rfl⟩,_⟩:=h;subst hf;have hb:Blk w p 213 #[.slice A b.length c,.bool false]:=hob.blk;have c0:=hb.cell 0;have c1:=hb.cell 1;simp only[Ap,Aq,Ar]at c0 c1;exact⟨A,c,c0,c1,(d5 hob.own).mono (fun _ _=>trivial),d7 hob.own⟩
end
theorem aR(p N:Nat)(n x:Int)(st:Option (List UInt8))(w1 W:World)(h:Rat w1 p st N W)(hx:x≤9223372036854775807)(hN:N+8≤1000000000000):
  Calls Tryz.prog 132 #[.pointer (some ⟨p,0,none⟩),U Z n,U Z x] W fun e w'=>e=.returned (.tuple #[])∧Rat w1 p (aJ n st x) (N+8) w'∧Kp7 W w':=by
 obtain⟨o,hwr,hC,hp,ho⟩:=h
 have hkeep:∀(q:Nat) (T:TypeId) (cs:Array Value),T≠213→T≠5→Blk W q T cs→q≠p∧o≠some q:=by
  intro q T cs hT1 hT2 hq;obtain⟨bs,f,A,c,hob,_⟩:=hwr;refine⟨?_,?_⟩
  ·rintro rfl;have h:Blk W q _ _:=hob.blk;have h:=h.symm.trans hq;simp only[AP.injEq,Obj.cells.injEq]at h;exact hT1 h.2.1.symm
  ·rintro rfl;have ha:=hob.at_;rcases hob.own.2 with⟨e,_⟩|⟨g,cap,cur,e,_,hh,_⟩
   ·injection e with e;subst e;cases ha
   ·injection e with e;subst e;injection ha with ha;have ha:g=q:=ha;subst ha;have h:=hh.symm.trans hq;simp only[AP.injEq,Obj.cells.injEq]at h;exact hT2 h.2.1.symm
 refine(tP p o st N n x W hwr hx hN).mono fun e w' ⟨he,o',hw',hm'⟩=>?_;obtain⟨h1,h2⟩:=gE hC hm' hp ho;refine⟨he,⟨o',hw',h1,hp,h2⟩,fun q' T cs hT1 hT2 hb=>hb.chg hm'.1 ?_⟩;obtain⟨e1,e2⟩:=hkeep q' T cs hT1 hT2 hb;rintro(h|h)
 ·exact e1 h
 ·exact e2 h
theorem bW(n:Nat){x:Int}(b:List UInt8)(hn:1≤n∧n≤8)(hf:a_ n x=true):aJ (n:Int) (some b) x=some (b++be n x.toNat):=by
 unfold aJ;rw[if_pos (by unfold d9;rw[Al,hf];simp;omega),Al];rfl
def mq(po ma ow ta ol ge ph ve si:Int)(st:Option (List UInt8)):Option (List UInt8):=aJ 6 (aJ 6 (aJ 5 (aJ 1 (aJ 1 (aJ 1 (aJ 1 (aJ 6 (aJ 1 st po) ma) (ow+1)) (ta+1)) (ol+1)) ph) ge) ve) si
def mr(x:Rc)(st:Option (List UInt8)):Option (List UInt8):=aJ 6 (aJ 2 (aJ 2 (aJ 4 (aJ 4 (aJ 1 st x.pr) x.sr) x.ds) x.sp) x.dp) x.un
def dh(l:List Rc)(st:Option (List UInt8)):Option (List UInt8):=l.foldl (fun s x=>mr x s) st
theorem uA{po ma ow ta ol ge ph ve si:Int}(h:rwR po ma ow ta ol ge ph ve si=true)(hm:0≤ma)(b:List UInt8):mq po ma ow ta ol ge ph ve si (some b)=some (b++cC po ma ow ta ol ge ph ve si):=by
 obtain⟨h1,h2,h3,h4,h5,h6,h7,h8,h9⟩:=fs h;have e1:=fun b=>bW 1 (x:=po) b (by decide) (az 1 (by omega) (by omega));have e2:=fun b=>bW 6 (x:=ma) b (by decide) (az 6 (by omega) (by omega));have e3:=fun b=>bW 1 (x:=ow+1) b (by decide) (az 1 (by omega) (by omega));have e4:=fun b=>bW 1 (x:=ta+1) b (by decide) (az 1 (by omega) (by omega));have e5:=fun b=>bW 1 (x:=ol+1) b (by decide) (az 1 (by omega) (by omega));have e6:=fun b=>bW 1 (x:=ph) b (by decide) (az 1 (by omega) (by omega));have e7:=fun b=>bW 5 (x:=ge) b (by decide) (az 5 (by omega) (by omega));have e8:=fun b=>bW 6 (x:=ve) b (by decide) (az 6 (by omega) (by omega));have e9:=fun b=>bW 6 (x:=si) b (by decide) (az 6 (by omega) (by omega));have n1:((1:Nat):Int)=1:=rfl;have n5:((5:Nat):Int)=5:=rfl;have n6:((6:Nat):Int)=6:=rfl;rw[n1]at e1 e3 e4 e5 e6;rw[n5]at e7;rw[n6]at e2 e8 e9;unfold mq;rw[e1,e2,e3,e4,e5,e6,e7,e8,e9];simp[cC]
theorem uB{x:Rc}(h:rcR x=true)(hn:RcN x)(b:List UInt8):mr x (some b)=some (b++dl x):=by
 obtain⟨h1,h2,h3,h4⟩:=eI h;obtain⟨h5,h6⟩:=hn;have e1:=fun b=>bW 1 (x:=x.pr) b (by decide) (az 1 (by omega) (by omega));have e2:=fun b=>bW 4 (x:=x.sr) b (by decide) (az 4 (by omega) (by omega));have e3:=fun b=>bW 4 (x:=x.ds) b (by decide) (az 4 (by omega) (by omega));have e4:=fun b=>bW 2 (x:=x.sp) b (by decide) (az 2 (by omega) (by omega));have e5:=fun b=>bW 2 (x:=x.dp) b (by decide) (az 2 (by omega) (by omega));have e6:=fun b=>bW 6 (x:=x.un) b (by decide) (az 6 (by omega) (by omega));have n1:((1:Nat):Int)=1:=rfl;have n2:((2:Nat):Int)=2:=rfl;have n4:((4:Nat):Int)=4:=rfl;have n6:((6:Nat):Int)=6:=rfl;rw[n1]at e1;rw[n4]at e2 e3;rw[n2]at e4 e5;rw[n6]at e6;unfold mr;rw[e1,e2,e3,e4,e5,e6];simp[dl]
theorem lT:∀{l:List Rc} (h:l.all rcR=true) (hn:∀x∈l,RcN x) (b:List UInt8),dh l (some b)=some (b++aZ l)
 |[],_,_,b=>by simp[dh,aZ]
 |x::r,h,hn,b=>by
  simp only[AT,AI]at h;have e:=lT (l:=r) h.2 (fun y hy=>hn y (by simp[hy])) (b++dl x);have e2:=uB h.1 (hn x (by simp)) b;unfold dh at e⊢;rw[List.foldl_cons,e2,e];simp[aZ]
theorem jG{l:List Rc}{k:Nat}{x:Rc}(h:l[k]?=some x)(st:Option (List UInt8)):dh (l.take (k+1)) st=mr x (dh (l.take k) st):=by
 obtain⟨hk,rfl⟩:=zS.1 h;unfold dh;rw[List.take_succ_eq_append_getElem hk,List.foldl_append];rfl
theorem jH(l:List Rc)(st:Option (List UInt8)):dh (l.take 0) st=st:=rfl
theorem dD(n x:Int)(b:List UInt8)(hn:1≤n∧n≤8)(hf:a_ n.toNat x=true):aJ n (some b) x=some (b++be n.toNat x.toNat):=by
 unfold aJ;rw[if_pos (by unfold d9;rw[hf];simp;omega)];rfl
theorem wF(po ma ow ta ol ge ph ve si:Int)(h:rwR po ma ow ta ol ge ph ve si=true)(hm:0≤ma)(pt vr:Int)(l:List Rc):mq po ma ow ta ol ge ph ve si (aJ 1 (some []) 1)=some (msB 1 po ma ow ta ol ge ph ve si pt vr l):=by
 rw[dD 1 1 [] (by decide) (by decide),uA h hm];rfl
theorem wG(po ma ow ta ol ge ph ve si pt vr:Int)(h:bD pt vr=true)(l:List Rc)(hl:l=[]):dh l (aJ 6 (aJ 1 (aJ 1 (some []) 2) pt) vr)=some (msB 2 po ma ow ta ol ge ph ve si pt vr l):=by
 obtain⟨h1,h2⟩:=ce h;subst hl;rw[dD 1 2 [] (by decide) (by decide),dD 1 pt _ (by decide) (az 1 (by omega) (by omega)),dD 6 vr _ (by decide) (az 6 (by omega) (by omega))];simp[msB,dh]
theorem sg(po ma ow ta ol ge ph ve si pt vr:Int)(h:bD pt vr=true)(l:List Rc)(hl:l.length≤16)(ha:l.all rcR=true)(hn:∀x∈l,RcN x):
  dh l (aJ 1 (aJ 6 (aJ 1 (aJ 1 (some []) 3) pt) vr) (l.length:Int))=some (msB 3 po ma ow ta ol ge ph ve si pt vr l):=by
 obtain⟨h1,h2⟩:=ce h;rw[dD 1 3 [] (by decide) (by decide),dD 1 pt _ (by decide) (az 1 (by omega) (by omega)),dD 6 vr _ (by decide) (az 6 (by omega) (by omega)),dD 1 (l.length:Int) _ (by decide) (az 1 (by omega) (by omega)),lT ha hn];simp[msB]
def Bt(m:List UInt8)(w:World)(e:Ending)(w':World):Prop:=∃E d,e=.returned (.slice E m.length d)∧Rds w' (fun _=>True) E m.length (bcs m)∧(E=none→d=0)∧Chg (fun _=>False) w w'
theorem sh(po ma ow ta ol ge ph ve si pt vr:Int)(A:Option Addr)(n c:Nat)(l:List Rc)(S:Nat→Prop)(w:World)(h:RcR w S A n l)(hn2:n≤9223372036854775807)(hrw:rwR po ma ow ta ol ge ph ve si=true)(hm:0≤ma):
  Calls Tryz.prog 68 #[.agg (msC 1 po ma ow ta ol ge ph ve si pt vr A n c)] w (Bt (msB 1 po ma ow ta ol ge ph ve si pt vr l) w):=by
 have HST:=hd_ (wF po ma ow ta ol ge ph ve si hrw hm pt vr l);obtain⟨h1,h2,h3,h4,h5,h6,h7,h8,h9⟩:=fs hrw;have a1:IntKind.i64.wrap ma=ma:=bJ (by omega);have a2:IntKind.i64.wrap (ow+1)=ow+1:=bJ (by omega);have a3:IntKind.i64.wrap (ta+1)=ta+1:=bJ (by omega);have a4:IntKind.i64.wrap (ol+1)=ol+1:=bJ (by omega);clear hrw;have HQ:Hid (Blk ((w.alloc (.cells #[U Z 1,U Z po,U .u64 ma,U Z ow,U Z ta,U Z ol,U Z ge,U Z ph,U Z ve,U Z si,U Z pt,U Z vr,.slice A n c] 74)).alloc (.cells #[.slice none 0 0,.bool false] 213)) w.heap.size 74 (msC 1 po ma ow ta ol ge ph ve si pt vr A n c)):=hd_ ((af rfl).alloc _);have HW:Hid (Rat w (w.heap.size+1) (some []) 0 ((w.alloc (.cells #[U Z 1,U Z po,U .u64 ma,U Z ow,U Z ta,U Z ol,U Z ge,U Z ph,U Z ve,U Z si,U Z pt,U Z vr,.slice A n c] 74)).alloc (.cells #[.slice none 0 0,.bool false] 213))):=hd_ (Rat.start (((Chg.refl _ _).alloc _).alloc _) (Cz _) (af (by simp)));have HH:=hd_ h;have HL:=hd_ h.1;clear h;unfold msC;generalize hpp:w.heap.size+1=pp at HW;go_in;go_upto_region 2 with fail;generalize ((w.alloc (.cells #[U Z 1,U Z po,U .u64 ma,U Z ow,U Z ta,U Z ol,U Z ge,U Z ph,U Z ve,U Z si,U Z pt,U Z vr,.slice A n c] 74)).alloc (.cells #[.slice none 0 0,.bool false] 213))=W0 at*;have HPP:=hd_ hpp;clear hpp;obtain⟨y0,y1,y2,y3,y4,y5,y6,y7,y8,y9,y10,y11,y12⟩:=ai HQ.out;have HP:=hd_ (aR pp _ 1 1 _ w _ HW.out (by omega) (by omega));go_wp2_with fail;refine HP.out.mono ?_;rintro e v0 ⟨rfl,hw',hk'⟩;replace HW:=hd_ hw';replace HQ:=hd_ (hk' _ _ _ (by decide) (by decide) HQ.out);clear hw' hk' HP y0 y1 y2 y3 y4 y5 y6 y7 y8 y9 y10 y11 y12;obtain⟨y0,y1,y2,y3,y4,y5,y6,y7,y8,y9,y10,y11,y12⟩:=ai HQ.out;have HB:Hid (Blk (v0.alloc (.cells #[U Z po,U .u64 ma,U Z ow,U Z ta,U Z ol,U Z ge,U Z ph,U Z ve,U Z si] 60)) v0.heap.size 60 (rvC po ma ow ta ol ge ph ve si)):=hd_ (af rfl);replace HW:=hd_ (HW.out.alloc (.cells #[U Z po,U .u64 ma,U Z ow,U Z ta,U Z ol,U Z ge,U Z ph,U Z ve,U Z si] 60));clear HQ;have HP:=hd_ (aR pp _ 1 po _ w _ HW.out (by omega) (by omega));go_wp2_with fail;refine HP.out.mono ?_;rintro e v1 ⟨rfl,hw',hk'⟩;replace HW:=hd_ hw';replace HB:=hd_ (hk' _ _ _ (by decide) (by decide) HB.out);clear hw' hk' HP y0 y1 y2 y3 y4 y5 y6 y7 y8 y9 y10 y11 y12;obtain⟨z0,z1,z2,z3,z4,z5,z6,z7,z8⟩:=aa HB.out;have HP:=hd_ (aR pp _ 6 ma _ w _ HW.out (by omega) (by omega));go_wp2_with fail;refine HP.out.mono ?_;rintro e v2 ⟨rfl,hw',hk'⟩;replace HW:=hd_ hw';replace HB:=hd_ (hk' _ _ _ (by decide) (by decide) HB.out);clear hw' hk' HP z0 z1 z2 z3 z4 z5 z6 z7 z8;obtain⟨z0,z1,z2,z3,z4,z5,z6,z7,z8⟩:=aa HB.out;have HP:=hd_ (aR pp _ 1 (ow+1) _ w _ HW.out (by omega) (by omega));go_wp2_with fail;refine HP.out.mono ?_;rintro e v3 ⟨rfl,hw',hk'⟩;replace HW:=hd_ hw';replace HB:=hd_ (hk' _ _ _ (by decide) (by decide) HB.out);clear hw' hk' HP z0 z1 z2 z3 z4 z5 z6 z7 z8;obtain⟨z0,z1,z2,z3,z4,z5,z6,z7,z8⟩:=aa HB.out;have HP:=hd_ (aR pp _ 1 (ta+1) _ w _ HW.out (by omega) (by omega));go_wp2_with fail;refine HP.out.mono ?_;rintro e v4 ⟨rfl,hw',hk'⟩;replace HW:=hd_ hw';replace HB:=hd_ (hk' _ _ _ (by decide) (by decide) HB.out);clear hw' hk' HP z0 z1 z2 z3 z4 z5 z6 z7 z8;obtain⟨z0,z1,z2,z3,z4,z5,z6,z7,z8⟩:=aa HB.out;have HP:=hd_ (aR pp _ 1 (ol+1) _ w _ HW.out (by omega) (by omega));go_wp2_with fail;refine HP.out.mono ?_;rintro e v5 ⟨rfl,hw',hk'⟩;replace HW:=hd_ hw';replace HB:=hd_ (hk' _ _ _ (by decide) (by decide) HB.out);clear hw' hk' HP z0 z1 z2 z3 z4 z5 z6 z7 z8;obtain⟨z0,z1,z2,z3,z4,z5,z6,z7,z8⟩:=aa HB.out;have HP:=hd_ (aR pp _ 1 ph _ w _ HW.out (by omega) (by omega));go_wp2_with fail;refine HP.out.mono ?_;rintro e v6 ⟨rfl,hw',hk'⟩;replace HW:=hd_ hw';replace HB:=hd_ (hk' _ _ _ (by decide) (by decide) HB.out);clear hw' hk' HP z0 z1 z2 z3 z4 z5 z6 z7 z8;obtain⟨z0,z1,z2,z3,z4,z5,z6,z7,z8⟩:=aa HB.out;have HP:=hd_ (aR pp _ 5 ge _ w _ HW.out (by omega) (by omega));go_wp2_with fail;refine HP.out.mono ?_;rintro e v7 ⟨rfl,hw',hk'⟩;replace HW:=hd_ hw';replace HB:=hd_ (hk' _ _ _ (by decide) (by decide) HB.out);clear hw' hk' HP z0 z1 z2 z3 z4 z5 z6 z7 z8;obtain⟨z0,z1,z2,z3,z4,z5,z6,z7,z8⟩:=aa HB.out;have HP:=hd_ (aR pp _ 6 ve _ w _ HW.out (by omega) (by omega));go_wp2_with fail;refine HP.out.mono ?_;rintro e v8 ⟨rfl,hw',hk'⟩;replace HW:=hd_ hw';replace HB:=hd_ (hk' _ _ _ (by decide) (by decide) HB.out);clear hw' hk' HP z0 z1 z2 z3 z4 z5 z6 z7 z8;obtain⟨z0,z1,z2,z3,z4,z5,z6,z7,z8⟩:=aa HB.out;have HP:=hd_ (aR pp _ 6 si _ w _ HW.out (by omega) (by omega));go_wp2_with fail;refine HP.out.mono ?_;rintro e v9 ⟨rfl,hw',hk'⟩;replace HW:=hd_ hw';replace HB:=hd_ (hk' _ _ _ (by decide) (by decide) HB.out);clear hw' hk' HP z0 z1 z2 z3 z4 z5 z6 z7 z8;obtain⟨z0,z1,z2,z3,z4,z5,z6,z7,z8⟩:=aa HB.out;have hw:Rat w pp (mq po ma ow ta ol ge ph ve si (aJ 1 (some []) 1)) 80 v9:=HW.out;rw[HST.out]at hw;replace HW:=hd_ hw;clear hw z0 z1 z2 z3 z4 z5 z6 z7 z8;obtain⟨E,d,x0,x1,hrd,hnil⟩:=HW.out.shows;have HRD:=hd_ hrd;clear hrd;go_wp2_with fail;go_ret;exact⟨E,d,rfl,HRD.out,hnil,HW.out.was⟩
theorem sj(po ma ow ta ol ge ph ve si pt vr:Int)(A:Option Addr)(n c:Nat)(l:List Rc)(S:Nat→Prop)(w:World)(h:RcR w S A n l)(hn2:n≤9223372036854775807)(hnb:bD pt vr=true)(hl:l=[]):
  Calls Tryz.prog 68 #[.agg (msC 2 po ma ow ta ol ge ph ve si pt vr A n c)] w (Bt (msB 2 po ma ow ta ol ge ph ve si pt vr l) w):=by
 have HST:=hd_ (wG po ma ow ta ol ge ph ve si pt vr hnb l hl);obtain⟨hb1,hb2⟩:=ce hnb;have HALL:Hid (l.all rcR=true):=hd_ (by rw[hl];rfl);have HN:Hid (∀x∈l,RcN x):=hd_ (by rw[hl];simp)
 have hn0:n≤16:=by rw[h.1,hl];decide
 clear hl;have HQ:Hid (Blk ((w.alloc (.cells #[U Z 2,U Z po,U .u64 ma,U Z ow,U Z ta,U Z ol,U Z ge,U Z ph,U Z ve,U Z si,U Z pt,U Z vr,.slice A n c] 74)).alloc (.cells #[.slice none 0 0,.bool false] 213)) w.heap.size 74 (msC 2 po ma ow ta ol ge ph ve si pt vr A n c)):=hd_ ((af rfl).alloc _);have HW:Hid (Rat w (w.heap.size+1) (some []) 0 ((w.alloc (.cells #[U Z 2,U Z po,U .u64 ma,U Z ow,U Z ta,U Z ol,U Z ge,U Z ph,U Z ve,U Z si,U Z pt,U Z vr,.slice A n c] 74)).alloc (.cells #[.slice none 0 0,.bool false] 213))):=hd_ (Rat.start (((Chg.refl _ _).alloc _).alloc _) (Cz _) (af (by simp)));have HH:=hd_ h;have HL:=hd_ h.1;clear h;unfold msC;generalize hpp:w.heap.size+1=pp at HW;go_in;go_upto_region 2 with fail;generalize ((w.alloc (.cells #[U Z 2,U Z po,U .u64 ma,U Z ow,U Z ta,U Z ol,U Z ge,U Z ph,U Z ve,U Z si,U Z pt,U Z vr,.slice A n c] 74)).alloc (.cells #[.slice none 0 0,.bool false] 213))=W0 at*;have HPP:=hd_ hpp;clear hpp;obtain⟨y0,y1,y2,y3,y4,y5,y6,y7,y8,y9,y10,y11,y12⟩:=ai HQ.out;have HP:=hd_ (aR pp _ 1 2 _ w _ HW.out (by omega) (by omega));go_wp2_with fail;refine HP.out.mono ?_;rintro e v0 ⟨rfl,hw',hk'⟩;replace HW:=hd_ hw';replace HQ:=hd_ (hk' _ _ _ (by decide) (by decide) HQ.out);clear hw' hk' HP y0 y1 y2 y3 y4 y5 y6 y7 y8 y9 y10 y11 y12;obtain⟨y0,y1,y2,y3,y4,y5,y6,y7,y8,y9,y10,y11,y12⟩:=ai HQ.out;have HP:=hd_ (aR pp _ 1 pt _ w _ HW.out (by omega) (by omega));go_wp2_with fail;refine HP.out.mono ?_;rintro e v1 ⟨rfl,hw',hk'⟩;replace HW:=hd_ hw';replace HQ:=hd_ (hk' _ _ _ (by decide) (by decide) HQ.out);clear hw' hk' HP y0 y1 y2 y3 y4 y5 y6 y7 y8 y9 y10 y11 y12;obtain⟨y0,y1,y2,y3,y4,y5,y6,y7,y8,y9,y10,y11,y12⟩:=ai HQ.out;have HP:=hd_ (aR pp _ 6 vr _ w _ HW.out (by omega) (by omega));go_wp2_with fail;refine HP.out.mono ?_;rintro e v2 ⟨rfl,hw',hk'⟩;replace HW:=hd_ hw';replace HQ:=hd_ (hk' _ _ _ (by decide) (by decide) HQ.out);clear hw' hk' HP y0 y1 y2 y3 y4 y5 y6 y7 y8 y9 y10 y11 y12;obtain⟨y0,y1,y2,y3,y4,y5,y6,y7,y8,y9,y10,y11,y12⟩:=ai HQ.out;have HW1:Hid (Rat w pp (dh (l.take 0) (aJ 6 (aJ 1 (aJ 1 (some []) 2) pt) vr)) (24+48*0) v2):=hd_ (by rw[jH];exact HW.out);clear HW;have HM:=hd_ HQ.out;go_wp2_with fail;clear y0 y1 y2 y3 y4 y5 y6 y7 y8 y9 y10 y11 y12
 go_loopg [5,6] n (fun g i s6 wr=>∃j:Nat,g=n-j∧j≤n∧i=U Z (j:Int)∧Hid (Rat w pp (dh (l.take j) (aJ 6 (aJ 1 (aJ 1 (some []) 2) pt) vr)) (24+48*j) wr)∧Hid (Blk wr w.heap.size 74 (msC 2 po ma ow ta ol ge ph ve si pt vr A n c)))
 case atStart=>exact⟨0,rfl,zP _,rfl,HW1,HQ⟩
 case round=>
  obtain⟨j,rfl,hj,rfl,HW,HQ⟩:=hrel;obtain⟨y0,y1,y2,y3,y4,y5,y6,y7,y8,y9,y10,y11,y12⟩:=ai HQ.out;by_cases hlt:j<n
  ·have hh:=HH.out.chg HW.out.was (fun _ _=>id);obtain⟨ad,rfl,_,_,_⟩:=hh.2 (by omega)
   have hjl:j<l.length:=by have:=HL.out;omega
   have hx:l[j]?=some l[j]:=zM hjl;generalize l[j]=x at*;obtain⟨z0,z1,z2,z3,z4,z5⟩:=hh.at hx;have HX:=hd_ hx;have hxr:rcR x=true:=AJ.1 HALL.out x (Be hx);have hxn:=HN.out x (Be hx);obtain⟨hp1,hp2,hp3,hp4⟩:=eI hxr;obtain⟨hp5,hp6⟩:=hxn;clear hx hh hxr;obtain⟨pr,sr,ds,sp,dp,un⟩:=x;dsimp only at z0 z1 z2 z3 z4 z5 hp1 hp2 hp3 hp4 hp5 hp6;have a1:IntKind.i64.wrap sr=sr:=bJ (by omega);have a2:IntKind.i64.wrap ds=ds:=bJ (by omega);have HB:Hid (Blk (wr.alloc (.cells #[U Z pr,U .u32 sr,U .u32 ds,U Z sp,U Z dp,U Z un] 219)) wr.heap.size 219 (rcC pr sr ds sp dp un)):=hd_ (af rfl);replace HW:=hd_ (HW.out.alloc (.cells #[U Z pr,U .u32 sr,U .u32 ds,U Z sp,U Z dp,U Z un] 219));replace HQ:=hd_ (HQ.out.alloc (.cells #[U Z pr,U .u32 sr,U .u32 ds,U Z sp,U Z dp,U Z un] 219));have HP:=hd_ (aR pp _ 1 pr _ w _ HW.out (by omega) (by omega));go_wp2_with fail;refine HP.out.mono ?_;rintro e u1 ⟨rfl,hw',hk'⟩;replace HW:=hd_ hw';replace HB:=hd_ (hk' _ _ _ (by decide) (by decide) HB.out);replace HQ:=hd_ (hk' _ _ _ (by decide) (by decide) HQ.out);clear hw' hk' HP y0 y1 y2 y3 y4 y5 y6 y7 y8 y9 y10 y11 y12;obtain⟨x0,x1,x2,x3,x4,x5⟩:=bH HB.out;obtain⟨y0,y1,y2,y3,y4,y5,y6,y7,y8,y9,y10,y11,y12⟩:=ai HQ.out;have HP:=hd_ (aR pp _ 4 sr _ w _ HW.out (by omega) (by omega));go_wp2_with fail;refine HP.out.mono ?_;rintro e u2 ⟨rfl,hw',hk'⟩;replace HW:=hd_ hw';replace HB:=hd_ (hk' _ _ _ (by decide) (by decide) HB.out);replace HQ:=hd_ (hk' _ _ _ (by decide) (by decide) HQ.out);clear hw' hk' HP x0 x1 x2 x3 x4 x5 y0 y1 y2 y3 y4 y5 y6 y7 y8 y9 y10 y11 y12;obtain⟨x0,x1,x2,x3,x4,x5⟩:=bH HB.out;obtain⟨y0,y1,y2,y3,y4,y5,y6,y7,y8,y9,y10,y11,y12⟩:=ai HQ.out;have HP:=hd_ (aR pp _ 4 ds _ w _ HW.out (by omega) (by omega));go_wp2_with fail;refine HP.out.mono ?_;rintro e u3 ⟨rfl,hw',hk'⟩;replace HW:=hd_ hw';replace HB:=hd_ (hk' _ _ _ (by decide) (by decide) HB.out);replace HQ:=hd_ (hk' _ _ _ (by decide) (by decide) HQ.out);clear hw' hk' HP x0 x1 x2 x3 x4 x5 y0 y1 y2 y3 y4 y5 y6 y7 y8 y9 y10 y11 y12;obtain⟨x0,x1,x2,x3,x4,x5⟩:=bH HB.out;obtain⟨y0,y1,y2,y3,y4,y5,y6,y7,y8,y9,y10,y11,y12⟩:=ai HQ.out;have HP:=hd_ (aR pp _ 2 sp _ w _ HW.out (by omega) (by omega));go_wp2_with fail;refine HP.out.mono ?_;rintro e u4 ⟨rfl,hw',hk'⟩;replace HW:=hd_ hw';replace HB:=hd_ (hk' _ _ _ (by decide) (by decide) HB.out);replace HQ:=hd_ (hk' _ _ _ (by decide) (by decide) HQ.out);clear hw' hk' HP x0 x1 x2 x3 x4 x5 y0 y1 y2 y3 y4 y5 y6 y7 y8 y9 y10 y11 y12;obtain⟨x0,x1,x2,x3,x4,x5⟩:=bH HB.out;obtain⟨y0,y1,y2,y3,y4,y5,y6,y7,y8,y9,y10,y11,y12⟩:=ai HQ.out;have HP:=hd_ (aR pp _ 2 dp _ w _ HW.out (by omega) (by omega));go_wp2_with fail;refine HP.out.mono ?_;rintro e u5 ⟨rfl,hw',hk'⟩;replace HW:=hd_ hw';replace HB:=hd_ (hk' _ _ _ (by decide) (by decide) HB.out);replace HQ:=hd_ (hk' _ _ _ (by decide) (by decide) HQ.out);clear hw' hk' HP x0 x1 x2 x3 x4 x5 y0 y1 y2 y3 y4 y5 y6 y7 y8 y9 y10 y11 y12;obtain⟨x0,x1,x2,x3,x4,x5⟩:=bH HB.out;obtain⟨y0,y1,y2,y3,y4,y5,y6,y7,y8,y9,y10,y11,y12⟩:=ai HQ.out;have HP:=hd_ (aR pp _ 6 un _ w _ HW.out (by omega) (by omega));go_wp2_with fail;refine HP.out.mono ?_;rintro e u6 ⟨rfl,hw',hk'⟩;replace HW:=hd_ hw';replace HB:=hd_ (hk' _ _ _ (by decide) (by decide) HB.out);replace HQ:=hd_ (hk' _ _ _ (by decide) (by decide) HQ.out);clear hw' hk' HP x0 x1 x2 x3 x4 x5 y0 y1 y2 y3 y4 y5 y6 y7 y8 y9 y10 y11 y12;obtain⟨x0,x1,x2,x3,x4,x5⟩:=bH HB.out;obtain⟨y0,y1,y2,y3,y4,y5,y6,y7,y8,y9,y10,y11,y12⟩:=ai HQ.out;go_wp2_with fail;go_roundg (n-(j+1))
   case measure=>omega
   case rel=>
    refine⟨j+1,rfl,by omega,by go_num,?_,HQ⟩;rw[jG HX.out]
    have e:24+48*(j+1)=24+48*j+8+8+8+8+8+8:=by omega
    rw[e];exact HW
  ·have hjn:n=j:=by omega
   subst hjn;have e:l.take n=l:=Ax (by rw[HL.out];exact zG _);have hw:=HW.out;rw[e,HST.out]at hw;replace HW:=hd_ hw;clear hw;obtain⟨E,d,x0,x1,hrd,hnil⟩:=HW.out.shows;have HRD:=hd_ hrd;clear hrd;go_wp2_with fail;go_ret;exact⟨E,d,rfl,HRD.out,hnil,HW.out.was⟩
theorem sk(po ma ow ta ol ge ph ve si pt vr:Int)(A:Option Addr)(n c:Nat)(l:List Rc)(S:Nat→Prop)(w:World)(h:RcR w S A n l)(hn2:n≤9223372036854775807)(hnb:bD pt vr=true)(hl:l.length≤16)(ha:l.all rcR=true)(hn:∀x∈l,RcN x):
  Calls Tryz.prog 68 #[.agg (msC 3 po ma ow ta ol ge ph ve si pt vr A n c)] w (Bt (msB 3 po ma ow ta ol ge ph ve si pt vr l) w):=by
 have HST:=hd_ (sg po ma ow ta ol ge ph ve si pt vr hnb l hl ha hn);obtain⟨hb1,hb2⟩:=ce hnb;have HALL:=hd_ ha;have HN:=hd_ hn
 have hn0:n≤16:=by rw[h.1];exact hl
 clear hl ha hn;have HQ:Hid (Blk ((w.alloc (.cells #[U Z 3,U Z po,U .u64 ma,U Z ow,U Z ta,U Z ol,U Z ge,U Z ph,U Z ve,U Z si,U Z pt,U Z vr,.slice A n c] 74)).alloc (.cells #[.slice none 0 0,.bool false] 213)) w.heap.size 74 (msC 3 po ma ow ta ol ge ph ve si pt vr A n c)):=hd_ ((af rfl).alloc _);have HW:Hid (Rat w (w.heap.size+1) (some []) 0 ((w.alloc (.cells #[U Z 3,U Z po,U .u64 ma,U Z ow,U Z ta,U Z ol,U Z ge,U Z ph,U Z ve,U Z si,U Z pt,U Z vr,.slice A n c] 74)).alloc (.cells #[.slice none 0 0,.bool false] 213))):=hd_ (Rat.start (((Chg.refl _ _).alloc _).alloc _) (Cz _) (af (by simp)));have HH:=hd_ h;have HL:=hd_ h.1;clear h;unfold msC;generalize hpp:w.heap.size+1=pp at HW;go_in;go_upto_region 2 with fail;generalize ((w.alloc (.cells #[U Z 3,U Z po,U .u64 ma,U Z ow,U Z ta,U Z ol,U Z ge,U Z ph,U Z ve,U Z si,U Z pt,U Z vr,.slice A n c] 74)).alloc (.cells #[.slice none 0 0,.bool false] 213))=W0 at*;have HPP:=hd_ hpp;clear hpp;obtain⟨y0,y1,y2,y3,y4,y5,y6,y7,y8,y9,y10,y11,y12⟩:=ai HQ.out;have HP:=hd_ (aR pp _ 1 3 _ w _ HW.out (by omega) (by omega));go_wp2_with fail;refine HP.out.mono ?_;rintro e v0 ⟨rfl,hw',hk'⟩;replace HW:=hd_ hw';replace HQ:=hd_ (hk' _ _ _ (by decide) (by decide) HQ.out);clear hw' hk' HP y0 y1 y2 y3 y4 y5 y6 y7 y8 y9 y10 y11 y12;obtain⟨y0,y1,y2,y3,y4,y5,y6,y7,y8,y9,y10,y11,y12⟩:=ai HQ.out;have HP:=hd_ (aR pp _ 1 pt _ w _ HW.out (by omega) (by omega));go_wp2_with fail;refine HP.out.mono ?_;rintro e v1 ⟨rfl,hw',hk'⟩;replace HW:=hd_ hw';replace HQ:=hd_ (hk' _ _ _ (by decide) (by decide) HQ.out);clear hw' hk' HP y0 y1 y2 y3 y4 y5 y6 y7 y8 y9 y10 y11 y12;obtain⟨y0,y1,y2,y3,y4,y5,y6,y7,y8,y9,y10,y11,y12⟩:=ai HQ.out;have HP:=hd_ (aR pp _ 6 vr _ w _ HW.out (by omega) (by omega));go_wp2_with fail;refine HP.out.mono ?_;rintro e v2 ⟨rfl,hw',hk'⟩;replace HW:=hd_ hw';replace HQ:=hd_ (hk' _ _ _ (by decide) (by decide) HQ.out);clear hw' hk' HP y0 y1 y2 y3 y4 y5 y6 y7 y8 y9 y10 y11 y12;obtain⟨y0,y1,y2,y3,y4,y5,y6,y7,y8,y9,y10,y11,y12⟩:=ai HQ.out;have HP:=hd_ (aR pp _ 1 (n:Int) _ w _ HW.out (by omega) (by omega));go_wp2_with fail;refine HP.out.mono ?_;rintro e v3 ⟨rfl,hw',hk'⟩;replace HW:=hd_ hw';replace HQ:=hd_ (hk' _ _ _ (by decide) (by decide) HQ.out);clear hw' hk' HP y0 y1 y2 y3 y4 y5 y6 y7 y8 y9 y10 y11 y12;obtain⟨y0,y1,y2,y3,y4,y5,y6,y7,y8,y9,y10,y11,y12⟩:=ai HQ.out;have HW1:Hid (Rat w pp (dh (l.take 0) (aJ 1 (aJ 6 (aJ 1 (aJ 1 (some []) 3) pt) vr) (n:Int))) (32+48*0) v3):=hd_ (by rw[jH];exact HW.out);clear HW;have HM:=hd_ HQ.out;go_wp2_with fail;clear y0 y1 y2 y3 y4 y5 y6 y7 y8 y9 y10 y11 y12
 go_loopg [5,6] n (fun g i s6 wr=>∃j:Nat,g=n-j∧j≤n∧i=U Z (j:Int)∧Hid (Rat w pp (dh (l.take j) (aJ 1 (aJ 6 (aJ 1 (aJ 1 (some []) 3) pt) vr) (n:Int))) (32+48*j) wr)∧Hid (Blk wr w.heap.size 74 (msC 3 po ma ow ta ol ge ph ve si pt vr A n c)))
 case atStart=>exact⟨0,rfl,zP _,rfl,HW1,HQ⟩
 case round=>
  obtain⟨j,rfl,hj,rfl,HW,HQ⟩:=hrel;obtain⟨y0,y1,y2,y3,y4,y5,y6,y7,y8,y9,y10,y11,y12⟩:=ai HQ.out;by_cases hlt:j<n
  ·have hh:=HH.out.chg HW.out.was (fun _ _=>id);obtain⟨ad,rfl,_,_,_⟩:=hh.2 (by omega)
   have hjl:j<l.length:=by have:=HL.out;omega
   have hx:l[j]?=some l[j]:=zM hjl;generalize l[j]=x at*;obtain⟨z0,z1,z2,z3,z4,z5⟩:=hh.at hx;have HX:=hd_ hx;have hxr:rcR x=true:=AJ.1 HALL.out x (Be hx);have hxn:=HN.out x (Be hx);obtain⟨hp1,hp2,hp3,hp4⟩:=eI hxr;obtain⟨hp5,hp6⟩:=hxn;clear hx hh hxr;obtain⟨pr,sr,ds,sp,dp,un⟩:=x;dsimp only at z0 z1 z2 z3 z4 z5 hp1 hp2 hp3 hp4 hp5 hp6;have a1:IntKind.i64.wrap sr=sr:=bJ (by omega);have a2:IntKind.i64.wrap ds=ds:=bJ (by omega);have HB:Hid (Blk (wr.alloc (.cells #[U Z pr,U .u32 sr,U .u32 ds,U Z sp,U Z dp,U Z un] 219)) wr.heap.size 219 (rcC pr sr ds sp dp un)):=hd_ (af rfl);replace HW:=hd_ (HW.out.alloc (.cells #[U Z pr,U .u32 sr,U .u32 ds,U Z sp,U Z dp,U Z un] 219));replace HQ:=hd_ (HQ.out.alloc (.cells #[U Z pr,U .u32 sr,U .u32 ds,U Z sp,U Z dp,U Z un] 219));have HP:=hd_ (aR pp _ 1 pr _ w _ HW.out (by omega) (by omega));go_wp2_with fail;refine HP.out.mono ?_;rintro e u1 ⟨rfl,hw',hk'⟩;replace HW:=hd_ hw';replace HB:=hd_ (hk' _ _ _ (by decide) (by decide) HB.out);replace HQ:=hd_ (hk' _ _ _ (by decide) (by decide) HQ.out);clear hw' hk' HP y0 y1 y2 y3 y4 y5 y6 y7 y8 y9 y10 y11 y12;obtain⟨x0,x1,x2,x3,x4,x5⟩:=bH HB.out;obtain⟨y0,y1,y2,y3,y4,y5,y6,y7,y8,y9,y10,y11,y12⟩:=ai HQ.out;have HP:=hd_ (aR pp _ 4 sr _ w _ HW.out (by omega) (by omega));go_wp2_with fail;refine HP.out.mono ?_;rintro e u2 ⟨rfl,hw',hk'⟩;replace HW:=hd_ hw';replace HB:=hd_ (hk' _ _ _ (by decide) (by decide) HB.out);replace HQ:=hd_ (hk' _ _ _ (by decide) (by decide) HQ.out);clear hw' hk' HP x0 x1 x2 x3 x4 x5 y0 y1 y2 y3 y4 y5 y6 y7 y8 y9 y10 y11 y12;obtain⟨x0,x1,x2,x3,x4,x5⟩:=bH HB.out;obtain⟨y0,y1,y2,y3,y4,y5,y6,y7,y8,y9,y10,y11,y12⟩:=ai HQ.out;have HP:=hd_ (aR pp _ 4 ds _ w _ HW.out (by omega) (by omega));go_wp2_with fail;refine HP.out.mono ?_;rintro e u3 ⟨rfl,hw',hk'⟩;replace HW:=hd_ hw';replace HB:=hd_ (hk' _ _ _ (by decide) (by decide) HB.out);replace HQ:=hd_ (hk' _ _ _ (by decide) (by decide) HQ.out);clear hw' hk' HP x0 x1 x2 x3 x4 x5 y0 y1 y2 y3 y4 y5 y6 y7 y8 y9 y10 y11 y12;obtain⟨x0,x1,x2,x3,x4,x5⟩:=bH HB.out;obtain⟨y0,y1,y2,y3,y4,y5,y6,y7,y8,y9,y10,y11,y12⟩:=ai HQ.out;have HP:=hd_ (aR pp _ 2 sp _ w _ HW.out (by omega) (by omega));go_wp2_with fail;refine HP.out.mono ?_;rintro e u4 ⟨rfl,hw',hk'⟩;replace HW:=hd_ hw';replace HB:=hd_ (hk' _ _ _ (by decide) (by decide) HB.out);replace HQ:=hd_ (hk' _ _ _ (by decide) (by decide) HQ.out);clear hw' hk' HP x0 x1 x2 x3 x4 x5 y0 y1 y2 y3 y4 y5 y6 y7 y8 y9 y10 y11 y12;obtain⟨x0,x1,x2,x3,x4,x5⟩:=bH HB.out;obtain⟨y0,y1,y2,y3,y4,y5,y6,y7,y8,y9,y10,y11,y12⟩:=ai HQ.out;have HP:=hd_ (aR pp _ 2 dp _ w _ HW.out (by omega) (by omega));go_wp2_with fail;refine HP.out.mono ?_;rintro e u5 ⟨rfl,hw',hk'⟩;replace HW:=hd_ hw';replace HB:=hd_ (hk' _ _ _ (by decide) (by decide) HB.out);replace HQ:=hd_ (hk' _ _ _ (by decide) (by decide) HQ.out);clear hw' hk' HP x0 x1 x2 x3 x4 x5 y0 y1 y2 y3 y4 y5 y6 y7 y8 y9 y10 y11 y12;obtain⟨x0,x1,x2,x3,x4,x5⟩:=bH HB.out;obtain⟨y0,y1,y2,y3,y4,y5,y6,y7,y8,y9,y10,y11,y12⟩:=ai HQ.out;have HP:=hd_ (aR pp _ 6 un _ w _ HW.out (by omega) (by omega));go_wp2_with fail;refine HP.out.mono ?_;rintro e u6 ⟨rfl,hw',hk'⟩;replace HW:=hd_ hw';replace HB:=hd_ (hk' _ _ _ (by decide) (by decide) HB.out);replace HQ:=hd_ (hk' _ _ _ (by decide) (by decide) HQ.out);clear hw' hk' HP x0 x1 x2 x3 x4 x5 y0 y1 y2 y3 y4 y5 y6 y7 y8 y9 y10 y11 y12;obtain⟨x0,x1,x2,x3,x4,x5⟩:=bH HB.out;obtain⟨y0,y1,y2,y3,y4,y5,y6,y7,y8,y9,y10,y11,y12⟩:=ai HQ.out;go_wp2_with fail;go_roundg (n-(j+1))
   case measure=>omega
   case rel=>
    refine⟨j+1,rfl,by omega,by go_num,?_,HQ⟩;rw[jG HX.out]
    have e:32+48*(j+1)=32+48*j+8+8+8+8+8+8:=by omega
    rw[e];exact HW
  ·have hjn:n=j:=by omega
   subst hjn;have e:l.take n=l:=Ax (by rw[HL.out];exact zG _);have hw:=HW.out;rw[e,HL.out,HST.out]at hw;replace HW:=hd_ hw;clear hw;obtain⟨E,d,x0,x1,hrd,hnil⟩:=HW.out.shows;have HRD:=hd_ hrd;clear hrd;go_wp2_with fail;go_ret;exact⟨E,d,rfl,HRD.out,hnil,HW.out.was⟩
theorem nN(kd po ma ow ta ol ge ph ve si pt vr:Int)(A:Option Addr)(n c:Nat)(l:List Rc)(S:Nat→Prop)(w:World)(h:RcR w S A n l)(hn2:n≤9223372036854775807)(hN:MsN kd po ma ow ta ol ge ph ve si pt vr l)(hr:msR kd po ma ow ta ol ge ph ve si pt vr l=true):
  Calls Tryz.prog 68 #[.agg (msC kd po ma ow ta ol ge ph ve si pt vr A n c)] w (Bt (msB kd po ma ow ta ol ge ph ve si pt vr l) w):=by
 rcases gO hr with⟨rfl,hrw,_⟩|⟨rfl,_,hnb,hl⟩|⟨rfl,_,hnb,hl,ha⟩
 ·exact sh po ma ow ta ol ge ph ve si pt vr A n c l S w h hn2 hrw hN.1.1
 ·exact sj po ma ow ta ol ge ph ve si pt vr A n c l S w h hn2 hnb hl
 ·exact sk po ma ow ta ol ge ph ve si pt vr A n c l S w h hn2 hnb hl ha hN.2
def gv(k:Nat)(st:Option (List UInt8)):Int:=(bk (k:Int) st).1
def gn(k:Nat)(st:Option (List UInt8)):Option (List UInt8):=(bk (k:Int) st).2
def uC:List Nat→Option (List UInt8)→Option (List UInt8)
 |[],st=>st
 |k::ks,st=>uC ks (gn k st)
theorem dq(k:Nat)(st:Option (List UInt8)):0≤gv k st∧gv k st≤9223372036854775807:=ox _ _
theorem kK(k:Nat)(st:Option (List UInt8))(h1:1≤k)(h7:k≤7):gv k st<256^k:=by
 have hp:(0:Int)<256^k:=Int.pow_pos (by decide);unfold gv bk
 split
 ·exact hp
 ·rename_i b
  split
  ·rename_i h;have h2:=h.2.2.1;rw[Al]at h2;have h3:=jA b k h2;rw[Al];show ((num (b.take k):Nat):Int)<256^k
   have e:((256:Int)^k)=((256^k:Nat):Int):=by simp
   rw[e];omega
  ·exact hp
theorem dr{k:Nat}{st:Option (List UInt8)}{y:List UInt8}(h1:1≤k)(h7:k≤7)(h:gn k st=some y):st=some (be k (gv k st).toNat++y):=by
 unfold gn at h;rcases st with _|b
 ·cases h
 ·by_cases hl:k≤b.length
  ·have e:=fX b k h1 h7 hl;rw[e]at h;injection h with h;unfold gv;rw[e];simp only[Al];rw[gX b k hl,←h,List.take_append_drop]
  ·exfalso;have e:bk (k:Int) (some b)=(0,none):=if_neg (fun e=>by have:=e.2.2.1;rw[Al]at this;omega);rw[e]at h;cases h
theorem cD{k:Nat}{x:Int}(y:List UInt8)(h1:1≤k)(h7:k≤7)(h:0≤x)(h2:x<256^k):gv k (some (be k x.toNat++y))=x∧gn k (some (be k x.toNat++y))=some y:=by
 have e:=fX (be k x.toNat++y) k h1 h7 (by rw[zY,bM];omega)
 have e2:x.toNat<256^k:=by
  have e3:((256:Int)^k)=((256^k:Nat):Int):=by simp
  rw[e3]at h2;omega
 unfold gv gn;rw[e,k_,ld,iQ k _ e2];exact⟨by omega,rfl⟩
def rW:List Nat:=[1,6,1,1,1,1,5,6,6]
def oW:List Nat:=[1,4,4,2,2,6]
def rs(st:Option (List UInt8))(j:Nat):Option (List UInt8):=uC (rW.take j) st
def rv(st:Option (List UInt8))(j:Nat):Int:=gv (rW.getD j 0) (rs st j)
def os(st:Option (List UInt8))(j:Nat):Option (List UInt8):=uC (oW.take j) st
def ov(st:Option (List UInt8))(j:Nat):Int:=gv (oW.getD j 0) (os st j)
def g_(st:Option (List UInt8)):Rc:=⟨ov st 0,ov st 1,ov st 2,ov st 3,ov st 4,ov st 5⟩
def eT(st:Option (List UInt8)):Option (List UInt8):=os st 6
def eU:Nat→Option (List UInt8)→Option (List UInt8)
 |0,st=>st
 |k+1,st=>eU k (eT st)
def dV:Nat→Option (List UInt8)→List Rc
 |0,_=>[]
 |k+1,st=>g_ st::dV k (eT st)
theorem lU:∀(k:Nat) (st:Option (List UInt8)),eU (k+1) st=eT (eU k st)
 |0,_=>rfl
 |k+1,st=>lU k (eT st)
theorem lV:∀(k:Nat) (st:Option (List UInt8)),dV (k+1) st=dV k st++[g_ (eU k st)]
 |0,_=>rfl
 |k+1,st=>by
  have:=lV k (eT st);show g_ st::dV (k+1) (eT st)=_;rw[this];rfl
theorem gm:∀(k:Nat) (st:Option (List UInt8)),(dV k st).length=k
 |0,_=>rfl
 |k+1,st=>by
  show (dV k (eT st)).length+1=k+1;rw[gm k]
theorem xM{st:Option (List UInt8)}{y:List UInt8}(h:rs st 9=some y):st=some (cC (rv st 0) (rv st 1) (rv st 2-1) (rv st 3-1) (rv st 4-1) (rv st 6) (rv st 5) (rv st 7) (rv st 8)++y):=by
 have s8:rs st 8=some (be 6 (rv st 8).toNat++y):=dr (k:=6) (by decide) (by decide) h;have s7:rs st 7=some (be 6 (rv st 7).toNat++(be 6 (rv st 8).toNat++y)):=dr (k:=6) (by decide) (by decide) s8;have s6:rs st 6=some (be 5 (rv st 6).toNat++(be 6 (rv st 7).toNat++(be 6 (rv st 8).toNat++y))):=dr (k:=5) (by decide) (by decide) s7;have s5:rs st 5=some (be 1 (rv st 5).toNat++(be 5 (rv st 6).toNat++(be 6 (rv st 7).toNat++(be 6 (rv st 8).toNat++y)))):=dr (k:=1) (by decide) (by decide) s6;have s4:rs st 4=some (be 1 (rv st 4).toNat++(be 1 (rv st 5).toNat++(be 5 (rv st 6).toNat++(be 6 (rv st 7).toNat++(be 6 (rv st 8).toNat++y))))):=dr (k:=1) (by decide) (by decide) s5;have s3:rs st 3=some (be 1 (rv st 3).toNat++(be 1 (rv st 4).toNat++(be 1 (rv st 5).toNat++(be 5 (rv st 6).toNat++(be 6 (rv st 7).toNat++(be 6 (rv st 8).toNat++y)))))):=dr (k:=1) (by decide) (by decide) s4;have s2:rs st 2=some (be 1 (rv st 2).toNat++(be 1 (rv st 3).toNat++(be 1 (rv st 4).toNat++(be 1 (rv st 5).toNat++(be 5 (rv st 6).toNat++(be 6 (rv st 7).toNat++(be 6 (rv st 8).toNat++y))))))):=dr (k:=1) (by decide) (by decide) s3;have s1:rs st 1=some (be 6 (rv st 1).toNat++(be 1 (rv st 2).toNat++(be 1 (rv st 3).toNat++(be 1 (rv st 4).toNat++(be 1 (rv st 5).toNat++(be 5 (rv st 6).toNat++(be 6 (rv st 7).toNat++(be 6 (rv st 8).toNat++y)))))))):=dr (k:=6) (by decide) (by decide) s2;have s0:rs st 0=some (be 1 (rv st 0).toNat++(be 6 (rv st 1).toNat++(be 1 (rv st 2).toNat++(be 1 (rv st 3).toNat++(be 1 (rv st 4).toNat++(be 1 (rv st 5).toNat++(be 5 (rv st 6).toNat++(be 6 (rv st 7).toNat++(be 6 (rv st 8).toNat++y))))))))):=dr (k:=1) (by decide) (by decide) s1;have s:st=_:=s0;unfold cC;rw[CA,CA,CA];simp only[BY];exact s
theorem xN{po ma ow ta ol ge ph ve si:Int}(h:rwR po ma ow ta ol ge ph ve si=true)(hm:0≤ma)(y:List UInt8):rs (some (cC po ma ow ta ol ge ph ve si++y)) 9=some y∧rv (some (cC po ma ow ta ol ge ph ve si++y)) 0=po∧rv (some (cC po ma ow ta ol ge ph ve si++y)) 1=ma∧rv (some (cC po ma ow ta ol ge ph ve si++y)) 2=ow+1∧rv (some (cC po ma ow ta ol ge ph ve si++y)) 3=ta+1∧rv (some (cC po ma ow ta ol ge ph ve si++y)) 4=ol+1∧rv (some (cC po ma ow ta ol ge ph ve si++y)) 5=ph∧rv (some (cC po ma ow ta ol ge ph ve si++y)) 6=ge∧rv (some (cC po ma ow ta ol ge ph ve si++y)) 7=ve∧rv (some (cC po ma ow ta ol ge ph ve si++y)) 8=si:=by
 obtain⟨h1,h2,h3,h4,h5,h6,h7,h8,h9⟩:=fs h;obtain⟨st,hst⟩:∃st,st=some (cC po ma ow ta ol ge ph ve si++y):=⟨_,rfl⟩;rw[←hst]
 have s0:rs st 0=some (be 1 (po).toNat++(be 6 (ma).toNat++(be 1 (ow+1).toNat++(be 1 (ta+1).toNat++(be 1 (ol+1).toNat++(be 1 (ph).toNat++(be 5 (ge).toNat++(be 6 (ve).toNat++(be 6 (si).toNat++y))))))))):=by
  show st=_;rw[hst];unfold cC;simp only[BY]
 obtain⟨v0,t0⟩:=cD (k:=1) (x:=po) (be 6 (ma).toNat++(be 1 (ow+1).toNat++(be 1 (ta+1).toNat++(be 1 (ol+1).toNat++(be 1 (ph).toNat++(be 5 (ge).toNat++(be 6 (ve).toNat++(be 6 (si).toNat++y)))))))) (by decide) (by decide) (by omega) (by omega)
 have w0:rv st 0=po:=by
  show gv 1 (rs st 0)=_;rw[s0];exact v0
 have s1:rs st 1=some (be 6 (ma).toNat++(be 1 (ow+1).toNat++(be 1 (ta+1).toNat++(be 1 (ol+1).toNat++(be 1 (ph).toNat++(be 5 (ge).toNat++(be 6 (ve).toNat++(be 6 (si).toNat++y)))))))):=by
  show gn 1 (rs st 0)=_;rw[s0];exact t0
 obtain⟨v1,t1⟩:=cD (k:=6) (x:=ma) (be 1 (ow+1).toNat++(be 1 (ta+1).toNat++(be 1 (ol+1).toNat++(be 1 (ph).toNat++(be 5 (ge).toNat++(be 6 (ve).toNat++(be 6 (si).toNat++y))))))) (by decide) (by decide) (by omega) (by omega)
 have w1:rv st 1=ma:=by
  show gv 6 (rs st 1)=_;rw[s1];exact v1
 have s2:rs st 2=some (be 1 (ow+1).toNat++(be 1 (ta+1).toNat++(be 1 (ol+1).toNat++(be 1 (ph).toNat++(be 5 (ge).toNat++(be 6 (ve).toNat++(be 6 (si).toNat++y))))))):=by
  show gn 6 (rs st 1)=_;rw[s1];exact t1
 obtain⟨v2,t2⟩:=cD (k:=1) (x:=ow+1) (be 1 (ta+1).toNat++(be 1 (ol+1).toNat++(be 1 (ph).toNat++(be 5 (ge).toNat++(be 6 (ve).toNat++(be 6 (si).toNat++y)))))) (by decide) (by decide) (by omega) (by omega)
 have w2:rv st 2=ow+1:=by
  show gv 1 (rs st 2)=_;rw[s2];exact v2
 have s3:rs st 3=some (be 1 (ta+1).toNat++(be 1 (ol+1).toNat++(be 1 (ph).toNat++(be 5 (ge).toNat++(be 6 (ve).toNat++(be 6 (si).toNat++y)))))):=by
  show gn 1 (rs st 2)=_;rw[s2];exact t2
 obtain⟨v3,t3⟩:=cD (k:=1) (x:=ta+1) (be 1 (ol+1).toNat++(be 1 (ph).toNat++(be 5 (ge).toNat++(be 6 (ve).toNat++(be 6 (si).toNat++y))))) (by decide) (by decide) (by omega) (by omega)
 have w3:rv st 3=ta+1:=by
  show gv 1 (rs st 3)=_;rw[s3];exact v3
 have s4:rs st 4=some (be 1 (ol+1).toNat++(be 1 (ph).toNat++(be 5 (ge).toNat++(be 6 (ve).toNat++(be 6 (si).toNat++y))))):=by
  show gn 1 (rs st 3)=_;rw[s3];exact t3
 obtain⟨v4,t4⟩:=cD (k:=1) (x:=ol+1) (be 1 (ph).toNat++(be 5 (ge).toNat++(be 6 (ve).toNat++(be 6 (si).toNat++y)))) (by decide) (by decide) (by omega) (by omega)
 have w4:rv st 4=ol+1:=by
  show gv 1 (rs st 4)=_;rw[s4];exact v4
 have s5:rs st 5=some (be 1 (ph).toNat++(be 5 (ge).toNat++(be 6 (ve).toNat++(be 6 (si).toNat++y)))):=by
  show gn 1 (rs st 4)=_;rw[s4];exact t4
 obtain⟨v5,t5⟩:=cD (k:=1) (x:=ph) (be 5 (ge).toNat++(be 6 (ve).toNat++(be 6 (si).toNat++y))) (by decide) (by decide) (by omega) (by omega)
 have w5:rv st 5=ph:=by
  show gv 1 (rs st 5)=_;rw[s5];exact v5
 have s6:rs st 6=some (be 5 (ge).toNat++(be 6 (ve).toNat++(be 6 (si).toNat++y))):=by
  show gn 1 (rs st 5)=_;rw[s5];exact t5
 obtain⟨v6,t6⟩:=cD (k:=5) (x:=ge) (be 6 (ve).toNat++(be 6 (si).toNat++y)) (by decide) (by decide) (by omega) (by omega)
 have w6:rv st 6=ge:=by
  show gv 5 (rs st 6)=_;rw[s6];exact v6
 have s7:rs st 7=some (be 6 (ve).toNat++(be 6 (si).toNat++y)):=by
  show gn 5 (rs st 6)=_;rw[s6];exact t6
 obtain⟨v7,t7⟩:=cD (k:=6) (x:=ve) (be 6 (si).toNat++y) (by decide) (by decide) (by omega) (by omega)
 have w7:rv st 7=ve:=by
  show gv 6 (rs st 7)=_;rw[s7];exact v7
 have s8:rs st 8=some (be 6 (si).toNat++y):=by
  show gn 6 (rs st 7)=_;rw[s7];exact t7
 obtain⟨v8,t8⟩:=cD (k:=6) (x:=si) (y) (by decide) (by decide) (by omega) (by omega)
 have w8:rv st 8=si:=by
  show gv 6 (rs st 8)=_;rw[s8];exact v8
 have s9:rs st 9=some (y):=by
  show gn 6 (rs st 8)=_;rw[s8];exact t8
 exact⟨s9,w0,w1,w2,w3,w4,w5,w6,w7,w8⟩
theorem xO{st:Option (List UInt8)}{y:List UInt8}(h:eT st=some y):st=some (dl (g_ st)++y):=by
 have h:os st 6=some y:=h;have s5:os st 5=some (be 6 (ov st 5).toNat++y):=dr (k:=6) (by decide) (by decide) h;have s4:os st 4=some (be 2 (ov st 4).toNat++(be 6 (ov st 5).toNat++y)):=dr (k:=2) (by decide) (by decide) s5;have s3:os st 3=some (be 2 (ov st 3).toNat++(be 2 (ov st 4).toNat++(be 6 (ov st 5).toNat++y))):=dr (k:=2) (by decide) (by decide) s4;have s2:os st 2=some (be 4 (ov st 2).toNat++(be 2 (ov st 3).toNat++(be 2 (ov st 4).toNat++(be 6 (ov st 5).toNat++y)))):=dr (k:=4) (by decide) (by decide) s3;have s1:os st 1=some (be 4 (ov st 1).toNat++(be 4 (ov st 2).toNat++(be 2 (ov st 3).toNat++(be 2 (ov st 4).toNat++(be 6 (ov st 5).toNat++y))))):=dr (k:=4) (by decide) (by decide) s2;have s0:os st 0=some (be 1 (ov st 0).toNat++(be 4 (ov st 1).toNat++(be 4 (ov st 2).toNat++(be 2 (ov st 3).toNat++(be 2 (ov st 4).toNat++(be 6 (ov st 5).toNat++y)))))):=dr (k:=1) (by decide) (by decide) s1;have s:st=_:=s0;unfold dl g_;simp only[BY];exact s
theorem xP{x:Rc}(h:rcR x=true)(hn:RcN x)(y:List UInt8):eT (some (dl x++y))=some y∧g_ (some (dl x++y))=x:=by
 obtain⟨h1,h2,h3,h4⟩:=eI h;obtain⟨h5,h6⟩:=hn;obtain⟨st,hst⟩:∃st,st=some (dl x++y):=⟨_,rfl⟩;rw[←hst]
 have s0:os st 0=some (be 1 (x.pr).toNat++(be 4 (x.sr).toNat++(be 4 (x.ds).toNat++(be 2 (x.sp).toNat++(be 2 (x.dp).toNat++(be 6 (x.un).toNat++y)))))):=by
  show st=_;rw[hst];unfold dl;simp only[BY]
 obtain⟨v0,t0⟩:=cD (k:=1) (x:=x.pr) (be 4 (x.sr).toNat++(be 4 (x.ds).toNat++(be 2 (x.sp).toNat++(be 2 (x.dp).toNat++(be 6 (x.un).toNat++y))))) (by decide) (by decide) (by omega) (by omega)
 have w0:ov st 0=x.pr:=by
  show gv 1 (os st 0)=_;rw[s0];exact v0
 have s1:os st 1=some (be 4 (x.sr).toNat++(be 4 (x.ds).toNat++(be 2 (x.sp).toNat++(be 2 (x.dp).toNat++(be 6 (x.un).toNat++y))))):=by
  show gn 1 (os st 0)=_;rw[s0];exact t0
 obtain⟨v1,t1⟩:=cD (k:=4) (x:=x.sr) (be 4 (x.ds).toNat++(be 2 (x.sp).toNat++(be 2 (x.dp).toNat++(be 6 (x.un).toNat++y)))) (by decide) (by decide) (by omega) (by omega)
 have w1:ov st 1=x.sr:=by
  show gv 4 (os st 1)=_;rw[s1];exact v1
 have s2:os st 2=some (be 4 (x.ds).toNat++(be 2 (x.sp).toNat++(be 2 (x.dp).toNat++(be 6 (x.un).toNat++y)))):=by
  show gn 4 (os st 1)=_;rw[s1];exact t1
 obtain⟨v2,t2⟩:=cD (k:=4) (x:=x.ds) (be 2 (x.sp).toNat++(be 2 (x.dp).toNat++(be 6 (x.un).toNat++y))) (by decide) (by decide) (by omega) (by omega)
 have w2:ov st 2=x.ds:=by
  show gv 4 (os st 2)=_;rw[s2];exact v2
 have s3:os st 3=some (be 2 (x.sp).toNat++(be 2 (x.dp).toNat++(be 6 (x.un).toNat++y))):=by
  show gn 4 (os st 2)=_;rw[s2];exact t2
 obtain⟨v3,t3⟩:=cD (k:=2) (x:=x.sp) (be 2 (x.dp).toNat++(be 6 (x.un).toNat++y)) (by decide) (by decide) (by omega) (by omega)
 have w3:ov st 3=x.sp:=by
  show gv 2 (os st 3)=_;rw[s3];exact v3
 have s4:os st 4=some (be 2 (x.dp).toNat++(be 6 (x.un).toNat++y)):=by
  show gn 2 (os st 3)=_;rw[s3];exact t3
 obtain⟨v4,t4⟩:=cD (k:=2) (x:=x.dp) (be 6 (x.un).toNat++y) (by decide) (by decide) (by omega) (by omega)
 have w4:ov st 4=x.dp:=by
  show gv 2 (os st 4)=_;rw[s4];exact v4
 have s5:os st 5=some (be 6 (x.un).toNat++y):=by
  show gn 2 (os st 4)=_;rw[s4];exact t4
 obtain⟨v5,t5⟩:=cD (k:=6) (x:=x.un) (y) (by decide) (by decide) (by omega) (by omega)
 have w5:ov st 5=x.un:=by
  show gv 6 (os st 5)=_;rw[s5];exact v5
 have s6:os st 6=some (y):=by
  show gn 6 (os st 5)=_;rw[s5];exact t5
 refine⟨s6,?_⟩;unfold g_;rw[w0,w1,w2,w3,w4,w5]
theorem oV:∀{k:Nat} {st:Option (List UInt8)} {y:List UInt8} (h:eU k st=some y),st=some (aZ (dV k st)++y)
 |0,st,y,h=>h
 |k+1,st,y,h=>by
  have h1:=oV (k:=k) (st:=eT st) h;have h2:=xO h1;have e:aZ (dV (k+1) st)=dl (g_ st)++aZ (dV k (eT st)):=rfl;rw[e,BY];exact h2
theorem oX:∀{l:List Rc} (h:l.all rcR=true) (hn:∀x∈l,RcN x) (y:List UInt8),eU l.length (some (aZ l++y))=some y∧dV l.length (some (aZ l++y))=l
 |[],_,_,y=>⟨rfl,rfl⟩
 |x::r,h,hn,y=>by
  simp only[AT,AI]at h;obtain⟨a1,a2⟩:=xP h.1 (hn x (by simp)) (aZ r++y);obtain⟨b1,b2⟩:=oX (l:=r) h.2 (fun z hz=>hn z (by simp[hz])) y
  have e:aZ (x::r)++y=dl x++(aZ r++y):=by simp[aZ]
  rw[e];show eU r.length (eT (some (dl x++(aZ r++y))))=some y∧g_ (some (dl x++(aZ r++y)))::dV r.length (eT (some (dl x++(aZ r++y))))=x::r;rw[a1,a2,b1,b2];exact⟨rfl,rfl⟩
structure MV where
 kd:Int
 po:Int
 ma:Int
 ow:Int
 ta:Int
 ol:Int
 ge:Int
 ph:Int
 ve:Int
 si:Int
 pt:Int
 vr:Int
 l:List Rc
def MV.ok(m:MV):Bool:=msR m.kd m.po m.ma m.ow m.ta m.ol m.ge m.ph m.ve m.si m.pt m.vr m.l
def MV.bs(m:MV):List UInt8:=msB m.kd m.po m.ma m.ow m.ta m.ol m.ge m.ph m.ve m.si m.pt m.vr m.l
def MV.nm(m:MV):Prop:=MsN m.kd m.po m.ma m.ow m.ta m.ol m.ge m.ph m.ve m.si m.pt m.vr m.l
def MV.zero:MV:=⟨0,0,0,0,0,0,0,0,0,0,0,0,[]⟩
def cK(b:List UInt8):Int:=gv 1 (some b)
def cS1(b:List UInt8):Option (List UInt8):=gn 1 (some b)
def cPt(b:List UInt8):Int:=gv 1 (cS1 b)
def cS2(b:List UInt8):Option (List UInt8):=gn 1 (cS1 b)
def cVr(b:List UInt8):Int:=gv 6 (cS2 b)
def cS3(b:List UInt8):Option (List UInt8):=gn 6 (cS2 b)
def cNn(b:List UInt8):Int:=gv 1 (cS3 b)
def cS4(b:List UInt8):Option (List UInt8):=gn 1 (cS3 b)
def cRl(b:List UInt8):List Rc:=dV (cNn b).toNat (cS4 b)
def cS5(b:List UInt8):Option (List UInt8):=eU (cNn b).toNat (cS4 b)
def cm1(b:List UInt8):MV:=⟨1,rv (cS1 b) 0,rv (cS1 b) 1,rv (cS1 b) 2-1,rv (cS1 b) 3-1,rv (cS1 b) 4-1,rv (cS1 b) 6,rv (cS1 b) 5,rv (cS1 b) 7,rv (cS1 b) 8,0,0,[]⟩
def cm2(b:List UInt8):MV:=⟨2,0,0,0,0,0,0,0,0,0,cPt b,cVr b,[]⟩
def cm3(b:List UInt8):MV:=⟨3,0,0,0,0,0,0,0,0,0,cPt b,cVr b,cRl b⟩
def cV(b:List UInt8):MV:=if cK b=1 then cm1 b else if cK b=2 then cm2 b else cm3 b
def cE(b:List UInt8):Option (List UInt8):=if cK b=1 then rs (cS1 b) 9 else if cK b=2 then cS3 b else cS5 b
def cOK(b:List UInt8):Bool:=(cK b==1||(cK b==2||cK b==3))&&(bT (cE b)==0&&(cV b).ok)
def cM(b:List UInt8):MV:=if cOK b then cV b else MV.zero
def cX(b:List UInt8):Int:=if cOK b then 0 else 2
theorem qa{b:List UInt8}(h:cK b=1):cOK b=(bT (rs (cS1 b) 9)==0&&(cm1 b).ok):=by unfold cOK cE cV;rw[h];rfl
theorem qd{b:List UInt8}(h:cK b=2):cOK b=(bT (cS3 b)==0&&(cm2 b).ok):=by unfold cOK cE cV;rw[h];rfl
theorem qe{b:List UInt8}(h:cK b=3):cOK b=(bT (cS5 b)==0&&(cm3 b).ok):=by unfold cOK cE cV;rw[h];rfl
theorem qf{b:List UInt8}(h1:cK b≠1)(h2:cK b≠2)(h3:cK b≠3):cOK b=false:=by
 unfold cOK
 have e1:(cK b==1)=false:=by simpa using h1
 have e2:(cK b==2)=false:=by simpa using h2
 have e3:(cK b==3)=false:=by simpa using h3
 rw[e1,e2,e3];rfl
theorem uD{b:List UInt8}(h:cK b=1):cV b=cm1 b:=if_pos h
theorem uE{b:List UInt8}(h:cK b=2):cV b=cm2 b:=by unfold cV;rw[h];rfl
theorem uF{b:List UInt8}(h:cK b=3):cV b=cm3 b:=by unfold cV;rw[h];rfl
theorem sl{b:List UInt8}(h:cOK b=true):cM b=cV b:=if_pos h
theorem yO{b:List UInt8}(h:cOK b=false):cM b=MV.zero:=by unfold cM;rw[h];rfl
theorem so{b:List UInt8}(h:cOK b=true):cX b=0:=if_pos h
theorem vk{b:List UInt8}(h:cOK b=false):cX b=2:=by unfold cX;rw[h];rfl
theorem iz{st:Option (List UInt8)}(h:(bT st==0)=true):st=some []:=by
 rcases st with _|b
 ·cases h
 ·rcases b with _|⟨x,r⟩
  ·rfl
  ·cases h
theorem i3(y:List UInt8):(bT (some y)==0)=y.isEmpty:=by
 cases y<;>rfl
theorem su{b:List UInt8}(h:cOK b=true):cK b=1∨cK b=2∨cK b=3:=by
 by_cases h1:cK b=1
 ·exact .inl h1
 by_cases h2:cK b=2
 ·exact .inr (.inl h2)
 by_cases h3:cK b=3
 ·exact .inr (.inr h3)
 rw[qf h1 h2 h3]at h;cases h
theorem ie{a b:Bool}(h:(a&&b)=true):a=true∧b=true:=by simpa using h
theorem yP{b:List UInt8}(h:cOK b=true):(cV b).ok=true:=(ie (ie h).2).2
theorem qg{b y:List UInt8}(h:cS1 b=some y):b=be 1 (cK b).toNat++y:=by
 have h2:=dr (k:=1) (by decide) (by decide) h;injection h2 with h2
theorem wH{b:List UInt8}(h:cOK b=true):(cV b).bs=b:=by
 rcases su h with hk|hk|hk
 ·rw[qa hk]at h;have h1:=xM (iz (ie h).1);have h2:=qg h1;rw[uD hk];rw[hk,B0]at h2;exact h2.symm
 ·rw[qd hk]at h;have h0:cS3 b=some []:=iz (ie h).1;have h1:cS2 b=some (be 6 (cVr b).toNat++[]):=dr (k:=6) (by decide) (by decide) h0;have h2:cS1 b=some (be 1 (cPt b).toNat++(be 6 (cVr b).toNat++[])):=dr (k:=1) (by decide) (by decide) h1;have h3:=qg h2;rw[uE hk];rw[hk]at h3;exact h3.symm
 ·rw[qe hk]at h;have hS:cS5 b=some []:=iz (ie h).1;have h4:=oV hS;have h0:cS3 b=some (be 1 (cNn b).toNat++(aZ (cRl b)++[])):=dr (k:=1) (by decide) (by decide) h4;have h1:cS2 b=some (be 6 (cVr b).toNat++(be 1 (cNn b).toNat++(aZ (cRl b)++[]))):=dr (k:=6) (by decide) (by decide) h0;have h2:cS1 b=some (be 1 (cPt b).toNat++(be 6 (cVr b).toNat++(be 1 (cNn b).toNat++(aZ (cRl b)++[])))):=dr (k:=1) (by decide) (by decide) h1;have h3:=qg h2;rw[uF hk];rw[hk,B0]at h3;have e:(cRl b).length=(cNn b).toNat:=gm _ _;show be 1 (3:Int).toNat++(be 1 (cPt b).toNat++(be 6 (cVr b).toNat++(be 1 (cRl b).length++aZ (cRl b))))=b;rw[e];exact h3.symm
theorem wI {m : MV} (h : m.ok = true) (hn : m.nm) (r : List UInt8) : cOK (m.bs ++ r) = r.isEmpty ∧ cV (m.bs ++ r) = m := by
  obtain ⟨kd, po, ma, ow, ta, ol, ge, ph, ve, si, pt, vr, l⟩ := m
  have hN : MsN kd po ma ow ta ol ge ph ve si pt vr l := hn
  have hR : msR kd po ma ow ta ol ge ph ve si pt vr l = true := h
  obtain ⟨b, hb⟩ : ∃ b, b = (MV.bs ⟨kd, po, ma, ow, ta, ol, ge, ph, ve, si, pt, vr, l⟩) ++ r := ⟨_, rfl⟩
  have hb2 : b = msB kd po ma ow ta ol ge ph ve si pt vr l ++ r := hb
  rw [← hb]
  rcases gO hR with ⟨rfl, hrw, rfl, rfl, rfl⟩ | ⟨rfl, hz, hnb, rfl⟩ | ⟨rfl, hz, hnb, hl, ha⟩
  · have e : b = be 1 (1 : Int).toNat ++ (cC po ma ow ta ol ge ph ve si ++ r) := by
      rw [hb2]
      unfold msB
      rw [if_pos rfl, BY]
    obtain ⟨v0, t0⟩ := cD (k := 1) (x := 1) (cC po ma ow ta ol ge ph ve si ++ r) (by decide) (by decide) (by decide) (by decide)
    rw [← e] at v0 t0
    have hk : cK b = 1 := v0
    have hs : cS1 b = some (cC po ma ow ta ol ge ph ve si ++ r) := t0
    obtain ⟨q9, q0, q1, q2, q3, q4, q5, q6, q7, q8⟩ := xN hrw hN.1.1 r
    have em : cm1 b = ⟨1, po, ma, ow, ta, ol, ge, ph, ve, si, 0, 0, []⟩ := by
      unfold cm1
      rw [hs, q0, q1, q2, q3, q4, q5, q6, q7, q8, CB, CB, CB]
    refine ⟨?_, (uD hk).trans em⟩
    rw [qa hk, em, hs, q9, i3]
    have : MV.ok ⟨1, po, ma, ow, ta, ol, ge, ph, ve, si, 0, 0, []⟩ = true := hR
    rw [this, AV]
  · obtain ⟨hp1, hp2⟩ := ce hnb
    obtain ⟨rfl, rfl, rfl, rfl, rfl, rfl, rfl, rfl, rfl⟩ := m4 hz
    have e : b = be 1 (2 : Int).toNat ++ (be 1 pt.toNat ++ (be 6 vr.toNat ++ r)) := by
      rw [hb2]
      simp [msB]
    obtain ⟨v0, t0⟩ := cD (k := 1) (x := 2) (be 1 pt.toNat ++ (be 6 vr.toNat ++ r)) (by decide) (by decide) (by decide) (by decide)
    rw [← e] at v0 t0
    have hk : cK b = 2 := v0
    have hs : cS1 b = some (be 1 pt.toNat ++ (be 6 vr.toNat ++ r)) := t0
    obtain ⟨v1, t1⟩ := cD (k := 1) (x := pt) (be 6 vr.toNat ++ r) (by decide) (by decide) (by omega) (by omega)
    obtain ⟨v2, t2⟩ := cD (k := 6) (x := vr) r (by decide) (by decide) (by omega) (by omega)
    have hpt : cPt b = pt := by unfold cPt; rw [hs]; exact v1
    have hs2 : cS2 b = some (be 6 vr.toNat ++ r) := by unfold cS2; rw [hs]; exact t1
    have hvr : cVr b = vr := by unfold cVr; rw [hs2]; exact v2
    have hs3 : cS3 b = some r := by unfold cS3; rw [hs2]; exact t2
    have em : cm2 b = ⟨2, 0, 0, 0, 0, 0, 0, 0, 0, 0, pt, vr, []⟩ := by
      unfold cm2
      rw [hpt, hvr]
    refine ⟨?_, (uE hk).trans em⟩
    rw [qd hk, em, hs3, i3]
    have : MV.ok ⟨2, 0, 0, 0, 0, 0, 0, 0, 0, 0, pt, vr, []⟩ = true := hR
    rw [this, AV]
  · obtain ⟨hp1, hp2⟩ := ce hnb
    obtain ⟨rfl, rfl, rfl, rfl, rfl, rfl, rfl, rfl, rfl⟩ := m4 hz
    have e : b = be 1 (3 : Int).toNat ++ (be 1 pt.toNat ++ (be 6 vr.toNat ++ (be 1 ((l.length : Int)).toNat ++ (aZ l ++ r)))) := by
      rw [hb2]
      simp [msB]
    obtain ⟨v0, t0⟩ := cD (k := 1) (x := 3) (be 1 pt.toNat ++ (be 6 vr.toNat ++ (be 1 ((l.length : Int)).toNat ++ (aZ l ++ r)))) (by decide) (by decide) (by decide) (by decide)
    rw [← e] at v0 t0
    have hk : cK b = 3 := v0
    have hs : cS1 b = some (be 1 pt.toNat ++ (be 6 vr.toNat ++ (be 1 ((l.length : Int)).toNat ++ (aZ l ++ r)))) := t0
    obtain ⟨v1, t1⟩ := cD (k := 1) (x := pt) (be 6 vr.toNat ++ (be 1 ((l.length : Int)).toNat ++ (aZ l ++ r))) (by decide) (by decide) (by omega) (by omega)
    obtain ⟨v2, t2⟩ := cD (k := 6) (x := vr) (be 1 ((l.length : Int)).toNat ++ (aZ l ++ r)) (by decide) (by decide) (by omega) (by omega)
    obtain ⟨v3, t3⟩ := cD (k := 1) (x := (l.length : Int)) (aZ l ++ r) (by decide) (by decide) (by omega) (by omega)
    obtain ⟨q1, q2⟩ := oX ha hN.2 r
    have hpt : cPt b = pt := by unfold cPt; rw [hs]; exact v1
    have hs2 : cS2 b = some (be 6 vr.toNat ++ (be 1 ((l.length : Int)).toNat ++ (aZ l ++ r))) := by unfold cS2; rw [hs]; exact t1
    have hvr : cVr b = vr := by unfold cVr; rw [hs2]; exact v2
    have hs3 : cS3 b = some (be 1 ((l.length : Int)).toNat ++ (aZ l ++ r)) := by unfold cS3; rw [hs2]; exact t2
    have hnn : cNn b = (l.length : Int) := by unfold cNn; rw [hs3]; exact v3
    have hs4 : cS4 b = some (aZ l ++ r) := by unfold cS4; rw [hs3]; exact t3
    have hrl : cRl b = l := by unfold cRl; rw [hnn, hs4, Al]; exact q2
    have hs5 : cS5 b = some r := by unfold cS5; rw [hnn, hs4, Al]; exact q1
    have em : cm3 b = ⟨3, 0, 0, 0, 0, 0, 0, 0, 0, 0, pt, vr, l⟩ := by
      unfold cm3
      rw [hpt, hvr, hrl]
    refine ⟨?_, (uF hk).trans em⟩
    rw [qe hk, em, hs5, i3]
    have : MV.ok ⟨3, 0, 0, 0, 0, 0, 0, 0, 0, 0, pt, vr, l⟩ = true := hR
    rw [this, AV]
theorem uG{m:MV}(h:m.ok=true)(hn:m.nm):cOK m.bs=true∧cV m.bs=m:=by
 have:=wI h hn [];rw[B0]at this;exact this
theorem lW:∀l:List Rc,(aZ l).length=19*l.length
 |[]=>rfl
 |x::r=>by
  have:=lW r;have e:aZ (x::r)=dl x++aZ r:=rfl;rw[e,zY,this]
  have e2:(dl x).length=19:=by unfold dl;simp only[zY,bM]
  rw[e2,List.length_cons];omega
theorem xQ {m : MV} (h : m.ok = true) : 1 ≤ m.bs.length ∧ m.bs.length ≤ 313 ∧ m.l.length ≤ 16 := by
  obtain ⟨kd, po, ma, ow, ta, ol, ge, ph, ve, si, pt, vr, l⟩ := m
  have hR : msR kd po ma ow ta ol ge ph ve si pt vr l = true := h
  show 1 ≤ (msB kd po ma ow ta ol ge ph ve si pt vr l).length ∧ (msB kd po ma ow ta ol ge ph ve si pt vr l).length ≤ 313 ∧ l.length ≤ 16
  rcases gO hR with ⟨rfl, hrw, rfl, rfl, rfl⟩ | ⟨rfl, hz, hnb, rfl⟩ | ⟨rfl, hz, hnb, hl, ha⟩
  · have e : (msB 1 po ma ow ta ol ge ph ve si 0 0 []).length = 29 := by
      unfold msB cC
      rw [if_pos rfl]
      simp only [zY, bM]
    rw [e]
    decide
  · have e : (msB 2 po ma ow ta ol ge ph ve si pt vr []).length = 8 := by simp [msB, bM]
    rw [e]
    decide
  · have e : (msB 3 po ma ow ta ol ge ph ve si pt vr l).length = 9 + 19 * l.length := by
      simp [msB, bM, lW]
      omega
    rw [e]
    omega
theorem xR{b:List UInt8}(h:313<b.length):cOK b=false:=by
 cases e:cOK b
 ·rfl
 ·exfalso;have h1:=wH e;have h2:=(xQ (yP e)).2.1;rw[h1]at h2;omega
theorem xS{w:World}{r:Nat}{po ma ow ta ol ge ph ve si:Int}{T:TypeId}(hb:Blk w r T (rvC po ma ow ta ol ge ph ve si))(po' ma' ow' ta' ol' ge' ph' ve' si':Int):
  (w.setCell ⟨r,0,none⟩ (U Z po')).cell? ⟨r,0,none⟩=some (U Z po')∧
  ((w.setCell ⟨r,0,none⟩ (U Z po')).setCell ⟨r,1,none⟩ (U .u64 ma')).cell? ⟨r,1,none⟩=some (U .u64 ma')∧
  (((w.setCell ⟨r,0,none⟩ (U Z po')).setCell ⟨r,1,none⟩ (U .u64 ma')).setCell ⟨r,2,none⟩ (U Z ow')).cell? ⟨r,2,none⟩=some (U Z ow')∧
  ((((w.setCell ⟨r,0,none⟩ (U Z po')).setCell ⟨r,1,none⟩ (U .u64 ma')).setCell ⟨r,2,none⟩ (U Z ow')).setCell ⟨r,3,none⟩ (U Z ta')).cell? ⟨r,3,none⟩=some (U Z ta')∧
  (((((w.setCell ⟨r,0,none⟩ (U Z po')).setCell ⟨r,1,none⟩ (U .u64 ma')).setCell ⟨r,2,none⟩ (U Z ow')).setCell ⟨r,3,none⟩ (U Z ta')).setCell ⟨r,4,none⟩ (U Z ol')).cell? ⟨r,4,none⟩=some (U Z ol')∧
  ((((((w.setCell ⟨r,0,none⟩ (U Z po')).setCell ⟨r,1,none⟩ (U .u64 ma')).setCell ⟨r,2,none⟩ (U Z ow')).setCell ⟨r,3,none⟩ (U Z ta')).setCell ⟨r,4,none⟩ (U Z ol')).setCell ⟨r,5,none⟩ (U Z ge')).cell? ⟨r,5,none⟩=some (U Z ge')∧
  (((((((w.setCell ⟨r,0,none⟩ (U Z po')).setCell ⟨r,1,none⟩ (U .u64 ma')).setCell ⟨r,2,none⟩ (U Z ow')).setCell ⟨r,3,none⟩ (U Z ta')).setCell ⟨r,4,none⟩ (U Z ol')).setCell ⟨r,5,none⟩ (U Z ge')).setCell ⟨r,6,none⟩ (U Z ph')).cell? ⟨r,6,none⟩=some (U Z ph')∧
  ((((((((w.setCell ⟨r,0,none⟩ (U Z po')).setCell ⟨r,1,none⟩ (U .u64 ma')).setCell ⟨r,2,none⟩ (U Z ow')).setCell ⟨r,3,none⟩ (U Z ta')).setCell ⟨r,4,none⟩ (U Z ol')).setCell ⟨r,5,none⟩ (U Z ge')).setCell ⟨r,6,none⟩ (U Z ph')).setCell ⟨r,7,none⟩ (U Z ve')).cell? ⟨r,7,none⟩=some (U Z ve')∧
  (((((((((w.setCell ⟨r,0,none⟩ (U Z po')).setCell ⟨r,1,none⟩ (U .u64 ma')).setCell ⟨r,2,none⟩ (U Z ow')).setCell ⟨r,3,none⟩ (U Z ta')).setCell ⟨r,4,none⟩ (U Z ol')).setCell ⟨r,5,none⟩ (U Z ge')).setCell ⟨r,6,none⟩ (U Z ph')).setCell ⟨r,7,none⟩ (U Z ve')).setCell ⟨r,8,none⟩ (U Z si')).cell? ⟨r,8,none⟩=some (U Z si')∧
  Blk (((((((((w.setCell ⟨r,0,none⟩ (U Z po')).setCell ⟨r,1,none⟩ (U .u64 ma')).setCell ⟨r,2,none⟩ (U Z ow')).setCell ⟨r,3,none⟩ (U Z ta')).setCell ⟨r,4,none⟩ (U Z ol')).setCell ⟨r,5,none⟩ (U Z ge')).setCell ⟨r,6,none⟩ (U Z ph')).setCell ⟨r,7,none⟩ (U Z ve')).setCell ⟨r,8,none⟩ (U Z si')) r T (rvC po' ma' ow' ta' ol' ge' ph' ve' si')∧Chg (fun k=>k=r) w (((((((((w.setCell ⟨r,0,none⟩ (U Z po')).setCell ⟨r,1,none⟩ (U .u64 ma')).setCell ⟨r,2,none⟩ (U Z ow')).setCell ⟨r,3,none⟩ (U Z ta')).setCell ⟨r,4,none⟩ (U Z ol')).setCell ⟨r,5,none⟩ (U Z ge')).setCell ⟨r,6,none⟩ (U Z ph')).setCell ⟨r,7,none⟩ (U Z ve')).setCell ⟨r,8,none⟩ (U Z si')):=by
 have h0:=(hb.set 0 (U Z po'));have r0:=h0.cell 0;have h1:=((hb.set 0 (U Z po')).set 1 (U .u64 ma'));have r1:=h1.cell 1;have h2:=(((hb.set 0 (U Z po')).set 1 (U .u64 ma')).set 2 (U Z ow'));have r2:=h2.cell 2;have h3:=((((hb.set 0 (U Z po')).set 1 (U .u64 ma')).set 2 (U Z ow')).set 3 (U Z ta'));have r3:=h3.cell 3;have h4:=(((((hb.set 0 (U Z po')).set 1 (U .u64 ma')).set 2 (U Z ow')).set 3 (U Z ta')).set 4 (U Z ol'));have r4:=h4.cell 4;have h5:=((((((hb.set 0 (U Z po')).set 1 (U .u64 ma')).set 2 (U Z ow')).set 3 (U Z ta')).set 4 (U Z ol')).set 5 (U Z ge'));have r5:=h5.cell 5;have h6:=(((((((hb.set 0 (U Z po')).set 1 (U .u64 ma')).set 2 (U Z ow')).set 3 (U Z ta')).set 4 (U Z ol')).set 5 (U Z ge')).set 6 (U Z ph'));have r6:=h6.cell 6;have h7:=((((((((hb.set 0 (U Z po')).set 1 (U .u64 ma')).set 2 (U Z ow')).set 3 (U Z ta')).set 4 (U Z ol')).set 5 (U Z ge')).set 6 (U Z ph')).set 7 (U Z ve'));have r7:=h7.cell 7;have h8:=(((((((((hb.set 0 (U Z po')).set 1 (U .u64 ma')).set 2 (U Z ow')).set 3 (U Z ta')).set 4 (U Z ol')).set 5 (U Z ge')).set 6 (U Z ph')).set 7 (U Z ve')).set 8 (U Z si'));have r8:=h8.cell 8;simp only[rvC,AQ,AR,AS,Ap,Aq,Ar]at r0 r1 r2 r3 r4 r5 r6 r7 r8 h8;exact⟨r0,r1,r2,r3,r4,r5,r6,r7,r8,h8,(((((((((Chg.refl (fun k=>k=r) w).put r 0 (fun _=>rfl) _).put r 1 (fun _=>rfl) _).put r 2 (fun _=>rfl) _).put r 3 (fun _=>rfl) _).put r 4 (fun _=>rfl) _).put r 5 (fun _=>rfl) _).put r 6 (fun _=>rfl) _).put r 7 (fun _=>rfl) _).put r 8 (fun _=>rfl) _⟩
theorem wJ{w:World}{r:Nat}{T:TypeId}{cs:Array Value}(hb:Blk w r T cs):w.frozen? ⟨r,0,none⟩=false∧w.frozen? ⟨r,1,none⟩=false∧w.frozen? ⟨r,2,none⟩=false∧w.frozen? ⟨r,3,none⟩=false∧w.frozen? ⟨r,4,none⟩=false∧w.frozen? ⟨r,5,none⟩=false∧w.frozen? ⟨r,6,none⟩=false∧w.frozen? ⟨r,7,none⟩=false∧w.frozen? ⟨r,8,none⟩=false:=
 ⟨hb.frozen 0,hb.frozen 1,hb.frozen 2,hb.frozen 3,hb.frozen 4,hb.frozen 5,hb.frozen 6,hb.frozen 7,hb.frozen 8⟩
theorem bx{w:World}{r:Nat}{kd po ma ow ta ol ge ph ve si pt vr:Int}{A:Option Addr}{n c:Nat}{T:TypeId}(hb:Blk w r T (msC kd po ma ow ta ol ge ph ve si pt vr A n c))(kd' po' ma' ow' ta' ol' ge' ph' ve' si' pt' vr':Int)(A':Option Addr)(n' c':Nat):
  (w.setCell ⟨r,0,none⟩ (U Z kd')).cell? ⟨r,0,none⟩=some (U Z kd')∧
  ((w.setCell ⟨r,0,none⟩ (U Z kd')).setCell ⟨r,1,none⟩ (U Z po')).cell? ⟨r,1,none⟩=some (U Z po')∧
  (((w.setCell ⟨r,0,none⟩ (U Z kd')).setCell ⟨r,1,none⟩ (U Z po')).setCell ⟨r,2,none⟩ (U .u64 ma')).cell? ⟨r,2,none⟩=some (U .u64 ma')∧
  ((((w.setCell ⟨r,0,none⟩ (U Z kd')).setCell ⟨r,1,none⟩ (U Z po')).setCell ⟨r,2,none⟩ (U .u64 ma')).setCell ⟨r,3,none⟩ (U Z ow')).cell? ⟨r,3,none⟩=some (U Z ow')∧
  (((((w.setCell ⟨r,0,none⟩ (U Z kd')).setCell ⟨r,1,none⟩ (U Z po')).setCell ⟨r,2,none⟩ (U .u64 ma')).setCell ⟨r,3,none⟩ (U Z ow')).setCell ⟨r,4,none⟩ (U Z ta')).cell? ⟨r,4,none⟩=some (U Z ta')∧
  ((((((w.setCell ⟨r,0,none⟩ (U Z kd')).setCell ⟨r,1,none⟩ (U Z po')).setCell ⟨r,2,none⟩ (U .u64 ma')).setCell ⟨r,3,none⟩ (U Z ow')).setCell ⟨r,4,none⟩ (U Z ta')).setCell ⟨r,5,none⟩ (U Z ol')).cell? ⟨r,5,none⟩=some (U Z ol')∧
  (((((((w.setCell ⟨r,0,none⟩ (U Z kd')).setCell ⟨r,1,none⟩ (U Z po')).setCell ⟨r,2,none⟩ (U .u64 ma')).setCell ⟨r,3,none⟩ (U Z ow')).setCell ⟨r,4,none⟩ (U Z ta')).setCell ⟨r,5,none⟩ (U Z ol')).setCell ⟨r,6,none⟩ (U Z ge')).cell? ⟨r,6,none⟩=some (U Z ge')∧
  ((((((((w.setCell ⟨r,0,none⟩ (U Z kd')).setCell ⟨r,1,none⟩ (U Z po')).setCell ⟨r,2,none⟩ (U .u64 ma')).setCell ⟨r,3,none⟩ (U Z ow')).setCell ⟨r,4,none⟩ (U Z ta')).setCell ⟨r,5,none⟩ (U Z ol')).setCell ⟨r,6,none⟩ (U Z ge')).setCell ⟨r,7,none⟩ (U Z ph')).cell? ⟨r,7,none⟩=some (U Z ph')∧
  (((((((((w.setCell ⟨r,0,none⟩ (U Z kd')).setCell ⟨r,1,none⟩ (U Z po')).setCell ⟨r,2,none⟩ (U .u64 ma')).setCell ⟨r,3,none⟩ (U Z ow')).setCell ⟨r,4,none⟩ (U Z ta')).setCell ⟨r,5,none⟩ (U Z ol')).setCell ⟨r,6,none⟩ (U Z ge')).setCell ⟨r,7,none⟩ (U Z ph')).setCell ⟨r,8,none⟩ (U Z ve')).cell? ⟨r,8,none⟩=some (U Z ve')∧
  ((((((((((w.setCell ⟨r,0,none⟩ (U Z kd')).setCell ⟨r,1,none⟩ (U Z po')).setCell ⟨r,2,none⟩ (U .u64 ma')).setCell ⟨r,3,none⟩ (U Z ow')).setCell ⟨r,4,none⟩ (U Z ta')).setCell ⟨r,5,none⟩ (U Z ol')).setCell ⟨r,6,none⟩ (U Z ge')).setCell ⟨r,7,none⟩ (U Z ph')).setCell ⟨r,8,none⟩ (U Z ve')).setCell ⟨r,9,none⟩ (U Z si')).cell? ⟨r,9,none⟩=some (U Z si')∧
  (((((((((((w.setCell ⟨r,0,none⟩ (U Z kd')).setCell ⟨r,1,none⟩ (U Z po')).setCell ⟨r,2,none⟩ (U .u64 ma')).setCell ⟨r,3,none⟩ (U Z ow')).setCell ⟨r,4,none⟩ (U Z ta')).setCell ⟨r,5,none⟩ (U Z ol')).setCell ⟨r,6,none⟩ (U Z ge')).setCell ⟨r,7,none⟩ (U Z ph')).setCell ⟨r,8,none⟩ (U Z ve')).setCell ⟨r,9,none⟩ (U Z si')).setCell ⟨r,10,none⟩ (U Z pt')).cell? ⟨r,10,none⟩=some (U Z pt')∧
  ((((((((((((w.setCell ⟨r,0,none⟩ (U Z kd')).setCell ⟨r,1,none⟩ (U Z po')).setCell ⟨r,2,none⟩ (U .u64 ma')).setCell ⟨r,3,none⟩ (U Z ow')).setCell ⟨r,4,none⟩ (U Z ta')).setCell ⟨r,5,none⟩ (U Z ol')).setCell ⟨r,6,none⟩ (U Z ge')).setCell ⟨r,7,none⟩ (U Z ph')).setCell ⟨r,8,none⟩ (U Z ve')).setCell ⟨r,9,none⟩ (U Z si')).setCell ⟨r,10,none⟩ (U Z pt')).setCell ⟨r,11,none⟩ (U Z vr')).cell? ⟨r,11,none⟩=some (U Z vr')∧
  (((((((((((((w.setCell ⟨r,0,none⟩ (U Z kd')).setCell ⟨r,1,none⟩ (U Z po')).setCell ⟨r,2,none⟩ (U .u64 ma')).setCell ⟨r,3,none⟩ (U Z ow')).setCell ⟨r,4,none⟩ (U Z ta')).setCell ⟨r,5,none⟩ (U Z ol')).setCell ⟨r,6,none⟩ (U Z ge')).setCell ⟨r,7,none⟩ (U Z ph')).setCell ⟨r,8,none⟩ (U Z ve')).setCell ⟨r,9,none⟩ (U Z si')).setCell ⟨r,10,none⟩ (U Z pt')).setCell ⟨r,11,none⟩ (U Z vr')).setCell ⟨r,12,none⟩ (.slice A' n' c')).cell? ⟨r,12,none⟩=some (.slice A' n' c')∧
  Blk (((((((((((((w.setCell ⟨r,0,none⟩ (U Z kd')).setCell ⟨r,1,none⟩ (U Z po')).setCell ⟨r,2,none⟩ (U .u64 ma')).setCell ⟨r,3,none⟩ (U Z ow')).setCell ⟨r,4,none⟩ (U Z ta')).setCell ⟨r,5,none⟩ (U Z ol')).setCell ⟨r,6,none⟩ (U Z ge')).setCell ⟨r,7,none⟩ (U Z ph')).setCell ⟨r,8,none⟩ (U Z ve')).setCell ⟨r,9,none⟩ (U Z si')).setCell ⟨r,10,none⟩ (U Z pt')).setCell ⟨r,11,none⟩ (U Z vr')).setCell ⟨r,12,none⟩ (.slice A' n' c')) r T (msC kd' po' ma' ow' ta' ol' ge' ph' ve' si' pt' vr' A' n' c')∧Chg (fun k=>k=r) w (((((((((((((w.setCell ⟨r,0,none⟩ (U Z kd')).setCell ⟨r,1,none⟩ (U Z po')).setCell ⟨r,2,none⟩ (U .u64 ma')).setCell ⟨r,3,none⟩ (U Z ow')).setCell ⟨r,4,none⟩ (U Z ta')).setCell ⟨r,5,none⟩ (U Z ol')).setCell ⟨r,6,none⟩ (U Z ge')).setCell ⟨r,7,none⟩ (U Z ph')).setCell ⟨r,8,none⟩ (U Z ve')).setCell ⟨r,9,none⟩ (U Z si')).setCell ⟨r,10,none⟩ (U Z pt')).setCell ⟨r,11,none⟩ (U Z vr')).setCell ⟨r,12,none⟩ (.slice A' n' c')):=by
 have h0:=(hb.set 0 (U Z kd'));have r0:=h0.cell 0;have h1:=((hb.set 0 (U Z kd')).set 1 (U Z po'));have r1:=h1.cell 1;have h2:=(((hb.set 0 (U Z kd')).set 1 (U Z po')).set 2 (U .u64 ma'));have r2:=h2.cell 2;have h3:=((((hb.set 0 (U Z kd')).set 1 (U Z po')).set 2 (U .u64 ma')).set 3 (U Z ow'));have r3:=h3.cell 3;have h4:=(((((hb.set 0 (U Z kd')).set 1 (U Z po')).set 2 (U .u64 ma')).set 3 (U Z ow')).set 4 (U Z ta'));have r4:=h4.cell 4;have h5:=((((((hb.set 0 (U Z kd')).set 1 (U Z po')).set 2 (U .u64 ma')).set 3 (U Z ow')).set 4 (U Z ta')).set 5 (U Z ol'));have r5:=h5.cell 5;have h6:=(((((((hb.set 0 (U Z kd')).set 1 (U Z po')).set 2 (U .u64 ma')).set 3 (U Z ow')).set 4 (U Z ta')).set 5 (U Z ol')).set 6 (U Z ge'));have r6:=h6.cell 6;have h7:=((((((((hb.set 0 (U Z kd')).set 1 (U Z po')).set 2 (U .u64 ma')).set 3 (U Z ow')).set 4 (U Z ta')).set 5 (U Z ol')).set 6 (U Z ge')).set 7 (U Z ph'));have r7:=h7.cell 7;have h8:=(((((((((hb.set 0 (U Z kd')).set 1 (U Z po')).set 2 (U .u64 ma')).set 3 (U Z ow')).set 4 (U Z ta')).set 5 (U Z ol')).set 6 (U Z ge')).set 7 (U Z ph')).set 8 (U Z ve'));have r8:=h8.cell 8;have h9:=((((((((((hb.set 0 (U Z kd')).set 1 (U Z po')).set 2 (U .u64 ma')).set 3 (U Z ow')).set 4 (U Z ta')).set 5 (U Z ol')).set 6 (U Z ge')).set 7 (U Z ph')).set 8 (U Z ve')).set 9 (U Z si'));have r9:=h9.cell 9;have h10:=(((((((((((hb.set 0 (U Z kd')).set 1 (U Z po')).set 2 (U .u64 ma')).set 3 (U Z ow')).set 4 (U Z ta')).set 5 (U Z ol')).set 6 (U Z ge')).set 7 (U Z ph')).set 8 (U Z ve')).set 9 (U Z si')).set 10 (U Z pt'));have r10:=h10.cell 10;have h11:=((((((((((((hb.set 0 (U Z kd')).set 1 (U Z po')).set 2 (U .u64 ma')).set 3 (U Z ow')).set 4 (U Z ta')).set 5 (U Z ol')).set 6 (U Z ge')).set 7 (U Z ph')).set 8 (U Z ve')).set 9 (U Z si')).set 10 (U Z pt')).set 11 (U Z vr'));have r11:=h11.cell 11;have h12:=(((((((((((((hb.set 0 (U Z kd')).set 1 (U Z po')).set 2 (U .u64 ma')).set 3 (U Z ow')).set 4 (U Z ta')).set 5 (U Z ol')).set 6 (U Z ge')).set 7 (U Z ph')).set 8 (U Z ve')).set 9 (U Z si')).set 10 (U Z pt')).set 11 (U Z vr')).set 12 (.slice A' n' c'));have r12:=h12.cell 12;simp only[msC,AQ,AR,AS,Ap,Aq,Ar]at r0 r1 r2 r3 r4 r5 r6 r7 r8 r9 r10 r11 r12 h12;exact⟨r0,r1,r2,r3,r4,r5,r6,r7,r8,r9,r10,r11,r12,h12,(((((((((((((Chg.refl (fun k=>k=r) w).put r 0 (fun _=>rfl) _).put r 1 (fun _=>rfl) _).put r 2 (fun _=>rfl) _).put r 3 (fun _=>rfl) _).put r 4 (fun _=>rfl) _).put r 5 (fun _=>rfl) _).put r 6 (fun _=>rfl) _).put r 7 (fun _=>rfl) _).put r 8 (fun _=>rfl) _).put r 9 (fun _=>rfl) _).put r 10 (fun _=>rfl) _).put r 11 (fun _=>rfl) _).put r 12 (fun _=>rfl) _⟩
theorem aS{w:World}{r:Nat}{T:TypeId}{cs:Array Value}(hb:Blk w r T cs):w.frozen? ⟨r,0,none⟩=false∧w.frozen? ⟨r,1,none⟩=false∧w.frozen? ⟨r,2,none⟩=false∧w.frozen? ⟨r,3,none⟩=false∧w.frozen? ⟨r,4,none⟩=false∧w.frozen? ⟨r,5,none⟩=false∧w.frozen? ⟨r,6,none⟩=false∧w.frozen? ⟨r,7,none⟩=false∧w.frozen? ⟨r,8,none⟩=false∧w.frozen? ⟨r,9,none⟩=false∧w.frozen? ⟨r,10,none⟩=false∧w.frozen? ⟨r,11,none⟩=false∧w.frozen? ⟨r,12,none⟩=false:=
 ⟨hb.frozen 0,hb.frozen 1,hb.frozen 2,hb.frozen 3,hb.frozen 4,hb.frozen 5,hb.frozen 6,hb.frozen 7,hb.frozen 8,hb.frozen 9,hb.frozen 10,hb.frozen 11,hb.frozen 12⟩
theorem cL(p k:Nat)(S:Nat→Prop)(st:Option (List UInt8))(w:World)(h:Rd 259 true w p S st):
  Calls Tryz.prog 119 #[.pointer (some ⟨p,0,none⟩),U Z (k:Int)] w fun e w'=>e=.returned (U Z (gv k st))∧Rd 259 true w' p S (gn k st)∧Chg (fun k=>k=p) w w':=ia p S st k w h
theorem uH{x:Int}(h:0≤x∧x≤18446744073709551615):IntKind.u64.wrap x=x:=by
 rw[IntKind.wrap_u64];omega
theorem m5{x:Int}(h:0≤x∧x≤4294967295):IntKind.u32.wrap x=x:=by
 rw[IntKind.wrap_u32];omega
theorem Chg.past{p:Nat}{w0 w w':World}(h:Chg (fun k=>k=p) w0 w)(m:Chg (fun k=>k=p) w w'):Chg (fun k=>k=p) w0 w':=h.tr m
theorem Chg.new{p r:Nat}{w0 w w':World}(h:Chg (fun k=>k=p) w0 w)(m:Chg (fun k=>k=r) w w')(hr:w0.heap.size≤r):Chg (fun k=>k=p) w0 w':=h.trans m (fun i hi hs=>by omega)
theorem qi(p:Nat)(S:Nat→Prop)(st:Option (List UInt8))(w:World)(h:Rd 259 true w p S st)(hS:∀k,S k→k<p):
  Calls Tryz.prog 186 #[.pointer (some ⟨p,0,none⟩)] w fun e w'=>e=.returned (.agg (rvC (rv st 0) (rv st 1) (rv st 2-1) (rv st 3-1) (rv st 4-1) (rv st 6) (rv st 5) (rv st 7) (rv st 8)))∧Rd 259 true w' p S (rs st 9)∧Chg (fun k=>k=p) w w':=by
 have hp:=h.lt;have HS:=hd_ hS;have HR:Hid (Blk (w.alloc (.cells #[U Z 0,U .u64 0,U Z 0,U Z 0,U Z 0,U Z 0,U Z 0,U Z 0,U Z 0] 60)) w.heap.size 60 (rvC 0 0 0 0 0 0 0 0 0)):=hd_ (af rfl);have HC:=hd_ ((Chg.refl (fun k=>k=p) w).alloc (.cells #[U Z 0,U .u64 0,U Z 0,U Z 0,U Z 0,U Z 0,U Z 0,U Z 0,U Z 0] 60));have HRD:=hd_ (show Rd 259 true (w.alloc (.cells #[U Z 0,U .u64 0,U Z 0,U Z 0,U Z 0,U Z 0,U Z 0,U Z 0,U Z 0] 60)) p S (rs st 0)from h.chg ((Chg.refl (fun _=>False) w).alloc _) id (fun _ _=>id));have g1:=dq 6 (rs st 1);have g2:=dq 1 (rs st 2);have g3:=dq 1 (rs st 3);have g4:=dq 1 (rs st 4);have a1:IntKind.u64.wrap (rv st 1)=rv st 1:=uH ⟨g1.1,Int.le_trans g1.2 (by decide)⟩;have a2:IntKind.i64.wrap (rv st 2-1)=rv st 2-1:=bJ (by have e:rv st 2=gv 1 (rs st 2):=rfl;omega);have a3:IntKind.i64.wrap (rv st 3-1)=rv st 3-1:=bJ (by have e:rv st 3=gv 1 (rs st 3):=rfl;omega);have a4:IntKind.i64.wrap (rv st 4-1)=rv st 4-1:=bJ (by have e:rv st 4=gv 1 (rs st 4):=rfl;omega);clear h hS g1 g2 g3 g4;go_in;have HG:=hd_ (show Calls _ _ _ _ (fun e w'=>e=.returned (U Z (rv st 0))∧Rd 259 true w' p S (rs st 1)∧Chg (fun k=>k=p) _ w')from cL p 1 S (rs st 0) _ HRD.out);go_wp2_with fail;refine HG.out.mono ?_;rintro e w0 ⟨rfl,hrd,hc'⟩;replace HC:=hd_ (HC.out.past hc');replace HR:=hd_ (HR.out.chg hc' (by omega));replace HRD:=hd_ hrd;clear HG hrd hc';have HG:=hd_ (show Calls _ _ _ _ (fun e w'=>e=.returned (U Z (rv st 1))∧Rd 259 true w' p S (rs st 2)∧Chg (fun k=>k=p) _ w')from cL p 6 S (rs st 1) _ HRD.out);go_wp2_with fail;refine HG.out.mono ?_;rintro e w1 ⟨rfl,hrd,hc'⟩;replace HC:=hd_ (HC.out.past hc');replace HR:=hd_ (HR.out.chg hc' (by omega));replace HRD:=hd_ hrd;clear HG hrd hc';have HG:=hd_ (show Calls _ _ _ _ (fun e w'=>e=.returned (U Z (rv st 2))∧Rd 259 true w' p S (rs st 3)∧Chg (fun k=>k=p) _ w')from cL p 1 S (rs st 2) _ HRD.out);go_wp2_with fail;refine HG.out.mono ?_;rintro e w2 ⟨rfl,hrd,hc'⟩;replace HC:=hd_ (HC.out.past hc');replace HR:=hd_ (HR.out.chg hc' (by omega));replace HRD:=hd_ hrd;clear HG hrd hc';have HG:=hd_ (show Calls _ _ _ _ (fun e w'=>e=.returned (U Z (rv st 3))∧Rd 259 true w' p S (rs st 4)∧Chg (fun k=>k=p) _ w')from cL p 1 S (rs st 3) _ HRD.out);go_wp2_with fail;refine HG.out.mono ?_;rintro e w3 ⟨rfl,hrd,hc'⟩;replace HC:=hd_ (HC.out.past hc');replace HR:=hd_ (HR.out.chg hc' (by omega));replace HRD:=hd_ hrd;clear HG hrd hc';have HG:=hd_ (show Calls _ _ _ _ (fun e w'=>e=.returned (U Z (rv st 4))∧Rd 259 true w' p S (rs st 5)∧Chg (fun k=>k=p) _ w')from cL p 1 S (rs st 4) _ HRD.out);go_wp2_with fail;refine HG.out.mono ?_;rintro e w4 ⟨rfl,hrd,hc'⟩;replace HC:=hd_ (HC.out.past hc');replace HR:=hd_ (HR.out.chg hc' (by omega));replace HRD:=hd_ hrd;clear HG hrd hc';have HG:=hd_ (show Calls _ _ _ _ (fun e w'=>e=.returned (U Z (rv st 5))∧Rd 259 true w' p S (rs st 6)∧Chg (fun k=>k=p) _ w')from cL p 1 S (rs st 5) _ HRD.out);go_wp2_with fail;refine HG.out.mono ?_;rintro e w5 ⟨rfl,hrd,hc'⟩;replace HC:=hd_ (HC.out.past hc');replace HR:=hd_ (HR.out.chg hc' (by omega));replace HRD:=hd_ hrd;clear HG hrd hc';have HG:=hd_ (show Calls _ _ _ _ (fun e w'=>e=.returned (U Z (rv st 6))∧Rd 259 true w' p S (rs st 7)∧Chg (fun k=>k=p) _ w')from cL p 5 S (rs st 6) _ HRD.out);go_wp2_with fail;refine HG.out.mono ?_;rintro e w6 ⟨rfl,hrd,hc'⟩;replace HC:=hd_ (HC.out.past hc');replace HR:=hd_ (HR.out.chg hc' (by omega));replace HRD:=hd_ hrd;clear HG hrd hc';have HG:=hd_ (show Calls _ _ _ _ (fun e w'=>e=.returned (U Z (rv st 7))∧Rd 259 true w' p S (rs st 8)∧Chg (fun k=>k=p) _ w')from cL p 6 S (rs st 7) _ HRD.out);go_wp2_with fail;refine HG.out.mono ?_;rintro e w7 ⟨rfl,hrd,hc'⟩;replace HC:=hd_ (HC.out.past hc');replace HR:=hd_ (HR.out.chg hc' (by omega));replace HRD:=hd_ hrd;clear HG hrd hc';have HG:=hd_ (show Calls _ _ _ _ (fun e w'=>e=.returned (U Z (rv st 8))∧Rd 259 true w' p S (rs st 9)∧Chg (fun k=>k=p) _ w')from cL p 6 S (rs st 8) _ HRD.out);go_wp2_with fail;refine HG.out.mono ?_;rintro e w8 ⟨rfl,hrd,hc'⟩;replace HC:=hd_ (HC.out.past hc');replace HR:=hd_ (HR.out.chg hc' (by omega));replace HRD:=hd_ hrd;clear HG hrd hc';obtain⟨x0,x1,x2,x3,x4,x5,x6,x7,x8⟩:=aa HR.out;obtain⟨u0,u1,u2,u3,u4,u5,u6,u7,u8⟩:=wJ HR.out;obtain⟨r0,r1,r2,r3,r4,r5,r6,r7,r8,_,hcs⟩:=xS HR.out (rv st 0) (rv st 1) (rv st 2-1) (rv st 3-1) (rv st 4-1) (rv st 6) (rv st 5) (rv st 7) (rv st 8);replace HC:=hd_ (HC.out.new hcs (zG _));replace HRD:=hd_ (HRD.out.chg hcs (by omega) (fun k hk=>by have:=HS.out k hk;omega));have RR:=cj9 r0 r1 r2 r3 r4 r5 r6 r7 r8;clear r0 r1 r2 r3 r4 r5 r6 r7 r8 hcs;go_wp2_with fail;exact AW (v:=.agg (rvC (rv st 0) (rv st 1) (rv st 2-1) (rv st 3-1) (rv st 4-1) (rv st 6) (rv st 5) (rv st 7) (rv st 8))) (by simp[results,Tryz.results186,go_sem,rvC,RR.out]) rfl ⟨rfl,HRD.out,HC.out⟩
theorem wK:(Tryz.prog.info? 219).map (fun i=>(i.zero,i.size,i.bytes))=some (some (.agg #[U Z 0,U .u32 0,U .u32 0,U Z 0,U Z 0,U Z 0]),6,40):=by kernel_rfl
def RM(w:World)(B nn:Nat)(l:List Rc):Prop:=
 ∃arr:Array Value,Blk w B 219 arr∧arr.size=nn*6∧∀(i:Nat) (x:Rc),l[i]?=some x→∀(j:Nat) (u:Value),x.cs[j]?=some u→arr[i*6+j]?=some u
section
variable {w w' : World} {B nn : Nat} {l : List Rc}
theorem RM.chg{S:Nat→Prop}(h:RM w B nn l)(hc:Chg S w w')(hB:¬S B):RM w' B nn l:=by
 obtain⟨arr,hb,h2⟩:=h;exact⟨arr,hb.chg hc hB,h2⟩
theorem RM.made(w:World)(nn:Nat)(z:Array Value):RM (w.alloc (.cells (madeCells z (nn*6)) 219)) w.heap.size nn []:=
 ⟨_,af rfl,size_madeCells _ _,fun i x h=>by simp at h⟩
theorem RM.lt(h:RM w B nn l):B<w.heap.size:=by
 obtain⟨arr,hb,_⟩:=h;exact hb.lt
theorem RM.free(h:RM w B nn l){j:Nat}(hj:j<nn):∃c0 c1 c2 c3 c4 c5:Value,w.cell? ⟨B,j*6,none⟩=some c0∧w.cell? ⟨B,j*6+1,none⟩=some c1∧w.cell? ⟨B,j*6+2,none⟩=some c2∧w.cell? ⟨B,j*6+3,none⟩=some c3∧w.cell? ⟨B,j*6+4,none⟩=some c4∧w.cell? ⟨B,j*6+5,none⟩=some c5∧w.frozen? ⟨B,j*6,none⟩=false∧w.frozen? ⟨B,j*6+1,none⟩=false∧w.frozen? ⟨B,j*6+2,none⟩=false∧w.frozen? ⟨B,j*6+3,none⟩=false∧w.frozen? ⟨B,j*6+4,none⟩=false∧w.frozen? ⟨B,j*6+5,none⟩=false:=by
 obtain⟨arr,hb,hs,_⟩:=h
 have hc:∀k,k<6→∃c,w.cell? ⟨B,j*6+k,none⟩=some c:=fun k hk=>by
  rw[hb.cell];exact⟨_,Array.getElem?_eq_getElem (by omega)⟩
 obtain⟨c0,e0⟩:=hc 0 (by decide);obtain⟨c1,e1⟩:=hc 1 (by decide);obtain⟨c2,e2⟩:=hc 2 (by decide);obtain⟨c3,e3⟩:=hc 3 (by decide);obtain⟨c4,e4⟩:=hc 4 (by decide);obtain⟨c5,e5⟩:=hc 5 (by decide);exact⟨c0,c1,c2,c3,c4,c5,e0,e1,e2,e3,e4,e5,hb.frozen _,hb.frozen _,hb.frozen _,hb.frozen _,hb.frozen _,hb.frozen _⟩
theorem co{a:Array Value}{k p:Nat}{u:Value}(v:Value)(hp:p≠k)(h:a[k]?=some u):(a.setIfInBounds p v)[k]?=some u:=by
 rw[Array.getElem?_setIfInBounds_ne hp];exact h
theorem jt{a:Array Value}{p:Nat}(v:Value)(h:p<a.size):(a.setIfInBounds p v)[p]?=some v:=Array.getElem?_setIfInBounds_self_of_lt h
theorem RM.put(h:RM w B nn l){j:Nat}(hl:l.length=j)(hj:j<nn)(x:Rc):RM ((((((w.setCell ⟨B,j*6,none⟩ (U Z x.pr)).setCell ⟨B,j*6+1,none⟩ (U .u32 x.sr)).setCell ⟨B,j*6+2,none⟩ (U .u32 x.ds)).setCell ⟨B,j*6+3,none⟩ (U Z x.sp)).setCell ⟨B,j*6+4,none⟩ (U Z x.dp)).setCell ⟨B,j*6+5,none⟩ (U Z x.un)) B nn (l++[x]):=by
 obtain⟨arr,hb,hs,hc⟩:=h;refine⟨_,((((((hb.set (j*6) (U Z x.pr)).set (j*6+1) (U .u32 x.sr)).set (j*6+2) (U .u32 x.ds)).set (j*6+3) (U Z x.sp)).set (j*6+4) (U Z x.dp)).set (j*6+5) (U Z x.un)),by simp[hs],fun i y hy k u hu=>?_⟩;have hk:k<6:=(Array.getElem?_eq_some_iff.1 hu).1;by_cases hi:i<l.length
 ·rw[List.getElem?_append_left hi]at hy;exact co _ (by omega) (co _ (by omega) (co _ (by omega) (co _ (by omega) (co _ (by omega) (co _ (by omega) (hc i y hy k u hu))))))
 ·have hi2:i<(l++[x]).length:=(zS.1 hy).1;rw[zY,List.length_singleton]at hi2
  have hij:i=j:=by omega
  subst hij;rw[List.getElem?_append_right (by omega),show i-l.length=0 by omega,Aq,AP.injEq]at hy;subst hy
  have hsz:i*6+6≤arr.size:=by omega
  clear hc hb
  have hk6:k=0∨k=1∨k=2∨k=3∨k=4∨k=5:=by omega
  rcases hk6 with rfl|rfl|rfl|rfl|rfl|rfl
  ·have e:x.cs[0]?=some (U Z x.pr):=rfl;rw[e]at hu;rw[←hu];exact co _ (by omega) (co _ (by omega) (co _ (by omega) (co _ (by omega) (co _ (by omega) (jt _ (by(try simp only[CC]);omega))))))
  ·have e:x.cs[1]?=some (U .u32 x.sr):=rfl;rw[e]at hu;rw[←hu];exact co _ (by omega) (co _ (by omega) (co _ (by omega) (co _ (by omega) (jt _ (by(try simp only[CC]);omega)))))
  ·have e:x.cs[2]?=some (U .u32 x.ds):=rfl;rw[e]at hu;rw[←hu];exact co _ (by omega) (co _ (by omega) (co _ (by omega) (jt _ (by(try simp only[CC]);omega))))
  ·have e:x.cs[3]?=some (U Z x.sp):=rfl;rw[e]at hu;rw[←hu];exact co _ (by omega) (co _ (by omega) (jt _ (by(try simp only[CC]);omega)))
  ·have e:x.cs[4]?=some (U Z x.dp):=rfl;rw[e]at hu;rw[←hu];exact co _ (by omega) (jt _ (by(try simp only[CC]);omega))
  ·have e:x.cs[5]?=some (U Z x.un):=rfl;rw[e]at hu;rw[←hu];exact jt _ (by(try simp only[CC]);omega)
theorem RM.rcr(h:RM w B nn l)(hl:nn=l.length):RcR w (fun k=>k=B) (some ⟨B,0,none⟩) nn l:=by
 obtain⟨arr,hb,hs,hc⟩:=h;refine⟨hl,fun hm=>⟨⟨B,0,none⟩,rfl,rfl,hb.lt,fun i x hi j u hu=>?_⟩⟩
 have e:(⟨B,0,none⟩:Addr).add (i*6+j)=⟨B,i*6+j,none⟩:=by unfold Addr.add;split<;>simp_all
 rw[e,hb.cell];exact hc i x hi j u hu
end
theorem nO(p:Nat)(S:Nat→Prop)(st:Option (List UInt8))(w:World)(h:Rd 259 true w p S st)(hS:∀k,S k→k<p):
  Calls Tryz.prog 187 #[.pointer (some ⟨p,0,none⟩)] w fun e w'=>∃A nn c,e=.returned (.slice A nn c)∧nn=(gv 1 st).toNat∧RcR w' (fun k=>w.heap.size≤k) A nn (dV nn (gn 1 st))∧Rd 259 true w' p S (eU nn (gn 1 st))∧Chg (fun k=>k=p) w w':=by
 obtain⟨i0,hi0,hz0,hz1,hz2⟩:=info_parts wK;have hp:=h.lt;have HS:=hd_ hS;have hn:=dq 1 st;have hn2:=kK 1 st (by decide) (by decide);have HG:=hd_ (cL p 1 S st w h);obtain⟨nn,hnn⟩:∃nn:Nat,gv 1 st=(nn:Int):=⟨(gv 1 st).toNat,by omega⟩;rw[hnn]at HG hn hn2;have HNN:=hd_ hnn
 have hn3:nn<256:=by omega
 have hmk:=fun W:World=>run_make (P:=Tryz.prog) W 72 219 i0 (.agg #[U Z 0,U .u32 0,U .u32 0,U Z 0,U Z 0,U Z 0]) Tryz.underlying72 hi0 hz0 .i64 .i64 (nn:Int) (nn:Int) (by omega) (Int.le_refl _) (by rw[hz2];omega) (by omega);simp only[Al,hz1,Value.cells]at hmk;clear h hS hnn hn hn2 hi0 hz0 hz1 hz2;go_in;go_wp2_with fail;refine HG.out.mono ?_;rintro e w1 ⟨rfl,hrd,hc'⟩;have hsz:=hc'.size;have HM0:=hd_ (RM.made w1 nn #[U Z 0,U .u32 0,U .u32 0,U Z 0,U Z 0,U Z 0]);have HC0:=hd_ (hc'.alloc (.cells (madeCells #[U Z 0,U .u32 0,U .u32 0,U Z 0,U Z 0,U Z 0] (nn*6)) 219));have HR0:=hd_ (show Rd 259 true (w1.alloc (.cells (madeCells #[U Z 0,U .u32 0,U .u32 0,U Z 0,U Z 0,U Z 0] (nn*6)) 219)) p S (eU 0 (gn 1 st))from hrd.chg ((Chg.refl (fun _=>False) w1).alloc _) id (fun _ _=>id));clear hrd hc' HG;go_wp2_with fail;generalize w1.heap.size=B at*
 go_loopg [4,5,11] nn (fun g s4 s5 i wr=>∃j:Nat,g=nn-j∧j≤nn∧i=U Z (j:Int)∧Hid (Rd 259 true wr p S (eU j (gn 1 st)))∧Hid (RM wr B nn (dV j (gn 1 st)))∧Hid (Chg (fun k=>k=p) w wr))
 case atStart=>exact⟨0,rfl,zP _,rfl,HR0,HM0,HC0⟩
 case round=>
  obtain⟨j,rfl,hj,rfl,HRD,HM,HC⟩:=hrel;by_cases hlt:j<nn
  ·have hlen:=gm j (gn 1 st);have HV:=hd_ (lV j (gn 1 st));have HE:=hd_ (lU j (gn 1 st));generalize dV j (gn 1 st)=l at*;generalize eU j (gn 1 st)=s at*;have HLEN:=hd_ hlen;clear hlen;replace HRD:=hd_ (show Rd 259 true wr p S (os s 0)from HRD.out);have g1:=dq 4 (os s 1);have g2:=kK 4 (os s 1) (by decide) (by decide);have g3:=dq 4 (os s 2);have g4:=kK 4 (os s 2) (by decide) (by decide);have a1:IntKind.u32.wrap (ov s 1)=ov s 1:=m5 (by have e:ov s 1=gv 4 (os s 1):=rfl;omega);have a2:IntKind.u32.wrap (ov s 2)=ov s 2:=m5 (by have e:ov s 2=gv 4 (os s 2):=rfl;omega);clear g1 g2 g3 g4;have HG:=hd_ (show Calls _ _ _ _ (fun e w'=>e=.returned (U Z (ov s 0))∧Rd 259 true w' p S (os s 1)∧Chg (fun k=>k=p) _ w')from cL p 1 S (os s 0) _ HRD.out);go_wp2_with fail;refine HG.out.mono ?_;rintro e v0 ⟨rfl,hrd,hc'⟩;replace HC:=hd_ (HC.out.past hc');replace HM:=hd_ (HM.out.chg hc' (by omega));replace HRD:=hd_ hrd;clear HG hrd hc';have HG:=hd_ (show Calls _ _ _ _ (fun e w'=>e=.returned (U Z (ov s 1))∧Rd 259 true w' p S (os s 2)∧Chg (fun k=>k=p) _ w')from cL p 4 S (os s 1) _ HRD.out);go_wp2_with fail;refine HG.out.mono ?_;rintro e v1 ⟨rfl,hrd,hc'⟩;replace HC:=hd_ (HC.out.past hc');replace HM:=hd_ (HM.out.chg hc' (by omega));replace HRD:=hd_ hrd;clear HG hrd hc';have HG:=hd_ (show Calls _ _ _ _ (fun e w'=>e=.returned (U Z (ov s 2))∧Rd 259 true w' p S (os s 3)∧Chg (fun k=>k=p) _ w')from cL p 4 S (os s 2) _ HRD.out);go_wp2_with fail;refine HG.out.mono ?_;rintro e v2 ⟨rfl,hrd,hc'⟩;replace HC:=hd_ (HC.out.past hc');replace HM:=hd_ (HM.out.chg hc' (by omega));replace HRD:=hd_ hrd;clear HG hrd hc';have hv2:=HC.out.size;have hrp:=HRD.out.lt;have hbp:=HM.out.lt;have HF:Hid (Blk (v2.alloc (.cells #[U Z (ov s 0),U .u32 (ov s 1),U .u32 (ov s 2),U Z 0,U Z 0] 217)) v2.heap.size 217 (flC (ov s 0) (ov s 1) (ov s 2) 0 0)):=hd_ (af rfl);replace HC:=hd_ (HC.out.alloc (.cells #[U Z (ov s 0),U .u32 (ov s 1),U .u32 (ov s 2),U Z 0,U Z 0] 217));replace HM:=hd_ (HM.out.chg ((Chg.refl (fun _=>False) _).alloc (.cells #[U Z (ov s 0),U .u32 (ov s 1),U .u32 (ov s 2),U Z 0,U Z 0] 217)) id);replace HRD:=hd_ (HRD.out.chg ((Chg.refl (fun _=>False) _).alloc (.cells #[U Z (ov s 0),U .u32 (ov s 1),U .u32 (ov s 2),U Z 0,U Z 0] 217)) id (fun _ _=>id));have HG:=hd_ (show Calls _ _ _ _ (fun e w'=>e=.returned (U Z (ov s 3))∧Rd 259 true w' p S (os s 4)∧Chg (fun k=>k=p) _ w')from cL p 2 S (os s 3) _ HRD.out);go_wp2_with fail;refine HG.out.mono ?_;rintro e v3 ⟨rfl,hrd,hc'⟩;replace HC:=hd_ (HC.out.past hc');replace HM:=hd_ (HM.out.chg hc' (by omega));replace HRD:=hd_ hrd;replace HF:=hd_ (HF.out.chg hc' (by omega));clear HG hrd hc';have HG:=hd_ (show Calls _ _ _ _ (fun e w'=>e=.returned (U Z (ov s 4))∧Rd 259 true w' p S (os s 5)∧Chg (fun k=>k=p) _ w')from cL p 2 S (os s 4) _ HRD.out);go_wp2_with fail;refine HG.out.mono ?_;rintro e v4 ⟨rfl,hrd,hc'⟩;replace HC:=hd_ (HC.out.past hc');replace HM:=hd_ (HM.out.chg hc' (by omega));replace HRD:=hd_ hrd;replace HF:=hd_ (HF.out.chg hc' (by omega));clear HG hrd hc';obtain⟨x0,x1,x2,x3,x4⟩:=ii HF.out;have u3:=HF.out.frozen 3;have u4:=HF.out.frozen 4;have hset:=(HF.out.set 3 (U Z (ov s 3))).set 4 (U Z (ov s 4));simp only[flC,AQ,AR,AS]at hset;have hset:Blk _ _ 217 (flC (ov s 0) (ov s 1) (ov s 2) (ov s 3) (ov s 4)):=hset;have hcs:=((Chg.refl (fun k=>k=v2.heap.size) v4).put v2.heap.size 3 (fun _=>rfl) (U Z (ov s 3))).put v2.heap.size 4 (fun _=>rfl) (U Z (ov s 4));replace HC:=hd_ (HC.out.new hcs hv2);replace HM:=hd_ (HM.out.chg hcs (by omega));replace HRD:=hd_ (HRD.out.chg hcs (by omega) (fun k hk=>by have:=HS.out k hk;omega));replace HF:=hd_ hset;clear hset hcs;go_upto_region 7 with fail;generalize ((v4.setCell ⟨v2.heap.size,3,none⟩ (U Z (ov s 3))).setCell ⟨v2.heap.size,4,none⟩ (U Z (ov s 4)))=v5 at*
   have hFp:p<v2.heap.size:=by omega
   have hFB:B<v2.heap.size:=by omega
   generalize v2.heap.size=F at*;clear x0 x1 x2 x3 x4 u3 u4;have HG:=hd_ (show Calls _ _ _ v5.drew (fun e w'=>e=.returned (U Z (ov s 5))∧Rd 259 true w' p S (os s 6)∧Chg (fun k=>k=p) v5.drew w')from cL p 6 S (os s 5) v5.drew HRD.out);have hx0:=ii HF.out;have hx1:v5.drew.cell? ⟨F,0,none⟩=some (U Z (ov s 0))∧v5.drew.cell? ⟨F,1,none⟩=some (U .u32 (ov s 1))∧v5.drew.cell? ⟨F,2,none⟩=some (U .u32 (ov s 2))∧v5.drew.cell? ⟨F,3,none⟩=some (U Z (ov s 3))∧v5.drew.cell? ⟨F,4,none⟩=some (U Z (ov s 4)):=hx0;replace HF:Hid (Blk v5.drew F 217 (flC (ov s 0) (ov s 1) (ov s 2) (ov s 3) (ov s 4))):=hd_ HF.out;replace HM:Hid (RM v5.drew B nn l):=hd_ HM.out;replace HC:=hd_ HC.out.drew
   go_region_held3 (fun w'=>w'.cell? ⟨F,0,none⟩=some (U Z (ov s 0))∧w'.cell? ⟨F,1,none⟩=some (U .u32 (ov s 1))∧w'.cell? ⟨F,2,none⟩=some (U .u32 (ov s 2))∧w'.cell? ⟨F,3,none⟩=some (U Z (ov s 3))∧w'.cell? ⟨F,4,none⟩=some (U Z (ov s 4)))
    (first|with_reducible exact hx0|with_reducible exact hx1|with_reducible exact HX6.out|with_reducible exact HXS.out|fail)
    (first
     |(go_at_call 119;(refine HG.out.mono ?_);rintro e v6 ⟨rfl,hrd,hc'⟩;have HX6:=hd_ (ii (HF.out.chg hc' (by omega)));have HM6:=hd_ (HM.out.chg hc' (by omega));have HC6:=hd_ (HC.out.past hc');have HRD6:=hd_ hrd;obtain⟨c0,c1,c2,c3,c4,c5,e0,e1,e2,e3,e4,e5,f0,f1,f2,f3,f4,f5⟩:=HM6.out.free hlt;have hcs6:=((((((Chg.refl (fun k=>k=B) v6).put B (j*6) (fun _=>rfl) (U Z (ov s 0))).put B (j*6+1) (fun _=>rfl) (U .u32 (ov s 1))).put B (j*6+2) (fun _=>rfl) (U .u32 (ov s 2))).put B (j*6+3) (fun _=>rfl) (U Z (ov s 3))).put B (j*6+4) (fun _=>rfl) (U Z (ov s 4))).put B (j*6+5) (fun _=>rfl) (U Z (ov s 5));have HXS:=hd_ (ii ((HF.out.chg hc' (by omega)).chg hcs6 (by omega)));have HCS:=hd_ hcs6;clear hrd hc' hcs6)
     |fail)
   have hM:=HM6.out.put HLEN.out hlt (g_ s);have HMM:=hd_ (show RM _ B nn (dV (j+1) (gn 1 st))from HV.out▸hM);have HRR:=hd_ (show Rd 259 true _ p S (eU (j+1) (gn 1 st))from HE.out▸(show Rd 259 true _ p S (eT s)from HRD6.out.chg HCS.out (by omega) (fun k hk=>by have:=HS.out k hk;omega)));have HCC:=hd_ (HC6.out.new HCS.out hsz);clear hM HM6 HV HE HRD6 HCS HC6;go_wp2_with fail;go_roundg (nn-(j+1))
   case measure=>omega
   case rel=>exact⟨j+1,rfl,by omega,by go_num,HRR,HMM,HCC⟩
  ·have hjn:nn=j:=by omega
   subst hjn;go_wp2_with fail;go_ret;refine⟨some ⟨B,0,none⟩,nn,nn,rfl,by rw[HNN.out,Al],(HM.out.rcr (gm _ _).symm).mono (fun k hk=>by omega),HRD.out,HC.out⟩
def cN:Value:=.agg (msC 0 0 0 0 0 0 0 0 0 0 0 0 none 0 0)
def Hd6(m:MV)(x:Int)(w:World)(e:Ending)(w':World):Prop:=
 ∃A c,e=.returned (.tuple #[.agg (msC m.kd m.po m.ma m.ow m.ta m.ol m.ge m.ph m.ve m.si m.pt m.vr A m.l.length c),U Z x])∧RcR w' (fun k=>w.heap.size≤k) A m.l.length m.l∧Chg (fun _=>False) w w'
def fA(b:List UInt8)(w:World)(e:Ending)(w':World):Prop:=Hd6 (cM b) (cX b) w e w'
theorem en{b:List UInt8}(h:cOK b=false){w w':World}{e:Ending}(hh:e=.returned (.tuple #[cN,U Z 2])∧Chg (fun _=>False) w w'):fA b w e w':=by
 unfold fA;rw[yO h,vk h];exact⟨none,0,hh.1,RcR.nil _ _ _,hh.2⟩
theorem ly{b:List UInt8}(h:cOK b=true){m:MV}(hm:cV b=m){w w':World}{e:Ending}(hh:Hd6 m 0 w e w'):fA b w e w':=by
 unfold fA;rw[sl h,so h,hm];exact hh
theorem sz(A:Option Addr)(n c:Nat)(b:List UInt8)(w:World)(hn:n=b.length)(h15:313<n)(hn2:n≤9223372036854775807):
  Calls Tryz.prog 129 #[.slice A n c] w (fA b w):=by
 have HNO:=hd_ (xR (b:=b) (by omega));clear hn;go_in;go_wp2_with fail;exact AW (v:=.tuple #[cN,U Z 2]) (by simp[results,Tryz.results129,go_sem,cN,msC]) rfl (en HNO.out ⟨rfl,(Chg.refl _ w).alloc _⟩)
theorem xT(A:Option Addr)(n c:Nat)(b:List UInt8)(S:Nat→Prop)(w:World)(hn:n=b.length)(h:Rds w S A n (bcs b))(hz:A=none→c=0)(h15:n≤313)(hk:cK b=1):
  Calls Tryz.prog 129 #[.slice A n c] w (fA b w):=by
 have HDOK:=hd_ (qa hk);have HV:=hd_ (uD hk);have HK:=hd_ hk;clear hk;have HR:Hid (Blk (w.alloc (.cells #[U Z 0,U Z 0,U .u64 0,U Z 0,U Z 0,U Z 0,U Z 0,U Z 0,U Z 0,U Z 0,U Z 0,U Z 0,.slice none 0 0] 74)) w.heap.size 74 (msC 0 0 0 0 0 0 0 0 0 0 0 0 none 0 0)):=hd_ (af rfl);have HC:=hd_ ((Chg.refl (fun _=>False) w).alloc (.cells #[U Z 0,U Z 0,U .u64 0,U Z 0,U Z 0,U Z 0,U Z 0,U Z 0,U Z 0,U Z 0,U Z 0,U Z 0,.slice none 0 0] 74));have HZ:=hd_ (show (w.alloc (.cells #[U Z 0,U Z 0,U .u64 0,U Z 0,U Z 0,U Z 0,U Z 0,U Z 0,U Z 0,U Z 0,U Z 0,U Z 0,.slice none 0 0] 74)).heap.size=w.heap.size+1 by simp);have HRDD:=hd_ (eG A n c b _ _ hn (h.alloc (.cells #[U Z 0,U Z 0,U .u64 0,U Z 0,U Z 0,U Z 0,U Z 0,U Z 0,U Z 0,U Z 0,U Z 0,U Z 0,.slice none 0 0] 74)) hz (by omega));clear h hn hz;go_in;go_wp2_with fail;refine HRDD.out.mono ?_;rintro e w0 ⟨p,rfl,hp,hrd,hc1⟩;have hz:=HZ.out
 have hrp:w.heap.size<p:=by omega
 have HRD:=hd_ (hrd.mono (S':=fun k=>w.heap.size<k∧k<p) (fun k hk=>by omega) (by omega));replace HR:=hd_ (HR.out.chg hc1 id);replace HC:=hd_ (HC.out.tr hc1);clear HRDD HZ hz hp hrd hc1
 have HG:Hid (Calls Tryz.prog 119 #[.pointer (some ⟨p,0,none⟩),U Z 1] w0 fun e w'=>e=.returned (U Z 1)∧Rd 259 true w' p (fun k=>w.heap.size<k∧k<p) (cS1 b)∧Chg (fun k=>k=p) w0 w'):=hd_ (by
  have hg:=cL p 1 _ (some b) w0 HRD.out;rw[show gv 1 (some b)=1 from HK.out]at hg
  exact hg)
 go_wp2_with fail;refine HG.out.mono ?_;rintro e w1 ⟨rfl,hrd,hc'⟩;replace HC:=hd_ (ab HC.out hc' (by omega));replace HR:=hd_ (HR.out.chg hc' (by omega));have hpq:=hrd.lt;have HQ:Hid (Blk (w1.alloc (.cells #[U Z 1,U Z 0,U .u64 0,U Z 0,U Z 0,U Z 0,U Z 0,U Z 0,U Z 0,U Z 0,U Z 0,U Z 0,.slice none 0 0] 74)) w1.heap.size 74 (msC 1 0 0 0 0 0 0 0 0 0 0 0 none 0 0)):=hd_ (af rfl);have hca:=(Chg.refl (fun _=>False) w1).alloc (.cells #[U Z 1,U Z 0,U .u64 0,U Z 0,U Z 0,U Z 0,U Z 0,U Z 0,U Z 0,U Z 0,U Z 0,U Z 0,.slice none 0 0] 74);replace HRD:=hd_ (hrd.chg hca id (fun _ _=>id));replace HC:=hd_ (HC.out.tr hca);replace HR:=hd_ (HR.out.chg hca id);clear HG hrd hc' hca;have HG:=hd_ (qi p _ (cS1 b) _ HRD.out (fun k hk=>hk.2));unfold rvC at HG;go_wp2_with fail;refine HG.out.mono ?_;rintro e v1 ⟨rfl,hrd,hc'⟩;replace HC:=hd_ (ab HC.out hc' (by omega));replace HR:=hd_ (HR.out.chg hc' (by omega));replace HQ:=hd_ (HQ.out.chg hc' (by omega));replace HRD:=hd_ hrd;clear HG hrd hc';obtain⟨y0,y1,y2,y3,y4,y5,y6,y7,y8,y9,y10,y11,y12⟩:=ai HQ.out;obtain⟨u0,u1,u2,u3,u4,u5,u6,u7,u8,u9,u10,u11,u12⟩:=aS HQ.out;have hset:=(((((((((HQ.out).set 1 (U Z (rv (cS1 b) 0))).set 2 (U .u64 (rv (cS1 b) 1))).set 3 (U Z (rv (cS1 b) 2-1))).set 4 (U Z (rv (cS1 b) 3-1))).set 5 (U Z (rv (cS1 b) 4-1))).set 6 (U Z (rv (cS1 b) 6))).set 7 (U Z (rv (cS1 b) 5))).set 8 (U Z (rv (cS1 b) 7))).set 9 (U Z (rv (cS1 b) 8));simp only[msC,AQ,AR,AS]at hset;have hset:Blk _ _ 74 (msC 1 (rv (cS1 b) 0) (rv (cS1 b) 1) (rv (cS1 b) 2-1) (rv (cS1 b) 3-1) (rv (cS1 b) 4-1) (rv (cS1 b) 6) (rv (cS1 b) 5) (rv (cS1 b) 7) (rv (cS1 b) 8) 0 0 none 0 0):=hset;have hcs:Chg (fun k=>k=w1.heap.size) _ _:=(((((((((Chg.refl (fun k=>k=w1.heap.size) v1).put w1.heap.size 1 (fun _=>rfl) (U Z (rv (cS1 b) 0))).put w1.heap.size 2 (fun _=>rfl) (U .u64 (rv (cS1 b) 1))).put w1.heap.size 3 (fun _=>rfl) (U Z (rv (cS1 b) 2-1))).put w1.heap.size 4 (fun _=>rfl) (U Z (rv (cS1 b) 3-1))).put w1.heap.size 5 (fun _=>rfl) (U Z (rv (cS1 b) 4-1))).put w1.heap.size 6 (fun _=>rfl) (U Z (rv (cS1 b) 6))).put w1.heap.size 7 (fun _=>rfl) (U Z (rv (cS1 b) 5))).put w1.heap.size 8 (fun _=>rfl) (U Z (rv (cS1 b) 7))).put w1.heap.size 9 (fun _=>rfl) (U Z (rv (cS1 b) 8));replace HC:=hd_ (ab HC.out hcs (by omega));replace HR:=hd_ (HR.out.chg hcs (by omega));replace HRD:=hd_ (HRD.out.chg hcs (by omega) (fun k hk=>by have:=hk.2;omega));replace HQ:=hd_ hset;clear hset hcs;have HG:=hd_ (dB p _ _ _ HRD.out);generalize hdn:bT (rs (cS1 b) 9)=dn at*;clear hdn;go_wp2_with fail;clear y0 y1 y2 y3 y4 y5 y6 y7 y8 y9 y10 y11 y12 u0 u1 u2 u3 u4 u5 u6 u7 u8 u9 u10 u11 u12;refine HG.out.mono ?_;rintro e v9 ⟨rfl,rfl⟩;obtain⟨y0,y1,y2,y3,y4,y5,y6,y7,y8,y9,y10,y11,y12⟩:=ai HQ.out;by_cases q0:dn=0
 case neg=>
  have t0:(dn==0)=false:=by simpa using q0
  have s0:(dn !=0)=true:=by simpa using q0
  have HNO:=hd_ (show cOK b=false by rw[HDOK.out,t0];rfl);clear q0;obtain⟨x0,x1,x2,x3,x4,x5,x6,x7,x8,x9,x10,x11,x12⟩:=ai HR.out;obtain⟨u0,u1,u2,u3,u4,u5,u6,u7,u8,u9,u10,u11,u12⟩:=aS HR.out;obtain⟨r0,r1,r2,r3,r4,r5,r6,r7,r8,r9,r10,r11,r12,_,hcs⟩:=bx HR.out 0 0 0 0 0 0 0 0 0 0 0 0 none 0 0;have HF:=hd_ (ab HC.out hcs (zG _));have RR:=cr r0 r1 r2 r3 r4 r5 r6 r7 r8 r9 r10 r11 r12;clear r0 r1 r2 r3 r4 r5 r6 r7 r8 r9 r10 r11 r12 hcs;go_wp2_with fail;exact AW (v:=.tuple #[cN,U Z 2]) (by simp[results,Tryz.results129,go_sem,cN,msC,RR.out]) rfl (en HNO.out ⟨rfl,HF.out⟩)
 subst q0;have hrt:=fun W=>df 1 (rv (cS1 b) 0) (rv (cS1 b) 1) (rv (cS1 b) 2-1) (rv (cS1 b) 3-1) (rv (cS1 b) 4-1) (rv (cS1 b) 6) (rv (cS1 b) 5) (rv (cS1 b) 7) (rv (cS1 b) 8) 0 0 none 0 0 ([]) (fun _=>True) W (RcR.nil _ _ _) (by decide);have HD2:=hd_ (show cOK b=msR 1 (rv (cS1 b) 0) (rv (cS1 b) 1) (rv (cS1 b) 2-1) (rv (cS1 b) 3-1) (rv (cS1 b) 4-1) (rv (cS1 b) 6) (rv (cS1 b) 5) (rv (cS1 b) 7) (rv (cS1 b) 8) 0 0 ([]) by rw[HDOK.out];rfl);generalize msR 1 (rv (cS1 b) 0) (rv (cS1 b) 1) (rv (cS1 b) 2-1) (rv (cS1 b) 3-1) (rv (cS1 b) 4-1) (rv (cS1 b) 6) (rv (cS1 b) 5) (rv (cS1 b) 7) (rv (cS1 b) 8) 0 0 ([])=r at*;unfold msC at hrt;have HRT:=hd_ hrt;clear hrt
 cases r with
 |false=>
  go_wp2_with fail;refine(HRT.out _).mono ?_;rintro e v10 ⟨rfl,hc'⟩;replace HR:=hd_ (HR.out.chg hc' id);replace HC:=hd_ (HC.out.tr hc');clear hc' HRT y0 y1 y2 y3 y4 y5 y6 y7 y8 y9 y10 y11 y12;obtain⟨x0,x1,x2,x3,x4,x5,x6,x7,x8,x9,x10,x11,x12⟩:=ai HR.out;obtain⟨u0,u1,u2,u3,u4,u5,u6,u7,u8,u9,u10,u11,u12⟩:=aS HR.out;obtain⟨r0,r1,r2,r3,r4,r5,r6,r7,r8,r9,r10,r11,r12,_,hcs⟩:=bx HR.out 0 0 0 0 0 0 0 0 0 0 0 0 none 0 0;have HF:=hd_ (ab HC.out hcs (zG _));have RR:=cr r0 r1 r2 r3 r4 r5 r6 r7 r8 r9 r10 r11 r12;clear r0 r1 r2 r3 r4 r5 r6 r7 r8 r9 r10 r11 r12 hcs;go_wp2_with fail;exact AW (v:=.tuple #[cN,U Z 2]) (by simp[results,Tryz.results129,go_sem,cN,msC,RR.out]) rfl (en HD2.out ⟨rfl,HF.out⟩)
 |true=>
  go_wp2_with fail;refine(HRT.out _).mono ?_;rintro e v10 ⟨rfl,hc'⟩;replace HR:=hd_ (HR.out.chg hc' id);replace HQ:=hd_ (HQ.out.chg hc' id);replace HC:=hd_ (HC.out.tr hc');clear hc' HRT y0 y1 y2 y3 y4 y5 y6 y7 y8 y9 y10 y11 y12;obtain⟨y0,y1,y2,y3,y4,y5,y6,y7,y8,y9,y10,y11,y12⟩:=ai HQ.out;obtain⟨x0,x1,x2,x3,x4,x5,x6,x7,x8,x9,x10,x11,x12⟩:=ai HR.out;obtain⟨u0,u1,u2,u3,u4,u5,u6,u7,u8,u9,u10,u11,u12⟩:=aS HR.out;obtain⟨r0,r1,r2,r3,r4,r5,r6,r7,r8,r9,r10,r11,r12,_,hcs⟩:=bx HR.out 1 (rv (cS1 b) 0) (rv (cS1 b) 1) (rv (cS1 b) 2-1) (rv (cS1 b) 3-1) (rv (cS1 b) 4-1) (rv (cS1 b) 6) (rv (cS1 b) 5) (rv (cS1 b) 7) (rv (cS1 b) 8) 0 0 none 0 0;have HF:=hd_ (ab HC.out hcs (zG _));have RR:=cr r0 r1 r2 r3 r4 r5 r6 r7 r8 r9 r10 r11 r12;clear r0 r1 r2 r3 r4 r5 r6 r7 r8 r9 r10 r11 r12 hcs;go_wp2_with fail;exact AW (v:=.tuple #[.agg (msC 1 (rv (cS1 b) 0) (rv (cS1 b) 1) (rv (cS1 b) 2-1) (rv (cS1 b) 3-1) (rv (cS1 b) 4-1) (rv (cS1 b) 6) (rv (cS1 b) 5) (rv (cS1 b) 7) (rv (cS1 b) 8) 0 0 none 0 0),U Z 0]) (by simp[results,Tryz.results129,go_sem,msC,RR.out]) rfl (ly HD2.out HV.out ⟨none,0,rfl,RcR.nil _ _ _,HF.out⟩)
theorem xU(A:Option Addr)(n c:Nat)(b:List UInt8)(S:Nat→Prop)(w:World)(hn:n=b.length)(h:Rds w S A n (bcs b))(hz:A=none→c=0)(h15:n≤313)(hk:cK b=2):
  Calls Tryz.prog 129 #[.slice A n c] w (fA b w):=by
 have HDOK:=hd_ (qd hk);have HV:=hd_ (uE hk);have HK:=hd_ hk;clear hk;have HR:Hid (Blk (w.alloc (.cells #[U Z 0,U Z 0,U .u64 0,U Z 0,U Z 0,U Z 0,U Z 0,U Z 0,U Z 0,U Z 0,U Z 0,U Z 0,.slice none 0 0] 74)) w.heap.size 74 (msC 0 0 0 0 0 0 0 0 0 0 0 0 none 0 0)):=hd_ (af rfl);have HC:=hd_ ((Chg.refl (fun _=>False) w).alloc (.cells #[U Z 0,U Z 0,U .u64 0,U Z 0,U Z 0,U Z 0,U Z 0,U Z 0,U Z 0,U Z 0,U Z 0,U Z 0,.slice none 0 0] 74));have HZ:=hd_ (show (w.alloc (.cells #[U Z 0,U Z 0,U .u64 0,U Z 0,U Z 0,U Z 0,U Z 0,U Z 0,U Z 0,U Z 0,U Z 0,U Z 0,.slice none 0 0] 74)).heap.size=w.heap.size+1 by simp);have HRDD:=hd_ (eG A n c b _ _ hn (h.alloc (.cells #[U Z 0,U Z 0,U .u64 0,U Z 0,U Z 0,U Z 0,U Z 0,U Z 0,U Z 0,U Z 0,U Z 0,U Z 0,.slice none 0 0] 74)) hz (by omega));clear h hn hz;go_in;go_wp2_with fail;refine HRDD.out.mono ?_;rintro e w0 ⟨p,rfl,hp,hrd,hc1⟩;have hz:=HZ.out
 have hrp:w.heap.size<p:=by omega
 have HRD:=hd_ (hrd.mono (S':=fun k=>w.heap.size<k∧k<p) (fun k hk=>by omega) (by omega));replace HR:=hd_ (HR.out.chg hc1 id);replace HC:=hd_ (HC.out.tr hc1);clear HRDD HZ hz hp hrd hc1
 have HG:Hid (Calls Tryz.prog 119 #[.pointer (some ⟨p,0,none⟩),U Z 1] w0 fun e w'=>e=.returned (U Z 2)∧Rd 259 true w' p (fun k=>w.heap.size<k∧k<p) (cS1 b)∧Chg (fun k=>k=p) w0 w'):=hd_ (by
  have hg:=cL p 1 _ (some b) w0 HRD.out;rw[show gv 1 (some b)=2 from HK.out]at hg
  exact hg)
 go_wp2_with fail;refine HG.out.mono ?_;rintro e w1 ⟨rfl,hrd,hc'⟩;replace HC:=hd_ (ab HC.out hc' (by omega));replace HR:=hd_ (HR.out.chg hc' (by omega));have hpq:=hrd.lt;have HQ:Hid (Blk (w1.alloc (.cells #[U Z 2,U Z 0,U .u64 0,U Z 0,U Z 0,U Z 0,U Z 0,U Z 0,U Z 0,U Z 0,U Z 0,U Z 0,.slice none 0 0] 74)) w1.heap.size 74 (msC 2 0 0 0 0 0 0 0 0 0 0 0 none 0 0)):=hd_ (af rfl);have hca:=(Chg.refl (fun _=>False) w1).alloc (.cells #[U Z 2,U Z 0,U .u64 0,U Z 0,U Z 0,U Z 0,U Z 0,U Z 0,U Z 0,U Z 0,U Z 0,U Z 0,.slice none 0 0] 74);replace HRD:=hd_ (hrd.chg hca id (fun _ _=>id));replace HC:=hd_ (HC.out.tr hca);replace HR:=hd_ (HR.out.chg hca id);clear HG hrd hc' hca;have HG:=hd_ (show Calls _ _ _ _ (fun e w'=>e=.returned (U Z (cPt b))∧Rd 259 true w' p _ (cS2 b)∧Chg (fun k=>k=p) _ w')from cL p 1 _ (cS1 b) _ HRD.out);go_wp2_with fail;refine HG.out.mono ?_;rintro e v1 ⟨rfl,hrd,hc'⟩;replace HC:=hd_ (ab HC.out hc' (by omega));replace HR:=hd_ (HR.out.chg hc' (by omega));replace HQ:=hd_ (HQ.out.chg hc' (by omega));replace HRD:=hd_ hrd;clear HG hrd hc';have HG:=hd_ (show Calls _ _ _ _ (fun e w'=>e=.returned (U Z (cVr b))∧Rd 259 true w' p _ (cS3 b)∧Chg (fun k=>k=p) _ w')from cL p 6 _ (cS2 b) _ HRD.out);go_wp2_with fail;refine HG.out.mono ?_;rintro e v2 ⟨rfl,hrd,hc'⟩;replace HC:=hd_ (ab HC.out hc' (by omega));replace HR:=hd_ (HR.out.chg hc' (by omega));replace HQ:=hd_ (HQ.out.chg hc' (by omega));replace HRD:=hd_ hrd;clear HG hrd hc';obtain⟨y0,y1,y2,y3,y4,y5,y6,y7,y8,y9,y10,y11,y12⟩:=ai HQ.out;obtain⟨u0,u1,u2,u3,u4,u5,u6,u7,u8,u9,u10,u11,u12⟩:=aS HQ.out;have hset:=((HQ.out).set 10 (U Z (cPt b))).set 11 (U Z (cVr b));simp only[msC,AQ,AR,AS]at hset;have hset:Blk _ _ 74 (msC 2 0 0 0 0 0 0 0 0 0 (cPt b) (cVr b) none 0 0):=hset;have hcs:Chg (fun k=>k=w1.heap.size) _ _:=((Chg.refl (fun k=>k=w1.heap.size) v2).put w1.heap.size 10 (fun _=>rfl) (U Z (cPt b))).put w1.heap.size 11 (fun _=>rfl) (U Z (cVr b));replace HC:=hd_ (ab HC.out hcs (by omega));replace HR:=hd_ (HR.out.chg hcs (by omega));replace HRD:=hd_ (HRD.out.chg hcs (by omega) (fun k hk=>by have:=hk.2;omega));replace HQ:=hd_ hset;clear hset hcs;have HG:=hd_ (dB p _ _ _ HRD.out);generalize hdn:bT (cS3 b)=dn at*;clear hdn;go_wp2_with fail;clear y0 y1 y2 y3 y4 y5 y6 y7 y8 y9 y10 y11 y12 u0 u1 u2 u3 u4 u5 u6 u7 u8 u9 u10 u11 u12;refine HG.out.mono ?_;rintro e v9 ⟨rfl,rfl⟩;obtain⟨y0,y1,y2,y3,y4,y5,y6,y7,y8,y9,y10,y11,y12⟩:=ai HQ.out;by_cases q0:dn=0
 case neg=>
  have t0:(dn==0)=false:=by simpa using q0
  have s0:(dn !=0)=true:=by simpa using q0
  have HNO:=hd_ (show cOK b=false by rw[HDOK.out,t0];rfl);clear q0;obtain⟨x0,x1,x2,x3,x4,x5,x6,x7,x8,x9,x10,x11,x12⟩:=ai HR.out;obtain⟨u0,u1,u2,u3,u4,u5,u6,u7,u8,u9,u10,u11,u12⟩:=aS HR.out;obtain⟨r0,r1,r2,r3,r4,r5,r6,r7,r8,r9,r10,r11,r12,_,hcs⟩:=bx HR.out 0 0 0 0 0 0 0 0 0 0 0 0 none 0 0;have HF:=hd_ (ab HC.out hcs (zG _));have RR:=cr r0 r1 r2 r3 r4 r5 r6 r7 r8 r9 r10 r11 r12;clear r0 r1 r2 r3 r4 r5 r6 r7 r8 r9 r10 r11 r12 hcs;go_wp2_with fail;exact AW (v:=.tuple #[cN,U Z 2]) (by simp[results,Tryz.results129,go_sem,cN,msC,RR.out]) rfl (en HNO.out ⟨rfl,HF.out⟩)
 subst q0;have hrt:=fun W=>df 2 0 0 0 0 0 0 0 0 0 (cPt b) (cVr b) none 0 0 ([]) (fun _=>True) W (RcR.nil _ _ _) (by decide);have HD2:=hd_ (show cOK b=msR 2 0 0 0 0 0 0 0 0 0 (cPt b) (cVr b) ([]) by rw[HDOK.out];rfl);generalize msR 2 0 0 0 0 0 0 0 0 0 (cPt b) (cVr b) ([])=r at*;unfold msC at hrt;have HRT:=hd_ hrt;clear hrt
 cases r with
 |false=>
  go_wp2_with fail;refine(HRT.out _).mono ?_;rintro e v10 ⟨rfl,hc'⟩;replace HR:=hd_ (HR.out.chg hc' id);replace HC:=hd_ (HC.out.tr hc');clear hc' HRT y0 y1 y2 y3 y4 y5 y6 y7 y8 y9 y10 y11 y12;obtain⟨x0,x1,x2,x3,x4,x5,x6,x7,x8,x9,x10,x11,x12⟩:=ai HR.out;obtain⟨u0,u1,u2,u3,u4,u5,u6,u7,u8,u9,u10,u11,u12⟩:=aS HR.out;obtain⟨r0,r1,r2,r3,r4,r5,r6,r7,r8,r9,r10,r11,r12,_,hcs⟩:=bx HR.out 0 0 0 0 0 0 0 0 0 0 0 0 none 0 0;have HF:=hd_ (ab HC.out hcs (zG _));have RR:=cr r0 r1 r2 r3 r4 r5 r6 r7 r8 r9 r10 r11 r12;clear r0 r1 r2 r3 r4 r5 r6 r7 r8 r9 r10 r11 r12 hcs;go_wp2_with fail;exact AW (v:=.tuple #[cN,U Z 2]) (by simp[results,Tryz.results129,go_sem,cN,msC,RR.out]) rfl (en HD2.out ⟨rfl,HF.out⟩)
 |true=>
  go_wp2_with fail;refine(HRT.out _).mono ?_;rintro e v10 ⟨rfl,hc'⟩;replace HR:=hd_ (HR.out.chg hc' id);replace HQ:=hd_ (HQ.out.chg hc' id);replace HC:=hd_ (HC.out.tr hc');clear hc' HRT y0 y1 y2 y3 y4 y5 y6 y7 y8 y9 y10 y11 y12;obtain⟨y0,y1,y2,y3,y4,y5,y6,y7,y8,y9,y10,y11,y12⟩:=ai HQ.out;obtain⟨x0,x1,x2,x3,x4,x5,x6,x7,x8,x9,x10,x11,x12⟩:=ai HR.out;obtain⟨u0,u1,u2,u3,u4,u5,u6,u7,u8,u9,u10,u11,u12⟩:=aS HR.out;obtain⟨r0,r1,r2,r3,r4,r5,r6,r7,r8,r9,r10,r11,r12,_,hcs⟩:=bx HR.out 2 0 0 0 0 0 0 0 0 0 (cPt b) (cVr b) none 0 0;have HF:=hd_ (ab HC.out hcs (zG _));have RR:=cr r0 r1 r2 r3 r4 r5 r6 r7 r8 r9 r10 r11 r12;clear r0 r1 r2 r3 r4 r5 r6 r7 r8 r9 r10 r11 r12 hcs;go_wp2_with fail;exact AW (v:=.tuple #[.agg (msC 2 0 0 0 0 0 0 0 0 0 (cPt b) (cVr b) none 0 0),U Z 0]) (by simp[results,Tryz.results129,go_sem,msC,RR.out]) rfl (ly HD2.out HV.out ⟨none,0,rfl,RcR.nil _ _ _,HF.out⟩)
theorem xV(A:Option Addr)(n c:Nat)(b:List UInt8)(S:Nat→Prop)(w:World)(hn:n=b.length)(h:Rds w S A n (bcs b))(hz:A=none→c=0)(h15:n≤313)(h1:cK b≠1)(h2:cK b≠2)(h3:cK b≠3):
  Calls Tryz.prog 129 #[.slice A n c] w (fA b w):=by
 have HNO:=hd_ (qf h1 h2 h3);obtain⟨K,hK⟩:∃K,K=cK b:=⟨_,rfl⟩;rw[←hK]at h1 h2 h3
 have t1:(K==1)=false:=by simpa using h1
 have t2:(K==2)=false:=by simpa using h2
 have t3:(K==3)=false:=by simpa using h3
 have HK:=hd_ hK.symm;have HRF:=hd_ (show∀l,msR K 0 0 0 0 0 0 0 0 0 0 0 l=false from fun l=>by unfold msR;rw[if_neg h1,if_neg h2,if_neg h3]);clear h1 h2 h3 hK;have HR:Hid (Blk (w.alloc (.cells #[U Z 0,U Z 0,U .u64 0,U Z 0,U Z 0,U Z 0,U Z 0,U Z 0,U Z 0,U Z 0,U Z 0,U Z 0,.slice none 0 0] 74)) w.heap.size 74 (msC 0 0 0 0 0 0 0 0 0 0 0 0 none 0 0)):=hd_ (af rfl);have HC:=hd_ ((Chg.refl (fun _=>False) w).alloc (.cells #[U Z 0,U Z 0,U .u64 0,U Z 0,U Z 0,U Z 0,U Z 0,U Z 0,U Z 0,U Z 0,U Z 0,U Z 0,.slice none 0 0] 74));have HZ:=hd_ (show (w.alloc (.cells #[U Z 0,U Z 0,U .u64 0,U Z 0,U Z 0,U Z 0,U Z 0,U Z 0,U Z 0,U Z 0,U Z 0,U Z 0,.slice none 0 0] 74)).heap.size=w.heap.size+1 by simp);have HRDD:=hd_ (eG A n c b _ _ hn (h.alloc (.cells #[U Z 0,U Z 0,U .u64 0,U Z 0,U Z 0,U Z 0,U Z 0,U Z 0,U Z 0,U Z 0,U Z 0,U Z 0,.slice none 0 0] 74)) hz (by omega));clear h hn hz;go_in;go_wp2_with fail;refine HRDD.out.mono ?_;rintro e w0 ⟨p,rfl,hp,hrd,hc1⟩;have hz:=HZ.out
 have hrp:w.heap.size<p:=by omega
 have HRD:=hd_ (hrd.mono (S':=fun k=>w.heap.size<k∧k<p) (fun k hk=>by omega) (by omega));replace HR:=hd_ (HR.out.chg hc1 id);replace HC:=hd_ (HC.out.tr hc1);clear HRDD HZ hz hp hrd hc1
 have HG:Hid (Calls Tryz.prog 119 #[.pointer (some ⟨p,0,none⟩),U Z 1] w0 fun e w'=>e=.returned (U Z K)∧Rd 259 true w' p (fun k=>w.heap.size<k∧k<p) (cS1 b)∧Chg (fun k=>k=p) w0 w'):=hd_ (by
  have hg:=cL p 1 _ (some b) w0 HRD.out;rw[show gv 1 (some b)=K from HK.out]at hg
  exact hg)
 go_wp2_with fail;refine HG.out.mono ?_;rintro e w1 ⟨rfl,hrd,hc'⟩;replace HC:=hd_ (ab HC.out hc' (by omega));replace HR:=hd_ (HR.out.chg hc' (by omega));have hpq:=hrd.lt;have HQ:Hid (Blk (w1.alloc (.cells #[U Z K,U Z 0,U .u64 0,U Z 0,U Z 0,U Z 0,U Z 0,U Z 0,U Z 0,U Z 0,U Z 0,U Z 0,.slice none 0 0] 74)) w1.heap.size 74 (msC K 0 0 0 0 0 0 0 0 0 0 0 none 0 0)):=hd_ (af rfl);have hca:=(Chg.refl (fun _=>False) w1).alloc (.cells #[U Z K,U Z 0,U .u64 0,U Z 0,U Z 0,U Z 0,U Z 0,U Z 0,U Z 0,U Z 0,U Z 0,U Z 0,.slice none 0 0] 74);replace HRD:=hd_ (hrd.chg hca id (fun _ _=>id));replace HC:=hd_ (HC.out.tr hca);replace HR:=hd_ (HR.out.chg hca id);clear HG hrd hc' hca;obtain⟨y0,y1,y2,y3,y4,y5,y6,y7,y8,y9,y10,y11,y12⟩:=ai HQ.out;have HG:=hd_ (dB p _ _ _ HRD.out);generalize hdn:bT (cS1 b)=dn at*;clear hdn;go_wp2_with fail;refine HG.out.mono ?_;rintro e v9 ⟨rfl,rfl⟩;by_cases q0:dn=0
 case neg=>
  have t0:(dn==0)=false:=by simpa using q0
  have s0:(dn !=0)=true:=by simpa using q0
  clear q0;obtain⟨x0,x1,x2,x3,x4,x5,x6,x7,x8,x9,x10,x11,x12⟩:=ai HR.out;obtain⟨u0,u1,u2,u3,u4,u5,u6,u7,u8,u9,u10,u11,u12⟩:=aS HR.out;obtain⟨r0,r1,r2,r3,r4,r5,r6,r7,r8,r9,r10,r11,r12,_,hcs⟩:=bx HR.out 0 0 0 0 0 0 0 0 0 0 0 0 none 0 0;have HF:=hd_ (ab HC.out hcs (zG _));have RR:=cr r0 r1 r2 r3 r4 r5 r6 r7 r8 r9 r10 r11 r12;clear r0 r1 r2 r3 r4 r5 r6 r7 r8 r9 r10 r11 r12 hcs;go_wp2_with fail;exact AW (v:=.tuple #[cN,U Z 2]) (by simp[results,Tryz.results129,go_sem,cN,msC,RR.out]) rfl (en HNO.out ⟨rfl,HF.out⟩)
 subst q0;have hrt:=fun W=>df K 0 0 0 0 0 0 0 0 0 0 0 none 0 0 [] (fun _=>True) W (RcR.nil _ _ _) (by decide);rw[HRF.out]at hrt;unfold msC at hrt;have HRT:=hd_ hrt;clear hrt;go_wp2_with fail;refine(HRT.out _).mono ?_;rintro e v10 ⟨rfl,hc'⟩;replace HR:=hd_ (HR.out.chg hc' id);replace HC:=hd_ (HC.out.tr hc');clear hc' HRT y0 y1 y2 y3 y4 y5 y6 y7 y8 y9 y10 y11 y12;obtain⟨x0,x1,x2,x3,x4,x5,x6,x7,x8,x9,x10,x11,x12⟩:=ai HR.out;obtain⟨u0,u1,u2,u3,u4,u5,u6,u7,u8,u9,u10,u11,u12⟩:=aS HR.out;obtain⟨r0,r1,r2,r3,r4,r5,r6,r7,r8,r9,r10,r11,r12,_,hcs⟩:=bx HR.out 0 0 0 0 0 0 0 0 0 0 0 0 none 0 0;have HF:=hd_ (ab HC.out hcs (zG _));have RR:=cr r0 r1 r2 r3 r4 r5 r6 r7 r8 r9 r10 r11 r12;clear r0 r1 r2 r3 r4 r5 r6 r7 r8 r9 r10 r11 r12 hcs;go_wp2_with fail;exact AW (v:=.tuple #[cN,U Z 2]) (by simp[results,Tryz.results129,go_sem,cN,msC,RR.out]) rfl (en HNO.out ⟨rfl,HF.out⟩)
theorem sA(b:List UInt8)(D:Option Addr)(m dc:Nat)(h:m=(cRl b).length){w w':World}(hl:RcR w' (fun k=>w.heap.size≤k) D m (cRl b))(hc:Chg (fun _=>False) w w'):Hd6 (cm3 b) 0 w (.returned (.tuple #[.agg (msC 3 0 0 0 0 0 0 0 0 0 (cPt b) (cVr b) D m dc),U Z 0])) w':=by
 subst h;exact⟨D,dc,rfl,hl,hc⟩
theorem xW(A:Option Addr)(n c:Nat)(b:List UInt8)(S:Nat→Prop)(w:World)(hn:n=b.length)(h:Rds w S A n (bcs b))(hz:A=none→c=0)(h15:n≤313)(hk:cK b=3):
  Calls Tryz.prog 129 #[.slice A n c] w (fA b w):=by
 have HDOK:=hd_ (qe hk);have HV:=hd_ (uF hk);have HK:=hd_ hk;clear hk;have HR:Hid (Blk (w.alloc (.cells #[U Z 0,U Z 0,U .u64 0,U Z 0,U Z 0,U Z 0,U Z 0,U Z 0,U Z 0,U Z 0,U Z 0,U Z 0,.slice none 0 0] 74)) w.heap.size 74 (msC 0 0 0 0 0 0 0 0 0 0 0 0 none 0 0)):=hd_ (af rfl);have HC:=hd_ ((Chg.refl (fun _=>False) w).alloc (.cells #[U Z 0,U Z 0,U .u64 0,U Z 0,U Z 0,U Z 0,U Z 0,U Z 0,U Z 0,U Z 0,U Z 0,U Z 0,.slice none 0 0] 74));have HZ:=hd_ (show (w.alloc (.cells #[U Z 0,U Z 0,U .u64 0,U Z 0,U Z 0,U Z 0,U Z 0,U Z 0,U Z 0,U Z 0,U Z 0,U Z 0,.slice none 0 0] 74)).heap.size=w.heap.size+1 by simp);have HRDD:=hd_ (eG A n c b _ _ hn (h.alloc (.cells #[U Z 0,U Z 0,U .u64 0,U Z 0,U Z 0,U Z 0,U Z 0,U Z 0,U Z 0,U Z 0,U Z 0,U Z 0,.slice none 0 0] 74)) hz (by omega));clear h hn hz;go_in;go_wp2_with fail;refine HRDD.out.mono ?_;rintro e w0 ⟨p,rfl,hp,hrd,hc1⟩;have hz:=HZ.out
 have hrp:w.heap.size<p:=by omega
 have HRD:=hd_ (hrd.mono (S':=fun k=>w.heap.size<k∧k<p) (fun k hk=>by omega) (by omega));replace HR:=hd_ (HR.out.chg hc1 id);replace HC:=hd_ (HC.out.tr hc1);clear HRDD HZ hz hp hrd hc1
 have HG:Hid (Calls Tryz.prog 119 #[.pointer (some ⟨p,0,none⟩),U Z 1] w0 fun e w'=>e=.returned (U Z 3)∧Rd 259 true w' p (fun k=>w.heap.size<k∧k<p) (cS1 b)∧Chg (fun k=>k=p) w0 w'):=hd_ (by
  have hg:=cL p 1 _ (some b) w0 HRD.out;rw[show gv 1 (some b)=3 from HK.out]at hg
  exact hg)
 go_wp2_with fail;refine HG.out.mono ?_;rintro e w1 ⟨rfl,hrd,hc'⟩;replace HC:=hd_ (ab HC.out hc' (by omega));replace HR:=hd_ (HR.out.chg hc' (by omega));have hpq:=hrd.lt;have HQ:Hid (Blk (w1.alloc (.cells #[U Z 3,U Z 0,U .u64 0,U Z 0,U Z 0,U Z 0,U Z 0,U Z 0,U Z 0,U Z 0,U Z 0,U Z 0,.slice none 0 0] 74)) w1.heap.size 74 (msC 3 0 0 0 0 0 0 0 0 0 0 0 none 0 0)):=hd_ (af rfl);have hca:=(Chg.refl (fun _=>False) w1).alloc (.cells #[U Z 3,U Z 0,U .u64 0,U Z 0,U Z 0,U Z 0,U Z 0,U Z 0,U Z 0,U Z 0,U Z 0,U Z 0,.slice none 0 0] 74);replace HRD:=hd_ (hrd.chg hca id (fun _ _=>id));replace HC:=hd_ (HC.out.tr hca);replace HR:=hd_ (HR.out.chg hca id);clear HG hrd hc' hca;have HG:=hd_ (show Calls _ _ _ _ (fun e w'=>e=.returned (U Z (cPt b))∧Rd 259 true w' p _ (cS2 b)∧Chg (fun k=>k=p) _ w')from cL p 1 _ (cS1 b) _ HRD.out);go_wp2_with fail;refine HG.out.mono ?_;rintro e v1 ⟨rfl,hrd,hc'⟩;replace HC:=hd_ (ab HC.out hc' (by omega));replace HR:=hd_ (HR.out.chg hc' (by omega));replace HQ:=hd_ (HQ.out.chg hc' (by omega));replace HRD:=hd_ hrd;clear HG hrd hc';have HG:=hd_ (show Calls _ _ _ _ (fun e w'=>e=.returned (U Z (cVr b))∧Rd 259 true w' p _ (cS3 b)∧Chg (fun k=>k=p) _ w')from cL p 6 _ (cS2 b) _ HRD.out);go_wp2_with fail;refine HG.out.mono ?_;rintro e v2 ⟨rfl,hrd,hc'⟩;replace HC:=hd_ (ab HC.out hc' (by omega));replace HR:=hd_ (HR.out.chg hc' (by omega));replace HQ:=hd_ (HQ.out.chg hc' (by omega));replace HRD:=hd_ hrd;clear HG hrd hc';have hqv:=HQ.out.lt;have HG:=hd_ (nO p _ (cS3 b) _ HRD.out (fun k hk=>hk.2));go_wp2_with fail;refine HG.out.mono ?_;rintro e v3 ⟨D,m,dc,rfl,hm,hrc,hrd,hc'⟩
 have hl16:m<256:=by have:=kK 1 (cS3 b) (by decide) (by decide);have:=dq 1 (cS3 b);omega
 have HLEN:Hid (m=(cRl b).length):=hd_ (by rw[hm];exact(gm _ _).symm);have HL:Hid (RcR v3 (fun k=>v2.heap.size≤k) D m (cRl b)):=hd_ (by rw[show cRl b=dV m (gn 1 (cS3 b))from by rw[hm];rfl];exact hrc);replace HRD:Hid (Rd 259 true v3 p (fun k=>w.heap.size<k∧k<p) (cS5 b)):=hd_ (by rw[show cS5 b=eU m (gn 1 (cS3 b))from by rw[hm];rfl];exact hrd);have hv2:=HC.out.size;replace HC:=hd_ (ab HC.out hc' (by omega));replace HR:=hd_ (HR.out.chg hc' (by omega));replace HQ:=hd_ (HQ.out.chg hc' (by omega));clear HG hrd hc' hrc hm;obtain⟨y0,y1,y2,y3,y4,y5,y6,y7,y8,y9,y10,y11,y12⟩:=ai HQ.out;obtain⟨u0,u1,u2,u3,u4,u5,u6,u7,u8,u9,u10,u11,u12⟩:=aS HQ.out;have hset:=(((HQ.out).set 10 (U Z (cPt b))).set 11 (U Z (cVr b))).set 12 (.slice D m dc);simp only[msC,AQ,AR,AS]at hset;have hset:Blk _ _ 74 (msC 3 0 0 0 0 0 0 0 0 0 (cPt b) (cVr b) D m dc):=hset;have hcs:Chg (fun k=>k=w1.heap.size) _ _:=(((Chg.refl (fun k=>k=w1.heap.size) v3).put w1.heap.size 10 (fun _=>rfl) (U Z (cPt b))).put w1.heap.size 11 (fun _=>rfl) (U Z (cVr b))).put w1.heap.size 12 (fun _=>rfl) (.slice D m dc);replace HC:=hd_ (ab HC.out hcs (by omega));replace HR:=hd_ (HR.out.chg hcs (by omega));replace HRD:=hd_ (HRD.out.chg hcs (by omega) (fun k hk=>by have:=hk.2;omega));replace HQ:=hd_ hset;replace HL:=hd_ ((HL.out.mono (S':=fun k=>w.heap.size<k∧k≠w1.heap.size) (fun k hk=>by omega)).chg hcs (fun k hk=>hk.2));clear hset hcs;have HG:=hd_ (dB p _ _ _ HRD.out);generalize hdn:bT (cS5 b)=dn at*;clear hdn;go_wp2_with fail;clear y0 y1 y2 y3 y4 y5 y6 y7 y8 y9 y10 y11 y12 u0 u1 u2 u3 u4 u5 u6 u7 u8 u9 u10 u11 u12;refine HG.out.mono ?_;rintro e v9 ⟨rfl,rfl⟩;obtain⟨y0,y1,y2,y3,y4,y5,y6,y7,y8,y9,y10,y11,y12⟩:=ai HQ.out;by_cases q0:dn=0
 case neg=>
  have t0:(dn==0)=false:=by simpa using q0
  have s0:(dn !=0)=true:=by simpa using q0
  have HNO:=hd_ (show cOK b=false by rw[HDOK.out,t0];rfl);clear q0;obtain⟨x0,x1,x2,x3,x4,x5,x6,x7,x8,x9,x10,x11,x12⟩:=ai HR.out;obtain⟨u0,u1,u2,u3,u4,u5,u6,u7,u8,u9,u10,u11,u12⟩:=aS HR.out;obtain⟨r0,r1,r2,r3,r4,r5,r6,r7,r8,r9,r10,r11,r12,_,hcs⟩:=bx HR.out 0 0 0 0 0 0 0 0 0 0 0 0 none 0 0;have HF:=hd_ (ab HC.out hcs (zG _));have RR:=cr r0 r1 r2 r3 r4 r5 r6 r7 r8 r9 r10 r11 r12;clear r0 r1 r2 r3 r4 r5 r6 r7 r8 r9 r10 r11 r12 hcs;go_wp2_with fail;exact AW (v:=.tuple #[cN,U Z 2]) (by simp[results,Tryz.results129,go_sem,cN,msC,RR.out]) rfl (en HNO.out ⟨rfl,HF.out⟩)
 subst q0;have hrt:=df 3 0 0 0 0 0 0 0 0 0 (cPt b) (cVr b) D m dc (cRl b) _ _ HL.out (by omega);have HD2:=hd_ (show cOK b=msR 3 0 0 0 0 0 0 0 0 0 (cPt b) (cVr b) (cRl b) by rw[HDOK.out];rfl);generalize msR 3 0 0 0 0 0 0 0 0 0 (cPt b) (cVr b) (cRl b)=r at*;unfold msC at hrt;have HRT:=hd_ hrt;clear hrt
 cases r with
 |false=>
  go_wp2_with fail;refine HRT.out.mono ?_;rintro e v10 ⟨rfl,hc'⟩;replace HR:=hd_ (HR.out.chg hc' id);replace HC:=hd_ (HC.out.tr hc');clear hc' HRT y0 y1 y2 y3 y4 y5 y6 y7 y8 y9 y10 y11 y12;obtain⟨x0,x1,x2,x3,x4,x5,x6,x7,x8,x9,x10,x11,x12⟩:=ai HR.out;obtain⟨u0,u1,u2,u3,u4,u5,u6,u7,u8,u9,u10,u11,u12⟩:=aS HR.out;obtain⟨r0,r1,r2,r3,r4,r5,r6,r7,r8,r9,r10,r11,r12,_,hcs⟩:=bx HR.out 0 0 0 0 0 0 0 0 0 0 0 0 none 0 0;have HF:=hd_ (ab HC.out hcs (zG _));have RR:=cr r0 r1 r2 r3 r4 r5 r6 r7 r8 r9 r10 r11 r12;clear r0 r1 r2 r3 r4 r5 r6 r7 r8 r9 r10 r11 r12 hcs;go_wp2_with fail;exact AW (v:=.tuple #[cN,U Z 2]) (by simp[results,Tryz.results129,go_sem,cN,msC,RR.out]) rfl (en HD2.out ⟨rfl,HF.out⟩)
 |true=>
  go_wp2_with fail;refine HRT.out.mono ?_;rintro e v10 ⟨rfl,hc'⟩;replace HR:=hd_ (HR.out.chg hc' id);replace HQ:=hd_ (HQ.out.chg hc' id);replace HL:=hd_ (HL.out.chg hc' (fun _ _=>id));replace HC:=hd_ (HC.out.tr hc');clear hc' HRT y0 y1 y2 y3 y4 y5 y6 y7 y8 y9 y10 y11 y12;obtain⟨y0,y1,y2,y3,y4,y5,y6,y7,y8,y9,y10,y11,y12⟩:=ai HQ.out;obtain⟨x0,x1,x2,x3,x4,x5,x6,x7,x8,x9,x10,x11,x12⟩:=ai HR.out;obtain⟨u0,u1,u2,u3,u4,u5,u6,u7,u8,u9,u10,u11,u12⟩:=aS HR.out;obtain⟨r0,r1,r2,r3,r4,r5,r6,r7,r8,r9,r10,r11,r12,_,hcs⟩:=bx HR.out 3 0 0 0 0 0 0 0 0 0 (cPt b) (cVr b) D m dc;have HF:=hd_ (ab HC.out hcs (zG _));replace HL:=hd_ (HL.out.chg hcs (fun k hk e=>by omega));have RR:=cr r0 r1 r2 r3 r4 r5 r6 r7 r8 r9 r10 r11 r12;clear r0 r1 r2 r3 r4 r5 r6 r7 r8 r9 r10 r11 r12 hcs;go_wp2_with fail;exact AW (v:=.tuple #[.agg (msC 3 0 0 0 0 0 0 0 0 0 (cPt b) (cVr b) D m dc),U Z 0]) (by simp[results,Tryz.results129,go_sem,msC,RR.out]) rfl (ly HD2.out HV.out (sA b D m dc HLEN.out (HL.out.mono (fun k hk=>Nat.le_of_lt hk.1)) HF.out))
theorem m6(A:Option Addr)(n c:Nat)(b:List UInt8)(S:Nat→Prop)(w:World)(hn:n=b.length)(h:Rds w S A n (bcs b))(hz:A=none→c=0)(hn2:n≤9223372036854775807):
  Calls Tryz.prog 129 #[.slice A n c] w (fA b w):=by
 by_cases h15:n≤313
 ·by_cases h1:cK b=1
  ·exact xT A n c b S w hn h hz h15 h1
  by_cases h2:cK b=2
  ·exact xU A n c b S w hn h hz h15 h2
  by_cases h3:cK b=3
  ·exact xW A n c b S w hn h hz h15 h3
  exact xV A n c b S w hn h hz h15 h1 h2 h3
 ·exact sz A n c b w hn (by omega) hn2
end Go.Proofs.YtnojmbejedlilaaGreat
end
