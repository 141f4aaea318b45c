/-
  Walks: the document's time, chassis, may, spent, next, moved, New; what an act makes, by cases. Conditions: of next and moved, the row's version and generation are small numbers.
-/
import Derived.Test.YtnojmbejedlilaaGreatKQM7
set_option maxRecDepth 100000
set_option maxHeartbeats 40000000
set_option linter.unusedVariables false
set_option linter.unusedSimpArgs false
section
namespace Go.Proofs.YtnojmbejedlilaaGreat
open Go renaming bodyPost_ret→AW
open Go.Value renaming int→U
open Go.IntKind renaming i64→Z
open Go.RowKit
theorem xl{x:RV}{now:Int}{may:Bool}{a:RV×Int}(h:(x.ok&&tm9 now)=false):ap x now may a=(z9,1):=by
 unfold ap;refine if_neg (fun hh=>?_);rw[hh.2.1,hh.2.2]at h;cases h
theorem tX(po ma ow ta ol ge ph ve si now:Int)(w:World):Calls Tryz.prog 210 #[.agg #[U Z po,U .u64 ma,U Z ow,U Z ta,U Z ol,U Z ge,U Z ph,U Z ve,U Z si],U Z now] w (HR (en9 ⟨po,ma,ow,ta,ol,ge,ph,ve,si⟩ now) w):=by
 by_cases h2:ph=2
 case pos=>
  subst h2;rw[show en9 ⟨po,ma,ow,ta,ol,ge,2,ve,si⟩ now=co9 ⟨po,ma,ow,ta,ol,ge,2,ve,si⟩ now from rfl];have hd:=fun W=>mJ po ma ow ta ol ge 2 ve si now W;obtain⟨z0,z1,z2,z3,z4,z5,z6,z7,z8,ze,hz⟩:=bE (r:=co9 ⟨po,ma,ow,ta,ol,ge,2,ve,si⟩ now);rw[hz]at hd⊢;have HD:Hid (∀W,Calls _ _ _ W (HR9 z0 z1 z2 z3 z4 z5 z6 z7 z8 ze W)):=hd_ hd;clear hd hz;obtain⟨w1,hw1,HQ0,HR0,HX0⟩:=aQ w po ma ow ta ol ge 2 ve si;go_in;go_upto_region 1 with fail;(try rw[hw1]);clear hw1;obtain⟨y0,y1,y2,y3,y4,y5,y6,y7,y8⟩:=aa HQ0.out;go_wp2_with fail;refine(HD.out _).mono ?_;rintro e w2 ⟨rfl,hc⟩;replace HX0:=hd_ (HX0.out.tr hc);replace HQ0:=hd_ (HQ0.out.chg hc id);replace HR0:=hd_ (HR0.out.chg hc id);clear hc;clear y0 y1 y2 y3 y4 y5 y6 y7 y8;obtain⟨x0,x1,x2,x3,x4,x5,x6,x7,x8⟩:=aa HR0.out;obtain⟨u0,u1,u2,u3,u4,u5,u6,u7,u8⟩:=ag HR0.out;obtain⟨RR,hcs⟩:=sp9 (aj HR0.out z0 z1 z2 z3 z4 z5 z6 z7 z8);have HF:=hd_ (ab HX0.out hcs (by omega));clear hcs HR0 HX0;go_wp2_with fail;exact AW (v:=.tuple #[.agg (rvC z0 z1 z2 z3 z4 z5 z6 z7 z8),U Z ze]) (by simp[results,Tryz.results210,go_sem,rvC,RR.out]) rfl ⟨rfl,HF.out⟩
 rw[show en9 ⟨po,ma,ow,ta,ol,ge,ph,ve,si⟩ now=ab9 ⟨po,ma,ow,ta,ol,ge,ph,ve,si⟩ now from if_neg h2];have hd:=fun W=>mK po ma ow ta ol ge ph ve si now W;obtain⟨z0,z1,z2,z3,z4,z5,z6,z7,z8,ze,hz⟩:=bE (r:=ab9 ⟨po,ma,ow,ta,ol,ge,ph,ve,si⟩ now);rw[hz]at hd⊢;have HD:Hid (∀W,Calls _ _ _ W (HR9 z0 z1 z2 z3 z4 z5 z6 z7 z8 ze W)):=hd_ hd;clear hd hz
 have t2:(ph==2)=false:=by rw[beq_eq_false_iff_ne];exact h2
 clear h2;obtain⟨w1,hw1,HQ0,HR0,HX0⟩:=aQ w po ma ow ta ol ge ph ve si;go_in;go_upto_region 1 with fail;(try rw[hw1]);clear hw1;obtain⟨y0,y1,y2,y3,y4,y5,y6,y7,y8⟩:=aa HQ0.out;go_wp2_with fail;refine(HD.out _).mono ?_;rintro e w2 ⟨rfl,hc⟩;replace HX0:=hd_ (HX0.out.tr hc);replace HQ0:=hd_ (HQ0.out.chg hc id);replace HR0:=hd_ (HR0.out.chg hc id);clear hc;clear y0 y1 y2 y3 y4 y5 y6 y7 y8;obtain⟨x0,x1,x2,x3,x4,x5,x6,x7,x8⟩:=aa HR0.out;obtain⟨u0,u1,u2,u3,u4,u5,u6,u7,u8⟩:=ag HR0.out;obtain⟨RR,hcs⟩:=sp9 (aj HR0.out z0 z1 z2 z3 z4 z5 z6 z7 z8);have HF:=hd_ (ab HX0.out hcs (by omega));clear hcs HR0 HX0;go_wp2_with fail;exact AW (v:=.tuple #[.agg (rvC z0 z1 z2 z3 z4 z5 z6 z7 z8),U Z ze]) (by simp[results,Tryz.results210,go_sem,rvC,RR.out]) rfl ⟨rfl,HF.out⟩
theorem mL{x:RV}{now:Int}{a:RV×Int}(h:(ap x now true a).2=0):x.ok=true∧tm9 now=true:=by
 cases hk:(x.ok&&tm9 now)with
 |false=>rw[xl hk]at h;exact absurd h (by decide)
 |true=>exact Bool.and_eq_true _ _▸hk
theorem yG{x:RV}{now:Int}(h:(en9 x now).2=0):x.ok=true∧tm9 now=true:=by
 unfold en9 at h
 split at h
 ·exact mL h
 ·exact mL h
theorem pC{x:RV}{now span:Int}(h:¬((en9 x now).2=0∧mx9 span≤now-x.si)):lt9 x now span=(x,false):=if_neg h
theorem rp{x z:RV}{now span:Int}(hz:en9 x now=(z,0))(h:mx9 span≤now-x.si):lt9 x now span=(z,true):=by
 unfold lt9;rw[hz];exact if_pos ⟨rfl,h⟩
theorem rq(po ma ow ta ol ge ph ve si now span:Int)(w:World)(hsp: -9223372036854775808≤span∧span≤9223372036854775807):Calls Tryz.prog 164 #[.agg #[U Z po,U .u64 ma,U Z ow,U Z ta,U Z ol,U Z ge,U Z ph,U Z ve,U Z si],U Z now,U Z span] w (HB (lt9 ⟨po,ma,ow,ta,ol,ge,ph,ve,si⟩ now span) w):=by
 have hd:=fun W=>tX po ma ow ta ol ge ph ve si now W;obtain⟨z0,z1,z2,z3,z4,z5,z6,z7,z8,ze,hz⟩:=bE (r:=en9 ⟨po,ma,ow,ta,ol,ge,ph,ve,si⟩ now);rw[hz]at hd;have HD:Hid (∀W,Calls _ _ _ W (HR9 z0 z1 z2 z3 z4 z5 z6 z7 z8 ze W)):=hd_ hd;clear hd;by_cases he:ze=0
 case neg=>
  rw[pC (x:=⟨po,ma,ow,ta,ol,ge,ph,ve,si⟩) (fun h=>he (by have:=h.1;rw[hz]at this;exact this))]
  have te:(ze !=0)=true:=by rw[bne_iff_ne];exact he
  clear he hz;obtain⟨w1,hw1,HQ0,HR0,HX0⟩:=aQ w po ma ow ta ol ge ph ve si;go_in;go_upto_region 1 with fail;(try rw[hw1]);clear hw1;obtain⟨y0,y1,y2,y3,y4,y5,y6,y7,y8⟩:=aa HQ0.out;go_wp2_with fail;refine(HD.out _).mono ?_;rintro e w2 ⟨rfl,hc⟩;replace HX0:=hd_ (HX0.out.tr hc);replace HQ0:=hd_ (HQ0.out.chg hc id);replace HR0:=hd_ (HR0.out.chg hc id);clear hc;clear y0 y1 y2 y3 y4 y5 y6 y7 y8;go_upto_region 2 with fail;have hN:=hd_ (Blk.new w2 60 #[U Z z0,U .u64 z1,U Z z2,U Z z3,U Z z4,U Z z5,U Z z6,U Z z7,U Z z8])
  have hg3:w.heap.size+2≤w2.heap.size:=by have:=(Blk.lt HR0.out);omega
  generalize hgn:w2.heap.size=g at*;replace HX0:=hd_ (HX0.out.alloc (.cells #[U Z z0,U .u64 z1,U Z z2,U Z z3,U Z z4,U Z z5,U Z z6,U Z z7,U Z z8] 60));replace HR0:=hd_ (HR0.out.alloc (.cells #[U Z z0,U .u64 z1,U Z z2,U Z z3,U Z z4,U Z z5,U Z z6,U Z z7,U Z z8] 60));replace HQ0:=hd_ (HQ0.out.alloc (.cells #[U Z z0,U .u64 z1,U Z z2,U Z z3,U Z z4,U Z z5,U Z z6,U Z z7,U Z z8] 60));replace hN:Hid (Blk _ g 60 (rvC z0 z1 z2 z3 z4 z5 z6 z7 z8)):=hN;clear hgn;generalize w2.alloc (.cells #[U Z z0,U .u64 z1,U Z z2,U Z z3,U Z z4,U Z z5,U Z z6,U Z z7,U Z z8] 60)=w3 at*;obtain⟨y0,y1,y2,y3,y4,y5,y6,y7,y8⟩:=aa HQ0.out;obtain⟨x0,x1,x2,x3,x4,x5,x6,x7,x8⟩:=aa HR0.out;obtain⟨u0,u1,u2,u3,u4,u5,u6,u7,u8⟩:=ag HR0.out;obtain⟨RR,hcs⟩:=sp9 (aj HR0.out po ma ow ta ol ge ph ve si);have HF:=hd_ (ab HX0.out hcs (by omega));clear hcs HR0 HX0;go_wp2_with fail
  all_goals first
   |(exfalso;omega)
   |(obtain⟨r0,r1,r2,r3,r4,r5,r6,r7,r8⟩:=RR.out;exact AW (v:=.tuple #[.agg (rvC po ma ow ta ol ge ph ve si),.bool false]) (by simp[results,Tryz.results164,go_sem,rvC,r0,r1,r2,r3,r4,r5,r6,r7,r8]) rfl ⟨rfl,HF.out⟩)
 subst he;have hok:=yG (x:=⟨po,ma,ow,ta,ol,ge,ph,ve,si⟩) (now:=now) (by rw[hz]);have hb:=(cf hok.1).2.2.2.2;have hbt:=dS hok.2;clear hok;by_cases hs:0≤span
 case pos=>
  by_cases hl:span≤now-si
  case pos=>
   rw[rp (x:=⟨po,ma,ow,ta,ol,ge,ph,ve,si⟩) hz (by unfold mx9;rw[if_pos hs];exact hl)];clear hz;obtain⟨w1,hw1,HQ0,HR0,HX0⟩:=aQ w po ma ow ta ol ge ph ve si;go_in;go_upto_region 1 with fail;(try rw[hw1]);clear hw1;obtain⟨y0,y1,y2,y3,y4,y5,y6,y7,y8⟩:=aa HQ0.out;go_wp2_with fail;refine(HD.out _).mono ?_;rintro e w2 ⟨rfl,hc⟩;replace HX0:=hd_ (HX0.out.tr hc);replace HQ0:=hd_ (HQ0.out.chg hc id);replace HR0:=hd_ (HR0.out.chg hc id);clear hc;clear y0 y1 y2 y3 y4 y5 y6 y7 y8;go_upto_region 2 with fail;have hN:=hd_ (Blk.new w2 60 #[U Z z0,U .u64 z1,U Z z2,U Z z3,U Z z4,U Z z5,U Z z6,U Z z7,U Z z8])
   have hg3:w.heap.size+2≤w2.heap.size:=by have:=(Blk.lt HR0.out);omega
   generalize hgn:w2.heap.size=g at*;replace HX0:=hd_ (HX0.out.alloc (.cells #[U Z z0,U .u64 z1,U Z z2,U Z z3,U Z z4,U Z z5,U Z z6,U Z z7,U Z z8] 60));replace HR0:=hd_ (HR0.out.alloc (.cells #[U Z z0,U .u64 z1,U Z z2,U Z z3,U Z z4,U Z z5,U Z z6,U Z z7,U Z z8] 60));replace HQ0:=hd_ (HQ0.out.alloc (.cells #[U Z z0,U .u64 z1,U Z z2,U Z z3,U Z z4,U Z z5,U Z z6,U Z z7,U Z z8] 60));replace hN:Hid (Blk _ g 60 (rvC z0 z1 z2 z3 z4 z5 z6 z7 z8)):=hN;clear hgn;generalize w2.alloc (.cells #[U Z z0,U .u64 z1,U Z z2,U Z z3,U Z z4,U Z z5,U Z z6,U Z z7,U Z z8] 60)=w3 at*;obtain⟨q0,q1,q2,q3,q4,q5,q6,q7,q8⟩:=aa HQ0.out;obtain⟨y0,y1,y2,y3,y4,y5,y6,y7,y8⟩:=aa hN.out;obtain⟨x0,x1,x2,x3,x4,x5,x6,x7,x8⟩:=aa HR0.out;obtain⟨u0,u1,u2,u3,u4,u5,u6,u7,u8⟩:=ag HR0.out;obtain⟨RR,hcs⟩:=sp9 (aj HR0.out z0 z1 z2 z3 z4 z5 z6 z7 z8);have HF:=hd_ (ab HX0.out hcs (by omega));clear hcs HR0 HX0;go_wp2_with fail
   all_goals first
    |(exfalso;omega)
    |(obtain⟨r0,r1,r2,r3,r4,r5,r6,r7,r8⟩:=RR.out;exact AW (v:=.tuple #[.agg (rvC z0 z1 z2 z3 z4 z5 z6 z7 z8),.bool true]) (by simp[results,Tryz.results164,go_sem,rvC,r0,r1,r2,r3,r4,r5,r6,r7,r8]) rfl ⟨rfl,HF.out⟩)
  case neg=>
   rw[pC (x:=⟨po,ma,ow,ta,ol,ge,ph,ve,si⟩) (fun h=>hl (by have:=h.2;unfold mx9 at this;rw[if_pos hs]at this;exact this))];clear hz;obtain⟨w1,hw1,HQ0,HR0,HX0⟩:=aQ w po ma ow ta ol ge ph ve si;go_in;go_upto_region 1 with fail;(try rw[hw1]);clear hw1;obtain⟨y0,y1,y2,y3,y4,y5,y6,y7,y8⟩:=aa HQ0.out;go_wp2_with fail;refine(HD.out _).mono ?_;rintro e w2 ⟨rfl,hc⟩;replace HX0:=hd_ (HX0.out.tr hc);replace HQ0:=hd_ (HQ0.out.chg hc id);replace HR0:=hd_ (HR0.out.chg hc id);clear hc;clear y0 y1 y2 y3 y4 y5 y6 y7 y8;go_upto_region 2 with fail;have hN:=hd_ (Blk.new w2 60 #[U Z z0,U .u64 z1,U Z z2,U Z z3,U Z z4,U Z z5,U Z z6,U Z z7,U Z z8])
   have hg3:w.heap.size+2≤w2.heap.size:=by have:=(Blk.lt HR0.out);omega
   generalize hgn:w2.heap.size=g at*;replace HX0:=hd_ (HX0.out.alloc (.cells #[U Z z0,U .u64 z1,U Z z2,U Z z3,U Z z4,U Z z5,U Z z6,U Z z7,U Z z8] 60));replace HR0:=hd_ (HR0.out.alloc (.cells #[U Z z0,U .u64 z1,U Z z2,U Z z3,U Z z4,U Z z5,U Z z6,U Z z7,U Z z8] 60));replace HQ0:=hd_ (HQ0.out.alloc (.cells #[U Z z0,U .u64 z1,U Z z2,U Z z3,U Z z4,U Z z5,U Z z6,U Z z7,U Z z8] 60));replace hN:Hid (Blk _ g 60 (rvC z0 z1 z2 z3 z4 z5 z6 z7 z8)):=hN;clear hgn;generalize w2.alloc (.cells #[U Z z0,U .u64 z1,U Z z2,U Z z3,U Z z4,U Z z5,U Z z6,U Z z7,U Z z8] 60)=w3 at*;obtain⟨y0,y1,y2,y3,y4,y5,y6,y7,y8⟩:=aa HQ0.out;obtain⟨x0,x1,x2,x3,x4,x5,x6,x7,x8⟩:=aa HR0.out;obtain⟨u0,u1,u2,u3,u4,u5,u6,u7,u8⟩:=ag HR0.out;obtain⟨RR,hcs⟩:=sp9 (aj HR0.out po ma ow ta ol ge ph ve si);have HF:=hd_ (ab HX0.out hcs (by omega));clear hcs HR0 HX0;go_wp2_with fail
   all_goals first
    |(exfalso;omega)
    |(obtain⟨r0,r1,r2,r3,r4,r5,r6,r7,r8⟩:=RR.out;exact AW (v:=.tuple #[.agg (rvC po ma ow ta ol ge ph ve si),.bool false]) (by simp[results,Tryz.results164,go_sem,rvC,r0,r1,r2,r3,r4,r5,r6,r7,r8]) rfl ⟨rfl,HF.out⟩)
 case neg=>
  by_cases hl:0≤now-si
  case pos=>
   rw[rp (x:=⟨po,ma,ow,ta,ol,ge,ph,ve,si⟩) hz (by unfold mx9;rw[if_neg hs];exact hl)];clear hz;obtain⟨w1,hw1,HQ0,HR0,HX0⟩:=aQ w po ma ow ta ol ge ph ve si;go_in;go_upto_region 1 with fail;(try rw[hw1]);clear hw1;obtain⟨y0,y1,y2,y3,y4,y5,y6,y7,y8⟩:=aa HQ0.out;go_wp2_with fail;refine(HD.out _).mono ?_;rintro e w2 ⟨rfl,hc⟩;replace HX0:=hd_ (HX0.out.tr hc);replace HQ0:=hd_ (HQ0.out.chg hc id);replace HR0:=hd_ (HR0.out.chg hc id);clear hc;clear y0 y1 y2 y3 y4 y5 y6 y7 y8;go_upto_region 2 with fail;have hN:=hd_ (Blk.new w2 60 #[U Z z0,U .u64 z1,U Z z2,U Z z3,U Z z4,U Z z5,U Z z6,U Z z7,U Z z8])
   have hg3:w.heap.size+2≤w2.heap.size:=by have:=(Blk.lt HR0.out);omega
   generalize hgn:w2.heap.size=g at*;replace HX0:=hd_ (HX0.out.alloc (.cells #[U Z z0,U .u64 z1,U Z z2,U Z z3,U Z z4,U Z z5,U Z z6,U Z z7,U Z z8] 60));replace HR0:=hd_ (HR0.out.alloc (.cells #[U Z z0,U .u64 z1,U Z z2,U Z z3,U Z z4,U Z z5,U Z z6,U Z z7,U Z z8] 60));replace HQ0:=hd_ (HQ0.out.alloc (.cells #[U Z z0,U .u64 z1,U Z z2,U Z z3,U Z z4,U Z z5,U Z z6,U Z z7,U Z z8] 60));replace hN:Hid (Blk _ g 60 (rvC z0 z1 z2 z3 z4 z5 z6 z7 z8)):=hN;clear hgn;generalize w2.alloc (.cells #[U Z z0,U .u64 z1,U Z z2,U Z z3,U Z z4,U Z z5,U Z z6,U Z z7,U Z z8] 60)=w3 at*;obtain⟨q0,q1,q2,q3,q4,q5,q6,q7,q8⟩:=aa HQ0.out;obtain⟨y0,y1,y2,y3,y4,y5,y6,y7,y8⟩:=aa hN.out;obtain⟨x0,x1,x2,x3,x4,x5,x6,x7,x8⟩:=aa HR0.out;obtain⟨u0,u1,u2,u3,u4,u5,u6,u7,u8⟩:=ag HR0.out;obtain⟨RR,hcs⟩:=sp9 (aj HR0.out z0 z1 z2 z3 z4 z5 z6 z7 z8);have HF:=hd_ (ab HX0.out hcs (by omega));clear hcs HR0 HX0;go_wp2_with fail
   all_goals first
    |(exfalso;omega)
    |(obtain⟨r0,r1,r2,r3,r4,r5,r6,r7,r8⟩:=RR.out;exact AW (v:=.tuple #[.agg (rvC z0 z1 z2 z3 z4 z5 z6 z7 z8),.bool true]) (by simp[results,Tryz.results164,go_sem,rvC,r0,r1,r2,r3,r4,r5,r6,r7,r8]) rfl ⟨rfl,HF.out⟩)
  case neg=>
   rw[pC (x:=⟨po,ma,ow,ta,ol,ge,ph,ve,si⟩) (fun h=>hl (by have:=h.2;unfold mx9 at this;rw[if_neg hs]at this;exact this))];clear hz;obtain⟨w1,hw1,HQ0,HR0,HX0⟩:=aQ w po ma ow ta ol ge ph ve si;go_in;go_upto_region 1 with fail;(try rw[hw1]);clear hw1;obtain⟨y0,y1,y2,y3,y4,y5,y6,y7,y8⟩:=aa HQ0.out;go_wp2_with fail;refine(HD.out _).mono ?_;rintro e w2 ⟨rfl,hc⟩;replace HX0:=hd_ (HX0.out.tr hc);replace HQ0:=hd_ (HQ0.out.chg hc id);replace HR0:=hd_ (HR0.out.chg hc id);clear hc;clear y0 y1 y2 y3 y4 y5 y6 y7 y8;go_upto_region 2 with fail;have hN:=hd_ (Blk.new w2 60 #[U Z z0,U .u64 z1,U Z z2,U Z z3,U Z z4,U Z z5,U Z z6,U Z z7,U Z z8])
   have hg3:w.heap.size+2≤w2.heap.size:=by have:=(Blk.lt HR0.out);omega
   generalize hgn:w2.heap.size=g at*;replace HX0:=hd_ (HX0.out.alloc (.cells #[U Z z0,U .u64 z1,U Z z2,U Z z3,U Z z4,U Z z5,U Z z6,U Z z7,U Z z8] 60));replace HR0:=hd_ (HR0.out.alloc (.cells #[U Z z0,U .u64 z1,U Z z2,U Z z3,U Z z4,U Z z5,U Z z6,U Z z7,U Z z8] 60));replace HQ0:=hd_ (HQ0.out.alloc (.cells #[U Z z0,U .u64 z1,U Z z2,U Z z3,U Z z4,U Z z5,U Z z6,U Z z7,U Z z8] 60));replace hN:Hid (Blk _ g 60 (rvC z0 z1 z2 z3 z4 z5 z6 z7 z8)):=hN;clear hgn;generalize w2.alloc (.cells #[U Z z0,U .u64 z1,U Z z2,U Z z3,U Z z4,U Z z5,U Z z6,U Z z7,U Z z8] 60)=w3 at*;obtain⟨y0,y1,y2,y3,y4,y5,y6,y7,y8⟩:=aa HQ0.out;obtain⟨x0,x1,x2,x3,x4,x5,x6,x7,x8⟩:=aa HR0.out;obtain⟨u0,u1,u2,u3,u4,u5,u6,u7,u8⟩:=ag HR0.out;obtain⟨RR,hcs⟩:=sp9 (aj HR0.out po ma ow ta ol ge ph ve si);have HF:=hd_ (ab HX0.out hcs (by omega));clear hcs HR0 HX0;go_wp2_with fail
   all_goals first
    |(exfalso;omega)
    |(obtain⟨r0,r1,r2,r3,r4,r5,r6,r7,r8⟩:=RR.out;exact AW (v:=.tuple #[.agg (rvC po ma ow ta ol ge ph ve si),.bool false]) (by simp[results,Tryz.results164,go_sem,rvC,r0,r1,r2,r3,r4,r5,r6,r7,r8]) rfl ⟨rfl,HF.out⟩)
end Go.Proofs.YtnojmbejedlilaaGreat
end
