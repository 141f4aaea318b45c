/-
  Walks: ctl.living, became, bind, move, asked. Conditions: the store lies in memory.
-/
import Derived.Test.YtnojmbejedlilaaGreatQCe
import Derived.Test.YtnojmbejedlilaaGreatQM7
import Derived.Test.YtnojmbejedlilaaGreatQM8
set_option maxRecDepth 100000
set_option maxHeartbeats 40000000
set_option linter.unusedVariables false
set_option linter.unusedSimpArgs false
namespace Go.Proofs.YtnojmbejedlilaaGreat
open Go.Value (int)
open Go.IntKind (i64)
open Go.RowKit
theorem cl_cells17 {w : World} {q : Nat} {T : TypeId} {op po ch ma : Int} (h : Blk w q T #[int i64 op,int i64 po,int i64 ch,int .u64 ma]) : w.cell? ⟨q,0,none⟩ = some (int i64 op) ∧ w.cell? ⟨q,1,none⟩ = some (int i64 po) ∧ w.cell? ⟨q,2,none⟩ = some (int i64 ch) ∧ w.cell? ⟨q,3,none⟩ = some (int .u64 ma):=⟨h.cell 0,h.cell 1,h.cell 2,h.cell 3⟩
def HRc17 (r : RcV17 × Int) (w : World) (e : Ending) (w' : World) : Prop:=e = .returned (.tuple #[.agg (rcC17 r.1),int i64 r.2]) ∧ Chg (fun _=>False) w w'
theorem living17_any {B : Nat} {w : World} {ps bc br : Nat} {C : Int → Bool} {R : Int → Option RV} (h : CS B w ps bc br C R) (po : Int) : Calls Tryz.prog 109 #[.pointer (some ⟨ps,0,none⟩),int i64 po] w (HR (livR17 R po,livE17 R po) w):=by
 have hc0:=(Chg.refl (fun _=>False) w).alloc (.cells #[int i64 0,int .u64 0,int i64 0,int i64 0,int i64 0,int i64 0,int i64 0,int i64 0,int i64 0] 60)
 have HS:=hd_ (h.keep hc0)
 have HZ : Hid (Blk (w.alloc (.cells #[int i64 0,int .u64 0,int i64 0,int i64 0,int i64 0,int i64 0,int i64 0,int i64 0,int i64 0] 60)) w.heap.size 60 (rvC 0 0 0 0 0 0 0 0 0)):=hd_ (blk_new rfl)
 have HX:=hd_ hc0
 clear h hc0
 go_in
 go_upto_region 1 with fail
 generalize w.alloc (.cells #[int i64 0,int .u64 0,int i64 0,int i64 0,int i64 0,int i64 0,int i64 0,int i64 0,int i64 0] 60) = w1 at *
 generalize hq0 : w.heap.size = Q0 at HZ ⊢
 have HQ : Hid (w.heap.size ≤ Q0):=hd_ (by omega)
 clear hq0
 have hr:=srow_any HS.out po
 cases hR : R po with
 | none =>
  rw [hR] at hr
  have hr : Calls _ _ _ _ (HB9 0 0 0 0 0 0 0 0 0 false w1):=hr
  have HRW:=hd_ hr
  clear hr
  have HV : Hid ((livR17 R po,livE17 R po) = (z9,4)):=hd_ (by unfold livR17 livE17; rw [hR]; first | done | rfl)
  clear hR
  go_wp2_with fail
  refine HRW.out.mono ?_
  rintro e w2 ⟨rfl,hc⟩
  replace HZ:=hd_ (HZ.out.chg hc id)
  replace HX:=hd_ (HX.out.tr hc)
  clear hc HRW
  go_upto_region 2 with fail
  have hc:=(Chg.refl (fun _=>False) w2).alloc (.cells #[int i64 0,int .u64 0,int i64 0,int i64 0,int i64 0,int i64 0,int i64 0,int i64 0,int i64 0] 60)
  have HN : Hid (Blk (w2.alloc (.cells #[int i64 0,int .u64 0,int i64 0,int i64 0,int i64 0,int i64 0,int i64 0,int i64 0,int i64 0] 60)) w2.heap.size 60 (rvC 0 0 0 0 0 0 0 0 0)):=hd_ (blk_new rfl)
  replace HZ:=hd_ (HZ.out.chg hc id)
  replace HX:=hd_ (HX.out.tr hc)
  clear hc
  generalize w2.alloc (.cells #[int i64 0,int .u64 0,int i64 0,int i64 0,int i64 0,int i64 0,int i64 0,int i64 0,int i64 0] 60) = w3 at *
  generalize w2.heap.size = QN at *
  obtain ⟨y0,y1,y2,y3,y4,y5,y6,y7,y8⟩:=rv_cells HN.out
  obtain ⟨x0,x1,x2,x3,x4,x5,x6,x7,x8⟩:=rv_cells HZ.out
  obtain ⟨u0,u1,u2,u3,u4,u5,u6,u7,u8⟩:=rv_free9 HZ.out
  obtain ⟨r0,r1,r2,r3,r4,r5,r6,r7,r8, -,hcs⟩:=rv_put9 HZ.out 0 0 0 0 0 0 0 0 0
  have RR:=cj9 r0 r1 r2 r3 r4 r5 r6 r7 r8
  have HF:=hd_ (fresh_set HX.out hcs HQ.out)
  clear r0 r1 r2 r3 r4 r5 r6 r7 r8 hcs
  go_wp2_with fail
  exact bodyPost_ret (v := .tuple #[.agg #[int i64 0,int .u64 0,int i64 0,int i64 0,int i64 0,int i64 0,int i64 0,int i64 0,int i64 0],int i64 4]) (by simp [results,Tryz.results109,go_sem,RR.out]) rfl ⟨by rw [HV.out]; first | done | rfl,HF.out⟩
 | some x =>
  obtain ⟨po2,ma2,ow,ta,ol,ge,ph,ve,si,rfl⟩:=rv_letters x
  rw [hR] at hr
  have hr : Calls _ _ _ _ (HB9 po2 ma2 ow ta ol ge ph ve si true w1):=hr
  have HRW:=hd_ hr
  clear hr
  by_cases h3 : ph = 3
  ·subst h3
   have HV : Hid ((livR17 R po,livE17 R po) = (z9,4)):=hd_ (by unfold livR17 livE17; rw [hR]; first | done | rfl)
   clear hR
   go_wp2_with fail
   refine HRW.out.mono ?_
   rintro e w2 ⟨rfl,hc⟩
   replace HZ:=hd_ (HZ.out.chg hc id)
   replace HX:=hd_ (HX.out.tr hc)
   clear hc HRW
   go_upto_region 2 with fail
   have hc:=(Chg.refl (fun _=>False) w2).alloc (.cells #[int i64 po2,int .u64 ma2,int i64 ow,int i64 ta,int i64 ol,int i64 ge,int i64 3,int i64 ve,int i64 si] 60)
   have HN : Hid (Blk (w2.alloc (.cells #[int i64 po2,int .u64 ma2,int i64 ow,int i64 ta,int i64 ol,int i64 ge,int i64 3,int i64 ve,int i64 si] 60)) w2.heap.size 60 (rvC po2 ma2 ow ta ol ge 3 ve si)):=hd_ (blk_new rfl)
   replace HZ:=hd_ (HZ.out.chg hc id)
   replace HX:=hd_ (HX.out.tr hc)
   clear hc
   generalize w2.alloc (.cells #[int i64 po2,int .u64 ma2,int i64 ow,int i64 ta,int i64 ol,int i64 ge,int i64 3,int i64 ve,int i64 si] 60) = w3 at *
   generalize w2.heap.size = QN at *
   obtain ⟨y0,y1,y2,y3,y4,y5,y6,y7,y8⟩:=rv_cells HN.out
   obtain ⟨x0,x1,x2,x3,x4,x5,x6,x7,x8⟩:=rv_cells HZ.out
   obtain ⟨u0,u1,u2,u3,u4,u5,u6,u7,u8⟩:=rv_free9 HZ.out
   obtain ⟨r0,r1,r2,r3,r4,r5,r6,r7,r8, -,hcs⟩:=rv_put9 HZ.out 0 0 0 0 0 0 0 0 0
   have RR:=cj9 r0 r1 r2 r3 r4 r5 r6 r7 r8
   have HF:=hd_ (fresh_set HX.out hcs HQ.out)
   clear r0 r1 r2 r3 r4 r5 r6 r7 r8 hcs
   go_wp2_with fail
   exact bodyPost_ret (v := .tuple #[.agg #[int i64 0,int .u64 0,int i64 0,int i64 0,int i64 0,int i64 0,int i64 0,int i64 0,int i64 0],int i64 4]) (by simp [results,Tryz.results109,go_sem,RR.out]) rfl ⟨by rw [HV.out]; first | done | rfl,HF.out⟩
  ·have t3 : (ph == 3) = false:=by simpa using h3
   have s3 : (ph != 3) = true:=by simpa using h3
   have HV : Hid ((livR17 R po,livE17 R po) = (⟨po2,ma2,ow,ta,ol,ge,ph,ve,si⟩,0)):=hd_ (by unfold livR17 livE17; rw [hR]; simp only [if_neg h3])
   clear hR h3
   go_wp2_with fail
   refine HRW.out.mono ?_
   rintro e w2 ⟨rfl,hc⟩
   replace HZ:=hd_ (HZ.out.chg hc id)
   replace HX:=hd_ (HX.out.tr hc)
   clear hc HRW
   go_upto_region 2 with fail
   have hc:=(Chg.refl (fun _=>False) w2).alloc (.cells #[int i64 po2,int .u64 ma2,int i64 ow,int i64 ta,int i64 ol,int i64 ge,int i64 ph,int i64 ve,int i64 si] 60)
   have HN : Hid (Blk (w2.alloc (.cells #[int i64 po2,int .u64 ma2,int i64 ow,int i64 ta,int i64 ol,int i64 ge,int i64 ph,int i64 ve,int i64 si] 60)) w2.heap.size 60 (rvC po2 ma2 ow ta ol ge ph ve si)):=hd_ (blk_new rfl)
   replace HZ:=hd_ (HZ.out.chg hc id)
   replace HX:=hd_ (HX.out.tr hc)
   clear hc
   generalize w2.alloc (.cells #[int i64 po2,int .u64 ma2,int i64 ow,int i64 ta,int i64 ol,int i64 ge,int i64 ph,int i64 ve,int i64 si] 60) = w3 at *
   generalize w2.heap.size = QN at *
   obtain ⟨y0,y1,y2,y3,y4,y5,y6,y7,y8⟩:=rv_cells HN.out
   obtain ⟨x0,x1,x2,x3,x4,x5,x6,x7,x8⟩:=rv_cells HZ.out
   obtain ⟨u0,u1,u2,u3,u4,u5,u6,u7,u8⟩:=rv_free9 HZ.out
   obtain ⟨r0,r1,r2,r3,r4,r5,r6,r7,r8, -,hcs⟩:=rv_put9 HZ.out po2 ma2 ow ta ol ge ph ve si
   have RR:=cj9 r0 r1 r2 r3 r4 r5 r6 r7 r8
   have HF:=hd_ (fresh_set HX.out hcs HQ.out)
   clear r0 r1 r2 r3 r4 r5 r6 r7 r8 hcs
   go_wp2_with fail
   exact bodyPost_ret (v := .tuple #[.agg #[int i64 po2,int .u64 ma2,int i64 ow,int i64 ta,int i64 ol,int i64 ge,int i64 ph,int i64 ve,int i64 si],int i64 0]) (by simp [results,Tryz.results109,go_sem,RR.out]) rfl ⟨by rw [HV.out]; first | done | rfl,HF.out⟩
theorem became17_any (po ma ow ta ol ge ph ve si er : Int) (w : World) : Calls Tryz.prog 110 #[.agg #[int i64 po,int .u64 ma,int i64 ow,int i64 ta,int i64 ol,int i64 ge,int i64 ph,int i64 ve,int i64 si],int i64 er] w (HRc17 (rowR17 ⟨po,ma,ow,ta,ol,ge,ph,ve,si⟩,er) w):=by
 have HB : Hid (Blk ((w.alloc (.cells #[int i64 po,int .u64 ma,int i64 ow,int i64 ta,int i64 ol,int i64 ge,int i64 ph,int i64 ve,int i64 si] 60)).alloc (.cells #[int i64 0,int i64 0,int .u64 0,int i64 0,int i64 0,int i64 0,int i64 0,int i64 0,int i64 0,int i64 0,int i64 0,int i64 0] 110)) w.heap.size 60 (rvC po ma ow ta ol ge ph ve si)):=hd_ ((blk_new rfl).alloc _)
 have HZ : Hid (Blk ((w.alloc (.cells #[int i64 po,int .u64 ma,int i64 ow,int i64 ta,int i64 ol,int i64 ge,int i64 ph,int i64 ve,int i64 si] 60)).alloc (.cells #[int i64 0,int i64 0,int .u64 0,int i64 0,int i64 0,int i64 0,int i64 0,int i64 0,int i64 0,int i64 0,int i64 0,int i64 0] 110)) (w.heap.size + 1) 110 #[int i64 0,int i64 0,int .u64 0,int i64 0,int i64 0,int i64 0,int i64 0,int i64 0,int i64 0,int i64 0,int i64 0,int i64 0]):=hd_ (blk_new (by simp))
 have HX:=hd_ (((Chg.refl (fun _=>False) w).alloc (.cells #[int i64 po,int .u64 ma,int i64 ow,int i64 ta,int i64 ol,int i64 ge,int i64 ph,int i64 ve,int i64 si] 60)).alloc (.cells #[int i64 0,int i64 0,int .u64 0,int i64 0,int i64 0,int i64 0,int i64 0,int i64 0,int i64 0,int i64 0,int i64 0,int i64 0] 110))
 go_in
 go_upto_region 1 with fail
 generalize (w.alloc (.cells #[int i64 po,int .u64 ma,int i64 ow,int i64 ta,int i64 ol,int i64 ge,int i64 ph,int i64 ve,int i64 si] 60)).alloc (.cells #[int i64 0,int i64 0,int .u64 0,int i64 0,int i64 0,int i64 0,int i64 0,int i64 0,int i64 0,int i64 0,int i64 0,int i64 0] 110) = w1 at *
 generalize hq1 : w.heap.size + 1 = Q1 at HZ ⊢
 have HQ : Hid (w.heap.size ≤ Q1):=hd_ (by omega)
 clear hq1
 generalize w.heap.size = Q0 at HB ⊢
 obtain ⟨y0,y1,y2,y3,y4,y5,y6,y7,y8⟩:=rv_cells HB.out
 obtain ⟨x0,x1,x2,x3,x4,x5,x6,x7,x8,x9,x10,x11⟩:=rc_cells17 HZ.out
 obtain ⟨u0,u1,u2,u3,u4,u5,u6,u7,u8,u9,u10,u11⟩:=rc_free17 HZ.out
 obtain ⟨r0,r1,r2,r3,r4,r5,r6,r7,r8,r9,r10,r11,hcs⟩:=rc_put17 HZ.out rfl 1 po ma ow ta ol ge ph ve si 0 0
 have RR:=cj12 r0 r1 r2 r3 r4 r5 r6 r7 r8 r9 r10 r11
 have HF:=hd_ (fresh_set HX.out hcs HQ.out)
 clear r0 r1 r2 r3 r4 r5 r6 r7 r8 r9 r10 r11 hcs
 go_wp2_with fail
 exact bodyPost_ret (v := .tuple #[.agg #[int i64 1,int i64 po,int .u64 ma,int i64 ow,int i64 ta,int i64 ol,int i64 ge,int i64 ph,int i64 ve,int i64 si,int i64 0,int i64 0],int i64 er]) (by simp [results,Tryz.results110,go_sem,RR.out]) rfl ⟨rfl,HF.out⟩
theorem bind17_any {B : Nat} {w : World} {ps bc br : Nat} {C : Int → Bool} {R : Int → Option RV} (h : CS B w ps bc br C R) (op po ch ma now : Int) : Calls Tryz.prog 111 #[.pointer (some ⟨ps,0,none⟩), .agg #[int i64 op,int i64 po,int i64 ch,int .u64 ma],int i64 now] w (HR (bind17 R po ch ma now) w):=by
 have hc0:=((Chg.refl (fun _=>False) w).alloc (.cells #[int i64 op,int i64 po,int i64 ch,int .u64 ma] 44)).alloc (.cells #[int i64 0,int .u64 0,int i64 0,int i64 0,int i64 0,int i64 0,int i64 0,int i64 0,int i64 0] 60)
 have HS:=hd_ (h.keep hc0)
 have HB : Hid (Blk ((w.alloc (.cells #[int i64 op,int i64 po,int i64 ch,int .u64 ma] 44)).alloc (.cells #[int i64 0,int .u64 0,int i64 0,int i64 0,int i64 0,int i64 0,int i64 0,int i64 0,int i64 0] 60)) w.heap.size 44 #[int i64 op,int i64 po,int i64 ch,int .u64 ma]):=hd_ ((blk_new rfl).alloc _)
 have HZ : Hid (Blk ((w.alloc (.cells #[int i64 op,int i64 po,int i64 ch,int .u64 ma] 44)).alloc (.cells #[int i64 0,int .u64 0,int i64 0,int i64 0,int i64 0,int i64 0,int i64 0,int i64 0,int i64 0] 60)) (w.heap.size + 1) 60 (rvC 0 0 0 0 0 0 0 0 0)):=hd_ (blk_new (by simp))
 have HX:=hd_ hc0
 clear h hc0
 go_in
 go_upto_region 1 with fail
 generalize (w.alloc (.cells #[int i64 op,int i64 po,int i64 ch,int .u64 ma] 44)).alloc (.cells #[int i64 0,int .u64 0,int i64 0,int i64 0,int i64 0,int i64 0,int i64 0,int i64 0,int i64 0] 60) = w1 at *
 generalize hq1 : w.heap.size + 1 = Q1 at HZ ⊢
 have HQ : Hid (w.heap.size ≤ Q1):=hd_ (by omega)
 clear hq1
 generalize w.heap.size = Q0 at HB ⊢
 obtain ⟨b0,b1,b2,b3⟩:=cl_cells17 HB.out
 have hr:=srow_any HS.out po
 cases hR : R po with
 | none =>
  rw [hR] at hr
  have hr : Calls _ _ _ _ (HB9 0 0 0 0 0 0 0 0 0 false w1):=hr
  have HRW:=hd_ hr
  clear hr
  have hve : bind17 R po ch ma now = new9 po ma ch now:=by unfold bind17; rw [hR]
  clear hR
  go_wp2_with fail
  refine HRW.out.mono ?_
  rintro e w2 ⟨rfl,hc⟩
  replace HZ:=hd_ (HZ.out.chg hc id)
  replace HB:=hd_ (HB.out.chg hc id)
  replace HS:=hd_ (HS.out.keep hc)
  replace HX:=hd_ (HX.out.tr hc)
  clear hc HRW b0 b1 b2 b3
  go_upto_region 2 with fail
  have hc:=(Chg.refl (fun _=>False) w2).alloc (.cells #[int i64 0,int .u64 0,int i64 0,int i64 0,int i64 0,int i64 0,int i64 0,int i64 0,int i64 0] 60)
  have HN : Hid (Blk (w2.alloc (.cells #[int i64 0,int .u64 0,int i64 0,int i64 0,int i64 0,int i64 0,int i64 0,int i64 0,int i64 0] 60)) w2.heap.size 60 (rvC 0 0 0 0 0 0 0 0 0)):=hd_ (blk_new rfl)
  replace HZ:=hd_ (HZ.out.chg hc id)
  replace HB:=hd_ (HB.out.chg hc id)
  replace HS:=hd_ (HS.out.keep hc)
  replace HX:=hd_ (HX.out.tr hc)
  clear hc
  generalize w2.alloc (.cells #[int i64 0,int .u64 0,int i64 0,int i64 0,int i64 0,int i64 0,int i64 0,int i64 0,int i64 0] 60) = w3 at *
  generalize w2.heap.size = QN at *
  obtain ⟨y0,y1,y2,y3,y4,y5,y6,y7,y8⟩:=rv_cells HN.out
  obtain ⟨b0,b1,b2,b3⟩:=cl_cells17 HB.out
  obtain ⟨a0,a1,a2,a3,a4,a5,a6,a7,a8,ae,hv⟩:=num9 (r:=new9 po ma ch now)
  have HV:=hd_ (hve.trans hv)
  have hcl:=pnew_any po ma ch now w3
  rw [hv] at hcl
  have hcl : Calls _ _ _ _ (HR9 a0 a1 a2 a3 a4 a5 a6 a7 a8 ae w3):=hcl
  have HCL:=hd_ hcl
  clear hcl hv hve
  go_wp2_with fail
  refine HCL.out.mono ?_
  rintro e w4 ⟨rfl,hc⟩
  replace HZ:=hd_ (HZ.out.chg hc id)
  replace HX:=hd_ (HX.out.tr hc)
  clear hc HCL
  obtain ⟨x0,x1,x2,x3,x4,x5,x6,x7,x8⟩:=rv_cells HZ.out
  obtain ⟨u0,u1,u2,u3,u4,u5,u6,u7,u8⟩:=rv_free9 HZ.out
  obtain ⟨r0,r1,r2,r3,r4,r5,r6,r7,r8, -,hcs⟩:=rv_put9 HZ.out a0 a1 a2 a3 a4 a5 a6 a7 a8
  have RR:=cj9 r0 r1 r2 r3 r4 r5 r6 r7 r8
  have HF:=hd_ (fresh_set HX.out hcs HQ.out)
  clear r0 r1 r2 r3 r4 r5 r6 r7 r8 hcs
  go_wp2_with fail
  exact bodyPost_ret (v := .tuple #[.agg #[int i64 a0,int .u64 a1,int i64 a2,int i64 a3,int i64 a4,int i64 a5,int i64 a6,int i64 a7,int i64 a8],int i64 ae]) (by simp [results,Tryz.results111,go_sem,RR.out]) rfl ⟨by rw [HV.out]; first | done | rfl,HF.out⟩
 | some x =>
  obtain ⟨po2,ma2,ow,ta,ol,ge,ph,ve,si,rfl⟩:=rv_letters x
  rw [hR] at hr
  have hr : Calls _ _ _ _ (HB9 po2 ma2 ow ta ol ge ph ve si true w1):=hr
  have HRW:=hd_ hr
  clear hr
  by_cases h3 : ph = 3
  ·subst h3
   have hve : bind17 R po ch ma now = ag9 ⟨po2,ma2,ow,ta,ol,ge,3,ve,si⟩ ma ch now:=by unfold bind17; rw [hR]; first | done | exact if_pos rfl
   clear hR
   go_wp2_with fail
   refine HRW.out.mono ?_
   rintro e w2 ⟨rfl,hc⟩
   replace HZ:=hd_ (HZ.out.chg hc id)
   replace HB:=hd_ (HB.out.chg hc id)
   replace HS:=hd_ (HS.out.keep hc)
   replace HX:=hd_ (HX.out.tr hc)
   clear hc HRW b0 b1 b2 b3
   go_upto_region 2 with fail
   have hc:=(Chg.refl (fun _=>False) w2).alloc (.cells #[int i64 po2,int .u64 ma2,int i64 ow,int i64 ta,int i64 ol,int i64 ge,int i64 3,int i64 ve,int i64 si] 60)
   have HN : Hid (Blk (w2.alloc (.cells #[int i64 po2,int .u64 ma2,int i64 ow,int i64 ta,int i64 ol,int i64 ge,int i64 3,int i64 ve,int i64 si] 60)) w2.heap.size 60 (rvC po2 ma2 ow ta ol ge 3 ve si)):=hd_ (blk_new rfl)
   replace HZ:=hd_ (HZ.out.chg hc id)
   replace HB:=hd_ (HB.out.chg hc id)
   replace HS:=hd_ (HS.out.keep hc)
   replace HX:=hd_ (HX.out.tr hc)
   clear hc
   generalize w2.alloc (.cells #[int i64 po2,int .u64 ma2,int i64 ow,int i64 ta,int i64 ol,int i64 ge,int i64 3,int i64 ve,int i64 si] 60) = w3 at *
   generalize w2.heap.size = QN at *
   obtain ⟨y0,y1,y2,y3,y4,y5,y6,y7,y8⟩:=rv_cells HN.out
   obtain ⟨b0,b1,b2,b3⟩:=cl_cells17 HB.out
   obtain ⟨a0,a1,a2,a3,a4,a5,a6,a7,a8,ae,hv⟩:=num9 (r:=ag9 ⟨po2,ma2,ow,ta,ol,ge,3,ve,si⟩ ma ch now)
   have HV:=hd_ (hve.trans hv)
   have hcl:=paga_any po2 ma2 ow ta ol ge 3 ve si ma ch now w3
   rw [hv] at hcl
   have hcl : Calls _ _ _ _ (HR9 a0 a1 a2 a3 a4 a5 a6 a7 a8 ae w3):=hcl
   have HCL:=hd_ hcl
   clear hcl hv hve
   go_wp2_with fail
   refine HCL.out.mono ?_
   rintro e w4 ⟨rfl,hc⟩
   replace HZ:=hd_ (HZ.out.chg hc id)
   replace HX:=hd_ (HX.out.tr hc)
   clear hc HCL
   obtain ⟨x0,x1,x2,x3,x4,x5,x6,x7,x8⟩:=rv_cells HZ.out
   obtain ⟨u0,u1,u2,u3,u4,u5,u6,u7,u8⟩:=rv_free9 HZ.out
   obtain ⟨r0,r1,r2,r3,r4,r5,r6,r7,r8, -,hcs⟩:=rv_put9 HZ.out a0 a1 a2 a3 a4 a5 a6 a7 a8
   have RR:=cj9 r0 r1 r2 r3 r4 r5 r6 r7 r8
   have HF:=hd_ (fresh_set HX.out hcs HQ.out)
   clear r0 r1 r2 r3 r4 r5 r6 r7 r8 hcs
   go_wp2_with fail
   exact bodyPost_ret (v := .tuple #[.agg #[int i64 a0,int .u64 a1,int i64 a2,int i64 a3,int i64 a4,int i64 a5,int i64 a6,int i64 a7,int i64 a8],int i64 ae]) (by simp [results,Tryz.results111,go_sem,RR.out]) rfl ⟨by rw [HV.out]; first | done | rfl,HF.out⟩
  ·have t3 : (ph == 3) = false:=by simpa using h3
   have s3 : (ph != 3) = true:=by simpa using h3
   have HV : Hid (bind17 R po ch ma now = (z9,5)):=hd_ (by unfold bind17; rw [hR]; first | done | exact if_neg h3)
   clear hR h3
   go_wp2_with fail
   refine HRW.out.mono ?_
   rintro e w2 ⟨rfl,hc⟩
   replace HZ:=hd_ (HZ.out.chg hc id)
   replace HB:=hd_ (HB.out.chg hc id)
   replace HS:=hd_ (HS.out.keep hc)
   replace HX:=hd_ (HX.out.tr hc)
   clear hc HRW b0 b1 b2 b3
   go_upto_region 2 with fail
   have hc:=(Chg.refl (fun _=>False) w2).alloc (.cells #[int i64 po2,int .u64 ma2,int i64 ow,int i64 ta,int i64 ol,int i64 ge,int i64 ph,int i64 ve,int i64 si] 60)
   have HN : Hid (Blk (w2.alloc (.cells #[int i64 po2,int .u64 ma2,int i64 ow,int i64 ta,int i64 ol,int i64 ge,int i64 ph,int i64 ve,int i64 si] 60)) w2.heap.size 60 (rvC po2 ma2 ow ta ol ge ph ve si)):=hd_ (blk_new rfl)
   replace HZ:=hd_ (HZ.out.chg hc id)
   replace HB:=hd_ (HB.out.chg hc id)
   replace HS:=hd_ (HS.out.keep hc)
   replace HX:=hd_ (HX.out.tr hc)
   clear hc
   generalize w2.alloc (.cells #[int i64 po2,int .u64 ma2,int i64 ow,int i64 ta,int i64 ol,int i64 ge,int i64 ph,int i64 ve,int i64 si] 60) = w3 at *
   generalize w2.heap.size = QN at *
   obtain ⟨y0,y1,y2,y3,y4,y5,y6,y7,y8⟩:=rv_cells HN.out
   obtain ⟨b0,b1,b2,b3⟩:=cl_cells17 HB.out
   obtain ⟨x0,x1,x2,x3,x4,x5,x6,x7,x8⟩:=rv_cells HZ.out
   obtain ⟨u0,u1,u2,u3,u4,u5,u6,u7,u8⟩:=rv_free9 HZ.out
   obtain ⟨r0,r1,r2,r3,r4,r5,r6,r7,r8, -,hcs⟩:=rv_put9 HZ.out 0 0 0 0 0 0 0 0 0
   have RR:=cj9 r0 r1 r2 r3 r4 r5 r6 r7 r8
   have HF:=hd_ (fresh_set HX.out hcs HQ.out)
   clear r0 r1 r2 r3 r4 r5 r6 r7 r8 hcs
   go_wp2_with fail
   exact bodyPost_ret (v := .tuple #[.agg #[int i64 0,int .u64 0,int i64 0,int i64 0,int i64 0,int i64 0,int i64 0,int i64 0,int i64 0],int i64 5]) (by simp [results,Tryz.results111,go_sem,RR.out]) rfl ⟨by rw [HV.out]; first | done | rfl,HF.out⟩
theorem move17_any {B : Nat} {w : World} {ps bc br : Nat} {C : Int → Bool} {R : Int → Option RV} (h : CS B w ps bc br C R) (op po ch ma now : Int) : Calls Tryz.prog 112 #[.pointer (some ⟨ps,0,none⟩), .agg #[int i64 op,int i64 po,int i64 ch,int .u64 ma],int i64 now] w (HR (move17 R op po ch now) w):=by
 have hc0:=((Chg.refl (fun _=>False) w).alloc (.cells #[int i64 op,int i64 po,int i64 ch,int .u64 ma] 44)).alloc (.cells #[int i64 0,int .u64 0,int i64 0,int i64 0,int i64 0,int i64 0,int i64 0,int i64 0,int i64 0] 60)
 have HS:=hd_ (h.keep hc0)
 have HB : Hid (Blk ((w.alloc (.cells #[int i64 op,int i64 po,int i64 ch,int .u64 ma] 44)).alloc (.cells #[int i64 0,int .u64 0,int i64 0,int i64 0,int i64 0,int i64 0,int i64 0,int i64 0,int i64 0] 60)) w.heap.size 44 #[int i64 op,int i64 po,int i64 ch,int .u64 ma]):=hd_ ((blk_new rfl).alloc _)
 have HZ : Hid (Blk ((w.alloc (.cells #[int i64 op,int i64 po,int i64 ch,int .u64 ma] 44)).alloc (.cells #[int i64 0,int .u64 0,int i64 0,int i64 0,int i64 0,int i64 0,int i64 0,int i64 0,int i64 0] 60)) (w.heap.size + 1) 60 (rvC 0 0 0 0 0 0 0 0 0)):=hd_ (blk_new (by simp))
 have HX:=hd_ hc0
 clear h hc0
 go_in
 go_upto_region 1 with fail
 generalize (w.alloc (.cells #[int i64 op,int i64 po,int i64 ch,int .u64 ma] 44)).alloc (.cells #[int i64 0,int .u64 0,int i64 0,int i64 0,int i64 0,int i64 0,int i64 0,int i64 0,int i64 0] 60) = w1 at *
 generalize hq1 : w.heap.size + 1 = Q1 at HZ ⊢
 have HQ : Hid (w.heap.size ≤ Q1):=hd_ (by omega)
 clear hq1
 generalize w.heap.size = Q0 at HB ⊢
 obtain ⟨b0,b1,b2,b3⟩:=cl_cells17 HB.out
 have hl:=living17_any HS.out po
 obtain ⟨c0,c1,c2,c3,c4,c5,c6,c7,c8,le,hv⟩:=num9 (r:=(livR17 R po,livE17 R po))
 rw [hv] at hl
 have hl : Calls _ _ _ _ (HR9 c0 c1 c2 c3 c4 c5 c6 c7 c8 le w1):=hl
 have HRW:=hd_ hl
 injection hv with hv1 hv2
 have HLR:=hd_ hv1
 have HLE:=hd_ hv2
 clear hl hv1 hv2
 go_wp2_with fail
 refine HRW.out.mono ?_
 rintro e w2 ⟨rfl,hc⟩
 replace HZ:=hd_ (HZ.out.chg hc id)
 replace HB:=hd_ (HB.out.chg hc id)
 replace HS:=hd_ (HS.out.keep hc)
 replace HX:=hd_ (HX.out.tr hc)
 clear hc HRW b0 b1 b2 b3
 go_upto_region 2 with fail
 have hc:=(Chg.refl (fun _=>False) w2).alloc (.cells #[int i64 c0,int .u64 c1,int i64 c2,int i64 c3,int i64 c4,int i64 c5,int i64 c6,int i64 c7,int i64 c8] 60)
 have HN : Hid (Blk (w2.alloc (.cells #[int i64 c0,int .u64 c1,int i64 c2,int i64 c3,int i64 c4,int i64 c5,int i64 c6,int i64 c7,int i64 c8] 60)) w2.heap.size 60 (rvC c0 c1 c2 c3 c4 c5 c6 c7 c8)):=hd_ (blk_new rfl)
 replace HZ:=hd_ (HZ.out.chg hc id)
 replace HB:=hd_ (HB.out.chg hc id)
 replace HS:=hd_ (HS.out.keep hc)
 replace HX:=hd_ (HX.out.tr hc)
 clear hc
 generalize w2.alloc (.cells #[int i64 c0,int .u64 c1,int i64 c2,int i64 c3,int i64 c4,int i64 c5,int i64 c6,int i64 c7,int i64 c8] 60) = w3 at *
 generalize w2.heap.size = QN at *
 obtain ⟨y0,y1,y2,y3,y4,y5,y6,y7,y8⟩:=rv_cells HN.out
 obtain ⟨b0,b1,b2,b3⟩:=cl_cells17 HB.out
 by_cases he : le = 0
 ·subst he
  by_cases o3 : op = 3
  ·subst o3
   have hve : move17 R 3 po ch now = dr9 ⟨c0,c1,c2,c3,c4,c5,c6,c7,c8⟩ now:=by unfold move17; rw [HLE.out,HLR.out]; simp 
   obtain ⟨a0,a1,a2,a3,a4,a5,a6,a7,a8,ae,hv⟩:=num9 (r:=dr9 ⟨c0,c1,c2,c3,c4,c5,c6,c7,c8⟩ now)
   have HV:=hd_ (hve.trans hv)
   have hcl:=pdro_any c0 c1 c2 c3 c4 c5 c6 c7 c8 now w3
   rw [hv] at hcl
   have hcl : Calls _ _ _ _ (HR9 a0 a1 a2 a3 a4 a5 a6 a7 a8 ae w3):=hcl
   have HCL:=hd_ hcl
   clear hcl hv hve
   go_wp2_with fail
   refine HCL.out.mono ?_
   rintro e w4 ⟨rfl,hc⟩
   replace HZ:=hd_ (HZ.out.chg hc id)
   replace HX:=hd_ (HX.out.tr hc)
   clear hc HCL
   obtain ⟨x0,x1,x2,x3,x4,x5,x6,x7,x8⟩:=rv_cells HZ.out
   obtain ⟨u0,u1,u2,u3,u4,u5,u6,u7,u8⟩:=rv_free9 HZ.out
   obtain ⟨r0,r1,r2,r3,r4,r5,r6,r7,r8, -,hcs⟩:=rv_put9 HZ.out a0 a1 a2 a3 a4 a5 a6 a7 a8
   have RR:=cj9 r0 r1 r2 r3 r4 r5 r6 r7 r8
   have HF:=hd_ (fresh_set HX.out hcs HQ.out)
   clear r0 r1 r2 r3 r4 r5 r6 r7 r8 hcs
   go_wp2_with fail
   exact bodyPost_ret (v := .tuple #[.agg #[int i64 a0,int .u64 a1,int i64 a2,int i64 a3,int i64 a4,int i64 a5,int i64 a6,int i64 a7,int i64 a8],int i64 ae]) (by simp [results,Tryz.results112,go_sem,RR.out]) rfl ⟨by rw [HV.out]; first | done | rfl,HF.out⟩
  ·have t3 : (op == 3) = false:=by simpa using o3
   by_cases o4 : op = 4
   ·subst o4
    have hve : move17 R 4 po ch now = st9 ⟨c0,c1,c2,c3,c4,c5,c6,c7,c8⟩ ch now:=by unfold move17; rw [HLE.out,HLR.out]; simp 
    obtain ⟨a0,a1,a2,a3,a4,a5,a6,a7,a8,ae,hv⟩:=num9 (r:=st9 ⟨c0,c1,c2,c3,c4,c5,c6,c7,c8⟩ ch now)
    have HV:=hd_ (hve.trans hv)
    have hcl:=psta_any c0 c1 c2 c3 c4 c5 c6 c7 c8 ch now w3
    rw [hv] at hcl
    have hcl : Calls _ _ _ _ (HR9 a0 a1 a2 a3 a4 a5 a6 a7 a8 ae w3):=hcl
    have HCL:=hd_ hcl
    clear hcl hv hve
    go_wp2_with fail
    refine HCL.out.mono ?_
    rintro e w4 ⟨rfl,hc⟩
    replace HZ:=hd_ (HZ.out.chg hc id)
    replace HX:=hd_ (HX.out.tr hc)
    clear hc HCL
    obtain ⟨x0,x1,x2,x3,x4,x5,x6,x7,x8⟩:=rv_cells HZ.out
    obtain ⟨u0,u1,u2,u3,u4,u5,u6,u7,u8⟩:=rv_free9 HZ.out
    obtain ⟨r0,r1,r2,r3,r4,r5,r6,r7,r8, -,hcs⟩:=rv_put9 HZ.out a0 a1 a2 a3 a4 a5 a6 a7 a8
    have RR:=cj9 r0 r1 r2 r3 r4 r5 r6 r7 r8
    have HF:=hd_ (fresh_set HX.out hcs HQ.out)
    clear r0 r1 r2 r3 r4 r5 r6 r7 r8 hcs
    go_wp2_with fail
    exact bodyPost_ret (v := .tuple #[.agg #[int i64 a0,int .u64 a1,int i64 a2,int i64 a3,int i64 a4,int i64 a5,int i64 a6,int i64 a7,int i64 a8],int i64 ae]) (by simp [results,Tryz.results112,go_sem,RR.out]) rfl ⟨by rw [HV.out]; first | done | rfl,HF.out⟩
   ·have t4 : (op == 4) = false:=by simpa using o4
    by_cases o5 : op = 5
    ·subst o5
     have hve : move17 R 5 po ch now = co9 ⟨c0,c1,c2,c3,c4,c5,c6,c7,c8⟩ now:=by unfold move17; rw [HLE.out,HLR.out]; simp 
     obtain ⟨a0,a1,a2,a3,a4,a5,a6,a7,a8,ae,hv⟩:=num9 (r:=co9 ⟨c0,c1,c2,c3,c4,c5,c6,c7,c8⟩ now)
     have HV:=hd_ (hve.trans hv)
     have hcl:=pcom_any c0 c1 c2 c3 c4 c5 c6 c7 c8 now w3
     rw [hv] at hcl
     have hcl : Calls _ _ _ _ (HR9 a0 a1 a2 a3 a4 a5 a6 a7 a8 ae w3):=hcl
     have HCL:=hd_ hcl
     clear hcl hv hve
     go_wp2_with fail
     refine HCL.out.mono ?_
     rintro e w4 ⟨rfl,hc⟩
     replace HZ:=hd_ (HZ.out.chg hc id)
     replace HX:=hd_ (HX.out.tr hc)
     clear hc HCL
     obtain ⟨x0,x1,x2,x3,x4,x5,x6,x7,x8⟩:=rv_cells HZ.out
     obtain ⟨u0,u1,u2,u3,u4,u5,u6,u7,u8⟩:=rv_free9 HZ.out
     obtain ⟨r0,r1,r2,r3,r4,r5,r6,r7,r8, -,hcs⟩:=rv_put9 HZ.out a0 a1 a2 a3 a4 a5 a6 a7 a8
     have RR:=cj9 r0 r1 r2 r3 r4 r5 r6 r7 r8
     have HF:=hd_ (fresh_set HX.out hcs HQ.out)
     clear r0 r1 r2 r3 r4 r5 r6 r7 r8 hcs
     go_wp2_with fail
     exact bodyPost_ret (v := .tuple #[.agg #[int i64 a0,int .u64 a1,int i64 a2,int i64 a3,int i64 a4,int i64 a5,int i64 a6,int i64 a7,int i64 a8],int i64 ae]) (by simp [results,Tryz.results112,go_sem,RR.out]) rfl ⟨by rw [HV.out]; first | done | rfl,HF.out⟩
    ·have t5 : (op == 5) = false:=by simpa using o5
     have hve : move17 R op po ch now = ab9 ⟨c0,c1,c2,c3,c4,c5,c6,c7,c8⟩ now:=by unfold move17; rw [HLE.out,HLR.out]; simp [o3,o4,o5]
     obtain ⟨a0,a1,a2,a3,a4,a5,a6,a7,a8,ae,hv⟩:=num9 (r:=ab9 ⟨c0,c1,c2,c3,c4,c5,c6,c7,c8⟩ now)
     have HV:=hd_ (hve.trans hv)
     have hcl:=pabo_any c0 c1 c2 c3 c4 c5 c6 c7 c8 now w3
     rw [hv] at hcl
     have hcl : Calls _ _ _ _ (HR9 a0 a1 a2 a3 a4 a5 a6 a7 a8 ae w3):=hcl
     have HCL:=hd_ hcl
     clear hcl hv hve o3 o4 o5
     go_wp2_with fail
     refine HCL.out.mono ?_
     rintro e w4 ⟨rfl,hc⟩
     replace HZ:=hd_ (HZ.out.chg hc id)
     replace HX:=hd_ (HX.out.tr hc)
     clear hc HCL
     obtain ⟨x0,x1,x2,x3,x4,x5,x6,x7,x8⟩:=rv_cells HZ.out
     obtain ⟨u0,u1,u2,u3,u4,u5,u6,u7,u8⟩:=rv_free9 HZ.out
     obtain ⟨r0,r1,r2,r3,r4,r5,r6,r7,r8, -,hcs⟩:=rv_put9 HZ.out a0 a1 a2 a3 a4 a5 a6 a7 a8
     have RR:=cj9 r0 r1 r2 r3 r4 r5 r6 r7 r8
     have HF:=hd_ (fresh_set HX.out hcs HQ.out)
     clear r0 r1 r2 r3 r4 r5 r6 r7 r8 hcs
     go_wp2_with fail
     exact bodyPost_ret (v := .tuple #[.agg #[int i64 a0,int .u64 a1,int i64 a2,int i64 a3,int i64 a4,int i64 a5,int i64 a6,int i64 a7,int i64 a8],int i64 ae]) (by simp [results,Tryz.results112,go_sem,RR.out]) rfl ⟨by rw [HV.out]; first | done | rfl,HF.out⟩
 ·have te : (le != 0) = true:=by simpa using he
  have HV : Hid (move17 R op po ch now = (z9,le)):=hd_ (by unfold move17; rw [HLE.out,if_neg he])
  clear he
  obtain ⟨x0,x1,x2,x3,x4,x5,x6,x7,x8⟩:=rv_cells HZ.out
  obtain ⟨u0,u1,u2,u3,u4,u5,u6,u7,u8⟩:=rv_free9 HZ.out
  obtain ⟨r0,r1,r2,r3,r4,r5,r6,r7,r8, -,hcs⟩:=rv_put9 HZ.out 0 0 0 0 0 0 0 0 0
  have RR:=cj9 r0 r1 r2 r3 r4 r5 r6 r7 r8
  have HF:=hd_ (fresh_set HX.out hcs HQ.out)
  clear r0 r1 r2 r3 r4 r5 r6 r7 r8 hcs
  go_wp2_with fail
  exact bodyPost_ret (v := .tuple #[.agg #[int i64 0,int .u64 0,int i64 0,int i64 0,int i64 0,int i64 0,int i64 0,int i64 0,int i64 0],int i64 le]) (by simp [results,Tryz.results112,go_sem,RR.out]) rfl ⟨by rw [HV.out]; first | done | rfl,HF.out⟩
theorem asked17_any {B : Nat} {w : World} {ps bc br : Nat} {C : Int → Bool} {R : Int → Option RV} (h : CS B w ps bc br C R) (op po ch ma now : Int) : Calls Tryz.prog 58 #[.pointer (some ⟨ps,0,none⟩), .agg #[int i64 op,int i64 po,int i64 ch,int .u64 ma],int i64 now] w (HRc17 (ask17 R op po ch ma now) w):=by
 have hc0:=((Chg.refl (fun _=>False) w).alloc (.cells #[int i64 op,int i64 po,int i64 ch,int .u64 ma] 44)).alloc (.cells #[int i64 0,int i64 0,int .u64 0,int i64 0,int i64 0,int i64 0,int i64 0,int i64 0,int i64 0,int i64 0,int i64 0,int i64 0] 110)
 have HS:=hd_ (h.keep hc0)
 have HB : Hid (Blk ((w.alloc (.cells #[int i64 op,int i64 po,int i64 ch,int .u64 ma] 44)).alloc (.cells #[int i64 0,int i64 0,int .u64 0,int i64 0,int i64 0,int i64 0,int i64 0,int i64 0,int i64 0,int i64 0,int i64 0,int i64 0] 110)) w.heap.size 44 #[int i64 op,int i64 po,int i64 ch,int .u64 ma]):=hd_ ((blk_new rfl).alloc _)
 have HZ : Hid (Blk ((w.alloc (.cells #[int i64 op,int i64 po,int i64 ch,int .u64 ma] 44)).alloc (.cells #[int i64 0,int i64 0,int .u64 0,int i64 0,int i64 0,int i64 0,int i64 0,int i64 0,int i64 0,int i64 0,int i64 0,int i64 0] 110)) (w.heap.size + 1) 110 #[int i64 0,int i64 0,int .u64 0,int i64 0,int i64 0,int i64 0,int i64 0,int i64 0,int i64 0,int i64 0,int i64 0,int i64 0]):=hd_ (blk_new (by simp))
 have HX:=hd_ hc0
 clear h hc0
 go_in
 go_upto_region 1 with fail
 generalize (w.alloc (.cells #[int i64 op,int i64 po,int i64 ch,int .u64 ma] 44)).alloc (.cells #[int i64 0,int i64 0,int .u64 0,int i64 0,int i64 0,int i64 0,int i64 0,int i64 0,int i64 0,int i64 0,int i64 0,int i64 0] 110) = w1 at *
 generalize hq1 : w.heap.size + 1 = Q1 at HZ ⊢
 have HQ : Hid (w.heap.size ≤ Q1):=hd_ (by omega)
 clear hq1
 generalize w.heap.size = Q0 at HB ⊢
 obtain ⟨b0,b1,b2,b3⟩:=cl_cells17 HB.out
 by_cases o0 : op = 0
 ·subst o0
  have HV : Hid (ask17 R 0 po ch ma now = (⟨4,z9,ch,0⟩,0)):=hd_ rfl
  obtain ⟨x0,x1,x2,x3,x4,x5,x6,x7,x8,x9,x10,x11⟩:=rc_cells17 HZ.out
  obtain ⟨u0,u1,u2,u3,u4,u5,u6,u7,u8,u9,u10,u11⟩:=rc_free17 HZ.out
  obtain ⟨r0,r1,r2,r3,r4,r5,r6,r7,r8,r9,r10,r11,hcs⟩:=rc_put17 HZ.out rfl 4 0 0 0 0 0 0 0 0 0 ch 0
  have RR:=cj12 r0 r1 r2 r3 r4 r5 r6 r7 r8 r9 r10 r11
  have HF:=hd_ (fresh_set HX.out hcs HQ.out)
  clear r0 r1 r2 r3 r4 r5 r6 r7 r8 r9 r10 r11 hcs
  go_wp2_with fail
  exact bodyPost_ret (v := .tuple #[.agg #[int i64 4,int i64 0,int .u64 0,int i64 0,int i64 0,int i64 0,int i64 0,int i64 0,int i64 0,int i64 0,int i64 ch,int i64 0],int i64 0]) (by simp [results,Tryz.results58,go_sem,RR.out]) rfl ⟨by rw [HV.out]; first | done | rfl,HF.out⟩
 ·have t0 : (op == 0) = false:=by simpa using o0
  by_cases o1 : op = 1
  ·subst o1
   have HV : Hid (ask17 R 1 po ch ma now = (⟨5,z9,ch,0⟩,0)):=hd_ rfl
   obtain ⟨x0,x1,x2,x3,x4,x5,x6,x7,x8,x9,x10,x11⟩:=rc_cells17 HZ.out
   obtain ⟨u0,u1,u2,u3,u4,u5,u6,u7,u8,u9,u10,u11⟩:=rc_free17 HZ.out
   obtain ⟨r0,r1,r2,r3,r4,r5,r6,r7,r8,r9,r10,r11,hcs⟩:=rc_put17 HZ.out rfl 5 0 0 0 0 0 0 0 0 0 ch 0
   have RR:=cj12 r0 r1 r2 r3 r4 r5 r6 r7 r8 r9 r10 r11
   have HF:=hd_ (fresh_set HX.out hcs HQ.out)
   clear r0 r1 r2 r3 r4 r5 r6 r7 r8 r9 r10 r11 hcs
   go_wp2_with fail
   exact bodyPost_ret (v := .tuple #[.agg #[int i64 5,int i64 0,int .u64 0,int i64 0,int i64 0,int i64 0,int i64 0,int i64 0,int i64 0,int i64 0,int i64 ch,int i64 0],int i64 0]) (by simp [results,Tryz.results58,go_sem,RR.out]) rfl ⟨by rw [HV.out]; first | done | rfl,HF.out⟩
  ·have t1 : (op == 1) = false:=by simpa using o1
   by_cases o7 : op = 7
   ·subst o7
    obtain ⟨a0,a1,a2,a3,a4,a5,a6,a7,a8,ae,hv⟩:=num9 (r:=(livR17 R po,livE17 R po))
    have hcl:=living17_any HS.out po
    rw [hv] at hcl
    have hcl : Calls _ _ _ _ (HR9 a0 a1 a2 a3 a4 a5 a6 a7 a8 ae w1):=hcl
    have HCL:=hd_ hcl
    injection hv with hv1 hv2
    have HV : Hid (ask17 R 7 po ch ma now = (⟨0,⟨a0,a1,a2,a3,a4,a5,a6,a7,a8⟩,0,0⟩,ae)):=hd_ (by unfold ask17; simp [hv1,hv2])
    clear hcl hv1 hv2 o0 o1
    go_wp2_with fail
    refine HCL.out.mono ?_
    rintro e w2 ⟨rfl,hc⟩
    replace HZ:=hd_ (HZ.out.chg hc id)
    replace HB:=hd_ (HB.out.chg hc id)
    replace HX:=hd_ (HX.out.tr hc)
    clear hc HCL b0 b1 b2 b3
    go_upto_region 8 with fail
    have hc:=(Chg.refl (fun _=>False) w2).alloc (.cells #[int i64 a0,int .u64 a1,int i64 a2,int i64 a3,int i64 a4,int i64 a5,int i64 a6,int i64 a7,int i64 a8] 60)
    have HN : Hid (Blk (w2.alloc (.cells #[int i64 a0,int .u64 a1,int i64 a2,int i64 a3,int i64 a4,int i64 a5,int i64 a6,int i64 a7,int i64 a8] 60)) w2.heap.size 60 (rvC a0 a1 a2 a3 a4 a5 a6 a7 a8)):=hd_ (blk_new rfl)
    replace HZ:=hd_ (HZ.out.chg hc id)
    replace HX:=hd_ (HX.out.tr hc)
    clear hc
    generalize w2.alloc (.cells #[int i64 a0,int .u64 a1,int i64 a2,int i64 a3,int i64 a4,int i64 a5,int i64 a6,int i64 a7,int i64 a8] 60) = w3 at *
    generalize w2.heap.size = QN at *
    obtain ⟨y0,y1,y2,y3,y4,y5,y6,y7,y8⟩:=rv_cells HN.out
    obtain ⟨x0,x1,x2,x3,x4,x5,x6,x7,x8,x9,x10,x11⟩:=rc_cells17 HZ.out
    obtain ⟨u0,u1,u2,u3,u4,u5,u6,u7,u8,u9,u10,u11⟩:=rc_free17 HZ.out
    obtain ⟨r0,r1,r2,r3,r4,r5,r6,r7,r8,r9,r10,r11,hcs⟩:=rc_put17 HZ.out rfl 0 a0 a1 a2 a3 a4 a5 a6 a7 a8 0 0
    have RR:=cj12 r0 r1 r2 r3 r4 r5 r6 r7 r8 r9 r10 r11
    have HF:=hd_ (fresh_set HX.out hcs HQ.out)
    clear r0 r1 r2 r3 r4 r5 r6 r7 r8 r9 r10 r11 hcs
    go_wp2_with fail
    exact bodyPost_ret (v := .tuple #[.agg #[int i64 0,int i64 a0,int .u64 a1,int i64 a2,int i64 a3,int i64 a4,int i64 a5,int i64 a6,int i64 a7,int i64 a8,int i64 0,int i64 0],int i64 ae]) (by simp [results,Tryz.results58,go_sem,RR.out]) rfl ⟨by rw [HV.out]; first | done | rfl,HF.out⟩
   ·have t7 : (op == 7) = false:=by simpa using o7
    by_cases o2 : op = 2
    ·subst o2
     clear o0 o1 o7
     obtain ⟨a0,a1,a2,a3,a4,a5,a6,a7,a8,ae,hv⟩:=num9 (r:=bind17 R po ch ma now)
     have HV : Hid (ask17 R 2 po ch ma now = (rowR17 ⟨a0,a1,a2,a3,a4,a5,a6,a7,a8⟩,ae)):=hd_ (by unfold ask17; simp; rw [hv]; exact ⟨rfl,rfl⟩)
     have hcl:=bind17_any HS.out 2 po ch ma now
     rw [hv] at hcl
     have hcl : Calls _ _ _ _ (HR9 a0 a1 a2 a3 a4 a5 a6 a7 a8 ae w1):=hcl
     have HCL:=hd_ hcl
     have HBM : Hid (∀ W,Calls _ _ _ W (fun e w'=>e = .returned (.tuple #[.agg #[int i64 1,int i64 a0,int .u64 a1,int i64 a2,int i64 a3,int i64 a4,int i64 a5,int i64 a6,int i64 a7,int i64 a8,int i64 0,int i64 0],int i64 ae]) ∧ Chg (fun _=>False) W w')):=hd_ (fun W=>became17_any a0 a1 a2 a3 a4 a5 a6 a7 a8 ae W)
     clear hcl hv
     go_wp2_with fail
     refine HCL.out.mono ?_
     rintro e w2 ⟨rfl,hc⟩
     replace HZ:=hd_ (HZ.out.chg hc id)
     replace HX:=hd_ (HX.out.tr hc)
     clear hc HCL
     go_wp2_with fail
     refine (HBM.out _).mono ?_
     rintro e w3 ⟨rfl,hc⟩
     replace HZ:=hd_ (HZ.out.chg hc id)
     replace HX:=hd_ (HX.out.tr hc)
     clear hc HBM
     obtain ⟨x0,x1,x2,x3,x4,x5,x6,x7,x8,x9,x10,x11⟩:=rc_cells17 HZ.out
     obtain ⟨u0,u1,u2,u3,u4,u5,u6,u7,u8,u9,u10,u11⟩:=rc_free17 HZ.out
     obtain ⟨r0,r1,r2,r3,r4,r5,r6,r7,r8,r9,r10,r11,hcs⟩:=rc_put17 HZ.out rfl 1 a0 a1 a2 a3 a4 a5 a6 a7 a8 0 0
     have RR:=cj12 r0 r1 r2 r3 r4 r5 r6 r7 r8 r9 r10 r11
     have HF:=hd_ (fresh_set HX.out hcs HQ.out)
     clear r0 r1 r2 r3 r4 r5 r6 r7 r8 r9 r10 r11 hcs
     go_wp2_with fail
     exact bodyPost_ret (v := .tuple #[.agg #[int i64 1,int i64 a0,int .u64 a1,int i64 a2,int i64 a3,int i64 a4,int i64 a5,int i64 a6,int i64 a7,int i64 a8,int i64 0,int i64 0],int i64 ae]) (by simp [results,Tryz.results58,go_sem,RR.out]) rfl ⟨by rw [HV.out]; first | done | rfl,HF.out⟩
    ·have t2 : (op == 2) = false:=by simpa using o2
     by_cases o3 : op = 3
     ·subst o3
      clear o0 o1 o7 o2
      obtain ⟨a0,a1,a2,a3,a4,a5,a6,a7,a8,ae,hv⟩:=num9 (r:=move17 R 3 po ch now)
      have HV : Hid (ask17 R 3 po ch ma now = (rowR17 ⟨a0,a1,a2,a3,a4,a5,a6,a7,a8⟩,ae)):=hd_ (by unfold ask17; simp; rw [hv]; exact ⟨rfl,rfl⟩)
      have hcl:=move17_any HS.out 3 po ch ma now
      rw [hv] at hcl
      have hcl : Calls _ _ _ _ (HR9 a0 a1 a2 a3 a4 a5 a6 a7 a8 ae w1):=hcl
      have HCL:=hd_ hcl
      have HBM : Hid (∀ W,Calls _ _ _ W (fun e w'=>e = .returned (.tuple #[.agg #[int i64 1,int i64 a0,int .u64 a1,int i64 a2,int i64 a3,int i64 a4,int i64 a5,int i64 a6,int i64 a7,int i64 a8,int i64 0,int i64 0],int i64 ae]) ∧ Chg (fun _=>False) W w')):=hd_ (fun W=>became17_any a0 a1 a2 a3 a4 a5 a6 a7 a8 ae W)
      clear hcl hv
      go_wp2_with fail
      refine HCL.out.mono ?_
      rintro e w2 ⟨rfl,hc⟩
      replace HZ:=hd_ (HZ.out.chg hc id)
      replace HX:=hd_ (HX.out.tr hc)
      clear hc HCL
      go_wp2_with fail
      refine (HBM.out _).mono ?_
      rintro e w3 ⟨rfl,hc⟩
      replace HZ:=hd_ (HZ.out.chg hc id)
      replace HX:=hd_ (HX.out.tr hc)
      clear hc HBM
      obtain ⟨x0,x1,x2,x3,x4,x5,x6,x7,x8,x9,x10,x11⟩:=rc_cells17 HZ.out
      obtain ⟨u0,u1,u2,u3,u4,u5,u6,u7,u8,u9,u10,u11⟩:=rc_free17 HZ.out
      obtain ⟨r0,r1,r2,r3,r4,r5,r6,r7,r8,r9,r10,r11,hcs⟩:=rc_put17 HZ.out rfl 1 a0 a1 a2 a3 a4 a5 a6 a7 a8 0 0
      have RR:=cj12 r0 r1 r2 r3 r4 r5 r6 r7 r8 r9 r10 r11
      have HF:=hd_ (fresh_set HX.out hcs HQ.out)
      clear r0 r1 r2 r3 r4 r5 r6 r7 r8 r9 r10 r11 hcs
      go_wp2_with fail
      exact bodyPost_ret (v := .tuple #[.agg #[int i64 1,int i64 a0,int .u64 a1,int i64 a2,int i64 a3,int i64 a4,int i64 a5,int i64 a6,int i64 a7,int i64 a8,int i64 0,int i64 0],int i64 ae]) (by simp [results,Tryz.results58,go_sem,RR.out]) rfl ⟨by rw [HV.out]; first | done | rfl,HF.out⟩
     ·have t3 : (op == 3) = false:=by simpa using o3
      by_cases o4 : op = 4
      ·subst o4
       clear o0 o1 o7 o2 o3
       obtain ⟨a0,a1,a2,a3,a4,a5,a6,a7,a8,ae,hv⟩:=num9 (r:=move17 R 4 po ch now)
       have HV : Hid (ask17 R 4 po ch ma now = (rowR17 ⟨a0,a1,a2,a3,a4,a5,a6,a7,a8⟩,ae)):=hd_ (by unfold ask17; simp; rw [hv]; exact ⟨rfl,rfl⟩)
       have hcl:=move17_any HS.out 4 po ch ma now
       rw [hv] at hcl
       have hcl : Calls _ _ _ _ (HR9 a0 a1 a2 a3 a4 a5 a6 a7 a8 ae w1):=hcl
       have HCL:=hd_ hcl
       have HBM : Hid (∀ W,Calls _ _ _ W (fun e w'=>e = .returned (.tuple #[.agg #[int i64 1,int i64 a0,int .u64 a1,int i64 a2,int i64 a3,int i64 a4,int i64 a5,int i64 a6,int i64 a7,int i64 a8,int i64 0,int i64 0],int i64 ae]) ∧ Chg (fun _=>False) W w')):=hd_ (fun W=>became17_any a0 a1 a2 a3 a4 a5 a6 a7 a8 ae W)
       clear hcl hv
       go_wp2_with fail
       refine HCL.out.mono ?_
       rintro e w2 ⟨rfl,hc⟩
       replace HZ:=hd_ (HZ.out.chg hc id)
       replace HX:=hd_ (HX.out.tr hc)
       clear hc HCL
       go_wp2_with fail
       refine (HBM.out _).mono ?_
       rintro e w3 ⟨rfl,hc⟩
       replace HZ:=hd_ (HZ.out.chg hc id)
       replace HX:=hd_ (HX.out.tr hc)
       clear hc HBM
       obtain ⟨x0,x1,x2,x3,x4,x5,x6,x7,x8,x9,x10,x11⟩:=rc_cells17 HZ.out
       obtain ⟨u0,u1,u2,u3,u4,u5,u6,u7,u8,u9,u10,u11⟩:=rc_free17 HZ.out
       obtain ⟨r0,r1,r2,r3,r4,r5,r6,r7,r8,r9,r10,r11,hcs⟩:=rc_put17 HZ.out rfl 1 a0 a1 a2 a3 a4 a5 a6 a7 a8 0 0
       have RR:=cj12 r0 r1 r2 r3 r4 r5 r6 r7 r8 r9 r10 r11
       have HF:=hd_ (fresh_set HX.out hcs HQ.out)
       clear r0 r1 r2 r3 r4 r5 r6 r7 r8 r9 r10 r11 hcs
       go_wp2_with fail
       exact bodyPost_ret (v := .tuple #[.agg #[int i64 1,int i64 a0,int .u64 a1,int i64 a2,int i64 a3,int i64 a4,int i64 a5,int i64 a6,int i64 a7,int i64 a8,int i64 0,int i64 0],int i64 ae]) (by simp [results,Tryz.results58,go_sem,RR.out]) rfl ⟨by rw [HV.out]; first | done | rfl,HF.out⟩
      ·have t4 : (op == 4) = false:=by simpa using o4
       by_cases o5 : op = 5
       ·subst o5
        clear o0 o1 o7 o2 o3 o4
        obtain ⟨a0,a1,a2,a3,a4,a5,a6,a7,a8,ae,hv⟩:=num9 (r:=move17 R 5 po ch now)
        have HV : Hid (ask17 R 5 po ch ma now = (rowR17 ⟨a0,a1,a2,a3,a4,a5,a6,a7,a8⟩,ae)):=hd_ (by unfold ask17; simp; rw [hv]; exact ⟨rfl,rfl⟩)
        have hcl:=move17_any HS.out 5 po ch ma now
        rw [hv] at hcl
        have hcl : Calls _ _ _ _ (HR9 a0 a1 a2 a3 a4 a5 a6 a7 a8 ae w1):=hcl
        have HCL:=hd_ hcl
        have HBM : Hid (∀ W,Calls _ _ _ W (fun e w'=>e = .returned (.tuple #[.agg #[int i64 1,int i64 a0,int .u64 a1,int i64 a2,int i64 a3,int i64 a4,int i64 a5,int i64 a6,int i64 a7,int i64 a8,int i64 0,int i64 0],int i64 ae]) ∧ Chg (fun _=>False) W w')):=hd_ (fun W=>became17_any a0 a1 a2 a3 a4 a5 a6 a7 a8 ae W)
        clear hcl hv
        go_wp2_with fail
        refine HCL.out.mono ?_
        rintro e w2 ⟨rfl,hc⟩
        replace HZ:=hd_ (HZ.out.chg hc id)
        replace HX:=hd_ (HX.out.tr hc)
        clear hc HCL
        go_wp2_with fail
        refine (HBM.out _).mono ?_
        rintro e w3 ⟨rfl,hc⟩
        replace HZ:=hd_ (HZ.out.chg hc id)
        replace HX:=hd_ (HX.out.tr hc)
        clear hc HBM
        obtain ⟨x0,x1,x2,x3,x4,x5,x6,x7,x8,x9,x10,x11⟩:=rc_cells17 HZ.out
        obtain ⟨u0,u1,u2,u3,u4,u5,u6,u7,u8,u9,u10,u11⟩:=rc_free17 HZ.out
        obtain ⟨r0,r1,r2,r3,r4,r5,r6,r7,r8,r9,r10,r11,hcs⟩:=rc_put17 HZ.out rfl 1 a0 a1 a2 a3 a4 a5 a6 a7 a8 0 0
        have RR:=cj12 r0 r1 r2 r3 r4 r5 r6 r7 r8 r9 r10 r11
        have HF:=hd_ (fresh_set HX.out hcs HQ.out)
        clear r0 r1 r2 r3 r4 r5 r6 r7 r8 r9 r10 r11 hcs
        go_wp2_with fail
        exact bodyPost_ret (v := .tuple #[.agg #[int i64 1,int i64 a0,int .u64 a1,int i64 a2,int i64 a3,int i64 a4,int i64 a5,int i64 a6,int i64 a7,int i64 a8,int i64 0,int i64 0],int i64 ae]) (by simp [results,Tryz.results58,go_sem,RR.out]) rfl ⟨by rw [HV.out]; first | done | rfl,HF.out⟩
       ·have t5 : (op == 5) = false:=by simpa using o5
        by_cases o6 : op = 6
        ·subst o6
         clear o0 o1 o7 o2 o3 o4 o5
         obtain ⟨a0,a1,a2,a3,a4,a5,a6,a7,a8,ae,hv⟩:=num9 (r:=move17 R 6 po ch now)
         have HV : Hid (ask17 R 6 po ch ma now = (rowR17 ⟨a0,a1,a2,a3,a4,a5,a6,a7,a8⟩,ae)):=hd_ (by unfold ask17; simp; rw [hv]; exact ⟨rfl,rfl⟩)
         have hcl:=move17_any HS.out 6 po ch ma now
         rw [hv] at hcl
         have hcl : Calls _ _ _ _ (HR9 a0 a1 a2 a3 a4 a5 a6 a7 a8 ae w1):=hcl
         have HCL:=hd_ hcl
         have HBM : Hid (∀ W,Calls _ _ _ W (fun e w'=>e = .returned (.tuple #[.agg #[int i64 1,int i64 a0,int .u64 a1,int i64 a2,int i64 a3,int i64 a4,int i64 a5,int i64 a6,int i64 a7,int i64 a8,int i64 0,int i64 0],int i64 ae]) ∧ Chg (fun _=>False) W w')):=hd_ (fun W=>became17_any a0 a1 a2 a3 a4 a5 a6 a7 a8 ae W)
         clear hcl hv
         go_wp2_with fail
         refine HCL.out.mono ?_
         rintro e w2 ⟨rfl,hc⟩
         replace HZ:=hd_ (HZ.out.chg hc id)
         replace HX:=hd_ (HX.out.tr hc)
         clear hc HCL
         go_wp2_with fail
         refine (HBM.out _).mono ?_
         rintro e w3 ⟨rfl,hc⟩
         replace HZ:=hd_ (HZ.out.chg hc id)
         replace HX:=hd_ (HX.out.tr hc)
         clear hc HBM
         obtain ⟨x0,x1,x2,x3,x4,x5,x6,x7,x8,x9,x10,x11⟩:=rc_cells17 HZ.out
         obtain ⟨u0,u1,u2,u3,u4,u5,u6,u7,u8,u9,u10,u11⟩:=rc_free17 HZ.out
         obtain ⟨r0,r1,r2,r3,r4,r5,r6,r7,r8,r9,r10,r11,hcs⟩:=rc_put17 HZ.out rfl 1 a0 a1 a2 a3 a4 a5 a6 a7 a8 0 0
         have RR:=cj12 r0 r1 r2 r3 r4 r5 r6 r7 r8 r9 r10 r11
         have HF:=hd_ (fresh_set HX.out hcs HQ.out)
         clear r0 r1 r2 r3 r4 r5 r6 r7 r8 r9 r10 r11 hcs
         go_wp2_with fail
         exact bodyPost_ret (v := .tuple #[.agg #[int i64 1,int i64 a0,int .u64 a1,int i64 a2,int i64 a3,int i64 a4,int i64 a5,int i64 a6,int i64 a7,int i64 a8,int i64 0,int i64 0],int i64 ae]) (by simp [results,Tryz.results58,go_sem,RR.out]) rfl ⟨by rw [HV.out]; first | done | rfl,HF.out⟩
        ·have t6 : (op == 6) = false:=by simpa using o6
         have HV : Hid (ask17 R op po ch ma now = (⟨0,z9,0,0⟩,1)):=hd_ (by unfold ask17; simp [o0,o1,o7,o2,o3,o4,o5,o6])
         clear o0 o1 o7 o2 o3 o4 o5 o6
         obtain ⟨x0,x1,x2,x3,x4,x5,x6,x7,x8,x9,x10,x11⟩:=rc_cells17 HZ.out
         obtain ⟨u0,u1,u2,u3,u4,u5,u6,u7,u8,u9,u10,u11⟩:=rc_free17 HZ.out
         obtain ⟨r0,r1,r2,r3,r4,r5,r6,r7,r8,r9,r10,r11,hcs⟩:=rc_put17 HZ.out rfl 0 0 0 0 0 0 0 0 0 0 0 0
         have RR:=cj12 r0 r1 r2 r3 r4 r5 r6 r7 r8 r9 r10 r11
         have HF:=hd_ (fresh_set HX.out hcs HQ.out)
         clear r0 r1 r2 r3 r4 r5 r6 r7 r8 r9 r10 r11 hcs
         go_wp2_with fail
         exact bodyPost_ret (v := .tuple #[.agg #[int i64 0,int i64 0,int .u64 0,int i64 0,int i64 0,int i64 0,int i64 0,int i64 0,int i64 0,int i64 0,int i64 0,int i64 0],int i64 1]) (by simp [results,Tryz.results58,go_sem,RR.out]) rfl ⟨by rw [HV.out]; first | done | rfl,HF.out⟩
end Go.Proofs.YtnojmbejedlilaaGreat
