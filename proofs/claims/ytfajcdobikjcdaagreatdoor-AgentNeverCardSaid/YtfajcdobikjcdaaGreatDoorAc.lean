/-
  Walks: agent.timely, comes, went, row. Conditions: the agent lies in memory.
-/
import Derived.Test.YtfajcdobikjcdaaGreatDoorAb
import Derived.Test.YtfajcdobikjcdaaGreatDoorM9
set_option maxRecDepth 100000
set_option maxHeartbeats 40000000
set_option linter.unusedVariables false
set_option linter.unusedSimpArgs false
namespace Go.Proofs.YtfajcdobikjcdaaGreatDoor
open Go.Value (int)
open Go.IntKind (i64)
open Go.RowKit
def comB (c ph ta : Int) : Bool:=ph == 1 && ta == c
def wenB (c ph ol : Int) : Bool:=ph == 2 && ol == c
theorem atime_any (t : Int) (w : World) : Calls Tryz.prog 25 #[int i64 t] w fun e w'=>e = .returned (.bool (tmB t)) ∧ w = w':=by
 by_cases h : 0 ≤ t
 ·have HR:=hd_ (show tmB t = decide (t ≤ 1099511627776) by simp [tmB,h])
  go_enter Tryz.func25,Tryz.ntmps25
  go_wp2_with fail
  go_ret
  exact ⟨ret_b HR.out.symm,rfl⟩
 ·have HR:=hd_ (show tmB t = false by simp [tmB,h])
  go_enter Tryz.func25,Tryz.ntmps25
  go_wp2_with fail
  go_ret
  exact ⟨ret_b HR.out.symm,rfl⟩
theorem acomes_any {w : World} {a ps q m : Nat} {D : Nat → Prop} {x : AV} (h : AM w a ps q m D x) (po ma ow ta ol ge ph ve si : Int) : Calls Tryz.prog 58 #[.pointer (some ⟨a,0,none⟩), .agg #[int i64 po,int .u64 ma,int i64 ow,int i64 ta,int i64 ol,int i64 ge,int i64 ph,int i64 ve,int i64 si]] w fun e w'=>e = .returned (.bool (comB x.c ph ta)) ∧ Chg (fun _=>False) w w':=by
 obtain ⟨o,oq,rfl,hP⟩:=h
 have HP:=hd_ hP
 have hW1:=(Chg.refl (fun _=>False) w).alloc (.cells #[int i64 po,int .u64 ma,int i64 ow,int i64 ta,int i64 ol,int i64 ge,int i64 ph,int i64 ve,int i64 si] 63)
 have HB0 : Hid (Blk (w.alloc (.cells #[int i64 po,int .u64 ma,int i64 ow,int i64 ta,int i64 ol,int i64 ge,int i64 ph,int i64 ve,int i64 si] 63)) w.heap.size 63 (rvC po ma ow ta ol ge ph ve si)):=hd_ (blk_new rfl)
 replace HP:=hd_ (HP.out.new hW1)
 have HC0:=hd_ hW1
 clear hP hW1
 by_cases h2 : ph = 1
 ·have tp : (ph == 1) = true:=by simp [h2]
  have HH:=hd_ h2
  clear h2
  go_enter Tryz.func58,Tryz.ntmps58
  go_upto_region 1 with fail
  generalize w.alloc (.cells #[int i64 po,int .u64 ma,int i64 ow,int i64 ta,int i64 ol,int i64 ge,int i64 ph,int i64 ve,int i64 si] 63) = w1 at *
  generalize w.heap.size = qz at *
  have c1:=HP.out.ab.c1
  obtain ⟨y0,y1,y2,y3,y4,y5,y6,y7,y8⟩:=rv_cells HB0.out
  go_wp2_with fail
  go_region
  go_wp2_with fail
  go_ret
  exact ⟨ret_b (by simp [comB,HH.out]),HC0.out.drew⟩
 ·have tp : (ph == 1) = false:=by simp [h2]
  have HH:=hd_ h2
  clear h2
  go_enter Tryz.func58,Tryz.ntmps58
  go_upto_region 1 with fail
  generalize w.alloc (.cells #[int i64 po,int .u64 ma,int i64 ow,int i64 ta,int i64 ol,int i64 ge,int i64 ph,int i64 ve,int i64 si] 63) = w1 at *
  generalize w.heap.size = qz at *
  have c1:=HP.out.ab.c1
  obtain ⟨y0,y1,y2,y3,y4,y5,y6,y7,y8⟩:=rv_cells HB0.out
  go_wp2_with fail
  go_region
  go_wp2_with fail
  go_ret
  exact ⟨ret_b (by simp [comB,HH.out]),HC0.out.drew⟩
theorem awent_any {w : World} {a ps q m : Nat} {D : Nat → Prop} {x : AV} (h : AM w a ps q m D x) (po ma ow ta ol ge ph ve si : Int) : Calls Tryz.prog 60 #[.pointer (some ⟨a,0,none⟩), .agg #[int i64 po,int .u64 ma,int i64 ow,int i64 ta,int i64 ol,int i64 ge,int i64 ph,int i64 ve,int i64 si]] w fun e w'=>e = .returned (.bool (wenB x.c ph ol)) ∧ Chg (fun _=>False) w w':=by
 obtain ⟨o,oq,rfl,hP⟩:=h
 have HP:=hd_ hP
 have hW1:=(Chg.refl (fun _=>False) w).alloc (.cells #[int i64 po,int .u64 ma,int i64 ow,int i64 ta,int i64 ol,int i64 ge,int i64 ph,int i64 ve,int i64 si] 63)
 have HB0 : Hid (Blk (w.alloc (.cells #[int i64 po,int .u64 ma,int i64 ow,int i64 ta,int i64 ol,int i64 ge,int i64 ph,int i64 ve,int i64 si] 63)) w.heap.size 63 (rvC po ma ow ta ol ge ph ve si)):=hd_ (blk_new rfl)
 replace HP:=hd_ (HP.out.new hW1)
 have HC0:=hd_ hW1
 clear hP hW1
 by_cases h2 : ph = 2
 ·have tp : (ph == 2) = true:=by simp [h2]
  have HH:=hd_ h2
  clear h2
  go_enter Tryz.func60,Tryz.ntmps60
  go_upto_region 1 with fail
  generalize w.alloc (.cells #[int i64 po,int .u64 ma,int i64 ow,int i64 ta,int i64 ol,int i64 ge,int i64 ph,int i64 ve,int i64 si] 63) = w1 at *
  generalize w.heap.size = qz at *
  have c1:=HP.out.ab.c1
  obtain ⟨y0,y1,y2,y3,y4,y5,y6,y7,y8⟩:=rv_cells HB0.out
  go_wp2_with fail
  go_region
  go_wp2_with fail
  go_ret
  exact ⟨ret_b (by simp [wenB,HH.out]),HC0.out.drew⟩
 ·have tp : (ph == 2) = false:=by simp [h2]
  have HH:=hd_ h2
  clear h2
  go_enter Tryz.func60,Tryz.ntmps60
  go_upto_region 1 with fail
  generalize w.alloc (.cells #[int i64 po,int .u64 ma,int i64 ow,int i64 ta,int i64 ol,int i64 ge,int i64 ph,int i64 ve,int i64 si] 63) = w1 at *
  generalize w.heap.size = qz at *
  have c1:=HP.out.ab.c1
  obtain ⟨y0,y1,y2,y3,y4,y5,y6,y7,y8⟩:=rv_cells HB0.out
  go_wp2_with fail
  go_region
  go_wp2_with fail
  go_ret
  exact ⟨ret_b (by simp [wenB,HH.out]),HC0.out.drew⟩
theorem rv_let16 (r : RV) : ∃ po ma ow ta ol ge ph ve si : Int,r = ⟨po,ma,ow,ta,ol,ge,ph,ve,si⟩:=by
 obtain ⟨po,ma,ow,ta,ol,ge,ph,ve,si⟩:=r
 exact ⟨po,ma,ow,ta,ol,ge,ph,ve,si,rfl⟩
theorem arow_any {w : World} {a ps q m : Nat} {D : Nat → Prop} {x : AV} (h : AM w a ps q m D x) (z : Int) (i : Nat) (hz : z = (i : Int)) (hi : i < 32) : Calls Tryz.prog 24 #[.pointer (some ⟨a,0,none⟩),int i64 z] w (HB (x.R i,decide (0 < (x.R i).ve)) w):=by
 obtain ⟨o,oq,rfl,hP⟩:=h
 have HP:=hd_ hP
 subst hz
 obtain ⟨po,ma,ow,ta,ol,ge,ph,ve,si,hv⟩:=rv_let16 (x.R i)
 have HV:=hd_ hv
 rw [hv]
 clear hP hv
 have HR0 : Hid (Blk (w.alloc (.cells #[int i64 0,int .u64 0,int i64 0,int i64 0,int i64 0,int i64 0,int i64 0,int i64 0,int i64 0] 63)) w.heap.size 63 (rvC 0 0 0 0 0 0 0 0 0)):=hd_ (blk_new rfl)
 have HX0:=hd_ ((Chg.refl (fun _=>False) w).alloc (.cells #[int i64 0,int .u64 0,int i64 0,int i64 0,int i64 0,int i64 0,int i64 0,int i64 0,int i64 0] 63))
 replace HP:=hd_ (HP.out.new HX0.out)
 have HI:=hd_ hi
 go_enter Tryz.func24,Tryz.ntmps24
 go_upto_region 1 with fail
 generalize (w.alloc (.cells #[int i64 0,int .u64 0,int i64 0,int i64 0,int i64 0,int i64 0,int i64 0,int i64 0,int i64 0] 63)) = w1 at *
 have hrow:=HP.out.ab.row hi
 rw [HV.out] at hrow
 obtain ⟨d0,d1,d2,d3,d4,d5,d6,d7,d8⟩:=hrow
 go_upto_region 2 with fail
 clear d0 d1 d2 d3 d4 d5 d6 d7 d8
 have HN : Hid (Blk (w1.alloc (.cells #[int i64 po,int .u64 ma,int i64 ow,int i64 ta,int i64 ol,int i64 ge,int i64 ph,int i64 ve,int i64 si] 63)) w1.heap.size 63 (rvC po ma ow ta ol ge ph ve si)):=hd_ (blk_new rfl)
 have hqn : w.heap.size < w1.heap.size:=HR0.out.lt
 replace HX0:=hd_ (HX0.out.alloc (.cells #[int i64 po,int .u64 ma,int i64 ow,int i64 ta,int i64 ol,int i64 ge,int i64 ph,int i64 ve,int i64 si] 63))
 replace HR0:=hd_ (HR0.out.alloc (.cells #[int i64 po,int .u64 ma,int i64 ow,int i64 ta,int i64 ol,int i64 ge,int i64 ph,int i64 ve,int i64 si] 63))
 generalize (w1.alloc (.cells #[int i64 po,int .u64 ma,int i64 ow,int i64 ta,int i64 ol,int i64 ge,int i64 ph,int i64 ve,int i64 si] 63)) = w2 at *
 generalize w1.heap.size = qn at *
 obtain ⟨y0,y1,y2,y3,y4,y5,y6,y7,y8⟩:=rv_cells HN.out
 obtain ⟨x0,x1,x2,x3,x4,x5,x6,x7,x8⟩:=rv_cells HR0.out
 obtain ⟨u0,u1,u2,u3,u4,u5,u6,u7,u8⟩:=rv_free9 HR0.out
 obtain ⟨r0,r1,r2,r3,r4,r5,r6,r7,r8, -,hcs⟩:=rv_put9 HR0.out po ma ow ta ol ge ph ve si
 have HF:=hd_ (fresh_set HX0.out hcs (by omega)).drew
 have RR:=hd_ (And.intro r0 (And.intro r1 (And.intro r2 (And.intro r3 (And.intro r4 (And.intro r5 (And.intro r6 (And.intro r7 r8))))))))
 clear r0 r1 r2 r3 r4 r5 r6 r7 r8 hcs HR0 HX0
 go_wp2_with fail
 go_region
 go_wp2_with fail
 obtain ⟨r0,r1,r2,r3,r4,r5,r6,r7,r8⟩:=RR.out
 exact bodyPost_ret (v := .tuple #[.agg (rvC po ma ow ta ol ge ph ve si), .bool (decide (0 < ve))]) (by simp [results,Tryz.results24,go_sem,rvC,r0,r1,r2,r3,r4,r5,r6,r7,r8]) rfl ⟨rfl,HF.out⟩
end Go.Proofs.YtfajcdobikjcdaaGreatDoor
