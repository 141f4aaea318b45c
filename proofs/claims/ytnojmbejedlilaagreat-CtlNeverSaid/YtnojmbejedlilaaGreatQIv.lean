/-
  Walk: rutterlaw17.alive. No condition.
-/
import Derived.Test.YtnojmbejedlilaaGreatQIu
import Derived.Test.YtnojmbejedlilaaGreatQPr
import Derived.Deep.RegionHeld3
set_option maxRecDepth 100000
set_option maxHeartbeats 40000000
set_option linter.unusedVariables false
set_option linter.unusedSimpArgs false
namespace Go.Proofs.YtnojmbejedlilaaGreat
open Go.Value (int)
open Go.IntKind (i64)
open Go.RowKit
theorem lvD4 : lvA4.1 = ⟨3,7,1,2, -1,1,1,2,5⟩:=by kernel_rfl
theorem lvD5 : lvA5.1 = ⟨0,0,0,0,0,0,0,0,0⟩:=by kernel_rfl
theorem lvD6 : lvA6.1 = ⟨2,0,0,0,0,0,0,0,0,0,3,2, []⟩:=by kernel_rfl
theorem lvD8 : lvA8.1 = ⟨0,0,0,0,0,0,0,0,0⟩:=by kernel_rfl
theorem lvD12 : lvA12.1 = ⟨3,7,2, -1, -1,2,0,4,15⟩:=by kernel_rfl
theorem lvB12 : lvA12.2.2.t.bt = 2:=by kernel_rfl
theorem lvK0 : KOk 0 lvA0:=opn_kok17 (by decide) (by decide) (by decide) (by decide) (by decide) lvE0
theorem lvK1 : KOk 0 lvA1:=lvK0.do_ 0 0 1 (by decide)
theorem lvK2 : KOk 0 lvA2:=lvK1.do_ 0 0 2 (by decide)
theorem lvK3 : KOk 0 lvA3:=lvK2.do_ 2 3 1 (by decide)
theorem lvK4 : KOk 0 lvA4.2.2:=lvK3.do_ 4 3 2 (by decide)
theorem lvK5 : KOk 0 lvA5.2.2:=lvK4.do_ 4 3 2 (by decide)
theorem lvK6 : KOk 1 lvA6.2.2:=lvK5.take 2 lvB17
theorem lvK7 : KOk 1 lvA7.2:=lvK6.half 5 3 0 0
theorem lvK8 : KOk 1 lvA8.2.2:=lvK7.do_ 7 3 0 (by decide)
theorem lvK9 : KOk 0 lvA9:=by
 have h:=cr_len17 lvK8 9
 exact opn_kok17 h.2 lvK8.m (by omega) (by decide) (by decide) lvE9
theorem lvK10 : KOk 0 lvA10.2.2:=by
 have h : KOk 0 (doK17 lvA9 7 3 0 0).2.2:=KOk.do_ lvK9 7 3 0 (by decide)
 unfold lvA10
 exact h
theorem lvK11 : KOk 0 lvA11.2:=KOk.tick lvK10 15
def LdP (w0 : World) (c pf : Nat) (bl : Bx17) (cs : Array Value) (er : Int) (Y : KV) (e : Ending) (w' : World) : Prop:=e = .returned (.tuple #[.agg cs,int i64 er]) ∧ AL17 w0 w' c pf Y bl
theorem live_do17 {w0 w : World} {c pf j : Nat} {X Y : KV} {bl : Bx17} {r : RV} {er : Int} (h : AL17 w0 w c pf X bl) (ho : KOk j X) (op po ch ma : Int) (hma : 0 ≤ ma) (h1 : (doK17 X op po ch ma).1 = r) (h2 : (doK17 X op po ch ma).2.1 = er) (h3 : (doK17 X op po ch ma).2.2 = Y) : Calls Tryz.prog 23 #[.pointer (some ⟨c,0,none⟩), .agg #[int i64 op,int i64 po,int i64 ch,int .u64 ma]] w (LdP w0 c pf bl r.cs er Y):=by
 refine (al_do17 h ho op po ch ma hma).mono ?_
 rintro e w' ⟨rfl,hk⟩
 rw [h1,h2, ← h3]
 exact ⟨rfl,h3 ▸ hk⟩
theorem live_take17 {w0 w : World} {c pf : Nat} {bl : Bx17} (h : AL17 w0 w c pf lvA5.2.2 bl) (A : Option Addr) (n bc : Nat) (hb : Bs17 w A n bc lvB17) : Calls Tryz.prog 31 #[.pointer (some ⟨c,0,none⟩),int i64 2, .slice A n bc] w fun e w' => ∃ A6 rc6,e = .returned (.tuple #[.agg #[int i64 2,int i64 0,int .u64 0,int i64 0,int i64 0,int i64 0,int i64 0,int i64 0,int i64 0,int i64 0,int i64 3,int i64 2, .slice A6 0 rc6],int i64 0]) ∧ AL17 w0 w' c pf lvA6.2.2 bl:=by
 refine (al_take17 h lvK5 (by decide) 2 A n bc lvB17 hb).mono ?_
 rintro e w' ⟨⟨A6,rc6,rfl⟩,hk⟩
 refine ⟨A6,rc6, ?_,hk⟩
 rw [show takeK17 lvA5.2.2 2 lvB17 = lvA6 from rfl,lvD6,lvE6]
 rfl
theorem alive17_any (w : World) : Calls Tryz.prog 7 #[] w fun e w'=>e = .returned (.bool true) ∧ Chg (fun _=>False) w w':=by
 have HX:=hd_ (Chg.refl (fun _=>False) w)
 go_in
 go_wp2_with fail
 refine (af_new17 HX.out).mono ?_
 rintro e w1 ⟨pf,rfl,hA⟩
 have HF:=hd_ hA
 clear hA
 go_wp2_with fail
 refine (af_open17 HF.out lvE0).mono ?_
 rintro e w2 ⟨c,rfl,hA⟩
 have HA : Hid (AL17 w w2 c pf lvA0 []):=hd_ hA
 clear hA HF
 have HC:=hd_ (al_do17 HA.out lvK0 0 0 1 0 (by decide))
 clear HA
 go_wp2_with fail
 refine HC.out.mono ?_
 rintro e w3 ⟨rfl,hA⟩
 have HA : Hid (AL17 w w3 c pf lvA1 []):=hd_ hA
 clear hA HC
 have HC:=hd_ (al_do17 HA.out lvK1 0 0 2 0 (by decide))
 clear HA
 go_wp2_with fail
 refine HC.out.mono ?_
 rintro e w4 ⟨rfl,hA⟩
 have HA : Hid (AL17 w w4 c pf lvA2 []):=hd_ hA
 clear hA HC
 have HC:=hd_ (al_do17 HA.out lvK2 2 3 1 7 (by decide))
 clear HA
 go_wp2_with fail
 refine HC.out.mono ?_
 rintro e w5 ⟨rfl,hA⟩
 have HA : Hid (AL17 w w5 c pf lvA3 []):=hd_ hA
 clear hA HC
 have hc:=live_do17 (Y:=lvA4.2.2) (r:=⟨3,7,1,2, -1,1,1,2,5⟩) HA.out lvK3 4 3 2 0 (by decide) lvD4 lvE4 rfl
 unfold LdP RV.cs rvC at hc
 dsimp only at hc
 have HC:=hd_ hc
 clear hc HA
 go_wp2_with fail
 refine HC.out.mono ?_
 rintro e w6 ⟨rfl,hA⟩
 have HA:=hd_ hA
 clear hA HC
 replace HA:=hd_ (HA.out.box 60 #[int i64 3,int .u64 7,int i64 1,int i64 2,int i64 (-1),int i64 1,int i64 1,int i64 2,int i64 5])
 go_upto_region 7 with fail
 generalize w6.alloc (.cells #[int i64 3,int .u64 7,int i64 1,int i64 2,int i64 (-1),int i64 1,int i64 1,int i64 2,int i64 5] 60) = w6b at *
 generalize w6.heap.size = q5 at *
 have hc:=live_do17 (Y:=lvA5.2.2) (r:=⟨0,0,0,0,0,0,0,0,0⟩) HA.out lvK4 4 3 2 0 (by decide) lvD5 lvE5 rfl
 unfold LdP RV.cs rvC at hc
 dsimp only at hc
 have HC:=hd_ hc
 clear hc HA
 go_wp2_with fail
 refine HC.out.mono ?_
 rintro e w7 ⟨rfl,hA⟩
 have HA:=hd_ hA
 clear hA HC
 replace HA:=hd_ (HA.out.box 60 #[int i64 0,int .u64 0,int i64 0,int i64 0,int i64 0,int i64 0,int i64 0,int i64 0,int i64 0])
 go_upto_region 8 with fail
 generalize w7.alloc (.cells #[int i64 0,int .u64 0,int i64 0,int i64 0,int i64 0,int i64 0,int i64 0,int i64 0,int i64 0] 60) = w7b at *
 generalize w7.heap.size = q7 at *
 have HS:=hd_ (lsay17 w7b)
 unfold SayP17 at HS
 go_wp2_with fail
 refine HS.out.mono ?_
 rintro e w8 ⟨E8,k8,d8,rfl,hbs,hc⟩
 have HC:=hd_ (live_take17 (HA.out.new hc) E8 k8 d8 hbs)
 clear hbs hc HS HA
 go_wp2_with fail
 refine HC.out.mono ?_
 rintro e w9 ⟨A6,rc6,rfl,hA⟩
 have HA:=hd_ hA
 clear hA HC
 replace HA:=hd_ (HA.out.box 74 #[int i64 2,int i64 0,int .u64 0,int i64 0,int i64 0,int i64 0,int i64 0,int i64 0,int i64 0,int i64 0,int i64 3,int i64 2, .slice A6 0 rc6])
 go_upto_region 9 with fail
 generalize w9.alloc (.cells #[int i64 2,int i64 0,int .u64 0,int i64 0,int i64 0,int i64 0,int i64 0,int i64 0,int i64 0,int i64 0,int i64 3,int i64 2, .slice A6 0 rc6] 74) = w9b at *
 generalize w9.heap.size = q9 at *
 have HC:=hd_ (al_half17 HA.out lvK6 5 3 0 0 (by decide))
 rw [show (halfK17 lvA6.2.2 5 3 0 0).1 = 0 from lvE7,show (halfK17 lvA6.2.2 5 3 0 0).2 = lvA7.2 from rfl] at HC
 clear HA
 go_wp2_with fail
 refine HC.out.mono ?_
 rintro e w10 ⟨rfl,hA⟩
 have HA:=hd_ hA
 clear hA HC
 have hc:=live_do17 (Y:=lvA8.2.2) (r:=⟨0,0,0,0,0,0,0,0,0⟩) HA.out lvK7 7 3 0 0 (by decide) lvD8 lvE8 rfl
 unfold LdP RV.cs rvC at hc
 dsimp only at hc
 have HC:=hd_ hc
 clear hc HA
 go_wp2_with fail
 refine HC.out.mono ?_
 rintro e w11 ⟨rfl,hA⟩
 have HA:=hd_ hA
 clear hA HC
 replace HA:=hd_ (HA.out.box 60 #[int i64 0,int .u64 0,int i64 0,int i64 0,int i64 0,int i64 0,int i64 0,int i64 0,int i64 0])
 go_upto_region 11 with fail
 generalize w11.alloc (.cells #[int i64 0,int .u64 0,int i64 0,int i64 0,int i64 0,int i64 0,int i64 0,int i64 0,int i64 0] 60) = w11b at *
 generalize w11.heap.size = q12 at *
 have HC:=hd_ (al_crash17 HA.out lvK8 9)
 clear HA
 go_wp2_with fail
 refine HC.out.mono ?_
 rintro e w12 ⟨⟨n12,rfl⟩,hA⟩
 have HC2:=hd_ (al_open17 hA lvK8 lvE9)
 clear hA HC
 go_wp2_with fail
 refine HC2.out.mono ?_
 rintro e w13 ⟨c13,rfl,hA⟩
 have HA:=hd_ hA
 rw [show reK17 lvA8.2.2 9 10 6 = lvA9 from rfl] at HA
 clear hA HC2
 have hc:=live_do17 (Y:=lvA10.2.2) (r:=⟨3,7,2, -1,1,2,2,3,5⟩) HA.out lvK9 7 3 0 0 (by decide) lvV10 lvE10 rfl
 unfold LdP RV.cs rvC at hc
 dsimp only at hc
 have HC:=hd_ hc
 clear hc HA
 go_wp2_with fail
 refine HC.out.mono ?_
 rintro e w14 ⟨rfl,hA⟩
 have HA:=hd_ hA
 clear hA HC
 replace HA:=hd_ (HA.out.box 60 #[int i64 3,int .u64 7,int i64 2,int i64 (-1),int i64 1,int i64 2,int i64 2,int i64 3,int i64 5])
 go_upto_region 14 with fail
 generalize w14.alloc (.cells #[int i64 3,int .u64 7,int i64 2,int i64 (-1),int i64 1,int i64 2,int i64 2,int i64 3,int i64 5] 60) = w14b at *
 generalize w14.heap.size = q16 at *
 have HC:=hd_ (al_tick17 HA.out lvK10 15)
 rw [show (tickK17 lvA10.2.2 15).1 = 0 from lvE11,show (tickK17 lvA10.2.2 15).2 = lvA11.2 from rfl] at HC
 clear HA
 go_wp2_with fail
 refine HC.out.mono ?_
 rintro e w15 ⟨rfl,hA⟩
 have HA:=hd_ hA
 clear hA HC
 have hc:=live_do17 (Y:=lvA12.2.2) (r:=⟨3,7,2, -1, -1,2,0,4,15⟩) HA.out lvK11 7 3 0 0 (by decide) lvD12 lvE12 rfl
 unfold LdP RV.cs rvC at hc
 dsimp only at hc
 have HC:=hd_ hc
 clear hc HA
 go_wp2_with fail
 refine HC.out.mono ?_
 rintro e w16 ⟨rfl,hA⟩
 have HA:=hd_ hA
 clear hA HC
 replace HA:=hd_ (HA.out.box 60 #[int i64 3,int .u64 7,int i64 2,int i64 (-1),int i64 (-1),int i64 2,int i64 0,int i64 4,int i64 15])
 go_upto_region 16 with fail
 generalize w16.alloc (.cells #[int i64 3,int .u64 7,int i64 2,int i64 (-1),int i64 (-1),int i64 2,int i64 0,int i64 4,int i64 15] 60) = w16b at *
 generalize w16.heap.size = q19 at *
 have HB:=hd_ (HA.out.box 60 #[int i64 3,int .u64 7,int i64 2,int i64 (-1),int i64 1,int i64 2,int i64 2,int i64 3,int i64 5])
 have b5:=HB.out.blk (b:=(q5,60,#[int i64 3,int .u64 7,int i64 1,int i64 2,int i64 (-1),int i64 1,int i64 1,int i64 2,int i64 5])) (by simp)
 have b9:=HB.out.blk (b:=(q9,74,#[int i64 2,int i64 0,int .u64 0,int i64 0,int i64 0,int i64 0,int i64 0,int i64 0,int i64 0,int i64 0,int i64 3,int i64 2, .slice A6 0 rc6])) (by simp)
 have b16:=HB.out.blk (b:=(q16,60,#[int i64 3,int .u64 7,int i64 2,int i64 (-1),int i64 1,int i64 2,int i64 2,int i64 3,int i64 5])) (by simp)
 have b19:=HB.out.blk (b:=(q19,60,#[int i64 3,int .u64 7,int i64 2,int i64 (-1),int i64 (-1),int i64 2,int i64 0,int i64 4,int i64 15])) (by simp)
 have b21:=HB.out.blk (b:=(w16b.heap.size,60,#[int i64 3,int .u64 7,int i64 2,int i64 (-1),int i64 1,int i64 2,int i64 2,int i64 3,int i64 5])) (by simp)
 have v5:=b5.cell 7
 have v9:=b9.cell 0
 have v19a:=b19.cell 6
 have v19b:=b19.cell 7
 have v19c:=b19.cell 8
 obtain ⟨x0,x1,x2,x3,x4,x5,x6,x7,x8⟩:=rv_cells (show Blk _ q16 60 (rvC 3 7 2 (-1) 1 2 2 3 5) from b16)
 obtain ⟨y0,y1,y2,y3,y4,y5,y6,y7,y8⟩:=rv_cells (show Blk _ w16b.heap.size 60 (rvC 3 7 2 (-1) 1 2 2 3 5) from b21)
 simp only [List.getElem?_toArray,List.getElem?_cons_zero,List.getElem?_cons_succ] at v5 v9 v19a v19b v19c
 clear b5 b9 b16 b19 b21
 have hbt:=al_boot17 HB.out
 rw [lvB12] at hbt
 have HBT:=hd_ hbt
 have hch:=al_chas17 HB.out
 rw [lvC12] at hch
 have HCH:=hd_ hch
 have HW:=hd_ HB.out.was
 clear hbt hch HB HA
 go_wp2_with fail
 refine HBT.out.mono ?_
 rintro e wz ⟨rfl,hw⟩
 subst hw
 go_wp2_with fail
 refine HCH.out.mono ?_
 rintro e w18 ⟨A18,n18,d18,rfl,hn18,hr18,hc18⟩
 have HR:=hd_ hr18
 have HX:=hd_ (HW.out.tr hc18)
 have HN18:=hd_ hn18
 clear hn18 hr18 hc18 HBT HCH HW v5 v9 v19a v19b v19c x0 x1 x2 x3 x4 x5 x6 x7 x8 y0 y1 y2 y3 y4 y5 y6 y7 y8
 have hal:=(Chg.refl (fun _=>False) w18).alloc (.cells #[int i64 1,int i64 2] 3)
 have HIN:=hd_ (ints10_any A18 (some ⟨w18.heap.size,0,none⟩) n18 2 d18 2 [1,2] [1,2] _ (fun _=>True) (w18.alloc (.cells #[int i64 1,int i64 2] 3)) (HR.out.chg hal (fun _ _=>id)) ⟨rfl,fun _=>⟨_,rfl,trivial,by simp,fun j u hu=>new_cells rfl j u hu⟩⟩ (by have:=HN18.out; simp at this; omega))
 replace HX:=hd_ (HX.out.tr hal)
 clear hal HR
 go_wp2_with fail
 refine HIN.out.mono ?_
 rintro e w19 ⟨bb,rfl,hbb,hc19⟩
 obtain rfl:=hbb rfl
 have HX2:=hd_ (HX.out.tr hc19)
 clear hbb hc19 HIN HX
 go_wp2_with fail
 go_ret
 exact ⟨rfl,HX2.out⟩
end Go.Proofs.YtnojmbejedlilaaGreat
