/-
  Walk: agent.awaited. Conditions: the agent, and the load, lie in memory.
-/
import Derived.Test.YtfajcdobikjcdaaGreatDoorAf
import Derived.Test.YtfajcdobikjcdaaGreatDoorM2
import Derived.Deep.LoopGhost
import Derived.Deep.MidRow
set_option maxRecDepth 100000
set_option maxHeartbeats 40000000
set_option linter.unusedVariables false
set_option linter.unusedSimpArgs false
namespace Go.Proofs.YtfajcdobikjcdaaGreatDoor
open Go.Value (int)
open Go.IntKind (i64)
open Go.RowKit
def annB (d s t : Int) (n : Nat) (l : List UInt8) : Bool:=rightB d s t n && (okA l && saysB t (aO l) (aP l) (aQ l))
theorem annV_b (d s t : Int) (n : Nat) (l : List UInt8) : annV d s t n l = .tuple #[int .u64 (if annB d s t n l then aS l else 0), .bool (annB d s t n l)]:=by
 cases h : annB d s t n l with
 | true=>rw [annV_yes h]; rfl
 | false=>rw [annV_no h]; rfl
def awB (x : AV) (mac : Int) (i : Nat) : Bool:=comB x.c (x.R i).ph (x.R i).ta && (x.R i).ma == mac
def awK (x : AV) (mac : Int) (k : Nat) : Option Nat:=(List.range k).find? (awB x mac)
def aw16 (x : AV) (d s t : Int) (n : Nat) (l : List UInt8) : Option Nat:=if annB d s t n l then awK x (aS l) 32 else none
def awP : Option Nat → Int
 | none=>0
 | some i=>(i : Int)
theorem awK_no {x : AV} {mac : Int} {k : Nat} (h : awK x mac k = none) (hn : awB x mac k = false) : awK x mac (k + 1) = none:=by
 unfold awK at h ⊢
 rw [List.range_succ,List.find?_append,h]
 simp [hn]
theorem awK_yes {x : AV} {mac : Int} {k : Nat} (h : awK x mac k = none) (hn : awB x mac k = true) (hk : k < 32) : awK x mac 32 = some k:=by
 unfold awK at h ⊢
 rw [range_split16 k hk,List.find?_append,h]
 simp [hn]
theorem awK_lt {x : AV} {mac : Int} {k i : Nat} (h : awK x mac k = some i) : i < k:=List.mem_range.1 (List.mem_of_find?_eq_some h)
theorem aawait_any {w : World} {a ps q m : Nat} {D : Nat → Prop} {x : AV} (h : AM w a ps q m D x) (d s t : Int) (A : Option Addr) (n c : Nat) (l : List UInt8) (S : Nat → Prop) (hn : n = l.length) (hr : Rds w S A n (bcs l)) (hc : n ≤ c) (hcm : c ≤ maxLen) (hd : 0 ≤ d) (hs : 0 ≤ s) : Calls Tryz.prog 32 #[.pointer (some ⟨a,0,none⟩), .agg #[int .u64 d,int .u64 s,int i64 t, .slice A n c]] w fun e w'=>e = .returned (.tuple #[int i64 (awP (aw16 x d s t n l)), .bool (aw16 x d s t n l).isSome]) ∧ Chg (fun _=>False) w w':=by
 have HM:=hd_ h
 have hw1:=(Chg.refl (fun _=>False) w).alloc (.cells #[int .u64 d,int .u64 s,int i64 t, .slice A n c] 34)
 have HB : Hid (Blk (w.alloc (.cells #[int .u64 d,int .u64 s,int i64 t, .slice A n c] 34)) w.heap.size 34 #[int .u64 d,int .u64 s,int i64 t, .slice A n c]):=hd_ (blk_new rfl)
 have han:=ann_any d s t A n c l S (w.alloc (.cells #[int .u64 d,int .u64 s,int i64 t, .slice A n c] 34)) hn (hr.alloc _) hc hcm hd hs
 rw [annV_b] at han
 have HAW:=hd_ (show aw16 x d s t n l = if annB d s t n l then awK x (aS l) 32 else none from rfl)
 generalize annB d s t n l = ab at *
 generalize aS l = mac at *
 generalize aw16 x d s t n l = aw at *
 replace HM:=hd_ (HM.out.new hw1)
 have HX:=hd_ hw1
 have HAN:=hd_ han
 clear h hr hw1 han hn hc hcm hd hs
 go_enter Tryz.func32,Tryz.ntmps32
 go_upto_region 1 with fail
 generalize w.alloc (.cells #[int .u64 d,int .u64 s,int i64 t, .slice A n c] 34) = w1 at *
 generalize w.heap.size = QF at HB ⊢
 have y0:=HB.out.cell 0
 have y1:=HB.out.cell 1
 have y2:=HB.out.cell 2
 have y3:=HB.out.cell 3
 simp only [List.getElem?_toArray,List.getElem?_cons_zero,List.getElem?_cons_succ] at y0 y1 y2 y3
 cases ab with
 | false =>
  replace HAW:=hd_ (show aw = none from HAW.out)
  go_wp2_with fail
  refine HAN.out.mono ?_
  rintro e w2 ⟨rfl,hc⟩
  replace HX:=hd_ (HX.out.trans hc (fun _ _ e=>e))
  clear hc HAN y0 y1 y2 y3
  go_wp2_with fail
  go_ret2
  exact ⟨by rw [HAW.out]; rfl,HX.out⟩
 | true =>
  replace HAW:=hd_ (show aw = awK x mac 32 from HAW.out)
  replace HAN:=hd_ (show Calls _ _ _ _ (fun e w'=>e = .returned (.tuple #[int .u64 mac, .bool true]) ∧ _) from HAN.out)
  go_wp2_with fail
  refine HAN.out.mono ?_
  rintro e w2 ⟨rfl,hc⟩
  replace HX:=hd_ (HX.out.trans hc (fun _ _ e=>e))
  replace HM:=hd_ (HM.out.new hc)
  clear hc HAN y0 y1 y2 y3
  have hrg:=HM.out.ab.range
  go_wp2_with (refine wpList_load_mid rfl 64 _ rfl a 2 rfl (rwL x.R) _ hrg un32_16 rfl (by rw [rwL_len]; exact sz288_16) ?_; clear hrg)
  have HIX:=hd_ (fun i hi W=>idx16 x.R i hi W)
  generalize hAR : (rwL x.R).toArray = AR at *
  clear hAR
  go_loopg [8,9,21] 32 (fun g s8 s9 i wr => ∃ (j : Nat),g = 32 - j ∧ j ≤ 32 ∧ i = int i64 (j : Int) ∧ Hid (awK x mac j = none) ∧ Hid (AM wr a ps q m D x) ∧ Hid (Chg (fun _=>False) w wr))
  case atStart=>exact ⟨0,rfl,by omega,rfl,hd_ rfl,HM,HX⟩
  case round =>
   clear HM HX
   obtain ⟨j,rfl,hj,rfl,HNO,HM,HX⟩:=hrel
   by_cases hlt : j < 32
   ·have hix:=HIX.out j hlt
    obtain ⟨po,ma,ow,ta,ol,ge,ph,ve,si,hv⟩:=rv_let16 (x.R j)
    rw [hv] at hix
    have HV:=hd_ hv
    replace hix : ∀ W,(Instr.index _ _ _).run _ W = .ok (.agg #[int i64 po,int .u64 ma,int i64 ow,int i64 ta,int i64 ol,int i64 ge,int i64 ph,int i64 ve,int i64 si]) W:=hix
    clear hv
    have hnew:=(Chg.refl (fun _=>False) wr).alloc (.cells #[int i64 po,int .u64 ma,int i64 ow,int i64 ta,int i64 ol,int i64 ge,int i64 ph,int i64 ve,int i64 si] 63)
    have HB5 : Hid (Blk (wr.alloc (.cells #[int i64 po,int .u64 ma,int i64 ow,int i64 ta,int i64 ol,int i64 ge,int i64 ph,int i64 ve,int i64 si] 63)) wr.heap.size 63 (rvC po ma ow ta ol ge ph ve si)):=hd_ (blk_new rfl)
    replace HM:=hd_ (HM.out.new hnew)
    replace HX:=hd_ (HX.out.trans hnew (fun _ _ e=>e))
    clear hnew
    go_upto_region 7 with fail
    generalize wr.alloc (.cells #[int i64 po,int .u64 ma,int i64 ow,int i64 ta,int i64 ol,int i64 ge,int i64 ph,int i64 ve,int i64 si] 63) = w3 at *
    generalize wr.heap.size = Q5 at *
    clear hix
    obtain ⟨y0,y1,y2,y3,y4,y5,y6,y7,y8⟩:=rv_cells HB5.out
    have hcom:=acomes_any HM.out po ma ow ta ol ge ph ve si
    have HBB:=hd_ (show awB x mac j = (comB x.c ph ta && ma == mac) from by unfold awB; rw [HV.out])
    have HYE:=hd_ (awK_yes (x:=x) (mac:=mac) HNO.out)
    have HNE:=hd_ (awK_no (x:=x) (mac:=mac) HNO.out)
    cases hcb : comB x.c ph ta with
    | false =>
     rw [hcb] at hcom HBB
     have HCOM:=hd_ hcom
     have HN2:=hd_ (HNE.out (by rw [HBB.out]; rfl))
     clear hcom hcb
     go_wp2_with fail
     refine HCOM.out.mono ?_
     rintro e w4 ⟨rfl,hc⟩
     replace HM:=hd_ (HM.out.new hc)
     replace HX:=hd_ (HX.out.trans hc (fun _ _ e=>e))
     clear hc y0 y1 y2 y3 y4 y5 y6 y7 y8
     go_wp2_with fail
     go_roundg (32 - (j + 1))
     case measure=>omega
     case rel=>exact ⟨j + 1,rfl,by omega,by go_num,HN2,HM,HX⟩
    | true =>
     rw [hcb] at hcom HBB
     have HCOM:=hd_ hcom
     clear hcom hcb
     by_cases hma : ma = mac
     ·have tm : (ma == mac) = true:=by simpa using hma
      have HN2:=hd_ (HYE.out (by rw [HBB.out,tm]; rfl) hlt)
      clear hma
      go_wp2_with fail
      refine HCOM.out.mono ?_
      rintro e w4 ⟨rfl,hc⟩
      replace HX:=hd_ (HX.out.trans hc (fun _ _ e=>e))
      replace HB5:=hd_ (HB5.out.chg hc id)
      clear hc y0 y1 y2 y3 y4 y5 y6 y7 y8
      obtain ⟨y0,y1,y2,y3,y4,y5,y6,y7,y8⟩:=rv_cells HB5.out
      go_wp2_with fail
      go_ret2
      exact ⟨by rw [HAW.out,HN2.out]; rfl,HX.out⟩
     ·have tm : (ma == mac) = false:=by simpa using hma
      have HN2:=hd_ (HNE.out (by rw [HBB.out,tm]; rfl))
      clear hma
      go_wp2_with fail
      refine HCOM.out.mono ?_
      rintro e w4 ⟨rfl,hc⟩
      replace HM:=hd_ (HM.out.new hc)
      replace HX:=hd_ (HX.out.trans hc (fun _ _ e=>e))
      replace HB5:=hd_ (HB5.out.chg hc id)
      clear hc y0 y1 y2 y3 y4 y5 y6 y7 y8
      obtain ⟨y0,y1,y2,y3,y4,y5,y6,y7,y8⟩:=rv_cells HB5.out
      go_wp2_with fail
      go_roundg (32 - (j + 1))
      case measure=>omega
      case rel=>exact ⟨j + 1,rfl,by omega,by go_num,HN2,HM,HX⟩
   ·have hj2 : j = 32:=by omega
    subst hj2
    go_wp2_with fail
    go_ret2
    exact ⟨by rw [HAW.out,HNO.out]; rfl,HX.out⟩
end Go.Proofs.YtfajcdobikjcdaaGreatDoor
