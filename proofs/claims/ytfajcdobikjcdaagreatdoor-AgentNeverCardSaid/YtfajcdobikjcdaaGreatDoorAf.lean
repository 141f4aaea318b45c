/-
  What always holds of an agent; walk: agent.settle. Conditions: the agent lies in memory.
-/
import Derived.Test.YtfajcdobikjcdaaGreatDoorAe
import Derived.Test.YtfajcdobikjcdaaGreatDoorAd
import Derived.Deep.LoopGhost
import Derived.Deep.MidRow
import Derived.Deep.RegionHeld3
import Derived.Deep.QuietTactic
import Derived.BigQuiet
set_option maxRecDepth 100000
set_option maxHeartbeats 40000000
set_option linter.unusedVariables false
set_option linter.unusedSimpArgs false
namespace Go.Proofs.YtfajcdobikjcdaaGreatDoor
open Go.Value (int)
open Go.IntKind (i64)
open Go.RowKit
structure SIn16 (j : Nat) (x : SV) : Prop where
 len : x.q.length ≤ 64
 bod : ∀ b ∈ x.q,1 ≤ b.length ∧ b.length ≤ 1000
 nx1 : 1 ≤ x.nx
 n : x.nx ≤ 1 + 64 * (j : Int)
 go0 : 0 ≤ x.go ∧ x.go ≤ 1099511627776
section
variable {j : Nat} {x : SV}
theorem SIn16.ok (h : SIn16 j x) (hj : j ≤ 1000000) : SOk x:=⟨h.len,h.bod,by have:=h.nx1; have:=h.n; omega,h.go0⟩
theorem SIn16.le (h : SIn16 j x) {k : Nat} (hk : j ≤ k) : SIn16 k x:=⟨h.len,h.bod,h.nx1,by have:=h.n; omega,h.go0⟩
theorem SIn16.push (h : SIn16 j x) (b : List UInt8) : SIn16 j (pushS x b):=by
 unfold pushS
 split
 case isFalse=>exact h
 case isTrue he =>
  unfold pushE at he
  split at he
  case isFalse=>omega
  case isTrue hb =>
   split at he
   case isTrue=>omega
   case isFalse h64 =>
    have hb2 : 1 ≤ b.length ∧ b.length ≤ 1000:=by
     unfold withinB at hb
     simp at hb
     omega
    refine ⟨by have:=h.len; simp; omega,fun c hc => ?_,h.nx1,h.n,h.go0⟩
    rcases List.mem_append.1 hc with hc | hc
    ·exact h.bod c hc
    ·rw [List.mem_singleton.1 hc]; exact hb2
theorem SIn16.ack (h : SIn16 j x) (a : Int) : SIn16 (j + 1) (ackS x a):=by
 have hk : ackK x.nx a x.q.length ≤ x.q.length:=Nat.min_le_left _ _
 have hl:=h.len
 refine ⟨?_,fun b hb=>h.bod b (List.mem_of_mem_drop hb), ?_, ?_,h.go0⟩
 ·show (x.q.drop _).length ≤ 64
  rw [List.length_drop]
  omega
 ·show 1 ≤ x.nx + _
  have:=h.nx1
  omega
 ·show x.nx + _ ≤ _
  have:=h.n
  omega
theorem SIn16.new (m p : Int) : SIn16 0 ⟨m,p,1,0, []⟩:=⟨by simp,fun b hb=>by simp at hb,by show (1 : Int) ≤ 1; omega,by show (1 : Int) ≤ 1 + 64 * ((0 : Nat) : Int); omega,by show (0 : Int) ≤ 0 ∧ (0 : Int) ≤ 1099511627776; omega⟩
theorem SIn16.s1 (h : SIn16 j x) (l : LV) : SIn16 j (tkS1 x l):=by
 unfold tkS1
 split
 ·exact (SIn16.new _ _).le (by omega)
 ·exact h
theorem SIn16.take (h : SIn16 j x) (l : LV) : SIn16 (j + 1) (tkS x l):=by
 have h2 : SIn16 (j + 1) (tkS2 x l):=by
  unfold tkS2
  split
  ·exact (h.s1 l).ack _
  ·exact (h.s1 l).le (by omega)
 unfold tkS
 split
 case isFalse=>exact h.le (by omega)
 case isTrue hok =>
  split
  ·unfold tkOk at hok
   rw [Bool.and_eq_true] at hok
   have hs:=(ltR_parts hok.1).2.2.2.1
   exact ⟨h2.len,h2.bod,h2.nx1,h2.n,hs⟩
  ·exact h2
end
structure AOk (j : Nat) (x : AV) : Prop where
 c0 : 0 ≤ x.c ∧ x.c ≤ 15
 s : SIn16 j x.s
 lf : 1 ≤ x.life ∧ x.life ≤ 2147483648
 fl : x.fl.length ≤ 16
 rn : ∀ r ∈ x.fl,RcN r
 rw : ∀ i,i < 32 → x.R i = z9 ∨ ((x.R i).ok = true ∧ (x.R i).po = (i : Int))
theorem AOk.le {j k : Nat} {x : AV} (h : AOk j x) (hk : j ≤ k) : AOk k x:=⟨h.c0,h.s.le hk,h.lf,h.fl,h.rn,h.rw⟩
def Up16 (x y : AV) : Prop:=x.c = y.c ∧ ∀ i,i < 32 → x.R i = y.R i ∨ (x.R i).ve < (y.R i).ve
theorem Up16.refl (x : AV) : Up16 x x:=⟨rfl,fun _ _ => .inl rfl⟩
theorem Up16.trans {x y z : AV} (h : Up16 x y) (k : Up16 y z) : Up16 x z:=⟨h.1.trans k.1,fun i hi=>by
 rcases h.2 i hi with e | e
 ·rw [e]; exact k.2 i hi
 ·rcases k.2 i hi with e2 | e2
  ·right; rw [← e2]; exact e
  ·right; omega⟩
structure Set16 (x y : AV) : Prop where
 c : y.c = x.c
 R : y.R = x.R
 life : y.life = x.life
 fl : y.fl = x.fl
theorem Set16.refl (x : AV) : Set16 x x:=⟨rfl,rfl,rfl,rfl⟩
theorem Set16.trans {x y z : AV} (h : Set16 x y) (k : Set16 y z) : Set16 x z:=⟨k.c.trans h.c,k.R.trans h.R,k.life.trans h.life,k.fl.trans h.fl⟩
theorem AOk.set {j : Nat} {x y : AV} (h : AOk j x) (k : Set16 x y) (hs : SIn16 j y.s) : AOk j y:=⟨by rw [k.c]; exact h.c0,hs,by rw [k.life]; exact h.lf,by rw [k.fl]; exact h.fl,by rw [k.fl]; exact h.rn,by rw [k.R]; exact h.rw⟩
theorem tell_set (x : AV) (kd po ve : Int) (l : List Rc) : Set16 x (tell16 x kd po ve l):=by
 unfold tell16
 split
 ·exact Set16.refl x
 ·split
  ·exact ⟨rfl,rfl,rfl,rfl⟩
  ·exact Set16.refl x
theorem tell_sin {j : Nat} {x : AV} (h : SIn16 j x.s) (kd po ve : Int) (l : List Rc) : SIn16 j (tell16 x kd po ve l).s:=by
 unfold tell16
 split
 ·exact h
 ·split
  ·exact h.push _
  ·exact h
def setW16 (x : AV) (i : Nat) : AV:=if (x.V i == (x.R i).ve) && comB x.c (x.R i).ph (x.R i).ta then tell16 x 2 (i : Int) (x.R i).ve [] else { x with V:=at16 x.V i 0 }
theorem setW_yes {x : AV} {i : Nat} (h : ((x.V i == (x.R i).ve) && comB x.c (x.R i).ph (x.R i).ta) = true) : setW16 x i = tell16 x 2 (i : Int) (x.R i).ve []:=if_pos h
theorem setW_no {x : AV} {i : Nat} (h : ((x.V i == (x.R i).ve) && comB x.c (x.R i).ph (x.R i).ta) = false) : setW16 x i = { x with V:=at16 x.V i 0 }:=by unfold setW16; rw [h]; rfl
def setD16 (x : AV) (i : Nat) (now : Int) : AV:=if wenB x.c (x.R i).ph (x.R i).ol then tell16 x 3 (i : Int) (x.R i).ve (ex12 now x.fl) else x
theorem setD_yes {x : AV} {i : Nat} {now : Int} (h : wenB x.c (x.R i).ph (x.R i).ol = true) : setD16 x i now = tell16 x 3 (i : Int) (x.R i).ve (ex12 now x.fl):=if_pos h
theorem setD_no {x : AV} {i : Nat} {now : Int} (h : wenB x.c (x.R i).ph (x.R i).ol = false) : setD16 x i now = x:=by unfold setD16; rw [h]; rfl
def set16 (now : Int) (x : AV) (i : Nat) : AV:=setD16 (setW16 x i) i now
def setK16 (x : AV) (now : Int) (k : Nat) : AV:=(List.range k).foldl (set16 now) x
def settle16 (x : AV) (now : Int) : AV:=setK16 x now 32
theorem setK_succ (x : AV) (now : Int) (k : Nat) : setK16 x now (k + 1) = set16 now (setK16 x now k) k:=by
 unfold setK16
 rw [List.range_succ,List.foldl_append]
 rfl
theorem setW_set (x : AV) (i : Nat) : Set16 x (setW16 x i):=by
 unfold setW16
 split
 ·exact tell_set _ _ _ _ _
 ·exact ⟨rfl,rfl,rfl,rfl⟩
theorem setD_set (x : AV) (i : Nat) (now : Int) : Set16 x (setD16 x i now):=by
 unfold setD16
 split
 ·exact tell_set _ _ _ _ _
 ·exact Set16.refl x
theorem setW_sin {j : Nat} {x : AV} (h : SIn16 j x.s) (i : Nat) : SIn16 j (setW16 x i).s:=by
 unfold setW16
 split
 ·exact tell_sin h _ _ _ _
 ·exact h
theorem setD_sin {j : Nat} {x : AV} (h : SIn16 j x.s) (i : Nat) (now : Int) : SIn16 j (setD16 x i now).s:=by
 unfold setD16
 split
 ·exact tell_sin h _ _ _ _
 ·exact h
theorem setK_set (x : AV) (now : Int) : ∀ k,Set16 x (setK16 x now k)
 | 0=>Set16.refl x
 | k + 1=>by rw [setK_succ]; exact ((setK_set x now k).trans (setW_set _ _)).trans (setD_set _ _ _)
theorem setK_sin {j : Nat} {x : AV} (h : SIn16 j x.s) (now : Int) : ∀ k,SIn16 j (setK16 x now k).s
 | 0=>h
 | k + 1=>by rw [setK_succ]; exact setD_sin (setW_sin (setK_sin h now k) _) _ _
theorem AOk.settle {j : Nat} {x : AV} (h : AOk j x) (now : Int) : AOk j (settle16 x now):=h.set (setK_set x now 32) (setK_sin h.s now 32)
theorem settle_up (x : AV) (now : Int) : Up16 x (settle16 x now):=⟨(setK_set x now 32).c.symm,fun i _ => .inl (by rw [show (settle16 x now).R = x.R from (setK_set x now 32).R])⟩
theorem un32_16 : Tryz.prog.underlying 64 = some (.array 32 63):=by kernel_rfl
theorem sz288_16 : (Tryz.prog.info? 64).map (·.size) = some 288:=by kernel_rfl
theorem ex12_mem {t : Int} {l : List Rc} {r : Rc} (h : r ∈ ex12 t l) : r ∈ l:=(List.mem_filter.1 h).1
theorem AM.tn {w : World} {a ps q m : Nat} {D : Nat → Prop} {x : AV} (h : AM w a ps q m D x) : ∃ oq,TN 106 w q oq x.life x.fl:=by
 obtain ⟨o,oq,_,h⟩:=h
 exact ⟨oq,h.tn⟩
theorem isAgg16 (w : World) : (isAgg 63).run Tryz.prog w = .ok true w:=by kernel_rfl
theorem szRow16 (w : World) : (sizeOf 63).run Tryz.prog w = .ok 9 w:=by kernel_rfl
theorem idx16 (R : Nat → RV) (i : Nat) (hi : i < 32) (w : World) : (Instr.index 64 (.agg (rwL R).toArray) (int i64 (i : Int))).run Tryz.prog w = .ok (.agg (R i).cs) w:=by
 have e : (rwL R).toArray.extract (i * 9) (i * 9 + 9) = (R i).cs:=by
  apply Array.ext_getElem?
  intro k
  rw [Array.getElem?_extract]
  by_cases hk : k < 9
  ·rw [if_pos (by simp [rwL_len]; omega),List.getElem?_toArray,rwL_at R hi hk]
  ·rw [if_neg (by simp [rwL_len]; omega),Array.getElem?_eq_none (by show 9 ≤ k; omega)]
 have hb : (0 : Int) ≤ (i : Int) ∧ (i : Int) < ((32 : Nat) : Int):=by omega
 simp only [Instr.index,asIntOf,Sem.run_bind,Sem.run_pure,Result.andThen_ok,run_underlying un32_16,hb,and_self,if_true,part,isAgg16,szRow16,Int.toNat_natCast,e]
theorem asettle_any {w : World} {a ps q m : Nat} {D : Nat → Prop} {x : AV} {n0 : Nat} (h : AM w a ps q m D x) (hok : AOk n0 x) (now : Int) : Calls Tryz.prog 29 #[.pointer (some ⟨a,0,none⟩),int i64 now] w fun e w'=>e = .returned (.tuple #[]) ∧ AMv a ps q m D (settle16 x now) w w':=by
 have HM0:=hd_ h
 have HOK:=hd_ hok
 have hrg:=h.ab.range
 have hc2 : w.cell? ⟨a,2,none⟩ ≠ none:=by have:=h.ab.cR (i:=0) (j:=0) (by decide) (by decide); rw [show 2 + (0 * 9 + 0) = 2 from rfl] at this; rw [this]; simp [RV.cs,rvC]
 clear h hok
 go_enter Tryz.func29,Tryz.ntmps29
 go_wp2_with (refine wpList_load_mid rfl 64 _ rfl a 2 rfl (rwL x.R) _ hrg un32_16 rfl (by rw [rwL_len]; exact sz288_16) ?_; clear hrg hc2)
 have HIX:=hd_ (fun i hi W=>idx16 x.R i hi W)
 generalize hAR : (rwL x.R).toArray = AR at *
 clear hAR
 go_loopg [4,5,10] 32 (fun g s4 s5 i wr => ∃ (j : Nat) (D1 : Nat → Prop),g = 32 - j ∧ j ≤ 32 ∧ i = int i64 (j : Int) ∧ Hid (AM wr a ps q m D1 (setK16 x now j)) ∧ Hid (Mv16 D D1 w wr))
 case atStart=>exact ⟨0,D,rfl,by omega,rfl,HM0,hd_ (Mv16.refl D w)⟩
 case round =>
  obtain ⟨j,D1,rfl,hj,rfl,HM,HX⟩:=hrel
  by_cases hlt : j < 32
  ·have hst:=setK_set x now j
   have HS1:=hd_ (setK_sin HOK.out.s now j)
   have HSU:=hd_ (setK_succ x now j)
   have HFL:=hd_ (show (setK16 x now j).fl = x.fl from hst.fl)
   have HRR:=hd_ (show (setK16 x now j).R = x.R from hst.R)
   have HCC:=hd_ (show (setK16 x now j).c = x.c from hst.c)
   generalize setK16 x now j = y at *
   clear hst
   have hix:=HIX.out j hlt
   obtain ⟨po,ma,ow,ta,ol,ge,ph,ve,si,hv⟩:=rv_let16 (x.R j)
   rw [hv] at hix
   have HV:=hd_ (show y.R j = ⟨po,ma,ow,ta,ol,ge,ph,ve,si⟩ from by rw [HRR.out]; exact hv)
   replace hix : ∀ W,(Instr.index _ _ _).run _ W = .ok (.agg #[int i64 po,int .u64 ma,int i64 ow,int i64 ta,int i64 ol,int i64 ge,int i64 ph,int i64 ve,int i64 si]) W:=hix
   have hab:=HM.out.ab
   obtain ⟨vj,hvj⟩ : ∃ v,y.V j = v:=⟨_,rfl⟩
   have HVJ:=hd_ hvj
   clear hv
   have hnew:=(Chg.refl (fun _=>False) wr).alloc (.cells #[int i64 po,int .u64 ma,int i64 ow,int i64 ta,int i64 ol,int i64 ge,int i64 ph,int i64 ve,int i64 si] 63)
   have HB5 : Hid (Blk (wr.alloc (.cells #[int i64 po,int .u64 ma,int i64 ow,int i64 ta,int i64 ol,int i64 ge,int i64 ph,int i64 ve,int i64 si] 63)) wr.heap.size 63 (rvC po ma ow ta ol ge ph ve si)):=hd_ (blk_new rfl)
   have HQ5 : Hid (∀ k,D1 k → ¬ k = wr.heap.size):=hd_ (fun k e h=>by have:=HM.out.lt k e; omega)
   replace HM:=hd_ (HM.out.new hnew)
   replace HX:=hd_ (HX.out.trans (Mv16.of hnew))
   clear hnew hab hvj
   go_upto_region 3 with fail
   generalize wr.alloc (.cells #[int i64 po,int .u64 ma,int i64 ow,int i64 ta,int i64 ol,int i64 ge,int i64 ph,int i64 ve,int i64 si] 63) = w3 at *
   generalize wr.heap.size = Q5 at *
   clear hix
   have hw:=HM.out.ab.wait hlt
   rw [HVJ.out] at hw
   obtain ⟨y0,y1,y2,y3,y4,y5,y6,y7,y8⟩:=rv_cells HB5.out
   have hcom:=fun W (hW : Chg (fun _=>False) w3 W)=>acomes_any (HM.out.new hW) po ma ow ta ol ge ph ve si
   have HCOM:=hd_ hcom
   clear hcom
   have HNQ : Hid (Q5 < w3.heap.size):=hd_ HB5.out.lt
   by_cases hve : vj = ve
   ·have tv : (vj != ve) = false:=by simpa using hve
    have HVE:=hd_ hve
    clear hve
    cases hcb : comB y.c ph ta with
    | false =>
     have HZ:=hd_ (setW_no (x:=y) (i:=j) (by rw [HV.out]; simp [hcb]))
     rw [hcb] at HCOM
     have HCB:=hd_ hcb
     clear hcb
     have HKEEP : Hid (∀ W : World,Chg (fun _=>False) w3 W → (W.cell? ⟨Q5,0,none⟩ = some (int i64 po) ∧ W.cell? ⟨Q5,1,none⟩ = some (int .u64 ma) ∧ W.cell? ⟨Q5,2,none⟩ = some (int i64 ow) ∧ W.cell? ⟨Q5,3,none⟩ = some (int i64 ta) ∧ W.cell? ⟨Q5,4,none⟩ = some (int i64 ol) ∧ W.cell? ⟨Q5,5,none⟩ = some (int i64 ge) ∧ W.cell? ⟨Q5,6,none⟩ = some (int i64 ph) ∧ W.cell? ⟨Q5,7,none⟩ = some (int i64 ve) ∧ W.cell? ⟨Q5,8,none⟩ = some (int i64 si) ∧ W.cell? ⟨a,290 + j,none⟩ = some (int i64 vj))):=hd_ (fun W hW=>by
      obtain ⟨y0,y1,y2,y3,y4,y5,y6,y7,y8⟩:=rv_cells (HB5.out.chg hW id)
      have hw:=(HM.out.new hW).ab.wait hlt
      rw [HVJ.out] at hw
      exact ⟨y0,y1,y2,y3,y4,y5,y6,y7,y8,hw⟩)
     have HXA:=hd_ (Chg.refl (fun _=>False) w3).drew
     obtain ⟨y0,y1,y2,y3,y4,y5,y6,y7,y8,hw⟩:=HKEEP.out _ HXA.out
     go_region_held3 (fun w'=>(w'.cell? ⟨Q5,0,none⟩ = some (int i64 po) ∧ w'.cell? ⟨Q5,1,none⟩ = some (int .u64 ma) ∧ w'.cell? ⟨Q5,2,none⟩ = some (int i64 ow) ∧ w'.cell? ⟨Q5,3,none⟩ = some (int i64 ta) ∧ w'.cell? ⟨Q5,4,none⟩ = some (int i64 ol) ∧ w'.cell? ⟨Q5,5,none⟩ = some (int i64 ge) ∧ w'.cell? ⟨Q5,6,none⟩ = some (int i64 ph) ∧ w'.cell? ⟨Q5,7,none⟩ = some (int i64 ve) ∧ w'.cell? ⟨Q5,8,none⟩ = some (int i64 si) ∧ w'.cell? ⟨a,290 + j,none⟩ = some (int i64 vj)))
      (first | with_reducible exact HKEEP.out _ HXA.out | with_reducible exact HKEEP.out _ HXB.out | fail)
      (first
       | (go_at_call 58; (with_reducible refine (HCOM.out _ HXA.out).mono ?_); rintro e wb ⟨rfl,hc⟩; have HXB:=hd_ (HXA.out.trans hc (fun _ _ e=>e)); clear hc)
       | fail)
     clear y0 y1 y2 y3 y4 y5 y6 y7 y8 hw HKEEP HXA
     replace HM:=hd_ (HM.out.new HXB.out)
     replace HX:=hd_ (HX.out.trans (Mv16.of HXB.out))
     replace HB5:=hd_ (HB5.out.chg HXB.out id)
     replace HNQ:=hd_ (show Q5 < wb.heap.size from by have:=HXB.out.size; have:=HNQ.out; omega)
     have hw:=HM.out.ab.wait hlt
     rw [HVJ.out] at hw
     have hfz:=HM.out.ab.free (290 + j)
     have hcs:=(Chg.refl (fun k=>k = a) wb).put a (290 + j) (fun _=>rfl) (int i64 0)
     have HM2:=hd_ (HM.out.own hcs (y := { y with V:=at16 y.V j 0 }) (HM.out.ab.setW hlt 0) rfl rfl rfl rfl)
     replace HB5:=hd_ (HB5.out.chg hcs (fun e=>HQ5.out _ HM.out.own_ne e.symm))
     clear hcs
     go_upto_region 6 with fail
     generalize wb.setCell ⟨a,290 + j,none⟩ (int i64 0) = wc at *
     clear hw hfz
     have HXZ:=hd_ (HX.out.trans HM2.out.2)
     have HMZ:=hd_ HM2.out.1
     have HQZ:=HQ5
     obtain ⟨z,hzz⟩ : ∃ z : AV,({ y with V:=at16 y.V j 0 } : AV) = z:=⟨_,rfl⟩
     rw [hzz] at HZ HMZ
     clear hzz
     have hzs:=setW_set y j
     have HSZ:=hd_ (setW_sin HS1.out j)
     rw [HZ.out] at hzs HSZ
     have HZR:=hd_ (show z.R j = (⟨po,ma,ow,ta,ol,ge,ph,ve,si⟩ : RV) from (congrFun hzs.R j).trans HV.out)
     have HSET:=hd_ (show set16 now y j = setD16 z j now from by unfold set16; rw [HZ.out])
     have HFZ:=hd_ (hzs.fl.trans HFL.out)
     replace HM:=HMZ
     replace HX:=HXZ
     clear hzs HMZ HXZ HZ
     obtain ⟨y0,y1,y2,y3,y4,y5,y6,y7,y8⟩:=rv_cells HB5.out
     have hwn:=awent_any HM.out po ma ow ta ol ge ph ve si
     cases hwb : wenB z.c ph ol with
     | false =>
      rw [hwb] at hwn
      have HWN:=hd_ hwn
      have HD:=hd_ (setD_no (x:=z) (i:=j) (now:=now) (by rw [HZR.out]; exact hwb))
      clear hwn hwb
      go_wp2_with fail
      refine HWN.out.mono ?_
      rintro e wd ⟨rfl,hc⟩
      replace HM:=hd_ (HM.out.new hc)
      replace HX:=hd_ (HX.out.trans (Mv16.of hc))
      clear hc y0 y1 y2 y3 y4 y5 y6 y7 y8
      go_wp2_with fail
      go_roundg (32 - (j + 1))
      case measure=>omega
      case rel=>exact ⟨j + 1,_,rfl,by omega,by go_num,hd_ (by rw [HSU.out,HSET.out,HD.out]; exact HM.out),HX⟩
     | true =>
      rw [hwb] at hwn
      have HWN:=hd_ hwn
      have HD:=hd_ (setD_yes (x:=z) (i:=j) (now:=now) (by rw [HZR.out]; exact hwb))
      replace HD:=hd_ (show setD16 z j now = tell16 z 3 (j : Int) ve (ex12 now z.fl) from by have:=HD.out; rw [HZR.out] at this; exact this)
      clear hwn hwb
      go_wp2_with fail
      refine HWN.out.mono ?_
      rintro e wd ⟨rfl,hc⟩
      replace HM:=hd_ (HM.out.new hc)
      replace HX:=hd_ (HX.out.trans (Mv16.of hc))
      replace HB5:=hd_ (HB5.out.chg hc id)
      have HNQ:=hd_ HB5.out.lt
      clear hc y0 y1 y2 y3 y4 y5 y6 y7 y8
      have HF16:=hd_ (show z.fl.length ≤ 16 from by rw [HFZ.out]; exact HOK.out.fl)
      have HREC:=hd_ (show ∀ W,Chg (fun _=>False) wd W → Calls _ _ _ W (RecP12 (ex12 now z.fl) W) from fun W hW=>by
       obtain ⟨oz,ht⟩:=(HM.out.new hW).tn
       exact trecords_any ht HF16.out now)
      have htl:=fun W (hW : Chg (fun _=>False) wd W) (E : Option Addr) (k d base : Nat) (hk : k = (ex12 now z.fl).length) (ho : W.ownsRow base 131 6 (.slice E k d) k (rcF (ex12 now z.fl)))=>atell_any (HM.out.new hW) HSZ.out.len 3 (j : Int) ve E k d (ex12 now z.fl) _ (own_rcr ho hk) (by have:=ex12_len (t:=now) HF16.out; omega) (fun r hr=>HOK.out.rn r (by have:=ex12_mem hr; rw [HFZ.out] at this; exact this))
      unfold msC at htl
      have HTL:=hd_ htl
      clear htl
      have HKEEP : Hid (∀ W : World,Chg (fun _=>False) wd W → (W.cell? ⟨Q5,7,none⟩ = some (int i64 ve) ∧ W.cell? ⟨a,322,none⟩ = some (.pointer (some ⟨q,0,none⟩)))):=hd_ (fun W hW=>⟨(rv_cells (HB5.out.chg hW id)).2.2.2.2.2.2.2.1,(HM.out.new hW).ab.c322⟩)
      have HXA:=hd_ (Chg.refl (fun _=>False) wd).drew
      go_wp2_with fail
      obtain ⟨y7,c322⟩:=HKEEP.out _ HXA.out
      go_region_held3 (fun w'=>(w'.cell? ⟨Q5,7,none⟩ = some (int i64 ve) ∧ w'.cell? ⟨a,322,none⟩ = some (.pointer (some ⟨q,0,none⟩))))
       (first | with_reducible exact HKEEP.out _ HXA.out | with_reducible exact HKEEP.out _ HXB.out | with_reducible exact HSD.out | fail)
       (first
        | (go_at_call 61; (with_reducible refine (HREC.out _ HXA.out).mono ?_); rintro e we ⟨E,k,d,rfl,hk,hown,hc⟩; have HXB:=hd_ (HXA.out.trans hc (fun _ _ e=>e)); have HKE:=hd_ hk; have HOW:=hd_ hown; clear hk hown hc)
        | (go_at_call 59; (with_reducible refine (HTL.out _ HXB.out E k d _ HKE.out HOW.out).mono ?_); rintro e wf ⟨rfl,D3,hM3,hmv3⟩; have HMF:=hd_ hM3; have HVF:=hd_ ((Mv16.of HXB.out).trans hmv3); have HSD : Hid (wf.cell? ⟨Q5,7,none⟩ = some (int i64 ve) ∧ wf.cell? ⟨a,322,none⟩ = some (.pointer (some ⟨q,0,none⟩))):=hd_ ⟨(rv_cells (HB5.out.chg HVF.out.1 (fun e=>HQZ.out _ e rfl))).2.2.2.2.2.2.2.1,hM3.ab.c322⟩; clear hM3 hmv3)
        | fail)
      all_goals
       go_wp2_with fail
       go_roundg (32 - (j + 1))
       case measure=>omega
       case rel=>exact ⟨j + 1,_,rfl,by omega,by go_num,hd_ (by rw [HSU.out,HSET.out,HD.out]; exact HMF.out),hd_ (HX.out.trans HVF.out)⟩
    | true =>
     have HZ:=hd_ (setW_yes (x:=y) (i:=j) (by rw [HV.out,HVJ.out,HVE.out]; simp [hcb]))
     replace HZ:=hd_ (show setW16 y j = tell16 y 2 (j : Int) ve [] from by have:=HZ.out; rw [HV.out] at this; exact this)
     rw [hcb] at HCOM
     have HCB:=hd_ hcb
     clear hcb
     have HKEEP : Hid (∀ W : World,Chg (fun _=>False) w3 W → (W.cell? ⟨Q5,0,none⟩ = some (int i64 po) ∧ W.cell? ⟨Q5,1,none⟩ = some (int .u64 ma) ∧ W.cell? ⟨Q5,2,none⟩ = some (int i64 ow) ∧ W.cell? ⟨Q5,3,none⟩ = some (int i64 ta) ∧ W.cell? ⟨Q5,4,none⟩ = some (int i64 ol) ∧ W.cell? ⟨Q5,5,none⟩ = some (int i64 ge) ∧ W.cell? ⟨Q5,6,none⟩ = some (int i64 ph) ∧ W.cell? ⟨Q5,7,none⟩ = some (int i64 ve) ∧ W.cell? ⟨Q5,8,none⟩ = some (int i64 si) ∧ W.cell? ⟨a,290 + j,none⟩ = some (int i64 vj))):=hd_ (fun W hW=>by
      obtain ⟨y0,y1,y2,y3,y4,y5,y6,y7,y8⟩:=rv_cells (HB5.out.chg hW id)
      have hw:=(HM.out.new hW).ab.wait hlt
      rw [HVJ.out] at hw
      exact ⟨y0,y1,y2,y3,y4,y5,y6,y7,y8,hw⟩)
     have HXA:=hd_ (Chg.refl (fun _=>False) w3).drew
     obtain ⟨y0,y1,y2,y3,y4,y5,y6,y7,y8,hw⟩:=HKEEP.out _ HXA.out
     go_region_held3 (fun w'=>(w'.cell? ⟨Q5,0,none⟩ = some (int i64 po) ∧ w'.cell? ⟨Q5,1,none⟩ = some (int .u64 ma) ∧ w'.cell? ⟨Q5,2,none⟩ = some (int i64 ow) ∧ w'.cell? ⟨Q5,3,none⟩ = some (int i64 ta) ∧ w'.cell? ⟨Q5,4,none⟩ = some (int i64 ol) ∧ w'.cell? ⟨Q5,5,none⟩ = some (int i64 ge) ∧ w'.cell? ⟨Q5,6,none⟩ = some (int i64 ph) ∧ w'.cell? ⟨Q5,7,none⟩ = some (int i64 ve) ∧ w'.cell? ⟨Q5,8,none⟩ = some (int i64 si) ∧ w'.cell? ⟨a,290 + j,none⟩ = some (int i64 vj)))
      (first | with_reducible exact HKEEP.out _ HXA.out | with_reducible exact HKEEP.out _ HXB.out | fail)
      (first
       | (go_at_call 58; (with_reducible refine (HCOM.out _ HXA.out).mono ?_); rintro e wb ⟨rfl,hc⟩; have HXB:=hd_ (HXA.out.trans hc (fun _ _ e=>e)); clear hc)
       | fail)
     clear y0 y1 y2 y3 y4 y5 y6 y7 y8 hw HKEEP HXA
     replace HM:=hd_ (HM.out.new HXB.out)
     replace HX:=hd_ (HX.out.trans (Mv16.of HXB.out))
     replace HB5:=hd_ (HB5.out.chg HXB.out id)
     replace HNQ:=hd_ (show Q5 < wb.heap.size from by have:=HXB.out.size; have:=HNQ.out; omega)
     obtain ⟨y0,y1,y2,y3,y4,y5,y6,y7,y8⟩:=rv_cells HB5.out
     have htl:=atell_any HM.out HS1.out.len 2 (j : Int) ve none 0 0 [] (fun _=>True) (RcR.nil _ _ _) (by omega) (fun r hr=>by simp at hr)
     unfold msC at htl
     have HTL:=hd_ htl
     clear htl
     go_wp2_with fail
     refine HTL.out.mono ?_
     rintro e wc ⟨rfl,D2,hM2,hmv⟩
     have HQZ : Hid (∀ k,D2 k → ¬ k = Q5):=hd_ (fun k e h=>by
      rcases hmv.2 k e with e | e
      ·exact HQ5.out k e h
      ·have:=HNQ.out; omega)
     replace HB5:=hd_ (HB5.out.chg hmv.1 (fun e=>HQ5.out _ e rfl))
     have HXZ:=hd_ (HX.out.trans hmv)
     have HMZ:=hd_ hM2
     clear hM2 hmv HTL y0 y1 y2 y3 y4 y5 y6 y7 y8
     obtain ⟨z,hzz⟩ : ∃ z : AV,tell16 y 2 (j : Int) ve [] = z:=⟨_,rfl⟩
     rw [hzz] at HZ HMZ
     clear hzz
     have hzs:=setW_set y j
     have HSZ:=hd_ (setW_sin HS1.out j)
     rw [HZ.out] at hzs HSZ
     have HZR:=hd_ (show z.R j = (⟨po,ma,ow,ta,ol,ge,ph,ve,si⟩ : RV) from (congrFun hzs.R j).trans HV.out)
     have HSET:=hd_ (show set16 now y j = setD16 z j now from by unfold set16; rw [HZ.out])
     have HFZ:=hd_ (hzs.fl.trans HFL.out)
     replace HM:=HMZ
     replace HX:=HXZ
     clear hzs HMZ HXZ HZ
     obtain ⟨y0,y1,y2,y3,y4,y5,y6,y7,y8⟩:=rv_cells HB5.out
     have hwn:=awent_any HM.out po ma ow ta ol ge ph ve si
     cases hwb : wenB z.c ph ol with
     | false =>
      rw [hwb] at hwn
      have HWN:=hd_ hwn
      have HD:=hd_ (setD_no (x:=z) (i:=j) (now:=now) (by rw [HZR.out]; exact hwb))
      clear hwn hwb
      go_wp2_with fail
      refine HWN.out.mono ?_
      rintro e wd ⟨rfl,hc⟩
      replace HM:=hd_ (HM.out.new hc)
      replace HX:=hd_ (HX.out.trans (Mv16.of hc))
      clear hc y0 y1 y2 y3 y4 y5 y6 y7 y8
      go_wp2_with fail
      go_roundg (32 - (j + 1))
      case measure=>omega
      case rel=>exact ⟨j + 1,_,rfl,by omega,by go_num,hd_ (by rw [HSU.out,HSET.out,HD.out]; exact HM.out),HX⟩
     | true =>
      rw [hwb] at hwn
      have HWN:=hd_ hwn
      have HD:=hd_ (setD_yes (x:=z) (i:=j) (now:=now) (by rw [HZR.out]; exact hwb))
      replace HD:=hd_ (show setD16 z j now = tell16 z 3 (j : Int) ve (ex12 now z.fl) from by have:=HD.out; rw [HZR.out] at this; exact this)
      clear hwn hwb
      go_wp2_with fail
      refine HWN.out.mono ?_
      rintro e wd ⟨rfl,hc⟩
      replace HM:=hd_ (HM.out.new hc)
      replace HX:=hd_ (HX.out.trans (Mv16.of hc))
      replace HB5:=hd_ (HB5.out.chg hc id)
      have HNQ:=hd_ HB5.out.lt
      clear hc y0 y1 y2 y3 y4 y5 y6 y7 y8
      have HF16:=hd_ (show z.fl.length ≤ 16 from by rw [HFZ.out]; exact HOK.out.fl)
      have HREC:=hd_ (show ∀ W,Chg (fun _=>False) wd W → Calls _ _ _ W (RecP12 (ex12 now z.fl) W) from fun W hW=>by
       obtain ⟨oz,ht⟩:=(HM.out.new hW).tn
       exact trecords_any ht HF16.out now)
      have htl:=fun W (hW : Chg (fun _=>False) wd W) (E : Option Addr) (k d base : Nat) (hk : k = (ex12 now z.fl).length) (ho : W.ownsRow base 131 6 (.slice E k d) k (rcF (ex12 now z.fl)))=>atell_any (HM.out.new hW) HSZ.out.len 3 (j : Int) ve E k d (ex12 now z.fl) _ (own_rcr ho hk) (by have:=ex12_len (t:=now) HF16.out; omega) (fun r hr=>HOK.out.rn r (by have:=ex12_mem hr; rw [HFZ.out] at this; exact this))
      unfold msC at htl
      have HTL:=hd_ htl
      clear htl
      have HKEEP : Hid (∀ W : World,Chg (fun _=>False) wd W → (W.cell? ⟨Q5,7,none⟩ = some (int i64 ve) ∧ W.cell? ⟨a,322,none⟩ = some (.pointer (some ⟨q,0,none⟩)))):=hd_ (fun W hW=>⟨(rv_cells (HB5.out.chg hW id)).2.2.2.2.2.2.2.1,(HM.out.new hW).ab.c322⟩)
      have HXA:=hd_ (Chg.refl (fun _=>False) wd).drew
      go_wp2_with fail
      obtain ⟨y7,c322⟩:=HKEEP.out _ HXA.out
      go_region_held3 (fun w'=>(w'.cell? ⟨Q5,7,none⟩ = some (int i64 ve) ∧ w'.cell? ⟨a,322,none⟩ = some (.pointer (some ⟨q,0,none⟩))))
       (first | with_reducible exact HKEEP.out _ HXA.out | with_reducible exact HKEEP.out _ HXB.out | with_reducible exact HSD.out | fail)
       (first
        | (go_at_call 61; (with_reducible refine (HREC.out _ HXA.out).mono ?_); rintro e we ⟨E,k,d,rfl,hk,hown,hc⟩; have HXB:=hd_ (HXA.out.trans hc (fun _ _ e=>e)); have HKE:=hd_ hk; have HOW:=hd_ hown; clear hk hown hc)
        | (go_at_call 59; (with_reducible refine (HTL.out _ HXB.out E k d _ HKE.out HOW.out).mono ?_); rintro e wf ⟨rfl,D3,hM3,hmv3⟩; have HMF:=hd_ hM3; have HVF:=hd_ ((Mv16.of HXB.out).trans hmv3); have HSD : Hid (wf.cell? ⟨Q5,7,none⟩ = some (int i64 ve) ∧ wf.cell? ⟨a,322,none⟩ = some (.pointer (some ⟨q,0,none⟩))):=hd_ ⟨(rv_cells (HB5.out.chg HVF.out.1 (fun e=>HQZ.out _ e rfl))).2.2.2.2.2.2.2.1,hM3.ab.c322⟩; clear hM3 hmv3)
        | fail)
      all_goals
       go_wp2_with fail
       go_roundg (32 - (j + 1))
       case measure=>omega
       case rel=>exact ⟨j + 1,_,rfl,by omega,by go_num,hd_ (by rw [HSU.out,HSET.out,HD.out]; exact HMF.out),hd_ (HX.out.trans HVF.out)⟩
   ·have tv : (vj != ve) = true:=by simpa using hve
    have HZ:=hd_ (setW_no (x:=y) (i:=j) (by rw [HV.out,HVJ.out]; simp [hve]))
    have HXA:=hd_ (Chg.refl (fun _=>False) w3).drew
    clear hve
    go_region
    generalize w3.drew = wb at *
    clear y0 y1 y2 y3 y4 y5 y6 y7 y8 hw
    replace HM:=hd_ (HM.out.new HXA.out)
    replace HX:=hd_ (HX.out.trans (Mv16.of HXA.out))
    replace HB5:=hd_ (HB5.out.chg HXA.out id)
    replace HNQ:=hd_ (show Q5 < wb.heap.size from by have:=HXA.out.size; have:=HNQ.out; omega)
    have hw:=HM.out.ab.wait hlt
    rw [HVJ.out] at hw
    have hfz:=HM.out.ab.free (290 + j)
    have hcs:=(Chg.refl (fun k=>k = a) wb).put a (290 + j) (fun _=>rfl) (int i64 0)
    have HM2:=hd_ (HM.out.own hcs (y := { y with V:=at16 y.V j 0 }) (HM.out.ab.setW hlt 0) rfl rfl rfl rfl)
    replace HB5:=hd_ (HB5.out.chg hcs (fun e=>HQ5.out _ HM.out.own_ne e.symm))
    clear hcs
    go_upto_region 6 with fail
    generalize wb.setCell ⟨a,290 + j,none⟩ (int i64 0) = wc at *
    clear hw hfz
    have HXZ:=hd_ (HX.out.trans HM2.out.2)
    have HMZ:=hd_ HM2.out.1
    have HQZ:=HQ5
    obtain ⟨z,hzz⟩ : ∃ z : AV,({ y with V:=at16 y.V j 0 } : AV) = z:=⟨_,rfl⟩
    rw [hzz] at HZ HMZ
    clear hzz
    have hzs:=setW_set y j
    have HSZ:=hd_ (setW_sin HS1.out j)
    rw [HZ.out] at hzs HSZ
    have HZR:=hd_ (show z.R j = (⟨po,ma,ow,ta,ol,ge,ph,ve,si⟩ : RV) from (congrFun hzs.R j).trans HV.out)
    have HSET:=hd_ (show set16 now y j = setD16 z j now from by unfold set16; rw [HZ.out])
    have HFZ:=hd_ (hzs.fl.trans HFL.out)
    replace HM:=HMZ
    replace HX:=HXZ
    clear hzs HMZ HXZ HZ
    obtain ⟨y0,y1,y2,y3,y4,y5,y6,y7,y8⟩:=rv_cells HB5.out
    have hwn:=awent_any HM.out po ma ow ta ol ge ph ve si
    cases hwb : wenB z.c ph ol with
    | false =>
     rw [hwb] at hwn
     have HWN:=hd_ hwn
     have HD:=hd_ (setD_no (x:=z) (i:=j) (now:=now) (by rw [HZR.out]; exact hwb))
     clear hwn hwb
     go_wp2_with fail
     refine HWN.out.mono ?_
     rintro e wd ⟨rfl,hc⟩
     replace HM:=hd_ (HM.out.new hc)
     replace HX:=hd_ (HX.out.trans (Mv16.of hc))
     clear hc y0 y1 y2 y3 y4 y5 y6 y7 y8
     go_wp2_with fail
     go_roundg (32 - (j + 1))
     case measure=>omega
     case rel=>exact ⟨j + 1,_,rfl,by omega,by go_num,hd_ (by rw [HSU.out,HSET.out,HD.out]; exact HM.out),HX⟩
    | true =>
     rw [hwb] at hwn
     have HWN:=hd_ hwn
     have HD:=hd_ (setD_yes (x:=z) (i:=j) (now:=now) (by rw [HZR.out]; exact hwb))
     replace HD:=hd_ (show setD16 z j now = tell16 z 3 (j : Int) ve (ex12 now z.fl) from by have:=HD.out; rw [HZR.out] at this; exact this)
     clear hwn hwb
     go_wp2_with fail
     refine HWN.out.mono ?_
     rintro e wd ⟨rfl,hc⟩
     replace HM:=hd_ (HM.out.new hc)
     replace HX:=hd_ (HX.out.trans (Mv16.of hc))
     replace HB5:=hd_ (HB5.out.chg hc id)
     have HNQ:=hd_ HB5.out.lt
     clear hc y0 y1 y2 y3 y4 y5 y6 y7 y8
     have HF16:=hd_ (show z.fl.length ≤ 16 from by rw [HFZ.out]; exact HOK.out.fl)
     have HREC:=hd_ (show ∀ W,Chg (fun _=>False) wd W → Calls _ _ _ W (RecP12 (ex12 now z.fl) W) from fun W hW=>by
      obtain ⟨oz,ht⟩:=(HM.out.new hW).tn
      exact trecords_any ht HF16.out now)
     have htl:=fun W (hW : Chg (fun _=>False) wd W) (E : Option Addr) (k d base : Nat) (hk : k = (ex12 now z.fl).length) (ho : W.ownsRow base 131 6 (.slice E k d) k (rcF (ex12 now z.fl)))=>atell_any (HM.out.new hW) HSZ.out.len 3 (j : Int) ve E k d (ex12 now z.fl) _ (own_rcr ho hk) (by have:=ex12_len (t:=now) HF16.out; omega) (fun r hr=>HOK.out.rn r (by have:=ex12_mem hr; rw [HFZ.out] at this; exact this))
     unfold msC at htl
     have HTL:=hd_ htl
     clear htl
     have HKEEP : Hid (∀ W : World,Chg (fun _=>False) wd W → (W.cell? ⟨Q5,7,none⟩ = some (int i64 ve) ∧ W.cell? ⟨a,322,none⟩ = some (.pointer (some ⟨q,0,none⟩)))):=hd_ (fun W hW=>⟨(rv_cells (HB5.out.chg hW id)).2.2.2.2.2.2.2.1,(HM.out.new hW).ab.c322⟩)
     have HXA:=hd_ (Chg.refl (fun _=>False) wd).drew
     go_wp2_with fail
     obtain ⟨y7,c322⟩:=HKEEP.out _ HXA.out
     go_region_held3 (fun w'=>(w'.cell? ⟨Q5,7,none⟩ = some (int i64 ve) ∧ w'.cell? ⟨a,322,none⟩ = some (.pointer (some ⟨q,0,none⟩))))
      (first | with_reducible exact HKEEP.out _ HXA.out | with_reducible exact HKEEP.out _ HXB.out | with_reducible exact HSD.out | fail)
      (first
       | (go_at_call 61; (with_reducible refine (HREC.out _ HXA.out).mono ?_); rintro e we ⟨E,k,d,rfl,hk,hown,hc⟩; have HXB:=hd_ (HXA.out.trans hc (fun _ _ e=>e)); have HKE:=hd_ hk; have HOW:=hd_ hown; clear hk hown hc)
       | (go_at_call 59; (with_reducible refine (HTL.out _ HXB.out E k d _ HKE.out HOW.out).mono ?_); rintro e wf ⟨rfl,D3,hM3,hmv3⟩; have HMF:=hd_ hM3; have HVF:=hd_ ((Mv16.of HXB.out).trans hmv3); have HSD : Hid (wf.cell? ⟨Q5,7,none⟩ = some (int i64 ve) ∧ wf.cell? ⟨a,322,none⟩ = some (.pointer (some ⟨q,0,none⟩))):=hd_ ⟨(rv_cells (HB5.out.chg HVF.out.1 (fun e=>HQZ.out _ e rfl))).2.2.2.2.2.2.2.1,hM3.ab.c322⟩; clear hM3 hmv3)
       | fail)
     all_goals
      go_wp2_with fail
      go_roundg (32 - (j + 1))
      case measure=>omega
      case rel=>exact ⟨j + 1,_,rfl,by omega,by go_num,hd_ (by rw [HSU.out,HSET.out,HD.out]; exact HMF.out),hd_ (HX.out.trans HVF.out)⟩
  ·have hj2 : j = 32:=by omega
   subst hj2
   go_wp2_with fail
   exact bodyPost_end (results_none rfl _ _ _) rfl ⟨rfl,D1,HM.out,HX.out⟩
end Go.Proofs.YtfajcdobikjcdaaGreatDoor
