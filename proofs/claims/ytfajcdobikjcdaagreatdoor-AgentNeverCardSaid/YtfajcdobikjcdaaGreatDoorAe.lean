/-
  Walk: agent.tell. Conditions: the agent, and the records, lie in memory.
-/
import Derived.Test.YtfajcdobikjcdaaGreatDoorAc
import Derived.Test.YtfajcdobikjcdaaGreatDoorM5
import Derived.Deep.LoopGhost
set_option maxRecDepth 100000
set_option maxHeartbeats 40000000
set_option linter.unusedVariables false
set_option linter.unusedSimpArgs false
namespace Go.Proofs.YtfajcdobikjcdaaGreatDoor
open Go.Value (int)
open Go.IntKind (i64)
open Go.RowKit
def encB (kd po ve : Int) (l : List Rc) : List UInt8:=if msR kd 0 0 0 0 0 0 0 0 0 po ve l then msB kd 0 0 0 0 0 0 0 0 0 po ve l else []
def tell16 (x : AV) (kd po ve : Int) (l : List Rc) : AV :=
 if tdG x.td kd po = ve then x
 else if pushE x.s (encB kd po ve l) = 0 then { x with s:=pushS x.s (encB kd po ve l),td:=tdP x.td kd po ve }
 else x
theorem tell_was {x : AV} {kd po ve : Int} {l : List Rc} (h : tdG x.td kd po = ve) : tell16 x kd po ve l = x:=if_pos h
theorem tell_full {x : AV} {kd po ve : Int} {l : List Rc} (h : ¬ tdG x.td kd po = ve) (h2 : ¬ pushE x.s (encB kd po ve l) = 0) : tell16 x kd po ve l = x:=by unfold tell16; rw [if_neg h,if_neg h2]
theorem tell_new {x : AV} {kd po ve : Int} {l : List Rc} (h : ¬ tdG x.td kd po = ve) (h2 : pushE x.s (encB kd po ve l) = 0) : tell16 x kd po ve l = { x with s:=pushS x.s (encB kd po ve l),td:=tdP x.td kd po ve }:=by unfold tell16; rw [if_neg h,if_pos h2]
theorem own_rdsT {w : World} {base : Nat} {e : TypeId} {n c : Nat} {A : Option Addr} {xs : List Value} (h : w.ownsRow base e 1 (.slice A n c) n xs) : Rds w (fun _=>True) A n xs:=(own_rds h).mono (fun _ _=>trivial)
theorem atell_any {w : World} {a ps q m : Nat} {D : Nat → Prop} {x : AV} (h : AM w a ps q m D x) (hq : x.s.q.length ≤ 64) (kd po ve : Int) (A : Option Addr) (n c : Nat) (l : List Rc) (S : Nat → Prop) (hr : RcR w S A n l) (hn : n ≤ 16) (hN : ∀ r ∈ l,RcN r) : Calls Tryz.prog 59 #[.pointer (some ⟨a,0,none⟩), .agg (msC kd 0 0 0 0 0 0 0 0 0 po ve A n c)] w fun e w'=>e = .returned (.tuple #[]) ∧ AMv a ps q m D (tell16 x kd po ve l) w w':=by
 obtain ⟨o,oq,rfl,hP⟩:=h
 have HP:=hd_ hP
 have HB0 : Hid (Blk ((w.alloc (.cells #[int i64 kd,int i64 0,int .u64 0,int i64 0,int i64 0,int i64 0,int i64 0,int i64 0,int i64 0,int i64 0,int i64 po,int i64 ve, .slice A n c] 71)).alloc (.cells #[int i64 kd,int i64 po] 184)) w.heap.size 71 (msC kd 0 0 0 0 0 0 0 0 0 po ve A n c)):=hd_ ((blk_new rfl).alloc _)
 have HB1 : Hid (Blk ((w.alloc (.cells #[int i64 kd,int i64 0,int .u64 0,int i64 0,int i64 0,int i64 0,int i64 0,int i64 0,int i64 0,int i64 0,int i64 po,int i64 ve, .slice A n c] 71)).alloc (.cells #[int i64 kd,int i64 po] 184)) (w.heap.size + 1) 184 #[int i64 kd,int i64 po]):=hd_ (blk_new (by simp))
 have HX:=hd_ (((Chg.refl (fun _=>False) w).alloc (.cells #[int i64 kd,int i64 0,int .u64 0,int i64 0,int i64 0,int i64 0,int i64 0,int i64 0,int i64 0,int i64 0,int i64 po,int i64 ve, .slice A n c] 71)).alloc (.cells #[int i64 kd,int i64 po] 184))
 have HRR:=hd_ (hr.old.chg HX.out (fun _ _=>id))
 have HQ:=hd_ hq
 have HN:=hd_ hN
 have HQM : Hid (∀ k,agD a ps o q oq m k → ¬ k = w.heap.size):=hd_ (fun k e h=>by have:=hP.lt k e; omega)
 have HQK : Hid (∀ k,agD a ps o q oq m k → ¬ k = w.heap.size + 1):=hd_ (fun k e h=>by have:=hP.lt k e; omega)
 replace HP:=hd_ (HP.out.new HX.out)
 clear hP hr hq hN
 have HNN:=hd_ hn
 clear hn
 unfold msC
 go_enter Tryz.func59,Tryz.ntmps59
 go_upto_region 2 with fail
 generalize (w.alloc (.cells #[int i64 kd,int i64 0,int .u64 0,int i64 0,int i64 0,int i64 0,int i64 0,int i64 0,int i64 0,int i64 0,int i64 po,int i64 ve, .slice A n c] 71)).alloc (.cells #[int i64 kd,int i64 po] 184) = w2 at *
 generalize w.heap.size + 1 = qk at *
 generalize w.heap.size = qm at HB0 HQM ⊢
 obtain ⟨y0,y1,y2,y3,y4,y5,y6,y7,y8,y9,y10,y11,y12⟩:=ms_cells HB0.out
 have k0:=HB1.out.cell 0
 have k1:=HB1.out.cell 1
 simp only [List.getElem?_toArray,List.getElem?_cons_zero,List.getElem?_cons_succ] at k0 k1
 have c323:=HP.out.ab.c323
 have hlk:=(show TM w2.drew m x.td from HP.out.tm).look kd po
 unfold tkV at hlk
 by_cases htd : tdG x.td kd po = ve
 ·have HTD:=hd_ htd
  have tt : (tdG x.td kd po == ve) = true:=by simpa using htd
  clear htd
  go_region
  go_wp2_with fail
  exact bodyPost_ret (results_none rfl _ _ _) rfl ⟨rfl,by rw [tell_was HTD.out]; exact ⟨_,⟨o,oq,rfl,HP.out.new (Chg.refl (fun _=>False) w2).drew⟩,Mv16.of HX.out.drew⟩⟩
 ·have tt : (tdG x.td kd po == ve) = false:=by simpa using htd
  have HTD:=hd_ htd
  clear htd
  go_region
  clear hlk c323
  replace HB0:=hd_ HB0.out.drew
  replace HB1:=hd_ HB1.out.drew
  replace HX:=hd_ HX.out.drew
  replace HP:=hd_ (HP.out.new (Chg.refl (fun _=>False) w2).drew)
  replace HRR:=hd_ (HRR.out.chg ((Chg.refl (fun _=>False) w2).drew) (fun _ _=>id))
  generalize w2.drew = w3 at *
  clear y0 y1 y2 y3 y4 y5 y6 y7 y8 y9 y10 y11 y12
  obtain ⟨y0,y1,y2,y3,y4,y5,y6,y7,y8,y9,y10,y11,y12⟩:=ms_cells HB0.out
  have henc:=cenc_any kd 0 0 0 0 0 0 0 0 0 po ve A n c l _ w3 HRR.out (by have:=HNN.out; omega) ⟨⟨by omega,by omega⟩,HN.out⟩
  replace henc : Calls _ _ _ w3 (Mk6 (encB kd po ve l) (if msR kd 0 0 0 0 0 0 0 0 0 po ve l then 0 else 1) w3):=henc
  generalize (if msR kd 0 0 0 0 0 0 0 0 0 po ve l then (0 : Int) else 1) = er at *
  generalize hb : encB kd po ve l = b at *
  unfold msC at henc
  have HENC:=hd_ henc
  have HBB:=hd_ hb
  clear henc hb
  go_wp2_with fail
  refine HENC.out.mono ?_
  rintro e w4 ⟨E,d,rfl,hown,hc⟩
  have HPU:=hd_ (spush_any ps o _ x.s E b.length d b _ w4 (HP.out.new hc).sn HQ.out rfl (own_rdsT hown) (own_nil hown) (by have h1:=hown.1; have h2:=(own_cap hown); unfold maxLen at h2; omega))
  replace HB0:=hd_ (HB0.out.chg hc id)
  replace HB1:=hd_ (HB1.out.chg hc id)
  replace HX:=hd_ (HX.out.trans hc (fun _ _ e=>e))
  replace HP:=hd_ (HP.out.new hc)
  clear hown hc HENC y0 y1 y2 y3 y4 y5 y6 y7 y8 y9 y10 y11 y12 k0 k1
  have c0:=HP.out.ab.c0
  go_wp2_with fail
  refine HPU.out.mono ?_
  rintro e w5 ⟨rfl,hsm⟩
  obtain ⟨o',hP5,hc5,hD5⟩:=HP.out.sess hsm
  have hl0:=HX.out.size
  have HB05 : Hid (Blk w5 qm 71 (msC kd 0 0 0 0 0 0 0 0 0 po ve A n c)):=hd_ (HB0.out.chg hc5 (fun e=>HQM.out _ e rfl))
  have HB15 : Hid (Blk w5 qk 184 #[int i64 kd,int i64 po]):=hd_ (HB1.out.chg hc5 (fun e=>HQK.out _ e rfl))
  have HM5 : Hid (Mv16 (agD a ps o q oq m) (agD a ps o' q oq m) w w5):=hd_ ((Mv16.of HX.out).trans ⟨hc5,hD5⟩)
  have HP5:=hd_ hP5
  clear hP5 hc5 hD5 hl0 hsm HPU c0
  by_cases hpe : pushE x.s b = 0
  ·have tp : (pushE x.s b == 0) = true:=by simpa using hpe
   have HTN:=hd_ (tell_new (kd:=kd) (po:=po) (ve:=ve) (l:=l) HTD.out (by rw [HBB.out]; exact hpe))
   rw [HBB.out] at HTN
   generalize pushE x.s b = pe at *
   clear hpe
   go_wp2_with fail
   obtain ⟨y0,y1,y2,y3,y4,y5,y6,y7,y8,y9,y10,y11,y12⟩:=ms_cells HB05.out
   have k0:=HB15.out.cell 0
   have k1:=HB15.out.cell 1
   simp only [List.getElem?_toArray,List.getElem?_cons_zero,List.getElem?_cons_succ] at k0 k1
   have c323:=HP5.out.ab.c323
   obtain ⟨w6,hup,htm,hc6⟩:=(show TM w5.drew m x.td from HP5.out.tm).put kd po ve
   unfold tkV at hup
   have HP6:=hd_ (HP5.out.told (show Chg (fun k=>k = m) w5 w6 from ((Chg.refl _ w5).drew.trans hc6 (fun _ _ e=>e))) htm)
   have HM6:=hd_ (HM5.out.trans (show Mv16 (agD a ps o' q oq m) (agD a ps o' q oq m) w5 w6 from ⟨((Chg.refl _ w5).drew.trans hc6 (fun _ _ e=>e)).mono (fun k _ e => .inr (.inr (.inr (.inr (.inr e))))),fun k e => .inl e⟩))
   clear htm hc6
   go_region
   go_wp2_with fail
   exact bodyPost_end (results_none rfl _ _ _) rfl ⟨rfl,by rw [HTN.out]; exact ⟨_,⟨o',oq,rfl,HP6.out⟩,HM6.out⟩⟩
  ·have tp : (pushE x.s b == 0) = false:=by simpa using hpe
   have HTN:=hd_ (tell_full (kd:=kd) (po:=po) (ve:=ve) (l:=l) HTD.out (by rw [HBB.out]; exact hpe))
   have hxs : ({ x with s:=pushS x.s b } : AV) = x:=by unfold pushS; rw [if_neg hpe]
   rw [hxs] at HP5
   generalize pushE x.s b = pe at *
   clear hpe hxs
   go_wp2_with fail
   exact bodyPost_end (results_none rfl _ _ _) rfl ⟨rfl,by rw [HTN.out]; exact ⟨_,⟨o',oq,rfl,HP5.out⟩,HM5.out⟩⟩
end Go.Proofs.YtfajcdobikjcdaaGreatDoor
