/-
  Walk: rutterlaw16.alive. Condition: the table of widths lies in memory.
-/
import Derived.Test.YtfajcdobikjcdaaGreatDoorAp
import Derived.Test.YtfajcdobikjcdaaGreatDoorM2
import Derived.Test.YtfajcdobikjcdaaGreatDoorM7
import Derived.Deep.RegionHeld3
import Derived.RegionTactic
import Derived.BigQuiet
set_option maxRecDepth 100000
set_option maxHeartbeats 40000000
set_option linter.unusedVariables false
set_option linter.unusedSimpArgs false
namespace Go.Proofs.YtfajcdobikjcdaaGreatDoor
open Go.Value (int)
open Go.IntKind (i64)
open Go.RowKit
def LV16 (w0 w : World) (a ps q m : Nat) (x : AV) : Prop := ∃ D,AM w a ps q m D x ∧ Chg (fun _=>False) w0 w ∧ ∀ k,D k → w0.heap.size ≤ k
def Kp16 (w w' : World) : Prop := ∀ (Q : Nat) (T : TypeId) (cs : Array Value),Blk w Q T cs → T ≠ 67 → T ≠ 104 → T ≠ 31 → T ≠ 106 → T ≠ 131 → Blk w' Q T cs
theorem LV16.new {w0 w w' : World} {a ps q m : Nat} {x : AV} (h : LV16 w0 w a ps q m x) (hc : Chg (fun _=>False) w w') : LV16 w0 w' a ps q m x:=by
 obtain ⟨D,h1,h2,h3⟩:=h
 exact ⟨D,h1.new hc,h2.trans hc (fun _ _ e=>e),h3⟩
theorem LV16.gw {w0 w : World} {a ps q m : Nat} {x : AV} (h : LV16 w0 w a ps q m x) (hg : Gw w0) : Gw w:=by
 obtain ⟨D,h1,h2,h3⟩:=h
 exact hg.chg h2 id
theorem LV16.out {w0 w : World} {a ps q m : Nat} {x : AV} (h : LV16 w0 w a ps q m x) : Chg (fun _=>False) w0 w:=by
 obtain ⟨D,h1,h2,h3⟩:=h
 exact h2
theorem LV16.put {w0 w w' : World} {a ps q m : Nat} {x : AV} (h : LV16 w0 w a ps q m x) {Q : Nat} {T : TypeId} {cs : Array Value} (hb : Blk w Q T cs) (hu : noU8 cs) (h1 : T ≠ 67) (h2 : T ≠ 104) (h3 : T ≠ 31) (h4 : T ≠ 106) (h5 : T ≠ 131) (hq : w0.heap.size ≤ Q) (hc : Chg (fun k=>k = Q) w w') : LV16 w0 w' a ps q m x:=by
 obtain ⟨D,g1,g2,g3⟩:=h
 exact ⟨D,g1.put8 hb hu h1 h2 h3 h4 h5 hc,fresh_set g2 hc hq,g3⟩
theorem lv_step {w0 w w' : World} {a ps q m : Nat} {D : Nat → Prop} {x y : AV} (hA : AM w a ps q m D x) (hC : Chg (fun _=>False) w0 w) (hD : ∀ k,D k → w0.heap.size ≤ k) (h : AMv a ps q m D y w w') : LV16 w0 w' a ps q m y ∧ Kp16 w w':=by
 obtain ⟨D',h1,h2,h3⟩:=h
 refine ⟨⟨D',h1,hC.trans h2 (fun k hk e=>by have:=hD k e; omega),fun k hk => ?_⟩,fun Q T cs hb n1 n2 n3 n4 n5=>hb.chg h2 (hA.apart hb n1 n2 n3 n4 n5)⟩
 rcases h3 k hk with e | e
 ·exact hD k e
 ·exact Nat.le_trans hC.size e
theorem l16take {w0 w : World} {a ps q m n0 : Nat} {x y : AV} {er : Int} (h : LV16 w0 w a ps q m x) (hok : AOk n0 x) (h0 : n0 ≤ 1000) (A : Option Addr) (n c : Nat) (b : List UInt8) (S : Nat → Prop) (hn : n = b.length) (hr : Rds w S A n (bcs b)) (hz : A = none → c = 0) (hn2 : n ≤ 9223372036854775807) (now : Int) (he : take16 x b now = (y,er)) : Calls Tryz.prog 8 #[.pointer (some ⟨a,0,none⟩), .slice A n c,int i64 now] w fun e w'=>e = .returned (int i64 er) ∧ LV16 w0 w' a ps q m y ∧ Kp16 w w':=by
 obtain ⟨D,h1,h2,h3⟩:=h
 refine (atake_any h1 hok h0 A n c b S hn hr hz hn2 now).mono ?_
 rw [he]
 rintro e w' ⟨rfl,hv⟩
 exact ⟨rfl,lv_step h1 h2 h3 hv⟩
theorem l16guest {w0 w : World} {a ps q m n0 : Nat} {x : AV} (h : LV16 w0 w a ps q m x) (hok : AOk n0 x) (hg : Gw w0) (d s t : Int) (A : Option Addr) (n c : Nat) (l : List UInt8) (hb : BsM15 w A n c l) (hnc : n ≤ c) (hcm : c ≤ maxLen) (hd : 0 ≤ d) (hs : 0 ≤ s) (hbn : n ≤ 100000) (now nu : Int) (y : AV) (kd ge er : Int) (he : (guest16 x d s t n l now nu).1 = y ∧ (guest16 x d s t n l now nu).2.1.kd = kd ∧ (guest16 x d s t n l now nu).2.1.ge = ge ∧ (guest16 x d s t n l now nu).2.2 = er) : Calls Tryz.prog 9 #[.pointer (some ⟨a,0,none⟩), .agg #[int .u64 d,int .u64 s,int i64 t, .slice A n c],int i64 now,int i64 nu] w fun e w' => ∃ po st FA fn fc k o f t p g i PA pn pc,e = .returned (.tuple #[.agg (ouC15 kd po ge st FA fn fc k o f t p g i PA pn pc),int i64 er]) ∧ LV16 w0 w' a ps q m y ∧ Kp16 w w':=by
 have hgw:=h.gw hg
 obtain ⟨D,h1,h2,h3⟩:=h
 refine (aguest_any h1 hok hgw d s t A n c l hb hnc hcm hd hs hbn now nu).mono ?_
 obtain ⟨e1,e2,e3,e4⟩:=he
 unfold GP16
 rw [e1,e2,e3,e4]
 rintro e w' ⟨FA,fn,fc,PA,pn,pc,rfl,_,hv⟩
 exact ⟨_,_,_,_,_,_,_,_,_,_,_,_,_,_,_,rfl,lv_step h1 h2 h3 hv⟩
theorem lok0 : AOk 0 (new16 1 4 10):=new16_ok (by omega) (by omega)
theorem lok1 : AOk 1 lx1:=by
 have h:=lok0.take (ltB 2 4 0 1 lm1.bs) 0
 rw [ltake1] at h
 exact h
theorem lok2 : AOk 2 lx2:=by
 have h:=lok1.take (ltB 2 4 0 2 lm2.bs) 0
 rw [ltake2] at h
 exact h
theorem lok3 : AOk 2 lx3:=by
 have h:=lok2.guest 281474976710655 7 32821 28 lf 1 7
 rw [lguest2] at h
 exact h
def SayP16 (b : List UInt8) (w : World) (e : Ending) (w' : World) : Prop := ∃ E k d,e = .returned (.slice E k d) ∧ k = b.length ∧ Rds w' (fun _=>True) E k (bcs b) ∧ (E = none → d = 0) ∧ Chg (fun _=>False) w w'
theorem say16 {f : Nat} {xs : Array Value} {w : World} {b : List UInt8} (h : Calls Tryz.prog f xs w fun e w' => ∃ E k d,e = .returned (.slice E k d) ∧ k = b.length ∧ w'.ownsRow w.heap.size 5 1 (.slice E k d) k (bcs b) ∧ Chg (fun _=>False) w w') : Calls Tryz.prog f xs w (SayP16 b w):=by
 refine h.mono ?_
 rintro e w' ⟨E,k,d,rfl,hk,ho,hc⟩
 exact ⟨E,k,d,rfl,hk,own_rdsT ho,own_nil ho,hc⟩
theorem lsay1 (W : World) : Calls Tryz.prog 18 #[int i64 2,int i64 4,int i64 1, .agg #[int i64 1,int i64 3,int .u64 7,int i64 1,int i64 (-1),int i64 (-1),int i64 5,int i64 0,int i64 9,int i64 0,int i64 0,int i64 0, .slice none 0 0]] W (SayP16 (ltB 2 4 0 1 lm1.bs) W):=say16 (asay_any 2 4 1 1 3 7 1 (-1) (-1) 5 0 9 0 0 0 none 0 0 [] (fun _=>True) W (RcR.nil _ _ _) (by decide) lm1_nm lm1_ok lt1R)
theorem lsay2 (W : World) : Calls Tryz.prog 18 #[int i64 2,int i64 4,int i64 2, .agg #[int i64 1,int i64 3,int .u64 7,int i64 2,int i64 1,int i64 (-1),int i64 5,int i64 1,int i64 10,int i64 0,int i64 0,int i64 0, .slice none 0 0]] W (SayP16 (ltB 2 4 0 2 lm2.bs) W):=say16 (asay_any 2 4 2 1 3 7 2 1 (-1) 5 1 10 0 0 0 none 0 0 [] (fun _=>True) W (RcR.nil _ _ _) (by decide) lm2_nm lm2_ok lt2R)
def lm3 : MV:=⟨2,0,0,0,0,0,0,0,0,0,3,10, []⟩
theorem lm3_ok : lm3.ok = true:=by kernel_rfl
theorem lm3_nm : lm3.nm:=by simp [lm3,MV.nm,MsN]
theorem lbyt3 (W : World) : Calls Tryz.prog 22 #[.agg #[int i64 2,int i64 0,int .u64 0,int i64 0,int i64 0,int i64 0,int i64 0,int i64 0,int i64 0,int i64 0,int i64 3,int i64 10, .slice none 0 0]] W (Bt lb3 W):=rbytes6_any 2 0 0 0 0 0 0 0 0 0 3 10 none 0 0 [] (fun _=>True) W (RcR.nil _ _ _) (by decide) lm3_nm lm3_ok
theorem llen1 : (ltB 2 4 0 1 lm1.bs).length ≤ 2000:=of_decide_eq_true (by kernel_rfl)
theorem llen2 : (ltB 2 4 0 2 lm2.bs).length ≤ 2000:=of_decide_eq_true (by kernel_rfl)
theorem llen3 : (ltB 4 2 2 1 lb3).length ≤ 2000:=of_decide_eq_true (by kernel_rfl)
theorem lf_len : lf.length = 28:=by kernel_rfl
theorem noU8_rv16 {po ma ow ta ol ge ph ve si : Int} : noU8 (rvC po ma ow ta ol ge ph ve si):=noU8_of (by
 intro v hv x
 simp [rvC] at hv
 rcases hv with h | h | h | h | h | h | h | h | h <;> rw [h] <;> (intro e; injection e with e; cases e))
theorem lparse (w : World) (A : Option Addr) (n c : Nat) (S : Nat → Prop) (hn : n = (ltB 4 2 2 1 lb3).length) (h : Rds w S A n (bcs (ltB 4 2 2 1 lb3))) : Calls Tryz.prog 21 #[.slice A n c] w fun e w'=>e = .returned (.tuple #[.agg (rlC 4 2 2 1 ⟨lb3.toArray⟩),int i64 0]) ∧ Chg (fun _=>False) w w':=by
 refine (rparse11_any A n c _ S w hn h (by rw [hn]; exact Nat.le_trans llen3 (by decide))).mono ?_
 unfold Par11
 obtain ⟨h1,h2⟩:=ljd lt3R
 rw [h1,h2]
 exact fun e w' h=>h
theorem lout1 {w : World} {a ps q m : Nat} {w0 : World} (h : LV16 w0 w a ps q m lx3) : Calls Tryz.prog 20 #[.pointer (some ⟨a,0,none⟩)] w fun e w' => ∃ g d A k c,e = .returned (.slice (some ⟨g,0,none⟩) 1 d) ∧ w'.cell? ⟨g,0,none⟩ = some (.slice A k c) ∧ k = (ltB 4 2 2 1 lb3).length ∧ Rds w' (fun _=>True) A k (bcs (ltB 4 2 2 1 lb3)) ∧ Chg (fun _=>False) w w':=by
 obtain ⟨D,h1,h2,h3⟩:=h
 refine (aout_any h1 lok3 (by decide)).mono ?_
 rw [lout]
 rintro e w' ⟨E,n,d,vs,rfl,rfl,ho,hb,hc⟩
 obtain ⟨A,c,hv,hz,hr⟩:=hb.2 0 _ rfl
 rcases ho.2 with ⟨hv2,h0⟩ | ⟨g,cap,cur,hv2,_⟩
 ·cases h0
 ·injection hv2 with hv2
  have hz:=ho.cells (g:=g) (by rw [hv2]; rfl) 0 _ hv
  rw [show (⟨g,0,none⟩ : Addr).add 0 = ⟨g,0,none⟩ from by unfold Addr.add; split <;> simp_all] at hz
  exact ⟨g,d,A,_,c,by rw [hv2]; rfl,hz,rfl,hr.mono (fun _ _=>trivial),hc⟩
theorem alive16_any (w : World) (hg : Gw w) : Calls Tryz.prog 6 #[] w fun e w2=>e = .returned (.bool true) ∧ Chg (fun _=>False) w w2:=by
 have HG:=hd_ hg
 have HNEW:=hd_ (anew_any 1 4 10 w (by omega) (by omega) (by omega))
 have HS1:=hd_ lsay1
 have HS2:=hd_ lsay2
 have HRP:=hd_ (fun W=>rrarp_yes 7 W (by omega) (by omega))
 have HB3:=hd_ lbyt3
 clear hg
 go_enter Tryz.func6,Tryz.ntmps6
 go_wp2_with fail
 refine HNEW.out.mono ?_
 rintro e w1 ⟨a,ps,q,m,D,rfl,hA,hc,hD⟩
 have HA : Hid (LV16 w w1 a ps q m (new16 1 4 10)):=hd_ ⟨D,hA,hc,hD⟩
 have HS0:=hd_ hc.size
 clear hA hc hD HNEW D
 have hc:=(Chg.refl (fun _=>False) w1).alloc (.cells #[int i64 3,int .u64 7,int i64 1,int i64 (-1),int i64 (-1),int i64 5,int i64 0,int i64 9,int i64 0] 63)
 have HR : Hid (Blk (w1.alloc (.cells #[int i64 3,int .u64 7,int i64 1,int i64 (-1),int i64 (-1),int i64 5,int i64 0,int i64 9,int i64 0] 63)) w1.heap.size 63 (rvC 3 7 1 (-1) (-1) 5 0 9 0)):=hd_ (blk_new rfl)
 replace HA:=hd_ (HA.out.new hc)
 clear hc
 go_upto_region 3 with fail
 generalize w1.alloc (.cells #[int i64 3,int .u64 7,int i64 1,int i64 (-1),int i64 (-1),int i64 5,int i64 0,int i64 9,int i64 0] 63) = w2 at *
 generalize w1.heap.size = QR at *
 obtain ⟨y0,y1,y2,y3,y4,y5,y6,y7,y8⟩:=rv_cells HR.out
 go_wp2_with fail
 refine (HS1.out _).mono ?_
 rintro e w3 ⟨E,k,d,rfl,hk,hr,hz,hc⟩
 replace HA:=hd_ (HA.out.new hc)
 replace HR:=hd_ (HR.out.chg hc id)
 have HT:=hd_ (l16take HA.out lok0 (by decide) E k d _ _ hk hr hz (by rw [hk]; exact Nat.le_trans llen1 (by decide)) 0 ltake1)
 clear hk hr hz hc HS1 y0 y1 y2 y3 y4 y5 y6 y7 y8
 go_wp2_with fail
 refine HT.out.mono ?_
 rintro e w4 ⟨rfl,ha,hk⟩
 replace HR:=hd_ (hk _ _ _ HR.out (by decide) (by decide) (by decide) (by decide) (by decide))
 replace HA:=hd_ ha
 clear ha hk HT
 have HU:=hd_ (l16guest HA.out lok1 HG.out 7 0 0 none 0 0 [] (BsM15.nil _) (by decide) (by decide) (by decide) (by decide) (by decide) 0 6 _ _ _ _ lguest1)
 go_wp2_with fail
 refine HU.out.mono ?_
 rintro e w5 ⟨po,st,FA,fn,fc,k,o,f,t,p,g,i,PA,pn,pc,rfl,ha,hk⟩
 replace HR:=hd_ (hk _ _ _ HR.out (by decide) (by decide) (by decide) (by decide) (by decide))
 replace HA:=hd_ ha
 clear ha hk HU
 have hc:=(Chg.refl (fun _=>False) w5).alloc (.cells #[int i64 1,int i64 po,int i64 5,int i64 st, .slice FA fn fc,int i64 k,int i64 o,int i64 f,int i64 t,int i64 p,int i64 g,int i64 i, .slice PA pn pc] 44)
 have HO : Hid (Blk (w5.alloc (.cells #[int i64 1,int i64 po,int i64 5,int i64 st, .slice FA fn fc,int i64 k,int i64 o,int i64 f,int i64 t,int i64 p,int i64 g,int i64 i, .slice PA pn pc] 44)) w5.heap.size 44 (ouC15 1 po 5 st FA fn fc k o f t p g i PA pn pc)):=hd_ (blk_new rfl)
 replace HA:=hd_ (HA.out.new hc)
 replace HR:=hd_ (HR.out.chg hc id)
 clear hc
 unfold ouC15
 go_upto_region 5 with fail
 generalize w5.alloc (.cells #[int i64 1,int i64 po,int i64 5,int i64 st, .slice FA fn fc,int i64 k,int i64 o,int i64 f,int i64 t,int i64 p,int i64 g,int i64 i, .slice PA pn pc] 44) = w6 at *
 generalize w5.heap.size = QO at *
 have z:=HR.out.cell 6
 have zf:=HR.out.frozen 6
 have hcs:=(Chg.refl (fun k=>k = QR) w6).put QR 6 (fun _=>rfl) (int i64 1)
 replace HA:=hd_ (HA.out.put HR.out noU8_rv16 (by decide) (by decide) (by decide) (by decide) (by decide) (by exact HS0.out) hcs)
 have hro:=blk_two16 HO.out HR.out (by decide)
 replace HO:=hd_ (HO.out.chg hcs hro)
 have hr2 : Blk (w6.setCell ⟨QR,6,none⟩ (int i64 1)) QR 63 (rvC 3 7 1 (-1) (-1) 5 1 9 0):=HR.out.set 6 (int i64 1)
 replace HR:=hd_ hr2
 clear hcs hr2 hro
 simp only [rvC,List.getElem?_toArray,List.getElem?_cons_zero,List.getElem?_cons_succ] at z
 go_upto_region 6 with fail
 clear z zf
 generalize w6.setCell ⟨QR,6,none⟩ (int i64 1) = v5 at *
 have z:=HR.out.cell 2
 have zf:=HR.out.frozen 2
 have hcs:=(Chg.refl (fun k=>k = QR) v5).put QR 2 (fun _=>rfl) (int i64 2)
 replace HA:=hd_ (HA.out.put HR.out noU8_rv16 (by decide) (by decide) (by decide) (by decide) (by decide) (by exact HS0.out) hcs)
 have hro:=blk_two16 HO.out HR.out (by decide)
 replace HO:=hd_ (HO.out.chg hcs hro)
 have hr2 : Blk (v5.setCell ⟨QR,2,none⟩ (int i64 2)) QR 63 (rvC 3 7 2 (-1) (-1) 5 1 9 0):=HR.out.set 2 (int i64 2)
 replace HR:=hd_ hr2
 clear hcs hr2 hro
 simp only [rvC,List.getElem?_toArray,List.getElem?_cons_zero,List.getElem?_cons_succ] at z
 go_upto_region 7 with fail
 clear z zf
 generalize v5.setCell ⟨QR,2,none⟩ (int i64 2) = v6 at *
 have z:=HR.out.cell 3
 have zf:=HR.out.frozen 3
 have hcs:=(Chg.refl (fun k=>k = QR) v6).put QR 3 (fun _=>rfl) (int i64 1)
 replace HA:=hd_ (HA.out.put HR.out noU8_rv16 (by decide) (by decide) (by decide) (by decide) (by decide) (by exact HS0.out) hcs)
 have hro:=blk_two16 HO.out HR.out (by decide)
 replace HO:=hd_ (HO.out.chg hcs hro)
 have hr2 : Blk (v6.setCell ⟨QR,3,none⟩ (int i64 1)) QR 63 (rvC 3 7 2 1 (-1) 5 1 9 0):=HR.out.set 3 (int i64 1)
 replace HR:=hd_ hr2
 clear hcs hr2 hro
 simp only [rvC,List.getElem?_toArray,List.getElem?_cons_zero,List.getElem?_cons_succ] at z
 go_upto_region 8 with fail
 clear z zf
 generalize v6.setCell ⟨QR,3,none⟩ (int i64 1) = v7 at *
 have z:=HR.out.cell 7
 have zf:=HR.out.frozen 7
 have hcs:=(Chg.refl (fun k=>k = QR) v7).put QR 7 (fun _=>rfl) (int i64 10)
 replace HA:=hd_ (HA.out.put HR.out noU8_rv16 (by decide) (by decide) (by decide) (by decide) (by decide) (by exact HS0.out) hcs)
 have hro:=blk_two16 HO.out HR.out (by decide)
 replace HO:=hd_ (HO.out.chg hcs hro)
 have hr2 : Blk (v7.setCell ⟨QR,7,none⟩ (int i64 10)) QR 63 (rvC 3 7 2 1 (-1) 5 1 10 0):=HR.out.set 7 (int i64 10)
 replace HR:=hd_ hr2
 clear hcs hr2 hro
 simp only [rvC,List.getElem?_toArray,List.getElem?_cons_zero,List.getElem?_cons_succ] at z
 go_upto_region 9 with fail
 clear z zf
 generalize v7.setCell ⟨QR,7,none⟩ (int i64 10) = v8 at *
 obtain ⟨y0,y1,y2,y3,y4,y5,y6,y7,y8⟩:=rv_cells HR.out
 go_wp2_with fail
 refine (HS2.out _).mono ?_
 rintro e w7 ⟨E,k2,d,rfl,hk,hr,hz,hc⟩
 replace HA:=hd_ (HA.out.new hc)
 replace HO:=hd_ (HO.out.chg hc id)
 have HT:=hd_ (l16take HA.out lok1 (by decide) E k2 d _ _ hk hr hz (by rw [hk]; exact Nat.le_trans llen2 (by decide)) 0 ltake2)
 clear hk hr hz hc HS2 y0 y1 y2 y3 y4 y5 y6 y7 y8 HR HS0
 go_wp2_with fail
 refine HT.out.mono ?_
 rintro e w8 ⟨rfl,ha,hk⟩
 replace HO:=hd_ (hk _ _ _ HO.out (by decide) (by decide) (by decide) (by decide) (by decide))
 replace HA:=hd_ ha
 clear ha hk HT
 go_wp2_with fail
 refine (HRP.out _).mono ?_
 rintro e w9 ⟨A,c,rfl,ho,hc⟩
 replace HA:=hd_ (HA.out.new hc)
 replace HO:=hd_ (HO.out.chg hc id)
 have HBS : Hid (BsM15 w9 A 28 c lf):=hd_ ⟨own_nil ho,lf_len.symm,own_rdsT ho⟩
 have HCA:=hd_ (own_cap ho)
 clear ho hc HRP
 have hc:=(Chg.refl (fun _=>False) w9).alloc (.cells #[int .u64 281474976710655,int .u64 7,int i64 32821, .slice A 28 c] 34)
 have HF : Hid (Blk (w9.alloc (.cells #[int .u64 281474976710655,int .u64 7,int i64 32821, .slice A 28 c] 34)) w9.heap.size 34 #[int .u64 281474976710655,int .u64 7,int i64 32821, .slice A 28 c]):=hd_ (blk_new rfl)
 replace HA:=hd_ (HA.out.new hc)
 replace HO:=hd_ (HO.out.chg hc id)
 replace HBS:=hd_ (HBS.out.chg hc)
 clear hc
 go_upto_region 11 with fail
 generalize w9.alloc (.cells #[int .u64 281474976710655,int .u64 7,int i64 32821, .slice A 28 c] 34) = w10 at *
 generalize w9.heap.size = QF at *
 have y0:=HF.out.cell 0
 have y1:=HF.out.cell 1
 have y2:=HF.out.cell 2
 have y3:=HF.out.cell 3
 simp only [List.getElem?_toArray,List.getElem?_cons_zero,List.getElem?_cons_succ] at y0 y1 y2 y3
 have HU:=hd_ (l16guest HA.out lok2 HG.out 281474976710655 7 32821 A 28 c lf HBS.out HCA.out.1 HCA.out.2 (by decide) (by decide) (by decide) 1 7 lx3 0 0 0 (by rw [lguest2]; exact ⟨rfl,rfl,rfl,rfl⟩))
 go_wp2_with fail
 refine HU.out.mono ?_
 rintro e w11 ⟨po2,st2,FA2,fn2,fc2,k2,o2,f2,t2,p2,g2,i2,PA2,pn2,pc2,rfl,ha,hk⟩
 replace HO:=hd_ (hk _ _ _ HO.out (by decide) (by decide) (by decide) (by decide) (by decide))
 replace HA:=hd_ ha
 clear ha hk HU y0 y1 y2 y3 HF HBS HCA
 have hc:=(Chg.refl (fun _=>False) w11).alloc (.cells #[int i64 0,int i64 po2,int i64 0,int i64 st2, .slice FA2 fn2 fc2,int i64 k2,int i64 o2,int i64 f2,int i64 t2,int i64 p2,int i64 g2,int i64 i2, .slice PA2 pn2 pc2] 44)
 have HP : Hid (Blk (w11.alloc (.cells #[int i64 0,int i64 po2,int i64 0,int i64 st2, .slice FA2 fn2 fc2,int i64 k2,int i64 o2,int i64 f2,int i64 t2,int i64 p2,int i64 g2,int i64 i2, .slice PA2 pn2 pc2] 44)) w11.heap.size 44 (ouC15 0 po2 0 st2 FA2 fn2 fc2 k2 o2 f2 t2 p2 g2 i2 PA2 pn2 pc2)):=hd_ (blk_new rfl)
 replace HA:=hd_ (HA.out.new hc)
 replace HO:=hd_ (HO.out.chg hc id)
 clear hc
 unfold ouC15
 go_upto_region 12 with fail
 generalize w11.alloc (.cells #[int i64 0,int i64 po2,int i64 0,int i64 st2, .slice FA2 fn2 fc2,int i64 k2,int i64 o2,int i64 f2,int i64 t2,int i64 p2,int i64 g2,int i64 i2, .slice PA2 pn2 pc2] 44) = w12 at *
 generalize w11.heap.size = QP at *
 have HOU:=hd_ (lout1 HA.out)
 go_wp2_with fail
 refine HOU.out.mono ?_
 rintro e w13 ⟨gO,d,A3,k3,c3,rfl,hz,hk,hr,hc⟩
 replace HA:=hd_ (HA.out.new hc)
 replace HO:=hd_ (HO.out.chg hc id)
 replace HP:=hd_ (HP.out.chg hc id)
 have HPAR:=hd_ (lparse w13 A3 k3 c3 _ hk hr)
 clear hk hr hc HOU
 go_wp2_with fail
 refine HPAR.out.mono ?_
 rintro e w14 ⟨rfl,hc⟩
 replace HA:=hd_ (HA.out.new hc)
 replace HO:=hd_ (HO.out.chg hc id)
 replace HP:=hd_ (HP.out.chg hc id)
 clear hc hz HPAR
 have hc:=(Chg.refl (fun _=>False) w14).alloc (.cells #[int i64 4,int i64 2,int i64 2,int i64 1, .string ⟨lb3.toArray⟩] 77)
 have HL : Hid (Blk (w14.alloc (.cells #[int i64 4,int i64 2,int i64 2,int i64 1, .string ⟨lb3.toArray⟩] 77)) w14.heap.size 77 #[int i64 4,int i64 2,int i64 2,int i64 1, .string ⟨lb3.toArray⟩]):=hd_ (blk_new rfl)
 replace HA:=hd_ (HA.out.new hc)
 replace HO:=hd_ (HO.out.chg hc id)
 replace HP:=hd_ (HP.out.chg hc id)
 clear hc
 unfold rlC
 go_upto_region 16 with fail
 generalize w14.alloc (.cells #[int i64 4,int i64 2,int i64 2,int i64 1, .string ⟨lb3.toArray⟩] 77) = w15 at *
 generalize w14.heap.size = QL at *
 have HKEEP : Hid (∀ W : World,Chg (fun _=>False) w15 W → (W.cell? ⟨QO,0,none⟩ = some (int i64 1) ∧ W.cell? ⟨QO,2,none⟩ = some (int i64 5) ∧ W.cell? ⟨QP,0,none⟩ = some (int i64 0) ∧ W.cell? ⟨QL,4,none⟩ = some (.string ⟨lb3.toArray⟩) ∧ W.cell? ⟨QL,2,none⟩ = some (int i64 2))):=hd_ (fun W hw=>⟨(HO.out.chg hw id).cell 0,(HO.out.chg hw id).cell 2,(HP.out.chg hw id).cell 0,(HL.out.chg hw id).cell 4,(HL.out.chg hw id).cell 2⟩)
 have HID : Hid (∀ W,Chg (fun _=>False) w15 W → Calls Tryz.prog 23 #[.pointer (some ⟨a,0,none⟩)] W fun e w'=>e = .returned (.bool false) ∧ Chg (fun _=>False) W w'):=hd_ (fun W hw=>by
  obtain ⟨D,h1,h2,h3⟩:=HA.out.new hw
  exact aidle_any h1)
 have HX:=hd_ HA.out.out
 have HXA:=hd_ ((Chg.refl (fun _=>False) w15).drew)
 have s2:=HKEEP.out _ HXA.out
 clear HO HP HL
 refine wp_region_noPanic ?_
 refine wp_region_held_drew (S:=(fun w'=>w'.cell? ⟨QO,0,none⟩ = some (int i64 1) ∧ w'.cell? ⟨QO,2,none⟩ = some (int i64 5) ∧ w'.cell? ⟨QP,0,none⟩ = some (int i64 0) ∧ w'.cell? ⟨QL,4,none⟩ = some (.string ⟨lb3.toArray⟩) ∧ w'.cell? ⟨QL,2,none⟩ = some (int i64 2))) (by kernel_rfl) s2 (fun hHeld => ?_)
 iterate 5
  first
   | refine wpAnyH_take (i:=0) (v := ?_) rfl (by kernel_rfl) (by kernel_rfl) (by decide +kernel) (fun _ _ _ h=>h) (Or.inl ⟨by rfl, ?_⟩) (by assumption) ?_
   | refine wpAnyH_take (i:=1) (v := ?_) rfl (by kernel_rfl) (by kernel_rfl) (by decide +kernel) (fun _ _ _ h=>h) (Or.inl ⟨by rfl, ?_⟩) (by assumption) ?_
   | refine wpAnyH_take (i:=2) (v := ?_) rfl (by kernel_rfl) (by kernel_rfl) (by decide +kernel) (fun _ _ _ h=>h) (Or.inl ⟨by rfl, ?_⟩) (by assumption) ?_
   | refine wpAnyH_take (i:=3) (v := ?_) rfl (by kernel_rfl) (by kernel_rfl) (by decide +kernel) (fun _ _ _ h=>h) (Or.inl ⟨by rfl, ?_⟩) (by assumption) ?_
   | refine wpAnyH_take (i:=4) (v := ?_) rfl (by kernel_rfl) (by kernel_rfl) (by decide +kernel) (fun _ _ _ h=>h) (Or.inl ⟨by rfl, ?_⟩) (by assumption) ?_
  rotate_left
  ·intro w' hSw
   try dsimp only at hSw
   go_simp
   first | done | (with_reducible rfl)
  try simp only [List.getElem_toArray,List.getElem_cons_succ,List.getElem_cons_zero,Act.put,List.setIfInBounds_toArray,List.set_cons_zero,List.set_cons_succ]
 iterate 5
  first
   | refine wpAnyH_take (i:=5) (v := ?_) rfl (by kernel_rfl) (by kernel_rfl) (by decide +kernel) (fun _ _ _ h=>h) (Or.inl ⟨by rfl, ?_⟩) (by assumption) ?_
   | refine wpAnyH_take (i:=6) (v := ?_) rfl (by kernel_rfl) (by kernel_rfl) (by decide +kernel) (fun _ _ _ h=>h) (Or.inl ⟨by rfl, ?_⟩) (by assumption) ?_
   | refine wpAnyH_take (i:=7) (v := ?_) rfl (by kernel_rfl) (by kernel_rfl) (by decide +kernel) (fun _ _ _ h=>h) (Or.inl ⟨by rfl, ?_⟩) (by assumption) ?_
   | refine wpAnyH_take (i:=8) (v := ?_) rfl (by kernel_rfl) (by kernel_rfl) (by decide +kernel) (fun _ _ _ h=>h) (Or.inl ⟨by rfl, ?_⟩) (by assumption) ?_
   | refine wpAnyH_take (i:=9) (v := ?_) rfl (by kernel_rfl) (by kernel_rfl) (by decide +kernel) (fun _ _ _ h=>h) (Or.inl ⟨by rfl, ?_⟩) (by assumption) ?_
  rotate_left
  ·intro w' hSw
   try dsimp only at hSw
   go_simp
   first | done | (with_reducible rfl)
  try simp only [List.getElem_toArray,List.getElem_cons_succ,List.getElem_cons_zero,Act.put,List.setIfInBounds_toArray,List.set_cons_zero,List.set_cons_succ]
 iterate 5
  first
   | refine wpAnyH_take (i:=10) (v := ?_) rfl (by kernel_rfl) (by kernel_rfl) (by decide +kernel) (fun _ _ _ h=>h) (Or.inl ⟨by rfl, ?_⟩) (by assumption) ?_
   | refine wpAnyH_take (i:=11) (v := ?_) rfl (by kernel_rfl) (by kernel_rfl) (by decide +kernel) (fun _ _ _ h=>h) (Or.inl ⟨by rfl, ?_⟩) (by assumption) ?_
   | refine wpAnyH_take (i:=12) (v := ?_) rfl (by kernel_rfl) (by kernel_rfl) (by decide +kernel) (fun _ _ _ h=>h) (Or.inl ⟨by rfl, ?_⟩) (by assumption) ?_
   | refine wpAnyH_take (i:=13) (v := ?_) rfl (by kernel_rfl) (by kernel_rfl) (by decide +kernel) (fun _ _ _ h=>h) (Or.inl ⟨by rfl, ?_⟩) (by assumption) ?_
   | refine wpAnyH_take (i:=14) (v := ?_) rfl (by kernel_rfl) (by kernel_rfl) (by decide +kernel) (fun _ _ _ h=>h) (Or.inl ⟨by rfl, ?_⟩) (by assumption) ?_
  rotate_left
  ·intro w' hSw
   try dsimp only at hSw
   go_simp
   first | done | (with_reducible rfl)
  try simp only [List.getElem_toArray,List.getElem_cons_succ,List.getElem_cons_zero,Act.put,List.setIfInBounds_toArray,List.set_cons_zero,List.set_cons_succ]
 iterate 5
  first
   | refine wpAnyH_take (i:=15) (v := ?_) rfl (by kernel_rfl) (by kernel_rfl) (by decide +kernel) (fun _ _ _ h=>h) (Or.inl ⟨by rfl, ?_⟩) (by assumption) ?_
   | refine wpAnyH_take (i:=16) (v := ?_) rfl (by kernel_rfl) (by kernel_rfl) (by decide +kernel) (fun _ _ _ h=>h) (Or.inl ⟨by rfl, ?_⟩) (by assumption) ?_
   | refine wpAnyH_take (i:=17) (v := ?_) rfl (by kernel_rfl) (by kernel_rfl) (by decide +kernel) (fun _ _ _ h=>h) (Or.inl ⟨by rfl, ?_⟩) (by assumption) ?_
   | refine wpAnyH_take (i:=18) (v := ?_) rfl (by kernel_rfl) (by kernel_rfl) (by decide +kernel) (fun _ _ _ h=>h) (Or.inl ⟨by rfl, ?_⟩) (by assumption) ?_
   | refine wpAnyH_take (i:=19) (v := ?_) rfl (by kernel_rfl) (by kernel_rfl) (by decide +kernel) (fun _ _ _ h=>h) (Or.inl ⟨by rfl, ?_⟩) (by assumption) ?_
  rotate_left
  ·intro w' hSw
   try dsimp only at hSw
   go_simp
   first | done | (with_reducible rfl)
  try simp only [List.getElem_toArray,List.getElem_cons_succ,List.getElem_cons_zero,Act.put,List.setIfInBounds_toArray,List.set_cons_zero,List.set_cons_succ]
 iterate 5
  first
   | refine wpAnyH_take (i:=20) (v := ?_) rfl (by kernel_rfl) (by kernel_rfl) (by decide +kernel) (fun _ _ _ h=>h) (Or.inl ⟨by rfl, ?_⟩) (by assumption) ?_
   | refine wpAnyH_take (i:=21) (v := ?_) rfl (by kernel_rfl) (by kernel_rfl) (by decide +kernel) (fun _ _ _ h=>h) (Or.inl ⟨by rfl, ?_⟩) (by assumption) ?_
   | refine wpAnyH_take (i:=22) (v := ?_) rfl (by kernel_rfl) (by kernel_rfl) (by decide +kernel) (fun _ _ _ h=>h) (Or.inl ⟨by rfl, ?_⟩) (by assumption) ?_
   | refine wpAnyH_take (i:=23) (v := ?_) rfl (by kernel_rfl) (by kernel_rfl) (by decide +kernel) (fun _ _ _ h=>h) (Or.inl ⟨by rfl, ?_⟩) (by assumption) ?_
   | refine wpAnyH_take (i:=24) (v := ?_) rfl (by kernel_rfl) (by kernel_rfl) (by decide +kernel) (fun _ _ _ h=>h) (Or.inl ⟨by rfl, ?_⟩) (by assumption) ?_
  rotate_left
  ·intro w' hSw
   try dsimp only at hSw
   go_simp
   first | done | (with_reducible rfl)
  try simp only [List.getElem_toArray,List.getElem_cons_succ,List.getElem_cons_zero,Act.put,List.setIfInBounds_toArray,List.set_cons_zero,List.set_cons_succ]
 iterate 5
  first
   | refine wpAnyH_take (i:=25) (v := ?_) rfl (by kernel_rfl) (by kernel_rfl) (by decide +kernel) (fun _ _ _ h=>h) (Or.inl ⟨by rfl, ?_⟩) (by assumption) ?_
   | refine wpAnyH_take (i:=26) (v := ?_) rfl (by kernel_rfl) (by kernel_rfl) (by decide +kernel) (fun _ _ _ h=>h) (Or.inl ⟨by rfl, ?_⟩) (by assumption) ?_
   | refine wpAnyH_take (i:=27) (v := ?_) rfl (by kernel_rfl) (by kernel_rfl) (by decide +kernel) (fun _ _ _ h=>h) (Or.inl ⟨by rfl, ?_⟩) (by assumption) ?_
   | refine wpAnyH_take (i:=28) (v := ?_) rfl (by kernel_rfl) (by kernel_rfl) (by decide +kernel) (fun _ _ _ h=>h) (Or.inl ⟨by rfl, ?_⟩) (by assumption) ?_
   | refine wpAnyH_take (i:=29) (v := ?_) rfl (by kernel_rfl) (by kernel_rfl) (by decide +kernel) (fun _ _ _ h=>h) (Or.inl ⟨by rfl, ?_⟩) (by assumption) ?_
  rotate_left
  ·intro w' hSw
   try dsimp only at hSw
   go_simp
   first | done | (with_reducible rfl)
  try simp only [List.getElem_toArray,List.getElem_cons_succ,List.getElem_cons_zero,Act.put,List.setIfInBounds_toArray,List.set_cons_zero,List.set_cons_succ]
 iterate 5
  first
   | refine wpAnyH_take (i:=30) (v := ?_) rfl (by kernel_rfl) (by kernel_rfl) (by decide +kernel) (fun _ _ _ h=>h) (Or.inl ⟨by rfl, ?_⟩) (by assumption) ?_
   | refine wpAnyH_take (i:=31) (v := ?_) rfl (by kernel_rfl) (by kernel_rfl) (by decide +kernel) (fun _ _ _ h=>h) (Or.inl ⟨by rfl, ?_⟩) (by assumption) ?_
   | refine wpAnyH_take (i:=32) (v := ?_) rfl (by kernel_rfl) (by kernel_rfl) (by decide +kernel) (fun _ _ _ h=>h) (Or.inl ⟨by rfl, ?_⟩) (by assumption) ?_
   | refine wpAnyH_take (i:=33) (v := ?_) rfl (by kernel_rfl) (by kernel_rfl) (by decide +kernel) (fun _ _ _ h=>h) (Or.inl ⟨by rfl, ?_⟩) (by assumption) ?_
   | refine wpAnyH_take (i:=34) (v := ?_) rfl (by kernel_rfl) (by kernel_rfl) (by decide +kernel) (fun _ _ _ h=>h) (Or.inl ⟨by rfl, ?_⟩) (by assumption) ?_
  rotate_left
  ·intro w' hSw
   try dsimp only at hSw
   go_simp
   first | done | (with_reducible rfl)
  try simp only [List.getElem_toArray,List.getElem_cons_succ,List.getElem_cons_zero,Act.put,List.setIfInBounds_toArray,List.set_cons_zero,List.set_cons_succ]
 iterate 5
  first
   | refine wpAnyH_take (i:=35) (v := ?_) rfl (by kernel_rfl) (by kernel_rfl) (by decide +kernel) (fun _ _ _ h=>h) (Or.inl ⟨by rfl, ?_⟩) (by assumption) ?_
   | refine wpAnyH_take (i:=36) (v := ?_) rfl (by kernel_rfl) (by kernel_rfl) (by decide +kernel) (fun _ _ _ h=>h) (Or.inl ⟨by rfl, ?_⟩) (by assumption) ?_
   | refine wpAnyH_take (i:=37) (v := ?_) rfl (by kernel_rfl) (by kernel_rfl) (by decide +kernel) (fun _ _ _ h=>h) (Or.inl ⟨by rfl, ?_⟩) (by assumption) ?_
   | refine wpAnyH_take (i:=38) (v := ?_) rfl (by kernel_rfl) (by kernel_rfl) (by decide +kernel) (fun _ _ _ h=>h) (Or.inl ⟨by rfl, ?_⟩) (by assumption) ?_
   | refine wpAnyH_take (i:=39) (v := ?_) rfl (by kernel_rfl) (by kernel_rfl) (by decide +kernel) (fun _ _ _ h=>h) (Or.inl ⟨by rfl, ?_⟩) (by assumption) ?_
  rotate_left
  ·intro w' hSw
   try dsimp only at hSw
   go_simp
   first | done | (with_reducible rfl)
  try simp only [List.getElem_toArray,List.getElem_cons_succ,List.getElem_cons_zero,Act.put,List.setIfInBounds_toArray,List.set_cons_zero,List.set_cons_succ]
 refine wpAnyH_take (i:=40) (v := ?_) rfl (by kernel_rfl) (by kernel_rfl) (by kernel_rfl) (fun _ _ _ h=>h) (Or.inl ⟨by rfl, ?_⟩) (by assumption) ?_
 rotate_left
 ·intro w' hSw
  try dsimp only at hSw
  go_simp
  first | done | (with_reducible rfl)
 try simp only [List.getElem_toArray,List.getElem_cons_succ,List.getElem_cons_zero,Act.put,List.setIfInBounds_toArray,List.set_cons_zero,List.set_cons_succ]
 refine wpAnyH_ready (rs := [41]) (by kernel_rfl) (by simp) ?_
 refine AllReadyH.cons rfl (fun K hK => ?_) AllReadyH.nil
 go_simp
 refine (HB3.out _).mono ?_
 rintro e wb ⟨E,d,rfl,hr,hz,hc⟩
 have s6:=conv_any (c:=d) hr
 have HXB:=hd_ (HXA.out.trans hc (fun _ _ e=>e))
 have s2:=HKEEP.out _ HXB.out
 clear hr hz hc
 go_wp2_with fail
 refine hK.out _ _ s2 (fun hHeld => ?_)
 clear hK K
 try simp only [List.getElem_toArray,List.getElem_cons_succ,List.getElem_cons_zero,Act.put,List.setIfInBounds_toArray,List.set_cons_zero,List.set_cons_succ]
 refine wpAnyH_ready (rs := [42]) (by kernel_rfl) (by simp) ?_
 refine AllReadyH.cons rfl (fun K hK => ?_) AllReadyH.nil
 go_simp
 refine hK.out _ _ s2 (fun hHeld => ?_)
 clear hK K
 try simp only [List.getElem_toArray,List.getElem_cons_succ,List.getElem_cons_zero,Act.put,List.setIfInBounds_toArray,List.set_cons_zero,List.set_cons_succ]
 iterate 5
  first
   | refine wpAnyH_take (i:=43) (v := ?_) rfl (by kernel_rfl) (by kernel_rfl) (by decide +kernel) (fun _ _ _ h=>h) (Or.inl ⟨by rfl, ?_⟩) (by assumption) ?_
   | refine wpAnyH_take (i:=44) (v := ?_) rfl (by kernel_rfl) (by kernel_rfl) (by decide +kernel) (fun _ _ _ h=>h) (Or.inl ⟨by rfl, ?_⟩) (by assumption) ?_
   | refine wpAnyH_take (i:=45) (v := ?_) rfl (by kernel_rfl) (by kernel_rfl) (by decide +kernel) (fun _ _ _ h=>h) (Or.inl ⟨by rfl, ?_⟩) (by assumption) ?_
   | refine wpAnyH_take (i:=46) (v := ?_) rfl (by kernel_rfl) (by kernel_rfl) (by decide +kernel) (fun _ _ _ h=>h) (Or.inl ⟨by rfl, ?_⟩) (by assumption) ?_
   | refine wpAnyH_take (i:=47) (v := ?_) rfl (by kernel_rfl) (by kernel_rfl) (by decide +kernel) (fun _ _ _ h=>h) (Or.inl ⟨by rfl, ?_⟩) (by assumption) ?_
  rotate_left
  ·intro w' hSw
   try dsimp only at hSw
   go_simp
   first | done | (with_reducible rfl)
  try simp only [List.getElem_toArray,List.getElem_cons_succ,List.getElem_cons_zero,Act.put,List.setIfInBounds_toArray,List.set_cons_zero,List.set_cons_succ]
 iterate 4
  first
   | refine wpAnyH_take (i:=48) (v := ?_) rfl (by kernel_rfl) (by kernel_rfl) (by decide +kernel) (fun _ _ _ h=>h) (Or.inl ⟨by rfl, ?_⟩) (by assumption) ?_
   | refine wpAnyH_take (i:=49) (v := ?_) rfl (by kernel_rfl) (by kernel_rfl) (by decide +kernel) (fun _ _ _ h=>h) (Or.inl ⟨by rfl, ?_⟩) (by assumption) ?_
   | refine wpAnyH_take (i:=50) (v := ?_) rfl (by kernel_rfl) (by kernel_rfl) (by decide +kernel) (fun _ _ _ h=>h) (Or.inl ⟨by rfl, ?_⟩) (by assumption) ?_
   | refine wpAnyH_take (i:=51) (v := ?_) rfl (by kernel_rfl) (by kernel_rfl) (by decide +kernel) (fun _ _ _ h=>h) (Or.inl ⟨by rfl, ?_⟩) (by assumption) ?_
  rotate_left
  ·intro w' hSw
   try dsimp only at hSw
   go_simp
   first | done | (with_reducible rfl)
  try simp only [List.getElem_toArray,List.getElem_cons_succ,List.getElem_cons_zero,Act.put,List.setIfInBounds_toArray,List.set_cons_zero,List.set_cons_succ]
 refine wpAnyH_ready (rs := [52]) (by kernel_rfl) (by simp) ?_
 refine AllReadyH.cons rfl (fun K hK => ?_) AllReadyH.nil
 go_simp
 refine (HID.out _ HXB.out).mono ?_
 rintro e wc ⟨rfl,hc⟩
 have HXC:=hd_ (HXB.out.trans hc (fun _ _ e=>e))
 have s2:=HKEEP.out _ HXC.out
 clear hc
 go_wp2_with fail
 refine hK.out _ _ s2 (fun hHeld => ?_)
 clear hK K
 try simp only [List.getElem_toArray,List.getElem_cons_succ,List.getElem_cons_zero,Act.put,List.setIfInBounds_toArray,List.set_cons_zero,List.set_cons_succ]
 iterate 3
  first
   | refine wpAnyH_take (i:=53) (v := ?_) rfl (by kernel_rfl) (by kernel_rfl) (by decide +kernel) (fun _ _ _ h=>h) (Or.inl ⟨by rfl, ?_⟩) (by assumption) ?_
   | refine wpAnyH_take (i:=54) (v := ?_) rfl (by kernel_rfl) (by kernel_rfl) (by decide +kernel) (fun _ _ _ h=>h) (Or.inl ⟨by rfl, ?_⟩) (by assumption) ?_
   | refine wpAnyH_take (i:=55) (v := ?_) rfl (by kernel_rfl) (by kernel_rfl) (by decide +kernel) (fun _ _ _ h=>h) (Or.inl ⟨by rfl, ?_⟩) (by assumption) ?_
  rotate_left
  ·intro w' hSw
   try dsimp only at hSw
   go_simp
   first | done | (with_reducible rfl)
  try simp only [List.getElem_toArray,List.getElem_cons_succ,List.getElem_cons_zero,Act.put,List.setIfInBounds_toArray,List.set_cons_zero,List.set_cons_succ]
 refine wpAnyH_done (by kernel_rfl) ?_ _
 refine NoPanic.normal ?_
 clear hHeld s2 HKEEP
 go_wp2_with fail
 go_ret
 exact ⟨rfl,HX.out.trans HXC.out (fun _ _ e=>e)⟩
end Go.Proofs.YtfajcdobikjcdaaGreatDoor
