/-
  Walk: agent.Guest. Conditions: the agent, the load, the table of widths lie in memory.
-/
import Derived.Test.YtfajcdobikjcdaaGreatDoorAk
import Derived.Deep.Cut
import Derived.Deep.DeepCutAuto
set_option maxRecDepth 100000
set_option maxHeartbeats 40000000
set_option linter.unusedVariables false
set_option linter.unusedSimpArgs false
namespace Go.Proofs.YtfajcdobikjcdaaGreatDoor
open Go.Value (int)
open Go.IntKind (i64)
open Go.RowKit
def GP16 (a ps q m : Nat) (D : Nat → Prop) (r : AV × OV × Int) (w : World) (e : Ending) (w' : World) : Prop :=
 ∃ FA fn fc PA pn pc,e = .returned (.tuple #[.agg (ouC15 r.2.1.kd r.2.1.po r.2.1.ge r.2.1.st FA fn fc r.2.1.k r.2.1.o r.2.1.f r.2.1.t r.2.1.p r.2.1.g r.2.1.i PA pn pc),int i64 r.2.2]) ∧ BsM15 w' FA fn fc r.2.1.fb ∧ AMv a ps q m D r.1 w w'
def GX16 (D : Nat → Prop) (v : OV) (er : Int) (w1 : World) (s10 s11 : Value) (wx : World) : Prop :=
 ∃ Q FA fn fc PA pn pc,s10 = .pointer (some ⟨Q,0,none⟩) ∧ s11 = int i64 er ∧ Blk wx Q 44 (ouC15 v.kd v.po v.ge v.st FA fn fc v.k v.o v.f v.t v.p v.g v.i PA pn pc) ∧ BsS15 (fun k => ¬ D k) wx FA fn fc v.fb ∧ Chg (fun _=>False) w1 wx
def guestV16 (x : AV) (d s t : Int) (n : Nat) (l : List UInt8) (nu : Int) : OV:=gV16 x.c (rwA x.R) d s t n l nu
def guestO16 (x : AV) (aw : Option Nat) (v : OV) (t : Int) (l : List UInt8) (now : Int) : AV × OV × Int :=
 match aw with
 | some i=>(settle16 { x with V:=at16 x.V i (x.R i).ve } now,zOV,0)
 | none=>(note16 x v.kd t l now,v,0)
def guest16 (x : AV) (d s t : Int) (n : Nat) (l : List UInt8) (now nu : Int) : AV × OV × Int :=
 if tmB now = true then
  if gE16 d s t n nu = 0 then guestO16 x (aw16 x d s t n l) (guestV16 x d s t n l nu) t l now else (x,zOV,gE16 d s t n nu)
 else (x,zOV,1)
theorem guest_time {x : AV} {d s t : Int} {n : Nat} {l : List UInt8} {now nu : Int} (h : tmB now = false) : guest16 x d s t n l now nu = (x,zOV,1):=by unfold guest16; rw [h]; rfl
theorem guest_err {x : AV} {d s t : Int} {n : Nat} {l : List UInt8} {now nu : Int} (h : tmB now = true) (h2 : ¬ gE16 d s t n nu = 0) : guest16 x d s t n l now nu = (x,zOV,gE16 d s t n nu):=by unfold guest16; rw [if_pos h,if_neg h2]
theorem guest_ok {x : AV} {d s t : Int} {n : Nat} {l : List UInt8} {now nu : Int} (h : tmB now = true) (h2 : gE16 d s t n nu = 0) : guest16 x d s t n l now nu = guestO16 x (aw16 x d s t n l) (guestV16 x d s t n l nu) t l now:=by unfold guest16; rw [if_pos h,if_pos h2]
theorem AOk.wait {j : Nat} {x : AV} (h : AOk j x) (V : Nat → Int) : AOk j { x with V:=V }:=⟨h.c0,h.s,h.lf,h.fl,h.rn,h.rw⟩
theorem AOk.guest {j : Nat} {x : AV} (h : AOk j x) (d s t : Int) (n : Nat) (l : List UInt8) (now nu : Int) : AOk j (guest16 x d s t n l now nu).1:=by
 unfold guest16
 split
 ·split
  ·unfold guestO16
   split
   ·dsimp only
    exact (h.wait _).settle now
   ·dsimp only
    exact h.note _ _ _ _
  ·exact h
 ·exact h
theorem guest_up (x : AV) (d s t : Int) (n : Nat) (l : List UInt8) (now nu : Int) : Up16 x (guest16 x d s t n l now nu).1:=by
 unfold guest16
 split
 ·split
  ·unfold guestO16
   split
   ·rename_i i _
    have h1 : Up16 x { x with V:=at16 x.V i (x.R i).ve }:=⟨rfl,fun _ _ => .inl rfl⟩
    have h2:=h1.trans (settle_up _ now)
    dsimp only
    exact h2
   ·dsimp only
    exact note_up _ _ _ _ _
  ·exact Up16.refl x
 ·exact Up16.refl x
theorem aguest_any {w : World} {a ps q m : Nat} {D : Nat → Prop} {x : AV} {n0 : Nat} (h : AM w a ps q m D x) (hok : AOk n0 x) (hg : Gw w) (d s t : Int) (A : Option Addr) (n c : Nat) (l : List UInt8) (hb : BsM15 w A n c l) (hnc : n ≤ c) (hcm : c ≤ maxLen) (hd : 0 ≤ d) (hs : 0 ≤ s) (hbn : n ≤ 100000) (now nu : Int) : Calls Tryz.prog 9 #[.pointer (some ⟨a,0,none⟩), .agg #[int .u64 d,int .u64 s,int i64 t, .slice A n c],int i64 now,int i64 nu] w (GP16 a ps q m D (guest16 x d s t n l now nu) w):=by
 have HM:=hd_ h
 have HOK:=hd_ hok
 have HG:=hd_ hg
 have HBL:=hd_ hb
 have HNC:=hd_ hnc
 have HCM:=hd_ hcm
 have HD:=hd_ hd
 have HS:=hd_ hs
 have HBN:=hd_ hbn
 have HLT:=hd_ h.lt
 have HTM:=hd_ (fun W=>atime_any now W)
 have hx0:=((Chg.refl (fun _=>False) w).alloc (.cells #[int .u64 d,int .u64 s,int i64 t, .slice A n c] 34)).alloc (.cells #[int i64 0,int i64 0,int i64 0,int i64 0, .slice none 0 0,int i64 0,int i64 0,int i64 0,int i64 0,int i64 0,int i64 0,int i64 0, .slice none 0 0] 44)
 have HB : Hid (Blk ((w.alloc (.cells #[int .u64 d,int .u64 s,int i64 t, .slice A n c] 34)).alloc (.cells #[int i64 0,int i64 0,int i64 0,int i64 0, .slice none 0 0,int i64 0,int i64 0,int i64 0,int i64 0,int i64 0,int i64 0,int i64 0, .slice none 0 0] 44)) w.heap.size 34 #[int .u64 d,int .u64 s,int i64 t, .slice A n c]):=hd_ ((blk_new rfl).alloc _)
 have HZ : Hid (Blk ((w.alloc (.cells #[int .u64 d,int .u64 s,int i64 t, .slice A n c] 34)).alloc (.cells #[int i64 0,int i64 0,int i64 0,int i64 0, .slice none 0 0,int i64 0,int i64 0,int i64 0,int i64 0,int i64 0,int i64 0,int i64 0, .slice none 0 0] 44)) (w.heap.size + 1) 44 (ouC15 0 0 0 0 none 0 0 0 0 0 0 0 0 0 none 0 0)):=hd_ (blk_new (by simp))
 have HQZ : Hid (w.heap.size ≤ w.heap.size + 1):=hd_ (by omega)
 replace HM:=hd_ (HM.out.new hx0)
 have HX:=hd_ hx0
 clear h hok hg hb hnc hcm hd hs hbn hx0
 go_enter Tryz.func9,Tryz.ntmps9
 go_upto_region 1 with fail
 generalize (w.alloc (.cells #[int .u64 d,int .u64 s,int i64 t, .slice A n c] 34)).alloc (.cells #[int i64 0,int i64 0,int i64 0,int i64 0, .slice none 0 0,int i64 0,int i64 0,int i64 0,int i64 0,int i64 0,int i64 0,int i64 0, .slice none 0 0] 44) = w1 at *
 generalize w.heap.size + 1 = QZ at *
 generalize w.heap.size = QF at HB ⊢
 cases htm : tmB now with
 | false =>
  rw [htm] at HTM
  have HT:=hd_ (guest_time (x:=x) (d:=d) (s:=s) (t:=t) (n:=n) (l:=l) (nu:=nu) htm)
  clear htm
  go_wp2_with fail
  refine (HTM.out _).mono ?_
  rintro e w3 ⟨rfl,rfl⟩
  have HMF:=HM
  have HXF : Hid (Mv16 D D w _):=hd_ (Mv16.of HX.out)
  obtain ⟨x0,x1,x2,x3,x4,x5,x6,x7,x8,x9,x10,x11,x12⟩:=ou_cells15 HZ.out
  obtain ⟨u0,u1,u2,u3,u4,u5,u6,u7,u8,u9,u10,u11,u12⟩:=ou_free15 HZ.out
  obtain ⟨r0,r1,r2,r3,r4,r5,r6,r7,r8,r9,r10,r11,r12,hcs⟩:=ou_put15 HZ.out rfl 0 0 0 0 none 0 0 0 0 0 0 0 0 0 none 0 0
  have RR:=hd_ (And.intro r0 (And.intro r1 (And.intro r2 (And.intro r3 (And.intro r4 (And.intro r5 (And.intro r6 (And.intro r7 (And.intro r8 (And.intro r9 (And.intro r10 (And.intro r11 r12))))))))))))
  have HMG:=hd_ (HMF.out.put8 HZ.out noU8_ou (by decide) (by decide) (by decide) (by decide) (by decide) hcs)
  have HXG:=hd_ (HXF.out.put hcs HQZ.out)
  have HBG:=hd_ ((BsM15.nil _).put HZ.out noU8_ou hcs)
  clear r0 r1 r2 r3 r4 r5 r6 r7 r8 r9 r10 r11 r12 hcs
  go_wp2_with fail
  obtain ⟨r0,r1,r2,r3,r4,r5,r6,r7,r8,r9,r10,r11,r12⟩:=RR.out
  exact bodyPost_ret (v := .tuple #[.agg #[int i64 0,int i64 0,int i64 0,int i64 0, .slice none 0 0,int i64 0,int i64 0,int i64 0,int i64 0,int i64 0,int i64 0,int i64 0, .slice none 0 0],int i64 1]) (by simp [results,Tryz.results9,go_sem,r0,r1,r2,r3,r4,r5,r6,r7,r8,r9,r10,r11,r12]) rfl (by rw [HT.out]; exact ⟨none,0,0,none,0,0,rfl,HBG.out,_,HMG.out,HXG.out⟩)
 | true =>
  rw [htm] at HTM
  have HTR:=hd_ (guest_err (x:=x) (d:=d) (s:=s) (t:=t) (n:=n) (l:=l) (nu:=nu) htm)
  have HTO:=hd_ (guest_ok (x:=x) (d:=d) (s:=s) (t:=t) (n:=n) (l:=l) (nu:=nu) htm)
  clear htm
  go_wp2_with fail
  refine (HTM.out _).mono ?_
  rintro e w3 ⟨rfl,rfl⟩
  clear HTM
  have HTB:=hd_ (fun W (hW : Chg (fun _=>False) w1 W)=>atable_any (HM.out.new hW))
  have HLR:=hd_ (show (cp14 x.c (rwA x.R)).length ≤ 256 from by have h1:=cp14_len x.c (rwA x.R); have h2:=rwK_len x.R 32; unfold rwA at h1 ⊢; omega)
  have hdg:=fun W (tp : Nat) (hW : Chg (fun _=>False) w1 W) (htf : TF W tp (cp14 x.c (rwA x.R)))=>dguest16 (S15:=fun k => ¬ D k) htf HLR.out HOK.out.c0 d s t nu A n c l HD.out HS.out (by have:=HBN.out; omega) (HBL.out.chg (HX.out.trans hW (fun _ _ e=>e))) (fun k hk e=>by have h1:=HLT.out k e; have h2:=HX.out.size; have h3:=hW.size; omega)
  replace hdg : ∀ W (tp : Nat),Chg (fun _=>False) w1 W → TF W tp (cp14 x.c (rwA x.R)) → Calls _ _ _ W (HE15 (fun k => ¬ D k) (guestV16 x d s t n l nu) (gE16 d s t n nu) W):=hdg
  generalize guestV16 x d s t n l nu = v at *
  generalize gE16 d s t n nu = er at *
  unfold HE15 ouC15 at hdg
  have HDG:=hd_ hdg
  clear hdg
  have HKEEP : Hid (∀ W : World,Chg (fun _=>False) w1 W → (W.cell? ⟨QF,0,none⟩ = some (int .u64 d) ∧ W.cell? ⟨QF,1,none⟩ = some (int .u64 s) ∧ W.cell? ⟨QF,2,none⟩ = some (int i64 t) ∧ W.cell? ⟨QF,3,none⟩ = some (.slice A n c) ∧ W.cell? ⟨a,1,none⟩ = some (int i64 x.c))):=hd_ (fun W hW=>by
   have y0:=(HB.out.chg hW id).cell 0
   have y1:=(HB.out.chg hW id).cell 1
   have y2:=(HB.out.chg hW id).cell 2
   have y3:=(HB.out.chg hW id).cell 3
   simp only [List.getElem?_toArray,List.getElem?_cons_zero,List.getElem?_cons_succ] at y0 y1 y2 y3
   exact ⟨y0,y1,y2,y3,(HM.out.new hW).ab.c1⟩)
  have HXA:=hd_ (Chg.refl (fun _=>False) w1).drew
  have HXA2:=hd_ (((Chg.refl (fun _=>False) w1).alloc (.cells #[int i64 0,int i64 0,int i64 0,int i64 0, .slice none 0 0,int i64 0,int i64 0,int i64 0,int i64 0,int i64 0,int i64 0,int i64 0, .slice none 0 0] 44)).drew)
  have HNA : Hid (Blk (w1.alloc (.cells #[int i64 0,int i64 0,int i64 0,int i64 0, .slice none 0 0,int i64 0,int i64 0,int i64 0,int i64 0,int i64 0,int i64 0,int i64 0, .slice none 0 0] 44)).drew w1.heap.size 44 (ouC15 0 0 0 0 none 0 0 0 0 0 0 0 0 0 none 0 0)):=hd_ (blk_new rfl).drew
  go_upto_region 3 with fail
  go_cut [10,11] (fun s10 s11 wx=>GX16 D v er w1 s10 s11 wx)
  case first =>
   obtain ⟨y0,y1,y2,y3,c1⟩:=HKEEP.out _ HXA.out
   go_region_held3 (fun w'=>(w'.cell? ⟨QF,0,none⟩ = some (int .u64 d) ∧ w'.cell? ⟨QF,1,none⟩ = some (int .u64 s) ∧ w'.cell? ⟨QF,2,none⟩ = some (int i64 t) ∧ w'.cell? ⟨QF,3,none⟩ = some (.slice A n c) ∧ w'.cell? ⟨a,1,none⟩ = some (int i64 x.c)))
    (first | with_reducible exact HKEEP.out _ HXA.out | with_reducible exact HKEEP.out _ HXA2.out | with_reducible exact HKEEP.out _ HXT.out | with_reducible exact HKEEP.out _ (HXT.out.alloc _) | with_reducible exact HKEEP.out _ HXU.out | with_reducible exact HKEEP.out _ HXwg.out | with_reducible exact HKEEP.out _ (HXwg.out.alloc _) | with_reducible exact HKEEP.out _ HXwh.out | with_reducible exact HKEEP.out _ HXSwh.out | with_reducible exact HKEEP.out _ HXwi.out | with_reducible exact HKEEP.out _ HXSwi.out | fail)
    (first
     | (go_at_call 31; (with_reducible refine (HTB.out w1.drew HXA.out).mono ?_); rintro e wt ⟨tp,rfl,htf,hc⟩; have HXT:=hd_ (HXA.out.trans hc (fun _ _ e=>e)); have HTF:=hd_ htf; have HNT : Hid (Blk (wt.alloc (.cells #[int i64 0,int i64 0,int i64 0,int i64 0, .slice none 0 0,int i64 0,int i64 0,int i64 0,int i64 0,int i64 0,int i64 0,int i64 0, .slice none 0 0] 44)) wt.heap.size 44 (ouC15 0 0 0 0 none 0 0 0 0 0 0 0 0 0 none 0 0)):=hd_ (blk_new rfl); clear htf hc)
     | (go_at_call 31; (with_reducible refine (HTB.out (w1.alloc (.cells #[int i64 0,int i64 0,int i64 0,int i64 0, .slice none 0 0,int i64 0,int i64 0,int i64 0,int i64 0,int i64 0,int i64 0,int i64 0, .slice none 0 0] 44)).drew HXA2.out).mono ?_); rintro e wu ⟨tp,rfl,htf,hc⟩; have HXU:=hd_ (HXA2.out.trans hc (fun _ _ e=>e)); have HTU:=hd_ htf; have HNU:=hd_ (HNA.out.chg hc id); clear htf hc)
     | (go_at_call 30; (with_reducible refine (HDG.out wu tp HXU.out HTU.out).mono ?_); rintro e wi ⟨FA,fn,fc,PA,pn,pc,rfl,hb1,hb2,hc⟩; have HXwi:=hd_ ((HXU.out).trans hc (fun _ _ e=>e)); have HBwi:=hd_ hb1; have HNwi:=hd_ (HNU.out.chg hc id); obtain ⟨n0,n1,n2,n3,n4,n5,n6,n7,n8,n9,n10,n11,n12⟩:=ou_cells15 HNwi.out; obtain ⟨u0,u1,u2,u3,u4,u5,u6,u7,u8,u9,u10,u11,u12⟩:=ou_free15 HNwi.out; obtain ⟨-, -, -, -, -, -, -, -, -, -, -, -, -,hcs⟩:=ou_put15 HNwi.out rfl v.kd v.po v.ge v.st FA fn fc v.k v.o v.f v.t v.p v.g v.i PA pn pc; have hset:=ou_set16 HNwi.out v.kd v.po v.ge v.st FA fn fc v.k v.o v.f v.t v.p v.g v.i PA pn pc; have HXSwi:=hd_ (fresh_set HXwi.out hcs (Nat.le_refl _)); have HWwi : Hid (GX16 D v er w1 (.pointer (some ⟨w1.heap.size,0,none⟩)) (int i64 er) (((((((((((((wi.setCell ⟨w1.heap.size,0,none⟩ (int i64 v.kd)).setCell ⟨w1.heap.size,1,none⟩ (int i64 v.po)).setCell ⟨w1.heap.size,2,none⟩ (int i64 v.ge)).setCell ⟨w1.heap.size,3,none⟩ (int i64 v.st)).setCell ⟨w1.heap.size,4,none⟩ (.slice FA fn fc)).setCell ⟨w1.heap.size,5,none⟩ (int i64 v.k)).setCell ⟨w1.heap.size,6,none⟩ (int i64 v.o)).setCell ⟨w1.heap.size,7,none⟩ (int i64 v.f)).setCell ⟨w1.heap.size,8,none⟩ (int i64 v.t)).setCell ⟨w1.heap.size,9,none⟩ (int i64 v.p)).setCell ⟨w1.heap.size,10,none⟩ (int i64 v.g)).setCell ⟨w1.heap.size,11,none⟩ (int i64 v.i)).setCell ⟨w1.heap.size,12,none⟩ (.slice PA pn pc))):=hd_ ⟨_,FA,fn,fc,PA,pn,pc,rfl,rfl,hset,HBwi.out.put HNwi.out noU8_ou hcs,HXSwi.out⟩; clear hset hcs; clear hb1 hb2 hc)
     | (go_at_call 30; (with_reducible refine (HDG.out wt tp HXT.out HTF.out).mono ?_); rintro e wg ⟨FA,fn,fc,PA,pn,pc,rfl,hb1,hb2,hc⟩; have HXwg:=hd_ ((HXT.out).trans hc (fun _ _ e=>e)); have HBwg:=hd_ hb1; clear hb1 hb2 hc)
     | (go_at_call 30; (with_reducible refine (HDG.out (wt.alloc (.cells #[int i64 0,int i64 0,int i64 0,int i64 0, .slice none 0 0,int i64 0,int i64 0,int i64 0,int i64 0,int i64 0,int i64 0,int i64 0, .slice none 0 0] 44)) tp (HXT.out.alloc (.cells #[int i64 0,int i64 0,int i64 0,int i64 0, .slice none 0 0,int i64 0,int i64 0,int i64 0,int i64 0,int i64 0,int i64 0,int i64 0, .slice none 0 0] 44)) (HTF.out.chg ((Chg.refl (fun _=>False) wt).alloc (.cells #[int i64 0,int i64 0,int i64 0,int i64 0, .slice none 0 0,int i64 0,int i64 0,int i64 0,int i64 0,int i64 0,int i64 0,int i64 0, .slice none 0 0] 44)))).mono ?_); rintro e wh ⟨FA,fn,fc,PA,pn,pc,rfl,hb1,hb2,hc⟩; have HXwh:=hd_ (((HXT.out.alloc (.cells #[int i64 0,int i64 0,int i64 0,int i64 0, .slice none 0 0,int i64 0,int i64 0,int i64 0,int i64 0,int i64 0,int i64 0,int i64 0, .slice none 0 0] 44))).trans hc (fun _ _ e=>e)); have HBwh:=hd_ hb1; have HNwh:=hd_ (HNT.out.chg hc id); obtain ⟨n0,n1,n2,n3,n4,n5,n6,n7,n8,n9,n10,n11,n12⟩:=ou_cells15 HNwh.out; obtain ⟨u0,u1,u2,u3,u4,u5,u6,u7,u8,u9,u10,u11,u12⟩:=ou_free15 HNwh.out; obtain ⟨-, -, -, -, -, -, -, -, -, -, -, -, -,hcs⟩:=ou_put15 HNwh.out rfl v.kd v.po v.ge v.st FA fn fc v.k v.o v.f v.t v.p v.g v.i PA pn pc; have hset:=ou_set16 HNwh.out v.kd v.po v.ge v.st FA fn fc v.k v.o v.f v.t v.p v.g v.i PA pn pc; have HXSwh:=hd_ (fresh_set HXwh.out hcs HXT.out.size); have HWwh : Hid (GX16 D v er w1 (.pointer (some ⟨wt.heap.size,0,none⟩)) (int i64 er) (((((((((((((wh.setCell ⟨wt.heap.size,0,none⟩ (int i64 v.kd)).setCell ⟨wt.heap.size,1,none⟩ (int i64 v.po)).setCell ⟨wt.heap.size,2,none⟩ (int i64 v.ge)).setCell ⟨wt.heap.size,3,none⟩ (int i64 v.st)).setCell ⟨wt.heap.size,4,none⟩ (.slice FA fn fc)).setCell ⟨wt.heap.size,5,none⟩ (int i64 v.k)).setCell ⟨wt.heap.size,6,none⟩ (int i64 v.o)).setCell ⟨wt.heap.size,7,none⟩ (int i64 v.f)).setCell ⟨wt.heap.size,8,none⟩ (int i64 v.t)).setCell ⟨wt.heap.size,9,none⟩ (int i64 v.p)).setCell ⟨wt.heap.size,10,none⟩ (int i64 v.g)).setCell ⟨wt.heap.size,11,none⟩ (int i64 v.i)).setCell ⟨wt.heap.size,12,none⟩ (.slice PA pn pc))):=hd_ ⟨_,FA,fn,fc,PA,pn,pc,rfl,rfl,hset,HBwh.out.put HNwh.out noU8_ou hcs,HXSwh.out⟩; clear hset hcs; clear hb1 hb2 hc)
     | fail)
   all_goals
    go_wp2_with fail
    go_meet
    first
     | exact HWwi.out
     | exact HWwh.out
     | exact ⟨wg.heap.size,FA,fn,fc,PA,pn,pc,rfl,rfl,blk_new rfl,HBwg.out.alloc _,HXwg.out.alloc _⟩
  case rest =>
   obtain ⟨QB,FA,fn,fc,PA,pn,pc,rfl,rfl,hbq,hbf,hxw⟩:=hcut
   have HBQ:=hd_ hbq
   have HBS:=hd_ hbf
   replace HM:=hd_ (HM.out.new hxw)
   replace HX:=hd_ (HX.out.trans hxw (fun _ _ e=>e))
   replace HZ:=hd_ (HZ.out.chg hxw id)
   replace HB:=hd_ (HB.out.chg hxw id)
   clear hbq hbf hxw HKEEP HXA HXA2 HNA HTB HDG
   by_cases her : er = 0
   case neg =>
    have te : (er != 0) = true:=by simpa using her
    have HT:=hd_ (HTR.out her)
    have HMF:=HM
    have HXF : Hid (Mv16 D D w _):=hd_ (Mv16.of HX.out)
    clear her
    obtain ⟨x0,x1,x2,x3,x4,x5,x6,x7,x8,x9,x10,x11,x12⟩:=ou_cells15 HZ.out
    obtain ⟨u0,u1,u2,u3,u4,u5,u6,u7,u8,u9,u10,u11,u12⟩:=ou_free15 HZ.out
    obtain ⟨r0,r1,r2,r3,r4,r5,r6,r7,r8,r9,r10,r11,r12,hcs⟩:=ou_put15 HZ.out rfl 0 0 0 0 none 0 0 0 0 0 0 0 0 0 none 0 0
    have RR:=hd_ (And.intro r0 (And.intro r1 (And.intro r2 (And.intro r3 (And.intro r4 (And.intro r5 (And.intro r6 (And.intro r7 (And.intro r8 (And.intro r9 (And.intro r10 (And.intro r11 r12))))))))))))
    have HMG:=hd_ (HMF.out.put8 HZ.out noU8_ou (by decide) (by decide) (by decide) (by decide) (by decide) hcs)
    have HXG:=hd_ (HXF.out.put hcs HQZ.out)
    have HBG:=hd_ ((BsM15.nil _).put HZ.out noU8_ou hcs)
    clear r0 r1 r2 r3 r4 r5 r6 r7 r8 r9 r10 r11 r12 hcs
    go_wp2_with fail
    obtain ⟨r0,r1,r2,r3,r4,r5,r6,r7,r8,r9,r10,r11,r12⟩:=RR.out
    exact bodyPost_ret (v := .tuple #[.agg #[int i64 0,int i64 0,int i64 0,int i64 0, .slice none 0 0,int i64 0,int i64 0,int i64 0,int i64 0,int i64 0,int i64 0,int i64 0, .slice none 0 0],int i64 er]) (by simp [results,Tryz.results9,go_sem,r0,r1,r2,r3,r4,r5,r6,r7,r8,r9,r10,r11,r12]) rfl (by rw [HT.out]; exact ⟨none,0,0,none,0,0,rfl,HBG.out,_,HMG.out,HXG.out⟩)
   case pos =>
    subst her
    have HT:=hd_ (HTO.out rfl)
    clear HTO HTR
    have haw:=aawait_any HM.out d s t A n c l _ HBL.out.2.1 (HBL.out.2.2.chg HX.out (fun _ _=>id)) HNC.out HCM.out HD.out HS.out
    have y0:=HB.out.cell 0
    have y1:=HB.out.cell 1
    have y2:=HB.out.cell 2
    have y3:=HB.out.cell 3
    simp only [List.getElem?_toArray,List.getElem?_cons_zero,List.getElem?_cons_succ] at y0 y1 y2 y3
    cases hawv : aw16 x d s t n l with
    | some ix =>
     rw [hawv] at haw HT
     have hix : ix < 32:=by
      unfold aw16 at hawv
      split at hawv
      ·exact awK_lt hawv
      ·cases hawv
     replace HT : Hid (guest16 x d s t n l now nu = (settle16 { x with V:=at16 x.V ix (x.R ix).ve } now,zOV,0)):=HT
     have HAW:=hd_ haw
     clear haw hawv
     go_wp2_with fail
     refine HAW.out.mono ?_
     rintro e w4 ⟨rfl,hc⟩
     replace HM:=hd_ (HM.out.new hc)
     replace HX:=hd_ (HX.out.trans hc (fun _ _ e=>e))
     replace HZ:=hd_ (HZ.out.chg hc id)
     clear hc HAW y0 y1 y2 y3
     obtain ⟨rpo,rma,row_,rta,rol,rge,rph,rve,rsi,hv⟩:=rv_let16 (x.R ix)
     have HRV:=hd_ hv
     have hrow:=HM.out.ab.row hix
     rw [hv] at hrow
     obtain ⟨-, -, -, -, -, -, -,d7, -⟩:=hrow
     have hw:=HM.out.ab.wait hix
     have hfz:=HM.out.ab.free (290 + ix)
     have hcs:=(Chg.refl (fun k=>k = a) w4).put a (290 + ix) (fun _=>rfl) (int i64 rve)
     have hst:=HM.out.own hcs (y := { x with V:=at16 x.V ix rve }) (HM.out.ab.setW hix rve) rfl rfl rfl rfl
     have HST:=hd_ hst
     replace HZ:=hd_ (HZ.out.chg hcs (fun e=>HM.out.apart HZ.out (by decide) (by decide) (by decide) (by decide) (by decide) (by rw [e]; exact HM.out.own_ne)))
     replace HT:=hd_ (show guest16 x d s t n l now nu = (settle16 { x with V:=at16 x.V ix rve } now,zOV,0) from by rw [HT.out,HRV.out])
     clear hv hcs hst
     unfold awP
     go_upto_region 8 with fail
     go_region
     clear d7 hw hfz
     have HMS:=hd_ (HST.out.1.new (Chg.refl (fun _=>False) _).drew)
     have HXS:=hd_ (((Mv16.of HX.out).trans HST.out.2).trans (Mv16.of (Chg.refl (fun _=>False) _).drew))
     replace HZ:=hd_ (HZ.out.chg (Chg.refl (fun _=>False) _).drew id)
     clear HST
     generalize (w4.setCell ⟨a,290 + ix,none⟩ (int i64 rve)).drew = w5 at *
     have HSE:=hd_ (asettle_any HMS.out (HOK.out.wait _) now)
     go_wp2_with fail
     refine HSE.out.mono ?_
     rintro e w6 ⟨rfl,D6,hM6,hmv6⟩
     have HMF:=hd_ hM6
     have HXF:=hd_ (HXS.out.trans hmv6)
     replace HZ:=hd_ (HZ.out.chg hmv6.1 (HMS.out.apart HZ.out (by decide) (by decide) (by decide) (by decide) (by decide)))
     clear hM6 hmv6 HSE
     obtain ⟨x0,x1,x2,x3,x4,x5,x6,x7,x8,x9,x10,x11,x12⟩:=ou_cells15 HZ.out
     obtain ⟨u0,u1,u2,u3,u4,u5,u6,u7,u8,u9,u10,u11,u12⟩:=ou_free15 HZ.out
     obtain ⟨r0,r1,r2,r3,r4,r5,r6,r7,r8,r9,r10,r11,r12,hcs⟩:=ou_put15 HZ.out rfl 0 0 0 0 none 0 0 0 0 0 0 0 0 0 none 0 0
     have RR:=hd_ (And.intro r0 (And.intro r1 (And.intro r2 (And.intro r3 (And.intro r4 (And.intro r5 (And.intro r6 (And.intro r7 (And.intro r8 (And.intro r9 (And.intro r10 (And.intro r11 r12))))))))))))
     have HMG:=hd_ (HMF.out.put8 HZ.out noU8_ou (by decide) (by decide) (by decide) (by decide) (by decide) hcs)
     have HXG:=hd_ (HXF.out.put hcs HQZ.out)
     have HBG:=hd_ ((BsM15.nil _).put HZ.out noU8_ou hcs)
     clear r0 r1 r2 r3 r4 r5 r6 r7 r8 r9 r10 r11 r12 hcs
     go_wp2_with fail
     obtain ⟨r0,r1,r2,r3,r4,r5,r6,r7,r8,r9,r10,r11,r12⟩:=RR.out
     exact bodyPost_ret (v := .tuple #[.agg #[int i64 0,int i64 0,int i64 0,int i64 0, .slice none 0 0,int i64 0,int i64 0,int i64 0,int i64 0,int i64 0,int i64 0,int i64 0, .slice none 0 0],int i64 0]) (by simp [results,Tryz.results9,go_sem,r0,r1,r2,r3,r4,r5,r6,r7,r8,r9,r10,r11,r12]) rfl (by rw [HT.out]; exact ⟨none,0,0,none,0,0,rfl,HBG.out,_,HMG.out,HXG.out⟩)
    | none =>
     rw [hawv] at haw HT
     replace HT : Hid (guest16 x d s t n l now nu = (note16 x v.kd t l now,v,0)):=HT
     have HAW:=hd_ haw
     clear haw hawv
     go_wp2_with fail
     refine HAW.out.mono ?_
     rintro e w4 ⟨rfl,hc⟩
     replace HM:=hd_ (HM.out.new hc)
     replace HX:=hd_ (HX.out.trans hc (fun _ _ e=>e))
     replace HZ:=hd_ (HZ.out.chg hc id)
     replace HB:=hd_ (HB.out.chg hc id)
     replace HBQ:=hd_ (HBQ.out.chg hc id)
     replace HBS:=hd_ (HBS.out.chg hc)
     clear hc HAW y0 y1 y2 y3
     have y0:=HB.out.cell 0
     have y1:=HB.out.cell 1
     have y2:=HB.out.cell 2
     have y3:=HB.out.cell 3
     simp only [List.getElem?_toArray,List.getElem?_cons_zero,List.getElem?_cons_succ] at y0 y1 y2 y3
     obtain ⟨z0,z1,z2,z3,z4,z5,z6,z7,z8,z9,z10,z11,z12⟩:=ou_cells15 HBQ.out
     have hnt:=anote_any HM.out HOK.out (HG.out.chg HX.out id) d s t A n c l _ HBL.out.2.1 (HBL.out.2.2.chg HX.out (fun _ _=>id)) HNC.out HCM.out HBN.out v.kd v.po v.ge v.st  v.k v.o v.f v.t v.p v.g v.i  FA fn fc PA pn pc now
     unfold ouC15 at hnt
     have HNT2:=hd_ hnt
     clear hnt
     go_wp2_with fail
     refine HNT2.out.mono ?_
     rintro e w6 ⟨rfl,D6,hM6,hmv6⟩
     have HMF:=hd_ hM6
     have HXF:=hd_ ((Mv16.of HX.out).trans hmv6)
     have HBF:=hd_ (show BsM15 w6 FA fn fc v.fb from ⟨HBS.out.1.1,HBS.out.1.2.1,(HBS.out.2.chg hmv6.1 (fun k hk e=>hk e)).mono (fun _ _=>trivial)⟩)
     replace HZ:=hd_ (HZ.out.chg hmv6.1 (HM.out.apart HZ.out (by decide) (by decide) (by decide) (by decide) (by decide)))
     replace HBQ:=hd_ (HBQ.out.chg hmv6.1 (HM.out.apart HBQ.out (by decide) (by decide) (by decide) (by decide) (by decide)))
     clear hM6 hmv6 HNT2 y0 y1 y2 y3 z0 z1 z2 z3 z4 z5 z6 z7 z8 z9 z10 z11 z12
     obtain ⟨z0,z1,z2,z3,z4,z5,z6,z7,z8,z9,z10,z11,z12⟩:=ou_cells15 HBQ.out
     obtain ⟨x0,x1,x2,x3,x4,x5,x6,x7,x8,x9,x10,x11,x12⟩:=ou_cells15 HZ.out
     obtain ⟨u0,u1,u2,u3,u4,u5,u6,u7,u8,u9,u10,u11,u12⟩:=ou_free15 HZ.out
     obtain ⟨r0,r1,r2,r3,r4,r5,r6,r7,r8,r9,r10,r11,r12,hcs⟩:=ou_put15 HZ.out rfl v.kd v.po v.ge v.st FA fn fc v.k v.o v.f v.t v.p v.g v.i PA pn pc
     have RR:=hd_ (And.intro r0 (And.intro r1 (And.intro r2 (And.intro r3 (And.intro r4 (And.intro r5 (And.intro r6 (And.intro r7 (And.intro r8 (And.intro r9 (And.intro r10 (And.intro r11 r12))))))))))))
     have HMG:=hd_ (HMF.out.put8 HZ.out noU8_ou (by decide) (by decide) (by decide) (by decide) (by decide) hcs)
     have HXG:=hd_ (HXF.out.put hcs HQZ.out)
     have HBG:=hd_ (HBF.out.put HZ.out noU8_ou hcs)
     clear r0 r1 r2 r3 r4 r5 r6 r7 r8 r9 r10 r11 r12 hcs
     go_wp2_with fail
     obtain ⟨r0,r1,r2,r3,r4,r5,r6,r7,r8,r9,r10,r11,r12⟩:=RR.out
     exact bodyPost_ret (v := .tuple #[.agg #[int i64 v.kd,int i64 v.po,int i64 v.ge,int i64 v.st, .slice FA fn fc,int i64 v.k,int i64 v.o,int i64 v.f,int i64 v.t,int i64 v.p,int i64 v.g,int i64 v.i, .slice PA pn pc],int i64 0]) (by simp [results,Tryz.results9,go_sem,r0,r1,r2,r3,r4,r5,r6,r7,r8,r9,r10,r11,r12]) rfl (by rw [HT.out]; exact ⟨FA,fn,fc,PA,pn,pc,rfl,HBG.out,_,HMG.out,HXG.out⟩)
end Go.Proofs.YtfajcdobikjcdaaGreatDoor
