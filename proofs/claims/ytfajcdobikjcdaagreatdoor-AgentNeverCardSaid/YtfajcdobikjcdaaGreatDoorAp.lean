/-
  Plain: the live question of the agent, step by step.
-/
import Derived.Test.YtfajcdobikjcdaaGreatDoorAo
import Derived.Test.YtfajcdobikjcdaaGreatDoorM5
set_option maxRecDepth 100000
set_option maxHeartbeats 40000000
set_option linter.unusedVariables false
set_option linter.unusedSimpArgs false
namespace Go.Proofs.YtfajcdobikjcdaaGreatDoor
open Go.Value (int)
open Go.IntKind (i64)
open Go.RowKit
def quiet16 (x : AV) (i : Nat) : Prop:=((x.V i == (x.R i).ve) && comB x.c (x.R i).ph (x.R i).ta) = false ∧ wenB x.c (x.R i).ph (x.R i).ol = false ∧ x.V i = 0
theorem at_id16 {V : Nat → Int} {i : Nat} (h : V i = 0) : at16 V i 0 = V:=funext fun k=>by unfold at16; split; rename_i e; rw [e,h]; rfl
theorem set_quiet {x : AV} {i : Nat} {now : Int} (h : quiet16 x i) : set16 now x i = x:=by
 unfold set16
 rw [setW_no h.1,at_id16 h.2.2]
 exact setD_no h.2.1
theorem fold_quiet {x : AV} {now : Int} : ∀ l : List Nat,(∀ i ∈ l,quiet16 x i) → l.foldl (set16 now) x = x
 | [],_=>rfl
 | i :: l,h=>by rw [List.foldl_cons,set_quiet (h i (List.mem_cons_self ..))]; exact fold_quiet l (fun k hk=>h k (List.mem_cons_of_mem _ hk))
theorem settle_quiet {x : AV} {now : Int} (h : ∀ i,i < 32 → quiet16 x i) : settle16 x now = x:=fold_quiet _ (fun i hi=>h i (List.mem_range.1 hi))
theorem settle_one {x y : AV} {now : Int} {j : Nat} (hj : j < 32) (h : ∀ i,i < 32 → i ≠ j → quiet16 x i) (e : set16 now x j = y) (h2 : ∀ i,i < 32 → i ≠ j → quiet16 y i) : settle16 x now = y:=by
 unfold settle16 setK16
 rw [range_split16 j hj,List.foldl_append,fold_quiet (List.range j) (fun i hi=>by have:=List.mem_range.1 hi; exact h i (by omega) (by omega)),List.foldl_cons,e]
 refine fold_quiet _ (fun i hi => ?_)
 have:=List.mem_range'_1.1 hi
 exact h2 i (by omega) (by omega)
def lr1 : RV:=⟨3,7,1, -1, -1,5,0,9,0⟩
def lr2 : RV:=⟨3,7,2,1, -1,5,1,10,0⟩
def lm1 : MV:=⟨1,3,7,1, -1, -1,5,0,9,0,0,0, []⟩
def lm2 : MV:=⟨1,3,7,2,1, -1,5,1,10,0,0,0, []⟩
def lb3 : List UInt8:=msB 2 0 0 0 0 0 0 0 0 0 3 10 []
def ls1 : SV:=⟨4,2,1,1, []⟩
def ls2 : SV:=⟨4,2,1,2, []⟩
def ls3 : SV:=⟨4,2,1,2, [lb3]⟩
def lx1 : AV:=⟨1,ls1,at16 (fun _=>z9) 3 lr1,fun _=>0,10, [],fun _ _=>none⟩
def lx2 : AV:=⟨1,ls2,at16 (fun _=>z9) 3 lr2,fun _=>0,10, [],fun _ _=>none⟩
def lx3 : AV:=⟨1,ls3,at16 (fun _=>z9) 3 lr2,at16 (fun _=>0) 3 10,10, [],tdP (fun _ _=>none) 2 3 10⟩
theorem lr_at {r : RV} {i : Nat} (h : i ≠ 3) : at16 (fun _=>z9) 3 r i = z9:=at16_ne _ _ h
theorem lm1_ok : lm1.ok = true:=by kernel_rfl
theorem lm2_ok : lm2.ok = true:=by kernel_rfl
theorem lm1_nm : lm1.nm:=by simp [lm1,MV.nm,MsN]
theorem lm2_nm : lm2.nm:=by simp [lm2,MV.nm,MsN]
theorem lc1 : cX lm1.bs = 0 ∧ cM lm1.bs = lm1:=by
 obtain ⟨h1,h2⟩:=cdc_back lm1_ok lm1_nm
 exact ⟨by unfold cX; rw [h1]; rfl,by unfold cM; rw [h1]; exact h2⟩
theorem lc2 : cX lm2.bs = 0 ∧ cM lm2.bs = lm2:=by
 obtain ⟨h1,h2⟩:=cdc_back lm2_ok lm2_nm
 exact ⟨by unfold cX; rw [h1]; rfl,by unfold cM; rw [h1]; exact h2⟩
theorem ljd {m p a s : Int} {l : List UInt8} (h : ltR m p a s l.length = true) : jX (ltB m p a s l) = 0 ∧ jL (ltB m p a s l) = ⟨m,p,a,s,l⟩:=by
 obtain ⟨h0,h1,h2,h3,h4,h5⟩:=jd_back h
 exact ⟨by unfold jX; rw [h0]; rfl,by unfold jL; rw [h0,h1,h2,h3,h4,h5]; rfl⟩
theorem lt1R : ltR 2 4 0 1 lm1.bs.length = true:=by kernel_rfl
theorem lt2R : ltR 2 4 0 2 lm2.bs.length = true:=by kernel_rfl
theorem lt3R : ltR 4 2 2 1 lb3.length = true:=by kernel_rfl
theorem ltk1 : tkE (new16 1 4 10).s ⟨2,4,0,1,lm1.bs⟩ = 0 ∧ tkS (new16 1 4 10).s ⟨2,4,0,1,lm1.bs⟩ = ls1 ∧ tkGot (new16 1 4 10).s ⟨2,4,0,1,lm1.bs⟩ = true ∧ tkB (new16 1 4 10).s ⟨2,4,0,1,lm1.bs⟩ = lm1.bs:=⟨by kernel_rfl,by kernel_rfl,by kernel_rfl,by kernel_rfl⟩
theorem ltk2 : tkE ls1 ⟨2,4,0,2,lm2.bs⟩ = 0 ∧ tkS ls1 ⟨2,4,0,2,lm2.bs⟩ = ls2 ∧ tkGot ls1 ⟨2,4,0,2,lm2.bs⟩ = true ∧ tkRes ls1 ⟨2,4,0,2,lm2.bs⟩ = false ∧ tkB ls1 ⟨2,4,0,2,lm2.bs⟩ = lm2.bs:=⟨by kernel_rfl,by kernel_rfl,by kernel_rfl,by kernel_rfl,by kernel_rfl⟩
theorem lq1 : ∀ i,i < 32 → quiet16 lx1 i:=by
 intro i hi
 by_cases h : i = 3
 ·subst h; exact ⟨by decide,by decide,rfl⟩
 ·refine ⟨?_, ?_,rfl⟩ <;> (show _ = false; unfold lx1; dsimp only; rw [lr_at h]; rfl)
theorem lq2 : ∀ i,i < 32 → quiet16 lx2 i:=by
 intro i hi
 by_cases h : i = 3
 ·subst h; exact ⟨by decide,by decide,rfl⟩
 ·refine ⟨?_, ?_,rfl⟩ <;> (show _ = false; unfold lx2; dsimp only; rw [lr_at h]; rfl)
theorem ltake1 : take16 (new16 1 4 10) (ltB 2 4 0 1 lm1.bs) 0 = (lx1,0):=by
 obtain ⟨j1,j2⟩:=ljd lt1R
 obtain ⟨k1,k2,k3,k4⟩:=ltk1
 rw [take_ok (by decide) j1 (by rw [j2]; exact k1),j2]
 unfold tkZ16 tkA16
 rw [k2,k3,k4]
 have e : tkH16 (tkC16 { new16 1 4 10 with s:=ls1 } (tkRes (new16 1 4 10).s ⟨2,4,0,1,lm1.bs⟩)) true lm1.bs 0 = lx1:=by
  have e2 : ∀ r,tkC16 { new16 1 4 10 with s:=ls1 } r = { new16 1 4 10 with s:=ls1 }:=fun r=>by cases r <;> rfl
  rw [e2]
  unfold tkH16 hear16
  rw [if_pos rfl,if_pos lc1.1,lc1.2]
  rfl
 rw [e,settle_quiet lq1]
theorem ltake2 : take16 lx1 (ltB 2 4 0 2 lm2.bs) 0 = (lx2,0):=by
 obtain ⟨j1,j2⟩:=ljd lt2R
 obtain ⟨k1,k2,k3,k5,k4⟩:=ltk2
 rw [take_ok (by decide) j1 (by rw [j2]; exact k1),j2]
 unfold tkZ16 tkA16
 rw [show lx1.s = ls1 from rfl,k2,k3,k4,k5]
 have e : tkH16 (tkC16 { lx1 with s:=ls2 } false) true lm2.bs 0 = lx2:=by
  unfold tkH16 hear16
  rw [if_pos rfl,if_pos lc2.1,lc2.2]
  have e3 : hearM16 { lx1 with s:=ls2 } lm2 0 = { lx1 with s:=ls2,R:=at16 lx1.R 3 lr2 }:=rfl
  refine e3.trans ?_
  show (⟨1,ls2,at16 (at16 (fun _=>z9) 3 lr1) 3 lr2,fun _=>0,10, [],fun _ _=>none⟩ : AV) = lx2
  rw [show at16 (at16 (fun _=>z9) 3 lr1) 3 lr2 = at16 (fun _=>z9) 3 lr2 from funext fun k=>by unfold at16; split <;> rfl]
  rfl
 rw [e,settle_quiet lq2]
theorem lrw1 : rwA lx1.R = [lr1]:=by kernel_rfl
theorem lguest1 : (guest16 lx1 7 0 0 0 [] 0 6).1 = lx1 ∧ (guest16 lx1 7 0 0 0 [] 0 6).2.1.kd = 1 ∧ (guest16 lx1 7 0 0 0 [] 0 6).2.1.ge = 5 ∧ (guest16 lx1 7 0 0 0 [] 0 6).2.2 = 0:=by
 have ha : aw16 lx1 7 0 0 0 [] = none:=by kernel_rfl
 rw [guest_ok (by decide) (by kernel_rfl),ha]
 unfold guestO16
 dsimp only
 unfold guestV16
 rw [lrw1]
 exact ⟨by kernel_rfl,by kernel_rfl,by kernel_rfl,rfl⟩
def lf : List UInt8:=arpB 3 7 7 0 0
theorem lset3 : set16 1 { lx2 with V:=at16 lx2.V 3 (lx2.R 3).ve } 3 = lx3:=by
 unfold set16
 rw [setW_yes (by decide),tell_new (by decide) (by kernel_rfl)]
 refine (setD_no (by decide)).trans ?_
 unfold lx3
 congr 1
theorem lguest2 : guest16 lx2 281474976710655 7 32821 28 lf 1 7 = (lx3,zOV,0):=by
 have ha : aw16 lx2 281474976710655 7 32821 28 lf = some 3:=by kernel_rfl
 rw [guest_ok (by decide) (by kernel_rfl),ha]
 unfold guestO16
 dsimp only
 refine congrArg (fun y=>(y,zOV,(0 : Int))) (settle_one (by decide) (fun i hi h => ?_) lset3 (fun i hi h => ?_))
 ·refine ⟨?_, ?_, ?_⟩
  ·show ((at16 lx2.V 3 (lx2.R 3).ve i == (lx2.R i).ve) && comB lx2.c (lx2.R i).ph (lx2.R i).ta) = false
   rw [show lx2.R i = z9 from lr_at h]
   simp [comB,z9]
  ·show wenB lx2.c (lx2.R i).ph (lx2.R i).ol = false
   rw [show lx2.R i = z9 from lr_at h]
   rfl
  ·exact at16_ne _ _ h
 ·refine ⟨?_, ?_, ?_⟩
  ·show ((lx3.V i == (lx3.R i).ve) && comB lx3.c (lx3.R i).ph (lx3.R i).ta) = false
   rw [show lx3.R i = z9 from lr_at h]
   simp [comB,z9]
  ·show wenB lx3.c (lx3.R i).ph (lx3.R i).ol = false
   rw [show lx3.R i = z9 from lr_at h]
   rfl
  ·show at16 (fun _=>(0 : Int)) 3 10 i = 0; exact at16_ne _ _ h
theorem lout : outB16 lx3.s = [ltB 4 2 2 1 lb3]:=by
 unfold outB16
 rw [show outS lx3.s = [⟨4,2,2,1,lb3⟩] from by kernel_rfl]
 show [encL16 _] = _
 unfold encL16
 rw [if_pos lt3R]
end Go.Proofs.YtfajcdobikjcdaaGreatDoor
