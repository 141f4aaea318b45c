/-
  Walks: rutterlaw16.Fits, by, kept. Conditions: what they look at lies in memory.
-/
import Derived.Test.YtfajcdobikjcdaaGreatDoorAr
import Derived.Test.YtfajcdobikjcdaaGreatDoorM1
import Derived.Test.YtfajcdobikjcdaaGreatDoorM3
import Derived.Test.YtfajcdobikjcdaaGreatDoorM9
import Derived.Deep.OwnRows
import Derived.RegionTactic
import Derived.BigQuiet
set_option maxRecDepth 100000
set_option maxHeartbeats 40000000
set_option linter.unusedVariables false
set_option linter.unusedSimpArgs false
namespace Go.Proofs.YtfajcdobikjcdaaGreatDoor
open Go.Value (int)
open Go.IntKind (i64)
open Go.RowKit
def FitsP16 (l : List At16) (w : World) (e : Ending) (w' : World) : Prop := ∃ r : Bool,e = .returned (.bool r) ∧ (r = true → l.length ≤ 40 ∧ ∀ (i : Nat) (x : At16),l[i]? = some x → x.bn ≤ 3000 ∧ x.fn ≤ 3000 ∧ x.pn ≤ 3000) ∧ Chg (fun _=>False) w w'
theorem fits16_any (L : Option Addr) (m lc : Nat) (l : List At16) (w : World) (h : AR16 w L m l) (hmc : m ≤ 9223372036854775807) : Calls Tryz.prog 4 #[.slice L m lc] w (FitsP16 l w):=by
 have HR:=hd_ h
 have HM:=hd_ h.1
 clear h
 go_enter Tryz.func4,Tryz.ntmps4
 go_wp2_with fail
 go_loopg [3,4,5] m (fun g i s4 s5 wr => ∃ (j : Nat),g = m - j ∧ j ≤ m ∧ j ≤ 41 ∧ i = int i64 (j : Int) ∧ Hid (∀ (i : Nat) (x : At16),i < j → l[i]? = some x → x.bn ≤ 3000 ∧ x.fn ≤ 3000 ∧ x.pn ≤ 3000) ∧ Hid (Chg (fun _=>False) w wr))
 case atStart=>exact ⟨0,rfl,Nat.zero_le _,Nat.zero_le _,rfl,hd_ (fun i x hi=>absurd hi (by omega)),hd_ (Chg.refl _ _)⟩
 case round =>
  obtain ⟨j,rfl,hj,hj2,rfl,HF,HX⟩:=hrel
  by_cases hlt : j < m
  ·by_cases hlt2 : j ≤ 40
   ·have hll:=HM.out
    obtain ⟨ad,rfl, -, -⟩:=HR.out.2 (by omega)
    have hx : l[j]? = some (l[j]'(by omega)):=List.getElem?_eq_getElem (by omega)
    obtain ⟨⟨z0,z1,z2,z3,z4,z5,z6,z7,z8,z9,z10,z11,z12,z13,z14,z15⟩,his⟩:=(HR.out.chg HX.out).at hx
    generalize l[j]'(by omega) = x at *
    obtain ⟨hk,hfd,hb,hf,hp⟩:=his
    have hbm : x.bn ≤ 9223372036854775807:=by have h1:=hb.2; unfold maxLen at h1; omega
    have HFF:=hd_ (fun W=>ffits_any x.fd x.fs x.ft x.FA x.fn x.fc W (by have h1:=hf.2; unfold maxLen at h1; omega))
    have HPP:=hd_ (fun W=>fits5_any x.pk x.po x.pf x.pt x.pp x.pg x.pi x.PA x.pn x.pc W (by have h1:=hp.2; unfold maxLen at h1; omega))
    unfold pkC at HPP
    have HXX:=hd_ hx
    have HB1:=hd_ (Iff.refl (decide (x.fn ≤ 3000) = true))
    have HB2:=hd_ (Iff.refl (decide (x.pn ≤ 3000) = true))
    generalize hf1 : decide (x.fn ≤ 3000) = bf at HFF HB1
    generalize hf2 : decide (x.pn ≤ 3000) = bp at HPP HB2
    have HF1:=hd_ hf1
    have HF2:=hd_ hf2
    clear hx hk hfd hb hf hp z0 z14 z15 hf1 hf2 hll
    go_wp2_with fail
    refine (HFF.out _).mono ?_
    rintro e w2 ⟨rfl,hc⟩
    replace HX:=hd_ (HX.out.trans hc (fun _ _ e=>e))
    clear hc z1 z2 z3 z4 z5 z6 z7 z8 z9 z10 z11 z12 z13
    obtain ⟨⟨z0,z1,z2,z3,z4,z5,z6,z7,z8,z9,z10,z11,z12,z13,z14,z15⟩, -⟩:=(HR.out.chg HX.out).at HXX.out
    clear z0 z1 z2 z3 z4 z5 z14 z15
    go_wp2_with fail
    refine (HPP.out _).mono ?_
    rintro e w3 ⟨rfl,hc⟩
    replace HX:=hd_ (HX.out.trans hc (fun _ _ e=>e))
    clear hc z6 z7 z8 z9 z10 z11 z12 z13 HFF HPP
    obtain ⟨⟨z0,z1,z2,z3,z4,z5,z6,z7,z8,z9,z10,z11,z12,z13,z14,z15⟩, -⟩:=(HR.out.chg HX.out).at HXX.out
    clear z0 z2 z3 z4 z5 z6 z7 z8 z9 z10 z11 z12 z13 z14 z15
    by_cases h1 : 3000 < x.bn
    ·go_wp2_with fail
     go_ret
     exact ⟨false,rfl,(fun h=>by cases h),HX.out⟩
    ·cases bf with
     | false =>
      go_wp2_with fail
      go_ret
      exact ⟨false,rfl,(fun h=>by cases h),HX.out⟩
     | true =>
      cases bp with
      | false =>
       go_wp2_with fail
       go_ret
       exact ⟨false,rfl,(fun h=>by cases h),HX.out⟩
      | true =>
       go_wp2_with fail
       go_roundg (m - (j + 1))
       case measure=>omega
       case rel =>
        refine ⟨j + 1,rfl,by omega,by omega,by go_num,hd_ (fun i y hi hy => ?_),HX⟩
        rcases Nat.lt_or_ge i j with hij | hij
        ·exact HF.out i y hij hy
        ·have : i = j:=by omega
         subst this
         have:=HXX.out
         rw [hy] at this
         injection this with this
         subst this
         exact ⟨by omega,of_decide_eq_true HF1.out,of_decide_eq_true HF2.out⟩
   ·go_wp2_with fail
    go_ret
    exact ⟨_,rfl,(fun h=>by simp at h; omega),HX.out⟩
  ·have hjm : Hid (j = m):=by show j = m; omega
   by_cases hm : m ≤ 40
   ·go_wp2_with fail
    go_ret
    refine ⟨_,rfl,fun _=>⟨by have:=HM.out; omega,fun i x hi=>HF.out i x ?_ hi⟩,HX.out⟩
    have h1:=(List.getElem?_eq_some_iff.1 hi).1
    have h2:=HM.out
    have h3:=hjm.out
    omega
   ·go_wp2_with fail
    go_ret
    exact ⟨_,rfl,(fun h=>by simp at h; omega),HX.out⟩
theorem by16_1 {A : Option Addr} {n c : Nat} {l : List RV} (po ge st : Int) (b : List UInt8) (k o f t p g i : Int) (A2 : Option Addr) (n2 c2 : Nat) (cc : Int) {w : World} (h : RwR w A n l) (hn : n ≤ 1000) {i0 : Nat} {r : RV} (hi0 : l[i0]? = some r) (e1 : r.po = po) (e2 : r.ow = cc) (e3 : r.ge = ge) : Calls Tryz.prog 12 #[.slice A n c, .agg #[int i64 1,int i64 po,int i64 ge,int i64 st, .string ⟨b.toArray⟩,int i64 k,int i64 o,int i64 f,int i64 t,int i64 p,int i64 g,int i64 i, .slice A2 n2 c2],int i64 cc] w fun e w'=>e = .returned (.bool true) ∧ Chg (fun _=>False) w w':=by
 have HX0:=hd_ ((Chg.refl (fun _=>False) w).alloc (.cells #[int i64 1,int i64 po,int i64 ge,int i64 st, .string ⟨b.toArray⟩,int i64 k,int i64 o,int i64 f,int i64 t,int i64 p,int i64 g,int i64 i, .slice A2 n2 c2] 41))
 have HB : Hid (Blk (w.alloc (.cells #[int i64 1,int i64 po,int i64 ge,int i64 st, .string ⟨b.toArray⟩,int i64 k,int i64 o,int i64 f,int i64 t,int i64 p,int i64 g,int i64 i, .slice A2 n2 c2] 41)) w.heap.size 41 (roC15 1 po ge st b k o f t p g i A2 n2 c2)):=hd_ (blk_new rfl)
 have HR:=hd_ h
 have HM:=hd_ h.1
 have HI:=hd_ hi0
 have HJ:=hd_ (And.intro e1 (And.intro e2 e3))
 clear h hi0 e1 e2 e3
 go_enter Tryz.func12,Tryz.ntmps12
 go_upto_region 1 with fail
 generalize w.alloc (.cells #[int i64 1,int i64 po,int i64 ge,int i64 st, .string ⟨b.toArray⟩,int i64 k,int i64 o,int i64 f,int i64 t,int i64 p,int i64 g,int i64 i, .slice A2 n2 c2] 41) = w1 at *
 generalize w.heap.size = QB at *
 obtain ⟨y0,y1,y2,y3,y4,y5,y6,y7,y8,y9,y10,y11,y12⟩:=ro_cells15 HB.out
 go_wp2_with fail
 clear y0 y1 y2 y3 y4 y5 y6 y7 y8 y9 y10 y11 y12
 go_loopg [7,8] n (fun g i s8 wr => ∃ (j : Nat),g = n - j ∧ j ≤ i0 ∧ i = int i64 (j : Int) ∧ Hid (Chg (fun _=>False) w1 wr))
 case atStart=>exact ⟨0,rfl,Nat.zero_le _,rfl,hd_ (Chg.refl _ _)⟩
 case round =>
  obtain ⟨j,rfl,hj,rfl,HX⟩:=hrel
  have hll:=HM.out
  have hin : i0 < l.length:=(List.getElem?_eq_some_iff.1 HI.out).1
  have hlt : j < n:=by omega
  obtain ⟨ad,rfl, -, -⟩:=HR.out.2 (by omega)
  have hx : l[j]? = some (l[j]'(by omega)):=List.getElem?_eq_getElem (by omega)
  obtain ⟨z0,z1,z2,z3,z4,z5,z6,z7,z8⟩:=(HR.out.chg (HX0.out.trans HX.out (fun _ _ e=>e))).at hx
  have HXX:=hd_ hx
  generalize l[j]'(by omega) = x at *
  obtain ⟨xpo,xma,xow,xta,xol,xge,xph,xve,xsi⟩:=x
  have hca:=(Chg.refl (fun _=>False) wr).alloc (.cells #[int i64 xpo,int .u64 xma,int i64 xow,int i64 xta,int i64 xol,int i64 xge,int i64 xph,int i64 xve,int i64 xsi] 63)
  have HRB : Hid (Blk (wr.alloc (.cells #[int i64 xpo,int .u64 xma,int i64 xow,int i64 xta,int i64 xol,int i64 xge,int i64 xph,int i64 xve,int i64 xsi] 63)) wr.heap.size 63 (rvC xpo xma xow xta xol xge xph xve xsi)):=hd_ (blk_new rfl)
  have hjn : j ≠ i0 ∨ (xpo = po ∧ xow = cc ∧ xge = ge):=by
   by_cases hji : j = i0
   ·subst hji
    have h2:=HI.out
    rw [HXX.out] at h2
    injection h2 with h2
    subst h2
    exact .inr HJ.out
   ·exact .inl hji
  have HJN:=hd_ hjn
  have HIN:=hd_ hin
  replace HX:=hd_ (HX.out.trans hca (fun _ _ e=>e))
  clear hx hca hjn hin
  go_upto_region 7 with fail
  generalize wr.alloc (.cells #[int i64 xpo,int .u64 xma,int i64 xow,int i64 xta,int i64 xol,int i64 xge,int i64 xph,int i64 xve,int i64 xsi] 63) = w3 at *
  generalize wr.heap.size = QX at *
  clear z0 z1 z2 z3 z4 z5 z6 z7 z8
  obtain ⟨y0,y1,y2,y3,y4,y5,y6,y7,y8,y9,y10,y11,y12⟩:=ro_cells15 (HB.out.chg HX.out id)
  obtain ⟨z0,z1,z2,z3,z4,z5,z6,z7,z8⟩:=rv_cells HRB.out
  cases h1 : (xpo == po) with
  | false =>
   have HN:=hd_ (show j ≠ i0 from HJN.out.resolve_right (fun e=>by rw [e.1] at h1; simp at h1))
   go_wp2_with fail
   go_roundg (n - (j + 1))
   case measure=>omega
   case rel=>exact ⟨j + 1,rfl,by have:=HN.out; omega,by have:=HM.out; have:=HIN.out; go_num,HX⟩
  | true =>
   cases h2 : (xow == cc) with
   | false =>
    have HN:=hd_ (show j ≠ i0 from HJN.out.resolve_right (fun e=>by rw [e.2.1] at h2; simp at h2))
    go_wp2_with fail
    go_roundg (n - (j + 1))
    case measure=>omega
    case rel=>exact ⟨j + 1,rfl,by have:=HN.out; omega,by have:=HM.out; have:=HIN.out; go_num,HX⟩
   | true =>
    cases h3 : (xge == ge) with
    | false =>
     have HN:=hd_ (show j ≠ i0 from HJN.out.resolve_right (fun e=>by rw [e.2.2] at h3; simp at h3))
     go_wp2_with fail
     go_roundg (n - (j + 1))
     case measure=>omega
     case rel=>exact ⟨j + 1,rfl,by have:=HN.out; omega,by have:=HM.out; have:=HIN.out; go_num,HX⟩
    | true =>
     go_wp2_with fail
     go_ret
     exact ⟨rfl,HX0.out.trans HX.out (fun _ _ e=>e)⟩
theorem by16_2 {A : Option Addr} {n c : Nat} {l : List RV} (po ge st : Int) (b : List UInt8) (k o f t p g i : Int) (A2 : Option Addr) (n2 c2 : Nat) (cc : Int) {w : World} (h : RwR w A n l) (hn : n ≤ 1000) {i0 : Nat} {r : RV} (hi0 : l[i0]? = some r) (e1 : r.po = p) (e2 : r.ow = t) (e3 : r.ge = g) : Calls Tryz.prog 12 #[.slice A n c, .agg #[int i64 2,int i64 po,int i64 ge,int i64 st, .string ⟨b.toArray⟩,int i64 k,int i64 o,int i64 f,int i64 t,int i64 p,int i64 g,int i64 i, .slice A2 n2 c2],int i64 cc] w fun e w'=>e = .returned (.bool true) ∧ Chg (fun _=>False) w w':=by
 have HX0:=hd_ ((Chg.refl (fun _=>False) w).alloc (.cells #[int i64 2,int i64 po,int i64 ge,int i64 st, .string ⟨b.toArray⟩,int i64 k,int i64 o,int i64 f,int i64 t,int i64 p,int i64 g,int i64 i, .slice A2 n2 c2] 41))
 have HB : Hid (Blk (w.alloc (.cells #[int i64 2,int i64 po,int i64 ge,int i64 st, .string ⟨b.toArray⟩,int i64 k,int i64 o,int i64 f,int i64 t,int i64 p,int i64 g,int i64 i, .slice A2 n2 c2] 41)) w.heap.size 41 (roC15 2 po ge st b k o f t p g i A2 n2 c2)):=hd_ (blk_new rfl)
 have HR:=hd_ h
 have HM:=hd_ h.1
 have HI:=hd_ hi0
 have HJ:=hd_ (And.intro e1 (And.intro e2 e3))
 clear h hi0 e1 e2 e3
 go_enter Tryz.func12,Tryz.ntmps12
 go_upto_region 1 with fail
 generalize w.alloc (.cells #[int i64 2,int i64 po,int i64 ge,int i64 st, .string ⟨b.toArray⟩,int i64 k,int i64 o,int i64 f,int i64 t,int i64 p,int i64 g,int i64 i, .slice A2 n2 c2] 41) = w1 at *
 generalize w.heap.size = QB at *
 obtain ⟨y0,y1,y2,y3,y4,y5,y6,y7,y8,y9,y10,y11,y12⟩:=ro_cells15 HB.out
 go_wp2_with fail
 clear y0 y1 y2 y3 y4 y5 y6 y7 y8 y9 y10 y11 y12
 go_loopg [7,8] n (fun g i s8 wr => ∃ (j : Nat),g = n - j ∧ j ≤ i0 ∧ i = int i64 (j : Int) ∧ Hid (Chg (fun _=>False) w1 wr))
 case atStart=>exact ⟨0,rfl,Nat.zero_le _,rfl,hd_ (Chg.refl _ _)⟩
 case round =>
  obtain ⟨j,rfl,hj,rfl,HX⟩:=hrel
  have hll:=HM.out
  have hin : i0 < l.length:=(List.getElem?_eq_some_iff.1 HI.out).1
  have hlt : j < n:=by omega
  obtain ⟨ad,rfl, -, -⟩:=HR.out.2 (by omega)
  have hx : l[j]? = some (l[j]'(by omega)):=List.getElem?_eq_getElem (by omega)
  obtain ⟨z0,z1,z2,z3,z4,z5,z6,z7,z8⟩:=(HR.out.chg (HX0.out.trans HX.out (fun _ _ e=>e))).at hx
  have HXX:=hd_ hx
  generalize l[j]'(by omega) = x at *
  obtain ⟨xpo,xma,xow,xta,xol,xge,xph,xve,xsi⟩:=x
  have hca:=(Chg.refl (fun _=>False) wr).alloc (.cells #[int i64 xpo,int .u64 xma,int i64 xow,int i64 xta,int i64 xol,int i64 xge,int i64 xph,int i64 xve,int i64 xsi] 63)
  have HRB : Hid (Blk (wr.alloc (.cells #[int i64 xpo,int .u64 xma,int i64 xow,int i64 xta,int i64 xol,int i64 xge,int i64 xph,int i64 xve,int i64 xsi] 63)) wr.heap.size 63 (rvC xpo xma xow xta xol xge xph xve xsi)):=hd_ (blk_new rfl)
  have hjn : j ≠ i0 ∨ (xpo = p ∧ xow = t ∧ xge = g):=by
   by_cases hji : j = i0
   ·subst hji
    have h2:=HI.out
    rw [HXX.out] at h2
    injection h2 with h2
    subst h2
    exact .inr HJ.out
   ·exact .inl hji
  have HJN:=hd_ hjn
  have HIN:=hd_ hin
  replace HX:=hd_ (HX.out.trans hca (fun _ _ e=>e))
  clear hx hca hjn hin
  go_upto_region 7 with fail
  generalize wr.alloc (.cells #[int i64 xpo,int .u64 xma,int i64 xow,int i64 xta,int i64 xol,int i64 xge,int i64 xph,int i64 xve,int i64 xsi] 63) = w3 at *
  generalize wr.heap.size = QX at *
  clear z0 z1 z2 z3 z4 z5 z6 z7 z8
  obtain ⟨y0,y1,y2,y3,y4,y5,y6,y7,y8,y9,y10,y11,y12⟩:=ro_cells15 (HB.out.chg HX.out id)
  obtain ⟨z0,z1,z2,z3,z4,z5,z6,z7,z8⟩:=rv_cells HRB.out
  cases h1 : (xpo == p) with
  | false =>
   have HN:=hd_ (show j ≠ i0 from HJN.out.resolve_right (fun e=>by rw [e.1] at h1; simp at h1))
   go_wp2_with fail
   go_roundg (n - (j + 1))
   case measure=>omega
   case rel=>exact ⟨j + 1,rfl,by have:=HN.out; omega,by have:=HM.out; have:=HIN.out; go_num,HX⟩
  | true =>
   cases h2 : (xow == t) with
   | false =>
    have HN:=hd_ (show j ≠ i0 from HJN.out.resolve_right (fun e=>by rw [e.2.1] at h2; simp at h2))
    go_wp2_with fail
    go_roundg (n - (j + 1))
    case measure=>omega
    case rel=>exact ⟨j + 1,rfl,by have:=HN.out; omega,by have:=HM.out; have:=HIN.out; go_num,HX⟩
   | true =>
    cases h3 : (xge == g) with
    | false =>
     have HN:=hd_ (show j ≠ i0 from HJN.out.resolve_right (fun e=>by rw [e.2.2] at h3; simp at h3))
     go_wp2_with fail
     go_roundg (n - (j + 1))
     case measure=>omega
     case rel=>exact ⟨j + 1,rfl,by have:=HN.out; omega,by have:=HM.out; have:=HIN.out; go_num,HX⟩
    | true =>
     go_wp2_with fail
     go_ret
     exact ⟨rfl,HX0.out.trans HX.out (fun _ _ e=>e)⟩
theorem by16_0 (A : Option Addr) (n c : Nat) (po ge st : Int) (b : List UInt8) (k o f t p g i : Int) (A2 : Option Addr) (n2 c2 : Nat) (cc : Int) (w : World) : Calls Tryz.prog 12 #[.slice A n c, .agg #[int i64 0,int i64 po,int i64 ge,int i64 st, .string ⟨b.toArray⟩,int i64 k,int i64 o,int i64 f,int i64 t,int i64 p,int i64 g,int i64 i, .slice A2 n2 c2],int i64 cc] w fun e w'=>e = .returned (.bool true) ∧ Chg (fun _=>False) w w':=by
 have HX0:=hd_ ((Chg.refl (fun _=>False) w).alloc (.cells #[int i64 0,int i64 po,int i64 ge,int i64 st, .string ⟨b.toArray⟩,int i64 k,int i64 o,int i64 f,int i64 t,int i64 p,int i64 g,int i64 i, .slice A2 n2 c2] 41))
 go_enter Tryz.func12,Tryz.ntmps12
 go_wp2_with fail
 go_ret
 exact ⟨rfl,HX0.out⟩
theorem by16_any {A : Option Addr} {n c : Nat} {l : List RV} (v : OV) (b : List UInt8) (A2 : Option Addr) (n2 c2 : Nat) (cc : Int) {w : World} (h : RwR w A n l) (hn : n ≤ 1000) (hb : ByP16 l cc v) : Calls Tryz.prog 12 #[.slice A n c, .agg (roC15 v.kd v.po v.ge v.st b v.k v.o v.f v.t v.p v.g v.i A2 n2 c2),int i64 cc] w fun e w'=>e = .returned (.bool true) ∧ Chg (fun _=>False) w w':=by
 rcases hb with h0 | ⟨r,hr,⟨h0,e1,e2,e3⟩ | ⟨h0,e1,e2,e3⟩⟩
 ·rw [h0]; exact by16_0 A n c v.po v.ge v.st b v.k v.o v.f v.t v.p v.g v.i A2 n2 c2 cc w
 ·obtain ⟨i0,hi,he⟩:=List.getElem_of_mem hr
  have hi0 : l[i0]? = some r:=by rw [List.getElem?_eq_getElem hi,he]
  rw [h0]; exact by16_1 v.po v.ge v.st b v.k v.o v.f v.t v.p v.g v.i A2 n2 c2 cc h hn hi0 e1 e2 e3
 ·obtain ⟨i0,hi,he⟩:=List.getElem_of_mem hr
  have hi0 : l[i0]? = some r:=by rw [List.getElem?_eq_getElem hi,he]
  rw [h0]; exact by16_2 v.po v.ge v.st b v.k v.o v.f v.t v.p v.g v.i A2 n2 c2 cc h hn hi0 e1 e2 e3
theorem kept16_any {A A2 : Option Addr} {n c n2 c2 : Nat} {l l2 : List RV} {w : World} (h : RwR w A n l) (h2 : RwR w A2 n2 l2) (hn : n ≤ 1000) (hn2 : n2 ≤ 1000) (hk : KeptP16 l l2) : Calls Tryz.prog 13 #[.slice A n c, .slice A2 n2 c2] w fun e w'=>e = .returned (.bool true) ∧ Chg (fun _=>False) w w':=by
 have HR:=hd_ h
 have HR2:=hd_ h2
 have HM:=hd_ h.1
 have HM2:=hd_ h2.1
 have HK:=hd_ hk
 clear h h2 hk
 go_enter Tryz.func13,Tryz.ntmps13
 go_wp2_with fail
 go_loopg [5,6,7] n (fun g s5 s6 s7 wr => ∃ (j : Nat),g = n - j ∧ j ≤ n ∧ s5 = int i64 (j : Int) ∧ Hid (Chg (fun _=>False) w wr))
 case atStart=>exact ⟨0,rfl,Nat.zero_le _,rfl,hd_ (Chg.refl _ _)⟩
 case round =>
  obtain ⟨j,rfl,hj,rfl,HX⟩:=hrel
  by_cases hlt : j < n
  ·have hll:=HM.out
   obtain ⟨ad,rfl, -, -⟩:=HR.out.2 (by omega)
   have hx : l[j]? = some (l[j]'(by omega)):=List.getElem?_eq_getElem (by omega)
   have HXX:=hd_ hx
   obtain ⟨r2,hr2,hp2,hv2⟩:=HK.out _ (List.getElem_mem (show j < l.length by omega))
   obtain ⟨k0,hk0,he0⟩:=List.getElem_of_mem hr2
   have HI:=hd_ (show l2[k0]? = some r2 by rw [List.getElem?_eq_getElem hk0,he0])
   generalize l[j]'(by omega) = x at *
   obtain ⟨xpo,xma,xow,xta,xol,xge,xph,xve,xsi⟩:=x
   simp only at hp2 hv2
   have HP2:=hd_ hp2
   have HV2:=hd_ hv2
   have HK0:=hd_ hk0
   clear hx hr2 hp2 hv2 he0 hk0 hll
   go_wp2_with fail
   go_loopg [6,7] n2 (fun g s6 s7 wq => ∃ (k : Nat) (s : Bool),g = n2 - k ∧ k ≤ n2 ∧ s6 = .bool s ∧ s7 = int i64 (k : Int) ∧ Hid (s = true ∨ k ≤ k0) ∧ Hid (Chg (fun _=>False) w wq))
   case atStart=>exact ⟨0,false,rfl,Nat.zero_le _,rfl,rfl,hd_ (.inr (Nat.zero_le _)),HX⟩
   case round =>
    clear HX
    obtain ⟨k,s,rfl,hkk,rfl,rfl,HS,HX⟩:=hrel
    by_cases hlt2 : k < n2
    ·have hll2:=HM2.out
     obtain ⟨ad2,rfl, -, -⟩:=HR2.out.2 (by omega)
     have hx2 : l2[k]? = some (l2[k]'(by omega)):=List.getElem?_eq_getElem (by omega)
     have HXY:=hd_ hx2
     generalize l2[k]'(by omega) = y at *
     obtain ⟨ypo,yma,yow,yta,yol,yge,yph,yve,ysi⟩:=y
     have HJN : Hid (k ≠ k0 ∨ (ypo = xpo ∧ xve ≤ yve)):=hd_ (by
      by_cases hji : k = k0
      ·subst hji
       have h2:=HI.out
       rw [HXY.out] at h2
       injection h2 with h2
       subst h2
       exact .inr ⟨HP2.out,HV2.out⟩
      ·exact .inl hji)
     obtain ⟨z0,z1,z2,z3,z4,z5,z6,z7,z8⟩:=(HR.out.chg HX.out).at HXX.out
     obtain ⟨y0,y1,y2,y3,y4,y5,y6,y7,y8⟩:=(HR2.out.chg HX.out).at HXY.out
     simp only at z0 z7 y0 y7
     clear hx2 z1 y1 z2 y2 z3 y3 z4 y4 z5 y5 z6 y6 z8 y8 hll2
     have b0 : (0 : Int) ≤ (j : Int):=by omega
     have b1 : (j : Int) < (n : Int):=by omega
     have b2 : (0 : Int) ≤ (k : Int):=by omega
     have b3 : (k : Int) < (n2 : Int):=by omega
     cases s with
     | true =>
      go_wp2_with fail
      go_quiet (fail)
      replace HX:=hd_ (HX.out.drewN nq)
      generalize wr.drewN nq = wz at *
      go_wp2_with fail
      go_roundg (n2 - (k + 1))
      case measure=>omega
      case rel=>exact ⟨k + 1,true,rfl,by omega,rfl,by go_num,hd_ (.inl rfl),HX⟩
     | false =>
      have HS2:=hd_ (show k ≤ k0 from HS.out.resolve_left (by simp))
      cases h1 : (ypo == xpo) with
      | false =>
       have HN:=hd_ (show k ≠ k0 from HJN.out.resolve_right (fun e=>by rw [e.1] at h1; simp at h1))
       go_wp2_with fail
       go_quiet (fail)
       replace HX:=hd_ (HX.out.drewN nq)
       generalize wr.drewN nq = wz at *
       go_wp2_with fail
       go_roundg (n2 - (k + 1))
       case measure=>omega
       case rel=>exact ⟨k + 1,false,rfl,by omega,rfl,by go_num,hd_ (.inr (by have:=HN.out; have:=HS2.out; omega)),HX⟩
      | true =>
       cases h3 : decide (xve ≤ yve) with
       | false =>
        have HN:=hd_ (show k ≠ k0 from HJN.out.resolve_right (fun e=>by have:=of_decide_eq_false h3; exact this e.2))
        go_wp2_with fail
        go_quiet (fail)
        replace HX:=hd_ (HX.out.drewN nq)
        generalize wr.drewN nq = wz at *
        go_wp2_with fail
        go_roundg (n2 - (k + 1))
        case measure=>omega
        case rel=>exact ⟨k + 1,false,rfl,by omega,rfl,by go_num,hd_ (.inr (by have:=HN.out; have:=HS2.out; omega)),HX⟩
       | true =>
        go_wp2_with fail
        go_quiet (fail)
        replace HX:=hd_ (HX.out.drewN nq)
        generalize wr.drewN nq = wz at *
        go_wp2_with fail
        go_roundg (n2 - (k + 1))
        case measure=>omega
        case rel=>exact ⟨k + 1,true,rfl,by omega,rfl,by go_num,hd_ (.inl rfl),HX⟩
    ·have hs : s = true:=HS.out.resolve_right (by have:=HK0.out; have:=HM2.out; omega)
     subst hs
     go_wp2_with fail
     go_roundg (n - (j + 1))
     case measure=>omega
     case rel=>exact ⟨j + 1,rfl,by omega,by go_num,HX⟩
  ·go_wp2_with fail
   go_ret
   exact ⟨rfl,HX.out⟩
end Go.Proofs.YtfajcdobikjcdaaGreatDoor
