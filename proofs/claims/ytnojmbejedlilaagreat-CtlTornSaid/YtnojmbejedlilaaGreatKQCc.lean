/-
  Walks: ctl.each over each of its closures. Conditions: the list can be read all along; what is kept from one to the next is kept by all new memory.
-/
import Derived.Test.YtnojmbejedlilaaGreatKQCb
import Derived.Deep.LoopGhost
set_option maxRecDepth 100000
set_option maxHeartbeats 40000000
set_option linter.unusedVariables false
set_option linter.unusedSimpArgs false
namespace Go.Proofs.YtnojmbejedlilaaGreat
open Nat renaming zero_le→zP
open List renaming getElem?_eq_getElem→zM
open Go.Value renaming int→U
open Go.IntKind renaming i64→Z
open Go.RowKit
theorem nP(L:Option Addr)(m lc:Nat)(l:List Int)(S:Nat→Prop)(w:World)(u1 u2:Value)(I:Nat→World→Prop)(hm:m≤9223372036854775807)(h0:I 0 w)(hl:m=l.length)(hk:∀j W,I j W→Rds W S L m (ics l))(hn:∀j W W',I j W→Chg (fun _=>False) W W'→I j W')(hs:∀j x W,l[j]?=some x→I j W→Calls Tryz.prog 175 #[U Z x,u1,u2] W fun e W'=>e=.returned (.tuple #[])∧I (j+1) W'):
  Calls Tryz.prog 174 #[.slice L m lc,.func (.func 175) #[] #[u1,u2]] w fun e w'=>e=.returned (.tuple #[])∧I m w':=by
 have HK:=hd_ hk;have HN:=hd_ hn;have HS:=hd_ hs;have H0:=hd_ h0;have HL:=hd_ hl;clear hk hn hs h0 hl;go_in;go_wp2_with fail
 go_loopg [5,8] m (fun g s5 i wr=>∃j:Nat,g=m-j∧j≤m∧i=U Z (j:Int)∧Hid (I j wr))
 case atStart=>exact⟨0,rfl,zP _,rfl,H0⟩
 case round=>
  obtain⟨j,rfl,hj,rfl,HI⟩:=hrel;by_cases hlt:j<m
  ·have hh:=HK.out _ _ HI.out;obtain⟨ad,rfl,-⟩:=hh.2 (by omega)
   have hjl:j<l.length:=by have:=HL.out;omega
   have hx:l[j]?=some l[j]:=zM hjl;generalize l[j]=x at*;have z0:=fg hh hx;have HC:=hd_ (HS.out _ _ _ hx HI.out);clear hx hh hjl;go_wp2_with fail;refine HC.out.mono ?_;rintro e w1 ⟨rfl,hi⟩;have HI1:=hd_ hi;clear hi HC z0;go_wp2_with fail;go_roundg (m-(j+1))
   case rel=>exact⟨j+1,rfl,by omega,by go_num,HI1⟩
   case measure=>omega
  ·obtain rfl:j=m:=by omega
   go_wp2_with fail
   go_end0
   exact⟨rfl,HI.out⟩
theorem qm(L:Option Addr)(m lc:Nat)(l:List Int)(S:Nat→Prop)(w:World)(u1:Value)(I:Nat→World→Prop)(hm:m≤9223372036854775807)(h0:I 0 w)(hl:m=l.length)(hk:∀j W,I j W→Rds W S L m (ics l))(hn:∀j W W',I j W→Chg (fun _=>False) W W'→I j W')(hs:∀j x W,l[j]?=some x→I j W→Calls Tryz.prog 176 #[U Z x,u1] W fun e W'=>e=.returned (.tuple #[])∧I (j+1) W'):
  Calls Tryz.prog 174 #[.slice L m lc,.func (.func 176) #[] #[u1]] w fun e w'=>e=.returned (.tuple #[])∧I m w':=by
 have HK:=hd_ hk;have HN:=hd_ hn;have HS:=hd_ hs;have H0:=hd_ h0;have HL:=hd_ hl;clear hk hn hs h0 hl;go_in;go_wp2_with fail
 go_loopg [5,8] m (fun g s5 i wr=>∃j:Nat,g=m-j∧j≤m∧i=U Z (j:Int)∧Hid (I j wr))
 case atStart=>exact⟨0,rfl,zP _,rfl,H0⟩
 case round=>
  obtain⟨j,rfl,hj,rfl,HI⟩:=hrel;by_cases hlt:j<m
  ·have hh:=HK.out _ _ HI.out;obtain⟨ad,rfl,-⟩:=hh.2 (by omega)
   have hjl:j<l.length:=by have:=HL.out;omega
   have hx:l[j]?=some l[j]:=zM hjl;generalize l[j]=x at*;have z0:=fg hh hx;have HC:=hd_ (HS.out _ _ _ hx HI.out);clear hx hh hjl;go_wp2_with fail;refine HC.out.mono ?_;rintro e w1 ⟨rfl,hi⟩;have HI1:=hd_ hi;clear hi HC z0;go_wp2_with fail;go_roundg (m-(j+1))
   case rel=>exact⟨j+1,rfl,by omega,by go_num,HI1⟩
   case measure=>omega
  ·obtain rfl:j=m:=by omega
   go_wp2_with fail
   go_end0
   exact⟨rfl,HI.out⟩
theorem qo(L:Option Addr)(m lc:Nat)(l:List RV)(S:Nat→Prop)(w:World)(u1:Value)(I:Nat→World→Prop)(hm:m≤9223372036854775807)(h0:I 0 w)(hl:m=l.length)(hk:∀j W,I j W→SR 9 RV.cs W S L m l)(hn:∀j W W',I j W→Chg (fun _=>False) W W'→I j W')(hs:∀j x W,l[j]?=some x→I j W→Calls Tryz.prog 177 #[.agg #[U Z x.po,U .u64 x.ma,U Z x.ow,U Z x.ta,U Z x.ol,U Z x.ge,U Z x.ph,U Z x.ve,U Z x.si],u1] W fun e W'=>e=.returned (.tuple #[])∧I (j+1) W'):
  Calls Tryz.prog 125 #[.slice L m lc,.func (.func 177) #[] #[u1]] w fun e w'=>e=.returned (.tuple #[])∧I m w':=by
 have HK:=hd_ hk;have HN:=hd_ hn;have HS:=hd_ hs;have H0:=hd_ h0;have HL:=hd_ hl;clear hk hn hs h0 hl;go_in;go_wp2_with fail
 go_loopg [5,8] m (fun g s5 i wr=>∃j:Nat,g=m-j∧j≤m∧i=U Z (j:Int)∧Hid (I j wr))
 case atStart=>exact⟨0,rfl,zP _,rfl,H0⟩
 case round=>
  obtain⟨j,rfl,hj,rfl,HI⟩:=hrel;by_cases hlt:j<m
  ·have hh:=HK.out _ _ HI.out;obtain⟨ad,rfl,-⟩:=hh.2 (by omega)
   have hjl:j<l.length:=by have:=HL.out;omega
   have hx:l[j]?=some l[j]:=zM hjl;generalize l[j]=x at*;obtain⟨z0,z1,z2,z3,z4,z5,z6,z7,z8⟩:=gg hh hx;have HC:=hd_ (HS.out _ _ _ hx (HN.out _ _ (wr.alloc (.cells #[U Z x.po,U .u64 x.ma,U Z x.ow,U Z x.ta,U Z x.ol,U Z x.ge,U Z x.ph,U Z x.ve,U Z x.si] 60)) HI.out ((Chg.refl (fun _=>False) wr).alloc (.cells #[U Z x.po,U .u64 x.ma,U Z x.ow,U Z x.ta,U Z x.ol,U Z x.ge,U Z x.ph,U Z x.ve,U Z x.si] 60))));clear hx hh hjl;go_wp2_with fail;refine HC.out.mono ?_;rintro e w1 ⟨rfl,hi⟩;have HI1:=hd_ hi;clear hi HC z0 z1 z2 z3 z4 z5 z6 z7 z8;go_wp2_with fail;go_roundg (m-(j+1))
   case rel=>exact⟨j+1,rfl,by omega,by go_num,HI1⟩
   case measure=>omega
  ·obtain rfl:j=m:=by omega
   go_wp2_with fail
   go_end0
   exact⟨rfl,HI.out⟩
theorem qp(L:Option Addr)(m lc:Nat)(l:List RV)(S:Nat→Prop)(w:World)(u1:Value)(I:Nat→World→Prop)(hm:m≤9223372036854775807)(h0:I 0 w)(hl:m=l.length)(hk:∀j W,I j W→SR 9 RV.cs W S L m l)(hn:∀j W W',I j W→Chg (fun _=>False) W W'→I j W')(hs:∀j x W,l[j]?=some x→I j W→Calls Tryz.prog 126 #[.agg #[U Z x.po,U .u64 x.ma,U Z x.ow,U Z x.ta,U Z x.ol,U Z x.ge,U Z x.ph,U Z x.ve,U Z x.si],u1] W fun e W'=>e=.returned (.tuple #[])∧I (j+1) W'):
  Calls Tryz.prog 125 #[.slice L m lc,.func (.func 126) #[] #[u1]] w fun e w'=>e=.returned (.tuple #[])∧I m w':=by
 have HK:=hd_ hk;have HN:=hd_ hn;have HS:=hd_ hs;have H0:=hd_ h0;have HL:=hd_ hl;clear hk hn hs h0 hl;go_in;go_wp2_with fail
 go_loopg [5,8] m (fun g s5 i wr=>∃j:Nat,g=m-j∧j≤m∧i=U Z (j:Int)∧Hid (I j wr))
 case atStart=>exact⟨0,rfl,zP _,rfl,H0⟩
 case round=>
  obtain⟨j,rfl,hj,rfl,HI⟩:=hrel;by_cases hlt:j<m
  ·have hh:=HK.out _ _ HI.out;obtain⟨ad,rfl,-⟩:=hh.2 (by omega)
   have hjl:j<l.length:=by have:=HL.out;omega
   have hx:l[j]?=some l[j]:=zM hjl;generalize l[j]=x at*;obtain⟨z0,z1,z2,z3,z4,z5,z6,z7,z8⟩:=gg hh hx;have HC:=hd_ (HS.out _ _ _ hx (HN.out _ _ (wr.alloc (.cells #[U Z x.po,U .u64 x.ma,U Z x.ow,U Z x.ta,U Z x.ol,U Z x.ge,U Z x.ph,U Z x.ve,U Z x.si] 60)) HI.out ((Chg.refl (fun _=>False) wr).alloc (.cells #[U Z x.po,U .u64 x.ma,U Z x.ow,U Z x.ta,U Z x.ol,U Z x.ge,U Z x.ph,U Z x.ve,U Z x.si] 60))));clear hx hh hjl;go_wp2_with fail;refine HC.out.mono ?_;rintro e w1 ⟨rfl,hi⟩;have HI1:=hd_ hi;clear hi HC z0 z1 z2 z3 z4 z5 z6 z7 z8;go_wp2_with fail;go_roundg (m-(j+1))
   case rel=>exact⟨j+1,rfl,by omega,by go_num,HI1⟩
   case measure=>omega
  ·obtain rfl:j=m:=by omega
   go_wp2_with fail
   go_end0
   exact⟨rfl,HI.out⟩
theorem qq(L:Option Addr)(m lc:Nat)(l:List CV)(S:Nat→Prop)(w:World)(u1:Value)(I:Nat→World→Prop)(hm:m≤9223372036854775807)(h0:I 0 w)(hl:m=l.length)(hk:∀j W,I j W→SR 10 CV.cs W S L m l)(hn:∀j W W',I j W→Chg (fun _=>False) W W'→I j W')(hs:∀j x W,l[j]?=some x→I j W→Calls Tryz.prog 105 #[.agg #[U Z x.r.po,U .u64 x.r.ma,U Z x.r.ow,U Z x.r.ta,U Z x.r.ol,U Z x.r.ge,U Z x.r.ph,U Z x.r.ve,U Z x.r.si,U Z x.was],u1] W fun e W'=>e=.returned (.tuple #[])∧I (j+1) W'):
  Calls Tryz.prog 103 #[.slice L m lc,.func (.func 105) #[] #[u1]] w fun e w'=>e=.returned (.tuple #[])∧I m w':=by
 have HK:=hd_ hk;have HN:=hd_ hn;have HS:=hd_ hs;have H0:=hd_ h0;have HL:=hd_ hl;clear hk hn hs h0 hl;go_in;go_wp2_with fail
 go_loopg [5,8] m (fun g s5 i wr=>∃j:Nat,g=m-j∧j≤m∧i=U Z (j:Int)∧Hid (I j wr))
 case atStart=>exact⟨0,rfl,zP _,rfl,H0⟩
 case round=>
  obtain⟨j,rfl,hj,rfl,HI⟩:=hrel;by_cases hlt:j<m
  ·have hh:=HK.out _ _ HI.out;obtain⟨ad,rfl,-⟩:=hh.2 (by omega)
   have hjl:j<l.length:=by have:=HL.out;omega
   have hx:l[j]?=some l[j]:=zM hjl;generalize l[j]=x at*;obtain⟨z0,z1,z2,z3,z4,z5,z6,z7,z8,z9⟩:=oL hh hx;have hx2:=hx;have HC:=hd_ (HS.out _ _ _ hx (HN.out _ _ (wr.alloc (.cells #[U Z x.r.po,U .u64 x.r.ma,U Z x.r.ow,U Z x.r.ta,U Z x.r.ol,U Z x.r.ge,U Z x.r.ph,U Z x.r.ve,U Z x.r.si,U Z x.was] 188)) HI.out ((Chg.refl (fun _=>False) wr).alloc (.cells #[U Z x.r.po,U .u64 x.r.ma,U Z x.r.ow,U Z x.r.ta,U Z x.r.ol,U Z x.r.ge,U Z x.r.ph,U Z x.r.ve,U Z x.r.si,U Z x.was] 188))));clear hx hh hjl;go_wp2_with fail;refine HC.out.mono ?_;rintro e w1 ⟨rfl,hi⟩;have HI1:=hd_ hi;clear hi HC z0 z1 z2 z3 z4 z5 z6 z7 z8 z9;go_wp2_with fail;go_roundg (m-(j+1))
   case rel=>exact⟨j+1,rfl,by omega,by go_num,HI1⟩
   case measure=>omega
  ·obtain rfl:j=m:=by omega
   go_wp2_with fail
   go_end0
   exact⟨rfl,HI.out⟩
end Go.Proofs.YtnojmbejedlilaaGreat
