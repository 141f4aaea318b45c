/-
  The cells of a row, a message and a record; may a row be? Walks: control.within, chassis, nobody, named, held, Row. Conditions: none.
-/
import Derived.Test.YtnojmbejedlilaaGreatKQM1
import Derived.Deep.LoopGhost
import Derived.Laws.StructEq
import Derived.Lib.SmallJoins
import Derived.Deep.DeepCutAuto
import Derived.BigQuiet
set_option maxRecDepth 100000
set_option maxHeartbeats 40000000
set_option linter.unusedVariables false
set_option linter.unusedSimpArgs false
section
namespace Go.Proofs.YtnojmbejedlilaaGreat
open List renaming getElem?_toArray→Ap,getElem?_cons_zero→Aq,getElem?_cons_succ→Ar,getElem?_eq_getElem→zM,getElem?_eq_some_iff→zS,all_eq_true→AJ
open Nat renaming zero_le→zP
open Go.World renaming cell?_of_block→zK
open Option renaming some→AP
open Bool renaming and_eq_true→AI
open Go.Value renaming int→U
open Go.IntKind renaming i64→Z
open Go.RowKit
def rvC(po ma ow ta ol ge ph ve si:Int):Array Value:=#[U Z po,U .u64 ma,U Z ow,U Z ta,U Z ol,U Z ge,U Z ph,U Z ve,U Z si]
def msC(kd po ma ow ta ol ge ph ve si pt vr:Int)(A:Option Addr)(n c:Nat):Array Value:=#[U Z kd,U Z po,U .u64 ma,U Z ow,U Z ta,U Z ol,U Z ge,U Z ph,U Z ve,U Z si,U Z pt,U Z vr,.slice A n c]
def rcC(pr sr ds sp dp un:Int):Array Value:=#[U Z pr,U .u32 sr,U .u32 ds,U Z sp,U Z dp,U Z un]
theorem bB{S:Nat→Prop}{a w w':World}{o:Obj}(h:Chg S a w)(e:w.alloc o=w'):Chg S a w':=e▸h.alloc o
theorem aa{w:World}{q:Nat}{po ma ow ta ol ge ph ve si:Int}{T:TypeId}(hb:Blk w q T (rvC po ma ow ta ol ge ph ve si)):
  w.cell? ⟨q,0,none⟩=some (U Z po)∧w.cell? ⟨q,1,none⟩=some (U .u64 ma)∧w.cell? ⟨q,2,none⟩=some (U Z ow)∧w.cell? ⟨q,3,none⟩=some (U Z ta)∧w.cell? ⟨q,4,none⟩=some (U Z ol)∧w.cell? ⟨q,5,none⟩=some (U Z ge)∧w.cell? ⟨q,6,none⟩=some (U Z ph)∧w.cell? ⟨q,7,none⟩=some (U Z ve)∧w.cell? ⟨q,8,none⟩=some (U Z si):=by
 have x0:=hb.cell 0;have x1:=hb.cell 1;have x2:=hb.cell 2;have x3:=hb.cell 3;have x4:=hb.cell 4;have x5:=hb.cell 5;have x6:=hb.cell 6;have x7:=hb.cell 7;have x8:=hb.cell 8;simp only[rvC,Ap,Aq,Ar]at x0 x1 x2 x3 x4 x5 x6 x7 x8;exact⟨x0,x1,x2,x3,x4,x5,x6,x7,x8⟩
theorem bC{w w':World}{q:Nat}{po ma ow ta ol ge ph ve si:Int}{T:TypeId}(hb:Blk w q T (rvC po ma ow ta ol ge ph ve si))(h:Chg (fun _=>False) w w'):
  w'.cell? ⟨q,0,none⟩=some (U Z po)∧w'.cell? ⟨q,1,none⟩=some (U .u64 ma)∧w'.cell? ⟨q,2,none⟩=some (U Z ow)∧w'.cell? ⟨q,3,none⟩=some (U Z ta)∧w'.cell? ⟨q,4,none⟩=some (U Z ol)∧w'.cell? ⟨q,5,none⟩=some (U Z ge)∧w'.cell? ⟨q,6,none⟩=some (U Z ph)∧w'.cell? ⟨q,7,none⟩=some (U Z ve)∧w'.cell? ⟨q,8,none⟩=some (U Z si):=aa (hb.chg h id)
theorem ai{w:World}{q:Nat}{kd po ma ow ta ol ge ph ve si pt vr:Int}{A:Option Addr}{n c:Nat}{T:TypeId}(hb:Blk w q T (msC kd po ma ow ta ol ge ph ve si pt vr A n c)):
  w.cell? ⟨q,0,none⟩=some (U Z kd)∧w.cell? ⟨q,1,none⟩=some (U Z po)∧w.cell? ⟨q,2,none⟩=some (U .u64 ma)∧w.cell? ⟨q,3,none⟩=some (U Z ow)∧w.cell? ⟨q,4,none⟩=some (U Z ta)∧w.cell? ⟨q,5,none⟩=some (U Z ol)∧w.cell? ⟨q,6,none⟩=some (U Z ge)∧w.cell? ⟨q,7,none⟩=some (U Z ph)∧w.cell? ⟨q,8,none⟩=some (U Z ve)∧w.cell? ⟨q,9,none⟩=some (U Z si)∧w.cell? ⟨q,10,none⟩=some (U Z pt)∧w.cell? ⟨q,11,none⟩=some (U Z vr)∧w.cell? ⟨q,12,none⟩=some (.slice A n c):=by
 have x0:=hb.cell 0;have x1:=hb.cell 1;have x2:=hb.cell 2;have x3:=hb.cell 3;have x4:=hb.cell 4;have x5:=hb.cell 5;have x6:=hb.cell 6;have x7:=hb.cell 7;have x8:=hb.cell 8;have x9:=hb.cell 9;have x10:=hb.cell 10;have x11:=hb.cell 11;have x12:=hb.cell 12;simp only[msC,Ap,Aq,Ar]at x0 x1 x2 x3 x4 x5 x6 x7 x8 x9 x10 x11 x12;exact⟨x0,x1,x2,x3,x4,x5,x6,x7,x8,x9,x10,x11,x12⟩
theorem cy{w w':World}{q:Nat}{kd po ma ow ta ol ge ph ve si pt vr:Int}{A:Option Addr}{n c:Nat}{T:TypeId}(hb:Blk w q T (msC kd po ma ow ta ol ge ph ve si pt vr A n c))(h:Chg (fun _=>False) w w'):
  w'.cell? ⟨q,0,none⟩=some (U Z kd)∧w'.cell? ⟨q,1,none⟩=some (U Z po)∧w'.cell? ⟨q,2,none⟩=some (U .u64 ma)∧w'.cell? ⟨q,3,none⟩=some (U Z ow)∧w'.cell? ⟨q,4,none⟩=some (U Z ta)∧w'.cell? ⟨q,5,none⟩=some (U Z ol)∧w'.cell? ⟨q,6,none⟩=some (U Z ge)∧w'.cell? ⟨q,7,none⟩=some (U Z ph)∧w'.cell? ⟨q,8,none⟩=some (U Z ve)∧w'.cell? ⟨q,9,none⟩=some (U Z si)∧w'.cell? ⟨q,10,none⟩=some (U Z pt)∧w'.cell? ⟨q,11,none⟩=some (U Z vr)∧w'.cell? ⟨q,12,none⟩=some (.slice A n c):=ai (hb.chg h id)
theorem bH{w:World}{q:Nat}{pr sr ds sp dp un:Int}{T:TypeId}(hb:Blk w q T (rcC pr sr ds sp dp un)):
  w.cell? ⟨q,0,none⟩=some (U Z pr)∧w.cell? ⟨q,1,none⟩=some (U .u32 sr)∧w.cell? ⟨q,2,none⟩=some (U .u32 ds)∧w.cell? ⟨q,3,none⟩=some (U Z sp)∧w.cell? ⟨q,4,none⟩=some (U Z dp)∧w.cell? ⟨q,5,none⟩=some (U Z un):=by
 have x0:=hb.cell 0;have x1:=hb.cell 1;have x2:=hb.cell 2;have x3:=hb.cell 3;have x4:=hb.cell 4;have x5:=hb.cell 5;simp only[rcC,Ap,Aq,Ar]at x0 x1 x2 x3 x4 x5;exact⟨x0,x1,x2,x3,x4,x5⟩
theorem oD{w w':World}{q:Nat}{pr sr ds sp dp un:Int}{T:TypeId}(hb:Blk w q T (rcC pr sr ds sp dp un))(h:Chg (fun _=>False) w w'):
  w'.cell? ⟨q,0,none⟩=some (U Z pr)∧w'.cell? ⟨q,1,none⟩=some (U .u32 sr)∧w'.cell? ⟨q,2,none⟩=some (U .u32 ds)∧w'.cell? ⟨q,3,none⟩=some (U Z sp)∧w'.cell? ⟨q,4,none⟩=some (U Z dp)∧w'.cell? ⟨q,5,none⟩=some (U Z un):=bH (hb.chg h id)
def ew(ph ow ta ol:Int):Bool:=
 if ph=0 then ah 0 15 [ow]&&ah (-1) (-1) [ta,ol]
 else if ph=1 then ah 0 15 [ow,ta]&&(!(ow==ta)&&ah (-1) (-1) [ol])
 else if ph=2 then ah 0 15 [ow,ol]&&(!(ow==ol)&&ah (-1) (-1) [ta])
 else if ph=3 then ah (-1) (-1) [ow,ta,ol]
 else false
def bD(p v:Int):Bool:=ah 0 31 [p]&&ah 1 1099511627776 [v]
def rwR(po ma ow ta ol ge ph ve si:Int):Bool:=bD po ve&&(decide (ma≤281474976710655)&&(ah 1 4294967296 [ge]&&(ah 0 1099511627776 [si]&&ew ph ow ta ol)))
theorem cv(lo hi:Int)(l:List Int)(A:Option Addr)(n c:Nat)(S:Nat→Prop)(w:World)(hn:n=l.length)(hr:Rds w S A n (l.map (Value.int .i64)))(hb:n≤1000):
  Calls Tryz.prog 256 #[U Z lo,U Z hi,.slice A n c] w fun e w'=>e=.returned (.bool (ah lo hi l))∧w=w':=by
 have HN:=hd_ hn;clear hn;go_in
 go_wp2
 go_loop [8,11] (fun _ i=>∃k:Nat,k≤n∧i=U Z k∧∀j (hj:j<l.length),j<k→lo≤l[j]∧l[j]≤hi) (fun _ i=>n-(intOf i).toNat)
 case atStart=>exact⟨0,zP _,rfl,fun j _ h=>absurd h (Nat.not_lt_zero _)⟩
 case round=>
  obtain⟨k,hk,rfl,hall⟩:=hrel;have HA:=hd_ hall;clear hall;by_cases hlt:k<n
  ·obtain⟨ad,rfl,_,_,hc⟩:=hr.cellAt hlt
   have hkl:k<l.length:=by have:=HN.out;omega
   rw[List.getElem?_map,zM hkl]at hc;simp only[Option.map_some]at hc;have hv:∃x,x=l[k]:=⟨_,rfl⟩;obtain⟨x,hxe⟩:=hv;rw[←hxe]at hc;have HX:=hd_ hxe;clear hxe;by_cases h1:x<lo
   ·go_wp2
    go_ret;exact⟨aE (eO k hkl (by have:=HX.out;omega)).symm,rfl⟩
   ·by_cases h2:hi<x
    ·go_wp2
     go_ret;exact⟨aE (eO k hkl (by have:=HX.out;omega)).symm,rfl⟩
    ·go_wp2
     go_round
     case rel=>exact⟨k+1,by omega,by go_num,fun j hj hjk=>by
      by_cases e:j<k
      ·exact HA.out j hj e
      ·have:j=k:=by omega
       subst this;have:=HX.out
       omega⟩
     case measure=>simp[intOf];omega
  ·have:k=n:=by omega
   subst this
   go_wp2
   go_ret;exact⟨aE (jz (fun j hj=>HA.out j hj (by have:=HN.out;omega))).symm,rfl⟩
theorem dC(l:List Int)(A:Option Addr)(n c:Nat)(S:Nat→Prop)(w:World)(hn:n=l.length)(hr:Rds w S A n (l.map (Value.int .i64)))(hb:n≤1000):
  Calls Tryz.prog 274 #[.slice A n c] w fun e w'=>e=.returned (.bool (ah 0 15 l))∧w=w':=by
 have HW:=hd_ (cv 0 15 l A n c S w hn hr hb);clear hn hr;go_in;go_wp2_with fail;refine HW.out.mono ?_;rintro e w' ⟨rfl,rfl⟩;go_wp2_with fail;go_ret;exact⟨rfl,rfl⟩
theorem ij(l:List Int)(A:Option Addr)(n c:Nat)(S:Nat→Prop)(w:World)(hn:n=l.length)(hr:Rds w S A n (l.map (Value.int .i64)))(hb:n≤1000):
  Calls Tryz.prog 275 #[.slice A n c] w fun e w'=>e=.returned (.bool (ah (-1) (-1) l))∧w=w':=by
 have HW:=hd_ (cv (-1) (-1) l A n c S w hn hr hb);clear hn hr;go_in;go_wp2_with fail;refine HW.out.mono ?_;rintro e w' ⟨rfl,rfl⟩;go_wp2_with fail;go_ret;exact⟨rfl,rfl⟩
theorem iR(p v:Int)(w:World):Calls Tryz.prog 227 #[U Z p,U Z v] w fun e w'=>e=.returned (.bool (bD p v))∧Chg (fun _=>False) w w':=by
 have HX:=hd_ (Chg.refl (fun _=>False) w);unfold bD;generalize hb1:ah 0 31 [p]=b1;generalize hb2:ah 1 1099511627776 [v]=b2;have HB1:=hd_ hb1;have HB2:=hd_ hb2;clear hb1 hb2
 cases b1 with
 |false=>
  go_in;go_wp2_with fail;refine(cv 0 31 [p] _ 1 1 _ _ rfl (aK _ _ _ _ _ rfl _ _ rfl rfl) (by decide)).mono ?_;rw[HB1.out];rintro e w1 ⟨rfl,hw⟩;have HX:=hd_ (bB HX.out hw);clear hw;go_wp2_with fail;go_ret;exact⟨rfl,HX.out⟩
 |true=>
  go_in;go_wp2_with fail;refine(cv 0 31 [p] _ 1 1 _ _ rfl (aK _ _ _ _ _ rfl _ _ rfl rfl) (by decide)).mono ?_;rw[HB1.out];rintro e w1 ⟨rfl,hw⟩;have HX:=hd_ (bB HX.out hw);clear hw;go_wp2_with fail;refine(cv 1 1099511627776 [v] _ 1 1 _ _ rfl (aK _ _ _ _ _ rfl _ _ rfl rfl) (by decide)).mono ?_;rw[HB2.out];rintro e w2 ⟨rfl,hw⟩;have HX:=hd_ (bB HX.out hw);clear hw;go_wp2_with fail;go_ret;exact⟨rfl,HX.out⟩
theorem tR(po ma ow ta ol ge ph ve si:Int)(w:World):Calls Tryz.prog 257 #[.agg (rvC po ma ow ta ol ge ph ve si)] w fun e w'=>e=.returned (.bool (ew ph ow ta ol))∧Chg (fun _=>False) w w':=by
 have HX:=hd_ (Chg.refl (fun _=>False) (w.alloc (.cells #[U Z po,U .u64 ma,U Z ow,U Z ta,U Z ol,U Z ge,U Z ph,U Z ve,U Z si] 60)));have HB0:Hid (Blk (w.alloc (.cells #[U Z po,U .u64 ma,U Z ow,U Z ta,U Z ol,U Z ge,U Z ph,U Z ve,U Z si] 60)) w.heap.size 60 (rvC po ma ow ta ol ge ph ve si)):=hd_ (af rfl);have HC0:=hd_ ((Chg.refl (fun _=>False) w).alloc (.cells #[U Z po,U .u64 ma,U Z ow,U Z ta,U Z ol,U Z ge,U Z ph,U Z ve,U Z si] 60));unfold rvC;by_cases h0:ph=0
 case pos=>
  subst h0;have hh:ew 0 ow ta ol=(ah 0 15 [ow]&&ah (-1) (-1) [ta,ol]):=rfl;rw[hh];clear hh;generalize hb1:ah 0 15 [ow]=b1;have HB1:=hd_ hb1;clear hb1;generalize hb2:ah (-1) (-1) [ta,ol]=b2;have HB2:=hd_ hb2;clear hb2
  cases b1 with
  |false=>
   go_in;go_wp2_with fail;refine(dC [ow] _ 1 1 _ _ rfl (aK _ _ _ _ _ (by simp) _ _ rfl rfl) (by decide)).mono ?_;rw[HB1.out];rintro e w1 ⟨rfl,hw⟩;have HX:=hd_ (bB HX.out hw);clear hw;obtain⟨y0,y1,y2,y3,y4,y5,y6,y7,y8⟩:=bC HB0.out HX.out;go_wp2_with fail;go_ret;exact⟨rfl,HC0.out.tr HX.out⟩
  |true=>
   go_in;go_wp2_with fail;refine(dC [ow] _ 1 1 _ _ rfl (aK _ _ _ _ _ (by simp) _ _ rfl rfl) (by decide)).mono ?_;rw[HB1.out];rintro e w1 ⟨rfl,hw⟩;have HX:=hd_ (bB HX.out hw);clear hw;obtain⟨y0,y1,y2,y3,y4,y5,y6,y7,y8⟩:=bC HB0.out HX.out;go_wp2_with fail;refine(ij [ta,ol] _ 2 2 _ _ rfl (aK _ _ _ _ _ rfl _ _ rfl rfl) (by decide)).mono ?_;rw[HB2.out];rintro e w2 ⟨rfl,hw⟩;have HX:=hd_ (bB HX.out hw);clear hw;clear y0 y1 y2 y3 y4 y5 y6 y7 y8;obtain⟨y0,y1,y2,y3,y4,y5,y6,y7,y8⟩:=bC HB0.out HX.out;go_wp2_with fail;go_ret;exact⟨rfl,HC0.out.tr HX.out⟩
 by_cases h1:ph=1
 case pos=>
  subst h1;have hh:ew 1 ow ta ol=(ah 0 15 [ow,ta]&&(!(ow==ta)&&ah (-1) (-1) [ol])):=rfl;rw[hh];clear hh;generalize hb1:ah 0 15 [ow,ta]=b1;have HB1:=hd_ hb1;clear hb1;generalize hb2:ah (-1) (-1) [ol]=b2;have HB2:=hd_ hb2;clear hb2
  cases b1 with
  |false=>
   go_in;go_wp2_with fail;refine(dC [ow,ta] _ 2 2 _ _ rfl (aK _ _ _ _ _ (by simp) _ _ rfl rfl) (by decide)).mono ?_;rw[HB1.out];rintro e w1 ⟨rfl,hw⟩;have HX:=hd_ (bB HX.out hw);clear hw;obtain⟨y0,y1,y2,y3,y4,y5,y6,y7,y8⟩:=bC HB0.out HX.out;go_wp2_with fail;go_ret;exact⟨rfl,HC0.out.tr HX.out⟩
  |true=>
   by_cases he:ow=ta
   ·subst he;have hR:=hd_ (show (true&&(!(ow==ow)&&b2))=false by simp);go_in;go_wp2_with fail;refine(dC [ow,ow] _ 2 2 _ _ rfl (aK _ _ _ _ _ (by simp) _ _ rfl rfl) (by decide)).mono ?_;rw[HB1.out];rintro e w1 ⟨rfl,hw⟩;have HX:=hd_ (bB HX.out hw);clear hw;obtain⟨y0,y1,y2,y3,y4,y5,y6,y7,y8⟩:=bC HB0.out HX.out;go_wp2_with fail;go_ret;exact⟨aE hR.out.symm,HC0.out.tr HX.out⟩
   ·have te:(ow==ta)=false:=by simpa using he
    have se:(ow !=ta)=true:=by simpa using he
    have hR:=hd_ (show (true&&(!(ow==ta)&&b2))=b2 by rw[te];rfl);clear he;go_in;go_wp2_with fail;refine(dC [ow,ta] _ 2 2 _ _ rfl (aK _ _ _ _ _ (by simp) _ _ rfl rfl) (by decide)).mono ?_;rw[HB1.out];rintro e w1 ⟨rfl,hw⟩;have HX:=hd_ (bB HX.out hw);clear hw;obtain⟨y0,y1,y2,y3,y4,y5,y6,y7,y8⟩:=bC HB0.out HX.out;go_wp2_with fail;refine(ij [ol] _ 1 1 _ _ rfl (aK _ _ _ _ _ rfl _ _ rfl rfl) (by decide)).mono ?_;rw[HB2.out];rintro e w2 ⟨rfl,hw⟩;have HX:=hd_ (bB HX.out hw);clear hw;clear y0 y1 y2 y3 y4 y5 y6 y7 y8;obtain⟨y0,y1,y2,y3,y4,y5,y6,y7,y8⟩:=bC HB0.out HX.out;go_wp2_with fail;go_ret;exact⟨aE hR.out.symm,HC0.out.tr HX.out⟩
 by_cases h2:ph=2
 case pos=>
  subst h2;have hh:ew 2 ow ta ol=(ah 0 15 [ow,ol]&&(!(ow==ol)&&ah (-1) (-1) [ta])):=rfl;rw[hh];clear hh;generalize hb1:ah 0 15 [ow,ol]=b1;have HB1:=hd_ hb1;clear hb1;generalize hb2:ah (-1) (-1) [ta]=b2;have HB2:=hd_ hb2;clear hb2
  cases b1 with
  |false=>
   go_in;go_wp2_with fail;refine(dC [ow,ol] _ 2 2 _ _ rfl (aK _ _ _ _ _ (by simp) _ _ rfl rfl) (by decide)).mono ?_;rw[HB1.out];rintro e w1 ⟨rfl,hw⟩;have HX:=hd_ (bB HX.out hw);clear hw;obtain⟨y0,y1,y2,y3,y4,y5,y6,y7,y8⟩:=bC HB0.out HX.out;go_wp2_with fail;go_ret;exact⟨rfl,HC0.out.tr HX.out⟩
  |true=>
   by_cases he:ow=ol
   ·subst he;have hR:=hd_ (show (true&&(!(ow==ow)&&b2))=false by simp);go_in;go_wp2_with fail;refine(dC [ow,ow] _ 2 2 _ _ rfl (aK _ _ _ _ _ (by simp) _ _ rfl rfl) (by decide)).mono ?_;rw[HB1.out];rintro e w1 ⟨rfl,hw⟩;have HX:=hd_ (bB HX.out hw);clear hw;obtain⟨y0,y1,y2,y3,y4,y5,y6,y7,y8⟩:=bC HB0.out HX.out;go_wp2_with fail;go_ret;exact⟨aE hR.out.symm,HC0.out.tr HX.out⟩
   ·have te:(ow==ol)=false:=by simpa using he
    have se:(ow !=ol)=true:=by simpa using he
    have hR:=hd_ (show (true&&(!(ow==ol)&&b2))=b2 by rw[te];rfl);clear he;go_in;go_wp2_with fail;refine(dC [ow,ol] _ 2 2 _ _ rfl (aK _ _ _ _ _ (by simp) _ _ rfl rfl) (by decide)).mono ?_;rw[HB1.out];rintro e w1 ⟨rfl,hw⟩;have HX:=hd_ (bB HX.out hw);clear hw;obtain⟨y0,y1,y2,y3,y4,y5,y6,y7,y8⟩:=bC HB0.out HX.out;go_wp2_with fail;refine(ij [ta] _ 1 1 _ _ rfl (aK _ _ _ _ _ rfl _ _ rfl rfl) (by decide)).mono ?_;rw[HB2.out];rintro e w2 ⟨rfl,hw⟩;have HX:=hd_ (bB HX.out hw);clear hw;clear y0 y1 y2 y3 y4 y5 y6 y7 y8;obtain⟨y0,y1,y2,y3,y4,y5,y6,y7,y8⟩:=bC HB0.out HX.out;go_wp2_with fail;go_ret;exact⟨aE hR.out.symm,HC0.out.tr HX.out⟩
 by_cases h3:ph=3
 case pos=>
  subst h3;have hh:ew 3 ow ta ol=ah (-1) (-1) [ow,ta,ol]:=rfl;rw[hh];clear hh;generalize hb1:ah (-1) (-1) [ow,ta,ol]=b1;have HB1:=hd_ hb1;clear hb1;go_in;go_wp2_with fail;refine(ij [ow,ta,ol] _ 3 3 _ _ rfl (aK _ _ _ _ _ (by simp) _ _ rfl rfl) (by decide)).mono ?_;rw[HB1.out];rintro e w1 ⟨rfl,hw⟩;have HX:=hd_ (bB HX.out hw);clear hw;go_wp2_with fail;go_ret;exact⟨rfl,HC0.out.tr HX.out⟩
 have t0:(ph==0)=false:=by simpa using h0
 have t1:(ph==1)=false:=by simpa using h1
 have t2:(ph==2)=false:=by simpa using h2
 have t3:(ph==3)=false:=by simpa using h3
 have hR:=hd_ (show ew ph ow ta ol=false by unfold ew;rw[if_neg h0,if_neg h1,if_neg h2,if_neg h3]);clear h0 h1 h2 h3;go_in;go_wp2_with fail;go_ret;exact⟨aE hR.out.symm,HC0.out.tr HX.out⟩
theorem dF(po ma ow ta ol ge ph ve si:Int)(w:World):Calls Tryz.prog 226 #[.agg (rvC po ma ow ta ol ge ph ve si)] w fun e w'=>e=.returned (.bool (rwR po ma ow ta ol ge ph ve si))∧Chg (fun _=>False) w w':=by
 have HX:=hd_ (Chg.refl (fun _=>False) (w.alloc (.cells #[U Z po,U .u64 ma,U Z ow,U Z ta,U Z ol,U Z ge,U Z ph,U Z ve,U Z si] 60)));have HB0:Hid (Blk (w.alloc (.cells #[U Z po,U .u64 ma,U Z ow,U Z ta,U Z ol,U Z ge,U Z ph,U Z ve,U Z si] 60)) w.heap.size 60 (rvC po ma ow ta ol ge ph ve si)):=hd_ (af rfl);have HC0:=hd_ ((Chg.refl (fun _=>False) w).alloc (.cells #[U Z po,U .u64 ma,U Z ow,U Z ta,U Z ol,U Z ge,U Z ph,U Z ve,U Z si] 60));have hn:=fun W=>iR po ve W;have hh:=fun W=>tR po ma ow ta ol ge ph ve si W;unfold rwR;generalize bD po ve=b1 at*;generalize ew ph ow ta ol=b4 at*;generalize hb2:ah 1 4294967296 [ge]=b2;have HB2:=hd_ hb2;clear hb2;generalize hb3:ah 0 1099511627776 [si]=b3;have HB3:=hd_ hb3;clear hb3;unfold rvC at hh⊢;have HN:=hd_ hn;have HH:=hd_ hh;clear hn hh
 cases b1 with
 |false=>
  have hR:=hd_ (show (false&&(decide (ma≤281474976710655)&&(b2&&(b3&&b4))))=false from rfl);go_in;go_wp2_with fail;refine(HN.out _).mono ?_;rintro e w1 ⟨rfl,hc'⟩;have HX:=hd_ (HX.out.tr hc');clear hc';obtain⟨y0,y1,y2,y3,y4,y5,y6,y7,y8⟩:=bC HB0.out HX.out;go_wp2_with fail;go_ret;exact⟨aE hR.out.symm,HC0.out.tr HX.out⟩
 |true=>
  by_cases hm:ma≤281474976710655
  case neg=>
   have hR:=hd_ (show (true&&(decide (ma≤281474976710655)&&(b2&&(b3&&b4))))=false by simp[hm]);go_in;go_wp2_with fail;refine(HN.out _).mono ?_;rintro e w1 ⟨rfl,hc'⟩;have HX:=hd_ (HX.out.tr hc');clear hc';obtain⟨y0,y1,y2,y3,y4,y5,y6,y7,y8⟩:=bC HB0.out HX.out;go_wp2_with fail;go_ret;exact⟨aE hR.out.symm,HC0.out.tr HX.out⟩
  cases b2 with
  |false=>
   have hR:=hd_ (show (true&&(decide (ma≤281474976710655)&&(false&&(b3&&b4))))=false by simp[hm]);go_in;go_wp2_with fail;refine(HN.out _).mono ?_;rintro e w1 ⟨rfl,hc'⟩;have HX:=hd_ (HX.out.tr hc');clear hc';obtain⟨y0,y1,y2,y3,y4,y5,y6,y7,y8⟩:=bC HB0.out HX.out;go_wp2_with fail;refine(cv 1 4294967296 [ge] _ 1 1 _ _ rfl (aK _ _ _ _ _ rfl _ _ rfl rfl) (by decide)).mono ?_;rw[HB2.out];rintro e w2 ⟨rfl,hw⟩;have HX:=hd_ (bB HX.out hw);clear hw;clear y0 y1 y2 y3 y4 y5 y6 y7 y8;obtain⟨y0,y1,y2,y3,y4,y5,y6,y7,y8⟩:=bC HB0.out HX.out;go_wp2_with fail;go_ret;exact⟨aE hR.out.symm,HC0.out.tr HX.out⟩
  |true=>
   cases b3 with
   |false=>
    have hR:=hd_ (show (true&&(decide (ma≤281474976710655)&&(true&&(false&&b4))))=false by simp[hm]);go_in;go_wp2_with fail;refine(HN.out _).mono ?_;rintro e w1 ⟨rfl,hc'⟩;have HX:=hd_ (HX.out.tr hc');clear hc';obtain⟨y0,y1,y2,y3,y4,y5,y6,y7,y8⟩:=bC HB0.out HX.out;go_wp2_with fail;refine(cv 1 4294967296 [ge] _ 1 1 _ _ rfl (aK _ _ _ _ _ rfl _ _ rfl rfl) (by decide)).mono ?_;rw[HB2.out];rintro e w2 ⟨rfl,hw⟩;have HX:=hd_ (bB HX.out hw);clear hw;clear y0 y1 y2 y3 y4 y5 y6 y7 y8;obtain⟨y0,y1,y2,y3,y4,y5,y6,y7,y8⟩:=bC HB0.out HX.out;go_wp2_with fail;refine(cv 0 1099511627776 [si] _ 1 1 _ _ rfl (aK _ _ _ _ _ rfl _ _ rfl rfl) (by decide)).mono ?_;rw[HB3.out];rintro e w3 ⟨rfl,hw⟩;have HX:=hd_ (bB HX.out hw);clear hw;clear y0 y1 y2 y3 y4 y5 y6 y7 y8;obtain⟨y0,y1,y2,y3,y4,y5,y6,y7,y8⟩:=bC HB0.out HX.out;go_wp2_with fail;go_ret;exact⟨aE hR.out.symm,HC0.out.tr HX.out⟩
   |true=>
    have hR:=hd_ (show (true&&(decide (ma≤281474976710655)&&(true&&(true&&b4))))=b4 by simp[hm]);go_in;go_wp2_with fail;refine(HN.out _).mono ?_;rintro e w1 ⟨rfl,hc'⟩;have HX:=hd_ (HX.out.tr hc');clear hc';obtain⟨y0,y1,y2,y3,y4,y5,y6,y7,y8⟩:=bC HB0.out HX.out;go_wp2_with fail;refine(cv 1 4294967296 [ge] _ 1 1 _ _ rfl (aK _ _ _ _ _ rfl _ _ rfl rfl) (by decide)).mono ?_;rw[HB2.out];rintro e w2 ⟨rfl,hw⟩;have HX:=hd_ (bB HX.out hw);clear hw;clear y0 y1 y2 y3 y4 y5 y6 y7 y8;obtain⟨y0,y1,y2,y3,y4,y5,y6,y7,y8⟩:=bC HB0.out HX.out;go_wp2_with fail;refine(cv 0 1099511627776 [si] _ 1 1 _ _ rfl (aK _ _ _ _ _ rfl _ _ rfl rfl) (by decide)).mono ?_;rw[HB3.out];rintro e w3 ⟨rfl,hw⟩;have HX:=hd_ (bB HX.out hw);clear hw;clear y0 y1 y2 y3 y4 y5 y6 y7 y8;obtain⟨y0,y1,y2,y3,y4,y5,y6,y7,y8⟩:=bC HB0.out HX.out;go_wp2_with fail;refine(HH.out _).mono ?_;rintro e w4 ⟨rfl,hc'⟩;have HX:=hd_ (HX.out.tr hc');clear hc';go_wp2_with fail;go_ret;exact⟨aE hR.out.symm,HC0.out.tr HX.out⟩
structure Rc where
 pr:Int
 sr:Int
 ds:Int
 sp:Int
 dp:Int
 un:Int
def Rc.cs(x:Rc):Array Value:=rcC x.pr x.sr x.ds x.sp x.dp x.un
def RcR(w:World)(S:Nat→Prop)(L:Option Addr)(m:Nat)(l:List Rc):Prop:=
 m=l.length∧(0<m→∃ad,L=some ad∧S ad.block∧ad.block<w.heap.size∧∀(i:Nat) (x:Rc),l[i]?=some x→∀(j:Nat) (u:Value),x.cs[j]?=some u→w.cell? (ad.add (i*6+j))=some u)
section
variable {w w' : World} {S S' : Nat → Prop} {L : Option Addr} {m : Nat} {l : List Rc}
theorem RcR.keep(h:RcR w S L m l)(hz:w.heap.size≤w'.heap.size)(hk:∀k,S k→k<w.heap.size→w'.heap[k]?=w.heap[k]?):RcR w' S L m l:=by
 refine⟨h.1,fun hm=>?_⟩;obtain⟨ad,e,hs,hb,hc⟩:=h.2 hm;refine⟨ad,e,hs,Nat.lt_of_lt_of_le hb hz,fun i x hi j u hu=>?_⟩;rw[←hc i x hi j u hu];exact zK (by rw[bP];exact hk _ hs hb)
theorem RcR.chg(h:RcR w S L m l)(hc:Chg S' w w')(hd:∀k,S k→¬S' k):RcR w' S L m l:=h.keep hc.size fun k hs hk=>hc.block k hk (hd k hs)
theorem RcR.alloc(h:RcR w S L m l)(o:Obj):RcR (w.alloc o) S L m l:=h.chg ((Chg.refl (fun _=>False) w).alloc o) (fun _ _=>id)
theorem RcR.mono(h:RcR w S L m l)(hs:∀k,S k→S' k):RcR w S' L m l:=
 ⟨h.1,fun hm=>by obtain⟨ad,e,h1,h2⟩:=h.2 hm;exact⟨ad,e,hs _ h1,h2⟩⟩
theorem RcR.nil(w:World)(S:Nat→Prop)(L:Option Addr):RcR w S L 0 []:=⟨rfl,fun h=>absurd h (by omega)⟩
theorem RcR.old(h:RcR w S L m l):RcR w (fun k=>S k∧k<w.heap.size) L m l:=
 ⟨h.1,fun hm=>by obtain⟨ad,e,h1,h2,h3⟩:=h.2 hm;exact⟨ad,e,⟨h1,h2⟩,h2,h3⟩⟩
theorem RcR.back{w0:World}(h:RcR w' S L m l)(hc:Chg S' w0 w')(hS:∀k,S k→k<w0.heap.size∧¬S' k):RcR w0 S L m l:=by
 refine⟨h.1,fun hm=>?_⟩;obtain⟨ad,e,hs,hb,hcell⟩:=h.2 hm;obtain⟨h1,h2⟩:=hS _ hs;refine⟨ad,e,hs,h1,fun i x hi j u hu=>?_⟩;rw[←hcell i x hi j u hu];exact(zK (by rw[bP];exact hc.block _ h1 h2)).symm
theorem RcR.at{ad:Addr}{i:Nat}{x:Rc}(h:RcR w S (some ad) m l)(hi:l[i]?=some x):
  w.cell? (ad.add (i*6))=some (U Z x.pr)∧w.cell? ⟨(ad.add (i*6)).block,(ad.add (i*6)).off+1,none⟩=some (U .u32 x.sr)∧w.cell? ⟨(ad.add (i*6)).block,(ad.add (i*6)).off+2,none⟩=some (U .u32 x.ds)∧
  w.cell? ⟨(ad.add (i*6)).block,(ad.add (i*6)).off+3,none⟩=some (U Z x.sp)∧w.cell? ⟨(ad.add (i*6)).block,(ad.add (i*6)).off+4,none⟩=some (U Z x.dp)∧w.cell? ⟨(ad.add (i*6)).block,(ad.add (i*6)).off+5,none⟩=some (U Z x.un):=by
 have hl:i<l.length:=(zS.1 hi).1;obtain⟨ad',e,_,_,hc⟩:=h.2 (by have:=h.1;omega);injection e with e;subst e;have h2:=hc i x hi;have g0:=h2 0 (U Z x.pr) rfl;have g1:=h2 1 (U .u32 x.sr) rfl;have g2:=h2 2 (U .u32 x.ds) rfl;have g3:=h2 3 (U Z x.sp) rfl;have g4:=h2 4 (U Z x.dp) rfl;have g5:=h2 5 (U Z x.un) rfl;rw[←dM]at g0 g1 g2 g3 g4 g5;exact⟨g0,g1,g2,g3,g4,g5⟩
end
def mH(pr sp dp un:Int):Bool:=flR pr sp dp&&ah 0 1099511627776 [un]
def rcR(x:Rc):Bool:=mH x.pr x.sp x.dp x.un
theorem rl(pr sr ds sp dp un:Int)(w:World):Calls Tryz.prog 258 #[.agg (rcC pr sr ds sp dp un)] w fun e w'=>e=.returned (.bool (!mH pr sp dp un))∧Chg (fun _=>False) w w':=by
 have HX:=hd_ (Chg.refl (fun _=>False) (w.alloc (.cells #[U Z pr,U .u32 sr,U .u32 ds,U Z sp,U Z dp,U Z un] 219)));have HB0:Hid (Blk (w.alloc (.cells #[U Z pr,U .u32 sr,U .u32 ds,U Z sp,U Z dp,U Z un] 219)) w.heap.size 219 (rcC pr sr ds sp dp un)):=hd_ (af rfl);have HC0:=hd_ ((Chg.refl (fun _=>False) w).alloc (.cells #[U Z pr,U .u32 sr,U .u32 ds,U Z sp,U Z dp,U Z un] 219));have hf:=fun W=>pq pr sr ds sp dp W;unfold mH;generalize flR pr sp dp=b1 at*;generalize hb2:ah 0 1099511627776 [un]=b2;have HB2:=hd_ hb2;clear hb2;unfold rcC;unfold flC at hf;have HF:=hd_ hf;clear hf
 cases b1 with
 |false=>
  go_in;go_wp2_with fail;refine(HF.out _).mono ?_;rintro e w1 ⟨rfl,hc1⟩;have HX:=hd_ (HX.out.tr hc1);clear hc1;obtain⟨y0,y1,y2,y3,y4,y5⟩:=oD HB0.out HX.out;go_wp2_with fail;go_ret;exact⟨rfl,HC0.out.tr HX.out⟩
 |true=>
  go_in;go_wp2_with fail;refine(HF.out _).mono ?_;rintro e w1 ⟨rfl,hc1⟩;have HX:=hd_ (HX.out.tr hc1);clear hc1;obtain⟨y0,y1,y2,y3,y4,y5⟩:=oD HB0.out HX.out;go_wp2_with fail;refine(cv 0 1099511627776 [un] _ 1 1 _ _ rfl (aK _ _ _ _ _ rfl _ _ rfl rfl) (by decide)).mono ?_;rw[HB2.out];rintro e w2 ⟨rfl,hw⟩;have HX:=hd_ (bB HX.out hw);clear hw;go_wp2_with fail;go_ret;exact⟨aE (by simp),HC0.out.tr HX.out⟩
theorem pu(L:Option Addr)(m lc:Nat)(l:List Rc)(w:World)(S:Nat→Prop)(h:RcR w S L m l)(hmc:m≤9223372036854775807):
  Calls Tryz.prog 277 #[.slice L m lc,.func (.func 258) #[] #[]] w fun e w'=>∃z:Int,e=.returned (U Z z)∧decide (0≤z)= !(l.all rcR)∧Chg (fun _=>False) w w':=by
 have HH:=hd_ h;have hl:=h.1;have HL:=hd_ hl;clear h hl;go_in;go_wp2_with fail
 go_loopg [5,8] m (fun g s5 i wr=>∃j:Nat,g=m-j∧j≤m∧i=U Z (j:Int)∧Hid (∀(i:Nat) (x:Rc),i<j→l[i]?=some x→rcR x=true)∧Hid (Chg (fun _=>False) w wr))
 case atStart=>exact⟨0,rfl,zP _,rfl,fun i x hi=>absurd hi (by omega),Chg.refl _ _⟩
 case round=>
  obtain⟨j,rfl,hj,rfl,HA,HX⟩:=hrel;by_cases hlt:j<m
  ·have hh:=HH.out.chg HX.out (fun _ _=>id);obtain⟨ad,rfl,_,_,_⟩:=hh.2 (by omega)
   have hjl:j<l.length:=by have:=HL.out;omega
   have hx:l[j]?=some l[j]:=zM hjl;generalize l[j]=x at*;obtain⟨z0,z1,z2,z3,z4,z5⟩:=hh.at hx;have hk:=fun W=>rl x.pr x.sr x.ds x.sp x.dp x.un W;have hr:mH x.pr x.sp x.dp x.un=rcR x:=rfl;rw[hr]at hk;clear hr;have HJ:=hd_ hx;clear hx hh;unfold rcC at hk
   cases hb:rcR x with
   |false=>
    rw[hb]at hk;have HK:=hd_ hk;clear hk;go_wp2_with fail;refine(HK.out _).mono ?_;rintro e w1 ⟨rfl,hc1⟩;have HX:=hd_ (HX.out.tr hc1);clear hc1;go_wp2_with fail;go_ret;refine⟨(j:Int),rfl,?_,HX.out⟩;have e1:l.all rcR=false:=List.all_eq_false.2 ⟨x,List.mem_of_getElem? HJ.out,by rw[hb];decide⟩;rw[e1];simp
   |true=>
    rw[hb]at hk;have HK:=hd_ hk;clear hk;go_wp2_with fail;refine(HK.out _).mono ?_;rintro e w1 ⟨rfl,hc1⟩;have HX:=hd_ (HX.out.tr hc1);clear hc1;go_wp2_with fail;go_roundg (m-(j+1))
    case measure=>omega
    case rel=>
     refine⟨j+1,rfl,by omega,by go_num,fun i y hi hy=>?_,HX.out⟩;by_cases e:i<j
     ·exact HA.out i y e hy
     ·have:i=j:=by omega
      subst this;have:=HJ.out;rw[hy]at this;injection this with this;subst this;exact hb
  ·have:j=m:=by omega
   subst this;go_wp2_with fail;go_ret;refine⟨-1,rfl,?_,HX.out⟩
   have e1:l.all rcR=true:=AJ.2 (fun y hy=>by
    obtain⟨i,hi⟩:=List.getElem?_of_mem hy;have:=(zS.1 hi).1;have:=HL.out
    exact HA.out i y (by omega) hi)
   rw[e1];rfl
theorem mg(L:Option Addr)(m lc:Nat)(l:List Rc)(w:World)(S:Nat→Prop)(h:RcR w S L m l)(hmc:m≤9223372036854775807):
  Calls Tryz.prog 260 #[.slice L m lc,.func (.func 258) #[] #[]] w fun e w'=>e=.returned (.bool (!(l.all rcR)))∧Chg (fun _=>False) w w':=by
 have HK:=hd_ (pu L m lc l w S h hmc);clear h hmc;go_in;go_wp2_with fail;refine HK.out.mono ?_;rintro e w1 ⟨z,rfl,hz,hc⟩;have HZ:=hd_ hz;have HC:=hd_ hc;clear hz hc;go_wp2_with fail;go_ret;exact⟨aE HZ.out,HC.out⟩
def fD(l:List Rc):Bool:=decide (l.length≤16)&&l.all rcR
theorem rn(L:Option Addr)(m lc:Nat)(l:List Rc)(w:World)(S:Nat→Prop)(h:RcR w S L m l)(hmc:m≤9223372036854775807):
  Calls Tryz.prog 228 #[.slice L m lc] w fun e w'=>e=.returned (.bool (fD l))∧Chg (fun _=>False) w w':=by
 have HK:=hd_ (mg L m lc l w S h hmc);have HL:=hd_ h.1;clear h;by_cases hm:m≤16
 ·have hR:=hd_ (show fD l=l.all rcR by unfold fD;rw[←HL.out];simp[hm]);generalize l.all rcR=b at*;go_in;go_wp2_with fail;refine HK.out.mono ?_;rintro e w1 ⟨rfl,hc⟩;have HC:=hd_ hc;clear hc;go_wp2_with fail;go_ret;exact⟨aE (by rw[hR.out]),HC.out⟩
 ·have hR:=hd_ (show fD l=false by unfold fD;rw[←HL.out];simp[hm]);go_in;go_wp2_with fail;go_ret;exact⟨aE hR.out.symm,Chg.refl _ _⟩
def rvE(po ma ow ta ol ge ph ve si po2 ma2 ow2 ta2 ol2 ge2 ph2 ve2 si2:Int):Bool:=po==po2&&(ma==ma2&&(ow==ow2&&(ta==ta2&&(ol==ol2&&(ge==ge2&&(ph==ph2&&(ve==ve2&&si==si2)))))))
theorem vf:Tryz.prog.underlying 60=some (.struct (Tryz.prog.fieldsOf 60)):=by kernel_rfl
theorem vg:Tryz.prog.stoodInHeld 60=false:=by kernel_rfl
theorem vh(W:World)(po ma ow ta ol ge ph ve si po2 ma2 ow2 ta2 ol2 ge2 ph2 ve2 si2:Int):(binOp .eql 60 (.agg #[U Z po,U .u64 ma,U Z ow,U Z ta,U Z ol,U Z ge,U Z ph,U Z ve,U Z si]) (.agg #[U Z po2,U .u64 ma2,U Z ow2,U Z ta2,U Z ol2,U Z ge2,U Z ph2,U Z ve2,U Z si2])).run Tryz.prog W=.ok (.bool (rvE po ma ow ta ol ge ph ve si po2 ma2 ow2 ta2 ol2 ge2 ph2 ve2 si2)) W:=by
 rw[run_eql_struct,show (10000:Nat)=9999+1 from rfl,run_equalIn_agg W 9999 60 _ _ vf vg];unfold rvE;go_simp;by_cases h0:po=po2
 case neg=>simp[h0]
 subst h0;by_cases h1:ma=ma2
 case neg=>simp[h1]
 subst h1;by_cases h2:ow=ow2
 case neg=>simp[h2]
 subst h2;by_cases h3:ta=ta2
 case neg=>simp[h3]
 subst h3;by_cases h4:ol=ol2
 case neg=>simp[h4]
 subst h4;by_cases h5:ge=ge2
 case neg=>simp[h5]
 subst h5;by_cases h6:ph=ph2
 case neg=>simp[h6]
 subst h6;by_cases h7:ve=ve2
 case neg=>simp[h7]
 subst h7;by_cases h8:si=si2
 case neg=>simp[h8]
 subst h8;simp
def msR(kd po ma ow ta ol ge ph ve si pt vr:Int)(l:List Rc):Bool:=
 if kd=1 then rwR po ma ow ta ol ge ph ve si&&(pt==0&&(vr==0&&l.length==0))
 else if kd=2 then rvE po ma ow ta ol ge ph ve si 0 0 0 0 0 0 0 0 0&&(bD pt vr&&l.length==0)
 else if kd=3 then rvE po ma ow ta ol ge ph ve si 0 0 0 0 0 0 0 0 0&&(bD pt vr&&fD l)
 else false
theorem pw(n:Nat):(n==0)=((n:Int)==0):=by
 by_cases h:n=0
 ·subst h;rfl
 ·have h2:(n==0)=false:=by simpa using h
  have h3:((n:Int)==0)=false:=by simp;omega
  rw[h2,h3]
theorem df(kd po ma ow ta ol ge ph ve si pt vr:Int)(A:Option Addr)(n c:Nat)(l:List Rc)(S:Nat→Prop)(w:World)(h:RcR w S A n l)(hn2:n≤9223372036854775807):
  Calls Tryz.prog 188 #[.agg (msC kd po ma ow ta ol ge ph ve si pt vr A n c)] w fun e w'=>e=.returned (.bool (msR kd po ma ow ta ol ge ph ve si pt vr l))∧Chg (fun _=>False) w w':=by
 have HX:=hd_ (Chg.refl (fun _=>False) (w.alloc (.cells #[U Z kd,U Z po,U .u64 ma,U Z ow,U Z ta,U Z ol,U Z ge,U Z ph,U Z ve,U Z si,U Z pt,U Z vr,.slice A n c] 74)));have HB0:Hid (Blk (w.alloc (.cells #[U Z kd,U Z po,U .u64 ma,U Z ow,U Z ta,U Z ol,U Z ge,U Z ph,U Z ve,U Z si,U Z pt,U Z vr,.slice A n c] 74)) w.heap.size 74 (msC kd po ma ow ta ol ge ph ve si pt vr A n c)):=hd_ (af rfl);have HC0:=hd_ ((Chg.refl (fun _=>False) w).alloc (.cells #[U Z kd,U Z po,U .u64 ma,U Z ow,U Z ta,U Z ol,U Z ge,U Z ph,U Z ve,U Z si,U Z pt,U Z vr,.slice A n c] 74));have HL:=hd_ h.1;have HH:=hd_ h;have HN2:=hd_ hn2;clear h;unfold msC;by_cases h1:kd=1
 case pos=>
  subst h1;have hh:msR 1 po ma ow ta ol ge ph ve si pt vr l=(rwR po ma ow ta ol ge ph ve si&&(pt==0&&(vr==0&&l.length==0))):=rfl;rw[hh,←HL.out,pw];clear hh;have hr:=fun W=>dF po ma ow ta ol ge ph ve si W;generalize rwR po ma ow ta ol ge ph ve si=b1 at*;unfold rvC at hr;have HR:=hd_ hr;clear hr
  cases b1 with
  |false=>
   have hR:=hd_ (show (false&&(pt==0&&(vr==0&&(n:Int)==0)))=false from rfl);go_in;go_wp2_with fail;refine(HR.out _).mono ?_;rintro e w1 ⟨rfl,hc'⟩;have HX:=hd_ (HX.out.tr hc');clear hc';obtain⟨y0,y1,y2,y3,y4,y5,y6,y7,y8,y9,y10,y11,y12⟩:=cy HB0.out HX.out;go_wp2_with fail;go_ret;exact⟨aE hR.out.symm,HC0.out.tr HX.out⟩
  |true=>
   by_cases hpt:pt=0
   case neg=>
    have tpt:(pt==0)=false:=by simpa using hpt
    have hR:=hd_ (show (true&&(pt==0&&(vr==0&&(n:Int)==0)))=false by rw[tpt];rfl);clear hpt;go_in;go_wp2_with fail;refine(HR.out _).mono ?_;rintro e w1 ⟨rfl,hc'⟩;have HX:=hd_ (HX.out.tr hc');clear hc';obtain⟨y0,y1,y2,y3,y4,y5,y6,y7,y8,y9,y10,y11,y12⟩:=cy HB0.out HX.out;go_wp2_with fail;go_ret;exact⟨aE hR.out.symm,HC0.out.tr HX.out⟩
   subst hpt;by_cases hvr:vr=0
   case neg=>
    have tvr:(vr==0)=false:=by simpa using hvr
    have hR:=hd_ (show (true&&((0:Int)==0&&(vr==0&&(n:Int)==0)))=false by rw[tvr];rfl);clear hvr;go_in;go_wp2_with fail;refine(HR.out _).mono ?_;rintro e w1 ⟨rfl,hc'⟩;have HX:=hd_ (HX.out.tr hc');clear hc';obtain⟨y0,y1,y2,y3,y4,y5,y6,y7,y8,y9,y10,y11,y12⟩:=cy HB0.out HX.out;go_wp2_with fail;go_ret;exact⟨aE hR.out.symm,HC0.out.tr HX.out⟩
   subst hvr;go_in;go_wp2_with fail;refine(HR.out _).mono ?_;rintro e w1 ⟨rfl,hc'⟩;have HX:=hd_ (HX.out.tr hc');clear hc';obtain⟨y0,y1,y2,y3,y4,y5,y6,y7,y8,y9,y10,y11,y12⟩:=cy HB0.out HX.out;go_wp2_with fail;go_ret;exact⟨aE (by simp),HC0.out.tr HX.out⟩
 by_cases h2:kd=2
 case pos=>
  subst h2;have hh:msR 2 po ma ow ta ol ge ph ve si pt vr l=(rvE po ma ow ta ol ge ph ve si 0 0 0 0 0 0 0 0 0&&(bD pt vr&&l.length==0)):=rfl;rw[hh,←HL.out,pw];clear hh;have he:=fun W=>vh W po ma ow ta ol ge ph ve si 0 0 0 0 0 0 0 0 0;generalize rvE po ma ow ta ol ge ph ve si 0 0 0 0 0 0 0 0 0=b0 at*;have hn:=fun W=>iR pt vr W;generalize bD pt vr=b1 at*;have HN:=hd_ hn;clear hn
  cases b0 with
  |false=>
   go_in;go_wp2_with fail;go_ret;exact⟨rfl,HC0.out.tr HX.out⟩
  |true=>
   cases b1 with
   |false=>
    go_in;go_wp2_with fail;refine(HN.out _).mono ?_;rintro e w1 ⟨rfl,hc'⟩;have HX:=hd_ (HX.out.tr hc');clear hc';obtain⟨y0,y1,y2,y3,y4,y5,y6,y7,y8,y9,y10,y11,y12⟩:=cy HB0.out HX.out;go_wp2_with fail;go_ret;exact⟨rfl,HC0.out.tr HX.out⟩
   |true=>
    go_in;go_wp2_with fail;refine(HN.out _).mono ?_;rintro e w1 ⟨rfl,hc'⟩;have HX:=hd_ (HX.out.tr hc');clear hc';obtain⟨y0,y1,y2,y3,y4,y5,y6,y7,y8,y9,y10,y11,y12⟩:=cy HB0.out HX.out;go_wp2_with fail;go_ret;exact⟨aE (by simp),HC0.out.tr HX.out⟩
 by_cases h3:kd=3
 case pos=>
  subst h3;have hh:msR 3 po ma ow ta ol ge ph ve si pt vr l=(rvE po ma ow ta ol ge ph ve si 0 0 0 0 0 0 0 0 0&&(bD pt vr&&fD l)):=rfl;rw[hh];clear hh;have he:=fun W=>vh W po ma ow ta ol ge ph ve si 0 0 0 0 0 0 0 0 0;generalize rvE po ma ow ta ol ge ph ve si 0 0 0 0 0 0 0 0 0=b0 at*;have hn:=fun W=>iR pt vr W;generalize bD pt vr=b1 at*;have HN:=hd_ hn;clear hn
  cases b0 with
  |false=>
   go_in;go_wp2_with fail;go_ret;exact⟨rfl,HC0.out.tr HX.out⟩
  |true=>
   cases b1 with
   |false=>
    go_in;go_wp2_with fail;refine(HN.out _).mono ?_;rintro e w1 ⟨rfl,hc'⟩;have HX:=hd_ (HX.out.tr hc');clear hc';obtain⟨y0,y1,y2,y3,y4,y5,y6,y7,y8,y9,y10,y11,y12⟩:=cy HB0.out HX.out;go_wp2_with fail;go_ret;exact⟨rfl,HC0.out.tr HX.out⟩
   |true=>
    have HK:=hd_ (fun(W:World) (hc:Chg (fun _=>False) (w.alloc (.cells #[U Z 3,U Z po,U .u64 ma,U Z ow,U Z ta,U Z ol,U Z ge,U Z ph,U Z ve,U Z si,U Z pt,U Z vr,.slice A n c] 74)) W)=>rn A n c l W S ((HH.out.alloc _).chg hc (fun _ _=>id)) HN2.out);generalize fD l=b2 at*;go_in;go_wp2_with fail;refine(HN.out _).mono ?_;rintro e w1 ⟨rfl,hc'⟩;have HX:=hd_ (HX.out.tr hc');clear hc';obtain⟨y0,y1,y2,y3,y4,y5,y6,y7,y8,y9,y10,y11,y12⟩:=cy HB0.out HX.out;go_wp2_with fail;refine(HK.out _ HX.out).mono ?_;rintro e w2 ⟨rfl,hc'⟩;have HX:=hd_ (HX.out.tr hc');clear hc';go_wp2_with fail;go_ret;exact⟨rfl,HC0.out.tr HX.out⟩
 have t1:(kd==1)=false:=by simpa using h1
 have t2:(kd==2)=false:=by simpa using h2
 have t3:(kd==3)=false:=by simpa using h3
 have hR:=hd_ (show msR kd po ma ow ta ol ge ph ve si pt vr l=false by unfold msR;rw[if_neg h1,if_neg h2,if_neg h3]);clear h1 h2 h3;go_in;go_wp2_with fail;go_ret;exact⟨aE hR.out.symm,HC0.out.tr HX.out⟩
theorem kx(lo hi x:Int):ah lo hi [x]=(decide (lo≤x)&&decide (x≤hi)):=by simp[ah]
def Kp6(w w':World):Prop:=∀(q:Nat) (T:TypeId) (cs:Array Value),T≠243→T≠5→Blk w q T cs→Blk w' q T cs
theorem Kp6.refl(w:World):Kp6 w w:=fun _ _ _ _ _ h=>h
theorem Kp6.trans{a w w':World}(h:Kp6 a w)(k:Kp6 w w'):Kp6 a w':=fun q T cs h1 h2 hb=>k q T cs h1 h2 (h q T cs h1 h2 hb)
theorem Kp6.chg{a w w':World}(h:Kp6 a w)(k:Chg (fun _=>False) w w'):Kp6 a w':=fun q T cs h1 h2 hb=>(h q T cs h1 h2 hb).chg k id
theorem Kp6.alloc{a w:World}(h:Kp6 a w)(o:Obj):Kp6 a (w.alloc o):=h.chg ((Chg.refl _ w).alloc o)
theorem Kp6.kp{w w':World}(h:Kp6 w w'):Kp w w':=fun q cs hb=>h q _ cs (by decide) (by decide) hb
theorem bI(p q N:Nat)(n:Int)(l:List Int)(st:Option (List UInt8))(w1 W:World)(h:Wat w1 p st N W)(hq:Blk W q 3 (ics l).toArray)(hw:∀x∈l,-9223372036854775808≤x∧x≤9223372036854775807)(hN:N+8*l.length≤1000000):
  Calls Tryz.prog 155 #[.pointer (some ⟨p,0,none⟩),U Z n,.slice (some ⟨q,0,none⟩) l.length l.length] W fun e w'=>e=.returned (.pointer (some ⟨p,0,none⟩))∧Wat w1 p (ax n l st) (N+8*l.length) w'∧Kp6 W w':=by
 obtain⟨o,hwr,hC,hp,ho⟩:=h
 have hkeep:∀(q:Nat) (T:TypeId) (cs:Array Value),T≠243→T≠5→Blk W q T cs→q≠p∧o≠some q:=by
  intro q T cs hT1 hT2 hq;obtain⟨bs,f,A,c,hob,_⟩:=hwr;refine⟨?_,?_⟩
  ·rintro rfl;have h:Blk W q _ _:=hob.blk;have h:=h.symm.trans hq;simp only[AP.injEq,Obj.cells.injEq]at h;exact hT1 h.2.1.symm
  ·rintro rfl;have ha:=hob.at_;rcases hob.own.2 with⟨e,_⟩|⟨g,cap,cur,e,_,hh,_⟩
   ·injection e with e;subst e;cases ha
   ·injection e with e;subst e;injection ha with ha;have ha:g=q:=ha;subst ha;have h:=hh.symm.trans hq;simp only[AP.injEq,Obj.cells.injEq]at h;exact hT2 h.2.1.symm
 have hr:=hq.rds;rw[List.size_toArray,List.toList_toArray,eZ]at hr;have hput:=k9 p o st N n l (some ⟨q,0,none⟩) l.length l.length W (fun k=>k=q) hwr rfl hr (fun k hk=>by subst hk;exact hkeep _ _ _ (by decide) (by decide) hq) hw (by omega);refine hput.mono fun e w' ⟨he,o',hw',hm'⟩=>?_;obtain⟨h1,h2⟩:=gE hC hm' hp ho;refine⟨he,⟨o',hw',h1,hp,h2⟩,fun q' T cs hT1 hT2 hb=>hb.chg hm'.1 ?_⟩;obtain⟨e1,e2⟩:=hkeep q' T cs hT1 hT2 hb;rintro(h|h)
 ·exact e1 h
 ·exact e2 h
theorem Wat.mono{w1 w:World}{p N N':Nat}{st:Option (List UInt8)}(h:Wat w1 p st N w)(hN:N≤N'):Wat w1 p st N' w:=by
 obtain⟨o,⟨bs,f,A,c,h1,h2,h3⟩,hr⟩:=h;exact⟨o,⟨bs,f,A,c,h1,Nat.le_trans h2 hN,h3⟩,hr⟩
theorem bJ{x:Int}(h: -9223372036854775808≤x∧x≤9223372036854775807):IntKind.i64.wrap x=x:=by
 rw[IntKind.wrap_i64];omega
def py(po ma ow ta ol ge ph ve si:Int)(st:Option (List UInt8)):Option (List UInt8):=ax 6 [ve,si] (ax 5 [ge] (ax 1 [ow+1,ta+1,ol+1,ph] (ax 6 [ma] (ax 1 [po] st))))
def pz(x:Rc)(st:Option (List UInt8)):Option (List UInt8):=ax 6 [x.un] (ax 2 [x.sp,x.dp] (ax 4 [x.sr,x.ds] (ax 1 [x.pr] st)))
def ey(l:List Rc)(st:Option (List UInt8)):Option (List UInt8):=l.foldl (fun s x=>pz x s) st
def cC(po ma ow ta ol ge ph ve si:Int):List UInt8:=be 1 po.toNat++(be 6 ma.toNat++(be 1 (ow+1).toNat++(be 1 (ta+1).toNat++(be 1 (ol+1).toNat++(be 1 ph.toNat++(be 5 ge.toNat++(be 6 ve.toNat++be 6 si.toNat)))))))
def dl(x:Rc):List UInt8:=be 1 x.pr.toNat++(be 4 x.sr.toNat++(be 4 x.ds.toNat++(be 2 x.sp.toNat++(be 2 x.dp.toNat++be 6 x.un.toNat))))
def aZ(l:List Rc):List UInt8:=l.flatMap dl
def msB(kd po ma ow ta ol ge ph ve si pt vr:Int)(l:List Rc):List UInt8:=
 be 1 kd.toNat++(if kd=1 then cC po ma ow ta ol ge ph ve si else be 1 pt.toNat++(be 6 vr.toNat++(if kd=3 then be 1 l.length++aZ l else [])))
def RcN(x:Rc):Prop:=(0≤x.sr∧x.sr≤4294967295)∧(0≤x.ds∧x.ds≤4294967295)
theorem az(n:Nat){x:Int}(h:0≤x)(h2:x<256^n):a_ n x=true:=by
 unfold a_;simp only[AI,decide_eq_true_eq];exact⟨h,h2⟩
theorem dw{lo hi:Int}{l:List Int}(h:ah lo hi l=true):∀x∈l,lo≤x∧x≤hi:=by
 intro x hx;unfold ah at h;have:=AJ.1 h x hx;simpa using this
theorem fa{lo hi x:Int}(h:ah lo hi [x]=true):lo≤x∧x≤hi:=dw h x (by simp)
theorem pA{ph ow ta ol:Int}(h:ew ph ow ta ol=true):(0≤ph∧ph≤3)∧(-1≤ow∧ow≤15)∧(-1≤ta∧ta≤15)∧(-1≤ol∧ol≤15):=by
 unfold ew at h;by_cases h0:ph=0
 ·rw[if_pos h0]at h;simp only[AI]at h;have a:=dw h.1 ow (by simp);have b:=dw h.2 ta (by simp);have c:=dw h.2 ol (by simp);omega
 rw[if_neg h0]at h;by_cases h1:ph=1
 ·rw[if_pos h1]at h;simp only[AI]at h;have a:=dw h.1 ow (by simp);have b:=dw h.1 ta (by simp);have c:=dw h.2.2 ol (by simp);omega
 rw[if_neg h1]at h;by_cases h2:ph=2
 ·rw[if_pos h2]at h;simp only[AI]at h;have a:=dw h.1 ow (by simp);have b:=dw h.1 ol (by simp);have c:=dw h.2.2 ta (by simp);omega
 rw[if_neg h2]at h;by_cases h3:ph=3
 ·rw[if_pos h3]at h;have a:=dw h ow (by simp);have b:=dw h ta (by simp);have c:=dw h ol (by simp);omega
 rw[if_neg h3]at h;cases h
theorem fs{po ma ow ta ol ge ph ve si:Int}(h:rwR po ma ow ta ol ge ph ve si=true):(0≤po∧po≤31)∧ma≤281474976710655∧(-1≤ow∧ow≤15)∧(-1≤ta∧ta≤15)∧(-1≤ol∧ol≤15)∧(1≤ge∧ge≤4294967296)∧(0≤ph∧ph≤3)∧(1≤ve∧ve≤1099511627776)∧(0≤si∧si≤1099511627776):=by
 unfold rwR bD at h;simp only[AI,decide_eq_true_eq]at h;obtain⟨⟨h1,h2⟩,h3,h4,h5,h6⟩:=h;obtain⟨a,b,c,d⟩:=pA h6;exact⟨fa h1,h3,b,c,d,fa h4,a,fa h2,fa h5⟩
theorem eI{x:Rc}(h:rcR x=true):(x.pr=6∨x.pr=17)∧(0≤x.sp∧x.sp≤65535)∧(0≤x.dp∧x.dp≤65535)∧(0≤x.un∧x.un≤1099511627776):=by
 unfold rcR mH flR fo at h;simp only[AI,Bool.or_eq_true,beq_iff_eq,decide_eq_true_eq]at h;exact⟨h.1.1,h.1.2.1,h.1.2.2,fa h.2⟩
theorem vO{po ma ow ta ol ge ph ve si:Int}(h:rwR po ma ow ta ol ge ph ve si=true)(hm:0≤ma)(b:List UInt8):py po ma ow ta ol ge ph ve si (some b)=some (b++cC po ma ow ta ol ge ph ve si):=by
 obtain⟨h1,h2,h3,h4,h5,h6,h7,h8,h9⟩:=fs h;have e1:a_ 1 po=true:=az 1 (by omega) (by omega);have e2:a_ 6 ma=true:=az 6 (by omega) (by omega);have e3:a_ 1 (ow+1)=true:=az 1 (by omega) (by omega);have e4:a_ 1 (ta+1)=true:=az 1 (by omega) (by omega);have e5:a_ 1 (ol+1)=true:=az 1 (by omega) (by omega);have e6:a_ 1 ph=true:=az 1 (by omega) (by omega);have e7:a_ 5 ge=true:=az 5 (by omega) (by omega);have e8:a_ 6 ve=true:=az 6 (by omega) (by omega);have e9:a_ 6 si=true:=az 6 (by omega) (by omega);simp[py,cC,ax,cg,dR,e1,e2,e3,e4,e5,e6,e7,e8,e9]
theorem vP{x:Rc}(h:rcR x=true)(hn:RcN x)(b:List UInt8):pz x (some b)=some (b++dl x):=by
 obtain⟨h1,h2,h3,h4⟩:=eI h;obtain⟨h5,h6⟩:=hn;have e1:a_ 1 x.pr=true:=az 1 (by omega) (by omega);have e2:a_ 4 x.sr=true:=az 4 (by omega) (by omega);have e3:a_ 4 x.ds=true:=az 4 (by omega) (by omega);have e4:a_ 2 x.sp=true:=az 2 (by omega) (by omega);have e5:a_ 2 x.dp=true:=az 2 (by omega) (by omega);have e6:a_ 6 x.un=true:=az 6 (by omega) (by omega);simp[pz,dl,ax,cg,dR,e1,e2,e3,e4,e5,e6]
theorem mI:∀{l:List Rc} (h:l.all rcR=true) (hn:∀x∈l,RcN x) (b:List UInt8),ey l (some b)=some (b++aZ l)
 |[],_,_,b=>by simp[ey,aZ]
 |x::r,h,hn,b=>by
  simp only[List.all_cons,AI]at h;have e:=mI (l:=r) h.2 (fun y hy=>hn y (by simp[hy])) (b++dl x);have e2:=vP h.1 (hn x (by simp)) b;unfold ey at e⊢;rw[List.foldl_cons,e2,e];simp[aZ]
theorem pB{l:List Rc}{k:Nat}{x:Rc}(h:l[k]?=some x)(st:Option (List UInt8)):ey (l.take (k+1)) st=pz x (ey (l.take k) st):=by
 obtain⟨hk,rfl⟩:=zS.1 h;unfold ey;rw[List.take_succ_eq_append_getElem hk,List.foldl_append];rfl
end Go.Proofs.YtnojmbejedlilaaGreat
end
