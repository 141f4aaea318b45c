/-
  Acts on a controller in memory; acts that came in, opened. No condition.
-/
import Derived.Test.YtnojmbejedlilaaGreatKQCy
import Derived.Test.YtnojmbejedlilaaGreatKQM1
import Derived.ProofKit
import Derived.OpenShut
import Derived.ChangeOld
import Derived.Lib.SmallJoins
set_option maxRecDepth 100000
set_option maxHeartbeats 40000000
set_option linter.unusedVariables false
set_option linter.unusedSimpArgs false
namespace Go.Proofs.YtnojmbejedlilaaGreat
open _root_.List renaming getElem?_eq_some_iff→zS,getElem?_eq_getElem→zM,getElem_toArray→AZ,getElem_cons_zero→A8,getElem_cons_succ→A7,drop_zero→CT,drop_succ_cons→CU,take_succ_cons→B1,take_zero→CW,cons→CX
open _root_.Nat renaming zero_le→zP
open Go.Value renaming int→U
open Go.IntKind renaming i64→Z
open Go.RowKit Go.ChangeShapes
structure bR where
 k:Int
 op:Int
 po:Int
 ch:Int
 ma:Int
 who:Int
 now:Int
 keep:Int
 BA:Option Addr
 bn:Nat
 bc:Nat
 b:List UInt8
def bR.cs(x:bR):Array Value:=#[U .u8 x.k,U Z x.op,U Z x.po,U Z x.ch,U .u64 x.ma,U Z x.who,U Z x.now,U Z x.keep,.slice x.BA x.bn x.bc]
def iJ(w:World)(A:Option Addr)(n c:Nat)(b:List UInt8):Prop:=(A=none→c=0)∧n=b.length∧n≤9223372036854775807∧Rds w (fun _=>True) A n (bcs b)
theorem iJ.chg{w w':World}{A:Option Addr}{n c:Nat}{b:List UInt8}(h:iJ w A n c b)(hc:Chg (fun _=>False) w w'):iJ w' A n c b:=⟨h.1,h.2.1,h.2.2.1,h.2.2.2.chg hc (fun _ _=>id)⟩
def bR.is(x:bR)(w:World):Prop:=(0≤x.k∧x.k≤255)∧0≤x.ma∧iJ w x.BA x.bn x.bc x.b
theorem bR.is_chg{w w':World}{x:bR}(h:x.is w)(hc:Chg (fun _=>False) w w'):x.is w':=⟨h.1,h.2.1,h.2.2.chg hc⟩
def fm(w:World)(L:Option Addr)(m:Nat)(l:List bR):Prop:=
 m=l.length∧(0<m→∃ad,L=some ad∧ad.block<w.heap.size∧∀(i:Nat) (x:bR),l[i]?=some x→(∀(j:Nat) (u:Value),x.cs[j]?=some u→w.cell? (ad.add (i*9+j))=some u)∧x.is w)
theorem fm.chg{w w':World}{L:Option Addr}{m:Nat}{l:List bR}(h:fm w L m l)(hc:Chg (fun _=>False) w w'):fm w' L m l:=by
 refine⟨h.1,fun hm=>?_⟩;obtain⟨ad,e,hb,hcell⟩:=h.2 hm;refine⟨ad,e,Nat.lt_of_lt_of_le hb hc.size,fun i x hi=>⟨fun j u hu=>?_,bR.is_chg (hcell i x hi).2 hc⟩⟩;rw[←(hcell i x hi).1 j u hu];exact World.cell?_of_block (by rw[bP];exact hc.block _ hb id)
theorem fm.at{w:World}{m:Nat}{l:List bR}{ad:Addr}{i:Nat}{x:bR}(h:fm w (some ad) m l)(hi:l[i]?=some x):(w.cell? (ad.add (i*9))=some (U .u8 x.k)∧w.cell? ⟨(ad.add (i*9)).block,(ad.add (i*9)).off+1,none⟩=some (U Z x.op)∧w.cell? ⟨(ad.add (i*9)).block,(ad.add (i*9)).off+2,none⟩=some (U Z x.po)∧w.cell? ⟨(ad.add (i*9)).block,(ad.add (i*9)).off+3,none⟩=some (U Z x.ch)∧w.cell? ⟨(ad.add (i*9)).block,(ad.add (i*9)).off+4,none⟩=some (U .u64 x.ma)∧w.cell? ⟨(ad.add (i*9)).block,(ad.add (i*9)).off+5,none⟩=some (U Z x.who)∧w.cell? ⟨(ad.add (i*9)).block,(ad.add (i*9)).off+6,none⟩=some (U Z x.now)∧w.cell? ⟨(ad.add (i*9)).block,(ad.add (i*9)).off+7,none⟩=some (U Z x.keep)∧w.cell? ⟨(ad.add (i*9)).block,(ad.add (i*9)).off+8,none⟩=some (.slice x.BA x.bn x.bc))∧x.is w:=by
 have hl:i<l.length:=(zS.1 hi).1;obtain⟨ad',e,_,hc⟩:=h.2 (by have:=h.1;omega);injection e with e;subst e;obtain⟨h1,h2⟩:=hc i x hi
 have k:∀j u,x.cs[j]?=some u→w.cell? ((ad.add (i*9)).add j)=some u:=fun j u hu=>by rw[dM];exact h1 j u hu
 exact⟨⟨k 0 _ rfl,k 1 _ rfl,k 2 _ rfl,k 3 _ rfl,k 4 _ rfl,k 5 _ rfl,k 6 _ rfl,k 7 _ rfl,k 8 _ rfl⟩,h2⟩
theorem fm.one{w:World}{m:Nat}{l:List bR}{ad:Addr}{i:Nat}{x:bR}(h:fm w (some ad) m l)(hi:l[i]?=some x):fm w (some (ad.add (i*9))) 1 [x]:=by
 have hl:i<l.length:=(zS.1 hi).1;obtain⟨ad',e,hb,hc⟩:=h.2 (by have:=h.1;omega);injection e with e;subst e;obtain⟨h1,h2⟩:=hc i x hi;refine⟨rfl,fun _=>⟨ad.add (i*9),rfl,by rw[bP];exact hb,fun j y hj=>?_⟩⟩
 match j,hj with
 |0,hj=>
  injection hj with hj;subst hj;exact⟨fun q u hu=>by rw[dM,show i*9+(0*9+q)=i*9+q by omega];exact h1 q u hu,h2⟩
theorem qL{k:IntKind}{w:World}{a:Option Addr}{len cap:Nat}{zs:List Int}(h:kv k w a len cap zs):len≤9223372036854775807:=by
 rcases h with⟨_,rfl,_,_⟩|⟨x,_,h1,h2,_⟩
 ·omega
 ·unfold maxLen at h2;omega
theorem fq{α:Type}{ys:List α}{n j:Nat}{e:Option α}(h:e=ys[j]?)(hl:ys.length=n)(hj:j<n):∃y,e=some y:=⟨_,h.trans (zM (by omega))⟩
theorem yd:Tryz.prog.cellsOf 5=1:=by kernel_rfl
theorem ye:Tryz.prog.cellsOf 23=1:=by kernel_rfl
theorem sW:Tryz.prog.cellsOf 44=4:=by kernel_rfl
theorem sX:Tryz.prog.cellsOf 46=9:=by kernel_rfl
theorem yf:Tryz.prog.cellsOf 41=1:=by kernel_rfl
theorem sY:Tryz.prog.cellsOf 3=1:=by kernel_rfl
theorem yg:Tryz.prog.cellsOf 42=1:=by kernel_rfl
section
variable {H : Type} {enc : TypeId × Value → H} {w : World} {base : Nat} {spare : Nat → Bool} {held : Bool}
theorem sZ{fuel:Nat}{cs:List Value}{x:DataW H×List MemPlace}(h:DataW.trod enc Tryz.prog w base spare held fuel 23 cs=some x):∃A n c b,cs=[.slice A n c]∧iJ w A n c b:=by
 obtain⟨A,n,c,zs,hcs,hw⟩:=rj Tryz.underlying23 Tryz.underlying5 (by kernel_rfl) h;obtain⟨b,hl,hr⟩:=ri hw;exact⟨A,n,c,b,hcs,vJ hw,hl,qL hw,hr⟩
theorem jN{fuel:Nat}{cs:List Value}{x:DataW H×List MemPlace}(h:DataW.trod enc Tryz.prog w base spare held fuel 44 cs=some x):∃(op po ch ma:Int),cs=[U Z op,U Z po,U Z ch,U .u64 ma]∧0≤ma:=by
 obtain⟨ys,k,_,_,hl,hyl,hf⟩:=DataW.trod_struct Tryz.underlying44 h;rw[sW]at hl
 match cs,hl with
 |[c0,c1,c2,c3],_=>
  obtain⟨_,k0⟩:=fq (hf 0 _ rfl) hyl (by decide);obtain⟨_,k1⟩:=fq (hf 1 _ rfl) hyl (by decide);obtain⟨_,k2⟩:=fq (hf 2 _ rfl) hyl (by decide);obtain⟨_,k3⟩:=fq (hf 3 _ rfl) hyl (by decide);simp only[AZ,A8,A7]at k0 k1 k2 k3;rw[yf]at k0;rw[sY]at k1 k2;rw[yg]at k3;simp only[CT,CU,B1,CW]at k0 k1 k2 k3;obtain⟨op,e0,_,_⟩:=DataW.trod_int Tryz.underlying41 k0;obtain⟨po,e1,_,_⟩:=DataW.trod_int Tryz.underlying3 k1;obtain⟨ch,e2,_,_⟩:=DataW.trod_int Tryz.underlying3 k2;obtain⟨ma,e3,_,wm⟩:=DataW.trod_int Tryz.underlying42 k3;simp only[CX.injEq,and_true]at e0 e1 e2 e3;subst e0 e1 e2 e3;exact⟨op,po,ch,ma,rfl,(bounds_u64 wm).1⟩
theorem qM{fuel:Nat}{cs:List Value}{x:DataW H×List MemPlace}(h:DataW.trod enc Tryz.prog w base spare held fuel 46 cs=some x):∃r:bR,cs=r.cs.toList∧r.is w:=by
 obtain⟨ys,k,_,_,hl,hyl,hf⟩:=DataW.trod_struct Tryz.underlying46 h;rw[sX]at hl
 match cs,hl with
 |[c0,c1,c2,c3,c4,c5,c6,c7,c8],_=>
  obtain⟨_,k0⟩:=fq (hf 0 _ rfl) hyl (by decide);obtain⟨_,k1⟩:=fq (hf 1 _ rfl) hyl (by decide);obtain⟨_,k2⟩:=fq (hf 2 _ rfl) hyl (by decide);obtain⟨_,k3⟩:=fq (hf 3 _ rfl) hyl (by decide);obtain⟨_,k4⟩:=fq (hf 4 _ rfl) hyl (by decide);obtain⟨_,k5⟩:=fq (hf 5 _ rfl) hyl (by decide);simp only[AZ,A8,A7]at k0 k1 k2 k3 k4 k5;rw[yd]at k0;rw[sW]at k1;rw[sY]at k2 k3 k4;rw[ye]at k5;simp only[CT,CU,B1,CW]at k0 k1 k2 k3 k4 k5;obtain⟨z,e0,_,Wz⟩:=DataW.trod_int Tryz.underlying5 k0;obtain⟨op,po,ch,ma,e1,hma⟩:=jN k1;obtain⟨who,e2,_,_⟩:=DataW.trod_int Tryz.underlying3 k2;obtain⟨now,e3,_,_⟩:=DataW.trod_int Tryz.underlying3 k3;obtain⟨keep,e4,_,_⟩:=DataW.trod_int Tryz.underlying3 k4;obtain⟨qA,qn,qc,qb,e5,qh⟩:=sZ k5;simp only[CX.injEq,and_true]at e0 e1 e2 e3 e4 e5;obtain⟨g0,g1,g2,g3⟩:=e1;subst e0 g0 g1 g2 g3 e2 e3 e4 e5;exact⟨⟨z,op,po,ch,ma,who,now,keep,qA,qn,qc,qb⟩,rfl,mD Wz,hma,qh⟩
end
theorem oe{H:Type}{enc:TypeId×Value→H}{W:World}{v:Value}{d:DataW H}{p:List MemPlace}{base:Nat}{spare:Nat→Bool}{held:Bool}
  (h:DataW.Trod enc Tryz.prog W base spare held 24 v d p) (hv:∃A n c,v=.slice A n c):∃(L:Option Addr) (m c:Nat) (l:List bR),v=.slice L m c∧m≤c∧c≤9223372036854775807∧fm W L m l:=by
 obtain⟨A,n,c,rfl⟩:=hv;obtain⟨fuel,hf⟩:=h
 have hc0:(Value.slice A n c).cells.toList=[.slice A n c]:=by simp[Value.cells]
 rw[hc0]at hf;rcases Go.Deep.open_slice Tryz.underlying24 hf with⟨hcs,_⟩|⟨a,len,cap,m,n2,D,Pl,hcs,_,hl,hm,hmm,_,hi⟩
 ·simp only[CX.injEq,and_true]at hcs;exact⟨none,0,0,[],hcs,by decide,by decide,⟨rfl,fun h=>absurd h (by omega)⟩⟩
 ·simp only[CX.injEq,and_true]at hcs
  have hml:len≤m:=by
   rw[hmm]
   split<;>omega
  obtain⟨l,hll,hp⟩:=oB (P:=fun i (x:bR)=>(∀(j:Nat) (u:Value),x.cs[j]?=some u→W.cell? (a.add (i*9+j))=some u)∧x.is W) len (fun i hil=>by
   obtain⟨vs,hc,hread⟩:=hi i (by omega);rw[sX]at hc;obtain⟨_,hvl,hat⟩:=World.cells?_some hc;obtain⟨r,hr,his⟩:=qM hread;refine⟨r,fun j u hu=>?_,his⟩;have hj:j<9:=(Array.getElem?_eq_some_iff.1 hu).1;have h1:=hat j hj;rw[dM]at h1;rw[h1,hr,←hu]
   simp)
  refine⟨some a,len,cap,l,hcs,hl,by unfold maxLen at hm;omega,⟨hll.symm,fun h0=>?_⟩⟩
  have hb:a.block<W.heap.size:=by
   have hx:l[0]?=some (l[0]'(by omega)):=zM (by omega);have:=World.block_lt_of_cell? W _ ((hp 0 _ hx).1 0 _ rfl)
   rwa [bP]at this
  exact⟨a,rfl,hb,fun i x hx=>hp i x hx⟩
def wY(l:List bR)(w:World)(e:Ending)(w':World):Prop:=∃r:Bool,e=.returned (.bool r)∧(r=true→l.length≤80∧∀(i:Nat) (x:bR),l[i]?=some x→x.bn≤3000)∧w=w'
theorem qN(L:Option Addr)(m lc:Nat)(l:List bR)(w:World)(h:fm w L m l)(hmc:m≤9223372036854775807):Calls Tryz.prog 6 #[.slice L m lc] w (wY l w):=by
 have HR:=hd_ h;have HM:=hd_ h.1;clear h;go_in;go_wp2_with fail
 go_loopg [3] m (fun g i wr=>∃(j:Nat),g=m-j∧j≤m∧j≤81∧i=U Z (j:Int)∧Hid (∀(i:Nat) (x:bR),i<j→l[i]?=some x→x.bn≤3000)∧wr=w)
 case atStart=>exact⟨0,rfl,zP _,zP _,rfl,hd_ (fun i x hi=>absurd hi (by omega)),rfl⟩
 case round=>
  obtain⟨j,rfl,hj,hj2,rfl,HF,rfl⟩:=hrel;by_cases hlt:j<m
  ·by_cases hlt2:j≤80
   ·have hll:=HM.out;obtain⟨ad,rfl,-,-⟩:=HR.out.2 (by omega);have hx:l[j]?=some (l[j]'(by omega)):=zM (by omega);obtain⟨⟨z0,z1,z2,z3,z4,z5,z6,z7,z8⟩,his⟩:=HR.out.at hx;generalize l[j]'(by omega)=x at*;obtain⟨hk,hma,hb⟩:=his;have hbm:=hb.2.2.1;have HXX:=hd_ hx;clear hx hk hma hb z0 z1 z2 z3 z4 z5 z6 z7 hll;by_cases h1:3000<x.bn
    ·go_wp2_with fail;go_ret;exact⟨false,rfl,(fun h=>by cases h),rfl⟩
    ·go_wp2_with fail;go_roundg (m-(j+1))
     case measure=>omega
     case rel=>
      refine⟨j+1,rfl,by omega,by omega,by go_num,hd_ (fun i y hi hy=>?_),rfl⟩;rcases Nat.lt_or_ge i j with hij|hij
      ·exact HF.out i y hij hy
      ·have:i=j:=by omega
       subst this;have:=HXX.out;rw[hy]at this;injection this with this;subst this;omega
   ·go_wp2_with fail;go_ret;exact⟨_,rfl,(fun h=>by simp at h;omega),rfl⟩
  ·have hjm:Hid (j=m):=by show j=m;omega
   by_cases hm:m≤80
   ·go_wp2_with fail;go_ret;refine⟨_,rfl,fun _=>⟨by have:=HM.out;omega,fun i x hi=>HF.out i x ?_ hi⟩,rfl⟩;have h1:=(zS.1 hi).1;have h2:=HM.out;have h3:=hjm.out;omega
   ·go_wp2_with fail;go_ret;exact⟨_,rfl,(fun h=>by simp at h;omega),rfl⟩
end Go.Proofs.YtnojmbejedlilaaGreat
