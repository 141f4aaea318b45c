/-
  The sum of bytes, plain. Walks: journal.Sum, rutterref08.Sum. Condition: the bytes are read in memory.
-/
import Derived.Test.YtnojmbejedlilaaGreatKQM1
import Derived.Test.YtnojmbejedlilaaGreatKQM5
import Derived.Laws.BitsAllLaws
import Derived.Test.YtnojmbejedlilaaGreatKQLg
set_option maxRecDepth 100000
set_option maxHeartbeats 40000000
set_option linter.unusedVariables false
set_option linter.unusedSimpArgs false
section
namespace Go.Proofs.YtnojmbejedlilaaGreat
open Nat renaming xor_lt_two_pow→BV,zero_le→zP,add_comm→AG,le_refl→zG,sub_self→B4,le_trans→zH
open List renaming take_of_length_le→Ax,length_append→zY,length_take→zN,length_drop→zO,take_add→BW,drop_drop→BX,append_assoc→BY,drop_left'→BZ,append_nil→B0,eq_nil_of_length_eq_zero→zR,length_cons→Ab,take_succ_cons→B1,getElem?_append_left→B2,getElem?_eq_some_iff→zS,getElem?_append_right→B3,getElem?_take→B5
open Int renaming toNat_natCast→Al
open Go.Value renaming int→U
open Go.IntKind renaming i64→Z
open Go.RowKit
def sT(x:Nat):Nat:=if x%2=1 then(x/2)^^^3988292384 else x/2
def sTs:Nat→Nat→Nat
 |0,x=>x
 |k+1,x=>sT (sTs k x)
def sBy(x:Nat)(c:UInt8):Nat:=sTs 8 (x^^^c.toNat)
def lq(l:List UInt8):Nat:=l.foldl sBy 4294967295
def dy(l:List UInt8):Nat:=4294967295-lq l
theorem yH(x:Nat)(h:x<4294967296):sT x<4294967296:=by
 unfold sT
 split
 ·exact BV (n:=32) (by omega) (by decide)
 ·omega
theorem yI(x:Nat)(c:UInt8)(h:x<4294967296):x^^^c.toNat<4294967296:=BV (n:=32) h (by have:=c.toNat_lt;omega)
theorem rH(l:List UInt8)(k:Nat)(h:k<l.length):lq (l.take (k+1))=sTs 8 (lq (l.take k)^^^(l[k]).toNat):=by
 unfold lq;rw[List.take_succ_eq_append_getElem h,List.foldl_append];rfl
theorem lr(l:List UInt8):dy l≤4294967295:=by unfold dy;omega
theorem xq(x:Nat)(h:x%2=1):sT x=(x/2)^^^3988292384:=if_pos h
theorem wh(x:Nat)(h:x%2=0):sT x=x/2:=if_neg (by omega)
theorem wj(x:Nat)(h:x<4294967296):bits .and .u32 (x:Int) 1=((x%2:Nat):Int):=by
 have e:=u32_and_nat x 1 h (by decide);rw[nat_mask1]at e;exact e
theorem ui(x:Nat)(h:x<4294967296):bits .xor .u32 (x:Int) 3988292384=((x^^^3988292384:Nat):Int):=u32_xor_nat x 3988292384 h (by decide)
theorem wk(y:Nat)(h:y<4294967296):bits .xor .u32 IntKind.u32.max (y:Int)=((4294967295-y:Nat):Int):=by
 have e:=u32_xor_nat 4294967295 y (by decide) h
 have h2:4294967295^^^y=4294967295-y:=by
  have h3:(BitVec.allOnes 32^^^BitVec.ofNat 32 y).toNat=(~~~ (BitVec.ofNat 32 y)).toNat:=by rw[BitVec.allOnes_xor]
  rw[BitVec.toNat_xor,BitVec.toNat_not,BitVec.toNat_allOnes,BitVec.toNat_ofNat,Nat.mod_eq_of_lt (by omega)]at h3
  have h4:(2^32-1:Nat)=4294967295:=by decide
  rw[h4]at h3;omega
 rw[h2]at e;exact e
theorem mT{x:Int}(h: -9223372036854775808≤x)(h2:x≤9223372036854775807):wrap64 x=x:=by
 unfold wrap64;omega
theorem oN(A:Option Addr)(n c:Nat)(b:List UInt8)(S:Nat→Prop)(w:World)(hn:n=b.length)(h:Rds w S A n (bcs b))(hb:n≤9223372036854775807):
  Calls Tryz.prog 159 #[.slice A n c] w fun e w'=>e=.returned (U Z (dy b:Int))∧w=w':=by
 have HN:=hd_ hn;clear hn;go_in;go_wp2_with fail
 go_loopg [3,9] n (fun g v i wr=>∃k y:Nat,g=n-k∧k≤n∧i=U Z (k:Int)∧v=U .u32 (y:Int)∧Hid (y=lq (b.take k))∧y<4294967296∧w=wr)
 case atStart=>exact⟨0,4294967295,rfl,zP _,rfl,rfl,rfl,by omega,rfl⟩
 case round=>
  obtain⟨k,y,rfl,hk,rfl,rfl,HY,hy,rfl⟩:=hrel;by_cases hlt:k<n
  ·obtain⟨ad,rfl,hs,hbk,hcl⟩:=h.cellAt hlt
   have hkl:k<b.length:=by have:=HN.out;omega
   rw[my b k hkl]at hcl;have hc8:(b[k]).toNat<256:=(b[k]).toNat_lt;have HE:=hd_ (rH b k hkl);have hxl:=yI y b[k] hy;generalize (b[k]).toNat=x at*;have hxr:=u32_xor_nat y x hy (by omega);generalize hz:y^^^x=z at*;have HZ:=hd_ hz;clear hz;go_wp2_with fail;clear hcl hc8 hxr hs hbk hkl
   go_loopg [3,17] 8 (fun g v i wr=>∃t q:Nat,g=8-t∧t≤8∧i=U Z (t:Int)∧v=U .u32 (q:Int)∧Hid (q=sTs t z)∧q<4294967296∧w=wr)
   case atStart=>exact⟨0,z,rfl,zP _,rfl,rfl,rfl,hxl,rfl⟩
   case round=>
    obtain⟨t,q,rfl,ht,rfl,rfl,HQ,hq,rfl⟩:=hrel;by_cases ht8:t<8
    ·have ha:=wj q hq;have hlt2:=yH q hq;have hx:=ui (q/2) (by omega)
     have e2:((q/2:Nat):Int)=(q:Int)/2:=by omega
     rw[e2]at hx;rcases Nat.mod_two_eq_zero_or_one q with h0|h0
     ·have HT:=hd_ (wh q h0);rw[h0]at ha;clear h0;go_wp2_with fail;go_roundg (8-(t+1))
      case measure=>omega
      case rel=>exact⟨t+1,q/2,rfl,by omega,by go_num,by go_num,(by unfold Hid;rw[←HT.out,HQ.out];rfl),by omega,rfl⟩
     ·have HT:=hd_ (xq q h0);rw[h0]at ha;rw[HT.out]at hlt2;clear h0;go_wp2_with fail;go_roundg (8-(t+1))
      case measure=>omega
      case rel=>exact⟨t+1,(q/2)^^^3988292384,rfl,by omega,by go_num,rfl,(by unfold Hid;rw[←HT.out,HQ.out];rfl),hlt2,rfl⟩
    ·obtain rfl:t=8:=by omega
     go_wp2_with fail;go_roundg (n-(k+1))
     case measure=>omega
     case rel=>exact⟨k+1,q,rfl,by omega,by go_num,rfl,(by unfold Hid;rw[HE.out,←HY.out,HZ.out,HQ.out]),hq,rfl⟩
  ·obtain rfl:k=n:=by omega
   have hfull:Hid (y=lq b):=by
    unfold Hid;have:=HN.out;rw[HY.out,Ax (by omega)]
   clear HY h HN;have hxr:bits .xor .u32 IntKind.u32.max (y:Int)=((4294967295-y:Nat):Int):=wk y hy;have hw:wrap64 ((4294967295-y:Nat):Int)=((4294967295-y:Nat):Int):=mT (by omega) (by omega);go_wp2_with fail;go_ret;refine⟨?_,rfl⟩;have:=hfull.out;unfold dy;rw[←this];rfl
def Bok(b:List UInt8):Prop:=1≤b.length∧b.length≤200
def jrB(b:List UInt8):List UInt8:=be 2 b.length++(b++be 4 (dy b))
theorem bO(b:List UInt8):(jrB b).length=b.length+6:=by
 unfold jrB;simp only[zY,bM];omega
def cn(r:List UInt8):Option (List UInt8):=
 if 2≤r.length∧1≤num (r.take 2)∧num (r.take 2)≤200∧num (r.take 2)+6≤r.length∧num ((r.drop (num (r.take 2)+2)).take 4)=dy ((r.drop 2).take (num (r.take 2)))then some ((r.drop 2).take (num (r.take 2)))else none
theorem xt(r x:List UInt8)(n:Nat)(hn:n=num (r.take 2))(hx:x=(r.drop 2).take n)(h:n+6≤r.length)(hs:num ((r.drop (n+2)).take 4)=dy x):jrB x=r.take (n+6):=by
 have hl:x.length=n:=by rw[hx,zN,zO];omega
 have e1:be 2 n=r.take 2:=by rw[hn];exact gX r 2 (by omega)
 have e2:be 4 (dy x)=(r.drop (n+2)).take 4:=by rw[←hs];exact gX _ 4 (by rw[zO];omega)
 unfold jrB;rw[hl,e1,e2]
 have e3:r.take (n+6)=r.take 2++(r.drop 2).take (n+4):=by rw[show n+6=2+(n+4) by omega,BW]
 have e4:(r.drop 2).take (n+4)=(r.drop 2).take n++(r.drop (n+2)).take 4:=by rw[BW,BX,AG 2 n]
 rw[e3,e4,←hx]
theorem iX{r x:List UInt8}(h:cn r=some x):Bok x∧x.length+6≤r.length∧jrB x=r.take (x.length+6):=by
 unfold cn at h
 split at h
 ·rename_i hc;obtain⟨h1,h2,h3,h4,h5⟩:=hc;injection h with h
  have hl:x.length=num (r.take 2):=by rw[←h,zN,zO];omega
  have hr:=xt r x _ rfl h.symm h4 (by rw[h5,h]);rw[←hl]at hr;exact⟨⟨by omega,by omega⟩,by omega,hr⟩
 ·cases h
theorem oO(x y:List UInt8)(h:Bok x):num ((jrB x++y).take 2)=x.length:=by
 have e:jrB x++y=be 2 x.length++((x++be 4 (dy x))++y):=by unfold jrB;simp only[BY]
 rw[e,k_,iQ];have:=h.2;omega
theorem uj(x y:List UInt8)(h:Bok x):cn (jrB x++y)=some x:=by
 have hn:=oO x y h
 have e:jrB x++y=be 2 x.length++(x++(be 4 (dy x)++y)):=by unfold jrB;simp only[BY]
 have e1:((jrB x++y).drop 2).take x.length=x:=by rw[e,ld];exact List.take_left' rfl
 have e2:((jrB x++y).drop (x.length+2)).take 4=be 4 (dy x):=by
  rw[AG,←BX,e,ld,BZ rfl,k_]
 have hlen:(jrB x++y).length=x.length+6+y.length:=by rw[zY,bO]
 have hs:=lr x;unfold cn;rw[hn,e1,e2,iQ _ _ (by omega)];exact if_pos ⟨by omega,h.1,h.2,by omega,rfl⟩
theorem fG(r:List UInt8)(h:r.length<2∨r.length<num (r.take 2)+6):cn r=none:=by
 unfold cn;refine if_neg ?_;rintro⟨h1,h2,h3,h4,h5⟩;omega
theorem uk(x:List UInt8)(k:Nat)(h:Bok x)(hk:k<x.length+6):cn ((jrB x).take k)=none:=by
 have hlen:((jrB x).take k).length=k:=by rw[zN,bO];omega
 refine fG _ ?_;rw[hlen];by_cases h2:k<2
 ·exact .inl h2
 ·right;have hn:=oO x [] h;rw[B0]at hn;rw[List.take_take,Nat.min_eq_left (by omega),hn];exact hk
def fH:Nat→List UInt8→List (List UInt8)
 |0,_=>[]
 |f+1,r=>match cn r with
  |none=>[]
  |some x=>x::fH f (r.drop (x.length+6))
def aq(r:List UInt8):List (List UInt8):=fH r.length r
theorem eQ{r:List UInt8}(f:Nat)(h:cn r=none):fH f r=[]:=by
 cases f with
 |zero=>rfl
 |succ f=>unfold fH;rw[h]
theorem it{r x:List UInt8}(f:Nat)(h:cn r=some x):fH (f+1) r=x::fH f (r.drop (x.length+6)):=by
 rw[fH,h]
theorem kG:∀(f g:Nat) (r:List UInt8),r.length≤f→r.length≤g→fH f r=fH g r:=by
 intro f
 induction f with
 |zero=>
  intro g r h1 h2;have:r=[]:=zR (by omega);subst this;rw[eQ 0 (fG [] (.inl (by decide))),eQ g (fG [] (.inl (by decide)))]
 |succ f ih=>
  intro g r h1 h2;rcases hh:cn r with _|x
  ·rw[eQ _ hh,eQ _ hh]
  ·obtain⟨hb,hl,_⟩:=iX hh;rcases g with _|g
   ·omega
   ·rw[it _ hh,it _ hh,ih g _ (by rw[zO];omega) (by rw[zO];omega)]
theorem iY{r:List UInt8}(h:cn r=none):aq r=[]:=eQ _ h
theorem iZ{r x:List UInt8}(h:cn r=some x):aq r=x::aq (r.drop (x.length+6)):=by
 obtain⟨hb,hl,_⟩:=iX h;unfold aq;rw[kG r.length (r.length+1) r (zG _) (by omega),it _ h,kG r.length (r.drop (x.length+6)).length _ (by rw[zO];omega) (zG _)]
def an(l:List (List UInt8)):List UInt8:=l.flatMap jrB
theorem cR(x:List UInt8)(l:List (List UInt8)):an (x::l)=jrB x++an l:=by unfold an;rw[List.flatMap_cons]
theorem ul(l m:List (List UInt8)):an (l++m)=an l++an m:=by unfold an;rw[List.flatMap_append]
theorem gI(l:List (List UInt8))(x:List UInt8):an (l++[x])=an l++jrB x:=by rw[ul,cR];simp[an]
theorem lM(l:List (List UInt8))(y:List UInt8)(h:∀x∈l,Bok x):aq (an l++y)=l++aq y:=by
 induction l with
 |nil=>rfl
 |cons x l ih=>
  have hx:=h x (by simp);rw[cR,BY,iZ (uj x _ hx),BZ (bO x),ih (fun z hz=>h z (by simp[hz]))];rfl
theorem iu:aq []=[]:=rfl
theorem wl(l:List (List UInt8))(h:∀x∈l,Bok x):aq (an l)=l:=by
 have:=lM l [] h
 rwa [B0,iu,B0]at this
theorem fI:∀(f:Nat) (r:List UInt8),r.length≤f→(∀x∈aq r,Bok x)∧(an (aq r)).length≤r.length∧an (aq r)=r.take (an (aq r)).length:=by
 intro f
 induction f with
 |zero=>
  intro r h;have:r=[]:=zR (by omega);subst this;exact⟨fun x hx=>by simp[iu]at hx,zG _,rfl⟩
 |succ f ih=>
  intro r h;rcases hh:cn r with _|x
  ·rw[iY hh];exact⟨fun x hx=>by simp at hx,zP _,rfl⟩
  ·obtain⟨hb,hl,hr⟩:=iX hh;obtain⟨h1,h2,h3⟩:=ih (r.drop (x.length+6)) (by rw[zO];omega);rw[iZ hh]
   have hlen:(an (x::aq (r.drop (x.length+6)))).length=x.length+6+(an (aq (r.drop (x.length+6)))).length:=by rw[cR,zY,bO]
   rw[zO]at h2;refine⟨fun z hz=>?_,by omega,?_⟩
   ·rcases List.mem_cons.1 hz with rfl|hz
    ·exact hb
    ·exact h1 z hz
   ·rw[hlen,BW,cR,hr];congr 1
theorem oP{r x:List UInt8}(h:x∈aq r):Bok x:=(fI _ r (zG _)).1 x h
theorem ic(r:List UInt8):(an (aq r)).length≤r.length:=(fI _ r (zG _)).2.1
theorem lN(r:List UInt8):r.take (an (aq r)).length=an (aq r):=(fI _ r (zG _)).2.2.symm
def ei:List (List UInt8)→Nat→Nat
 |[],_=>0
 |x::l,N=>if x.length+6≤N then ei l (N-(x.length+6))+1 else 0
theorem wn(l:List (List UInt8)):∀N,ei l N≤l.length:=by
 induction l with
 |nil=>intro N;exact zG _
 |cons x l ih=>
  intro N;unfold ei
  split
  ·have:=ih (N-(x.length+6));rw[Ab];omega
  ·exact zP _
theorem rI(l:List (List UInt8)):∀N,(∀x∈l,Bok x)→aq ((an l).take N)=l.take (ei l N):=by
 induction l with
 |nil=>intro N _;simp[an,ei,iu]
 |cons x l ih=>
  intro N h;have hx:=h x (by simp);unfold ei;rw[cR];by_cases hN:x.length+6≤N
  ·rw[if_pos hN,List.take_append,Ax (by rw[bO];exact hN),bO,B1];have:=lM [x] ((an l).take (N-(x.length+6))) (fun z hz=>by simp only[List.mem_singleton]at hz;subst hz;exact hx);rw[cR,show an []=[]from rfl,B0,ih _ (fun z hz=>h z (by simp[hz]))]at this;exact this
  ·rw[if_neg hN,List.take_append_of_le_length (by rw[bO];omega),iY (uk x N hx (by omega))];rfl
theorem ws(l:List (List UInt8)):∀N k,k≤l.length→(an (l.take k)).length≤N→k≤ei l N:=by
 induction l with
 |nil=>
  intro N k h1 h2
  have:k=0:=by simpa using h1
  subst this;exact zP _
 |cons x l ih=>
  intro N k h1 h2;rcases k with _|k
  ·exact zP _
  ·rw[Ab]at h1;rw[B1,cR,zY,bO]at h2;have:=ih (N-(x.length+6)) k (by omega) (by omega);unfold ei;rw[if_pos (by omega)];omega
theorem oQ(l:List (List UInt8)):∀k,k≤l.length→ei l (an (l.take k)).length=k:=by
 induction l with
 |nil=>
  intro k h1
  have:k=0:=by simpa using h1
  subst this;rfl
 |cons x l ih=>
  intro k h1;unfold ei;rcases k with _|k
  ·have:(an ((x::l).take 0)).length=0:=rfl;rw[this,if_neg (by omega)]
  ·rw[Ab]at h1;have:=ih k (by omega);rw[B1,cR,zY,bO,if_pos (by omega),show x.length+6+(an (l.take k)).length-(x.length+6)=(an (l.take k)).length by omega,this]
theorem wt(r:List UInt8):(cn r=none∧∃st,cu 200 (some r)=([],st))∨
  (∃x y,cu 200 (some r)=(x,some y)∧Bok x∧y=r.drop (x.length+2)∧x.length+2≤r.length∧
   ((r.length<x.length+6∧cn r=none)∨(x.length+6≤r.length∧∃z:Nat,bk 4 (some y)=((z:Int),some (r.drop (x.length+6)))∧((z≠dy x∧cn r=none)∨(z=dy x∧cn r=some x))))):=by
 by_cases h2:2≤r.length
 ·have hg:bk 2 (some r)=((num (r.take 2):Int),some (r.drop 2)):=fX r 2 (by omega) (by omega) h2;unfold cu;rw[hg];have e2:cn r=if 2≤r.length∧1≤num (r.take 2)∧num (r.take 2)≤200∧num (r.take 2)+6≤r.length∧num ((r.drop (num (r.take 2)+2)).take 4)=dy ((r.drop 2).take (num (r.take 2)))then some ((r.drop 2).take (num (r.take 2)))else none:=rfl;generalize num (r.take 2)=n at*;by_cases h200:200<n
  ·refine .inl ⟨?_,none,if_pos (by simp only;omega)⟩;rw[e2];exact if_neg (by omega)
  ·by_cases hz:n=0
   ·subst hz;refine .inl ⟨?_,some (r.drop 2),?_⟩
    ·rw[e2];exact if_neg (by omega)
    ·rw[if_neg (by simp only;omega)];simp only[Al,bS];rw[if_pos (zP _)];rfl
   ·have hne:¬(200:Int)<(n:Int):=by omega
    simp only[if_neg hne,Al,bS,zO];by_cases hl:n≤r.length-2
    ·rw[if_pos hl,BX];refine .inr ⟨_,_,rfl,?_⟩
     have hlen:((r.drop 2).take n).length=n:=by rw[zN,zO];omega
     rw[hlen];refine⟨⟨by omega,by omega⟩,by rw[AG 2 n],by omega,?_⟩;by_cases h6:n+6≤r.length
     ·right;refine⟨h6,num ((r.drop (n+2)).take 4),?_,?_⟩
      ·have hg4:bk 4 (some (r.drop (n+2)))=((num ((r.drop (n+2)).take 4):Int),some ((r.drop (n+2)).drop 4)):=fX (r.drop (n+2)) 4 (by omega) (by omega) (by rw[zO];omega);rw[AG 2 n,hg4,BX]
      ·by_cases hs:num ((r.drop (n+2)).take 4)=dy ((r.drop 2).take n)
       ·right;refine⟨hs,?_⟩;rw[e2];exact if_pos ⟨h2,by omega,by omega,h6,hs⟩
       ·left;refine⟨hs,?_⟩;rw[e2];exact if_neg (fun h=>hs h.2.2.2.2)
     ·left;refine⟨by omega,?_⟩;rw[e2];exact if_neg (by omega)
    ·rw[if_neg hl];refine .inl ⟨?_,none,rfl⟩;rw[e2];exact if_neg (by omega)
 ·refine .inl ⟨fG r (.inl (by omega)),none,?_⟩;have hg:bk 2 (some r)=(0,none):=if_neg (by intro h;have:=h.2.2.1;simp at this;omega);unfold cu;rw[hg];rfl
def Mk8(m:List UInt8)(w:World)(e:Ending)(w':World):Prop:=
 ∃A c,e=.returned (.tuple #[.slice A m.length c,U Z 0])∧w'.ownsRow w.heap.size 5 1 (.slice A m.length c) m.length (bcs m)∧Chg (fun _=>False) w w'
theorem pT(p N:Nat)(st:Option (List UInt8))(A:Option Addr)(n c:Nat)(l:List UInt8)(S:Nat→Prop)(w0 w1 W:World)(hN:N+8+n≤1000000)(h:Wat w1 p st N W)(hn:n=l.length)(hr:Rds w0 S A n (bcs l))(h01:Chg (fun _=>False) w0 w1):
  Calls Tryz.prog 156 #[.pointer (some ⟨p,0,none⟩),.slice A n c] W fun e w'=>e=.returned (.pointer (some ⟨p,0,none⟩))∧Wat w1 p (h_ l st) (N+8+n) w':=by
 obtain⟨o,hw,hC,hp,ho⟩:=h;have hr2:=hr.old.chg (h01.tr hC) (fun _ _=>id);have hs:=h01.size;refine(pd p o st N A n c l _ W hw hn hr2 (fun k hk=>⟨by have:=hk.2;omega,fun e=>by have:=ho k e;have:=hk.2;omega⟩) (by omega)).mono fun e w' ⟨he,o',hw',hm⟩=>?_;obtain⟨h1,h2⟩:=gE hC hm hp ho;exact⟨he,o',hw',h1,hp,h2⟩
theorem rJ(p N:Nat)(b:List UInt8)(w1 W:World)(hN:N≤1000000)(h:Wat w1 p (some b) N W):
  Calls Tryz.prog 157 #[.pointer (some ⟨p,0,none⟩)] W fun e w'=>∃A c,e=.returned (.tuple #[.slice A b.length c,U Z 0])∧w'.ownsRow w1.heap.size 5 1 (.slice A b.length c) b.length (bcs b)∧Chg (fun _=>False) w1 w':=by
 obtain⟨o,hw,hC,_,_⟩:=h;refine(kq p o b N W hw (by omega)).mono ?_;rintro e w' ⟨A',k,c',rfl,rfl,hown,hc⟩;exact⟨A',c',rfl,cT hown hC.size,hC.tr hc⟩
theorem rK(b:List UInt8)(h:Bok b):ax 4 [(dy b:Int)] (h_ b (some []))=some (jrB b):=by
 have h1:=h.2;have hs:=lr b;have hf:a_ 4 (dy b:Int)=true:=(mC _ _).2 ⟨by omega,by omega⟩;rw[rh,if_pos (by omega)];simp[ax,cg,dR,hf,jrB]
theorem um(A:Option Addr)(n c:Nat)(w:World)(h:n=0∨200<n)(hm:n≤9223372036854775807):
  Calls Tryz.prog 178 #[.slice A n c] w fun e w'=>e=.returned (.tuple #[.slice none 0 0,U Z 1])∧w=w':=by
 rcases h with h|h
 ·subst h;go_in;go_wp2_with fail;go_ret2;exact⟨rfl,rfl⟩
 ·have h0:((n:Int)==0)=false:=by simp;omega
  go_in;go_wp2_with fail;go_ret2;exact⟨rfl,rfl⟩
theorem wu(A:Option Addr)(n c:Nat)(b:List UInt8)(S:Nat→Prop)(w:World)(hn:n=b.length)(h:Rds w S A n (bcs b))(hb:Bok b):
  Calls Tryz.prog 178 #[.slice A n c] w (Mk8 (jrB b) w):=by
 have h1:1≤n∧n≤200:=⟨by have:=hb.1;omega,by have:=hb.2;omega⟩;have HST:=hd_ (rK b hb);have HN:=hd_ hn;have HR:=hd_ h
 have h0:((n:Int)==0)=false:=by simp;omega
 have h2:¬(200:Int)<(n:Int):=by omega
 have HB:=hd_ (pT w.heap.size 0 (some []) A n c b S w w (w.alloc (.cells #[.slice none 0 0,.bool false] 243)) (by omega) (Wat.start ((Chg.refl _ _).alloc _) (zG _) (af rfl)) hn h (Chg.refl _ w));clear hn h hb;go_in;go_wp2_with fail;refine HB.out.mono ?_;rintro e w2 ⟨rfl,hw2⟩;have HW2:=hd_ hw2;have HS:=hd_ (oN A n c b _ w2 HN.out (HR.out.old.chg hw2.was (fun _ _=>id)) (by omega));clear hw2 HB;go_wp2_with fail;refine HS.out.mono ?_;rintro e w3 ⟨rfl,rfl⟩;have hs:=lr b;have HP:=hd_ (e_ w.heap.size w2.heap.size (0+8+n) 4 (dy b:Int) _ w (w2.alloc (.cells #[U Z (dy b:Int)] 3)) ⟨by omega,by omega⟩ (by omega) (HW2.out.alloc _) (af rfl));rw[HST.out]at HP;clear HS HW2;go_wp2_with fail;refine HP.out.mono ?_;rintro e w4 ⟨rfl,hw4,_⟩;have HD:=hd_ (rJ w.heap.size _ _ w w4 (by omega) hw4);clear hw4 HP;go_wp2_with fail;refine HD.out.mono ?_;rintro e w5 ⟨D,dc,rfl,hown,hc⟩;go_wp2_with fail;go_ret2;exact⟨D,dc,rfl,hown,hc⟩
theorem wv:(Tryz.prog.info? 23).map (fun i=>(i.zero,i.size,i.bytes))=some (some (.slice none 0 0),1,24):=by kernel_rfl
def BL(w:World)(S:Nat→Prop)(vs:List Value)(ls:List (List UInt8)):Prop:=
 vs.length=ls.length∧∀(i:Nat) (l:List UInt8),ls[i]?=some l→∃A c,vs[i]?=some (.slice A l.length c)∧Rds w S A l.length (bcs l)
section
variable {w w' : World} {S S' : Nat → Prop} {vs : List Value} {ls : List (List UInt8)}
theorem BL.nil(w:World)(S:Nat→Prop):BL w S [] []:=⟨rfl,fun i l h=>by simp at h⟩
theorem BL.mono(h:BL w S vs ls)(hs:∀k,S k→S' k):BL w S' vs ls:=
 ⟨h.1,fun i l hl=>by obtain⟨A,c,h1,h2⟩:=h.2 i l hl;exact⟨A,c,h1,h2.mono hs⟩⟩
theorem BL.chg(h:BL w S vs ls)(hc:Chg S' w w')(hd:∀k,S k→¬S' k):BL w' S vs ls:=
 ⟨h.1,fun i l hl=>by obtain⟨A,c,h1,h2⟩:=h.2 i l hl;exact⟨A,c,h1,h2.chg hc hd⟩⟩
theorem BL.keep(h:BL w S vs ls)(hz:w.heap.size≤w'.heap.size)(hk:∀k,S k→k<w.heap.size→w'.heap[k]?=w.heap[k]?):BL w' S vs ls:=
 ⟨h.1,fun i l hl=>by obtain⟨A,c,h1,h2⟩:=h.2 i l hl;exact⟨A,c,h1,h2.keep hz hk⟩⟩
theorem BL.old(h:BL w S vs ls):BL w (fun k=>S k∧k<w.heap.size) vs ls:=
 ⟨h.1,fun i l hl=>by obtain⟨A,c,h1,h2⟩:=h.2 i l hl;exact⟨A,c,h1,h2.old⟩⟩
theorem BL.snoc(h:BL w S vs ls){A:Option Addr}{l:List UInt8}{n c:Nat}(hn:n=l.length)(hr:Rds w S A n (bcs l)):BL w S (vs++[.slice A n c]) (ls++[l]):=by
 subst hn;have h1:=h.1;refine⟨by simp[h1],fun i x hx=>?_⟩;by_cases hi:i<ls.length
 ·rw[B2 hi]at hx;obtain⟨A',c',h2,h3⟩:=h.2 i x hx;exact⟨A',c',by rw[B2 (by omega)];exact h2,h3⟩
 ·have hi2:i<(ls++[l]).length:=(zS.1 hx).1;rw[zY,List.length_singleton]at hi2
  have hij:i=ls.length:=by omega
  subst hij;rw[B3 (zG _),B4,List.getElem?_cons_zero,Option.some.injEq]at hx;subst hx;exact⟨A,c,by rw[B3 (by omega),h1,B4];rfl,hr⟩
theorem BL.take(h:BL w S vs ls)(k:Nat):BL w S (vs.take k) (ls.take k):=by
 refine⟨by rw[zN,zN,h.1],fun i l hl=>?_⟩;rw[B5]at hl
 split at hl
 ·rename_i hik;obtain⟨A,c,h1,h2⟩:=h.2 i l hl;exact⟨A,c,by rw[B5,if_pos hik];exact h1,h2⟩
 ·cases hl
end
def cI(b:List UInt8):Nat:=(an (aq b)).length
def yJ(b:List UInt8)(w:World)(e:Ending)(w':World):Prop:=
 ∃A m c vs,e=.returned (.tuple #[.slice A m c,U Z (cI b:Int)])∧m=(aq b).length∧w'.ownsRow w.heap.size 23 1 (.slice A m c) m vs∧BL w' (fun k=>w.heap.size≤k) vs (aq b)∧Chg (fun _=>False) w w'
theorem rL{b:List UInt8}{ls:List (List UInt8)}{x:List UInt8}(h:aq b=ls++aq (b.drop (an ls).length))(hh:cn (b.drop (an ls).length)=some x):
  aq b=(ls++[x])++aq (b.drop (an (ls++[x])).length)∧(an (ls++[x])).length=(an ls).length+x.length+6:=by
 have e:(an (ls++[x])).length=(an ls).length+x.length+6:=by rw[gI,zY,bO];omega
 refine⟨?_,e⟩;rw[e,h,iZ hh,BX,BY,Nat.add_assoc];rfl
theorem jV{b:List UInt8}{ls:List (List UInt8)}(h:aq b=ls++aq (b.drop (an ls).length))(hh:cn (b.drop (an ls).length)=none):ls=aq b∧(an ls).length=cI b:=by
 rw[iY hh,B0]at h;unfold cI;rw[h];exact⟨rfl,rfl⟩
theorem ww{n:Nat}(h:1≤n):((n:Int)==0)=false:=by simp;omega
theorem rM(A:Option Addr)(n c:Nat)(b:List UInt8)(S:Nat→Prop)(w:World)(hn:n=b.length)(h:Rds w S A n (bcs b))(hz:A=none→c=0)(hbig:n≤16777216):
  Calls Tryz.prog 97 #[.slice A n c] w (yJ b w):=by
 obtain⟨i0,hi0,hz0,hz1,hz2⟩:=info_parts wv;have HN:=hd_ hn;have HRD:=hd_ (eG A n c b S w hn h hz (by omega));clear hn h hz;go_in;go_wp2_with fail;refine HRD.out.mono ?_;rintro e w1 ⟨p,rfl,hp,hrd,hc1⟩;have HR1:=hd_ hrd;have HC1:=hd_ hc1;have hp1:=hrd.lt;clear hrd hc1 HRD;go_wp2_with fail
 go_loopg [4,5] b.length (fun g v i wr=>∃(ls:List (List UInt8)) (at_ m c':Nat) (D:Option Addr) (vs:List Value),g=b.length-at_∧at_≤n∧m≤at_∧i=U Z (at_:Int)∧v=.slice D m c'∧
  Hid (m=ls.length∧at_=(an ls).length∧aq b=ls++aq (b.drop (an ls).length))∧Hid (wr.ownsRow w1.heap.size 23 1 (.slice D m c') m vs)∧
  Hid (BL wr (fun k=>w.heap.size≤k∧k<p) vs ls)∧Hid (Rd 259 true wr p (fun k=>w.heap.size≤k∧k<p) (some (b.drop at_)))∧Hid (Chg (fun k=>k=p) w1 wr))
 case atStart=>exact⟨[],0,0,0,none,[],rfl,zP _,zP _,rfl,rfl,⟨rfl,rfl,rfl⟩,World.ownsRow_nil _ _ _ _,BL.nil _ _,HR1.out,Chg.refl _ _⟩
 case round=>
  obtain⟨ls,at_,m,c',D,vs,rfl,hat,hma,rfl,rfl,HLS,HOWN,HBL,HR,HC⟩:=hrel;have HB:=hd_ (ku p _ _ 200 wr HR.out)
  have hlen:(b.drop at_).length=n-at_:=by rw[zO,←HN.out]
  rcases wt (b.drop at_)with⟨hh,st,hbr⟩|⟨x,y,hbr,hbok,hy,hl2,hrest⟩
  ·rw[hbr]at HB;have HH:=hd_ hh;clear hh hbr hlen;go_wp2_with fail;refine HB.out.mono ?_;rintro e w2 ⟨X,k,xc,rfl,hk,_,_,_,_,hc2⟩;have hk0:k=0:=hk;subst hk0;clear hk;replace HC:=hd_ (HC.out.tr hc2)
   have HO2:=hd_ (ay HOWN.out hc2 (fun k hk e=>by
    have:=(HOWN.out.lt k (by rw[aG];exact hk)).1
    omega))
   have HBL2:=hd_ (HBL.out.chg hc2 (fun k hk=>by have:=hk.2;omega));clear hc2 HB HOWN HBL;go_wp2_with fail;go_ret2;obtain⟨q1,q2,q3⟩:=HLS.out;subst q2;obtain⟨q4,q5⟩:=jV q3 HH.out;rw[q5];subst q4;exact⟨D,m,c',vs,rfl,q1,cT HO2.out HC1.out.size,HBL2.out.mono (fun k hk=>hk.1),ab HC1.out HC.out hp⟩
  ·rw[hbr]at HB;have HXO:=hd_ hbok;have hx0:((x.length:Int)==0)=false:=ww hbok.1;have hx200:=hbok.2;clear hbr;go_wp2_with fail;refine HB.out.mono ?_;rintro e w2 ⟨X,k,xc,rfl,hk,hkc,hcm,hxr,hrd2,hc2⟩;have hk0:k=x.length:=hk;subst hk0;clear hk;have hrd2:Rd 259 true w2 p _ (some y):=hrd2;have hxr:Rds w2 (fun k=>w.heap.size≤k∧k<p) X x.length (bcs x):=hxr
   have hat2:at_+x.length+2≤n:=by omega
   replace HC:=hd_ (HC.out.tr hc2)
   have HO2:=hd_ (ay HOWN.out hc2 (fun k hk e=>by
    have:=(HOWN.out.lt k (by rw[aG];exact hk)).1
    omega))
   have HBL2:=hd_ (HBL.out.chg hc2 (fun k hk=>by have:=hk.2;omega));have HXR:=hd_ hxr;have HR2:=hd_ hrd2;have HY:=hd_ hy;clear hc2 HB HOWN HBL hrd2 hxr hy hl2;rcases hrest with⟨hl6,hh⟩|⟨hl6,z,hgz,hcmp⟩
   ·have hgt:(n:Int)<(at_:Int)+(x.length:Int)+6:=by omega
    have HH:=hd_ hh;clear hh hl6 hlen;go_wp2_with fail;go_ret2;obtain⟨q1,q2,q3⟩:=HLS.out;subst q2;obtain⟨q4,q5⟩:=jV q3 HH.out;rw[q5];subst q4;exact⟨D,m,c',vs,rfl,q1,cT HO2.out HC1.out.size,HBL2.out.mono (fun k hk=>hk.1),ab HC1.out HC.out hp⟩
   ·have hgt:¬(n:Int)<(at_:Int)+(x.length:Int)+6:=by omega
    have hg:=ia p _ (some y) 4 w2 HR2.out;rw[hgz]at hg;have HG:=hd_ hg;clear hg hgz hlen;go_wp2_with fail;refine HG.out.mono ?_;rintro e w3 ⟨rfl,hrd3,hc3⟩;have hrd3:Rd 259 true w3 p _ (some ((b.drop at_).drop (x.length+6))):=hrd3;replace HC:=hd_ (HC.out.tr hc3)
    replace HO2:=hd_ (ay HO2.out hc3 (fun k hk e=>by
     have:=(HO2.out.lt k (by rw[aG];exact hk)).1
     omega))
    replace HBL2:=hd_ (HBL2.out.chg hc3 (fun k hk=>by have:=hk.2;omega));replace HXR:=hd_ (HXR.out.chg hc3 (fun k hk=>by have:=hk.2;omega));have HS:=hd_ (oN X x.length xc x _ w3 rfl HXR.out (by omega));have HR3:=hd_ hrd3;clear hc3 hrd3 HG HR2;go_wp2_with fail;refine HS.out.mono ?_;rintro e w4 ⟨rfl,rfl⟩;clear HS;rcases hcmp with⟨hne,hh⟩|⟨heq,hh⟩
    ·have hb:((z:Int) !=(dy x:Int))=true:=by simp;omega
     have HH:=hd_ hh;clear hh hl6 hne;go_wp2_with fail;go_ret2;obtain⟨q1,q2,q3⟩:=HLS.out;subst q2;obtain⟨q4,q5⟩:=jV q3 HH.out;rw[q5];subst q4;exact⟨D,m,c',vs,rfl,q1,cT HO2.out HC1.out.size,HBL2.out.mono (fun k hk=>hk.1),ab HC1.out HC.out hp⟩
    ·have HH:=hd_ hh;obtain⟨q1,q2,q3⟩:=HLS.out;subst heq
     have hmx:m+1≤16777217:=by omega
     have HQ1:=hd_ q1;have HQ2:=hd_ q2;have HQ3:=hd_ q3;clear hh q1 q2 q3 HLS;have hown3:=HO2.out.alloc (.cells #[.slice X x.length xc] 23);have hbase:w1.heap.size≤(w3.alloc (.cells #[.slice X x.length xc] 23)).heap.size:=zH HC.out.size (by simp);go_wp2_with (at_builtin;refine aN _ rfl (.tmp 36) (.tmp 38) 89 rfl w1.heap.size 23 i0 (.slice none 0 0) 24 Tryz.underlying89 hi0 hz0 hz1 hz2 rfl (.slice D m c') m vs rfl hown3 _ (some ⟨w3.heap.size,0,none⟩) 1 1 [.slice X x.length xc] rfl (iO w3 23 #[.slice X x.length xc] (0,0)) (by simp[Value.oneCell']) (by unfold maxLen;omega) (by omega) hbase ?_;intro v5 w5 hown5 hg5 hat5;obtain⟨D5,c5,rfl,_,_⟩:=aV hown5);have hcg:Chg (fun k=>w1.heap.size≤k) w3 w5:=((Chg.refl (fun k=>w1.heap.size≤k) w3).alloc _).grown hg5 (fun k hk _=>(hown3.lt k hk).1);have HG5:=hd_ hcg;have HO5:=hd_ hown5;clear hcg hown5 hown3 hg5 hat5;go_roundg (b.length-(at_+x.length+6))
     case measure=>have:=HN.out;omega
     case rel=>
      have hst:=HQ3.out;have hh:=HH.out;rw[HQ2.out]at hh;obtain⟨s1,s2⟩:=rL hst hh;have q1:=HQ1.out;have q2:=HQ2.out;refine⟨ls++[x],at_+x.length+6,m+1,c5,D5,vs++[.slice X x.length xc],rfl,by omega,by omega,by go_num,rfl,⟨by rw[zY,q1];rfl,by rw[s2,q2],s1⟩,HO5,?_,?_,?_⟩
      ·exact(HBL2.out.snoc rfl HXR.out).chg HG5.out (fun k hk=>by have:=hk.2;omega)
      ·have hrd:=HR3.out.chg HG5.out (by omega) (fun k hk=>by have:=hk.2;omega);rw[BX]at hrd;exact hrd
      ·exact HC.out.trans HG5.out (fun i hi hs=>by omega)
def LL(w:World)(S:Nat→Prop)(A:Option Addr)(m:Nat)(ls:List (List UInt8)):Prop:=∃vs,m=ls.length∧Rds w S A m vs∧BL w S vs ls
section
variable {w w' : World} {S S' : Nat → Prop} {A : Option Addr} {m : Nat} {ls : List (List UInt8)}
theorem LL.chg(h:LL w S A m ls)(hc:Chg S' w w')(hd:∀k,S k→¬S' k):LL w' S A m ls:=by
 obtain⟨vs,h1,h2,h3⟩:=h;exact⟨vs,h1,h2.chg hc hd,h3.chg hc hd⟩
theorem LL.new(h:LL w S A m ls)(hc:Chg (fun _=>False) w w'):LL w' S A m ls:=h.chg hc (fun _ _=>id)
theorem LL.mono(h:LL w S A m ls)(hs:∀k,S k→S' k):LL w S' A m ls:=by
 obtain⟨vs,h1,h2,h3⟩:=h;exact⟨vs,h1,h2.mono hs,h3.mono hs⟩
theorem LL.take(h:LL w S A m ls)(k:Nat)(hk:k≤m):LL w S A k (ls.take k):=by
 obtain⟨vs,h1,h2,h3⟩:=h;exact⟨vs.take k,by rw[zN];omega,h2.take k hk,h3.take k⟩
theorem LL.at(h:LL w S A m ls){j:Nat}{l:List UInt8}(hl:ls[j]?=some l):∃ad B c,A=some ad∧w.cell? (ad.add j)=some (.slice B l.length c)∧Rds w S B l.length (bcs l):=by
 obtain⟨vs,h1,h2,h3⟩:=h;have hj:j<ls.length:=(zS.1 hl).1;obtain⟨ad,e,_,_,hc⟩:=h2.cellAt (k:=j) (by omega);obtain⟨B,c,hv,hr⟩:=h3.2 j l hl;exact⟨ad,B,c,e,by rw[hc,hv],hr⟩
end
theorem xu{w:World}{base m c:Nat}{A:Option Addr}{vs:List Value}{ls:List (List UInt8)}(h:w.ownsRow base 23 1 (.slice A m c) m vs)(hb:BL w (fun k=>base≤k) vs ls):LL w (fun k=>base≤k) A m ls:=
 ⟨vs,by have h1:=h.1;have h2:=hb.1;simp only[Nat.mul_one]at h1;omega,(cB h).mono (fun k hk=>hk.1),hb⟩
def opS(bs:List UInt8)(s:Nat):Nat:=if cI bs<bs.length then cI bs else s
theorem lu(bs:List UInt8):cI bs≤bs.length:=ic bs
theorem xv{bs:List UInt8}{s:Nat}(h:cI bs<bs.length):pO bs (cI bs:Int)=0∧pP bs (cI bs:Int)=an (aq bs)∧pQ bs s (cI bs:Int)=opS bs s:=by
 unfold pO pP pQ opS;rw[if_neg (by omega),if_neg (by omega),if_neg (by omega),if_pos h,Al];exact⟨rfl,lN bs,rfl⟩
theorem xw{bs:List UInt8}{s:Nat}(h:¬cI bs<bs.length):bs=an (aq bs)∧s=opS bs s:=by
 have h1:=lu bs;have h2:=lN bs;unfold opS;rw[if_neg h];unfold cI at h h1;rw[Ax (by omega)]at h2;exact⟨h2,rfl⟩
def yK(w:World)(p:Nat)(o:Option Nat)(bs:List UInt8)(s r:Nat)(e:Ending)(w':World):Prop:=
 ∃j A m c,e=.returned (.tuple #[.pointer (some ⟨j,0,none⟩),.slice A m c,U Z 0])∧w.heap.size≤j∧Blk w' j 176 #[.pointer (some ⟨p,0,none⟩)]∧
  m=(aq bs).length∧LL w' (fun k=>w.heap.size≤k) A m (aq bs)∧Fi 80 w' p o (an (aq bs)) (opS bs s) r∧Mvd p o o w w'
theorem rN(p:Nat)(o:Option Nat)(bs:List UInt8)(s r:Nat)(w:World)(h:Fi 80 w p o bs s r)(hbr:bs.length≤r)(hr24:r≤16777216):
  Calls Tryz.prog 49 #[.pointer (some ⟨p,0,none⟩)] w (yK w p o bs s r):=by
 have HB:=hd_ (pR p o bs s r w h hbr hr24);have HF:=hd_ h;clear h;go_in;go_wp2_with fail;refine HB.out.mono ?_;rintro e w1 ⟨A1,c1,rfl,hown1,hc1⟩;have HC1:=hd_ hc1;have HS:=hd_ (rM A1 bs.length c1 bs _ w1 rfl (d5 hown1) (d7 hown1) (by omega));clear HB hown1 hc1;go_wp2_with fail;refine HS.out.mono ?_;rintro e w2 ⟨A2,m,c2,vs,rfl,hm,hown2,hbl,hc2⟩;have HC2:=hd_ (HC1.out.tr hc2);have HL:=hd_ ((xu hown2 hbl).mono (S':=fun k=>w.heap.size≤k) (fun k hk=>zH HC1.out.size hk));have HF2:=hd_ (HF.out.chg HC2.out id (fun _ _=>id));have HM:=hd_ hm;have hlt:=HF.out.lt
 have hmm:m≤bs.length+1:=by
  have h1:=lu bs
  have h2:∀l:List (List UInt8),l.length≤(an l).length:=fun l=>by
   induction l with
   |nil=>exact zP _
   |cons x l ih=>rw[cR,zY,bO,Ab];omega
  have h3:=h2 (aq bs);unfold cI at h1;omega
 clear hown2 hbl hc2 hm HS HC1 HF;by_cases hu:cI bs<bs.length
 ·have hu':(cI bs:Int)<(bs.length:Int):=by omega
  have HCU:=hd_ (uh p o bs s r (cI bs:Int) w2 HF2.out hbr hr24);obtain⟨u1,u2,u3⟩:=xv (s:=s) hu;rw[u1,u2,u3]at HCU;clear u1 u2 u3 hu;go_wp2_with fail;refine HCU.out.mono ?_;rintro e w3 ⟨rfl,hf3,hm3⟩;have HF3:=hd_ hf3;have HM3:=hd_ hm3;clear hf3 hm3 HCU;go_wp2_with fail
  go_ret3
  have ha:Chg (fun _=>False) w3 (w3.alloc (.cells #[.pointer (some ⟨p,0,none⟩)] 176)):=(Chg.refl _ w3).alloc _;refine⟨w3.heap.size,A2,m,c2,rfl,zH HC2.out.size HM3.out.1.size,af rfl,HM.out,?_,HF3.out.chg ha id (fun _ _=>id),(Mvd.pre HC2.out HM3.out).post ha⟩;refine(HL.out.chg HM3.out.1 (fun k hk e=>?_)).new ha;rcases e with e|e
  ·have:=hlt.1;omega
  ·have:=hlt.2 k e;omega
 ·have hu':¬(cI bs:Int)<(bs.length:Int):=by omega
  obtain⟨u1,u2⟩:=xw (s:=s) hu
  have HF3:Hid (Fi 80 w2 p o (an (aq bs)) (opS bs s) r):=by
   unfold Hid;rw[←u1,←u2];exact HF2.out
  clear u1 u2 hu;go_wp2_with fail
  go_ret3
  have ha:Chg (fun _=>False) w2 (w2.alloc (.cells #[.pointer (some ⟨p,0,none⟩)] 176)):=(Chg.refl _ w2).alloc _;exact⟨w2.heap.size,A2,m,c2,rfl,HC2.out.size,af rfl,HM.out,HL.out.new ha,HF3.out.chg ha id (fun _ _=>id),((Mvd.refl p o w2).pre HC2.out).post ha⟩
theorem gh{T t:TypeId}{w:World}{p g:Nat}{o:Option Nat}{bs:List UInt8}{s r:Nat}{cs:Array Value}(h:Fi T w p o bs s r)(hb:Blk w g t cs)(ht:t≠T)(hu:t≠5):g≠p∧o≠some g:=by
 obtain⟨A,c,hf⟩:=h;refine⟨?_,?_⟩
 ·rintro rfl;have h:=hf.blk.symm.trans hb;simp at h;exact ht h.2.symm
 ·rintro rfl;have ha:=hf.at_;rcases hf.own.2 with⟨e,_⟩|⟨k,cap,cur,e,_,hh,_⟩
  ·injection e with e;subst e;cases ha
  ·injection e with e;subst e;injection ha with ha;have ha:k=g:=ha;subst ha;have h:=hh.symm.trans hb;simp at h;exact hu h.2.symm
def fz(r:Nat)(bs b:List UInt8):Int:=if b.length=0∨200<b.length then 1 else ll r bs (jrB b)
def cJ(r:Nat)(bs b:List UInt8):List UInt8:=if b.length=0∨200<b.length then bs else iW r bs (jrB b)
theorem oR{w:World}{j:Nat}{v:Value}(h:Blk w j 176 #[v]):w.cell? ⟨j,0,none⟩=some v:=by
 have:=h.cell 0;simpa using this
theorem rO(j p:Nat)(o:Option Nat)(bs:List UInt8)(s r:Nat)(w:World)(hj:Blk w j 176 #[.pointer (some ⟨p,0,none⟩)])(h:Fi 80 w p o bs s r):
  Calls Tryz.prog 114 #[.pointer (some ⟨j,0,none⟩)] w fun e w'=>e=.returned (.tuple #[])∧Fi 80 w' p o bs bs.length r∧Mvd p o o w w':=by
 have HS:=hd_ (rF p o bs s r w h);have c0:=oR hj;clear h hj;go_in;go_wp2_with fail;refine HS.out.mono ?_;rintro e w1 ⟨rfl,hf,hm⟩;go_wp2_with fail
 go_end0
 exact⟨rfl,hf,hm⟩
theorem uo(j p:Nat)(o:Option Nat)(bs b:List UInt8)(s r n c:Nat)(A:Option Addr)(S:Nat→Prop)(w:World)(hj:Blk w j 176 #[.pointer (some ⟨p,0,none⟩)])(h:Fi 80 w p o bs s r)
  (hn:n=b.length) (hr:Rds w S A n (bcs b)) (hbr:bs.length≤r) (hr24:r≤16777216) (hm:n≤9223372036854775807):
  Calls Tryz.prog 116 #[.pointer (some ⟨j,0,none⟩),.slice A n c] w fun e w'=>e=.returned (U Z (fz r bs b))∧∃o',Fi 80 w' p o' (cJ r bs b) s r∧Mvd p o o' w w':=by
 unfold fz cJ;by_cases hb:b.length=0∨200<b.length
 ·rw[if_pos hb,if_pos hb];have HE:=hd_ (um A n c w (by omega) hm);have HF:=hd_ h;clear h hj hb hn hr;go_in;go_wp2_with fail;refine HE.out.mono ?_;rintro e w1 ⟨rfl,rfl⟩;go_wp2_with fail;go_ret;exact⟨rfl,o,HF.out,Mvd.refl _ _ _⟩
 ·rw[if_neg hb,if_neg hb];have HE:=hd_ (wu A n c b S w hn hr ⟨by omega,by omega⟩);have HF:=hd_ h;have HJ:=hd_ hj
  have hrl:(jrB b).length≤1000:=by rw[bO];omega
  clear h hj hn hr;go_in;go_wp2_with fail;refine HE.out.mono ?_;rintro e w1 ⟨D,dc,rfl,hown,hc⟩;have c0:=oR (HJ.out.chg hc id);have HA:=hd_ (ug p o bs (jrB b) s r (jrB b).length dc D _ w1 (HF.out.chg hc id (fun _ _=>id)) rfl (d5 hown) hbr hr24 (by omega));have HC:=hd_ hc;clear hown hc HE;go_wp2_with fail;refine HA.out.mono ?_;rintro e w2 ⟨rfl,o',hf,hm2⟩;go_wp2_with fail;go_ret;exact⟨rfl,o',hf,Mvd.pre HC.out hm2⟩
end Go.Proofs.YtnojmbejedlilaaGreat
end
