/-
  A controller, plain: records, what they make of a state, what is noted, told, expires, is asked, taken, opened. No condition.
-/
import Derived.Test.YtnojmbejedlilaaGreatKQM8
import Derived.Test.YtnojmbejedlilaaGreatKQM6
import Derived.Test.YtnojmbejedlilaaGreatKQM9
import Derived.Test.YtnojmbejedlilaaGreatKQMA
import Derived.Test.YtnojmbejedlilaaGreatKQM4
set_option linter.unusedVariables false
set_option linter.unusedSimpArgs false
namespace Go.Proofs.YtnojmbejedlilaaGreat
open Go.Value renaming int→U
open Go.IntKind renaming i64→Z
open Go.RowKit
def ci(x:RV):List UInt8:=msB 1 x.po x.ma x.ow x.ta x.ol x.ge x.ph x.ve x.si 0 0 []
def eo(k:Int)(x:RV)(z n:Int):List UInt8:=if k=1 then ci x else be 1 k.toNat++(if k=6 then be 5 n.toNat else be 1 z.toNat)
structure aI where
 k:Int
 x:RV
 z:Int
 n:Int
def aI.bs(r:aI):List UInt8:=eo r.k r.x r.z r.n
structure ba where
 C:Int→Bool
 R:Int→Option RV
 bt:Int
def bU(t:ba)(r:aI):Int:=if r.k=1 then aC t.C t.R ⟨r.x,cH t.R r.x.po⟩else if r.k=4 then fd t.C r.z else if r.k=5 then fy t.C t.R r.z else if r.n≤t.bt then 2 else 0
def aA(t:ba)(r:aI):ba:=
 if r.k=1 then{t with R:=doR t.C t.R ⟨r.x,cH t.R r.x.po⟩}else if r.k=4 then{t with C:=addK t.C r.z}else if r.k=5 then{t with C:=remK t.C t.R r.z}else if r.n≤t.bt then t else{t with bt:=r.n}
structure KV where
 t:ba
 sp:Int
 no:Int
 S:Nat→SV
 B:Nat→Bool
 st:Bool
 bs:List UInt8
 sf:Nat
 rm:Nat
def aF{α:Type}(f:Nat→α)(i:Nat)(v:α):Nat→α:=fun k=>if k=i then v else f k
theorem di{α:Type}(f:Nat→α)(i:Nat)(v:α):aF f i v i=v:=if_pos rfl
theorem fj{α:Type}(f:Nat→α){i k:Nat}(v:α)(h:k≠i):aF f i v k=f k:=if_neg h
theorem oY{α:Type}(f:Nat→α)(i:Nat):aF f i (f i)=f:=by
 funext k;unfold aF
 split
 ·rename_i h;rw[h]
 ·rfl
def ao(x:KV)(r:aI):Int:=if bU x.t r=0 then fz x.rm x.bs r.bs else bU x.t r
def aM(x:KV)(r:aI):KV:=if ao x r=0 then{x with bs:=cJ x.rm x.bs r.bs}else x
def aH(x:KV)(r:aI):KV:=if ao x r=0 then{x with t:=aA x.t r,bs:=cJ x.rm x.bs r.bs,sf:=(cJ x.rm x.bs r.bs).length}else x
def kL(x:KV)(i:Nat):Bool:=x.t.C (i:Int)&&decide (0<(x.S i).pe)
def fk(x:KV)(r:RV):KV:={x with S:=fun i=>if kL x i then bL (x.S i) (ci r)else x.S i,B:=fun i=>x.B i||(kL x i&&db (x.S i) (ci r) !=0)}
def av(r:RV):aI:=⟨1,r,0,0⟩
def cx(x:KV)(r:RV):Int:=ao x (av r)
def bj(x:KV)(r:RV):KV:=if cx x r=0 then fk (aH x (av r)) r else x
def dL(x:KV)(l:List CV):KV:=l.foldl (fun y c=>bj y c.r) x
def cW(x:KV):KV:=dL x (dg x.t.R x.no x.sp)
def cY(R:Int→Option RV)(po:Int):Int:=match R po with
 |none=>4
 |some r=>if r.ph=3 then 4 else 0
def bY(R:Int→Option RV)(po:Int):RV:=match R po with
 |none=>z9
 |some r=>if r.ph=3 then z9 else r
def cZ(R:Int→Option RV)(po c ma now:Int):RV×Int:=match R po with
 |none=>iS po ma c now
 |some r=>if r.ph=3 then ag9 r ma c now else(z9,5)
def bN(R:Int→Option RV)(op po c now:Int):RV×Int:=
 if cY R po=0 then
  (if op=3 then dr9 (bY R po) now else if op=4 then st9 (bY R po) c now else if op=5 then co9 (bY R po) now else ab9 (bY R po) now)
 else(z9,cY R po)
def aD(R:Int→Option RV)(op po c ma now:Int):aI×Int:=
 if op=0 then(⟨4,z9,c,0⟩,0)else if op=1 then(⟨5,z9,c,0⟩,0)
 else if op=7 then(⟨0,bY R po,0,0⟩,cY R po)
 else if op=2 then(av (cZ R po c ma now).1,(cZ R po c ma now).2)
 else if op=3∨op=4∨op=5∨op=6 then(av (bN R op po c now).1,(bN R op po c now).2)
 else(⟨0,z9,0,0⟩,1)
def cO(x:KV)(r:aI):RV×Int×KV:=
 if r.k=1 then(if cx x r.x=0 then(r.x,0,bj x r.x)else(z9,cx x r.x,x))
 else if r.k=4 then(if ao x r=0 then(r.x,0,{aH x r with B:=aF x.B r.z.toNat true})else(z9,ao x r,x))
 else if r.k=5 then(if ao x r=0 then(r.x,0,aH x r)else(z9,ao x r,x))
 else(r.x,0,x)
def kM(x:KV)(op po c ma:Int):RV×Int×KV:=
 if (aD x.t.R op po c ma x.no).2=0 then cO x (aD x.t.R op po c ma x.no).1 else(z9,(aD x.t.R op po c ma x.no).2,x)
def aP(x:KV)(op po c ma:Int):RV×Int×KV:=if x.st then(z9,13,x)else kM x op po c ma
def gb(x:KV)(r:aI):Int×KV:=if r.k=0 then(0,x)else if ao x r=0 then(0,{aM x r with st:=true})else(ao x r,x)
def ju(x:KV)(op po c ma:Int):Int×KV:=if (aD x.t.R op po c ma x.no).2=0 then gb x (aD x.t.R op po c ma x.no).1 else((aD x.t.R op po c ma x.no).2,x)
def aB(x:KV)(op po c ma:Int):Int×KV:=if x.st then(13,x)else ju x op po c ma
def bG(x:KV)(now:Int):Int×KV:=if x.st then(13,x)else if now<x.no∨1099511627776<now then(1,x)else(0,cW {x with no:=now})
def dj(s:SV)(l:List RV):SV:=l.foldl (fun s r=>bL s (ci r)) s
def c_(x:KV)(i:Nat):KV:=if x.B i=true∧(x.S i).q.length=0 then{x with S:=aF x.S i (dj (x.S i) (aO x.t.R)),B:=aF x.B i false}else x
def iA(x:KV)(r:RV)(c ve:Int):KV:=if (aw9 r c ve x.no).2=0 then bj x (aw9 r c ve x.no).1 else x
def iB(x:KV)(r:RV)(c:Int)(b:List UInt8):KV:=if r.ph=3∨r.ow=c then x else if 0<(x.S r.ow.toNat).pe then{x with S:=aF x.S r.ow.toNat (bL (x.S r.ow.toNat) b)}else x
def ep(x:KV)(c:Int)(m:MV)(b:List UInt8):KV:=match x.t.R m.pt with
 |none=>x
 |some r=>if m.kd=2 then iA x r c m.vr else if m.kd=3 then iB x r c b else x
def cA(x:KV)(c:Int)(got:Bool)(b:List UInt8):MV×KV:=if got=true then(if cX b=0 then(cM b,ep x c (cM b) b)else(MV.zero,x))else(MV.zero,x)
def kN(x:KV)(i:Nat)(l:LV):KV:={x with S:=aF x.S i (tkS (x.S i) l),B:=aF x.B i (x.B i||el (x.S i) l)}
def jv(x:KV)(c:Int)(l:LV):MV×Int×KV:=
 if tkE (x.S c.toNat) l=0 then((cA (c_ (kN x c.toNat l) c.toNat) c (dP (x.S c.toNat) l) (tkB (x.S c.toNat) l)).1,0,(cA (c_ (kN x c.toNat l) c.toNat) c (dP (x.S c.toNat) l) (tkB (x.S c.toNat) l)).2)
 else(MV.zero,tkE (x.S c.toNat) l,x)
def eV(C:Int→Bool)(c:Int):Int:=if (decide (c<0)||decide (15<c))=true then 1 else if C c=true then 0 else 4
def lz(x:KV)(c:Int)(b:List UInt8):MV×Int×KV:=
 if eV x.t.C c=0 then(if jX b=0 then jv x c (jL b)else(MV.zero,jX b,x))else(MV.zero,eV x.t.C c,x)
def au(x:KV)(c:Int)(b:List UInt8):MV×Int×KV:=if x.st then(MV.zero,13,x)else lz x c b
def eC(b:List UInt8):Int:=gv 1 (some b)
def eq(b:List UInt8):Option (List UInt8):=gn 1 (some b)
def b_(b:List UInt8):aI×Bool:=
 if cX b=0 then(av ⟨(cM b).po,(cM b).ma,(cM b).ow,(cM b).ta,(cM b).ol,(cM b).ge,(cM b).ph,(cM b).ve,(cM b).si⟩,(cM b).kd==1)
 else if eC b=4∨eC b=5 then(⟨eC b,z9,gv 1 (eq b),0⟩,bT (gn 1 (eq b))==0)
 else if eC b=6 then(⟨6,z9,0,gv 5 (eq b)⟩,bT (gn 5 (eq b))==0)
 else(⟨0,z9,0,0⟩,false)
def bZ(t:ba)(b:List UInt8):Bool:= !((b_ b).2&&bU t (b_ b).1==0)
def bf(t:ba)(b:List UInt8):ba:=if (b_ b).2=true then aA t (b_ b).1 else t
def bg:ba→List (List UInt8)→Bool×ba
 |t,[]=>(false,t)
 |t,b::l=>if bZ t b=true then(true,bf t b)else bg (bf t b) l
def ts0:ba:=⟨fun _=>false,fun _=>none,0⟩
def dd(n:Int):aI:=⟨6,z9,0,n⟩
def i4(n:Int):SV:=⟨n,0,1,0,[]⟩
def aU(bs:List UInt8)(sf rm:Nat)(sp no:Int):KV:=⟨(bg ts0 (aq bs)).2,sp,no,fun _=>i4 0,fun _=>false,false,an (aq bs),opS bs sf,rm⟩
def dX(x:KV):Int:=if 4294967296≤x.t.bt then 10 else ao x (dd (x.t.bt+1))
def cG(x:KV):KV:={aH x (dd (x.t.bt+1))with S:=fun _=>i4 (x.t.bt+1)}
def gp(sp no:Int):Bool:=decide (1≤sp)&&(decide (sp≤2147483648)&&(decide (0≤no)&&decide (no≤1099511627776)))
def ck(bs:List UInt8)(sf rm:Nat)(sp no:Int):Int:=if gp sp no=true then(if (bg ts0 (aq bs)).1=true then 2 else dX (aU bs sf rm sp no))else 1
def bz(bs:List UInt8)(sf rm:Nat)(sp no:Int):KV:=cW (cG (aU bs sf rm sp no))
def i5(bs:List UInt8)(sp no:Int):List UInt8:=if gp sp no=true then an (aq bs)else bs
def i6(bs:List UInt8)(sf:Nat)(sp no:Int):Nat:=if gp sp no=true then opS bs sf else sf
end Go.Proofs.YtnojmbejedlilaaGreat
