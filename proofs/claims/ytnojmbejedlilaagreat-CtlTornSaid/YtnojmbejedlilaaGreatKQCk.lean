/-
  What always holds of a controller; its sessions behind calls. No condition.
-/
import Derived.Test.YtnojmbejedlilaaGreatKQCj
set_option linter.unusedVariables false
set_option linter.unusedSimpArgs false
namespace Go.Proofs.YtnojmbejedlilaaGreat
open Int renaming le_refl→CJ
open List renaming mem_filterMap→CK
open Go.Value renaming int→U
open Go.IntKind renaming i64→Z
open Go.RowKit
structure bh(j:Nat)(x:SV):Prop where
 len:x.q.length≤64
 bod:∀b∈x.q,1≤b.length∧b.length≤1000
 nx1:1≤x.nx
 n:x.nx≤1+64*(j:Int)
 go0:0≤x.go∧x.go≤1099511627776
 pe0:0≤x.pe
section
variable {j : Nat} {x : SV}
theorem bh.ok(h:bh j x)(hj:j≤1000000):SOk x:=⟨h.len,h.bod,by have:=h.nx1;have:=h.n;omega,h.go0⟩
theorem bh.le(h:bh j x){k:Nat}(hk:j≤k):bh k x:=⟨h.len,h.bod,h.nx1,by have:=h.n;omega,h.go0,h.pe0⟩
theorem bh.push(h:bh j x)(b:List UInt8):bh j (bL x b):=by
 unfold bL
 split
 case isFalse=>exact h
 case isTrue he=>
  unfold db at he
  split at he
  case isFalse=>omega
  case isTrue hb=>
   split at he
   case isTrue=>omega
   case isFalse h64=>
    have hb2:1≤b.length∧b.length≤1000:=by
     unfold ah at hb;simp at hb;omega
    refine⟨by have:=h.len;simp;omega,fun c hc=>?_,h.nx1,h.n,h.go0,h.pe0⟩;rcases List.mem_append.1 hc with hc|hc
    ·exact h.bod c hc
    ·rw[List.mem_singleton.1 hc];exact hb2
theorem bh.ack(h:bh j x)(a:Int):bh (j+1) (dJ x a):=by
 have hk:i1 x.nx a x.q.length≤x.q.length:=Nat.min_le_left _ _;have hl:=h.len;refine⟨?_,fun b hb=>h.bod b (List.mem_of_mem_drop hb),?_,?_,h.go0,h.pe0⟩
 ·show (x.q.drop _).length≤64;rw[List.length_drop];omega
 ·show 1≤x.nx+_;have:=h.nx1;omega
 ·show x.nx+_≤_;have:=h.n;omega
theorem bh.new(m p:Int)(hp:0≤p):bh 0 ⟨m,p,1,0,[]⟩:=⟨by simp,fun b hb=>by simp at hb,by show (1:Int)≤1;omega,by show (1:Int)≤1+64*((0:Nat):Int);omega,by show (0:Int)≤0∧(0:Int)≤1099511627776;omega,hp⟩
theorem bh.s1(h:bh j x)(l:LV):bh j (i2 x l):=by
 unfold i2
 split
 ·rename_i hl;exact(bh.new _ _ (by have:=h.pe0;omega)).le (by omega)
 ·exact h
theorem bh.take(h:bh j x)(l:LV):bh (j+1) (tkS x l):=by
 have h2:bh (j+1) (ix x l):=by
  unfold ix
  split
  ·exact(h.s1 l).ack _
  ·exact(h.s1 l).le (by omega)
 unfold tkS
 split
 case isFalse=>exact h.le (by omega)
 case isTrue hok=>
  split
  ·unfold gk at hok;rw[Bool.and_eq_true]at hok;have hs:=(gM hok.1).2.2.2.1;exact⟨h2.len,h2.bod,h2.nx1,h2.n,hs,h2.pe0⟩
  ·exact h2
end
structure KOk(j:Nat)(x:KV):Prop where
 wf:WF x.t.C x.t.R
 ma:∀z r,x.t.R z=some r→0≤r.ma
 bt:0≤x.t.bt∧x.t.bt≤4294967296
 sp:1≤x.sp∧x.sp≤2147483648
 no:0≤x.no∧x.no≤1099511627776
 s:∀i,i<16→bh j (x.S i)
 b:x.bs.length≤x.rm
 m:x.rm≤16777216
 sf:x.sf≤x.bs.length
theorem KOk.le{j k:Nat}{x:KV}(h:KOk j x)(hk:j≤k):KOk k x:=⟨h.wf,h.ma,h.bt,h.sp,h.no,fun i hi=>(h.s i hi).le hk,h.b,h.m,h.sf⟩
theorem nf{t:ba}{r:aI}(h:∀z u,t.R z=some u→0≤u.ma)(hr:r.k=1→0≤r.x.ma):∀z u,(aA t r).R z=some u→0≤u.ma:=by
 intro z u hz;unfold aA at hz
 split at hz
 ·rename_i hk;simp only[doR]at hz
  split at hz
  ·unfold cm at hz
   split at hz
   ·injection hz with hz;rw[←hz];exact hr hk
   ·exact h z u hz
  ·exact h z u hz
 ·split at hz
  ·exact h z u hz
  ·split at hz
   ·exact h z u hz
   ·split at hz<;>exact h z u hz
theorem dO{t:ba}{r:aI}(hw:WF t.C t.R)(hk:r.k=1∨r.k=4∨r.k=5∨(r.k=6∧0≤r.n∧r.n≤4294967296))(hma:r.k=1→0≤r.x.ma)(h:bU t r=0):r.ok:=by
 unfold bU at h;rcases hk with e|e|e|e
 ·rw[if_pos e]at h;exact .inl ⟨e,(dG h).1,hma e⟩
 ·rw[if_neg (by omega),if_pos e]at h;refine .inr (.inr ⟨.inl e,?_⟩);unfold fd at h
  split at h
  ·omega
  ·rename_i hh;simp only[Bool.or_eq_true,decide_eq_true_eq]at hh;omega
 ·rw[if_neg (by omega),if_neg (by omega),if_pos e]at h;refine .inr (.inr ⟨.inr e,?_⟩);unfold fy at h
  split at h
  ·omega
  ·rename_i hh;exact hw.ch _ (by cases hc:t.C r.z with|true=>rfl|false=>exact absurd hc hh)
 ·exact .inr (.inl e)
theorem KOk.note{j:Nat}{x:KV}(h:KOk j x)(r:aI)(hma:r.k=1→0≤r.x.ma)(hbt:r.n≤4294967296):KOk j (aH x r):=by
 unfold aH
 split
 ·have hp:=lY (b:=r.bs) h.b;refine⟨nd h.wf r,nf h.ma hma,?_,h.sp,h.no,h.s,hp.1,h.m,Nat.le_refl _⟩;show 0≤(aA x.t r).bt∧(aA x.t r).bt≤4294967296;have:=h.bt;unfold aA
  split
  ·exact h.bt
  ·split
   ·exact h.bt
   ·split
    ·exact h.bt
    ·split
     ·exact h.bt
     ·simp only;omega
 ·exact h
theorem KOk.put{j:Nat}{x:KV}(h:KOk j x)(r:aI):KOk j (aM x r):=by
 unfold aM
 split
 ·have hp:=lY (b:=r.bs) h.b;exact⟨h.wf,h.ma,h.bt,h.sp,h.no,h.s,hp.1,h.m,Nat.le_trans h.sf hp.2⟩
 ·exact h
theorem KOk.tell{j:Nat}{x:KV}(h:KOk j x)(r:RV):KOk j (fk x r):=by
 refine⟨h.wf,h.ma,h.bt,h.sp,h.no,fun i hi=>?_,h.b,h.m,h.sf⟩;show bh j (if kL x i then bL (x.S i) (ci r)else x.S i)
 split
 ·exact(h.s i hi).push _
 ·exact h.s i hi
theorem KOk.chg{j:Nat}{x:KV}(h:KOk j x)(r:RV)(hma:0≤r.ma):KOk j (bj x r):=by
 unfold bj
 split
 ·exact(h.note (av r) (fun _=>hma) (by show (0:Int)≤4294967296;decide)).tell r
 ·exact h
theorem KOk.exps{j:Nat}:∀(l:List CV) {x:KV} (h:KOk j x) (hl:∀c∈l,0≤c.r.ma),KOk j (dL x l)
 |[],_,h,_=>h
 |c::l,_,h,hl=>KOk.exps l (h.chg c.r (hl c (by simp))) (fun d hd=>hl d (by simp[hd]))
theorem iC{x:RV}(hx:0≤x.ma){now:Int}{may:Bool}{a:RV×Int}(ha:a.2=0→0≤a.1.ma):0≤(ap x now may a).1.ma:=by
 unfold ap
 split
 ·split
  ·rename_i h0;unfold cU
   split
   ·exact ha h0
   ·exact CJ 0
  ·exact CJ 0
 ·exact CJ 0
theorem wP{x:RV}(hx:0≤x.ma)(now:Int):0≤(en9 x now).1.ma:=by
 unfold en9
 split
 ·refine iC hx (fun _=>?_);unfold coA ik;repeat' (first|exact hx|split)
 ·refine iC hx (fun _=>?_);unfold abA;repeat' (first|exact hx|split)
theorem i_{R:Int→Option RV}(h:∀z r,R z=some r→0≤r.ma)(now span:Int):∀c∈dg R now span,0≤c.r.ma:=by
 intro c hc;unfold dg at hc;obtain⟨x,hx,hl⟩:=CK.1 hc;unfold aO at hx;obtain⟨i,_,hi⟩:=CK.1 hx;have hm:=h _ _ hi;unfold eB at hl
 split at hl
 ·injection hl with hl;rw[←hl];show 0≤(lt9 x now span).1.ma;unfold lt9
  split
  ·exact wP hm now
  ·exact hm
 ·cases hl
theorem KOk.exp{j:Nat}{x:KV}(h:KOk j x):KOk j (cW x):=KOk.exps _ h (i_ h.ma _ _)
section
variable {w w' : World} {lab : Nat → Nat} {n p : Nat} {s : SV}
theorem iD(h:dY w lab n p s)(hq:s.q.length≤64)(A:Option Addr)(m c:Nat)(b:List UInt8)(S:Nat→Prop)(hm:m=b.length)(hr:Rds w S A m (bcs b))(hz:A=none→c=0)(hm2:m≤9223372036854775807):
  Calls Tryz.prog 127 #[.pointer (some ⟨p,0,none⟩),.slice A m c] w fun e w'=>e=.returned (U Z (db s b))∧∃lab',dY w' lab' n p (bL s b)∧am (fun k=>k=n) lab lab' w w'∧ev lab' w':=by
 obtain⟨o,G,hs,h1,h2,h3⟩:=h;refine(rV p o G s A m c b S w hs hq hm hr hz hm2).mono ?_;rintro e w' ⟨he,hsm⟩;exact⟨he,wO hs h1 h2 h3 hsm⟩
theorem kS(h:dY w lab n p s):Calls Tryz.prog 158 #[.pointer (some ⟨p,0,none⟩)] w fun e w'=>e=.returned (U Z s.pe)∧w=w':=by
 obtain⟨o,G,hs,_⟩:=h;exact rR p o G s w hs
theorem sJ(h:dY w lab n p s):Calls Tryz.prog 124 #[.pointer (some ⟨p,0,none⟩)] w fun e w'=>e=.returned (U Z (s.q.length:Int))∧w=w':=by
 obtain⟨o,G,hs,_⟩:=h;exact mV p o G s w hs
end
theorem KP.ofq17{N:Nat→Prop}{lab lab1:Nat→Nat}{w w1:World}{c ps ps' pj pf:Nat}{P:Nat→Nat}{x y:KV}(h:KP w lab c ps pj pf P x)(q:KQ w1 lab1 c ps' pj pf (ql P) y)(m:am N lab lab1 w w1)(hN:∀i,¬N (5+i))(h30:¬N 30)(hs:y.S=x.S):KP w1 lab1 c ps' pj pf P y:=
 ⟨q,fun i hi=>by rw[hs];exact(h.ln i hi).mv m (hN i) h30⟩
theorem j7(x:KV)(r:aI):(aH x r).S=x.S:=by unfold aH;split<;>rfl
theorem wQ(x:KV)(r:aI):(aM x r).S=x.S:=by unfold aM;split<;>rfl
end Go.Proofs.YtnojmbejedlilaaGreat
