/-
  A controller that is new, and its file: what each call asks and leaves; what acts make of it, plain. Conditions: it lies in memory.
-/
import Derived.Test.YtnojmbejedlilaaGreatKQCz
import Derived.Test.YtnojmbejedlilaaGreatKQCp
import Derived.Test.YtnojmbejedlilaaGreatKQCs
set_option linter.unusedVariables false
set_option linter.unusedSimpArgs false
namespace Go.Proofs.YtnojmbejedlilaaGreat
open Go.Value renaming int→U
open Go.IntKind renaming i64→Z
open Go.RowKit
section
variable {G : Nat → Prop} {W w : World} {c pf : Nat} {x : KV} {j : Nat}
def mu(G:Nat→Prop)(W:World)(c pf:Nat)(er:Int)(y:KV)(e:Ending)(w':World):Prop:=e=.returned (U Z er)∧bu G W w' c pf y
theorem lE(hG:∀k,G k→k<W.heap.size)(h:bu G W w c pf x)(ho:KOk j x)(op po ch ma:Int)(hma:0≤ma):Calls Tryz.prog 23 #[.pointer (some ⟨c,0,none⟩),.agg #[U Z op,U Z po,U Z ch,U .u64 ma]] w fun e w'=>e=.returned (.tuple #[.agg (aP x op po ch ma).1.cs,U Z (aP x op po ch ma).2.1])∧bu G W w' c pf (aP x op po ch ma).2.2:=by
 obtain⟨lab,ps,pj,P,h1,h2,h3⟩:=h;refine(uP h1 ho op po ch ma hma).mono ?_;rintro e w' ⟨ps',lab',rfl,hk,hm⟩;exact⟨rfl,fv hG h2 h3 hk hm⟩
theorem l9(hG:∀k,G k→k<W.heap.size)(h:bu G W w c pf x)(ho:KOk j x)(hj:j≤100000)(ch:Int)(A:Option Addr)(n bc:Nat)(b:List UInt8)(hb:iJ w A n bc b):Calls Tryz.prog 31 #[.pointer (some ⟨c,0,none⟩),U Z ch,.slice A n bc] w fun e w'=>(∃(A:Option Addr) (rc:Nat),e=.returned (.tuple #[.agg (msC (au x ch b).1.kd (au x ch b).1.po (au x ch b).1.ma (au x ch b).1.ow (au x ch b).1.ta (au x ch b).1.ol (au x ch b).1.ge (au x ch b).1.ph (au x ch b).1.ve (au x ch b).1.si (au x ch b).1.pt (au x ch b).1.vr A (au x ch b).1.l.length rc),U Z (au x ch b).2.1]))∧bu G W w' c pf (au x ch b).2.2:=by
 obtain⟨lab,ps,pj,P,h1,h2,h3⟩:=h;refine(qG h1 ho hj ch A n bc b _ hb.2.1 hb.2.2.2 hb.1 hb.2.2.1).mono ?_;rintro e w' ⟨ps',lab',A',rc,rfl,hr,hk,hm⟩;exact⟨⟨A',rc,rfl⟩,fv hG h2 h3 hk hm⟩
theorem l_(hG:∀k,G k→k<W.heap.size)(h:bu G W w c pf x)(ho:KOk j x)(now:Int):Calls Tryz.prog 33 #[.pointer (some ⟨c,0,none⟩),U Z now] w (mu G W c pf (bG x now).1 (bG x now).2):=by
 obtain⟨lab,ps,pj,P,h1,h2,h3⟩:=h;refine(qC h1 ho now).mono ?_;rintro e w' ⟨ps',lab',rfl,hk,hm⟩;exact⟨rfl,fv hG h2 h3 hk hm⟩
theorem jk(hG:∀k,G k→k<W.heap.size)(h:bu G W w c pf x)(ho:KOk j x)(op po ch ma:Int)(hma:0≤ma):Calls Tryz.prog 24 #[.pointer (some ⟨c,0,none⟩),.agg #[U Z op,U Z po,U Z ch,U .u64 ma]] w (mu G W c pf (aB x op po ch ma).1 (aB x op po ch ma).2):=by
 obtain⟨lab,ps,pj,P,h1,h2,h3⟩:=h;refine(qO h1 ho op po ch ma hma).mono ?_;rintro e w' ⟨ps',lab',rfl,hk,hm⟩;exact⟨rfl,fv hG h2 h3 hk hm⟩
def yX(l:List RV)(w:World)(e:Ending)(w':World):Prop:=∃A n d,e=.returned (.slice A n d)∧n=l.length∧SR 9 RV.cs w' (fun k=>w.heap.size≤k∧k<w'.heap.size) A n l∧Chg (fun _=>False) w w'
theorem gT(h:bu G W w c pf x):Calls Tryz.prog 21 #[.pointer (some ⟨c,0,none⟩)] w (yX (aO x.t.R) w):=by
 obtain⟨lab,ps,pj,P,h1,h2,h3⟩:=h;refine(n_ h1).mono ?_;rintro e w' ⟨A,n,d,rfl,hn,ho,hc⟩;exact⟨A,n,d,rfl,hn,ft ga ho hn,hc⟩
theorem fw(h:bu G W w c pf x):Calls Tryz.prog 22 #[.pointer (some ⟨c,0,none⟩)] w (lh (bw x.t.C) w):=by
 obtain⟨lab,ps,pj,P,h1,h2,h3⟩:=h;exact oa h1
theorem s_(h:bu G W w c pf x):Calls Tryz.prog 28 #[.pointer (some ⟨c,0,none⟩)] w fun e w'=>e=.returned (U Z x.t.bt)∧w=w':=by
 obtain⟨lab,ps,pj,P,h1,h2,h3⟩:=h;exact ob h1
theorem fU(hG:∀k,G k→k<W.heap.size)(h:bu G W w c pf x)(ho:KOk j x)(keep:Int):Calls Tryz.prog 25 #[.pointer (some ⟨pf,0,none⟩),U Z keep] w fun e w'=>(∃n:Int,e=.returned (U Z n))∧eX G W pf (dQ x keep) (crN x.bs x.sf keep) x.rm w':=by
 obtain⟨h1,h2,o,h3,h4⟩:=h.file;refine(pS pf o x.bs x.sf x.rm keep w h3 ho.sf ho.b ho.m).mono ?_;rintro e w' ⟨rfl,hf,hm⟩;exact⟨⟨_,rfl⟩,ni hG h1 h2 h4 hf hm⟩
theorem nv(ho:KOk j x)(keep:Int):crN x.bs x.sf keep=(dQ x keep).length∧(dQ x keep).length≤x.rm:=by
 have h1:=ho.sf;have h2:=ho.b
 have h3:crN x.bs x.sf keep≤x.bs.length:=by unfold crN;omega
 unfold dQ;rw[List.length_take];omega
theorem gU(hG:∀k,G k→k<W.heap.size){y:KV}{keep:Int}(h:eX G W pf (dQ y keep) (crN y.bs y.sf keep) y.rm w)(ho:KOk j y){sp no:Int}(he:gS y keep sp no=0):Calls Tryz.prog 18 #[.pointer (some ⟨pf,0,none⟩),U Z sp,U Z no] w fun e w'=>∃c,e=.returned (.tuple #[.pointer (some ⟨c,0,none⟩),U Z 0])∧bu G W w' c pf (bQ y keep sp no):=by
 have hl:=nv ho keep;refine(fS G W hG pf _ _ y.rm sp no w h hl.2 ho.m (by omega)).mono ?_;rintro e w' ⟨pv,rfl,h1,h2⟩;have he2:ck (dQ y keep) (crN y.bs y.sf keep) y.rm sp no=0:=he;obtain⟨c,rfl,g1,g2⟩:=h1 he2;exact⟨c,by rw[he2],g1⟩
end
def iK(no:Int)(a:bR):Int:=max no (min a.now 1099511627776)
def cj(sp:Int)(p:KV×Int)(a:bR):KV×Int:=
 if a.k%16<7 then((aP p.1 a.op a.po a.ch a.ma).2.2,p.2)else if a.k%16<13 then((au p.1 a.who a.b).2.2,p.2)
 else if a.k%16=13 then((bG p.1 (iK p.2 a)).2,iK p.2 a)
 else if a.k%16=14 then(bQ (aB p.1 a.op a.po a.ch a.ma).2 a.keep sp p.2,p.2)else(bQ p.1 0 sp p.2,p.2)
theorem nw{n:Nat}{sp:Int}{p:KV×Int}(h:cQ n n p.1)(hn:n≤1000)(hsp:1≤sp∧sp≤2147483648)(hno:0≤p.2∧p.2≤1099511627776)(a:bR)(hma:0≤a.ma):cQ (n+3) (n+3) (cj sp p a).1∧(0≤(cj sp p a).2∧(cj sp p a).2≤1099511627776)∧cF p.1.t (cj sp p a).1.t:=by
 have up:∀{m:Nat} {y:KV},cQ m m y→m≤n+3→cQ (n+3) (n+3) y:=fun g e=>⟨g.ok.le e,g.fi,g.rm,g.st,by have:=g.pot;omega,by have:=g.bt;omega⟩;have up0:∀{m:Nat} {y:KV},cQ 0 m y→m≤n+3→cQ (n+3) (n+3) y:=fun g e=>⟨g.ok.le (by omega),g.fi,g.rm,g.st,by have:=g.pot;omega,by have:=g.bt;omega⟩;have step:∀{m j':Nat} {y:KV},bv m p.1 y→m≤2→KOk j' y→j'≤n+3→cQ (n+3) (n+3) y:=fun g e ho hj=>⟨ho.le hj,g.f h.fi,g.r.trans h.rm,g.s.trans h.st,by have h1:=h.pot;have h2:=g.p;omega,by have h1:=h.bt;have h2:=g.b;omega⟩;unfold cj;by_cases h1:a.k%16<7
 ·rw[if_pos h1];have g:=wW h.ok a.op a.po a.ch hma;exact⟨step g (by omega) (h.ok.do_ a.op a.po a.ch hma) (by omega),hno,g.t⟩
 ·rw[if_neg h1];by_cases h2:a.k%16<13
  ·rw[if_pos h2];have g:=sV h.ok a.who a.b;exact⟨step g (by omega) (h.ok.take a.who a.b) (by omega),hno,g.t⟩
  ·rw[if_neg h2];by_cases h3:a.k%16=13
   ·rw[if_pos h3];have g:=sU h.ok (iK p.2 a);exact⟨step g (by omega) (h.ok.tick _) (by omega),by show 0≤iK p.2 a∧iK p.2 a≤1099511627776;unfold iK;omega,g.t⟩
   ·rw[if_neg h3];by_cases h4:a.k%16=14
    ·rw[if_pos h4];obtain⟨a1,a2,a3,a4⟩:=jj h hn a.op a.po a.ch hma a.keep hsp hno;exact⟨up0 a2 (by omega),hno,a3⟩
    ·rw[if_neg h4];obtain⟨a1,a2,a3,a4⟩:=ji h hn 0 hsp hno;exact⟨up0 a2 (by omega),hno,a3⟩
end Go.Proofs.YtnojmbejedlilaaGreat
