/-
  A controller and its file, plain: a record's bytes, there and back; what an act leaves of the file, of the rows, of the boot. No condition.
-/
import Derived.Test.YtnojmbejedlilaaGreatKQCv
set_option linter.unusedVariables false
set_option linter.unusedSimpArgs false
namespace Go.Proofs.YtnojmbejedlilaaGreat
open _root_.List renaming nodup_cons→CO,countP_cons→CP,nodup_range→Bx
open _root_.Int renaming le_refl→CJ,le_trans→CQ
open Go.Value renaming int→U
open Go.IntKind renaming i64→Z
open Go.RowKit
theorem qI{r:RV}(h:r.ok=true)(hm:0≤r.ma):b_ (ci r)=(av r,true):=by
 obtain⟨po,ma,ow,ta,ol,ge,ph,ve,si⟩:=r
 have h1:MV.ok ⟨1,po,ma,ow,ta,ol,ge,ph,ve,si,0,0,[]⟩=true:=by
  have:rwR po ma ow ta ol ge ph ve si=true:=h;simp[MV.ok,msR,this]
 have hb:=(RV.bd h).2.2.1;have h2:MV.nm ⟨1,po,ma,ow,ta,ol,ge,ph,ve,si,0,0,[]⟩:=⟨⟨hm,by have h3:ma≤281474976710655:=hb;show ma≤18446744073709551615;omega⟩,fun x hx=>by cases hx⟩;obtain⟨e1,e2⟩:=uG h1 h2;have e3:cX (ci ⟨po,ma,ow,ta,ol,ge,ph,ve,si⟩)=0:=so e1;have e4:cM (ci ⟨po,ma,ow,ta,ol,ge,ph,ve,si⟩)=⟨1,po,ma,ow,ta,ol,ge,ph,ve,si,0,0,[]⟩:=(sl e1).trans e2;unfold b_;rw[if_pos e3,e4];rfl
theorem kU{k:Int}{n:Nat}{z:Int}(hk:k=4∨k=5∨k=6)(hn:1≤n∧n≤7)(h:0≤z)(h2:z<256^n):cX (be 1 k.toNat++be n z.toNat)≠0∧eC (be 1 k.toNat++be n z.toNat)=k∧gv n (eq (be 1 k.toNat++be n z.toNat))=z∧gn n (eq (be 1 k.toNat++be n z.toNat))=some []:=by
 obtain⟨e1,e2⟩:=cD (k:=1) (x:=k) (be n z.toNat) (by decide) (by decide) (by omega) (by omega);obtain⟨e3,e4⟩:=cD (k:=n) (x:=z) [] hn.1 hn.2 h h2;rw[List.append_nil]at e3 e4;have e5:cK (be 1 k.toNat++be n z.toNat)=k:=e1;refine⟨?_,e1,?_,?_⟩
 ·rw[vk (qf (by omega) (by omega) (by omega))];decide
 ·show gv n (gn 1 _)=z;rw[e2];exact e3
 ·show gn n (gn 1 _)=_;rw[e2];exact e4
theorem ya {r : aI} (h : r.ok) : ∃ u, b_ r.bs = (u, true) ∧ ∀ t, bU t u = bU t r ∧ aA t u = aA t r := by
  obtain ⟨k, x, z, n⟩ := r
  rcases h with ⟨e, h1, h2⟩ | ⟨e, h1, h2⟩ | ⟨e, h1, h2⟩
  · replace e : k = 1 := e
    subst e
    exact ⟨av x, qI h1 h2, fun t => ⟨rfl, rfl⟩⟩
  · replace e : k = 6 := e
    subst e
    replace h1 : 0 ≤ n := h1
    replace h2 : n ≤ 4294967296 := h2
    obtain ⟨a1, a2, a3, a4⟩ := kU (k := 6) (n := 5) (z := n) (by omega) (by decide) h1 (by omega)
    refine ⟨⟨6, z9, 0, n⟩, ?_, fun t => ⟨rfl, rfl⟩⟩
    show b_ (be 1 (6 : Int).toNat ++ be 5 n.toNat) = _
    unfold b_
    rw [if_neg a1, a2, if_neg (by decide), if_pos rfl, a3, a4]
    rfl
  · replace e : k = 4 ∨ k = 5 := e
    replace h1 : 0 ≤ z := h1
    replace h2 : z ≤ 15 := h2
    obtain ⟨a1, a2, a3, a4⟩ := kU (k := k) (n := 1) (z := z) (by omega) (by decide) h1 (by omega)
    refine ⟨⟨k, z9, z, 0⟩, ?_, fun t => ?_⟩
    · have hb : aI.bs ⟨k, x, z, n⟩ = be 1 k.toNat ++ be 1 z.toNat := by
        unfold aI.bs eo
        simp only
        rw [if_neg (by omega), if_neg (by omega)]
      rw [hb]
      unfold b_
      rw [if_neg a1, a2, if_pos e, a3, a4]
      rfl
    · rcases e with rfl | rfl <;> exact ⟨rfl, rfl⟩
theorem ke{r:aI}(h:r.ok):1≤r.bs.length∧r.bs.length≤29:=by
 obtain⟨k,x,z,n⟩:=r;unfold aI.bs eo ci msB cC;simp only;rcases h with⟨e,-,-⟩|⟨e,-,-⟩|⟨e,-,-⟩
 ·replace e:k=1:=e;subst e;simp[bM]
 ·replace e:k=6:=e;subst e;simp[bM]
 ·replace e:k=4∨k=5:=e;rcases e with rfl|rfl<;>simp[bM]
theorem l6{t:ba}{r:aI}(h:r.ok)(h0:bU t r=0):bZ t r.bs=false∧bf t r.bs=aA t r:=by
 obtain⟨u,hu,hs⟩:=ya h;unfold bZ bf;rw[hu,(hs t).1,(hs t).2,h0];exact⟨rfl,rfl⟩
theorem iG:∀(l:List (List UInt8)) {t u:ba} {b:List UInt8},bg t l=(false,u)→bZ u b=false→bg t (l++[b])=(false,bf u b)
 |[],t,u,b,h,hb=>by
  rw[je]at h;injection h with h1 h2;subst h2;rw[List.nil_append,eH _ hb,je]
 |a::l,t,u,b,h,hb=>by
  cases hf:bZ t a with
  |true=>
   rw[fu _ hf]at h;injection h with h1 h2;cases h1
  |false=>
   rw[eH _ hf]at h;rw[List.cons_append,eH _ hf];exact iG l h hb
def iH(x:KV):Prop:=∃ls,x.bs=an ls∧(∀b∈ls,Bok b)∧bg ts0 ls=(false,x.t)∧x.sf=x.bs.length
def bV(x:Option RV):Bool:=match x with
 |none=>false
 |some r=>r.ph==1||r.ph==2
def du(R:Int→Option RV):Nat:=(List.range 32).countP (fun i:Nat=>bV (R (i:Int)))
theorem nl(l:List Nat)(p q:Nat→Bool)(n:Nat)(h:∀i,i≠n→q i=p i)(hn:n∉l):l.countP q=l.countP p:=
 List.countP_congr (fun i hi=>by rw[h i (fun e=>hn (e▸hi))])
theorem yc(l:List Nat)(p q:Nat→Bool)(n:Nat)(h:∀i,i≠n→q i=p i)(hd:l.Nodup):l.countP q≤l.countP p+1:=by
 induction l with
 |nil=>simp
 |cons a l ih=>
  rw[CO]at hd;rw[CP,CP];by_cases e:a=n
  ·have:=nl l p q n h (by rw[←e];exact hd.1)
   split<;>split<;>omega
  ·have:=ih hd.2;rw[h a e];omega
theorem uU (l : List Nat) (p q : Nat → Bool) (n : Nat) (h : ∀ i, i ≠ n → q i = p i) (hd : l.Nodup) (hn : n ∈ l) (h1 : p n = true) (h2 : q n = false) : l.countP q + 1 = l.countP p := by
  induction l with
  | nil => cases hn
  | cons a l ih =>
    rw [CO] at hd
    rw [CP, CP]
    by_cases e : a = n
    · have := nl l p q n h (by rw [← e]; exact hd.1)
      rw [e, h1, h2, this]
      simp
    · have := ih hd.2 (by rcases List.mem_cons.1 hn with hn | hn
                          · exact absurd hn.symm e
                          · exact hn)
      rw [h a e]
      omega
theorem np{R:Int→Option RV}{x:RV}(h:0≤x.po)(i:Nat)(hi:i≠x.po.toNat):bV (cm R x (i:Int))=bV (R (i:Int)):=by
 unfold cm;rw[if_neg (by omega)]
theorem o9(R:Int→Option RV)(x:RV)(h:0≤x.po):du (cm R x)≤du R+1:=
 yc _ (fun i:Nat=>bV (R (i:Int))) (fun i:Nat=>bV (cm R x (i:Int))) x.po.toNat (fun i hi=>np h i hi) Bx
theorem uV{R:Int→Option RV}{x:RV}(h:0≤x.po∧x.po≤31)(h1:bV (R x.po)=true)(h2:bV (some x)=false):du (cm R x)+1=du R:=by
 have e:((x.po.toNat:Nat):Int)=x.po:=by omega
 refine uU _ (fun i:Nat=>bV (R (i:Int))) (fun i:Nat=>bV (cm R x (i:Int))) x.po.toNat (fun i hi=>np h.1 i hi) Bx (List.mem_range.2 (by omega)) ?_ ?_
 ·simp only[e];exact h1
 ·simp only[e];unfold cm;rw[if_pos rfl];exact h2
def eD(x:KV):Nat:=x.bs.length+35*du x.t.R
def dA(x y:RV):Prop:=x.ge<y.ge∨(x.ge=y.ge∧(y.ow=x.ow∨y.ow= -1))
def cF(t u:ba):Prop:=t.bt≤u.bt∧∀z x,t.R z=some x→∃y,u.R z=some y∧x.ve≤y.ve∧dA x y
theorem dA.refl(x:RV):dA x x:=.inr ⟨rfl,.inl rfl⟩
theorem dA.trans{x y z:RV}(h:dA x y)(g:dA y z):dA x z:=by
 rcases h with h|⟨h1,h2⟩
 ·rcases g with g|⟨g1,g2⟩
  ·exact .inl (by omega)
  ·exact .inl (by omega)
 ·rcases g with g|⟨g1,g2⟩
  ·exact .inl (by omega)
  ·exact .inr ⟨by omega,by omega⟩
theorem dA.le{x y:RV}(h:dA x y):x.ge≤y.ge:=by
 rcases h with h|h
 ·omega
 ·omega
theorem cF.refl(t:ba):cF t t:=⟨CJ _,fun z x hx=>⟨x,hx,CJ _,.refl x⟩⟩
theorem cF.trans{t u v:ba}(h:cF t u)(g:cF u v):cF t v:=⟨CQ h.1 g.1,fun z x hx=>by
 obtain⟨y,hy,h1,h2⟩:=h.2 z x hx;obtain⟨r,hr,g1,g2⟩:=g.2 z y hy
 exact⟨r,hr,CQ h1 g1,h2.trans g2⟩⟩
def fl(R:Int→Option RV)(r:RV):Prop:=∀u,R r.po=some u→dA u r
theorem nq{t:ba}{r:RV}(h:bU t (av r)=0)(hn:fl t.R r):cF t (aA t (av r)):=by
 have h1:aC t.C t.R ⟨r,cH t.R r.po⟩=0:=h;obtain⟨_,h2,_,h4,_⟩:=dG h1
 have e:aA t (av r)={t with R:=cm t.R r}:=by
  show ({t with R:=doR t.C t.R ⟨r,cH t.R r.po⟩}:ba)=_;simp only[doR,h1,if_true]
 rw[e];refine⟨CJ _,fun z x hx=>?_⟩;show∃y,cm t.R r z=some y∧_;unfold cm;by_cases ez:z=r.po
 ·subst ez;refine⟨r,if_pos rfl,?_,hn x hx⟩;unfold cH at h2;rw[hx]at h2;simp only[Option.getD_some]at h2;omega
 ·exact⟨x,by rw[if_neg ez];exact hx,CJ _,.refl x⟩
structure bv(n:Nat)(x y:KV):Prop where
 f:iH x→iH y
 p:eD y≤eD x+35*n
 r:y.rm=x.rm
 s:y.st=x.st
 b:y.t.bt=x.t.bt
 t:cF x.t y.t
theorem bv.trans{n m:Nat}{x y z:KV}(h:bv n x y)(g:bv m y z):bv (n+m) x z:=⟨fun e=>g.f (h.f e),by have h1:=h.p;have h2:=g.p;omega,g.r.trans h.r,g.s.trans h.s,g.b.trans h.b,h.t.trans g.t⟩
theorem bv.le{n m:Nat}{x y:KV}(h:bv n x y)(hm:n≤m):bv m x y:=⟨h.f,by have:=h.p;omega,h.r,h.s,h.b,h.t⟩
theorem bv.same{x y:KV}(h1:y.t=x.t)(h2:y.bs=x.bs)(h3:y.sf=x.sf)(h4:y.rm=x.rm)(h5:y.st=x.st):bv 0 x y:=by
 refine⟨?_,?_,h4,h5,by rw[h1],by rw[h1];exact cF.refl _⟩
 ·rintro⟨ls,a,b,c,d⟩;exact⟨ls,by rw[h2];exact a,b,by rw[h1];exact c,by rw[h2,h3];exact d⟩
 ·unfold eD;rw[h1,h2];omega
theorem bv.refl(x:KV):bv 0 x x:=.same rfl rfl rfl rfl rfl
theorem iI{rm:Nat}{bs b:List UInt8}(h:fz rm bs b=0):Bok b∧cJ rm bs b=bs++jrB b:=by
 unfold fz at h
 split at h
 ·cases h
 ·rename_i hb;unfold ll at h
  split at h
  ·cases h
  ·rename_i h2;refine⟨⟨by omega,by omega⟩,?_⟩;unfold cJ iW;rw[if_neg hb,if_neg h2]
theorem dk{x:KV}{r:aI}(h:ao x r=0):bU x.t r=0∧fz x.rm x.bs r.bs=0:=by
 unfold ao at h
 split at h
 ·rename_i e;exact⟨e,h⟩
 ·rename_i e;exact absurd h e
theorem jg{x:KV}{r:aI}(h:iH x)(hr:r.ok)(h0:ao x r=0):iH {x with t:=aA x.t r,bs:=cJ x.rm x.bs r.bs,sf:=(cJ x.rm x.bs r.bs).length}:=by
 obtain⟨ls,a,b,c,d⟩:=h;obtain⟨e1,e2⟩:=dk h0;obtain⟨e3,e4⟩:=iI e2;obtain⟨e5,e6⟩:=l6 hr e1;refine⟨ls++[r.bs],?_,?_,?_,rfl⟩
 ·show cJ x.rm x.bs r.bs=_;rw[e4,a,gI]
 ·intro y hy;rcases List.mem_append.1 hy with hy|hy
  ·exact b y hy
  ·rw[List.mem_singleton]at hy;rw[hy];exact e3
 ·show _=(false,aA x.t r);rw[←e6];exact iG ls c e5
theorem fT{x:KV}{r:aI}(hr:r.ok)(h0:ao x r=0):(cJ x.rm x.bs r.bs).length≤x.bs.length+35:=by
 obtain⟨e1,e2⟩:=dk h0;obtain⟨e3,e4⟩:=iI e2;have:=ke hr;rw[e4,List.length_append,bO];omega
theorem kf{x:KV}{j:Nat}(ho:KOk j x){r:RV}(hma:0≤r.ma)(hn:fl x.t.R r):bv 2 x (aH x (av r)):=by
 by_cases h0:ao x (av r)=0
 ·obtain⟨e1,e2⟩:=dk h0;have hok:=dO (r:=av r) ho.wf (.inl rfl) (fun _=>hma) e1;rw[(cp h0).1];have hs:=nq e1 hn;refine⟨fun hf=>jg hf hok h0,?_,rfl,rfl,rfl,hs⟩;have h1:aC x.t.C x.t.R ⟨r,cH x.t.R r.po⟩=0:=e1;have hl:=fT hok h0;have hpo:=(RV.bd (dG h1).1).1;have hp:=o9 x.t.R r hpo.1;unfold eD;show (cJ x.rm x.bs (av r).bs).length+35*du (doR x.t.C x.t.R ⟨r,cH x.t.R r.po⟩)≤_;simp only[doR,h1,if_true];omega
 ·rw[(fN h0).1];exact(bv.refl x).le (by omega)
theorem jK(x:KV)(r:RV):bv 0 x (fk x r):=.same rfl rfl rfl rfl rfl
theorem nr{x:KV}{j:Nat}(ho:KOk j x){r:RV}(hma:0≤r.ma)(hn:fl x.t.R r):bv 2 x (bj x r):=by
 unfold bj
 split
 ·exact(kf ho hma hn).trans (jK _ r)
 ·exact(bv.refl x).le (by omega)
theorem sO{x:KV}{j:Nat}(ho:KOk j x){r:RV}(hma:0≤r.ma)(hn:fl x.t.R r)(h1:bV (x.t.R r.po)=true)(h2:bV (some r)=false):bv 0 x (bj x r)∧∀z,z≠r.po→(bj x r).t.R z=x.t.R z:=by
 unfold bj
 split
 ·rename_i h0;have h0:ao x (av r)=0:=h0;have hg:=kf ho hma hn;obtain⟨e1,e2⟩:=dk h0;have hok:=dO (r:=av r) ho.wf (.inl rfl) (fun _=>hma) e1;have hw:aC x.t.C x.t.R ⟨r,cH x.t.R r.po⟩=0:=e1;have hl:=fT hok h0;have hpo:=(RV.bd (dG hw).1).1;have hp:=uV (x:=r) hpo h1 h2;rw[(cp h0).1]at hg⊢
  have hR:aA x.t (av r)={x.t with R:=cm x.t.R r}:=by
   show ({x.t with R:=doR x.t.C x.t.R ⟨r,cH x.t.R r.po⟩}:ba)=_;simp only[doR,hw,if_true]
  refine⟨?_,fun z hz=>?_⟩
  ·refine(bv.mk hg.f ?_ hg.r hg.s hg.b hg.t:bv 0 x _).trans (jK _ r);unfold eD;show (cJ x.rm x.bs (av r).bs).length+35*du (aA x.t (av r)).R≤_;rw[hR];simp only;omega
  ·show (aA x.t (av r)).R z=_;rw[hR];exact if_neg hz
 ·exact⟨bv.refl x,fun z hz=>rfl⟩
end Go.Proofs.YtnojmbejedlilaaGreat
