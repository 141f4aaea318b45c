/-
  What each call of a controller leaves of its file and of its rows, plain. No condition.
-/
import Derived.Test.YtnojmbejedlilaaGreatKQCw
set_option linter.unusedVariables false
set_option linter.unusedSimpArgs false
namespace Go.Proofs.YtnojmbejedlilaaGreat
open Go.Value renaming int→U
open Go.IntKind renaming i64→Z
open Go.RowKit
theorem dt{x:RV}{now:Int}{may:Bool}{a:RV×Int}(ha:a.2=0→a.1.po=x.po∧dA x a.1)(h:(ap x now may a).2=0):(ap x now may a).1.po=x.po∧dA x (ap x now may a).1∧a.2=0∧(ap x now may a).1.ph=a.1.ph:=by
 unfold ap at h⊢;by_cases hc:may=true∧tm9 now=true∧x.ok=true
 ·rw[if_pos hc]at h⊢;by_cases h0:a.2=0
  ·rw[if_pos h0]at h⊢;unfold cU at h⊢;by_cases hk:RV.ok {a.1 with ve:=x.ve+1,si:=now}=true
   ·rw[if_pos hk];exact⟨(ha h0).1,(ha h0).2,h0,rfl⟩
   ·rw[if_neg hk]at h;cases h
  ·rw[if_neg h0]at h;exact absurd h h0
 ·rw[if_neg hc]at h;cases h
theorem wT{x:RV}{ma ow:Int}(h:(agA x ma ow).2=0):(agA x ma ow).1.po=x.po∧dA x (agA x ma ow).1:=by
 unfold agA at h⊢;by_cases h1:x.ph=3
 ·rw[if_pos h1]at h⊢;by_cases h2:gd x=true
  ·rw[if_pos h2]at h;cases h
  ·rw[if_neg h2];exact⟨rfl,.inl (by show x.ge<x.ge+1;omega)⟩
 ·rw[if_neg h1]at h;cases h
theorem uW{x:RV}{c:Int}(h:(eu x c).2=0):(eu x c).1.po=x.po∧dA x (eu x c).1:=by
 unfold eu at h⊢;by_cases h1:x.ph=0
 ·rw[if_pos h1]at h⊢;by_cases h3:c=x.ow
  ·rw[if_pos h3]at h;cases h
  ·rw[if_neg h3]at h⊢;by_cases h2:gd x=true
   ·rw[if_pos h2]at h;cases h
   ·rw[if_neg h2];exact⟨rfl,.inr ⟨rfl,.inl rfl⟩⟩
 ·rw[if_neg h1]at h;cases h
theorem ns(x:RV):(ik x).po=x.po∧dA x (ik x):=⟨rfl,.inl (by show x.ge<x.ge+1;omega)⟩
theorem wU{x:RV}{c ve:Int}(h:(awA x c ve).2=0):(awA x c ve).1.po=x.po∧dA x (awA x c ve).1:=by
 unfold awA at h⊢;by_cases h1:x.ph=1
 ·rw[if_pos h1]at h⊢;by_cases h2:ve=x.ve
  ·rw[if_pos h2]at h⊢;by_cases h3:c=x.ta
   ·rw[if_pos h3];exact ns x
   ·rw[if_neg h3]at h;cases h
  ·rw[if_neg h2]at h;cases h
 ·rw[if_neg h1]at h;cases h
theorem lC{x:RV}(h:(coA x).2=0):(coA x).1.po=x.po∧dA x (coA x).1:=by
 unfold coA at h⊢;by_cases h1:x.ph=1
 ·rw[if_pos h1];exact ns x
 ·rw[if_neg h1]at h⊢;by_cases h2:x.ph=2
  ·rw[if_pos h2];exact⟨rfl,.inr ⟨rfl,.inl rfl⟩⟩
  ·rw[if_neg h2]at h;cases h
theorem lD{x:RV}(h:(abA x).2=0):(abA x).1.po=x.po∧dA x (abA x).1:=by
 unfold abA at h⊢;by_cases h1:x.ph=1
 ·rw[if_pos h1];exact⟨rfl,.inr ⟨rfl,.inl rfl⟩⟩
 ·rw[if_neg h1]at h;cases h
theorem wV{x:RV}(h:(drA x).2=0):(drA x).1.po=x.po∧dA x (drA x).1:=by
 unfold drA at h⊢;by_cases h1:x.ph=0
 ·rw[if_pos h1];exact⟨rfl,.inr ⟨rfl,.inr rfl⟩⟩
 ·rw[if_neg h1]at h;cases h
theorem eM{C:Int→Bool}{R:Int→Option RV}(hw:WF C R){z:Int}{x y:RV}(hx:R z=some x)(h:y.po=x.po∧dA x y):fl R y:=by
 intro u hu;have e:=(hw.row z x hx).2.1;rw[h.1,e,hx]at hu;injection hu with hu;rw[←hu];exact h.2
theorem qJ{R:Int→Option RV}{po:Int}(h:cY R po=0):R po=some (bY R po):=by
 unfold cY at h;unfold bY
 cases hR:R po with
 |none=>rw[hR]at h;cases h
 |some r=>
  rw[hR]at h;simp only at h⊢;by_cases hp:r.ph=3
  ·rw[if_pos hp]at h;cases h
  ·rw[if_neg hp]
theorem sP{C:Int→Bool}{R:Int→Option RV}(hw:WF C R)(po c ma now:Int)(h:(cZ R po c ma now).2=0):fl R (cZ R po c ma now).1:=by
 unfold cZ at h⊢
 cases hR:R po with
 |none=>
  rw[hR]at h;simp only at h⊢;unfold iS cU at h⊢;by_cases hk:RV.ok ⟨po,ma,c,-1,-1,1,0,1,now⟩=true
  ·rw[if_pos hk];intro u hu;have hu:R po=some u:=hu;rw[hR]at hu;cases hu
  ·rw[if_neg hk]at h;cases h
 |some r=>
  rw[hR]at h;simp only at h⊢;by_cases hp:r.ph=3
  ·rw[if_pos hp]at h⊢;have:=dt (fun e=>wT e) h;exact eM hw hR ⟨this.1,this.2.1⟩
  ·rw[if_neg hp]at h;cases h
theorem sQ{C:Int→Bool}{R:Int→Option RV}(hw:WF C R)(op po c now:Int)(h:(bN R op po c now).2=0):fl R (bN R op po c now).1:=by
 unfold bN at h⊢;by_cases h0:cY R po=0
 ·have hR:=qJ h0;rw[if_pos h0]at h⊢;generalize bY R po=r at*;by_cases h3:op=3
  ·rw[if_pos h3]at h⊢;have:=dt (fun e=>wV e) h;exact eM hw hR ⟨this.1,this.2.1⟩
  ·rw[if_neg h3]at h⊢;by_cases h4:op=4
   ·rw[if_pos h4]at h⊢;have:=dt (fun e=>uW e) h;exact eM hw hR ⟨this.1,this.2.1⟩
   ·rw[if_neg h4]at h⊢;by_cases h5:op=5
    ·rw[if_pos h5]at h⊢;have:=dt (fun e=>lC e) h;exact eM hw hR ⟨this.1,this.2.1⟩
    ·rw[if_neg h5]at h⊢;have:=dt (fun e=>lD e) h;exact eM hw hR ⟨this.1,this.2.1⟩
 ·rw[if_neg h0]at h;exact absurd h h0
theorem jM{C:Int→Bool}{R:Int→Option RV}(hw:WF C R)(op po c ma now:Int)(h:(aD R op po c ma now).2=0):((aD R op po c ma now).1.k=0)∨(∃r,(aD R op po c ma now).1=av r∧fl R r)∨(∃z,(aD R op po c ma now).1=⟨4,z9,z,0⟩∨(aD R op po c ma now).1=⟨5,z9,z,0⟩):=by
 unfold aD at h⊢;by_cases h0:op=0
 ·rw[if_pos h0];exact .inr (.inr ⟨c,.inl rfl⟩)
 ·rw[if_neg h0]at h⊢;by_cases h1:op=1
  ·rw[if_pos h1];exact .inr (.inr ⟨c,.inr rfl⟩)
  ·rw[if_neg h1]at h⊢;by_cases h7:op=7
   ·rw[if_pos h7];exact .inl rfl
   ·rw[if_neg h7]at h⊢;by_cases h2:op=2
    ·rw[if_pos h2]at h⊢;exact .inr (.inl ⟨_,rfl,sP hw po c ma now h⟩)
    ·rw[if_neg h2]at h⊢;by_cases h3:op=3∨op=4∨op=5∨op=6
     ·rw[if_pos h3]at h⊢;exact .inr (.inl ⟨_,rfl,sQ hw op po c now h⟩)
     ·rw[if_neg h3]at h;cases h
theorem jh{x:KV}{j:Nat}(ho:KOk j x){r:aI}(hk:r.k=4∨r.k=5):bv 1 x (aH x r):=by
 by_cases h0:ao x r=0
 ·obtain⟨e1,e2⟩:=dk h0;have hok:=dO (r:=r) ho.wf (by omega) (fun e=>by omega) e1;have hl:=fT hok h0;rw[(cp h0).1]
  have hR:(aA x.t r).R=x.t.R∧(aA x.t r).bt=x.t.bt:=by
   unfold aA;rw[if_neg (by omega)];rcases hk with e|e
   ·rw[if_pos e];exact⟨rfl,rfl⟩
   ·rw[if_neg (by omega),if_pos e];exact⟨rfl,rfl⟩
  refine⟨fun hf=>jg hf hok h0,?_,rfl,rfl,hR.2,?_⟩
  ·unfold eD;show (cJ x.rm x.bs r.bs).length+35*du (aA x.t r).R≤_;rw[hR.1];omega
  ·show cF x.t (aA x.t r);unfold cF;rw[hR.1,hR.2];exact cF.refl x.t
 ·rw[(fN h0).1];exact(bv.refl x).le (by omega)
theorem wW{x:KV}{j:Nat}(ho:KOk j x)(op po c:Int){ma:Int}(hma:0≤ma):bv 2 x (aP x op po c ma).2.2:=by
 have h0:=(bv.refl x).le (show 0≤2 by omega);unfold aP kM
 split
 ·exact h0
 ·split
  ·rename_i he;have hm:=gA ho.ma op po c hma x.no;rcases jM ho.wf op po c ma x.no he with hk|⟨r,hr,hn⟩|⟨z,hr|hr⟩
   ·unfold cO;rw[if_neg (by omega),if_neg (by omega),if_neg (by omega)];exact h0
   ·rw[hr]at hm⊢;unfold cO;rw[if_pos (show (av r).k=1 from rfl)]
    split
    ·exact nr ho hm hn
    ·exact h0
   ·rw[hr];unfold cO;rw[if_neg (by show¬(4:Int)=1;decide),if_pos rfl]
    split
    ·refine((jh ho (r:=⟨4,z9,z,0⟩) (.inl rfl)).trans (.same (y:={aH x ⟨4,z9,z,0⟩with B:=aF x.B z.toNat true}) rfl rfl rfl rfl rfl)).le (by omega)
    ·exact h0
   ·rw[hr];unfold cO;rw[if_neg (by show¬(5:Int)=1;decide),if_neg (by show¬(5:Int)=4;decide),if_pos rfl]
    split
    ·exact(jh ho (r:=⟨5,z9,z,0⟩) (.inr rfl)).le (by omega)
    ·exact h0
  ·exact h0
theorem sR {C : Int → Bool} {R : Int → Option RV} (hw : WF C R) (now span : Int) {c : CV} (hc : c ∈ dg R now span) : fl R c.r ∧ bV (R c.r.po) = true ∧ bV (some c.r) = false := by
  unfold dg at hc
  obtain ⟨x, hx, hl⟩ := List.mem_filterMap.1 hc
  obtain ⟨z, hz⟩ := hw.mem.1 hx
  have hpo := (hw.row z x hz).2.1
  unfold eB at hl
  split at hl
  · rename_i ht
    injection hl with hl
    rw [← hl]
    show fl R (lt9 x now span).1 ∧ bV (R (lt9 x now span).1.po) = true ∧ bV (some (lt9 x now span).1) = false
    unfold lt9 at ht ⊢
    split at ht
    · rename_i hh
      rw [if_pos hh]
      show fl R (en9 x now).1 ∧ bV (R (en9 x now).1.po) = true ∧ bV (some (en9 x now).1) = false
      have he := hh.1
      unfold en9 at he ⊢
      by_cases h2 : x.ph = 2
      · rw [if_pos h2] at he ⊢
        obtain ⟨a1, a2, a3, a4⟩ := dt (fun e => lC e) he
        refine ⟨eM hw hz ⟨a1, a2⟩, ?_, ?_⟩
        · rw [show (co9 x now).1.po = x.po from a1, hpo, hz]
          simp [bV, h2]
        · have h0 : (co9 x now).1.ph = 0 := by
            rw [show (co9 x now).1.ph = (coA x).1.ph from a4]
            unfold coA
            rw [if_neg (by omega), if_pos h2]
          simp [bV, h0]
      · rw [if_neg h2] at he ⊢
        obtain ⟨a1, a2, a3, a4⟩ := dt (fun e => lD e) he
        have h1 : x.ph = 1 := by
          unfold abA at a3
          by_cases e : x.ph = 1
          · exact e
          · rw [if_neg e] at a3; cases a3
        refine ⟨eM hw hz ⟨a1, a2⟩, ?_, ?_⟩
        · rw [show (ab9 x now).1.po = x.po from a1, hpo, hz]
          simp [bV, h1]
        · have h0 : (ab9 x now).1.ph = 0 := by
            rw [show (ab9 x now).1.ph = (abA x).1.ph from a4]
            unfold abA
            rw [if_pos h1]
          simp [bV, h0]
    · cases ht
  · cases hl
theorem sS{C:Int→Bool}{R:Int→Option RV}(hw:WF C R)(now span:Int):(dg R now span).Pairwise (fun a b=>a.r.po≠b.r.po):=by
 unfold dg;rw[List.pairwise_filterMap];refine hw.pair.imp_of_mem ?_;intro a b ha hb hab c hc d hd
 have hp:∀(x:RV) (c:CV),x∈aO R→eB now span x=some c→c.r.po=x.po:=by
  intro x c hx hl;unfold eB at hl
  split at hl
  ·rename_i ht;injection hl with hl;rw[←hl];show (lt9 x now span).1.po=x.po;unfold lt9 at ht⊢
   split at ht
   ·rename_i hh;rw[if_pos hh];have he:=hh.1;show (en9 x now).1.po=x.po;unfold en9 at he⊢;by_cases h2:x.ph=2
    ·rw[if_pos h2]at he⊢;exact(dt (fun e=>lC e) he).1
    ·rw[if_neg h2]at he⊢;exact(dt (fun e=>lD e) he).1
   ·cases ht
  ·cases hl
 have h1:=hp a c ha hc;have h2:=hp b d hb hd;have h3:=hab.1;omega
theorem l7{j:Nat}:∀(l:List CV) {x:KV},KOk j x→(∀c∈l,0≤c.r.ma∧fl x.t.R c.r∧bV (x.t.R c.r.po)=true∧bV (some c.r)=false)→l.Pairwise (fun a b=>a.r.po≠b.r.po)→bv 0 x (dL x l)
 |[],x,_,_,_=>bv.refl x
 |c::l,x,ho,hl,hp=>by
  obtain⟨h1,h2,h3,h4⟩:=hl c (by simp);obtain⟨g1,g2⟩:=sO ho h1 h2 h3 h4;rw[List.pairwise_cons]at hp
  have hn:∀d∈l,0≤d.r.ma∧fl (bj x c.r).t.R d.r∧bV ((bj x c.r).t.R d.r.po)=true∧bV (some d.r)=false:=by
   intro d hd;obtain⟨k1,k2,k3,k4⟩:=hl d (by simp[hd]);have e:=g2 d.r.po (fun e=>hp.1 d hd e.symm);exact⟨k1,fun u hu=>k2 u (by rw[←e];exact hu),by rw[e];exact k3,k4⟩
  exact g1.trans (l7 l (ho.chg c.r h1) hn hp.2)
theorem nt{x:KV}{j:Nat}(ho:KOk j x):bv 0 x (cW x):=
 l7 _ ho (fun c hc=>⟨i_ ho.ma _ _ c hc,sR ho.wf _ _ hc⟩) (sS ho.wf _ _)
theorem sU{x:KV}{j:Nat}(ho:KOk j x)(now:Int):bv 0 x (bG x now).2:=by
 unfold bG
 split
 ·exact bv.refl x
 ·split
  ·exact bv.refl x
  ·rename_i h;exact(bv.same (x:=x) (y:={x with no:=now}) rfl rfl rfl rfl rfl).trans (nt (ho.now (now:=now) (by have:=ho.no;omega)))
theorem qK{x:KV}{j:Nat}(ho:KOk j x)(c:Int)(m:MV)(b:List UInt8):bv 2 x (ep x c m b):=by
 have h0:=(bv.refl x).le (show 0≤2 by omega);unfold ep
 cases hR:x.t.R m.pt with
 |none=>exact h0
 |some r=>
  simp only
  split
  ·unfold iA
   split
   ·rename_i he;obtain⟨a1,a2,a3,a4⟩:=dt (fun e=>wU e) he;exact nr ho (o8 (ho.ma _ _ hR) _ _ _) (eM ho.wf hR ⟨a1,a2⟩)
   ·exact h0
  ·split
   ·unfold iB
    split
    ·exact h0
    ·split
     ·exact(bv.same (x:=x) (y:={x with S:=aF x.S r.ow.toNat (bL (x.S r.ow.toNat) b)}) rfl rfl rfl rfl rfl).le (by omega)
     ·exact h0
   ·exact h0
theorem uX(x:KV)(i:Nat):bv 0 x (c_ x i):=by
 unfold c_
 split
 ·exact .same rfl rfl rfl rfl rfl
 ·exact .refl x
theorem sV{x:KV}{j:Nat}(ho:KOk j x)(c:Int)(b:List UInt8):bv 2 x (au x c b).2.2:=by
 have h0:=(bv.refl x).le (show 0≤2 by omega);unfold au lz
 split
 ·exact h0
 ·split
  ·split
   ·unfold jv
    split
    ·have g1:bv 0 x (kN x c.toNat (jL b)):=.same rfl rfl rfl rfl rfl;have g2:=g1.trans (uX _ c.toNat);have ho2:=(ho.tk c.toNat (jL b)).ref c.toNat;generalize c_ (kN x c.toNat (jL b)) c.toNat=y at*;show bv 2 x (cA y c _ _).2;unfold cA
     split
     ·split
      ·exact(g2.trans (qK ho2 c _ _)).le (by omega)
      ·exact g2.le (by omega)
     ·exact g2.le (by omega)
    ·exact h0
   ·exact h0
  ·exact h0
end Go.Proofs.YtnojmbejedlilaaGreat
