/-
  Half a call, a crash, an opening; what always holds of a controller that acts go through, plain. No condition.
-/
import Derived.Test.YtnojmbejedlilaaGreatKQCx
set_option linter.unusedVariables false
set_option linter.unusedSimpArgs false
namespace Go.Proofs.YtnojmbejedlilaaGreat
open _root_.List renaming length_append→zY,take_left'→CR,take_of_length_le→Ax
open Go.Value renaming int→U
open Go.IntKind renaming i64→Z
open Go.RowKit
theorem wX{x:KV}{r:RV}(h:ao x (av r)=0):(bj x r).t=aA x.t (av r):=by
 unfold bj;rw[if_pos (show cx x r=0 from h)];show (aH x (av r)).t=_;rw[(cp h).1]
theorem l8 {x : KV} {j : Nat} (ho : KOk j x) (hst : x.st = false) (op po c : Int) {ma : Int} (hma : 0 ≤ ma) : (aB x op po c ma).1 = (aP x op po c ma).2.1 ∧ (((aB x op po c ma).2 = x ∧ (aP x op po c ma).2.2.t = x.t) ∨ ∃ r : aI, r.ok ∧ ao x r = 0 ∧ cF x.t (aA x.t r) ∧ du (aA x.t r).R ≤ du x.t.R + 1 ∧ (aA x.t r).bt = x.t.bt ∧ (aB x op po c ma).2 = { aM x r with st := true } ∧ (aP x op po c ma).2.2.t = aA x.t r) := by
  unfold aB aP ju kM
  rw [hst]
  rw [if_neg (show ¬ (false = true) by decide), if_neg (show ¬ (false = true) by decide)]
  by_cases he : (aD x.t.R op po c ma x.no).2 = 0
  · rw [if_pos he, if_pos he]
    have hm := gA ho.ma op po c hma x.no
    rcases jM ho.wf op po c ma x.no he with hk | ⟨r, hr, hn⟩ | ⟨z, hr⟩
    · unfold cO gb
      rw [if_pos hk, if_neg (by omega), if_neg (by omega), if_neg (by omega)]
      exact ⟨rfl, .inl ⟨rfl, rfl⟩⟩
    · rw [hr] at hm ⊢
      have hg := kf ho hm hn
      unfold cO gb
      rw [if_neg (show ¬ (av r).k = 0 by show ¬ (1 : Int) = 0; decide), if_pos (show (av r).k = 1 from rfl)]
      by_cases h0 : ao x (av r) = 0
      · have h1 : cx x (av r).x = 0 := h0
        rw [if_pos h0, if_pos h1]
        obtain ⟨e1, e2⟩ := dk h0
        have hw : aC x.t.C x.t.R ⟨r, cH x.t.R r.po⟩ = 0 := e1
        have hpo := (RV.bd (dG hw).1).1
        have hR : (aA x.t (av r)).R = cm x.t.R r := by
          show doR x.t.C x.t.R ⟨r, cH x.t.R r.po⟩ = _
          simp only [doR, hw, if_true]
        refine ⟨rfl, .inr ⟨av r, dO (r := av r) ho.wf (.inl rfl) (fun _ => hm) e1, h0, nq e1 hn, ?_, rfl, rfl, wX h0⟩⟩
        rw [hR]
        exact o9 x.t.R r hpo.1
      · have h1 : ¬ cx x (av r).x = 0 := h0
        rw [if_neg h0, if_neg h1]
        exact ⟨rfl, .inl ⟨rfl, rfl⟩⟩
    · have hkk : ∃ k : Int, (k = 4 ∨ k = 5) ∧ (aD x.t.R op po c ma x.no).1 = ⟨k, z9, z, 0⟩ := by
        rcases hr with hr | hr
        · exact ⟨4, .inl rfl, hr⟩
        · exact ⟨5, .inr rfl, hr⟩
      obtain ⟨k, hk, hr2⟩ := hkk
      rw [hr2]
      have hg := jh ho (r := ⟨k, z9, z, 0⟩) hk
      unfold gb
      rw [if_neg (show ¬ k = 0 by omega)]
      by_cases h0 : ao x ⟨k, z9, z, 0⟩ = 0
      · rw [if_pos h0]
        obtain ⟨e1, e2⟩ := dk h0
        have hR : (aA x.t ⟨k, z9, z, 0⟩).R = x.t.R ∧ (aA x.t ⟨k, z9, z, 0⟩).bt = x.t.bt := by
          rcases hk with rfl | rfl <;> exact ⟨rfl, rfl⟩
        have hd : (cO x ⟨k, z9, z, 0⟩).2.1 = 0 ∧ (cO x ⟨k, z9, z, 0⟩).2.2.t = (aH x ⟨k, z9, z, 0⟩).t := by
          rcases hk with rfl | rfl
          · rw [j8, if_pos h0]; exact ⟨rfl, rfl⟩
          · rw [j9, if_pos h0]; exact ⟨rfl, rfl⟩
        rw [(cp h0).1] at hd hg
        refine ⟨hd.1.symm, .inr ⟨⟨k, z9, z, 0⟩, dO (r := ⟨k, z9, z, 0⟩) ho.wf (by rcases hk with e | e; exact .inr (.inl e); exact .inr (.inr (.inl e))) (fun e => by have : k = 1 := e; omega) e1, h0, hg.t, by rw [hR.1]; omega, hR.2, rfl, hd.2⟩⟩
      · rw [if_neg h0]
        have hd : (cO x ⟨k, z9, z, 0⟩).2.1 = ao x ⟨k, z9, z, 0⟩ ∧ (cO x ⟨k, z9, z, 0⟩).2.2 = x := by
          rcases hk with rfl | rfl
          · rw [j8, if_neg h0]; exact ⟨rfl, rfl⟩
          · rw [j9, if_neg h0]; exact ⟨rfl, rfl⟩
        exact ⟨hd.1.symm, .inl ⟨rfl, by rw [hd.2]⟩⟩
  · rw [if_neg he, if_neg he]
    exact ⟨rfl, .inl ⟨rfl, rfl⟩⟩
theorem oc{C:Int→Bool}{R:Int→Option RV}(hw:WF C R){sp:Int}(h:1≤sp):dg R 0 sp=[]:=by
 unfold dg;rw[List.filterMap_eq_nil_iff];intro x hx;obtain⟨z,hz⟩:=hw.mem.1 hx;have hs:=(RV.bd (hw.row z x hz).1).2.2.2.2
 have hc:¬((en9 x 0).2=0∧mx9 sp≤0-x.si):=by
  rintro⟨_,h2⟩;unfold mx9 at h2
  split at h2<;>omega
 unfold eB lt9;rw[if_neg hc];rfl
theorem kg{t:ba}{bs:List UInt8}{rm:Nat}{sp no:Int}(h:bg ts0 (aq bs)=(false,t))(hb:bs.length+35≤rm)(hm:rm≤16777216)(hbt:0≤t.bt∧t.bt<4294967296)(hsp:1≤sp∧sp≤2147483648)(hno:0≤no∧no≤1099511627776):
  ck bs bs.length rm sp no=0∧KOk 0 (bz bs bs.length rm sp no)∧iH (bz bs bs.length rm sp no)∧(bz bs bs.length rm sp no).rm=rm∧(bz bs bs.length rm sp no).st=false∧eD (bz bs bs.length rm sp no)≤bs.length+35*du t.R+35∧(bz bs bs.length rm sp no).t.bt=t.bt+1∧cF t (bz bs bs.length rm sp no).t∧
  (no=0→(bz bs bs.length rm sp no).t.C=t.C∧(bz bs bs.length rm sp no).t.R=t.R):=by
 have hX:(aU bs bs.length rm sp no).t=t:=by
  show (bg ts0 (aq bs)).2=t;rw[h]
 have hsf:opS bs bs.length=(an (aq bs)).length:=by
  unfold opS;have h1:=lu bs;unfold cI at h1⊢
  split
  ·rfl
  ·omega
 have hF:iH (aU bs bs.length rm sp no):=⟨aq bs,rfl,fun b hb=>oP hb,by rw[hX];exact h,hsf⟩;have hle:=ic bs;have hbb:(aU bs bs.length rm sp no).bs.length≤bs.length:=hle;have hrr:(aU bs bs.length rm sp no).rm=rm:=rfl;have hst:(aU bs bs.length rm sp no).st=false:=rfl;have hrn:(aU bs bs.length rm sp no).no=no:=rfl;have hrs:(aU bs bs.length rm sp no).sp=sp:=rfl;have hok:(dd (t.bt+1)).ok:=.inr (.inl ⟨rfl,by show 0≤t.bt+1;omega,by show t.bt+1≤4294967296;omega⟩)
 have hE:bU t (dd (t.bt+1))=0:=by
  show (if t.bt+1≤t.bt then(2:Int)else 0)=0;rw[if_neg (by omega)]
 have hS:aA t (dd (t.bt+1))={t with bt:=t.bt+1}:=by
  show (if t.bt+1≤t.bt then t else{t with bt:=t.bt+1})=_;rw[if_neg (by omega)]
 have hput:ao (aU bs bs.length rm sp no) (dd (t.bt+1))=0:=by
  unfold ao;rw[hX,if_pos hE];have hl:=ke hok;unfold fz ll;rw[if_neg (by omega),if_neg (by rw[hrr,bO];omega)]
 have h0:dX (aU bs bs.length rm sp no)=0:=by
  unfold dX;rw[hX,if_neg (by omega)];exact hput
 have hOE:ck bs bs.length rm sp no=0:=by
  unfold ck;rw[if_pos (iF hsp hno),if_neg (show¬(bg ts0 (aq bs)).1=true by rw[h];exact Bool.false_ne_true)];exact h0
 have hk:=kb (by omega) hm (Nat.le_refl _) hsp hno h0;have hlen:=fT hok hput
 have hSt:(cG (aU bs bs.length rm sp no)).t={t with bt:=t.bt+1}∧iH (cG (aU bs bs.length rm sp no))∧(cG (aU bs bs.length rm sp no)).rm=rm∧(cG (aU bs bs.length rm sp no)).st=false∧(cG (aU bs bs.length rm sp no)).bs.length≤bs.length+35∧(cG (aU bs bs.length rm sp no)).no=no∧(cG (aU bs bs.length rm sp no)).sp=sp:=by
  have hf:=jg hF hok hput;unfold cG;generalize aU bs bs.length rm sp no=x at*;subst hX;rw[(cp hput).1];obtain⟨ls,a,b,c,d⟩:=hf;refine⟨hS,⟨ls,a,b,c,d⟩,hrr,hst,?_,hrn,hrs⟩;exact Nat.le_trans hlen (Nat.add_le_add_right hbb 35)
 have hg:=nt hk;obtain⟨s1,s2,s3,s4,s5,s6,s7⟩:=hSt;refine⟨hOE,hk.exp,hg.f s2,hg.r.trans s3,hg.s.trans s4,?_,by show (cW _).t.bt=_;rw[hg.b,s1],?_,fun e=>?_⟩
 ·have h1:=hg.p;unfold eD at h1⊢;rw[s1]at h1;show (cW _).bs.length+35*du (cW _).t.R≤_;simp only at h1;omega
 ·refine cF.trans (u:=(cG (aU bs bs.length rm sp no)).t) ?_ hg.t;rw[s1];exact⟨by show t.bt≤t.bt+1;omega,(cF.refl t).2⟩
 ·subst e
  have hl:cW (cG (aU bs bs.length rm sp 0))=cG (aU bs bs.length rm sp 0):=by
   unfold cW;rw[s6,s7,oc hk.wf hsp.1];rfl
  show (cW _).t.C=_∧(cW _).t.R=_;rw[hl,s1];exact⟨rfl,rfl⟩
theorem od{bs:List UInt8}{sf:Nat}(h:sf=bs.length)(keep:Int):bs.take (crN bs sf keep)=bs∧crN bs sf keep=bs.length:=by
 have:crN bs sf keep=bs.length:=by
  unfold crN;omega
 rw[this];exact⟨List.take_length,rfl⟩
theorem nu{x:KV}{r:aI}(hf:iH x)(hr:r.ok)(h0:ao x r=0)(keep:Int):(((aM x r).bs.take (crN (aM x r).bs x.sf keep)).length=crN (aM x r).bs x.sf keep)∧crN (aM x r).bs x.sf keep≤x.bs.length+35∧
  (bg ts0 (aq ((aM x r).bs.take (crN (aM x r).bs x.sf keep)))=(false,x.t)∨bg ts0 (aq ((aM x r).bs.take (crN (aM x r).bs x.sf keep)))=(false,aA x.t r))∧
  (keep≤0→bg ts0 (aq ((aM x r).bs.take (crN (aM x r).bs x.sf keep)))=(false,x.t))∧
  (200≤keep→bg ts0 (aq ((aM x r).bs.take (crN (aM x r).bs x.sf keep)))=(false,aA x.t r)):=by
 obtain⟨ls,a,b,c,d⟩:=hf;obtain⟨e1,e2⟩:=dk h0;obtain⟨e3,e4⟩:=iI e2;obtain⟨e5,e6⟩:=l6 hr e1;have hl:=ke hr
 have hbs:(aM x r).bs=an (ls++[r.bs]):=by
  rw[(cp h0).2];show cJ x.rm x.bs r.bs=_;rw[e4,a,gI]
 have hsf:x.sf=(an ls).length:=by rw[d,a]
 have hxl:x.bs.length=(an ls).length:=by rw[a]
 have hL:(an (ls++[r.bs])).length=(an ls).length+(r.bs.length+6):=by rw[gI,zY,bO]
 have hok:∀y∈ls++[r.bs],Bok y:=by
  intro y hy;rcases List.mem_append.1 hy with hy|hy
  ·exact b y hy
  ·rw[List.mem_singleton]at hy;rw[hy];exact e3
 have hrep:=iG ls c e5;rw[e6]at hrep;rw[hbs,hsf,hxl]
 have hN:crN (an (ls++[r.bs])) (an ls).length keep=(an ls).length+min keep.toNat (r.bs.length+6):=by
  unfold crN;rw[hL];omega
 have hsc:=rI (ls++[r.bs]) (crN (an (ls++[r.bs])) (an ls).length keep) hok;have hge:=ws (ls++[r.bs]) (crN (an (ls++[r.bs])) (an ls).length keep) ls.length (by rw[zY];omega) (by rw[CR rfl,hN];omega);have hle:=wn (ls++[r.bs]) (crN (an (ls++[r.bs])) (an ls).length keep)
 have hll:(ls++[r.bs]).length=ls.length+1:=by rw[zY];rfl
 rw[hsc,List.length_take,hL]
 have h3:keep≤0→ei (ls++[r.bs]) (crN (an (ls++[r.bs])) (an ls).length keep)=ls.length:=by
  intro hk
  have hn:crN (an (ls++[r.bs])) (an ls).length keep=(an ((ls++[r.bs]).take ls.length)).length:=by
   rw[CR rfl,hN];omega
  rw[hn];exact oQ _ _ (by omega)
 have h4:200≤keep→ei (ls++[r.bs]) (crN (an (ls++[r.bs])) (an ls).length keep)=ls.length+1:=by
  intro hk
  have hn:crN (an (ls++[r.bs])) (an ls).length keep=(an ((ls++[r.bs]).take (ls.length+1))).length:=by
   rw[Ax (by omega),hN,hL];omega
  rw[hn];exact oQ _ _ (by omega)
 have hA:(ls++[r.bs]).take ls.length=ls:=CR rfl;have hB:(ls++[r.bs]).take (ls.length+1)=ls++[r.bs]:=Ax (by omega);refine⟨by omega,by omega,?_,fun hk=>?_,fun hk=>?_⟩
 ·generalize ei (ls++[r.bs]) (crN (an (ls++[r.bs])) (an ls).length keep)=k at*;by_cases e:k=ls.length
  ·rw[e,hA];exact .inl c
  ·rw[show k=ls.length+1 by omega,hB];exact .inr hrep
 ·rw[h3 hk,hA];exact c
 ·rw[h4 hk,hB];exact hrep
structure cQ(j n:Nat)(x:KV):Prop where
 ok:KOk j x
 fi:iH x
 rm:x.rm=65536
 st:x.st=false
 pot:eD x≤35*n
 bt:x.t.bt≤(n:Int)
theorem cQ.go{j j' n m:Nat}{x y:KV}(h:cQ j n x)(g:bv m x y)(ho:KOk j' y):cQ j' (n+m) y:=⟨ho,g.f h.fi,g.r.trans h.rm,g.s.trans h.st,by have h1:=h.pot;have h2:=g.p;omega,by have h1:=h.bt;have h2:=g.b;omega⟩
theorem cQ.le{j n m:Nat}{x:KV}(h:cQ j n x)(hm:n≤m):cQ j m x:=⟨h.ok,h.fi,h.rm,h.st,by have:=h.pot;omega,by have:=h.bt;omega⟩
def dQ(y:KV)(keep:Int):List UInt8:=y.bs.take (crN y.bs y.sf keep)
def bQ(y:KV)(keep sp no:Int):KV:=bz (dQ y keep) (crN y.bs y.sf keep) y.rm sp no
def gS(y:KV)(keep sp no:Int):Int:=ck (dQ y keep) (crN y.bs y.sf keep) y.rm sp no
theorem ji{j n:Nat}{x:KV}(h:cQ j n x)(hn:n≤1000)(keep:Int){sp no:Int}(hsp:1≤sp∧sp≤2147483648)(hno:0≤no∧no≤1099511627776):gS x keep sp no=0∧cQ 0 (n+1) (bQ x keep sp no)∧cF x.t (bQ x keep sp no).t∧(no=0→(bQ x keep sp no).t.C=x.t.C∧(bQ x keep sp no).t.R=x.t.R):=by
 obtain⟨ls,a,b,c,d⟩:=h.fi;obtain⟨e1,e2⟩:=od d keep;have hp:=h.pot;have hbt:=h.bt;have hbt0:=h.ok.bt;have hrm:=h.rm;unfold eD at hp
 have hs:aq x.bs=ls:=by rw[a];exact wl ls b
 unfold gS bQ dQ;rw[e1,e2];obtain⟨f1,f2,f3,f4,f5,f6,f7,f8,f9⟩:=kg (t:=x.t) (bs:=x.bs) (rm:=x.rm) (sp:=sp) (no:=no) (by rw[hs];exact c) (by omega) (by omega) (by omega) hsp hno;exact⟨f1,⟨f2,f3,f4.trans hrm,f5,by omega,by omega⟩,f8,f9⟩
theorem jj{j n:Nat}{x:KV}(h:cQ j n x)(hn:n≤1000)(op po c:Int){ma:Int}(hma:0≤ma)(keep:Int){sp no:Int}(hsp:1≤sp∧sp≤2147483648)(hno:0≤no∧no≤1099511627776):
  gS (aB x op po c ma).2 keep sp no=0∧cQ 0 (n+3) (bQ (aB x op po c ma).2 keep sp no)∧cF x.t (bQ (aB x op po c ma).2 keep sp no).t∧
  (no=0→(((bQ (aB x op po c ma).2 keep sp no).t.C=x.t.C∧(bQ (aB x op po c ma).2 keep sp no).t.R=x.t.R)∨((bQ (aB x op po c ma).2 keep sp no).t.C=(aP x op po c ma).2.2.t.C∧(bQ (aB x op po c ma).2 keep sp no).t.R=(aP x op po c ma).2.2.t.R))∧
   (keep≤0→(bQ (aB x op po c ma).2 keep sp no).t.C=x.t.C∧(bQ (aB x op po c ma).2 keep sp no).t.R=x.t.R)∧
   (200≤keep→(bQ (aB x op po c ma).2 keep sp no).t.C=(aP x op po c ma).2.2.t.C∧(bQ (aB x op po c ma).2 keep sp no).t.R=(aP x op po c ma).2.2.t.R)):=by
 obtain⟨g0,g1⟩:=l8 h.ok h.st op po c hma;rcases g1 with⟨g1,g2⟩|⟨r,hr,h0,hri,hphi,hbb,g1,g2⟩
 ·rw[g1,g2];obtain⟨a1,a2,a3,a4⟩:=ji h hn keep hsp hno;exact⟨a1,a2.le (by omega),a3,fun e=>⟨.inl (a4 e),fun _=>a4 e,fun _=>a4 e⟩⟩
 ·rw[g1,g2];obtain⟨c1,c2,c3,c4,c5⟩:=nu h.fi hr h0 keep
  have hsf:(aM x r).sf=x.sf:=by unfold aM;split<;>rfl
  have hrm2:(aM x r).rm=x.rm:=by unfold aM;split<;>rfl
  unfold gS bQ dQ;simp only;rw[hsf,hrm2];have hp:=h.pot;have hbt:=h.bt;have hbt0:=h.ok.bt;have hrm:=h.rm;unfold eD at hp;generalize hB:(aM x r).bs.take (crN (aM x r).bs x.sf keep)=bs' at*;rw[←c1]at c2⊢
  have key:∀t,bg ts0 (aq bs')=(false,t)→t.bt=x.t.bt→du t.R≤du x.t.R+1→cF x.t t→ck bs' bs'.length x.rm sp no=0∧cQ 0 (n+3) (bz bs' bs'.length x.rm sp no)∧cF x.t (bz bs' bs'.length x.rm sp no).t∧(no=0→(bz bs' bs'.length x.rm sp no).t.C=t.C∧(bz bs' bs'.length x.rm sp no).t.R=t.R):=by
   intro t ht hb hph hri2;obtain⟨f1,f2,f3,f4,f5,f6,f7,f8,f9⟩:=kg (t:=t) (bs:=bs') (rm:=x.rm) (sp:=sp) (no:=no) ht (by omega) (by omega) (by omega) hsp hno;exact⟨f1,⟨f2,f3,f4.trans hrm,f5,by omega,by omega⟩,hri2.trans f8,f9⟩
  have kA:bg ts0 (aq bs')=(false,x.t)→_:=fun e=>key x.t e rfl (by omega) (cF.refl _);have kB:bg ts0 (aq bs')=(false,aA x.t r)→_:=fun e=>key (aA x.t r) e hbb hphi hri;rcases c3 with c3|c3
  ·obtain⟨f1,f2,f3,f4⟩:=kA c3;exact⟨f1,f2,f3,fun e=>⟨.inl (f4 e),fun hk=>f4 e,fun hk=>(kB (c5 hk)).2.2.2 e⟩⟩
  ·obtain⟨f1,f2,f3,f4⟩:=kB c3;exact⟨f1,f2,f3,fun e=>⟨.inr (f4 e),fun hk=>(kA (c4 hk)).2.2.2 e,fun hk=>f4 e⟩⟩
end Go.Proofs.YtnojmbejedlilaaGreat
