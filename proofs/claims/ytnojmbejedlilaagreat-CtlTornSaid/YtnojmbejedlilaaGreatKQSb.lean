/-
  Two controllers next to one another: each call of one by a contract. Conditions: they lie in memory, apart.
-/
import Derived.Test.YtnojmbejedlilaaGreatKQIz
set_option linter.unusedVariables false
set_option linter.unusedSimpArgs false
namespace Go.Proofs.YtnojmbejedlilaaGreat
open _root_.Nat renaming lt_of_not_le→CY,le_of_not_lt→CZ
open Go.Value renaming int→U
open Go.IntKind renaming i64→Z
open Go.RowKit
def ca(Q:Nat→Prop)(W w:World)(c pf:Nat)(x:KV)(d pg:Nat)(y:KV):Prop:=∃(la:Nat→Nat) (sa ja:Nat) (Pa:Nat→Nat) (lb:Nat→Nat) (sb jb:Nat) (Pb:Nat→Nat),KP w la c sa ja pf Pa x∧KP w lb d sb jb pg Pb y∧(∀k,la k≠0→lb k=0)∧Chg (fun k=>¬Q k) W w∧∀k,Q k→k<W.heap.size∧la k=0∧lb k=0
def yx(Q:Nat→Prop)(W w:World)(pf:Nat)(bs:List UInt8)(sf rm:Nat)(d pg:Nat)(y:KV):Prop:=∃(G:Nat→Prop) (w1:World),(∀k,G k→k<w1.heap.size)∧eX G w1 pf bs sf rm w∧∀w' c' z,bu G w1 w' c' pf z→ca Q W w' c' pf z d pg y
section
variable {Q : Nat → Prop} {W W0 w w' : World} {c pf d pg j n0 : Nat} {x y : KV}
theorem ca.swap(h:ca Q W w c pf x d pg y):ca Q W w d pg y c pf x:=by
 obtain⟨la,sa,ja,Pa,lb,sb,jb,Pb,h1,h2,h3,h4,h5⟩:=h;exact⟨lb,sb,jb,Pb,la,sa,ja,Pa,h2,h1,fun k hk=>Decidable.byContradiction (fun e=>hk (h3 k e)),h4,fun k hk=>⟨(h5 k hk).1,(h5 k hk).2.2,(h5 k hk).2.1⟩⟩
theorem ca.new(h:ca Q W w c pf x d pg y)(hc:Chg (fun _=>False) w w'):ca Q W w' c pf x d pg y:=by
 obtain⟨la,sa,ja,Pa,lb,sb,jb,Pb,h1,h2,h3,h4,h5⟩:=h;exact⟨la,sa,ja,Pa,lb,sb,jb,Pb,h1.new hc,h2.new hc,h3,h4.trans hc (fun _ _ e=>False.elim e),h5⟩
theorem ca.was(h:ca Q W w c pf x d pg y):Chg (fun k=>¬Q k) W w:=by
 obtain⟨la,sa,ja,Pa,lb,sb,jb,Pb,h1,h2,h3,h4,h5⟩:=h;exact h4
theorem ca.more(R:Nat→Prop)(h:ca Q W w c pf x d pg y)(hc:Chg (fun _=>False) w w')(hR:∀k,R k→w.heap.size≤k∧k<w'.heap.size):ca (fun k=>Q k∨R k) w' w' c pf x d pg y:=by
 obtain⟨la,sa,ja,Pa,lb,sb,jb,Pb,h1,h2,h3,h4,h5⟩:=h;have hs:=h4.size;have hs2:=hc.size;refine⟨la,sa,ja,Pa,lb,sb,jb,Pb,h1.new hc,h2.new hc,h3,Chg.refl _ _,fun k hk=>?_⟩;rcases hk with hk|hk
 ·exact⟨by have:=(h5 k hk).1;omega,(h5 k hk).2⟩
 ·exact⟨(hR k hk).2,h1.q.lt k (hR k hk).1,h2.q.lt k (hR k hk).1⟩
theorem ca.lv(h:ca Q W w c pf x d pg y):bu (fun _=>False) w w c pf x:=by
 obtain⟨la,sa,ja,Pa,lb,sb,jb,Pb,h1,h2,h3,h4,h5⟩:=h;exact⟨la,sa,ja,Pa,h1,Chg.refl _ _,fun _ _ e=>e⟩
theorem ca.open_(h:ca Q W w c pf x d pg y):∃G:Nat→Prop,(∀k,G k→k<w.heap.size)∧bu G w w c pf x∧(∀w',Chg (fun k=>¬G k) w w'→Chg (fun k=>¬Q k) W w')∧∀w' c' z,bu G w w' c' pf z→ca Q W w' c' pf z d pg y:=by
 obtain⟨la,sa,ja,Pa,lb,sb,jb,Pb,h1,h2,h3,h4,h5⟩:=h;have hs:=h4.size;have hq:∀k,Q k→k<w.heap.size∧la k=0:=fun k hk=>⟨by have:=(h5 k hk).1;omega,(h5 k hk).2.1⟩;have hlb:∀k,¬(k<w.heap.size∧la k=0)→lb k=0:=fun k hk=>Decidable.byContradiction (fun e=>hk ⟨CY (fun e2=>e (h2.q.lt k e2)),Decidable.byContradiction (fun e3=>e (h3 k e3))⟩);refine⟨fun k=>k<w.heap.size∧la k=0,fun k e=>e.1,⟨la,sa,ja,Pa,h1,Chg.refl _ _,fun k hk e=>hk e.2⟩,fun w' e=>h4.trans e (fun i hi e2 g=>e2 (hq i g)),?_⟩;rintro w' c' z ⟨lab',ps',pj',P',g1,g2,g3⟩;exact⟨lab',ps',pj',P',lb,sb,jb,Pb,g1,h2.free17 g2 hlb,fun k hk=>hlb k (g3 k hk),h4.trans g2 (fun i hi e2 g=>e2 (hq i g)),fun k hk=>⟨(h5 k hk).1,Decidable.byContradiction (fun e=>g3 k e (hq k hk)),(h5 k hk).2.2⟩⟩
theorem kY(h:ca Q W w c pf x d pg y)(hi:cQ n0 n0 x)(sp:Int)(hsp:1≤sp∧sp≤2147483648)(L:Option Addr)(m lc:Nat)(l:List bR)(hl:fm W0 L m l)(hQ:∀w',Chg (fun k=>¬Q k) W w'→Chg (fun _=>False) W0 w')(hmc:m≤9223372036854775807)(hn:n0+3*m≤1000):Calls Tryz.prog 20 #[.pointer (some ⟨pf,0,none⟩),.pointer (some ⟨c,0,none⟩),.slice L m lc,U Z sp] w fun e w'=>∃c',e=.returned (.pointer (some ⟨c',0,none⟩))∧ca Q W w' c' pf (fV sp x l).1 d pg y:=by
 obtain⟨G,gG,gL,gW,gN⟩:=h.open_;refine(oh gG gL hi sp hsp L m lc l hl (fun w' e=>hQ _ (gW w' e)) hmc hn).mono ?_;rintro e w' ⟨c',rfl,hk⟩;exact⟨c',rfl,gN _ _ _ hk⟩
theorem xd(h:ca Q W w c pf x d pg y)(ho:KOk j x)(op po ch ma:Int)(hma:0≤ma):Calls Tryz.prog 23 #[.pointer (some ⟨c,0,none⟩),.agg #[U Z op,U Z po,U Z ch,U .u64 ma]] w fun e w'=>e=.returned (.tuple #[.agg (aP x op po ch ma).1.cs,U Z (aP x op po ch ma).2.1])∧ca Q W w' c pf (aP x op po ch ma).2.2 d pg y:=by
 obtain⟨G,gG,gL,gW,gN⟩:=h.open_;refine(lE gG gL ho op po ch ma hma).mono ?_;rintro e w' ⟨rfl,hk⟩;exact⟨rfl,gN _ _ _ hk⟩
theorem tA(h:ca Q W w c pf x d pg y)(ho:KOk j x)(op po ch ma:Int)(hma:0≤ma):Calls Tryz.prog 24 #[.pointer (some ⟨c,0,none⟩),.agg #[U Z op,U Z po,U Z ch,U .u64 ma]] w fun e w'=>e=.returned (U Z (aB x op po ch ma).1)∧ca Q W w' c pf (aB x op po ch ma).2 d pg y:=by
 obtain⟨G,gG,gL,gW,gN⟩:=h.open_;refine(jk gG gL ho op po ch ma hma).mono ?_;rintro e w' ⟨rfl,hk⟩;exact⟨rfl,gN _ _ _ hk⟩
theorem qW(h:ca Q W w c pf x d pg y)(ho:KOk j x)(keep:Int):Calls Tryz.prog 25 #[.pointer (some ⟨pf,0,none⟩),U Z keep] w fun e w'=>(∃n:Int,e=.returned (U Z n))∧yx Q W w' pf (dQ x keep) (crN x.bs x.sf keep) x.rm d pg y:=by
 obtain⟨G,gG,gL,gW,gN⟩:=h.open_;refine(fU gG gL ho keep).mono ?_;rintro e w' ⟨he,hk⟩;exact⟨he,G,w,gG,hk,gN⟩
theorem tB{z:KV}{keep:Int}(h:yx Q W w pf (dQ z keep) (crN z.bs z.sf keep) z.rm d pg y)(ho:KOk j z){sp no:Int}(he:gS z keep sp no=0):Calls Tryz.prog 18 #[.pointer (some ⟨pf,0,none⟩),U Z sp,U Z no] w fun e w'=>∃c,e=.returned (.tuple #[.pointer (some ⟨c,0,none⟩),U Z 0])∧ca Q W w' c pf (bQ z keep sp no) d pg y:=by
 obtain⟨G,w1,gG,gD,gN⟩:=h;refine(gU gG gD ho he).mono ?_;rintro e w' ⟨c,rfl,hk⟩;exact⟨c,rfl,gN _ _ _ hk⟩
end
def vz(W w:World)(pf pg:Nat):Prop:=∃(o og:Option Nat) (n:Nat),Fi 80 w pf o [] 0 65536∧Fi 80 w pg og [] 0 65536∧Chg (fun _=>False) W w∧(W.heap.size≤pf∧pf<n)∧(∀k,o=some k→W.heap.size≤k∧k<n)∧(W.heap.size≤n∧n≤pg)∧∀k,og=some k→n≤k
def vA(W w:World)(c pf:Nat)(x:KV)(pg:Nat):Prop:=∃(la:Nat→Nat) (sa ja:Nat) (Pa:Nat→Nat) (og:Option Nat),KP w la c sa ja pf Pa x∧Fi 80 w pg og [] 0 65536∧Chg (fun _=>False) W w∧(∀k,k<W.heap.size→la k=0)∧(W.heap.size≤pg∧la pg=0)∧∀k,og=some k→W.heap.size≤k∧la k=0
section
variable {W w : World} {c pf pg : Nat} {x : KV} {sp : Int}
theorem qX(h:eX (fun k=>k<W.heap.size) W pf [] 0 65536 w):Calls Tryz.prog 8 #[U Z 65536] w fun e w'=>∃pg,e=.returned (.tuple #[.pointer (some ⟨pg,0,none⟩),U Z 0])∧vz W w' pf pg:=by
 refine(kX w).mono ?_;rintro e w' ⟨pg,rfl,g1,g2,og,g3,g4⟩;obtain⟨h1,h2,o,h3,h4⟩:=h;have hc:Chg (fun _=>False) w w':=g1.mono (fun k hk e=>e hk);have hl:=h3.lt;exact⟨pg,rfl,o,og,w.heap.size,h3.chg hc id (fun _ _=>id),g3,(h1.mono (fun k hk e=>e hk)).tr hc,⟨CZ h2,hl.1⟩,fun k hk=>⟨CZ (h4 k hk),hl.2 k hk⟩,⟨h1.size,CZ g2⟩,fun k hk=>CZ (g4 k hk)⟩
theorem qY(h:vz W w pf pg)(hsp:1≤sp∧sp≤2147483648):Calls Tryz.prog 18 #[.pointer (some ⟨pf,0,none⟩),U Z sp,U Z 0] w fun e w'=>∃c,e=.returned (.tuple #[.pointer (some ⟨c,0,none⟩),U Z 0])∧vA W w' c pf (bz [] 0 65536 sp 0) pg:=by
 obtain⟨o,og,n,h1,h2,h3,h4,h5,h6,h7⟩:=h;have he:=(km hsp).1;have hl:=h2.lt;have hs:=h3.size;refine(fS (fun k=>k<w.heap.size∧k≠pf∧o≠some k) w (fun k e=>e.1) pf [] 0 65536 sp 0 w ⟨Chg.refl _ _,fun e=>e.2.1 rfl,o,h1,fun k hk e=>e.2.2 hk⟩ (by decide) (by decide) (by decide)).mono ?_;rintro e w' ⟨pv,rfl,g1,g2⟩;obtain⟨c,rfl,⟨lab,ps,pj,P,k1,k2,k3⟩,g4⟩:=g1 he;have hG:∀k,k<w.heap.size→k≠pf→o≠some k→lab k=0:=fun k a1 a2 a3=>Decidable.byContradiction (fun e=>k3 k e ⟨a1,a2,a3⟩);have hpg:pg<w.heap.size∧pg≠pf∧o≠some pg:=⟨hl.1,by omega,fun e=>by have:=h5 _ e;omega⟩;have hog:∀k,og=some k→k<w.heap.size∧k≠pf∧o≠some k:=fun k hk=>⟨hl.2 k hk,by have:=h7 k hk;omega,fun e=>by have:=h5 _ e;have:=h7 k hk;omega⟩;have hlow:∀k,k<W.heap.size→k<w.heap.size∧k≠pf∧o≠some k:=fun k hk=>⟨by omega,by omega,fun e=>by have:=h5 _ e;omega⟩;exact⟨c,by rw[he],lab,ps,pj,P,og,k1,h2.chg k2 (fun e=>e hpg) (fun k hk e=>e (hog k hk)),h3.trans k2 (fun i hi e=>e (hlow i hi)),fun k hk=>hG k (hlow k hk).1 (hlow k hk).2.1 (hlow k hk).2.2,⟨by omega,hG _ hpg.1 hpg.2.1 hpg.2.2⟩,fun k hk=>⟨by have:=h7 k hk;omega,hG k (hog k hk).1 (hog k hk).2.1 (hog k hk).2.2⟩⟩
theorem qZ(h:vA W w c pf x pg)(hsp:1≤sp∧sp≤2147483648):Calls Tryz.prog 18 #[.pointer (some ⟨pg,0,none⟩),U Z sp,U Z 0] w fun e w'=>∃d,e=.returned (.tuple #[.pointer (some ⟨d,0,none⟩),U Z 0])∧ca (fun k=>k<W.heap.size) W w' c pf x d pg (bz [] 0 65536 sp 0):=by
 obtain⟨la,sa,ja,Pa,og,h1,h2,h3,h4,h5,h6⟩:=h;have he:=(km hsp).1;have hl:=h2.lt;have hs:=h3.size;refine(fS (fun k=>k<w.heap.size∧k≠pg∧og≠some k) w (fun k e=>e.1) pg [] 0 65536 sp 0 w ⟨Chg.refl _ _,fun e=>e.2.1 rfl,og,h2,fun k hk e=>e.2.2 hk⟩ (by decide) (by decide) (by decide)).mono ?_;rintro e w' ⟨pv,rfl,g1,g2⟩;obtain⟨d,rfl,⟨lab,ps,pj,P,k1,k2,k3⟩,g4⟩:=g1 he;have hla:∀k,la k≠0→k<w.heap.size∧k≠pg∧og≠some k:=fun k hk=>⟨CY (fun e=>hk (h1.q.lt k e)),fun e=>hk (by rw[e];exact h5.2),fun e=>hk (h6 k e).2⟩;have hlow:∀k,k<W.heap.size→k<w.heap.size∧k≠pg∧og≠some k:=fun k hk=>⟨by omega,by omega,fun e=>by have:=h6 _ e;omega⟩;exact⟨d,by rw[he],la,sa,ja,Pa,lab,ps,pj,P,h1.free17 k2 (fun k hk=>Decidable.byContradiction (fun e=>hk (hla k e))),k1,fun k hk=>Decidable.byContradiction (fun e=>k3 k e (hla k hk)),(h3.trans k2 (fun i hi e=>e (hlow i hi))).mono (fun _ _ e=>False.elim e),fun k hk=>⟨hk,h4 k hk,Decidable.byContradiction (fun e=>k3 k e (hlow k hk))⟩⟩
end
end Go.Proofs.YtnojmbejedlilaaGreat
