/-
  A controller next to a row of rows that the walk itself owns. Conditions: they lie in memory, apart.
-/
import Derived.Test.YtnojmbejedlilaaGreatKQIw
set_option linter.unusedVariables false
set_option linter.unusedSimpArgs false
namespace Go.Proofs.YtnojmbejedlilaaGreat
open Go.Value renaming int→U
open Go.IntKind renaming i64→Z
open Go.RowKit
theorem KP.free17{lab:Nat→Nat}{w w1:World}{c ps pj pf:Nat}{P:Nat→Nat}{x:KV}{S:Nat→Prop}(h:KP w lab c ps pj pf P x)(hc:Chg S w w1)(hS:∀k,S k→lab k=0):KP w1 lab c ps pj pf P x:=
 h.mv (N:=fun n=>n=0) ⟨hc.mono (fun k _ e=>hS k e),fun _ _=>rfl⟩ (h.q.lt.new hc.size) (by decide) (by decide) (by decide) (by decide) (fun i _=>by omega) (by decide)
theorem me{A:Option Addr}{n d k:Nat}(h:A.map (·.block)=some k):(Value.slice A n d).ownBlock=some k:=by
 cases A with
 |none=>cases h
 |some a=>exact h
def hU(W w:World)(c pf:Nat)(x:KV)(v:Value)(n:Nat)(K:List RV):Prop:=∃(lab:Nat→Nat) (ps pj:Nat) (P:Nat→Nat),KP w lab c ps pj pf P x∧Chg (fun _=>False) W w∧(∀k,lab k≠0→W.heap.size≤k)∧(∃A d,v=.slice A n d∧n=K.length∧w.ownsRow W.heap.size 60 9 (.slice A n d) n (yi K))∧∀k,v.ownBlock=some k→lab k=0
section
variable {W w w' : World} {c pf n : Nat} {x : KV} {v : Value} {K : List RV}
theorem hU.was(h:hU W w c pf x v n K):Chg (fun _=>False) W w:=by
 obtain⟨lab,ps,pj,P,h1,h2,h3,h4,h5⟩:=h;exact h2
theorem hU.new(h:hU W w c pf x v n K)(hc:Chg (fun _=>False) w w'):hU W w' c pf x v n K:=by
 obtain⟨lab,ps,pj,P,h1,h2,h3,⟨A,d,rfl,hn,ho⟩,h5⟩:=h;exact⟨lab,ps,pj,P,h1.new hc,h2.tr hc,h3,⟨A,d,rfl,hn,ay ho hc (fun _ _=>id)⟩,h5⟩
theorem hU.lv(h:hU W w c pf x v n K):bu (fun k=>k<W.heap.size) W w c pf x:=by
 obtain⟨lab,ps,pj,P,h1,h2,h3,h4,h5⟩:=h;exact⟨lab,ps,pj,P,h1,h2.mono (fun _ _ e=>False.elim e),fun k hk e=>by have:=h3 k hk;omega⟩
theorem hU.open_(h:hU W w c pf x v n K):∃G:Nat→Prop,(∀k,G k→k<w.heap.size)∧bu G w w c pf x∧(∀w',Chg (fun k=>¬G k) w w'→Chg (fun _=>False) W w')∧∀w' c' y,bu G w w' c' pf y→hU W w' c' pf y v n K:=by
 obtain⟨lab,ps,pj,P,h1,h2,h3,⟨A,d,rfl,hn,ho⟩,h5⟩:=h;have hs:=h2.size;have hlow:∀i,i<W.heap.size→i<w.heap.size∧lab i=0:=fun i hi=>⟨by omega,Decidable.byContradiction (fun e=>by have:=h3 i e;omega)⟩;refine⟨fun k=>k<w.heap.size∧lab k=0,fun k e=>e.1,⟨lab,ps,pj,P,h1,Chg.refl _ _,fun k hk e=>hk e.2⟩,fun w' e=>h2.trans e (fun i hi e2=>e2 (hlow i hi)),?_⟩;rintro w' c' y ⟨lab',ps',pj',P',g1,g2,g3⟩;refine⟨lab',ps',pj',P',g1,h2.trans g2 (fun i hi e2=>e2 (hlow i hi)),fun k hk=>Nat.le_of_not_lt (fun e=>g3 k hk (hlow k e)),⟨A,d,rfl,hn,ay ho g2 (fun k hk e=>e ⟨(ho.lt k (me hk)).2,h5 k (me hk)⟩)⟩,fun k hk=>Decidable.byContradiction (fun e=>g3 k e ⟨(ho.lt k hk).2,h5 k hk⟩)⟩
end
end Go.Proofs.YtnojmbejedlilaaGreat
