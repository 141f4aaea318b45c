/-
  Rows handed back next to what is known; what is known, moved. Conditions: they lie in memory, apart.
-/
import Derived.Test.YtnojmbejedlilaaGreatQIx
set_option linter.unusedVariables false
set_option linter.unusedSimpArgs false
namespace Go.Proofs.YtnojmbejedlilaaGreat
open Go.Value (int)
open Go.IntKind (i64)
open Go.RowKit
section
variable {W w w' : World} {c pf n : Nat} {x : KV} {v : Value} {K : List RV}
theorem NV17.open2 {A2 : Option Addr} {n2 : Nat} {l : List RV} (h : NV17 W w c pf x v n K) (hc : Chg (fun _=>False) w w') (hr : SR 9 RV.cs w' (fun k=>w.heap.size ≤ k ∧ k < w'.heap.size) A2 n2 l) : ∃ G : Nat → Prop,(∀ k,G k → k < w'.heap.size) ∧ LV17 G w' w' c pf x ∧ (∀ u,Chg (fun k => ¬ G k) w' u → Chg (fun _=>False) W u) ∧ ∀ u c' y,LV17 G w' u c' pf y → NV17 W u c' pf y v n K ∧ SR 9 RV.cs u (fun k=>w.heap.size ≤ k ∧ k < w'.heap.size) A2 n2 l:=by
 obtain ⟨lab,ps,pj,P,h1,h2,h3,⟨A,d,rfl,hn,ho⟩,h5⟩:=h.new hc
 have hlab : ∀ k,w.heap.size ≤ k → k < w'.heap.size → True:=fun _ _ _=>trivial
 obtain ⟨lab0,ps0,pj0,P0,e1,e2,e3,⟨A0,d0,e4,e5,e6⟩,e7⟩:=h
 injection e4 with e8 e9 e10
 subst e8 e10
 have hs:=(e2.tr hc).size
 have hlow : ∀ i,i < W.heap.size → i < w'.heap.size ∧ lab0 i = 0:=fun i hi=>⟨by omega,Decidable.byContradiction (fun e=>by have:=e3 i e; omega)⟩
 have hb2:=e2.tr hc
 have ho2:=own_chg e6 hc (fun _ _=>id)
 refine ⟨fun k=>k < w'.heap.size ∧ lab0 k = 0,fun k e=>e.1,⟨lab0,ps0,pj0,P0,e1.new hc,Chg.refl _ _,fun k hk e=>hk e.2⟩,fun u e=>hb2.trans e (fun i hi g=>g (hlow i hi)), ?_⟩
 rintro u c' y ⟨lab',ps',pj',P',g1,g2,g3⟩
 refine ⟨⟨lab',ps',pj',P',g1,hb2.trans g2 (fun i hi g=>g (hlow i hi)),fun k hk=>Nat.le_of_not_lt (fun e=>g3 k hk (hlow k e)),⟨A,d,rfl,hn,own_chg ho g2 (fun k hk e=>e ⟨(ho.lt k (own_blk17 hk)).2,e7 k (own_blk17 hk)⟩)⟩,fun k hk=>Decidable.byContradiction (fun e=>g3 k e ⟨(ho.lt k hk).2,e7 k hk⟩)⟩,hr.chg g2 (fun k hk e=>e ⟨hk.2,e1.q.lt k hk.1⟩)⟩
theorem NV17.owner {A' : Option Addr} {n' d' : Nat} {K' : List RV} (h : NV17 W w c pf x v n K) (hn : n' = K'.length) (ho : w'.ownsRow W.heap.size 60 9 (.slice A' n' d') n' (flat17 K')) (hc : Chg (fun k=>v.ownBlock = some k) w w') (hv : (Value.slice A' n' d').ownBlock = v.ownBlock ∨ ∀ k,(Value.slice A' n' d').ownBlock = some k → w.heap.size ≤ k) : NV17 W w' c pf x (.slice A' n' d') n' K':=by
 obtain ⟨lab,ps,pj,P,h1,h2,h3,⟨A,d,rfl,hn0,ho0⟩,h5⟩:=h
 refine ⟨lab,ps,pj,P,h1.free17 hc h5,h2.trans hc (fun i hi e => ?_),h3,⟨A',d',rfl,hn,ho⟩,fun k hk => ?_⟩
 ·have:=(ho0.lt i e).1
  omega
 ·rcases hv with e | e
  ·exact h5 k (e.symm.trans hk)
  ·exact h1.q.lt k (e k hk)
end
end Go.Proofs.YtnojmbejedlilaaGreat
