/-
  What is known of owners along acts, plain. No condition.
-/
import Derived.Test.YtnojmbejedlilaaGreatKQIr
set_option linter.unusedVariables false
set_option linter.unusedSimpArgs false
namespace Go.Proofs.YtnojmbejedlilaaGreat
open _root_.List renaming mem_append→Bg,getElem?_eq_some_iff→zS
open Go.Value renaming int→U
open Go.IntKind renaming i64→Z
open Go.RowKit
def jl(K:List RV)(R:Int→Option RV):Prop:=∀k∈K,∃r,R k.po=some r∧(k.ge<r.ge∨(k.ge=r.ge∧(k.ow=r.ow∨k.ow<0∨r.ow<0)))
theorem jl.step{K:List RV}{t u:ba}(h:jl K t.R)(g:cF t u):jl K u.R:=by
 intro k hk;obtain⟨r,hr,h1⟩:=h k hk;obtain⟨y,hy,_,h2⟩:=g.2 _ r hr;refine⟨y,hy,?_⟩;rcases h2 with h2|⟨h2,h3⟩
 ·rcases h1 with h1|⟨h1,_⟩
  ·exact .inl (by omega)
  ·exact .inl (by omega)
 ·rcases h1 with h1|⟨h1,h4⟩
  ·exact .inl (by omega)
  ·exact .inr ⟨by omega,by omega⟩
theorem jl.own{K:List RV}{C:Int→Bool}{R:Int→Option RV}(h:jl K R)(hw:WF C R):yh K (aO R):=by
 intro i r hi k hk;obtain⟨z,hz⟩:=hw.mem.1 (List.mem_of_getElem? hi);have hpo:=(hw.row z r hz).2.1;rintro⟨h1,h2,h3,h4,h5⟩;rcases Bg.1 hk with hk|hk
 ·obtain⟨y,hy,h6⟩:=h k hk;rw[h1,hpo,hz]at hy;injection hy with hy;subst hy;omega
 ·obtain⟨a,ha⟩:=List.mem_iff_getElem?.1 hk;rw[List.getElem?_take]at ha
  split at ha
  ·rename_i hai;obtain⟨hl,rfl⟩:=zS.1 hi;obtain⟨hl2,rfl⟩:=zS.1 ha;have:=(List.pairwise_iff_getElem.1 hw.pair a i hl2 hl hai).1;omega
  ·cases ha
theorem jl.more{K:List RV}{C:Int→Bool}{R:Int→Option RV}(h:jl K R)(hw:WF C R):jl (K++aO R) R:=by
 intro k hk;rcases Bg.1 hk with hk|hk
 ·exact h k hk
 ·obtain⟨z,hz⟩:=hw.mem.1 hk;have hpo:=(hw.row z k hz).2.1;exact⟨k,by rw[hpo];exact hz,.inr ⟨rfl,.inl rfl⟩⟩
end Go.Proofs.YtnojmbejedlilaaGreat
