/-
  Walk: rutterlaw17.CtlNever. Conditions: the acts lie in memory.
-/
import Derived.Test.YtnojmbejedlilaaGreatKQIy
import Derived.Test.YtnojmbejedlilaaGreatKQIv
set_option maxRecDepth 100000
set_option maxHeartbeats 40000000
set_option linter.unusedVariables false
set_option linter.unusedSimpArgs false
namespace Go.Proofs.YtnojmbejedlilaaGreat
open Go.Value renaming int→U
open Go.IntKind renaming i64→Z
open Go.RowKit
theorem kX(W:World):Calls Tryz.prog 8 #[U Z 65536] W fun e w'=>∃pf,e=.returned (.tuple #[.pointer (some ⟨pf,0,none⟩),U Z 0])∧eX (fun k=>k<W.heap.size) W pf [] 0 65536 w':=by
 refine Calls.mono (rG (W:=W) 65536 (by decide)) ?_;rintro e w' ⟨rfl,h1,h2,o,h3,h4⟩;exact⟨_,rfl,h1.mono (fun _ _ e=>False.elim e),by omega,o,h3,fun k hk e=>by have:=h4 k hk;omega⟩
theorem qV:du ts0.R=0:=by kernel_rfl
theorem km{sp:Int}(h:1≤sp∧sp≤2147483648):ck [] 0 65536 sp 0=0∧cQ 1 1 (bz [] 0 65536 sp 0):=by
 obtain⟨f1,f2,f3,f4,f5,f6,f7,f8,f9⟩:=kg (t:=ts0) (bs:=[]) (rm:=65536) (sp:=sp) (no:=0) (by rw[iu];rfl) (by decide) (by decide) (by decide) h (by decide);have f6:eD (bz [] 0 65536 sp 0)≤0+35*du ts0.R+35:=f6;have f7:(bz [] 0 65536 sp 0).t.bt=0+1:=f7;rw[qV]at f6;exact⟨f1,f2.le (by omega),f3,f4,f5,by omega,by omega⟩
end Go.Proofs.YtnojmbejedlilaaGreat
