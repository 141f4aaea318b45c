/-
  Walks: rutterlaw11.Of, rutterref11.Right, Begin, Push. Conditions: the letter's body is read in memory; the document's session lies in memory.
-/
import Derived.Test.YtnojmbejedlilaaGreatKQM9
import Derived.Test.YtnojmbejedlilaaGreatKQM2
import Derived.Test.YtnojmbejedlilaaGreatKQM1
set_option linter.unusedVariables false
set_option linter.unusedSimpArgs false
namespace Go.Proofs.YtnojmbejedlilaaGreat
open Go.Value renaming int→U
open Go.IntKind renaming i64→Z
open Go.RowKit
def rlC(m p a s:Int)(b:ByteArray):Array Value:=#[U Z m,U Z p,U Z a,U Z s,.string b]
theorem gB{w:World}{r:Nat}{T:TypeId}{m p a s:Int}{b:ByteArray}(h:Blk w r T (rlC m p a s b)):
  w.cell? ⟨r,0,none⟩=some (U Z m)∧w.cell? ⟨r,1,none⟩=some (U Z p)∧w.cell? ⟨r,2,none⟩=some (U Z a)∧w.cell? ⟨r,3,none⟩=some (U Z s)∧w.cell? ⟨r,4,none⟩=some (.string b):=by
 have h0:=h.cell 0;have h1:=h.cell 1;have h2:=h.cell 2;have h3:=h.cell 3;have h4:=h.cell 4;simp only[rlC,List.getElem?_toArray,List.getElem?_cons_zero,List.getElem?_cons_succ]at h0 h1 h2 h3 h4;exact⟨h0,h1,h2,h3,h4⟩
def rsC(mi pe nx go:Int)(A:Option Addr)(m c:Nat):Array Value:=#[U Z mi,U Z pe,U Z nx,U Z go,.slice A m c]
def zB(q:List (List UInt8)):List Value:=q.map fun b=>.string ⟨b.toArray⟩
def RN(w:World)(q:Nat)(o:Option Nat)(x:SV):Prop:=
 ∃A c,Blk w q 160 (rsC x.mi x.pe x.nx x.go A x.q.length c)∧w.ownsRow 0 9 1 (.slice A x.q.length c) x.q.length (zB x.q)∧A.map (·.block)=o∧o≠some q
theorem RN.lt{w:World}{q:Nat}{o:Option Nat}{x:SV}(h:RN w q o x):q<w.heap.size∧∀k,o=some k→k<w.heap.size:=by
 obtain⟨A,c,hb,hown,ho,_⟩:=h;refine⟨hb.lt,fun k hk=>?_⟩;rw[hk]at ho;exact(hown.lt k (by rw[aG];exact ho)).2
theorem RN.chg{S:Nat→Prop}{w w':World}{q:Nat}{o:Option Nat}{x:SV}(h:RN w q o x)(hc:Chg S w w')(hp:¬S q)(ho:∀k,o=some k→¬S k):RN w' q o x:=by
 obtain⟨A,c,hb,hown,h1,h2⟩:=h;exact⟨A,c,hb.chg hc hp,ay hown hc (fun k hk=>ho k (by rw[←h1];exact hk)),h1,h2⟩
theorem RN.new{w w':World}{q:Nat}{o:Option Nat}{x:SV}(h:RN w q o x)(hc:Chg (fun _=>False) w w'):RN w' q o x:=h.chg hc id (fun _ _=>id)
theorem RN.drew{w:World}{q:Nat}{o:Option Nat}{x:SV}(h:RN w q o x):RN w.drew q o x:=h
end Go.Proofs.YtnojmbejedlilaaGreat
