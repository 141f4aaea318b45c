/-
  A controller, its file, and what a walk put next to them: each call by a contract. Conditions: they lie in memory, apart.
-/
import Derived.Test.YtnojmbejedlilaaGreatKQIt
set_option linter.unusedVariables false
set_option linter.unusedSimpArgs false
namespace Go.Proofs.YtnojmbejedlilaaGreat
open Go.Value renaming int→U
open Go.IntKind renaming i64→Z
open Go.RowKit
abbrev kj:=List (Nat×TypeId×Array Value)
def vw(G:Nat→Prop)(w0 Wb:World)(bl:kj):Prop:=(∀k,G k→k<Wb.heap.size)∧(∀w',Chg (fun k=>¬G k) Wb w'→Chg (fun _=>False) w0 w')∧∀b∈bl,G b.1∧Blk Wb b.1 b.2.1 b.2.2
def bX(w0 w:World)(c pf:Nat)(x:KV)(bl:kj):Prop:=∃(G:Nat→Prop) (Wb:World),bu G Wb w c pf x∧vw G w0 Wb bl
def kl(w0 w:World)(pf:Nat)(bs:List UInt8)(sf rm:Nat)(bl:kj):Prop:=∃(G:Nat→Prop) (Wb:World),eX G Wb pf bs sf rm w∧vw G w0 Wb bl
section
variable {w0 w : World} {c pf : Nat} {x : KV} {bl : kj} {j : Nat}
theorem bX.was(h:bX w0 w c pf x bl):Chg (fun _=>False) w0 w:=by
 obtain⟨G,Wb,h1,h2,h3,h4⟩:=h;exact h3 _ h1.was
theorem bX.new{w':World}(h:bX w0 w c pf x bl)(hc:Chg (fun _=>False) w w'):bX w0 w' c pf x bl:=by
 obtain⟨G,Wb,h1,h2⟩:=h;exact⟨G,Wb,h1.new hc,h2⟩
theorem bX.blk(h:bX w0 w c pf x bl){b:Nat×TypeId×Array Value}(hb:b∈bl):Blk w b.1 b.2.1 b.2.2:=by
 obtain⟨G,Wb,h1,h2,h3,h4⟩:=h;exact eY (h4 b hb).2 h1.was (h4 b hb).1
theorem bX.box(h:bX w0 w c pf x bl)(T:TypeId)(cs:Array Value):bX w0 (w.alloc (.cells cs T)) c pf x ((w.heap.size,T,cs)::bl):=by
 obtain⟨G,Wb,h1,h2,h3,h4⟩:=h;have hc:=(Chg.refl (fun _=>False) w).alloc (.cells cs T);have hn:Blk (w.alloc (.cells cs T)) w.heap.size T cs:=af rfl;have hlt:=hn.lt;have hw:Chg (fun k=>¬G k) Wb (w.alloc (.cells cs T)):=h1.was.trans hc (fun _ _ e=>False.elim e);refine⟨fun k=>G k∨k=w.heap.size,w.alloc (.cells cs T),h1.more (fun k=>k=w.heap.size) hc (fun k e=>by omega),fun k e=>?_,fun w' e=>h3 _ (hw.trans e (fun i _ e2 g=>e2 (.inl g))),fun b hb=>?_⟩
 ·have:=hw.size;rcases e with e|e
  ·have:=h2 k e;omega
  ·omega
 ·rcases List.mem_cons.1 hb with rfl|hb
  ·exact⟨.inr rfl,hn⟩
  ·exact⟨.inl (h4 b hb).1,eY (h4 b hb).2 hw (h4 b hb).1⟩
theorem jy(h:bX w0 w c pf x bl)(ho:KOk j x)(op po ch ma:Int)(hma:0≤ma):Calls Tryz.prog 23 #[.pointer (some ⟨c,0,none⟩),.agg #[U Z op,U Z po,U Z ch,U .u64 ma]] w fun e w'=>e=.returned (.tuple #[.agg (aP x op po ch ma).1.cs,U Z (aP x op po ch ma).2.1])∧bX w0 w' c pf (aP x op po ch ma).2.2 bl:=by
 obtain⟨G,Wb,h1,h2⟩:=h;refine(lE h2.1 h1 ho op po ch ma hma).mono ?_;rintro e w' ⟨rfl,hk⟩;exact⟨rfl,G,Wb,hk,h2⟩
theorem ti(h:bX w0 w c pf x bl)(ho:KOk j x)(hj:j≤100000)(ch:Int)(A:Option Addr)(n bc:Nat)(b:List UInt8)(hb:iJ w A n bc b):Calls Tryz.prog 31 #[.pointer (some ⟨c,0,none⟩),U Z ch,.slice A n bc] w fun e w'=>(∃(A:Option Addr) (rc:Nat),e=.returned (.tuple #[.agg (msC (au x ch b).1.kd (au x ch b).1.po (au x ch b).1.ma (au x ch b).1.ow (au x ch b).1.ta (au x ch b).1.ol (au x ch b).1.ge (au x ch b).1.ph (au x ch b).1.ve (au x ch b).1.si (au x ch b).1.pt (au x ch b).1.vr A (au x ch b).1.l.length rc),U Z (au x ch b).2.1]))∧bX w0 w' c pf (au x ch b).2.2 bl:=by
 obtain⟨G,Wb,h1,h2⟩:=h;refine(l9 h2.1 h1 ho hj ch A n bc b hb).mono ?_;rintro e w' ⟨he,hk⟩;exact⟨he,G,Wb,hk,h2⟩
theorem tj(h:bX w0 w c pf x bl)(ho:KOk j x)(now:Int):Calls Tryz.prog 33 #[.pointer (some ⟨c,0,none⟩),U Z now] w fun e w'=>e=.returned (U Z (bG x now).1)∧bX w0 w' c pf (bG x now).2 bl:=by
 obtain⟨G,Wb,h1,h2⟩:=h;refine(l_ h2.1 h1 ho now).mono ?_;rintro e w' ⟨rfl,hk⟩;exact⟨rfl,G,Wb,hk,h2⟩
theorem tl(h:bX w0 w c pf x bl)(ho:KOk j x)(op po ch ma:Int)(hma:0≤ma):Calls Tryz.prog 24 #[.pointer (some ⟨c,0,none⟩),.agg #[U Z op,U Z po,U Z ch,U .u64 ma]] w fun e w'=>e=.returned (U Z (aB x op po ch ma).1)∧bX w0 w' c pf (aB x op po ch ma).2 bl:=by
 obtain⟨G,Wb,h1,h2⟩:=h;refine(jk h2.1 h1 ho op po ch ma hma).mono ?_;rintro e w' ⟨rfl,hk⟩;exact⟨rfl,G,Wb,hk,h2⟩
theorem tm(h:bX w0 w c pf x bl):Calls Tryz.prog 22 #[.pointer (some ⟨c,0,none⟩)] w (lh (bw x.t.C) w):=by
 obtain⟨G,Wb,h1,h2⟩:=h;exact fw h1
theorem tt(h:bX w0 w c pf x bl):Calls Tryz.prog 28 #[.pointer (some ⟨c,0,none⟩)] w fun e w'=>e=.returned (U Z x.t.bt)∧w=w':=by
 obtain⟨G,Wb,h1,h2⟩:=h;exact s_ h1
theorem qS(h:bX w0 w c pf x bl)(ho:KOk j x)(keep:Int):Calls Tryz.prog 25 #[.pointer (some ⟨pf,0,none⟩),U Z keep] w fun e w'=>(∃n:Int,e=.returned (U Z n))∧kl w0 w' pf (dQ x keep) (crN x.bs x.sf keep) x.rm bl:=by
 obtain⟨G,Wb,h1,h2⟩:=h;refine(fU h2.1 h1 ho keep).mono ?_;rintro e w' ⟨he,hk⟩;exact⟨he,G,Wb,hk,h2⟩
theorem tu{y:KV}{keep:Int}(h:kl w0 w pf (dQ y keep) (crN y.bs y.sf keep) y.rm bl)(ho:KOk j y){sp no:Int}(he:gS y keep sp no=0):Calls Tryz.prog 18 #[.pointer (some ⟨pf,0,none⟩),U Z sp,U Z no] w fun e w'=>∃c,e=.returned (.tuple #[.pointer (some ⟨c,0,none⟩),U Z 0])∧bX w0 w' c pf (bQ y keep sp no) bl:=by
 obtain⟨G,Wb,h1,h2⟩:=h;refine(gU h2.1 h1 ho he).mono ?_;rintro e w' ⟨c,rfl,hk⟩;exact⟨c,rfl,G,Wb,hk,h2⟩
theorem vc(hc:Chg (fun _=>False) w0 w):Calls Tryz.prog 8 #[U Z 65536] w fun e w'=>∃pf,e=.returned (.tuple #[.pointer (some ⟨pf,0,none⟩),U Z 0])∧kl w0 w' pf [] 0 65536 []:=by
 refine Calls.mono (rG (W:=w) 65536 (by decide)) ?_;rintro e w' ⟨rfl,h1,h2,o,h3,h4⟩;exact⟨_,rfl,fun k=>k<w.heap.size,w,⟨h1.mono (fun _ _ e=>False.elim e),by omega,o,h3,fun k hk e=>by have:=h4 k hk;omega⟩,fun k e=>e,fun w' e=>hc.trans (e.mono (S':=fun _=>False) (fun k hk e2=>e2 hk)) (fun _ _ e=>e),fun b hb=>by cases hb⟩
theorem tz(h:kl w0 w pf [] 0 65536 bl){sp no:Int}(he:ck [] 0 65536 sp no=0):Calls Tryz.prog 18 #[.pointer (some ⟨pf,0,none⟩),U Z sp,U Z no] w fun e w'=>∃c,e=.returned (.tuple #[.pointer (some ⟨c,0,none⟩),U Z 0])∧bX w0 w' c pf (bz [] 0 65536 sp no) bl:=by
 obtain⟨G,Wb,h1,h2⟩:=h;refine(fS G Wb h2.1 pf [] 0 65536 sp no w h1 (by decide) (by decide) (by decide)).mono ?_;rintro e w' ⟨pv,rfl,g1,g2⟩;obtain⟨c,rfl,g3,g4⟩:=g1 he;exact⟨c,by rw[he],G,Wb,g3,h2⟩
theorem kl.new{w':World}{bs:List UInt8}{sf rm:Nat}(h:kl w0 w pf bs sf rm bl)(hc:Chg (fun _=>False) w w'):kl w0 w' pf bs sf rm bl:=by
 obtain⟨G,Wb,h1,h2⟩:=h;exact⟨G,Wb,h1.new hc,h2⟩
end
end Go.Proofs.YtnojmbejedlilaaGreat
