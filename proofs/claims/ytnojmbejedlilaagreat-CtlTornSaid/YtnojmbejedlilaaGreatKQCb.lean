/-
  A controller in memory: its block, its store, its journal and file, its lines, apart by labels. No condition.
-/
import Derived.Test.YtnojmbejedlilaaGreatKQCa
import Derived.Test.YtnojmbejedlilaaGreatKQMA
set_option linter.unusedVariables false
set_option linter.unusedSimpArgs false
namespace Go.Proofs.YtnojmbejedlilaaGreat
open Go.Value renaming bool→CD
open List renaming getElem?_append_right→B3,getElem?_append_left→B2,set_append_right→CE,set_append_left→CF
open Nat renaming lt_of_lt_of_le→zI
open Go.Value renaming int→U
open Go.IntKind renaming i64→Z
open Go.RowKit
def dK(V:Nat→Value)(B:Nat→Bool):List Value:=(List.range 16).flatMap (fun i:Nat=>[V i,.bool (B i)])
def fK(ps:Nat)(bt:Int)(pj:Nat)(sp no:Int):List Value:=[.pointer (some ⟨ps,0,none⟩),U Z bt,.pointer (some ⟨pj,0,none⟩),U Z sp,U Z no]
def kO(ps:Nat)(bt:Int)(pj:Nat)(sp no:Int)(V:Nat→Value)(B:Nat→Bool)(st:Bool):List Value:=fK ps bt pj sp no++(dK V B++[CD st])
def aX(w:World)(c ps:Nat)(bt:Int)(pj:Nat)(sp no:Int)(V:Nat→Value)(B:Nat→Bool)(st:Bool):Prop:=Blk w c 105 (kO ps bt pj sp no V B st).toArray
theorem eL(V:Nat→Value)(B:Nat→Bool):(dK V B).length=32:=rfl
theorem wL(V:Nat→Value)(B:Nat→Bool):∀{i:Nat},i<16→(dK V B)[i*2]?=some (V i):=by
 intro i h
 exact match i,h with
 |0,_=>rfl
 |1,_=>rfl
 |2,_=>rfl
 |3,_=>rfl
 |4,_=>rfl
 |5,_=>rfl
 |6,_=>rfl
 |7,_=>rfl
 |8,_=>rfl
 |9,_=>rfl
 |10,_=>rfl
 |11,_=>rfl
 |12,_=>rfl
 |13,_=>rfl
 |14,_=>rfl
 |15,_=>rfl
 |n+16,h=>absurd h (by omega)
theorem wM(V:Nat→Value)(B:Nat→Bool):∀{i:Nat},i<16→(dK V B)[i*2+1]?=some (.bool (B i)):=by
 intro i h
 exact match i,h with
 |0,_=>rfl
 |1,_=>rfl
 |2,_=>rfl
 |3,_=>rfl
 |4,_=>rfl
 |5,_=>rfl
 |6,_=>rfl
 |7,_=>rfl
 |8,_=>rfl
 |9,_=>rfl
 |10,_=>rfl
 |11,_=>rfl
 |12,_=>rfl
 |13,_=>rfl
 |14,_=>rfl
 |15,_=>rfl
 |n+16,h=>absurd h (by omega)
theorem qj(V:Nat→Value)(B:Nat→Bool)(v:Value):∀{i:Nat},i<16→(dK V B).set (i*2) v=dK (aF V i v) B:=by
 intro i h
 exact match i,h with
 |0,_=>rfl
 |1,_=>rfl
 |2,_=>rfl
 |3,_=>rfl
 |4,_=>rfl
 |5,_=>rfl
 |6,_=>rfl
 |7,_=>rfl
 |8,_=>rfl
 |9,_=>rfl
 |10,_=>rfl
 |11,_=>rfl
 |12,_=>rfl
 |13,_=>rfl
 |14,_=>rfl
 |15,_=>rfl
 |n+16,h=>absurd h (by omega)
theorem qk(V:Nat→Value)(B:Nat→Bool)(b:Bool):∀{i:Nat},i<16→(dK V B).set (i*2+1) (.bool b)=dK V (aF B i b):=by
 intro i h
 exact match i,h with
 |0,_=>rfl
 |1,_=>rfl
 |2,_=>rfl
 |3,_=>rfl
 |4,_=>rfl
 |5,_=>rfl
 |6,_=>rfl
 |7,_=>rfl
 |8,_=>rfl
 |9,_=>rfl
 |10,_=>rfl
 |11,_=>rfl
 |12,_=>rfl
 |13,_=>rfl
 |14,_=>rfl
 |15,_=>rfl
 |n+16,h=>absurd h (by omega)
section
variable {w w' : World} {c ps : Nat} {bt : Int} {pj : Nat} {sp no : Int} {V : Nat → Value} {B : Nat → Bool} {st : Bool}
theorem aX.chg{S:Nat→Prop}(h:aX w c ps bt pj sp no V B st)(hc:Chg S w w')(hn:¬S c):aX w' c ps bt pj sp no V B st:=Blk.chg h hc hn
theorem aX.free(h:aX w c ps bt pj sp no V B st)(i:Nat):w.frozen? ⟨c,i,none⟩=false:=Blk.frozen h i
theorem aX.lt(h:aX w c ps bt pj sp no V B st):c<w.heap.size:=Blk.lt h
theorem aX.hd(h:aX w c ps bt pj sp no V B st):w.cell? ⟨c,0,none⟩=some (.pointer (some ⟨ps,0,none⟩))∧w.cell? ⟨c,1,none⟩=some (U Z bt)∧w.cell? ⟨c,2,none⟩=some (.pointer (some ⟨pj,0,none⟩))∧w.cell? ⟨c,3,none⟩=some (U Z sp)∧w.cell? ⟨c,4,none⟩=some (U Z no):=
 ⟨by rw[Blk.cell h];rfl,by rw[Blk.cell h];rfl,by rw[Blk.cell h];rfl,by rw[Blk.cell h];rfl,by rw[Blk.cell h];rfl⟩
theorem aX.at(h:aX w c ps bt pj sp no V B st)(k:Nat):w.cell? ⟨c,5+k,none⟩=(dK V B++[CD st])[k]?:=by
 rw[Blk.cell h,List.getElem?_toArray,show kO ps bt pj sp no V B st=fK ps bt pj sp no++(dK V B++[CD st])from rfl,B3 (by simp[fK])];congr 1;simp[fK]
theorem aX.line(h:aX w c ps bt pj sp no V B st){i:Nat}(hi:i<16):w.cell? ⟨c,5+i*2,none⟩=some (V i)∧w.cell? ⟨c,5+i*2+1,none⟩=some (.bool (B i)):=by
 constructor
 ·rw[h.at,B2 (by rw[eL];omega),wL V B hi]
 ·rw[Nat.add_assoc,h.at,B2 (by rw[eL];omega),wM V B hi]
theorem aX.stop(h:aX w c ps bt pj sp no V B st):w.cell? ⟨c,37,none⟩=some (.bool st):=by
 have:=h.at 32;rw[B3 (by rw[eL];omega)]at this;exact this
theorem aX.setTS(h:aX w c ps bt pj sp no V B st)(ps':Nat)(bt':Int):aX ((w.setCell ⟨c,0,none⟩ (.pointer (some ⟨ps',0,none⟩))).setCell ⟨c,1,none⟩ (U Z bt')) c ps' bt' pj sp no V B st:=Blk.set (Blk.set h 0 (.pointer (some ⟨ps',0,none⟩))) 1 (U Z bt')
theorem aX.setNo(h:aX w c ps bt pj sp no V B st)(no':Int):aX (w.setCell ⟨c,4,none⟩ (U Z no')) c ps bt pj sp no' V B st:=Blk.set h 4 (U Z no')
theorem aX.setAt(h:aX w c ps bt pj sp no V B st)(k:Nat)(v:Value):Blk (w.setCell ⟨c,5+k,none⟩ v) c 105 (fK ps bt pj sp no++(dK V B++[CD st]).set k v).toArray:=by
 have:=Blk.set h (5+k) v;rw[List.setIfInBounds_toArray,show kO ps bt pj sp no V B st=fK ps bt pj sp no++(dK V B++[CD st])from rfl,CE _ _ (by simp[fK])]at this;rw[show 5+k-(fK ps bt pj sp no).length=k by simp[fK]]at this;exact this
theorem aX.setV(h:aX w c ps bt pj sp no V B st){i:Nat}(hi:i<16)(v:Value):aX (w.setCell ⟨c,5+i*2,none⟩ v) c ps bt pj sp no (aF V i v) B st:=by
 have:=h.setAt (i*2) v;rw[CF _ _ (by rw[eL];omega),qj V B v hi]at this;exact this
theorem aX.setB(h:aX w c ps bt pj sp no V B st){i:Nat}(hi:i<16)(b:Bool):aX (w.setCell ⟨c,5+i*2+1,none⟩ (.bool b)) c ps bt pj sp no V (aF B i b) st:=by
 have:=h.setAt (i*2+1) (.bool b);rw[CF _ _ (by rw[eL];omega),qk V B b hi]at this;exact this
theorem aX.setSt(h:aX w c ps bt pj sp no V B st)(b:Bool):aX (w.setCell ⟨c,37,none⟩ (.bool b)) c ps bt pj sp no V B b:=by
 have:=h.setAt 32 (.bool b);rw[CE _ _ (by rw[eL];omega)]at this;exact this
end
def ev(lab:Nat→Nat)(w:World):Prop:=∀k,w.heap.size≤k→lab k=0
def am(N:Nat→Prop)(lab lab':Nat→Nat)(w w':World):Prop:=Chg (fun k=>N (lab k)) w w'∧∀k,k<w.heap.size→lab' k=lab k
def hJ(lab:Nat→Nat)(w w':World)(n:Nat):Nat→Nat:=fun k=>if k<w.heap.size then lab k else if k<w'.heap.size then n else 0
def fL(lab:Nat→Nat)(w w':World)(o:Option Nat)(n:Nat):Nat→Nat:=fun k=>if k<w.heap.size then lab k else if k<w'.heap.size then(if o=some k then n else 30)else 0
theorem dE{lab:Nat→Nat}{w w':World}{o:Option Nat}{n k:Nat}(h:k<w.heap.size):fL lab w w' o n k=lab k:=if_pos h
theorem sB{lab:Nat→Nat}{w w':World}{o:Option Nat}{n k:Nat}(h:w.heap.size≤k)(h2:k<w'.heap.size)(ho:o=some k):fL lab w w' o n k=n:=by unfold fL;rw[if_neg (by omega),if_pos h2,if_pos ho]
theorem i7{lab:Nat→Nat}{w w':World}{o:Option Nat}{n k:Nat}(h:w.heap.size≤k)(h2:k<w'.heap.size)(ho:o≠some k):fL lab w w' o n k=30:=by unfold fL;rw[if_neg (by omega),if_pos h2,if_neg ho]
theorem j0{lab:Nat→Nat}{w w':World}{o:Option Nat}{n:Nat}(h:w.heap.size≤w'.heap.size):ev (fL lab w w' o n) w':=fun k hk=>by unfold fL;rw[if_neg (by omega),if_neg (by omega)]
theorem j1{lab:Nat→Nat}{w w':World}{n k:Nat}(h:k<w.heap.size):hJ lab w w' n k=lab k:=if_pos h
theorem uI{lab:Nat→Nat}{w w':World}{n k:Nat}(h:w.heap.size≤k)(h2:k<w'.heap.size):hJ lab w w' n k=n:=by unfold hJ;rw[if_neg (by omega),if_pos h2]
theorem wN{lab:Nat→Nat}{w w':World}{n:Nat}(h:w.heap.size≤w'.heap.size):ev (hJ lab w w' n) w':=fun k hk=>by unfold hJ;rw[if_neg (by omega),if_neg (by omega)]
theorem ev.new{lab:Nat→Nat}{w w':World}(h:ev lab w)(hc:w.heap.size≤w'.heap.size):ev lab w':=fun k hk=>h k (by omega)
section
variable {N N' : Nat → Prop} {lab lab1 lab2 : Nat → Nat} {w w1 w2 : World}
theorem am.of(hc:Chg (fun _=>False) w w1):am N lab lab w w1:=⟨hc.mono (fun _ _ e=>e.elim),fun _ _=>rfl⟩
theorem am.refl(N:Nat→Prop)(lab:Nat→Nat)(w:World):am N lab lab w w:=am.of (Chg.refl _ _)
theorem am.mono(h:am N lab lab1 w w1)(hN:∀n,N n→N' n):am N' lab lab1 w w1:=⟨h.1.mono (fun _ _ e=>hN _ e),h.2⟩
theorem am.trans(h:am N lab lab1 w w1)(k:am N lab1 lab2 w1 w2):am N lab lab2 w w2:=
 ⟨h.1.trans k.1 (fun i hi e=>by rw[h.2 i hi]at e;exact e),fun i hi=>(k.2 i (zI hi h.1.size)).trans (h.2 i hi)⟩
theorem am.put{p:Nat}(h:am N lab lab1 w w1)(hc:Chg (fun k=>k=p) w1 w2)(hp:p<w.heap.size→N (lab p)):am N lab lab1 w w2:=
 ⟨h.1.trans (hc.mono (S':=fun k=>k=p) (fun _ _ e=>e)) (fun i hi e=>by subst e;exact hp hi),h.2⟩
theorem am.relab(h:am N lab lab1 w w1)(hl:∀k,k<w.heap.size→lab2 k=lab1 k):am N lab lab2 w w1:=⟨h.1,fun k hk=>(hl k hk).trans (h.2 k hk)⟩
end
def lA(w:World)(lab:Nat→Nat)(pf:Nat)(bs:List UInt8)(sf rm:Nat):Prop:=∃o,Fi 80 w pf o bs sf rm∧lab pf=4∧∀k,o=some k→lab k=4
def dY(w:World)(lab:Nat→Nat)(n p:Nat)(s:SV):Prop:=∃o G,SN w p o G s∧lab p=n∧(∀k,o=some k→lab k=n)∧∀k,G k→k<w.heap.size∧lab k=30
def j2(w:World)(lab:Nat→Nat)(ps:Nat)(t:ba):Prop:=∃B bc br,CS B w ps bc br t.C t.R∧lab ps=2∧lab bc=2∧lab br=2
section
variable {N : Nat → Prop} {lab lab1 : Nat → Nat} {w w1 : World} {pf ps p n sf rm : Nat} {bs : List UInt8} {s : SV} {t : ba}
theorem CS.lt3{B:Nat}{w:World}{p bc br:Nat}{C:Int→Bool}{R:Int→Option RV}(h:CS B w p bc br C R):p<w.heap.size∧bc<w.heap.size∧br<w.heap.size:=⟨h.blk.lt,h.ch.lt,h.ro.lt⟩
theorem lA.mv(h:lA w lab pf bs sf rm)(m:am N lab lab1 w w1)(hn:¬N 4):lA w1 lab1 pf bs sf rm:=by
 obtain⟨o,hf,h1,h2⟩:=h;have hl:=hf.lt;exact⟨o,hf.chg m.1 (by rw[h1];exact hn) (fun k hk=>by rw[h2 k hk];exact hn),(m.2 _ hl.1).trans h1,fun k hk=>(m.2 _ (hl.2 k hk)).trans (h2 k hk)⟩
theorem dY.mv(h:dY w lab n p s)(m:am N lab lab1 w w1)(hn:¬N n)(h30:¬N 30):dY w1 lab1 n p s:=by
 obtain⟨o,G,hs,h1,h2,h3⟩:=h;have hl:=hs.lt;exact⟨o,G,hs.chg m.1 (by rw[h1];exact hn) (fun k hk=>by rw[h2 k hk];exact hn) (fun k hk=>by rw[(h3 k hk).2];exact h30),(m.2 _ hl.1).trans h1,fun k hk=>(m.2 _ (hl.2 k hk)).trans (h2 k hk),fun k hk=>⟨zI (h3 k hk).1 m.1.size,(m.2 _ (h3 k hk).1).trans (h3 k hk).2⟩⟩
theorem j2.mv(h:j2 w lab ps t)(m:am N lab lab1 w w1)(hn:¬N 2):j2 w1 lab1 ps t:=by
 obtain⟨B,bc,br,hs,h1,h2,h3⟩:=h;have hl:=hs.lt3;exact⟨B,bc,br,hs.chg m.1 (by rw[h1];exact hn) (by rw[h2];exact hn) (by rw[h3];exact hn),(m.2 _ hl.1).trans h1,(m.2 _ hl.2.1).trans h2,(m.2 _ hl.2.2).trans h3⟩
theorem dY.lt(h:dY w lab n p s):p<w.heap.size:=by
 obtain⟨o,G,hs,_⟩:=h;exact hs.lt.1
theorem j2.lt(h:j2 w lab ps t):ps<w.heap.size:=by
 obtain⟨B,bc,br,hs,_⟩:=h;exact hs.lt3.1
theorem wO{o:Option Nat}{G:Nat→Prop}{y:SV}(hs:SN w p o G s)(h1:lab p=n)(h2:∀k,o=some k→lab k=n)(h3:∀k,G k→k<w.heap.size∧lab k=30)(hm:SM p o G y w w1):∃lab',dY w1 lab' n p y∧am (fun m=>m=n) lab lab' w w1∧ev lab' w1:=by
 have hl:=hs.lt;obtain⟨o',hsn,hmv⟩:=hm;have hc:Chg (fun k=>lab k=n) w w1:=hmv.1.mono (fun k _ e=>e.elim (fun e=>by rw[e];exact h1) (fun e=>h2 k e));refine⟨fL lab w w1 o' n,⟨o',_,hsn.old,(dE hl.1).trans h1,fun k hk=>?_,fun k hk=>⟨hk.2,?_⟩⟩,⟨hc,fun k hk=>dE hk⟩,j0 hc.size⟩
 ·rcases hmv.2 with e|e|⟨j,e,hj⟩
  ·exact(dE (hl.2 k (by rw[←e];exact hk))).trans (h2 k (by rw[←e];exact hk))
  ·rw[e]at hk;cases hk
  ·have hkj:j=k:=by rw[e]at hk;injection hk
   subst hkj;exact sB hj (hsn.lt.2 _ e) e
 ·rcases hk.1 with e|e
  ·exact(dE e.2).trans (h3 k e.1).2
  ·exact i7 e.1 hk.2 e.2
theorem uJ{o:Option Nat}{G:Nat→Prop}{y:SV}(hs:SN w p o G s)(h1:lab p=n)(h2:∀k,o=some k→lab k=n)(h3:∀k,G k→k<w.heap.size∧lab k=30)(hm:SMq p o G y w w1):∃lab',dY w1 lab' n p y∧am (fun m=>m=n) lab lab' w w1∧ev lab' w1∧∀k,w.heap.size≤k→lab' k=30∨lab' k=0:=by
 have hl:=hs.lt;obtain⟨o',ho',hsn,hmv⟩:=hm;have hc:Chg (fun k=>lab k=n) w w1:=hmv.1.mono (fun k _ e=>e.elim (fun e=>by rw[e];exact h1) (fun e=>h2 k e))
 have hold:∀k,o'=some k→k<w.heap.size∧lab k=n:=fun k hk=>by
  rcases ho' with e|e
  ·exact⟨hl.2 k (by rw[←e];exact hk),h2 k (by rw[←e];exact hk)⟩
  ·rw[e]at hk;cases hk
 refine⟨fL lab w w1 o' n,⟨o',_,hsn.old,(dE hl.1).trans h1,fun k hk=>(dE (hold k hk).1).trans (hold k hk).2,fun k hk=>⟨hk.2,?_⟩⟩,⟨hc,fun k hk=>dE hk⟩,j0 hc.size,fun k hk=>?_⟩
 ·rcases hk.1 with e|e
  ·exact(dE e.2).trans (h3 k e.1).2
  ·exact i7 e.1 hk.2 e.2
 ·by_cases hk2:k<w1.heap.size
  ·exact .inl (i7 hk hk2 (fun e=>by have:=(hold k e).1;omega))
  ·exact .inr (j0 hc.size k (by omega))
theorem m7{o o':Option Nat}{bs':List UInt8}{sf':Nat}(hf:Fi 80 w pf o bs sf rm)(h1:lab pf=4)(h2:∀k,o=some k→lab k=4)(hf':Fi 80 w1 pf o' bs' sf' rm)(hm:Mvd pf o o' w w1):lA w1 (hJ lab w w1 4) pf bs' sf' rm∧am (fun m=>m=4) lab (hJ lab w w1 4) w w1∧ev (hJ lab w w1 4) w1:=by
 have hl:=hf.lt;have hc:Chg (fun k=>lab k=4) w w1:=hm.1.mono (fun k _ e=>e.elim (fun e=>by rw[e];exact h1) (fun e=>h2 k e));refine⟨⟨o',hf',(j1 hl.1).trans h1,fun k hk=>?_⟩,⟨hc,fun k hk=>j1 hk⟩,wN hc.size⟩;rcases hm.2 with e|e|⟨j,e,hj⟩
 ·exact(j1 (hl.2 k (by rw[←e];exact hk))).trans (h2 k (by rw[←e];exact hk))
 ·rw[e]at hk;cases hk
 ·rw[e]at hk;injection hk with hk;subst hk;exact uI hj (hf'.lt.2 _ e)
end
structure KQ(w:World)(lab:Nat→Nat)(c ps pj pf:Nat)(V:Nat→Value)(x:KV):Prop where
 lt:ev lab w
 cb:aX w c ps x.t.bt pj x.sp x.no V x.B x.st
 lc:lab c=1
 sr:j2 w lab ps x.t
 jb:Blk w pj 176 #[.pointer (some ⟨pf,0,none⟩)]
 lj:lab pj=3
 fi:lA w lab pf x.bs x.sf x.rm
def ql(P:Nat→Nat):Nat→Value:=fun i=>.pointer (some ⟨P i,0,none⟩)
structure KP(w:World)(lab:Nat→Nat)(c ps pj pf:Nat)(P:Nat→Nat)(x:KV):Prop where
 q:KQ w lab c ps pj pf (ql P) x
 ln:∀i,i<16→dY w lab (5+i) (P i) (x.S i)
section
variable {N : Nat → Prop} {lab lab1 : Nat → Nat} {w w1 : World} {c ps pj pf : Nat} {V : Nat → Value} {P : Nat → Nat} {x : KV}
theorem KQ.mv(h:KQ w lab c ps pj pf V x)(m:am N lab lab1 w w1)(hl:ev lab1 w1)(h1:¬N 1)(h2:¬N 2)(h3:¬N 3)(h4:¬N 4):KQ w1 lab1 c ps pj pf V x:=
 ⟨hl,h.cb.chg m.1 (by rw[h.lc];exact h1),(m.2 _ h.cb.lt).trans h.lc,h.sr.mv m h2,h.jb.chg m.1 (by rw[h.lj];exact h3),(m.2 _ h.jb.lt).trans h.lj,h.fi.mv m h4⟩
theorem KQ.new(h:KQ w lab c ps pj pf V x)(hc:Chg (fun _=>False) w w1):KQ w1 lab c ps pj pf V x:=h.mv (am.of (N:=fun _=>False) hc) (h.lt.new hc.size) id id id id
theorem KP.mv(h:KP w lab c ps pj pf P x)(m:am N lab lab1 w w1)(hl:ev lab1 w1)(h1:¬N 1)(h2:¬N 2)(h3:¬N 3)(h4:¬N 4)(h5:∀i,i<16→¬N (5+i))(h30:¬N 30):KP w1 lab1 c ps pj pf P x:=
 ⟨h.q.mv m hl h1 h2 h3 h4,fun i hi=>(h.ln i hi).mv m (h5 i hi) h30⟩
theorem KP.new(h:KP w lab c ps pj pf P x)(hc:Chg (fun _=>False) w w1):KP w1 lab c ps pj pf P x:=h.mv (am.of (N:=fun _=>False) hc) (h.q.lt.new hc.size) id id id id (fun _ _=>id) id
theorem KP.sess(h:KP w lab c ps pj pf P x){i:Nat}(hi:i<16){y:SV}(hs:dY w1 lab1 (5+i) (P i) y)(m:am (fun n=>n=5+i) lab lab1 w w1)(hl:ev lab1 w1):KP w1 lab1 c ps pj pf P {x with S:=aF x.S i y}:=by
 have q:=h.q.mv m hl (by omega) (by omega) (by omega) (by omega);refine⟨⟨q.lt,q.cb,q.lc,q.sr,q.jb,q.lj,q.fi⟩,fun k hk=>?_⟩;show dY w1 lab1 (5+k) (P k) (aF x.S i y k);by_cases e:k=i
 ·subst e;rw[di];exact hs
 ·rw[fj x.S y e];exact(h.ln k hk).mv m (by omega) (by omega)
theorem KQ.own(h:KQ w lab c ps pj pf V x){V':Nat→Value}{y:KV}(hc:Chg (fun k=>k=c) w w1)(hb:aX w1 c ps y.t.bt pj y.sp y.no V' y.B y.st)(ht:y.t.C=x.t.C∧y.t.R=x.t.R)(hf:y.bs=x.bs∧y.sf=x.sf∧y.rm=x.rm):KQ w1 lab c ps pj pf V' y:=by
 have m:am (fun n=>n=1) lab lab w w1:=⟨hc.mono (fun k _ e=>by rw[e];exact h.lc),fun _ _=>rfl⟩;have s:=h.sr.mv m (by decide);have f:=h.fi.mv m (by decide);refine⟨h.lt.new hc.size,hb,h.lc,?_,h.jb.chg m.1 (by rw[h.lj];decide),h.lj,?_⟩
 ·unfold j2 at s⊢;rw[ht.1,ht.2];exact s
 ·rw[hf.1,hf.2.1,hf.2.2];exact f
theorem KP.own(h:KP w lab c ps pj pf P x){y:KV}(hc:Chg (fun k=>k=c) w w1)(hb:aX w1 c ps y.t.bt pj y.sp y.no (ql P) y.B y.st)(ht:y.t.C=x.t.C∧y.t.R=x.t.R)(hf:y.bs=x.bs∧y.sf=x.sf∧y.rm=x.rm)(hs:y.S=x.S):KP w1 lab c ps pj pf P y:=by
 have m:am (fun n=>n=1) lab lab w w1:=⟨hc.mono (fun k _ e=>by rw[e];exact h.q.lc),fun _ _=>rfl⟩;exact⟨h.q.own hc hb ht hf,fun i hi=>by rw[hs];exact(h.ln i hi).mv m (by omega) (by decide)⟩
theorem KQ.file(h:KQ w lab c ps pj pf V x){bs:List UInt8}{sf:Nat}(hf:lA w1 lab1 pf bs sf x.rm)(m:am (fun n=>n=4) lab lab1 w w1)(hl:ev lab1 w1):KQ w1 lab1 c ps pj pf V {x with bs:=bs,sf:=sf}:=
 ⟨hl,h.cb.chg m.1 (by rw[h.lc];decide),(m.2 _ h.cb.lt).trans h.lc,h.sr.mv m (by decide),h.jb.chg m.1 (by rw[h.lj];decide),(m.2 _ h.jb.lt).trans h.lj,hf⟩
def j3(lab:Nat→Nat)(p q r:Nat):Nat→Nat:=fun k=>if k=p∨k=q∨k=r then 2 else lab k
end
end Go.Proofs.YtnojmbejedlilaaGreat
