/-
  Plain lemmas on memory for the proofs of this seat: bytes as cells, what has changed between two worlds, slices that read as a list, an object of a slice and a bool behind a pointer. No condition.
-/
import Derived.Below
import Derived.OneCell
import Derived.Laws.OwnMore
import Derived.Deep.Draws
import Derived.Deep.AppendLies
import Derived.Maps.AppendAt
import Derived.RegionTactic
import Derived.OwnWalk
import Derived.Laws.IdiomStrings
import Derived.Laws.BytesString
import Derived.Laws.BitsAllLaws
import Derived.Test.YtnojmbejedlilaaGreatRows
import Derived.WalkKit
import Derived.WalkSpells
import Derived.WalkLawsBesides
import Derived.Lib.Hide
import Derived.ChangeAlike
import Derived.Deep.RegionHeld3
import Derived.Deep.RegionLaw
import Derived.Deep.RegionWith
import Derived.Deep.LoopGhost
import Derived.Outline
import Derived.IntWalk
import Derived.Laws.ShiftsVar
import Derived.ProofKit
import Derived.OpenShut
import Derived.Deep.Slices
import Derived.Deep.Fields
import Derived.LoopTactic
import Derived.Deep.DeepCutAuto
set_option maxRecDepth 100000
set_option maxHeartbeats 40000000
set_option linter.unusedVariables false
set_option linter.unusedSimpArgs false
section
namespace Go.Proofs.YtnojmbejedlilaaGreat
open Nat renaming le_refl→zG,le_trans→zH,lt_of_lt_of_le→zI,add_assoc→zL,zero_le→zP,eq_zero_or_pos→zQ,pow_succ→Am,mul_assoc→An,mod_eq_of_lt→Ao,min_eq_left→Au,mul_le_mul_right→Av,lt_irrefl→Ay,pow_le_pow_right→AA,pow_mul→AB,mul_comm→AE,zero_add→AF,add_comm→AG,pow_pos→AK,mul_left_comm→AM
open Go.World renaming setCell→zJ,cell?_of_block→zK,ownsRow_nil→As
open List renaming getElem?_eq_getElem→zM,length_take→zN,length_drop→zO,eq_nil_of_length_eq_zero→zR,getElem?_eq_some_iff→zS,map_cons→zT,map_nil→zU,length_append→zY,take_succ_eq_append_getElem→zZ,foldl_append→z_,foldl_cons→Aa,length_cons→Ab,getElem?_toArray→Ap,getElem?_cons_zero→Aq,getElem?_cons_succ→Ar,getElem_mem→At,take_of_length_le→Ax,mem_singleton→Az,map_map→AC,map_congr_left→AD,length_map→AH,all_eq_true→AJ
open Go.Region renaming wanted→zV,Mode→AN,ready→AO
open Go.Value renaming slice→zW,ownBlock→zX,oneCell'→Aw
open Int renaming pow_pos→Ac,ediv_eq_zero_of_lt→Af,le_ediv_of_mul_le→Ag,one_mul→Ah,not_lt→Ai,eq_ofNat_of_zero_le→Ak,toNat_natCast→Al
open Bool renaming true_and→Ad,eq_iff_iff→Ae,and_eq_true→AI
open Go.IntKind renaming wrap_u8'→Aj
open Go.Value renaming int→U
open Go.IntKind renaming i64→Z
open Go.RowKit
theorem tk {P:Program}{ops:Array Oper}{Q:Exit→Act→World→Prop}{md:Region.Mode}{S:World→Prop}{oi:Oper}{fuel:Nat}{listed:Array Bool}{a:Act}{w:World}(i:Nat)(v:Value)(hy:∀w,S w→(execOp a.eval oi).run P w=.ok (.value v) w)(h:wpAnyH P md ops Q S fuel (listed.setIfInBounds i true) (a.put oi.dst v) w)(hi:ops[i]?=some oi:=by rfl)(hs:Region.noSelect ops=true:=by kernel_rfl)(hf:Region.free md ops listed i=true:=by kernel_rfl)(hr:(Region.ready md ops listed).contains i=true:=by decide +kernel)(hQ:∀c a w,Q (.panic c) (a.put oi.dst v) w→Q (.panic c) a w:=by exact fun _ _ _ h=>h)(hw:Region.wanted oi (yielded ops a.tmps)=true:=by rfl)(hS:S w:=by assumption):wpAnyH P md ops Q S (fuel+1) listed a w:=
 wpAnyH_take hi hs hf hr hQ (.inl ⟨hw,hy⟩) hS h
theorem hd_{p:Prop}(h:p):Go.RowKit.Hid p:=h
def bcs(l:List UInt8):List Value:=l.map fun b=>Value.int .u8 (b.toNat:Int)
def ics(l:List Int):List Value:=l.map fun b=>Value.int .i64 b
theorem kZ(l:List UInt8):(bcs l).length=l.length:=by simp[bcs]
theorem eZ(l:List Int):(ics l).length=l.length:=by simp[ics]
theorem jo(l r:List UInt8):bcs (l++r)=bcs l++bcs r:=by simp[bcs]
theorem dv(l:List UInt8):∀u∈bcs l,u.oneCell'=true:=by
 intro u hu;simp only[bcs,List.mem_map]at hu;obtain⟨b,_,rfl⟩:=hu;rfl
theorem my(l:List UInt8)(j:Nat)(h:j<l.length):(bcs l)[j]?=some (U .u8 ((l[j]).toNat:Int)):=by simp[bcs,h]
theorem xe(l:List Int)(j:Nat)(h:j<l.length):(ics l)[j]?=some (U Z l[j]):=by simp[ics,h]
structure Chg(S:Nat→Prop)(w w':World):Prop where
 os:w'.os=w.os
 tape:w'.tape=w.tape
 output:w'.output=w.output
 size:w.heap.size≤w'.heap.size
 block:∀k,k<w.heap.size→¬S k→w'.heap[k]?=w.heap[k]?
section
variable {S S' : Nat → Prop} {a w w' : World}
theorem Chg.refl(S:Nat→Prop)(w:World):Chg S w w:=⟨rfl,rfl,rfl,zG _,fun _ _ _=>rfl⟩
theorem Chg.mono(h:Chg S a w)(hs:∀k,k<a.heap.size→S k→S' k):Chg S' a w:=⟨h.os,h.tape,h.output,h.size,fun k hk hn=>h.block k hk (fun e=>hn (hs k hk e))⟩
theorem Chg.trans(h:Chg S a w)(k:Chg S' w w')(hs:∀i,i<a.heap.size→S' i→S i):Chg S a w':=
 ⟨k.os.trans h.os,k.tape.trans h.tape,k.output.trans h.output,zH h.size k.size,
  fun i hi hn=>(k.block i (zI hi h.size) (fun e=>hn (hs i hi e))).trans (h.block i hi hn)⟩
theorem cj4{a0 a1 a2 a3:Prop}(h0:a0)(h1:a1)(h2:a2)(h3:a3):Hid (a0∧a1∧a2∧a3):=hd_ ⟨h0,h1,h2,h3⟩
theorem cj5{a0 a1 a2 a3 a4:Prop}(h0:a0)(h1:a1)(h2:a2)(h3:a3)(h4:a4):Hid (a0∧a1∧a2∧a3∧a4):=hd_ ⟨h0,h1,h2,h3,h4⟩
theorem cj9{a0 a1 a2 a3 a4 a5 a6 a7 a8:Prop}(h0:a0)(h1:a1)(h2:a2)(h3:a3)(h4:a4)(h5:a5)(h6:a6)(h7:a7)(h8:a8):Hid (a0∧a1∧a2∧a3∧a4∧a5∧a6∧a7∧a8):=hd_ ⟨h0,h1,h2,h3,h4,h5,h6,h7,h8⟩
theorem eE{a0 a1 a2 a3 a4 a5 a6 a7 a8 a9 a10 a11:Prop}(h0:a0)(h1:a1)(h2:a2)(h3:a3)(h4:a4)(h5:a5)(h6:a6)(h7:a7)(h8:a8)(h9:a9)(h10:a10)(h11:a11):Hid (a0∧a1∧a2∧a3∧a4∧a5∧a6∧a7∧a8∧a9∧a10∧a11):=hd_ ⟨h0,h1,h2,h3,h4,h5,h6,h7,h8,h9,h10,h11⟩
theorem cr{a0 a1 a2 a3 a4 a5 a6 a7 a8 a9 a10 a11 a12:Prop}(h0:a0)(h1:a1)(h2:a2)(h3:a3)(h4:a4)(h5:a5)(h6:a6)(h7:a7)(h8:a8)(h9:a9)(h10:a10)(h11:a11)(h12:a12):Hid (a0∧a1∧a2∧a3∧a4∧a5∧a6∧a7∧a8∧a9∧a10∧a11∧a12):=hd_ ⟨h0,h1,h2,h3,h4,h5,h6,h7,h8,h9,h10,h11,h12⟩
theorem Chg.tr{S:Nat→Prop}{a b c:World}(h:Chg S a b)(g:Chg S b c):Chg S a c:=h.trans g (fun _ _ e=>e)
theorem Chg.drew(h:Chg S a w):Chg S a w.drew:=⟨h.os,h.tape,h.output,h.size,h.block⟩
theorem Chg.alloc(h:Chg S a w)(o:Obj):Chg S a (w.alloc o):=
 ⟨h.os,h.tape,h.output,zH h.size (by simp),fun k hk hn=>(Below.heap_alloc w o k (zI hk h.size)).trans (h.block k hk hn)⟩
theorem Chg.setCell(h:Chg S a w){p:Addr}(hp:p.block<a.heap.size→S p.block)(u:Value):Chg S a (w.setCell p u):=
 ⟨h.os,h.tape,h.output,by simpa[zJ]using h.size,fun k hk hn=>(Below.heap_setCell w p u k (by rintro rfl;exact hn (hp hk))).trans (h.block k hk hn)⟩
theorem Chg.put(h:Chg S a w)(p i:Nat)(hp:p<a.heap.size→S p)(u:Value):Chg S a (w.setCell ⟨p,i,none⟩ u):=h.setCell (p:=⟨p,i,none⟩) hp u
theorem Chg.grown(h:Chg S a w){row:Option Nat}(hg:w.grownBy w' row)(hr:∀k,row=some k→k<a.heap.size→S k):Chg S a w':=
 ⟨hg.os.trans h.os,hg.tape.trans h.tape,hg.output.trans h.output,zH h.size hg.size,
  fun k hk hn=>(hg.block k (zI hk h.size) (fun e=>hn (hr k e.symm hk))).trans (h.block k hk hn)⟩
theorem Chg.of_below{B:Nat}(h:Below B a w)(hB:a.heap.size≤B)(S:Nat→Prop):Chg S a w:=
 ⟨h.os,h.tape,h.output,h.size,fun k hk _=>h.block k (by omega)⟩
theorem Chg.below{B:Nat}(h:Chg S a w)(hB:B≤a.heap.size)(hs:∀k,S k→B≤k):Below B a w:=
 ⟨h.os,h.tape,h.output,h.size,fun k hk=>h.block k (by omega) (fun e=>by have:=hs k e;omega)⟩
theorem Chg.cell(h:Chg S a w){p:Addr}(hp:p.block<a.heap.size)(hn:¬S p.block):w.cell? p=a.cell? p:=zK (h.block _ hp hn)
theorem Chg.frozen(h:Chg S a w){p:Addr}(hp:p.block<a.heap.size)(hn:¬S p.block):w.frozen? p=a.frozen? p:=World.frozen?_of_block (h.block _ hp hn)
end
theorem bP(a:Addr)(n:Nat):(a.add n).block=a.block:=by unfold Addr.add;split<;>rfl
theorem dM(a:Addr)(i j:Nat):(a.add i).add j=a.add (i+j):=by
 unfold Addr.add;by_cases hi:i=0<;>by_cases hj:j=0<;>simp[hi,hj,zL]
def Rds(w:World)(S:Nat→Prop)(A:Option Addr)(n:Nat)(xs:List Value):Prop:=
 xs.length=n∧(0<n→∃ad,A=some ad∧S ad.block∧ad.block<w.heap.size∧∀j u,xs[j]?=some u→w.cell? (ad.add j)=some u)
section
variable {w w' : World} {S S' : Nat → Prop} {n : Nat} {A : Option Addr} {xs : List Value}
theorem Rds.nil(w:World)(S:Nat→Prop)(A:Option Addr):Rds w S A 0 []:=⟨rfl,fun h=>absurd h (by omega)⟩
theorem Rds.keep(h:Rds w S A n xs)(hz:w.heap.size≤w'.heap.size)(hk:∀k,S k→k<w.heap.size→w'.heap[k]?=w.heap[k]?):Rds w' S A n xs:=by
 refine⟨h.1,fun hn=>?_⟩;obtain⟨ad,e,hs,hb,hc⟩:=h.2 hn;refine⟨ad,e,hs,by omega,fun j u hu=>?_⟩;rw[←hc j u hu];exact zK (by rw[bP];exact hk _ hs hb)
theorem Rds.chg(h:Rds w S A n xs)(hc:Chg S' w w')(hd:∀k,S k→¬S' k):Rds w' S A n xs:=h.keep hc.size fun k hs hk=>hc.block k hk (hd k hs)
theorem Rds.mono(h:Rds w S A n xs)(hs:∀k,S k→S' k):Rds w S' A n xs:=
 ⟨h.1,fun hn=>by obtain⟨ad,e,h1,hb,hc⟩:=h.2 hn;exact⟨ad,e,hs _ h1,hb,hc⟩⟩
theorem Rds.drew(h:Rds w S A n xs):Rds w.drew S A n xs:=h
theorem Rds.alloc(h:Rds w S A n xs)(o:Obj):Rds (w.alloc o) S A n xs:=h.chg ((Chg.refl (fun _=>False) w).alloc o) (fun _ _=>id)
theorem Rds.cellAt(h:Rds w S A n xs){k:Nat}(hk:k<n):∃ad,A=some ad∧S ad.block∧ad.block<w.heap.size∧w.cell? (ad.add k)=xs[k]?:=by
 obtain⟨ad,e,hs,hb,hc⟩:=h.2 (by omega)
 have hl:k<xs.length:=by have:=h.1;omega
 exact⟨ad,e,hs,hb,by rw[zM hl];exact hc k _ (zM hl)⟩
theorem Rds.take(h:Rds w S A n xs)(k:Nat)(hk:k≤n):Rds w S A k (xs.take k):=by
 refine⟨by rw[zN,h.1];omega,fun hn=>?_⟩;obtain⟨ad,e,hs,hb,hc⟩:=h.2 (by omega);refine⟨ad,e,hs,hb,fun j u hu=>hc j u ?_⟩;rw[List.getElem?_take]at hu
 split at hu
 ·exact hu
 ·cases hu
theorem Rds.drop(h:Rds w S A n xs)(k cap:Nat)(hk:k≤n)(hc:n≤cap):Rds w S (if cap=k then A else A.map (·.add k)) (n-k) (xs.drop k):=by
 refine⟨by rw[zO,h.1],fun hn=>?_⟩;obtain⟨ad,rfl,hs,hb,hcell⟩:=h.2 (by omega);rw[if_neg (by omega)];refine⟨ad.add k,rfl,by rw[bP];exact hs,by rw[bP];exact hb,fun j u hu=>?_⟩;rw[dM];exact hcell _ u (by rw[←hu,List.getElem?_drop])
end
structure Ob(T e:TypeId)(w:World)(p:Nat)(o:Option Nat)(bs:List UInt8)(f:Bool)(A:Option Addr)(c:Nat):Prop where
 blk:w.heap[p]?=some (.cells #[.slice A bs.length c,.bool f] T (0,0))
 own:w.ownsRow 0 e 1 (.slice A bs.length c) bs.length (bcs bs)
 at_:A.map (·.block)=o
 ne:o≠some p
def Wr(T e:TypeId)(w:World)(p:Nat)(o:Option Nat)(st:Option (List UInt8))(N:Nat):Prop:=
 ∃bs f A c,Ob T e w p o bs f A c∧bs.length≤N∧(match st with|none=>f=true|some b=>f=false∧b=bs)
def Mvd(p:Nat)(o o':Option Nat)(w w':World):Prop:=Chg (fun k=>k=p∨o=some k) w w'∧(o'=o∨o'=none∨∃k,o'=some k∧w.heap.size≤k)
theorem aV{w:World}{base:Nat}{e:TypeId}{size n:Nat}{v:Value}{xs:List Value}(h:w.ownsRow base e size v n xs):∃A c,v=.slice A n c∧n≤c∧c≤maxLen:=by
 rcases h.2 with⟨rfl,rfl⟩|⟨g,cap,cur,rfl,_,_,h1,h2,_⟩
 ·exact⟨none,0,rfl,zG _,zP _⟩
 ·exact⟨_,_,rfl,h1,h2⟩
theorem d5{w:World}{base:Nat}{e:TypeId}{n c:Nat}{A:Option Addr}{xs:List Value}(h:w.ownsRow base e 1 (.slice A n c) n xs):Rds w (fun k=>A.map (·.block)=some k) A n xs:=by
 refine⟨by simpa using h.1,fun hn=>?_⟩;have hlt:=h.lt;rcases h.2 with⟨hv,rfl⟩|⟨g,cap,cur,hv,_⟩
 ·omega
 ·injection hv with hA hn hc;subst hA;have:=hlt g rfl;exact⟨⟨g,0,none⟩,rfl,rfl,this.2,h.cells (g:=g) rfl⟩
theorem pa {P : Program} (w : World) (base : Nat) (t ty e : TypeId) (i : TypeInfo) (z : Value) (bytes : Nat) (ht : P.underlying t = some (.slice e)) (hi : P.info? e = some i) (hz : i.zero = some z)
    (hsize : i.size = 1) (hby : i.bytes = bytes) (hzs : z.cells.size = 1) (v : Value) (n : Nat) (xs : List Value) (hown : w.ownsRow base e 1 v n xs)
    (S : Nat → Prop) (A : Option Addr) (m c : Nat) (news : List Value) (hr : Rds w S A m news) (h1 : ∀ u ∈ news, u.oneCell' = true)
    (h63 : n + m ≤ maxLen) (hbytes : (n + m) * bytes ≤ 140737488355328) (hbase : base ≤ w.heap.size) :
    ∃ v' w', (Builtin.append_ #[t, t] ty #[v, .slice A m c]).run P w = .ok v' w' ∧ w'.ownsRow base e 1 v' (n + m) (xs ++ news) ∧ w.grownBy w' v.ownBlock ∧
      (v'.ownBlock = v.ownBlock ∨ v'.ownBlock = some w.heap.size) := by
  rcases A with _ | ad
  · have hm : m = 0 := by
      rcases zQ m with h0 | h0
      · exact h0
      · obtain ⟨ad, h, _⟩ := hr.2 h0
        cases h
    subst hm
    have hn : news = [] := zR hr.1
    subst hn
    refine ⟨v, w, ?_, by simpa using hown, ⟨rfl, rfl, rfl, zG _, fun _ _ _ => rfl⟩, .inl rfl⟩
    rcases hown.2 with ⟨rfl, rfl⟩ | ⟨g, cap, cur, rfl, _, _, hnc, _⟩
    · simp [Builtin.append_, run_underlying ht, sizeOf, typeInfo, hi, Builtin.lenOf, Builtin.firstCells]
    · simp [Builtin.append_, run_underlying ht, sizeOf, typeInfo, hi, Builtin.lenOf, Builtin.firstCells, hnc, storeCells]
  · have hcells : ∀ j u, news[j]? = some u → w.cell? (ad.add j) = some u := by
      intro j u hu
      have hj : j < news.length := (zS.1 hu).1
      obtain ⟨ad', h, _, _, hc⟩ := hr.2 (by have := hr.1; omega)
      injection h with h
      subst h
      exact hc j u hu
    obtain ⟨v', w', hrun, h2, h3, _, h5⟩ := run_append_own_at (P := P) w base t ty e i z 1 bytes ht hi hz hsize hby hzs (by decide) v n xs hown ad m c news (by rw [hr.1, Nat.mul_one]) hcells h1 h63 hbytes hbase
    exact ⟨v', w', hrun, h2, h3, h5⟩
section
variable {P : Program} (w : World)
theorem iM{o:Oper}{a:Act}{K:Act→World→Prop}{Q:Exit→Act→World→Prop}(s x:Operand)(t:TypeId)
  (ho:o.op=.call {callee:=.builtin .append,args:=#[s,x],argTypes:=#[t,t]})
  (base:Nat) (e:TypeId) (i:TypeInfo) (z:Value) (bytes:Nat) (ht:P.underlying t=some (.slice e)) (hi:P.info? e=some i) (hz:i.zero=some z)
  (hsize:i.size=1) (hby:i.bytes=bytes) (hzs:z.cells.size=1)
  (v:Value) (n:Nat) (xs:List Value) (hs:a.eval s=v) (hown:w.ownsRow base e 1 v n xs)
  (S:Nat→Prop) (A:Option Addr) (m c:Nat) (news:List Value) (hx:a.eval x=.slice A m c) (hr:Rds w S A m news) (h1:∀u∈news,u.oneCell'=true)
  (h63:n+m≤maxLen) (hbytes:(n+m)*bytes≤140737488355328) (hbase:base≤w.heap.size)
  (h:∀v' w',w'.ownsRow base e 1 v' (n+m) (xs++news)→w.grownBy w' v.ownBlock→(v'.ownBlock=v.ownBlock∨v'.ownBlock=some w.heap.size)→K (a.put o.dst v') w'):o.wp P a w K Q:=by
 obtain⟨v',w',hrun,h2,h3,h4⟩:=pa (P:=P) w base t o.type e i z bytes ht hi hz hsize hby hzs v n xs hown S A m c news hr h1 h63 hbytes hbase;unfold Oper.wp execOp;simp only[ho,resolve,invoke,builtin,Sem.run_bind,Sem.run_pure,Result.andThen_ok,List.map_toArray,zT,zU,hs,hx,hrun];exact h v' w' h2 h3 h4
theorem aN{ops:Array Oper}{rest:List Oper}{o:Oper}{a:Act}{Q:Exit→Act→World→Prop}(hgd:o.guard=none)(s x:Operand)(t:TypeId)
  (ho:o.op=.call {callee:=.builtin .append,args:=#[s,x],argTypes:=#[t,t]})
  (base:Nat) (e:TypeId) (i:TypeInfo) (z:Value) (bytes:Nat) (ht:P.underlying t=some (.slice e)) (hi:P.info? e=some i) (hz:i.zero=some z)
  (hsize:i.size=1) (hby:i.bytes=bytes) (hzs:z.cells.size=1)
  (v:Value) (n:Nat) (xs:List Value) (hs:a.eval s=v) (hown:w.ownsRow base e 1 v n xs)
  (S:Nat→Prop) (A:Option Addr) (m c:Nat) (news:List Value) (hx:a.eval x=.slice A m c) (hr:Rds w S A m news) (h1:∀u∈news,u.oneCell'=true)
  (h63:n+m≤maxLen) (hbytes:(n+m)*bytes≤140737488355328) (hbase:base≤w.heap.size)
  (h:∀v' w',w'.ownsRow base e 1 v' (n+m) (xs++news)→w.grownBy w' v.ownBlock→(v'.ownBlock=v.ownBlock∨v'.ownBlock=some w.heap.size)→wpList P ops Q rest (a.put o.dst v') w'):wpList P ops Q (o::rest) a w:=
 wpList_plain hgd fun _ hK=>iM w s x t ho base e i z bytes ht hi hz hsize hby hzs v n xs hs hown S A m c news hx hr h1 h63 hbytes hbase fun v' w' h2 h3 h4=>hK _ _ (h v' w' h2 h3 h4)
end
theorem gC{P:Program}(w:World){ops:Array Oper}{o:Oper}{a:Act}{K:Act→World→Prop}{Q:Exit→Act→World→Prop}{E:Prop}(hgd:o.guard=none)(s x:Operand)(t:TypeId)
  (ho:o.op=.call {callee:=.builtin .append,args:=#[s,x],argTypes:=#[t,t]})
  (base:Nat) (e:TypeId) (i:TypeInfo) (z:Value) (bytes:Nat) (ht:P.underlying t=some (.slice e)) (hi:P.info? e=some i) (hz:i.zero=some z)
  (hsize:i.size=1) (hby:i.bytes=bytes) (hzs:z.cells.size=1)
  (v:Value) (n:Nat) (xs:List Value) (hs:a.eval s=v) (hown:w.ownsRow base e 1 v n xs)
  (S:Nat→Prop) (A:Option Addr) (m c:Nat) (news:List Value) (hx:a.eval x=.slice A m c) (hr:Rds w S A m news) (h1:∀u∈news,u.oneCell'=true)
  (h63:n+m≤maxLen) (hbytes:(n+m)*bytes≤140737488355328) (hbase:base≤w.heap.size)
  (h:∀v' w',w'.ownsRow base e 1 v' (n+m) (xs++news)→w.grownBy w' v.ownBlock→(v'.ownBlock=v.ownBlock∨v'.ownBlock=some w.heap.size)→K (a.put o.dst v') w'):
  if zV o (yielded ops a.tmps)=true then Oper.wp P o a w K Q else E:=by
 rw[if_pos (by simp[zV,hgd])];exact iM w s x t ho base e i z bytes ht hi hz hsize hby hzs v n xs hs hown S A m c news hx hr h1 h63 hbytes hbase h
def Blk(w:World)(g:Nat)(t:TypeId)(cs:Array Value):Prop:=w.heap[g]?=some (.cells cs t (0,0))
section
variable {w w' : World} {g : Nat} {t : TypeId} {cs : Array Value}
theorem Blk.lt(h:Blk w g t cs):g<w.heap.size:=lt_of_block h
theorem Blk.cell(h:Blk w g t cs)(i:Nat):w.cell? ⟨g,i,none⟩=cs[i]?:=cell_of_row w g i cs t (0,0) h
theorem Blk.frozen(h:Blk w g t cs)(i:Nat):w.frozen? ⟨g,i,none⟩=false:=by unfold Blk at h;simp[World.frozen?,h]
theorem Blk.new(w:World)(t:TypeId)(cs:Array Value):Blk (w.alloc (.cells cs t)) w.heap.size t cs:=heap_alloc_new w _
theorem Blk.drew(h:Blk w g t cs):Blk w.drew g t cs:=h
theorem Blk.alloc(h:Blk w g t cs)(o:Obj):Blk (w.alloc o) g t cs:=(Below.heap_alloc w o g h.lt).trans h
theorem Blk.set(h:Blk w g t cs)(i:Nat)(u:Value):Blk (w.setCell ⟨g,i,none⟩ u) g t (cs.setIfInBounds i u):=by
 unfold Blk at h⊢;simp[zJ,Array.getElem?_modify,h]
theorem Blk.chg{S:Nat→Prop}(h:Blk w g t cs)(hc:Chg S w w')(hn:¬S g):Blk w' g t cs:=(hc.block g h.lt hn).trans h
end
theorem Blk.rds{w:World}{g:Nat}{t:TypeId}{cs:Array Value}(h:Blk w g t cs):Rds w (fun k=>k=g) (some ⟨g,0,none⟩) cs.size cs.toList:=by
 refine⟨by simp,fun _=>⟨⟨g,0,none⟩,rfl,rfl,h.lt,fun j u hu=>?_⟩⟩
 have e:(⟨g,0,none⟩:Addr).add j=⟨g,j,none⟩:=by unfold Addr.add;split<;>simp_all
 rw[e,h.cell];simpa using hu
theorem ct{w w':World}{g:Nat}{t:TypeId}{cs:Array Value}{row:Option Nat}(h:Blk w g t cs)(hg:w.grownBy w' row)(hne:row≠some g):Blk w' g t cs:=(hg.block g h.lt (fun e=>hne e.symm)).trans h
theorem aG(A:Option Addr)(n c:Nat):(zW A n c).ownBlock=A.map (·.block):=by cases A<;>rfl
theorem ay{S:Nat→Prop}{w w':World}{base:Nat}{e:TypeId}{size n c:Nat}{A:Option Addr}{xs:List Value}(h:w.ownsRow base e size (.slice A n c) n xs)(hc:Chg S w w')
  (hn:∀k,A.map (·.block)=some k→¬S k):w'.ownsRow base e size (.slice A n c) n xs:=by
 refine⟨h.1,?_⟩;rcases h.2 with h2|⟨g,cap,cur,hv,hg,hh,r⟩
 ·exact .inl h2
 ·refine .inr ⟨g,cap,cur,hv,hg,?_,r⟩;injection hv with hA;subst hA;rw[hc.block g (lt_of_block hh) (hn g rfl)];exact hh
theorem Mvd.refl(p:Nat)(o:Option Nat)(w:World):Mvd p o o w w:=⟨Chg.refl _ _,.inl rfl⟩
theorem Mvd.trans{p:Nat}{o o1 o2:Option Nat}{w w1 w2:World}(h:Mvd p o o1 w w1)(k:Mvd p o1 o2 w1 w2):Mvd p o o2 w w2:=by
 obtain⟨hc,ho⟩:=h;obtain⟨kc,ko⟩:=k;refine⟨hc.trans kc ?_,?_⟩
 ·rintro i hi (rfl|hi2)
  ·exact .inl rfl
  ·rcases ho with rfl|rfl|⟨j,rfl,hj⟩
   ·exact .inr hi2
   ·cases hi2
   ·injection hi2 with hi2;omega
 ·have:=hc.size;rcases ko with rfl|rfl|⟨j,rfl,hj⟩
  ·exact ho
  ·exact .inr (.inl rfl)
  ·exact .inr (.inr ⟨j,rfl,by omega⟩)
theorem Mvd.pre{p:Nat}{o o1:Option Nat}{w w1 w2:World}(h:Chg (fun _=>False) w w1)(k:Mvd p o o1 w1 w2):Mvd p o o1 w w2:=by
 refine⟨(h.mono (fun _ _ e=>e.elim)).trans k.1 (fun _ _ e=>e),?_⟩;have:=h.size;rcases k.2 with h2|h2|⟨j,h2,h3⟩
 ·exact .inl h2
 ·exact .inr (.inl h2)
 ·exact .inr (.inr ⟨j,h2,by omega⟩)
theorem Mvd.post{p:Nat}{o o1:Option Nat}{w w1 w2:World}(h:Mvd p o o1 w w1)(k:Chg (fun _=>False) w1 w2):Mvd p o o1 w w2:=⟨h.1.trans k (fun _ _ e=>e.elim),h.2⟩
theorem Rds.old{w:World}{S:Nat→Prop}{n:Nat}{A:Option Addr}{xs:List Value}(h:Rds w S A n xs):Rds w (fun k=>S k∧k<w.heap.size) A n xs:=
 ⟨h.1,fun hn=>by obtain⟨ad,e,hs,hb,hc⟩:=h.2 hn;exact⟨ad,e,⟨hs,hb⟩,hb,hc⟩⟩
theorem Wr.more{T e:TypeId}{w:World}{p:Nat}{o:Option Nat}{st:Option (List UInt8)}{N N':Nat}(h:Wr T e w p o st N)(hN:N≤N'):Wr T e w p o st N':=by
 obtain⟨bs,f,A,c,h1,h2,h3⟩:=h;exact⟨bs,f,A,c,h1,by omega,h3⟩
theorem Wr.lt{T e:TypeId}{w:World}{p:Nat}{o:Option Nat}{st:Option (List UInt8)}{N:Nat}(h:Wr T e w p o st N):p<w.heap.size∧∀k,o=some k→k<w.heap.size:=by
 obtain⟨bs,f,A,c,h1,h2,h3⟩:=h;refine⟨lt_of_block h1.blk,fun k hk=>?_⟩;have ho:=h1.at_;rw[hk]at ho;have:=h1.own.lt k (by cases A<;>simp_all [zX]);exact this.2
theorem Ob.chg{S:Nat→Prop}{T e:TypeId}{w w':World}{p:Nat}{o:Option Nat}{bs:List UInt8}{f:Bool}{A:Option Addr}{c:Nat}(h:Ob T e w p o bs f A c)(hc:Chg S w w')
  (hp:¬S p) (ho:∀k,o=some k→¬S k):Ob T e w' p o bs f A c:=
 ⟨(hc.block p (lt_of_block h.blk) hp).trans h.blk,ay h.own hc (by rw[h.at_];exact ho),h.at_,h.ne⟩
theorem Wr.chg{S:Nat→Prop}{T e:TypeId}{w w':World}{p:Nat}{o:Option Nat}{st:Option (List UInt8)}{N:Nat}(h:Wr T e w p o st N)(hc:Chg S w w')
  (hp:¬S p) (ho:∀k,o=some k→¬S k):Wr T e w' p o st N:=by
 obtain⟨bs,f,A,c,h1,h2,h3⟩:=h;exact⟨bs,f,A,c,h1.chg hc hp ho,h2,h3⟩
theorem jQ{T e:TypeId}{w0 w1 w':World}{p:Nat}{o:Option Nat}{bs:List UInt8}{f:Bool}{A A3:Option Addr}{c c3 k:Nat}{xs:List Value}(hob:Ob T e w0 p o bs f A c)
  (hc:Chg (fun _=>False) w0 w1) (new:List UInt8) (hx:xs=bcs new) (hk:k=new.length) (hown:w'.ownsRow 0 e 1 (.slice A3 (bs.length+k) c3) (bs.length+k) (bcs bs++xs))
  (hg:w1.grownBy w' (zW A bs.length c).ownBlock)
  (hat:(zW A3 (bs.length+k) c3).ownBlock=(zW A bs.length c).ownBlock∨(zW A3 (bs.length+k) c3).ownBlock=some w1.heap.size):
  Ob T e (w'.setCell ⟨p,0,none⟩ (.slice A3 (bs.length+k) c3)) p (A3.map (·.block)) (bs++new) f A3 c3∧Mvd p o (A3.map (·.block)) w0 (w'.setCell ⟨p,0,none⟩ (.slice A3 (bs.length+k) c3)):=by
 subst hx;subst hk;rw[aG,aG,hob.at_]at hat;rw[aG,hob.at_]at hg;have hb:Blk w0 p T _:=hob.blk;have hb1:Blk w1 p T _:=hb.chg hc id;have hb2:=ct hb1 hg hob.ne;have hlt:=hb.lt
 have hne:A3.map (·.block)≠some p:=by
  rcases hat with h|h
  ·rw[h];exact hob.ne
  ·rw[h];have:=hc.size;intro e;injection e with e;omega
 have hc2:Chg (fun k=>k=p∨o=some k) w0 (w'.setCell ⟨p,0,none⟩ (.slice A3 (bs.length+new.length) c3)):=
  ((hc.mono (fun _ _ h=>h.elim)).grown hg (fun k hk _=>.inr hk)).put p 0 (fun _=>.inl rfl) _
 refine⟨⟨?_,?_,rfl,hne⟩,hc2,?_⟩
 ·have:=hb2.set 0 (.slice A3 (bs.length+new.length) c3);rw[zY];exact this
 ·rw[zY,jo];exact ay hown ((Chg.refl (fun k=>k=p) w').put p 0 (fun _=>rfl) _) (fun k hk e=>by subst e;exact hne hk)
 ·rcases hat with h|h
  ·exact .inl h
  ·refine .inr (.inr ⟨_,h,hc.size⟩)
def RSt(strict f:Bool)(A:Option Addr)(n c:Nat)(bs:List UInt8):Option (List UInt8)→Prop
 |none=>f=true∧(strict=true→A=none∧n=0∧c=0)
 |some b=>f=false∧b=bs
def Rd(T:TypeId)(strict:Bool)(w:World)(p:Nat)(S:Nat→Prop)(st:Option (List UInt8)):Prop:=
 ¬S p∧∃A n c f bs,w.heap[p]?=some (.cells #[.slice A n c,.bool f] T (0,0))∧n≤c∧c≤maxLen∧n=bs.length∧Rds w S A n (bcs bs)∧RSt strict f A n c bs st
theorem Rd.lt{T:TypeId}{s:Bool}{w:World}{p:Nat}{S:Nat→Prop}{st:Option (List UInt8)}(h:Rd T s w p S st):p<w.heap.size:=by
 obtain⟨_,A,n,c,f,bs,h,_⟩:=h;exact lt_of_block h
theorem Rd.chg{S':Nat→Prop}{T:TypeId}{s:Bool}{w w':World}{p:Nat}{S:Nat→Prop}{st:Option (List UInt8)}(h:Rd T s w p S st)(hc:Chg S' w w')(hp:¬S' p)(hs:∀k,S k→¬S' k):Rd T s w' p S st:=by
 obtain⟨h0,A,n,c,f,bs,h1,h2,h3,h4,h5,h6⟩:=h;exact⟨h0,A,n,c,f,bs,(hc.block p (lt_of_block h1) hp).trans h1,h2,h3,h4,h5.chg hc hs,h6⟩
theorem iO(w:World)(t:TypeId)(cs:Array Value)(fr:Nat×Nat):Rds (w.alloc (.cells cs t fr)) (fun k=>k=w.heap.size) (some ⟨w.heap.size,0,none⟩) cs.size cs.toList:=by
 have h:(w.alloc (.cells cs t fr)).heap[w.heap.size]?=some (.cells cs t fr):=heap_alloc_new w _;refine⟨by simp,fun _=>⟨⟨w.heap.size,0,none⟩,rfl,rfl,by simp,fun j u hu=>?_⟩⟩
 have e:(⟨w.heap.size,0,none⟩:Addr).add j=⟨w.heap.size,j,none⟩:=by unfold Addr.add;split<;>simp_all
 rw[e,cell_of_row _ _ _ _ _ _ h];simpa using hu
theorem tD {P : Program} {w : World} {S : Nat → Prop} {A : Option Addr} {n c : Nat} {l : List UInt8} (src dst e : TypeId) (hs : P.underlying src = some (.slice e)) (he : P.underlying e = some (.int .u8)) (hd : P.underlying dst = some .string)
    (h : Rds w S A n (bcs l)) : (convert src dst (.slice A n c)).run P w = .ok (.string ⟨l.toArray⟩) w := by
  have hn : l.length = n := by have := h.1; rwa [kZ] at this
  subst hn
  rcases A with _ | a
  · have h0 : l.length = 0 := by
      rcases zQ l.length with h0 | h0
      · exact h0
      · obtain ⟨_, e, _⟩ := h.2 h0
        cases e
    have hl : l = [] := zR h0
    subst hl
    rw [run_convert_bytes_string w src dst e none _ c hs he hd]
    simp [Conv.bytesToString]
    rfl
  · refine run_convert_bytes_back w src dst e a c l hs he hd (fun j hj => ?_)
    obtain ⟨ad, e, _, _, hc⟩ := h.2 (by omega)
    injection e with e
    subst e
    exact hc j _ (my l j hj)
theorem cB{w:World}{base:Nat}{e:TypeId}{n c:Nat}{A:Option Addr}{xs:List Value}(h:w.ownsRow base e 1 (.slice A n c) n xs):Rds w (fun k=>base≤k∧k<w.heap.size) A n xs:=by
 refine(d5 h).mono fun k hk=>?_;have hlt:=h.lt;rw[aG]at hlt;exact hlt k hk
theorem d7{w:World}{base:Nat}{e:TypeId}{n c:Nat}{A:Option Addr}{xs:List Value}(h:w.ownsRow base e 1 (.slice A n c) n xs):A=none→c=0:=by
 rintro rfl;rcases h.2 with⟨e,_⟩|⟨g,cap,cur,e,_⟩
 ·injection e
 ·injection e with e;cases e
theorem gE{p:Nat}{o o':Option Nat}{w0 w w':World}(h:Chg (fun _=>False) w0 w)(m:Mvd p o o' w w')(hp:w0.heap.size≤p)(ho:∀k,o=some k→w0.heap.size≤k):
  Chg (fun _=>False) w0 w'∧(∀k,o'=some k→w0.heap.size≤k):=by
 refine⟨h.trans m.1 (fun i hi hs=>?_),fun k hk=>?_⟩
 ·rcases hs with rfl|hs
  ·omega
  ·have:=ho i hs;omega
 ·rcases m.2 with e|e|⟨j,e,hj⟩
  ·exact ho k (by rw[←e,hk])
  ·rw[e]at hk;cases hk
  ·rw[e]at hk;injection hk with hk;have:=h.size;omega
theorem ab{p:Nat}{w0 w w':World}(h:Chg (fun _=>False) w0 w)(m:Chg (fun k=>k=p) w w')(hp:w0.heap.size≤p):Chg (fun _=>False) w0 w':=
 h.trans m (fun i hi hs=>by subst hs;omega)
theorem oq{w:World}{base:Nat}{e:TypeId}{size n c:Nat}{A:Option Addr}{xs:List Value}(h:w.ownsRow base e size (.slice A n c) n xs):n≤c∧c≤maxLen:=by
 obtain⟨_,_,hv,h1,h2⟩:=aV h;injection hv with _ _ hv;subst hv;exact⟨h1,h2⟩
end Go.Proofs.YtnojmbejedlilaaGreat
end
section
namespace Go.Proofs.YtnojmbejedlilaaGreat
open Nat renaming le_refl→zG,le_trans→zH,lt_of_lt_of_le→zI,add_assoc→zL,zero_le→zP,eq_zero_or_pos→zQ,pow_succ→Am,mul_assoc→An,mod_eq_of_lt→Ao,min_eq_left→Au,mul_le_mul_right→Av,lt_irrefl→Ay,pow_le_pow_right→AA,pow_mul→AB,mul_comm→AE,zero_add→AF,add_comm→AG,pow_pos→AK,mul_left_comm→AM
open Go.World renaming setCell→zJ,cell?_of_block→zK,ownsRow_nil→As
open List renaming getElem?_eq_getElem→zM,length_take→zN,length_drop→zO,eq_nil_of_length_eq_zero→zR,getElem?_eq_some_iff→zS,map_cons→zT,map_nil→zU,length_append→zY,take_succ_eq_append_getElem→zZ,foldl_append→z_,foldl_cons→Aa,length_cons→Ab,getElem?_toArray→Ap,getElem?_cons_zero→Aq,getElem?_cons_succ→Ar,getElem_mem→At,take_of_length_le→Ax,mem_singleton→Az,map_map→AC,map_congr_left→AD,length_map→AH,all_eq_true→AJ
open Go.Region renaming wanted→zV,Mode→AN,ready→AO
open Go.Value renaming slice→zW,ownBlock→zX,oneCell'→Aw
open Int renaming pow_pos→Ac,ediv_eq_zero_of_lt→Af,le_ediv_of_mul_le→Ag,one_mul→Ah,not_lt→Ai,eq_ofNat_of_zero_le→Ak,toNat_natCast→Al
open Bool renaming true_and→Ad,eq_iff_iff→Ae,and_eq_true→AI
open Go.IntKind renaming wrap_u8'→Aj
open Go.Value renaming int→U
open Go.IntKind renaming i64→Z
def be(n x:Nat):List UInt8:=(List.range n).map fun j=>UInt8.ofNat (x/2^(8*(n-1-j)))
theorem bM(n x:Nat):(be n x).length=n:=by simp[be]
theorem ot(n x j:Nat)(h:j<n):(be n x).take (j+1)=(be n x).take j++[UInt8.ofNat (x/2^(8*(n-1-j)))]:=by
 rw[zZ (by rw[bM];exact h)];simp[be]
def a_(n:Nat)(x:Int):Bool:=decide (0≤x)&&decide (x<256^n)
def dR(n:Nat)(st:Option (List UInt8))(x:Int):Option (List UInt8):=st.bind fun b=>if a_ n x then some (b++be n x.toNat)else none
def cg(n:Nat)(l:List Int)(st:Option (List UInt8)):Option (List UInt8):=l.foldl (dR n) st
def ax(n:Int)(l:List Int)(st:Option (List UInt8)):Option (List UInt8):=if 1≤n∧n≤8 then cg n.toNat l st else none
def h_(b:List UInt8)(st:Option (List UInt8)):Option (List UInt8):=(ax 2 [(b.length:Int)] st).map (· ++b)
theorem gF(n:Nat)(l:List Int):cg n l none=none:=by
 unfold cg
 induction l with
 |nil=>rfl
 |cons x l ih=>exact ih
theorem lF(n:Nat)(l:List Int)(st:Option (List UInt8))(k:Nat)(h:k<l.length):cg n (l.take (k+1)) st=dR n (cg n (l.take k) st) l[k]:=by
 unfold cg;rw[zZ h,z_];rfl
theorem q_(n:Nat)(l:List Int)(st:Option (List UInt8))(k:Nat)(h:k<l.length)(hf:a_ n l[k]=false):cg n l st=none:=by
 have e:cg n (l.take (k+1)) st=none:=by
  rw[lF n l st k h];unfold dR;cases cg n (l.take k) st<;>simp[hf]
 have:cg n l st=cg n (l.drop (k+1)) (cg n (l.take (k+1)) st):=by
  unfold cg;rw[←z_,List.take_append_drop]
 rw[this,e,gF]
theorem mz(n:Nat)(l:List Int)(b c:List UInt8)(h:cg n l (some b)=some c):c.length=b.length+n*l.length:=by
 unfold cg at h
 induction l generalizing b with
 |nil=>simp at h;subst h;simp
 |cons x l ih=>
  simp only[Aa]at h;by_cases hf:a_ n x
  ·have e:dR n (some b) x=some (b++be n x.toNat):=by simp[dR,hf]
   rw[e]at h;rw[ih _ h,zY,bM,Ab,Nat.mul_succ];omega
  ·have e:dR n (some b) x=none:=by simp[dR,hf]
   rw[e]at h;have:=gF n l;unfold cg at this;rw[this]at h;cases h
theorem tE(n:Nat)(x:Int)(h8:n≤8)(hx:0≤x):a_ n x=(x/2^min (8*(n:Int)).toNat 64==0):=by
 have e:min (8*(n:Int)).toNat 64=8*n:=by omega
 rw[e]
 have e2:(256:Int)^n=2^(8*n):=by
  rw[Int.pow_mul];rfl
 have hp:(0:Int)<2^(8*n):=Ac (by decide);unfold a_;rw[e2]
 have hd:decide (0≤x)=true:=by simpa using hx
 rw[hd,Ad];rw[Ae];simp only[decide_eq_true_eq,beq_iff_eq]
 constructor
 ·intro h;exact Af hx h
 ·intro h;by_cases h1:x<2^(8*n)
  ·exact h1
  ·exfalso;have:1≤x/2^(8*n):=Ag hp (by rw[Ah];exact Ai.1 h1);omega
theorem ou(x:Int)(s:Nat)(hx:0≤x):((UInt8.ofNat (x.toNat/2^(8*s))).toNat:Int)=IntKind.u8.wrap (x/2^(8*s)):=by
 rw[Aj];obtain⟨X,rfl⟩:=Ak hx;rw[Al,UInt8.toNat_ofNat'];simp
def bS(n:Nat):Option (List UInt8)→List UInt8×Option (List UInt8)
 |none=>([],none)
 |some b=>if n≤b.length then(b.take n,some (b.drop n))else([],none)
def num(l:List UInt8):Nat:=l.foldl (fun x c=>256*x+c.toNat) 0
def bk(n:Int):Option (List UInt8)→Int×Option (List UInt8)
 |none=>(0,none)
 |some b=>if 1≤n∧n≤8∧n.toNat≤b.length∧num (b.take n.toNat)<9223372036854775808 then((num (b.take n.toNat):Int),some (b.drop n.toNat))else(0,none)
def cu(most:Int)(st:Option (List UInt8)):List UInt8×Option (List UInt8):=if most<(bk 2 st).1 then([],none)else bS (bk 2 st).1.toNat (bk 2 st).2
def bT:Option (List UInt8)→Int
 |some []=>0
 |_=>2
theorem tF(l:List UInt8)(c:UInt8):num (l++[c])=256*num l+c.toNat:=by simp[num,z_]
theorem kn(l:List UInt8):num l<256^l.length:=by
 suffices h:∀(l:List UInt8) (x:Nat),l.foldl (fun x c=>256*x+c.toNat) x<256^l.length*(x+1) by
  have:=h l 0;simpa[num]using this
 intro l
 induction l with
 |nil=>intro x;simp
 |cons c l ih=>
  intro x;have h1:=ih (256*x+c.toNat);have h2:c.toNat<256:=c.toNat_lt;have h3:256^l.length*(256*x+c.toNat+1)≤256^l.length*(256*(x+1)):=Nat.mul_le_mul_left _ (by omega);simp only[Aa,Ab,Am];rw[An];omega
theorem tG(l:List UInt8)(k:Nat)(h:k<l.length):num (l.take (k+1))=256*num (l.take k)+(l[k]).toNat:=by
 rw[zZ h,tF]
theorem ox(n:Int)(st:Option (List UInt8)):0≤(bk n st).1∧(bk n st).1≤9223372036854775807:=by
 unfold bk
 split
 ·simp
 ·split
  ·rename_i h;have:=h.2.2.2
   constructor
   ·exact Int.natCast_nonneg _
   ·simp only;omega
  ·simp
theorem lG(n:Nat)(st:Option (List UInt8)):(bS n st).1.length≤n:=by
 unfold bS
 split
 ·simp
 ·split
  ·simp only[zN];omega
  ·simp
theorem tH(n:Nat)(st:Option (List UInt8))(h1:1≤n)(h8:n≤8):
  bk (n:Int) st=if num (bS n st).1<9223372036854775808 then((num (bS n st).1:Int),(bS n st).2)else(0,none):=by
 unfold bk bS;rw[Al]
 split
 ·rw[if_pos (by simp[num])];rfl
 ·rename_i b;by_cases hl:n≤b.length
  ·rw[if_pos hl];by_cases hn:num (b.take n)<9223372036854775808
   ·rw[if_pos hn,if_pos ⟨by omega,by omega,hl,hn⟩]
   ·rw[if_neg hn,if_neg (fun h=>hn h.2.2.2)]
  ·rw[if_neg hl,if_neg (fun h=>hl h.2.2.1),if_pos (by simp[num])];rfl
theorem ra(n:Int)(st:Option (List UInt8))(h:n<1∨8<n):bk n st=(0,none):=by
 unfold bk
 split
 ·rfl
 ·rw[if_neg (by omega)]
theorem vB(x c:Nat)(hx:x<72057594037927936)(hc:c<256):bits .or .u64 ((x:Int)*256) (c:Int)=((256*x+c:Nat):Int):=by
 have e:((x:Int)*256)=((256*x:Nat):Int):=by omega
 rw[e];have h:=Nat.two_pow_add_eq_or_of_lt (i:=8) (b:=c) (by omega) x;have h2:(256*x)|||c=256*x+c:=h.symm;show IntKind.u64.wrap ((BitVec.ofInt 64 ((256*x:Nat):Int)|||BitVec.ofInt 64 ((c:Nat):Int)).toNat:Int)=_;rw[BitVec.toNat_or,BitVec.ofInt_natCast,BitVec.ofInt_natCast,BitVec.toNat_ofNat,BitVec.toNat_ofNat,Ao (by omega),Ao (by omega),h2,IntKind.wrap_u64];omega
end Go.Proofs.YtnojmbejedlilaaGreat
end
section
namespace Go.Proofs.YtnojmbejedlilaaGreat
open Nat renaming le_refl→zG,le_trans→zH,lt_of_lt_of_le→zI,add_assoc→zL,zero_le→zP,eq_zero_or_pos→zQ,pow_succ→Am,mul_assoc→An,mod_eq_of_lt→Ao,min_eq_left→Au,mul_le_mul_right→Av,lt_irrefl→Ay,pow_le_pow_right→AA,pow_mul→AB,mul_comm→AE,zero_add→AF,add_comm→AG,pow_pos→AK,mul_left_comm→AM
open Go.World renaming setCell→zJ,cell?_of_block→zK,ownsRow_nil→As
open List renaming getElem?_eq_getElem→zM,length_take→zN,length_drop→zO,eq_nil_of_length_eq_zero→zR,getElem?_eq_some_iff→zS,map_cons→zT,map_nil→zU,length_append→zY,take_succ_eq_append_getElem→zZ,foldl_append→z_,foldl_cons→Aa,length_cons→Ab,getElem?_toArray→Ap,getElem?_cons_zero→Aq,getElem?_cons_succ→Ar,getElem_mem→At,take_of_length_le→Ax,mem_singleton→Az,map_map→AC,map_congr_left→AD,length_map→AH,all_eq_true→AJ
open Go.Region renaming wanted→zV,Mode→AN,ready→AO
open Go.Value renaming slice→zW,ownBlock→zX,oneCell'→Aw
open Int renaming pow_pos→Ac,ediv_eq_zero_of_lt→Af,le_ediv_of_mul_le→Ag,one_mul→Ah,not_lt→Ai,eq_ofNat_of_zero_le→Ak,toNat_natCast→Al
open Bool renaming true_and→Ad,eq_iff_iff→Ae,and_eq_true→AI
open Go.IntKind renaming wrap_u8'→Aj
open Go.Value renaming int→U
open Go.IntKind renaming i64→Z
open Go.RowKit
theorem Rd.mono{T:TypeId}{s:Bool}{w:World}{p:Nat}{S S':Nat→Prop}{st:Option (List UInt8)}(h:Rd T s w p S st)(hs:∀k,S k→S' k)(hp:¬S' p):Rd T s w p S' st:=by
 obtain⟨_,A,n,c,f,bs,h1,h2,h3,h4,h5,h6⟩:=h;exact⟨hp,A,n,c,f,bs,h1,h2,h3,h4,h5.mono hs,h6⟩
theorem eN{w:World}{S:Nat→Prop}{A:Option Addr}{n c:Nat}{xs:List Value}(h:Rds w S A n xs)(hn:1≤n):A=none→c=0:=by
 rintro rfl;obtain⟨_,e,_⟩:=h.2 (by omega);cases e
theorem dN{w0 w w':World}{A:Option Addr}{n c base:Nat}{e:TypeId}{size m:Nat}{xs:List Value}(h:Chg (fun _=>False) w0 w)(hg:w.grownBy w' (zW A n c).ownBlock)
  (hown:w.ownsRow base e size (.slice A m c) m xs) (hb:w0.heap.size≤base):Chg (fun _=>False) w0 w':=
 h.grown hg (fun k hk hlt=>by
  rw[aG]at hk;have:=(hown.lt k (by rw[aG];exact hk)).1
  omega)
theorem Rds.back{w0 w':World}{S S':Nat→Prop}{n:Nat}{A:Option Addr}{xs:List Value}(h:Rds w' S A n xs)(hc:Chg S' w0 w')(hS:∀k,S k→k<w0.heap.size∧¬S' k):Rds w0 S A n xs:=by
 refine⟨h.1,fun hn=>?_⟩;obtain⟨ad,e,hs,hb,hcell⟩:=h.2 hn;obtain⟨h1,h2⟩:=hS _ hs;refine⟨ad,e,hs,h1,fun j u hu=>?_⟩;rw[←hcell j u hu];exact(zK (by rw[bP];exact hc.block _ h1 h2)).symm
theorem af{w:World}{t:TypeId}{cs:Array Value}{g:Nat}(hg:g=w.heap.size):Blk (w.alloc (.cells cs t)) g t cs:=by
 subst hg;exact Blk.new w t cs
theorem cT{w:World}{b b':Nat}{e:TypeId}{size n:Nat}{v:Value}{xs:List Value}(h:w.ownsRow b e size v n xs)(hb:b'≤b):w.ownsRow b' e size v n xs:=by
 refine⟨h.1,?_⟩;rcases h.2 with h2|⟨g,cap,cur,hv,hg,r⟩
 ·exact .inl h2
 ·exact .inr ⟨g,cap,cur,hv,zH hb hg,r⟩
theorem mA(n:Int)(w:World)(h1:1≤n)(h2:n≤8):Calls Tryz.prog 180 #[U Z n] w fun e w'=>e=.returned (.bool true)∧w=w':=by
 go_in
 go_wp2
 go_ret;exact⟨rfl,rfl⟩
theorem oz(n:Int)(w:World)(h:n<1∨8<n):Calls Tryz.prog 180 #[U Z n] w fun e w'=>e=.returned (.bool false)∧w=w':=by
 by_cases h1:1≤n
 ·have h2:¬n≤8:=by omega
  go_in
  go_wp2
  go_ret;exact⟨rfl,rfl⟩
 ·go_in
  go_wp2
  go_ret;exact⟨rfl,rfl⟩
theorem pb(T:TypeId)(p:Nat)(v x:Value)(w:World)(hb:Blk w p T #[v,x]):
  Calls Tryz.prog 206 #[.pointer (some ⟨p,0,none⟩)] w fun e w'=>e=.returned (.pointer (some ⟨p,0,none⟩))∧
   Blk w' p T #[.slice none 0 0,.bool true]∧Chg (· =p) w w':=by
 have c0:=hb.cell 0;have c1:=hb.cell 1;have f0:=hb.frozen 0;have f1:=hb.frozen 1;simp only[Ap,Aq,Ar]at c0 c1;go_in
 go_wp2
 go_ret;refine⟨rfl,(hb.set 0 _).set 1 _,((Chg.refl (fun k=>k=p) w).put _ _ (fun _=>rfl) _).put _ _ (fun _=>rfl) _⟩
theorem eF:(Tryz.prog.info? 5).map (fun i=>(i.zero,i.size,i.bytes))=some (some (U .u8 0),1,1):=by kernel_rfl
theorem vC(p:Nat)(o:Option Nat)(bs:List UInt8)(A:Option Addr)(c:Nat)(n:Int)(L:Option Addr)(m k:Nat)(w:World)
  (h:Ob 243 5 w p o bs true A c):
  Calls Tryz.prog 155 #[.pointer (some ⟨p,0,none⟩),U Z n,.slice L m k] w fun e w'=>e=.returned (.pointer (some ⟨p,0,none⟩))∧w=w':=by
 have hb:Blk w p _ _:=h.blk;have c1:=hb.cell 1;simp only[Ap,Aq,Ar]at c1;go_in
 go_wp2
 go_ret;exact⟨rfl,rfl⟩
theorem vD{w:World}{o:Obj}{base:Nat}{e:TypeId}{size:Nat}{v:Value}{n:Nat}{xs:List Value}(h:w.ownsRow base e size v n xs):(w.alloc o).drew.ownsRow base e size v n xs:=h.alloc o
theorem vE(w:World)(t:TypeId)(u:Value):Rds (w.alloc (.cells #[u] t)).drew (fun k=>k=w.heap.size) (some ⟨w.heap.size,0,none⟩) 1 [u]:=(Blk.new w t #[u]).rds
theorem k6{T e:TypeId}{w:World}{p:Nat}(h:Blk w p T #[.slice none 0 0,.bool true])(N:Nat):Wr T e w p none none N:=
 ⟨[],true,none,0,⟨h,As w 0 e 1,rfl,by simp⟩,zP _,rfl⟩
theorem iP{p:Nat}{w w':World}(h:Chg (fun k=>k=p) w w')(o:Option Nat):Mvd p o none w w':=⟨h.mono fun _ _ e=>.inl e,.inr (.inl rfl)⟩
theorem xf(p:Nat)(o:Option Nat)(bs:List UInt8)(A:Option Addr)(c N:Nat)(n:Nat)(l:List Int)(L:Option Addr)(k:Nat)(w:World)(S:Nat→Prop)
  (h:Ob 243 5 w p o bs false A c) (hl:Rds w S L l.length (ics l)) (hS:∀k,S k→k≠p∧o≠some k) (hw:∀x∈l,-9223372036854775808≤x∧x≤9223372036854775807)
  (h1:1≤n) (h8:n≤8) (hN:bs.length≤N) (hbig:N+8*l.length≤1000000000000):
  Calls Tryz.prog 155 #[.pointer (some ⟨p,0,none⟩),U Z n,.slice L l.length k] w fun e w'=>e=.returned (.pointer (some ⟨p,0,none⟩))∧
   ∃o',Wr 243 5 w' p o' (cg n l (some bs)) (N+8*l.length)∧Mvd p o o' w w':=by
 obtain⟨i0,hi0,hz0,hz1,hz2⟩:=info_parts eF;have hb:Blk w p _ _:=h.blk;have c1:=hb.cell 1;simp only[Ap,Aq,Ar]at c1;go_in;go_wp2_with (go_at_call 180;refine(mA _ _ (by omega) (by omega)).mono ?_;rintro e w' ⟨rfl,rfl⟩)
 go_loopg [26] l.length (fun q i wr=>∃(j:Nat) (b1:List UInt8) (o1:Option Nat) (A1:Option Addr) (c1:Nat),q=l.length-j∧j≤l.length∧i=U Z (j:Int)∧
  cg n (l.take j) (some bs)=some b1∧Ob 243 5 wr p o1 b1 false A1 c1∧Mvd p o o1 w wr)
 case atStart=>exact⟨0,bs,o,A,c,by omega,by omega,rfl,rfl,h,Mvd.refl _ _ _⟩
 case round=>
  obtain⟨j,b1,o1,A1,c1,rfl,hj,rfl,hp1,hob,hm⟩:=hrel;have hl1:Rds wr S L l.length (ics l):=hl.chg hm.1 (fun k hk=>by have:=hS k hk;rintro(h|h);exact this.1 h;exact this.2 h);by_cases hlt:j<l.length
  ·obtain⟨ad,rfl,hs,hbk,hc⟩:=hl1.cellAt hlt;rw[xe l j hlt]at hc;obtain⟨hx1,hx2⟩:=hw l[j] (At hlt);have HP:=hd_ (lF n l (some bs) j hlt);have HF:=hd_ (q_ n l (some bs) j hlt);have hlen:=mz n (l.take j) bs b1 hp1
   have hb1le:b1.length≤N+8*j:=by
    rw[zN,Au hj]at hlen;have:n*j≤8*j:=Av _ h8;omega
   clear hlen;have HP1:=hd_ hp1;clear hp1;generalize hx:l[j]=x at*;have HX:=hd_ hx;clear hx;have hb1:Blk wr p _ _:=hob.blk;have d0:=hb1.cell 0;have d1:=hb1.cell 1;have e0:=hb1.frozen 0;have e1:=hb1.frozen 1;simp only[Ap,Aq,Ar]at d0 d1;by_cases hneg:x<0
   ·go_wp2_with fail;refine(pb _ p _ _ _ hb1).mono ?_;rintro e w' ⟨rfl,hb',hc'⟩;go_wp2_with fail;go_ret;refine⟨rfl,none,?_,hm.trans (iP hc' o1)⟩;rw[HF.out (by simp only[a_,Bool.and_eq_false_iff,decide_eq_false_iff_not];exact Or.inl (by omega))];exact k6 hb' _
   ·have hs1:=tE n x h8 (by omega)
    have e8:min (8*(n:Int)).toNat 64=8*n:=by omega
    rw[e8]at hs1;by_cases hf:a_ n x=true
    ·have t1:(x/2^(8*n)==0)=true:=by rw[←hs1];exact hf
     have t2:(x/2^(8*n) !=0)=false:=by simpa using t1
     clear hs1 e8 t1;have HFT:=hd_ hf;clear hf;go_wp2_with fail;obtain⟨wo,rfl⟩:∃wo:World,wo=wr:=⟨_,rfl⟩
     go_loopg [9] n (fun q i wi=>∃(t:Nat) (y:Int) (b2:List UInt8) (o2:Option Nat) (A2:Option Addr) (c2:Nat),q=n-t∧t≤n∧i=U Z y∧y≤(n:Int)-1-t∧(n:Int)-1-t≤y∧
      b2=b1++(be n x.toNat).take t∧Ob 243 5 wi p o2 b2 false A2 c2∧Mvd p o1 o2 wo wi)
     case atStart=>exact⟨0,(n:Int)-1,b1,o1,A1,c1,by omega,by omega,rfl,by omega,by omega,by simp,hob,Mvd.refl _ _ _⟩
     case round=>
      obtain⟨t,y,b2,o2,A2,c2,rfl,ht,rfl,hy1,hy2,hb2,hob2,hm2⟩:=hrel;have HB2:=hd_ hb2
      have hlen2:b2.length=b1.length+t:=by rw[hb2,zY,zN,bM];omega
      clear hb2;by_cases htn:t<n
      ·obtain⟨s,rfl⟩:=Ak (show 0≤y by omega)
       have hb2le:b2.length≤1000000000008:=by omega
       clear hlen2;have hb2:Blk wr p _ _:=hob2.blk;have g0:=hb2.cell 0;have g1:=hb2.cell 1;have f0:=hb2.frozen 0;simp only[Ap,Aq,Ar]at g0 g1;go_wp2_with fail;have hplt:=hb2.lt
       have hne2:(zW A2 b2.length c2).ownBlock≠some p:=by rw[aG,hob2.at_];exact hob2.ne
       have w8:IntKind.i64.wrap (8*(s:Int))=8*(s:Int):=IntWalk.i64_in _ (by omega)
       have n8:(0:Int)≤8*(s:Int):=by omega
       have m8:(8*(s:Int)).toNat=8*s:=by omega
       have k8:min (8*s) 64=8*s:=by omega
       go_region_law (refine gC _ rfl (.tmp 51) (.tmp 57) 23 rfl 0 5 i0 (U .u8 0) 1 Tryz.underlying23 hi0 hz0 hz1 hz2 rfl _ b2.length (bcs b2) rfl (vD hob2.own) (fun k=>k=wr.heap.size) (some ⟨wr.heap.size,0,none⟩) 1 1 [U .u8 (IntKind.u8.wrap (x/2^(8*s)))] rfl (vE wr _ _) (by simp[Aw]) (by unfold maxLen;omega) (by omega) (zP _) ?_;intro v' w' hown' hgrow hat;obtain⟨A3,c3,rfl,_,_⟩:=aV hown';have hb3:=ct (hb2.alloc _).drew hgrow hne2;have z0:=hb3.cell 0;have z1:=hb3.frozen 0;simp only[Ap,Aq]at z0)
       all_goals
        go_wp2_with fail;go_roundg (n-(t+1))
        case measure=>omega
        case rel=>
         obtain⟨hob3,hm3⟩:=jQ hob2 (((Chg.refl _ wr).alloc (.cells #[U .u8 (IntKind.u8.wrap (x/2^(8*s)))] 5)).drew) [UInt8.ofNat (x.toNat/2^(8*s))]
          (by simp only[bcs,zT,zU];rw[ou x s (by omega)]) rfl hown' hgrow hat
         exact⟨t+1,(s:Int)-1,_,_,A3,c3,rfl,by omega,rfl,by omega,by omega,by rw[ot _ _ _ htn,HB2.out,List.append_assoc,show n-1-t=s by omega],hob3,hm2.trans hm3⟩
      ·obtain rfl:t=n:=by omega
       clear hlen2
       have hyn:y<0:=by omega
       go_wp2_with fail;go_roundg (l.length-(j+1))
       case measure=>omega
       case rel=>
        refine⟨j+1,b2,o2,A2,c2,rfl,by omega,by go_num,?_,hob2,hm.trans hm2⟩;rw[HP.out,HP1.out];simp only[dR,Option.bind_some];rw[if_pos HFT.out,HB2.out,Ax (by rw[bM];omega)]
    ·have t1:(x/2^(8*n)==0)=false:=by rw[←hs1];simpa using hf
     have t2:(x/2^(8*n) !=0)=true:=by simpa using t1
     have hff:a_ n x=false:=by simpa using hf
     have HFF:=hd_ hff;clear hs1 e8 t1 hff hf;go_wp2_with fail;refine(pb _ p _ _ _ hb1).mono ?_;rintro e w' ⟨rfl,hb',hc'⟩;go_wp2_with fail;go_ret;refine⟨rfl,none,?_,hm.trans (iP hc' o1)⟩;rw[HF.out HFF.out];exact k6 hb' _
  ·obtain rfl:j=l.length:=by omega
   rw[List.take_length]at hp1;have hlen:=mz n l bs b1 hp1;have HP1:=hd_ hp1;clear hp1;go_wp2_with fail;go_ret;refine⟨rfl,o1,?_,hm⟩;rw[HP1.out];exact⟨b1,false,A1,c1,hob,by have:n*l.length≤8*l.length:=Av _ h8;omega,rfl,rfl⟩
theorem re(p:Nat)(o:Option Nat)(bs:List UInt8)(A:Option Addr)(c:Nat)(n:Int)(L:Option Addr)(m k:Nat)(w:World)
  (h:Ob 243 5 w p o bs false A c) (hn:n<1∨8<n) (N:Nat):
  Calls Tryz.prog 155 #[.pointer (some ⟨p,0,none⟩),U Z n,.slice L m k] w fun e w'=>e=.returned (.pointer (some ⟨p,0,none⟩))∧
   ∃o',Wr 243 5 w' p o' none N∧Mvd p o o' w w':=by
 have hb:Blk w p _ _:=h.blk;have c1:=hb.cell 1;simp only[Ap,Aq,Ar]at c1;go_in;go_wp2_with fail;refine(oz _ _ hn).mono ?_;rintro e w' ⟨rfl,rfl⟩;go_wp2_with fail;refine(pb _ p _ _ _ hb).mono ?_;rintro e w' ⟨rfl,hb',hc'⟩;go_wp2_with fail;go_ret;exact⟨rfl,none,k6 hb' _,iP hc' _⟩
theorem k9(p:Nat)(o:Option Nat)(st:Option (List UInt8))(N:Nat)(n:Int)(l:List Int)(L:Option Addr)(m k:Nat)(w:World)(S:Nat→Prop)
  (h:Wr 243 5 w p o st N) (hm:m=l.length) (hl:Rds w S L m (ics l)) (hS:∀k,S k→k≠p∧o≠some k) (hw:∀x∈l,-9223372036854775808≤x∧x≤9223372036854775807)
  (hbig:N+8*m≤1000000000000):
  Calls Tryz.prog 155 #[.pointer (some ⟨p,0,none⟩),U Z n,.slice L m k] w fun e w'=>e=.returned (.pointer (some ⟨p,0,none⟩))∧
   ∃o',Wr 243 5 w' p o' (ax n l st) (N+8*m)∧Mvd p o o' w w':=by
 subst hm;obtain⟨bs,f,A,c,hob,hN,hst⟩:=h;rcases st with _|b
 ·have hf:f=true:=hst;subst hf;refine(vC p o bs A c n L _ k w hob).mono ?_;rintro e w' ⟨rfl,rfl⟩
  have e:ax n l none=none:=by
   unfold ax
   split
   ·exact gF _ _
   ·rfl
  rw[e];exact⟨rfl,o,⟨bs,true,A,c,hob,by omega,rfl⟩,Mvd.refl _ _ _⟩
 ·obtain⟨hf,rfl⟩:f=false∧b=bs:=hst;subst hf;by_cases hn:1≤n∧n≤8
  ·obtain⟨q,rfl⟩:=Ak (show 0≤n by omega)
   have e:ax (q:Int) l (some b)=cg q l (some b):=by unfold ax;rw[if_pos hn,Al]
   rw[e];exact xf p o b A c N q l L k w S hob hl hS hw (by omega) (by omega) hN hbig
  ·have e:ax n l (some b)=none:=by unfold ax;rw[if_neg hn]
   rw[e];exact re p o b A c n L _ k w hob (by omega) _
theorem rf(w:World):Calls Tryz.prog 179 #[.slice none 0 0] w fun e w'=>e=.returned (.slice none 0 0)∧w=w':=by
 have he:=fun W:World=>Lib.run_eql_slice_nil (P:=Tryz.prog) W 23 5 none 0 0 0 0 Tryz.underlying23;go_in
 go_wp2
 go_ret;exact⟨rfl,rfl⟩
theorem pc(a:Addr)(n c:Nat)(bs:List UInt8)(S:Nat→Prop)(w:World)(hn:n=bs.length)(h:Rds w S (some a) n (bcs bs))(hbig:n≤140737488355328):
  Calls Tryz.prog 179 #[.slice (some a) n c] w fun e w'=>∃A' c',e=.returned (.slice A' n c')∧
   w'.ownsRow w.heap.size 5 1 (.slice A' n c') n (bcs bs)∧Chg (fun _=>False) w w':=by
 obtain⟨i0,hi0,hz0,hz1,hz2⟩:=info_parts eF;have HN:=hd_ hn;clear hn;have he:=fun W:World=>Lib.run_eql_slice_nil (P:=Tryz.prog) W 23 5 (some a) n c 0 0 Tryz.underlying23;go_in;have hmade:=World.ownsRow_made (e:=5) (size:=1) w #[] 0 (zG _) (by decide) rfl;go_wp2_with (at_builtin;refine aN _ rfl (.tmp 5) (.tmp 6) 23 rfl w.heap.size 5 i0 (U .u8 0) 1 Tryz.underlying23 hi0 hz0 hz1 hz2 rfl (.slice (some ⟨w.heap.size,0,none⟩) 0 0) 0 [] rfl hmade S (some a) n c (bcs bs) rfl (h.alloc _) (dv bs) (by unfold maxLen;omega) (by omega) (by simp) ?_;intro v' w' hown' hg hat;obtain⟨A3,c3,rfl,_,_⟩:=aV hown');go_ret;refine⟨A3,c3,by simp,by simpa using hown',?_⟩;exact((Chg.refl _ w).alloc _).grown hg (fun k hk hlt=>by simp only[zX,Option.some.injEq]at hk;subst hk;exact absurd hlt (Ay _))
theorem lH (A : Option Addr) (n c : Nat) (bs : List UInt8) (S : Nat → Prop) (w : World) (hn : n = bs.length) (h : Rds w S A n (bcs bs)) (hz : A = none → c = 0) (hbig : n ≤ 140737488355328) :
    Calls Tryz.prog 179 #[.slice A n c] w fun e w' => ∃ A' c', e = .returned (.slice A' n c') ∧
      w'.ownsRow w.heap.size 5 1 (.slice A' n c') n (bcs bs) ∧ Chg (fun _ => False) w w' := by
  rcases A with _ | a
  · have h0 : n = 0 := by
      rcases zQ n with h0 | h0
      · exact h0
      · obtain ⟨ad, e, _⟩ := h.2 h0
        cases e
    have hc := hz rfl
    subst hc
    subst h0
    have hb : bs = [] := zR hn.symm
    subst hb
    refine (rf w).mono ?_
    rintro e w' ⟨rfl, rfl⟩
    exact ⟨none, 0, rfl, As w _ _ _, Chg.refl _ _⟩
  · exact pc a n c bs S w hn h hbig
theorem kq(p:Nat)(o:Option Nat)(b:List UInt8)(N:Nat)(w:World)(h:Wr 243 5 w p o (some b) N)(hN:N≤140737488355328):
  Calls Tryz.prog 157 #[.pointer (some ⟨p,0,none⟩)] w fun e w'=>∃A n c,e=.returned (.tuple #[.slice A n c,U Z 0])∧n=b.length∧
   w'.ownsRow w.heap.size 5 1 (.slice A n c) n (bcs b)∧Chg (fun _=>False) w w':=by
 obtain⟨bs,f,A,c,hob,hN,rfl,rfl⟩:=h;have hb:Blk w p _ _:=hob.blk;have c0:=hb.cell 0;have c1:=hb.cell 1;simp only[Ap,Aq,Ar]at c0 c1
 have hz:A=none→c=0:=by
  rintro rfl;rcases hob.own.2 with⟨e,_⟩|⟨g,cap,cur,e,_⟩
  ·injection e
  ·injection e with e;cases e
 go_in;go_wp2_with fail;refine(lH _ _ _ b _ w rfl (d5 hob.own) hz (by omega)).mono ?_;rintro e w' ⟨A',c',rfl,hown,hc⟩;go_wp2_with fail;go_ret2;exact⟨A',_,c',rfl,rfl,hown,hc⟩
theorem aK(w:World)(t:TypeId)(cs:Array Value)(fr:Nat×Nat)(g:Nat)(hg:g=w.heap.size)(xs:List Value)(n:Nat)(hx:xs=cs.toList)(hn:n=cs.size):
  Rds (w.alloc (.cells cs t fr)) (fun k=>k=g) (some ⟨g,0,none⟩) n xs:=by
 subst hg;subst hx;subst hn;exact iO w t cs fr
theorem vF(w:World)(t:TypeId)(x:Int):Rds (w.alloc (.cells #[U Z x] t)) (fun k=>k=w.heap.size) (some ⟨w.heap.size,0,none⟩) 1 (ics [x]):=(Blk.new w t #[U Z x]).rds
theorem pd(p:Nat)(o:Option Nat)(st:Option (List UInt8))(N:Nat)(A:Option Addr)(n c:Nat)(b:List UInt8)(S:Nat→Prop)(w:World)
  (h:Wr 243 5 w p o st N) (hn:n=b.length) (hr:Rds w S A n (bcs b)) (hS:∀k,S k→k≠p∧o≠some k) (hbig:N+8+n≤1000000000000):
  Calls Tryz.prog 156 #[.pointer (some ⟨p,0,none⟩),.slice A n c] w fun e w'=>e=.returned (.pointer (some ⟨p,0,none⟩))∧
   ∃o',Wr 243 5 w' p o' (h_ b st) (N+8+n)∧Mvd p o o' w w':=by
 obtain⟨i0,hi0,hz0,hz1,hz2⟩:=info_parts eF;have hlt:=h.lt;have hC0:Chg (fun _=>False) w (w.alloc (.cells #[U Z n] 3)):=(Chg.refl _ w).alloc _;have h1:Wr 243 5 (w.alloc (.cells #[U Z n] 3)) p o st N:=h.chg hC0 id (fun _ _=>id);have hr1:=hr.old.alloc (.cells #[U Z n] 3);have HN:=hd_ hn;clear hn
 have hput:=k9 p o st N 2 [(n:Int)] (some ⟨w.heap.size,0,none⟩) 1 1 (w.alloc (.cells #[U Z n] 3)) (fun k=>k=w.heap.size) h1 rfl (vF w 3 n)
  (fun k hk=>by subst hk;exact⟨by omega,fun e=>by have:=hlt.2 _ e;omega⟩) (fun x hx=>by simp only[Az]at hx;omega) (by omega)
 have HPUT:=hd_ hput;clear hput;go_in;go_wp2_with fail;refine(HPUT.out).mono ?_;rintro e w1 ⟨rfl,o1,hw1,hm1⟩;clear HPUT h1;have hm0:Mvd p o o1 w w1:=hm1.pre hC0
 have hr2:Rds w1 (fun k=>S k∧k<w.heap.size) A n (bcs b):=hr1.chg hm1.1 (fun k hk=>by
  have:=hS k hk.1;rintro(h|h)
  ·exact this.1 h
  ·exact this.2 h)
 clear hr1 hm1 hC0
 have HB:Hid (h_ b st=(ax 2 [(n:Int)] st).map (· ++b)):=by
  rw[HN.out];rfl
 generalize ax 2 [(n:Int)] st=st1 at*;obtain⟨bs1,f1,A1,c1,hob,hN1,hst⟩:=hw1;have hb1:Blk w1 p _ _:=hob.blk;have d0:=hb1.cell 0;have d1:=hb1.cell 1;have e0:=hb1.frozen 0;simp only[Ap,Aq,Ar]at d0 d1;rcases st1 with _|b1
 ·obtain rfl:f1=true:=hst;go_wp2_with fail;go_ret;refine⟨rfl,o1,?_,hm0⟩;rw[HB.out];exact⟨bs1,true,A1,c1,hob,by omega,rfl⟩
 ·obtain⟨rfl,rfl⟩:f1=false∧b1=bs1:=hst
  have hne2:(zW A1 b1.length c1).ownBlock≠some p:=by rw[aG,hob.at_];exact hob.ne
  go_wp2_with (at_builtin;refine aN _ rfl (.tmp 21) (.tmp 22) 23 rfl 0 5 i0 (U .u8 0) 1 Tryz.underlying23 hi0 hz0 hz1 hz2 rfl (.slice A1 b1.length c1) b1.length (bcs b1) rfl hob.own _ A n c (bcs b) rfl hr2 (dv b) (by unfold maxLen;omega) (by omega) (zP _) ?_;intro v' w' hown' hgrow hat;obtain⟨A3,c3,rfl,_,_⟩:=aV hown';have hb3:=ct hb1 hgrow hne2;have z0:=hb3.cell 0;have z1:=hb3.frozen 0;simp only[Ap,Aq]at z0);go_ret;obtain⟨hob3,hm3⟩:=jQ hob (Chg.refl _ w1) b rfl HN.out hown' hgrow hat;refine⟨rfl,_,?_,hm0.trans hm3⟩;rw[HB.out];exact⟨b1++b,false,A3,c3,hob3,by rw[zY,←HN.out];omega,rfl,rfl⟩
theorem mp(T:TypeId)(p:Nat)(v x:Value)(w:World)(hb:Blk w p T #[v,x]):
  Calls Tryz.prog 181 #[.pointer (some ⟨p,0,none⟩)] w fun e w'=>e=.returned (.tuple #[])∧
   Blk w' p T #[.slice none 0 0,.bool true]∧Chg (fun k=>k=p) w w':=by
 have c0:=hb.cell 0;have c1:=hb.cell 1;have f0:=hb.frozen 0;have f1:=hb.frozen 1;simp only[Ap,Aq,Ar]at c0 c1;go_in
 go_wp2
 go_end0
 exact⟨rfl,(hb.set 0 _).set 1 _,((Chg.refl (fun k=>k=p) w).put _ _ (fun _=>rfl) _).put _ _ (fun _=>rfl) _⟩
theorem jp{T:TypeId}{s:Bool}{w:World}{p:Nat}{S:Nat→Prop}(hS:¬S p)(h:Blk w p T #[.slice none 0 0,.bool true]):Rd T s w p S none:=
 ⟨hS,none,0,0,true,[],h,zG _,zP _,rfl,Rds.nil _ _ _,rfl,fun _=>⟨rfl,rfl,rfl⟩⟩
theorem vG{st:Option (List UInt8)}{bs:List UInt8}{f:Bool}{A A':Option Addr}{m c n:Nat}
  (hst:RSt true f A m c bs st) (hm:m=bs.length) (hle:n≤m) (hA:A=none→A'=none):
  (bS n st).1=bs.take n∧RSt true f A' (m-n) (c-n) (bs.drop n) (bS n st).2:=by
 rcases st with _|b
 ·obtain⟨hf,h2⟩:f=true∧(true=true→A=none∧m=0∧c=0):=hst;obtain⟨hn,h0,hc⟩:=h2 rfl;have hb:bs=[]:=zR (by omega);subst hb;exact⟨by simp[bS],hf,fun _=>⟨hA hn,by omega,by omega⟩⟩
 ·obtain⟨hf,rfl⟩:f=false∧b=bs:=hst;have e:bS n (some b)=(b.take n,some (b.drop n)):=if_pos (by omega);rw[e];exact⟨rfl,hf,rfl⟩
theorem kr{w:World}{p:Nat}{S:Nat→Prop}{st:Option (List UInt8)}{bs:List UInt8}{f:Bool}{A A':Option Addr}{m c n:Nat}(hS:¬S p)(hb:Blk w p 259 #[.slice A m c,.bool f])
  (hr:Rds w S A m (bcs bs)) (hmc:m≤c) (hcm:c≤maxLen) (hst:RSt true f A m c bs st) (hm:m=bs.length) (hle:n≤m) (hA:A=none→A'=none) (hd:Rds w S A' (m-n) ((bcs bs).drop n)) (c2:Nat) (hc2:c2=c-n):
  ∃A1 k c1,Ending.returned (.slice A n n)=.returned (.slice A1 k c1)∧k=(bS n st).1.length∧k≤c1∧c1≤maxLen∧
   Rds (w.setCell ⟨p,0,none⟩ (.slice A' (m-n) c2)) S A1 k (bcs (bS n st).1)∧Rd 259 true (w.setCell ⟨p,0,none⟩ (.slice A' (m-n) c2)) p S (bS n st).2∧
   Chg (fun k=>k=p) w (w.setCell ⟨p,0,none⟩ (.slice A' (m-n) c2)):=by
 subst hc2;obtain⟨e1,e2⟩:=vG hst hm hle hA;rw[e1];have hcc:Chg (fun k=>k=p) w (w.setCell ⟨p,0,none⟩ (.slice A' (m-n) (c-n))):=(Chg.refl (fun k=>k=p) w).put p 0 (fun _=>rfl) _;refine⟨A,n,n,rfl,by rw[zN];omega,zG _,by omega,?_,⟨hS,A',m-n,c-n,f,bs.drop n,hb.set 0 _,by omega,by omega,by rw[zO];omega,?_,e2⟩,hcc⟩
 ·have:=hr.take n hle;unfold bcs at this⊢;rw[←List.map_take]at this;exact this.chg hcc (fun k hk e=>by subst e;exact hS hk)
 ·unfold bcs at hd⊢;rw[←List.map_drop]at hd;exact hd.chg hcc (fun k hk e=>by subst e;exact hS hk)
theorem jR (p : Nat) (S : Nat → Prop) (st : Option (List UInt8)) (n : Nat) (w : World) (h : Rd 259 true w p S st) (hn : n ≤ 9223372036854775807) :
    Calls Tryz.prog 182 #[.pointer (some ⟨p, 0, none⟩), .int .i64 n] w fun e w' => ∃ A k c, e = .returned (.slice A k c) ∧ k = (bS n st).1.length ∧ k ≤ c ∧ c ≤ maxLen ∧
      Rds w' S A k (bcs (bS n st).1) ∧ Rd 259 true w' p S (bS n st).2 ∧ Chg (fun k => k = p) w w' := by
  obtain ⟨hS, A, m, c, f, bs, hblk, hmc, hc, hm, hr, hst⟩ := h
  have hb : Blk w p _ _ := hblk
  have hcm := hc
  unfold maxLen at hc
  have c0 := hb.cell 0
  have c1 := hb.cell 1
  have f0 := hb.frozen 0
  have f1 := hb.frozen 1
  simp only [Ap, Aq, Ar] at c0 c1
  by_cases hlt : m < n
  · have e : bS n st = ([], none) := by
      rcases st with _ | b
      · rfl
      · obtain ⟨_, rfl⟩ : f = false ∧ b = bs := hst
        exact if_neg (by omega)
    rw [e]
    have HM := Lib.hid hm
    clear hm hst e
    go_in
    go_wp2_with fail
    refine (mp _ p _ _ _ hb).mono ?_
    rintro e w' ⟨rfl, hb', hc'⟩
    go_wp2_with fail
    go_ret
    exact ⟨none, 0, 0, rfl, rfl, zG _, zP _, Rds.nil _ _ _, jp hS hb', hc'⟩
  · have hle : n ≤ m := by omega
    have HM := Lib.hid hm
    have HST := Lib.hid hst
    clear hm hst
    go_in
    go_wp2_with fail
    all_goals
      go_ret
      have hm' := HM.out
      have hd := hr.drop n c hle hmc
    · rw [if_pos (by omega)] at hd
      exact kr hS hb hr hmc hcm HST.out hm' hle id hd _ (by omega)
    · rw [if_neg (by omega)] at hd
      exact kr hS hb hr hmc hcm HST.out hm' hle (fun e => by rw [e]; rfl) hd _ rfl
theorem vH{a b:Int}(h:a=b):Ending.returned (U Z a)=.returned (U Z b):=by rw[h]
theorem vI(p:Nat)(S:Nat→Prop)(st:Option (List UInt8))(n:Int)(w:World)(h:Rd 259 true w p S st)(hn:n<1∨8<n):
  Calls Tryz.prog 119 #[.pointer (some ⟨p,0,none⟩),U Z n] w fun e w'=>e=.returned (U Z 0)∧
   Rd 259 true w' p S none∧Chg (fun k=>k=p) w w':=by
 obtain⟨hS,A,m,c,f,bs,hblk,hmc,hc,hm,hr,hst⟩:=h;have hb:Blk w p _ _:=hblk;clear hm hst;go_in;go_wp2_with fail;refine(oz _ _ hn).mono ?_;rintro e w' ⟨rfl,rfl⟩;go_wp2_with fail;refine(mp _ p _ _ _ hb).mono ?_;rintro e w' ⟨rfl,hb',hc'⟩;go_wp2_with fail;go_ret;exact⟨rfl,jp hS hb',hc'⟩
theorem xg (p : Nat) (S : Nat → Prop) (st : Option (List UInt8)) (n : Nat) (w : World) (h : Rd 259 true w p S st) (h1 : 1 ≤ n) (h8 : n ≤ 8) :
    Calls Tryz.prog 119 #[.pointer (some ⟨p, 0, none⟩), .int .i64 n] w fun e w' => e = .returned (.int .i64 (bk n st).1) ∧
      Rd 259 true w' p S (bk n st).2 ∧ Chg (fun k => k = p) w w' := by
  rw [tH n st h1 h8]
  have htk := jR p S st n w h (by omega)
  have hlen8 := lG n st
  generalize bS n st = ts at *
  obtain ⟨tk, st2⟩ := ts
  have HTK := Lib.hid htk
  clear htk h
  simp only at hlen8
  go_in
  go_wp2_with fail
  refine (mA _ _ (by omega) (by omega)).mono ?_
  rintro e w1 ⟨rfl, rfl⟩
  go_wp2_with fail
  refine HTK.out.mono ?_
  rintro e w1 ⟨A, k, c, rfl, hk, hkc, hcm, hr, hrd, hc⟩
  have HK := Lib.hid hk
  have hk8 : k ≤ 8 := by rw [hk]; omega
  clear hk HTK
  go_wp2_with fail
  go_loopg [5, 19] k (fun q x i wr => ∃ j : Nat, q = k - j ∧ j ≤ k ∧ i = .int .i64 (j : Int) ∧ x = .int .u64 (num (tk.take j) : Int) ∧ w1 = wr)
  case atStart => exact ⟨0, rfl, zP _, rfl, by simp [num], rfl⟩
  case round =>
    obtain ⟨j, rfl, hj, rfl, rfl, rfl⟩ := hrel
    by_cases hlt : j < k
    · obtain ⟨ad, rfl, hs, hbk, hcl⟩ := hr.cellAt hlt
      have hjl : j < tk.length := by have := HK.out; omega
      rw [my tk j hjl] at hcl
      have hnt := Lib.hid (tG tk j hjl)
      have hnl := kn (tk.take j)
      have hc8 : ((tk[j]).toNat : Int) < 256 := by have := (tk[j]).toNat_lt; omega
      have hp : (256 : Nat) ^ (tk.take j).length ≤ 256 ^ 7 := AA (by decide) (by rw [zN]; omega)
      have hx : (num (tk.take j) : Int) < 72057594037927936 := by
        have : (256 : Nat) ^ 7 = 72057594037927936 := by decide
        omega
      clear hnl hp
      generalize num (tk.take j) = x at *
      go_wp2_with fail
      go_roundg (k - (j + 1))
      case measure => omega
      case rel =>
        refine ⟨j + 1, rfl, by omega, by go_num, ?_, rfl⟩
        rw [vB _ _ (by omega) (by omega), hnt.out]
    · obtain rfl : j = k := by omega
      have hnn : num tk < 18446744073709551616 := by
        have := kn tk
        have hp : (256 : Nat) ^ tk.length ≤ 256 ^ 8 := AA (by decide) (by omega)
        have : (256 : Nat) ^ 8 = 18446744073709551616 := by decide
        omega
      have hkk := HK.out
      rw [Ax (by omega)]
      clear hkk
      by_cases hbig : num tk < 9223372036854775808
      · have t1 : ((num tk : Int) / 9223372036854775808 != 0) = false := by
          have : (num tk : Int) / 9223372036854775808 = 0 := Af (by omega) (by omega)
          rw [this]; rfl
        have hb2 : (num tk : Int) ≤ 9223372036854775807 := by omega
        clear hbig hnn
        go_wp2_with fail
        go_ret
        refine ⟨?_, hrd, hc⟩
        first
          | rfl
          | exact vH (IntWalk.i64_in _ (by omega))
      · have t1 : ((num tk : Int) / 9223372036854775808 != 0) = true := by
          have : (num tk : Int) / 9223372036854775808 = 1 := by omega
          rw [this]; rfl
        have HNN := Lib.hid hnn
        clear hnn
        obtain ⟨hS, A', m', c', f', bs', hblk, _⟩ := hrd
        have hb' : Blk w1 p _ _ := hblk
        clear hblk hr
        go_wp2_with fail
        refine (mp _ p _ _ _ hb').mono ?_
        rintro e w' ⟨rfl, hb2, hc'⟩
        go_wp2_with fail
        go_ret
        exact ⟨rfl, jp hS hb2, hc.tr hc'⟩
theorem ia(p:Nat)(S:Nat→Prop)(st:Option (List UInt8))(n:Int)(w:World)(h:Rd 259 true w p S st):
  Calls Tryz.prog 119 #[.pointer (some ⟨p,0,none⟩),U Z n] w fun e w'=>e=.returned (U Z (bk n st).1)∧
   Rd 259 true w' p S (bk n st).2∧Chg (fun k=>k=p) w w':=by
 by_cases hn:1≤n∧n≤8
 ·obtain⟨q,rfl⟩:=Ak (show 0≤n by omega);exact xg p S st q w h (by omega) (by omega)
 ·rw[ra n st (by omega)];exact vI p S st n w h (by omega)
def zk(T:TypeId)(strict:Bool)(w:World)(p:Nat)(S:Nat→Prop)(r:List UInt8×Option (List UInt8))(e:Ending)(w':World):Prop:=
 ∃A k c,e=.returned (.slice A k c)∧k=r.1.length∧k≤c∧c≤maxLen∧Rds w' S A k (bcs r.1)∧Rd T strict w' p S r.2∧Chg (fun k=>k=p) w w'
theorem ku(p:Nat)(S:Nat→Prop)(st:Option (List UInt8))(most:Int)(w:World)(h:Rd 259 true w p S st):
  Calls Tryz.prog 120 #[.pointer (some ⟨p,0,none⟩),U Z most] w (zk 259 true w p S (cu most st)):=by
 have hg:=ia p S st 2 w h;have HB:Hid (cu most st=if most<(bk 2 st).1 then([],none)else bS (bk 2 st).1.toNat (bk 2 st).2):=rfl;have hgl:=ox 2 st;generalize bk 2 st=g at*;obtain⟨x,st2⟩:=g;obtain⟨q,rfl⟩:=Ak hgl.1;have hq:(q:Int)≤9223372036854775807:=hgl.2;simp only[Al]at HB;have HG:=hd_ hg;clear hg hgl h;go_in;go_wp2_with fail;refine HG.out.mono ?_;rintro e w1 ⟨rfl,hrd,hc⟩;by_cases hm:most<(q:Int)
 ·have hE:Hid (cu most st=([],none)):=by rw[HB.out,if_pos hm];exact rfl
  obtain⟨hS,A',m',c',f',bs',hblk,_⟩:=hrd;have hb':Blk w1 p _ _:=hblk;clear hblk HB HG;go_wp2_with fail;refine(mp _ p _ _ _ hb').mono ?_;rintro e w2 ⟨rfl,hb2,hc'⟩;have hr2:Rd 259 true w2 p S none:=jp hS hb2;go_wp2_with fail;refine(jR p S none q w2 hr2 (by omega)).mono ?_;rintro e w3 ⟨A,k,c,rfl,hk,hkc,hcm,hr,hrd3,hc3⟩;have HK:=hd_ hk;clear hk;go_wp2_with fail;go_ret;rw[hE.out];have hk:k=0:=HK.out;exact⟨A,k,c,rfl,hk,hkc,hcm,hr,hrd3,(hc.tr hc').tr hc3⟩
 ·have hE:Hid (cu most st=bS q st2):=by rw[HB.out,if_neg hm];exact rfl
  clear HB HG;have htk:=jR p S st2 q w1 hrd (by omega);generalize bS q st2=r at*;have HTK:=hd_ htk;clear htk hrd;go_wp2_with fail;refine HTK.out.mono ?_;rintro e w3 ⟨A,k,c,rfl,hk,hkc,hcm,hr,hrd3,hc3⟩;have HK:=hd_ hk;clear hk HTK;go_wp2_with fail;go_ret;rw[hE.out];exact⟨A,k,c,rfl,HK.out,hkc,hcm,hr,hrd3,hc.tr hc3⟩
theorem dB (p : Nat) (S : Nat → Prop) (st : Option (List UInt8)) (w : World) (h : Rd 259 true w p S st) :
    Calls Tryz.prog 121 #[.pointer (some ⟨p, 0, none⟩)] w fun e w' => e = .returned (.int .i64 (bT st)) ∧ w = w' := by
  obtain ⟨hS, A, m, c, f, bs, hblk, hmc, hc, hm, hr, hst⟩ := h
  have hb : Blk w p _ _ := hblk
  have c0 := hb.cell 0
  have c1 := hb.cell 1
  simp only [Ap, Aq, Ar] at c0 c1
  rcases st with _ | b
  · obtain rfl : f = true := hst.1
    clear hst hm hr
    go_in
    go_wp2
    go_ret
    exact ⟨rfl, rfl⟩
  · obtain ⟨rfl, rfl⟩ : f = false ∧ b = bs := hst
    by_cases h0 : 0 < m
    · have hd : Hid (bT (some b) = 2) := by
        cases b
        · simp only [List.length_nil] at hm; omega
        · rfl
      clear hm hr
      go_in
      go_wp2
      go_ret
      exact ⟨by rw [hd.out]; rfl, rfl⟩
    · have hm0 : m = 0 := by omega
      subst hm0
      have hb0 : b = [] := zR hm.symm
      subst hb0
      clear hm hr
      go_in
      go_wp2
      go_ret
      exact ⟨rfl, rfl⟩
theorem eG(A:Option Addr)(n c:Nat)(bs:List UInt8)(S:Nat→Prop)(w:World)(hn:n=bs.length)(h:Rds w S A n (bcs bs))(hz:A=none→c=0)(hbig:n≤140737488355328):
  Calls Tryz.prog 118 #[.slice A n c] w fun e w'=>∃p,e=.returned (.pointer (some ⟨p,0,none⟩))∧w.heap.size≤p∧
   Rd 259 true w' p (fun k=>w.heap.size≤k∧k<p) (some bs)∧Chg (fun _=>False) w w':=by
 have hcl:=lH A n c bs S w hn h hz hbig;have HCL:=hd_ hcl;have HN:=hd_ hn;clear hcl hn hz;go_in;go_wp2_with fail;refine HCL.out.mono ?_;rintro e w1 ⟨A',c',rfl,hown,hc⟩;clear HCL;go_wp2_with fail;go_ret;have hlt:=hown.lt;rw[aG]at hlt;obtain⟨_,_,hv,h1,h2⟩:=aV hown;injection hv with _ _ hv;subst hv;have hr:Rds w1 (fun k=>w.heap.size≤k∧k<w1.heap.size) A' n (bcs bs):=(d5 hown).mono hlt;exact⟨w1.heap.size,rfl,hc.size,⟨fun h=>Ay _ h.2,A',n,c',false,bs,heap_alloc_new w1 _,h1,h2,HN.out,hr.alloc _,rfl,rfl⟩,hc.alloc _⟩
end Go.Proofs.YtnojmbejedlilaaGreat
end
section
namespace Go.Proofs.YtnojmbejedlilaaGreat
open Nat renaming le_refl→zG,le_trans→zH,lt_of_lt_of_le→zI,add_assoc→zL,zero_le→zP,eq_zero_or_pos→zQ,pow_succ→Am,mul_assoc→An,mod_eq_of_lt→Ao,min_eq_left→Au,mul_le_mul_right→Av,lt_irrefl→Ay,pow_le_pow_right→AA,pow_mul→AB,mul_comm→AE,zero_add→AF,add_comm→AG,pow_pos→AK,mul_left_comm→AM
open Go.World renaming setCell→zJ,cell?_of_block→zK,ownsRow_nil→As
open List renaming getElem?_eq_getElem→zM,length_take→zN,length_drop→zO,eq_nil_of_length_eq_zero→zR,getElem?_eq_some_iff→zS,map_cons→zT,map_nil→zU,length_append→zY,take_succ_eq_append_getElem→zZ,foldl_append→z_,foldl_cons→Aa,length_cons→Ab,getElem?_toArray→Ap,getElem?_cons_zero→Aq,getElem?_cons_succ→Ar,getElem_mem→At,take_of_length_le→Ax,mem_singleton→Az,map_map→AC,map_congr_left→AD,length_map→AH,all_eq_true→AJ
open Go.Region renaming wanted→zV,Mode→AN,ready→AO
open Go.Value renaming slice→zW,ownBlock→zX,oneCell'→Aw
open Int renaming pow_pos→Ac,ediv_eq_zero_of_lt→Af,le_ediv_of_mul_le→Ag,one_mul→Ah,not_lt→Ai,eq_ofNat_of_zero_le→Ak,toNat_natCast→Al
open Bool renaming true_and→Ad,eq_iff_iff→Ae,and_eq_true→AI
open Go.IntKind renaming wrap_u8'→Aj
open Go.Value renaming int→U
open Go.IntKind renaming i64→Z
theorem oA(k x:Nat):be (k+1) x=UInt8.ofNat (x/256^k)::be k x:=by
 have e:(2:Nat)^(8*k)=256^k:=by rw[AB]
 unfold be;rw[List.range_succ_eq_map,zT,AC];congr 1
 ·rw[←e];rfl
 ·refine AD (fun j _=>?_);show UInt8.ofNat (x/2^(8*(k+1-1-(j+1))))=_;rw[show k+1-1-(j+1)=k-1-j by omega]
theorem tI(l:List UInt8):∀a:Nat,l.foldl (fun x c=>256*x+c.toNat) a=a*256^l.length+num l:=by
 induction l with
 |nil=>intro a;simp[num]
 |cons c l ih=>
  intro a;have h1:=ih (256*a+c.toNat);have h2:=ih c.toNat;unfold num;simp only[Aa,Ab,Am];rw[h1,show 256*0+c.toNat=c.toNat by omega,h2,Nat.add_mul,zL,AE 256 a,An,AE 256]
theorem mB(c:UInt8)(l:List UInt8):num (c::l)=c.toNat*256^l.length+num l:=by
 have:=tI l c.toNat;unfold num at this⊢;simp only[Aa,Nat.mul_zero,AF];exact this
theorem xh(k x:Nat):num (be k x)=x%256^k:=by
 induction k with
 |zero=>simp[be,num,Nat.mod_one]
 |succ k ih=>
  have h:x%256^(k+1)=x%256^k+256^k*(x/256^k%256):=Nat.mod_pow_succ;have e:(UInt8.ofNat (x/256^k)).toNat=x/256^k%256:=UInt8.toNat_ofNat';rw[oA,mB,ih,bM,h,e,AE,AG]
theorem mC(n:Nat)(x:Int):a_ n x=true↔0≤x∧x<256^n:=by unfold a_;simp
def pi(k:Nat)(l:List Int):List UInt8:=l.flatMap fun x=>be k x.toNat
theorem tJ(k:Nat)(l:List Int)(b:List UInt8):cg k l (some b)=if l.all (a_ k)then some (b++pi k l)else none:=by
 induction l generalizing b with
 |nil=>simp[cg,pi]
 |cons x l ih=>
  have e:cg k (x::l) (some b)=cg k l (dR k (some b) x):=rfl;rw[e];by_cases hf:a_ k x=true
  ·have e1:dR k (some b) x=some (b++be k x.toNat):=by simp[dR,hf]
   rw[e1,ih];simp only[List.all_cons,hf,Ad];congr 2;simp[pi]
  ·have hf':a_ k x=false:=by simpa using hf
   have e1:dR k (some b) x=none:=by simp[dR,hf']
   rw[e1,gF];simp[hf']
theorem rh(b c:List UInt8):h_ b (some c)=if b.length<65536 then some (c++be 2 b.length++b)else none:=by
 have hp:ax 2 [(b.length:Int)] (some c)=cg 2 [(b.length:Int)] (some c):=by unfold ax;rw[if_pos ⟨by omega,by omega⟩];rfl
 unfold h_;rw[hp,tJ]
 have hf:a_ 2 (b.length:Int)=decide (b.length<65536):=by
  rw[Ae,mC];simp only[decide_eq_true_eq]
  constructor
  ·intro h;have:=h.2;omega
  ·intro h;exact⟨by omega,by omega⟩
 by_cases hb:b.length<65536
 ·rw[if_pos hb,if_pos (by simp[hf,hb])];simp[pi]
 ·rw[if_neg hb,if_neg (by simp[hf,hb])];rfl
end Go.Proofs.YtnojmbejedlilaaGreat
end
section
namespace Go.Proofs.YtnojmbejedlilaaGreat
open Nat renaming le_refl→zG,le_trans→zH,lt_of_lt_of_le→zI,add_assoc→zL,zero_le→zP,eq_zero_or_pos→zQ,pow_succ→Am,mul_assoc→An,mod_eq_of_lt→Ao,min_eq_left→Au,mul_le_mul_right→Av,lt_irrefl→Ay,pow_le_pow_right→AA,pow_mul→AB,mul_comm→AE,zero_add→AF,add_comm→AG,pow_pos→AK,mul_left_comm→AM
open Go.World renaming setCell→zJ,cell?_of_block→zK,ownsRow_nil→As
open List renaming getElem?_eq_getElem→zM,length_take→zN,length_drop→zO,eq_nil_of_length_eq_zero→zR,getElem?_eq_some_iff→zS,map_cons→zT,map_nil→zU,length_append→zY,take_succ_eq_append_getElem→zZ,foldl_append→z_,foldl_cons→Aa,length_cons→Ab,getElem?_toArray→Ap,getElem?_cons_zero→Aq,getElem?_cons_succ→Ar,getElem_mem→At,take_of_length_le→Ax,mem_singleton→Az,map_map→AC,map_congr_left→AD,length_map→AH,all_eq_true→AJ
open Go.Region renaming wanted→zV,Mode→AN,ready→AO
open Go.Value renaming slice→zW,ownBlock→zX,oneCell'→Aw
open Int renaming pow_pos→Ac,ediv_eq_zero_of_lt→Af,le_ediv_of_mul_le→Ag,one_mul→Ah,not_lt→Ai,eq_ofNat_of_zero_le→Ak,toNat_natCast→Al
open Bool renaming true_and→Ad,eq_iff_iff→Ae,and_eq_true→AI
open Go.IntKind renaming wrap_u8'→Aj
open Go.Value renaming int→U
open Go.IntKind renaming i64→Z
open Go.RowKit Go.ChangeShapes
def kv(k:IntKind)(w:World)(a:Option Addr)(len cap:Nat)(zs:List Int):Prop:=
 (a=none∧len=0∧cap=0∧zs=[])∨
 ∃x,a=some x∧len≤cap∧cap≤maxLen∧len≤zs.length∧(∀i,i<zs.length→w.cell? (x.add i)=some (.int k (zs.getD i 0)))∧∀n∈zs,(Lit.int k n).wf=true
theorem mD{n:Int}(h:(Lit.int .u8 n).wf=true):0≤n∧n≤255:=by
 have:=bounds_u8 h;omega
theorem vJ{k:IntKind}{w:World}{a:Option Addr}{len cap:Nat}{zs:List Int}(h:kv k w a len cap zs):a=none→cap=0:=by
 rcases h with⟨_,_,h,_⟩|⟨x,rfl,_⟩
 ·exact fun _=>h
 ·intro e;cases e
theorem vK {k : IntKind} {w : World} {a : Option Addr} {len cap : Nat} {zs : List Int} (h : kv k w a len cap zs) :
    len = (zs.take len).length ∧ Rds w (fun _ => True) a len ((zs.take len).map (Value.int k)) ∧ ∀ n ∈ zs.take len, (Lit.int k n).wf = true := by
  rcases h with ⟨rfl, rfl, rfl, rfl⟩ | ⟨x, rfl, h1, h2, h3, h4, h5⟩
  · exact ⟨rfl, Rds.nil _ _ _, by simp⟩
  · have hl : (zs.take len).length = len := by rw [zN]; omega
    refine ⟨hl.symm, ⟨by rw [AH, hl], fun hn => ⟨x, rfl, trivial, ?_, fun j u hu => ?_⟩⟩, fun n hn => h5 n (List.mem_of_mem_take hn)⟩
    · have := World.block_lt_of_cell? w _ (h4 0 (by omega))
      rwa [bP] at this
    · have hj : j < len := by
        have := (zS.1 hu).1
        rw [AH, hl] at this
        exact this
      rw [h4 j (by omega)]
      have e : ((zs.take len).map (Value.int k))[j]? = some (.int k (zs.getD j 0)) := by simp [List.getD, hj, show j < zs.length by omega]
      rw [e] at hu
      exact hu
theorem tK(zs:List Int)(h:∀n∈zs,(Lit.int .u8 n).wf=true):bcs (zs.map fun z=>UInt8.ofNat z.toNat)=zs.map (Value.int .u8):=by
 unfold bcs;rw[AC];refine AD (fun z hz=>?_);have:=mD (h z hz);show Value.int .u8 ((UInt8.ofNat z.toNat).toNat:Int)=_;rw[UInt8.toNat_ofNat'];congr 1;omega
theorem ri{w:World}{a:Option Addr}{len cap:Nat}{zs:List Int}(h:kv .u8 w a len cap zs):∃b:List UInt8,len=b.length∧Rds w (fun _=>True) a len (bcs b):=by
 obtain⟨h1,h2,h3⟩:=vK h;refine⟨(zs.take len).map fun z=>UInt8.ofNat z.toNat,by rw[AH];exact h1,?_⟩;rw[tK _ h3];exact h2
section
variable {H : Type} {enc : TypeId × Value → H} {P : Program} {w : World} {base : Nat} {spare : Nat → Bool} {held : Bool}
theorem rj{t e:TypeId}{k:IntKind}{fuel:Nat}{cs:List Value}{x:DataW H×List MemPlace}(ht:P.underlying t=some (.slice e))(he:P.underlying e=some (.int k))(hc:P.cellsOf e=1)
  (h:DataW.trod enc P w base spare held fuel t cs=some x):∃(A:Option Addr) (n c:Nat) (zs:List Int),cs=[.slice A n c]∧kv k w A n c zs:=by
 rcases open_ints ht he hc h with⟨hcs,_⟩|⟨x,l,c,zs,hcs,_,hl,hm,hz,_,hcell,hwz⟩
 ·exact⟨none,0,0,[],hcs,.inl ⟨rfl,rfl,rfl,rfl⟩⟩
 ·exact⟨some x,l,c,zs,hcs,.inr ⟨x,rfl,hl,hm,by rw[hz];split<;>omega,hcell,hwz⟩⟩
end
theorem oB{α:Type}{P:Nat→α→Prop}:∀n:Nat,(∀i,i<n→∃x,P i x)→∃l:List α,l.length=n∧∀(i:Nat) (x:α),l[i]?=some x→P i x
 |0,_=>⟨[],rfl,fun i x h=>by simp at h⟩
 |n+1,h=>by
  obtain⟨l,hl,hp⟩:=oB n (fun i hi=>h i (by omega));obtain⟨x,hx⟩:=h n (by omega);refine⟨l++[x],by simp[hl],fun i y hy=>?_⟩;rcases Nat.lt_or_ge i n with hi|hi
  ·rw[List.getElem?_append_left (by omega)]at hy;exact hp i y hy
  ·have hin:i<(l++[x]).length:=(zS.1 hy).1
   have:i=n:=by simp[hl]at hin;omega
   subst this;rw[List.getElem?_append_right (by omega),hl]at hy;simp at hy;subst hy;exact hx
end Go.Proofs.YtnojmbejedlilaaGreat
end
section
namespace Go.Proofs.YtnojmbejedlilaaGreat
open Nat renaming le_refl→zG,le_trans→zH,lt_of_lt_of_le→zI,add_assoc→zL,zero_le→zP,eq_zero_or_pos→zQ,pow_succ→Am,mul_assoc→An,mod_eq_of_lt→Ao,min_eq_left→Au,mul_le_mul_right→Av,lt_irrefl→Ay,pow_le_pow_right→AA,pow_mul→AB,mul_comm→AE,zero_add→AF,add_comm→AG,pow_pos→AK,mul_left_comm→AM
open Go.World renaming setCell→zJ,cell?_of_block→zK,ownsRow_nil→As
open List renaming getElem?_eq_getElem→zM,length_take→zN,length_drop→zO,eq_nil_of_length_eq_zero→zR,getElem?_eq_some_iff→zS,map_cons→zT,map_nil→zU,length_append→zY,take_succ_eq_append_getElem→zZ,foldl_append→z_,foldl_cons→Aa,length_cons→Ab,getElem?_toArray→Ap,getElem?_cons_zero→Aq,getElem?_cons_succ→Ar,getElem_mem→At,take_of_length_le→Ax,mem_singleton→Az,map_map→AC,map_congr_left→AD,length_map→AH,all_eq_true→AJ
open Go.Region renaming wanted→zV,Mode→AN,ready→AO
open Go.Value renaming slice→zW,ownBlock→zX,oneCell'→Aw
open Int renaming pow_pos→Ac,ediv_eq_zero_of_lt→Af,le_ediv_of_mul_le→Ag,one_mul→Ah,not_lt→Ai,eq_ofNat_of_zero_le→Ak,toNat_natCast→Al
open Bool renaming true_and→Ad,eq_iff_iff→Ae,and_eq_true→AI
open Go.IntKind renaming wrap_u8'→Aj
open Go.Value renaming int→U
open Go.IntKind renaming i64→Z
open Go.RowKit
def d9(n x:Int):Bool:=decide (1≤n∧n≤8)&&a_ n.toNat x
theorem tL(n:Nat)(x:Int)(hx:0≤x):a_ n x=(x/256^n==0):=by
 have hp:(0:Int)<256^n:=Ac (by decide);unfold a_
 have hd:decide (0≤x)=true:=by simpa using hx
 rw[hd,Ad,Ae];simp only[decide_eq_true_eq,beq_iff_eq]
 constructor
 ·intro h;exact Af hx h
 ·intro h;by_cases h1:x<256^n
  ·exact h1
  ·exfalso;have:1≤x/256^n:=Ag hp (by rw[Ah];exact Ai.1 h1);omega
theorem tM{a b:Bool}(h:a=b):Ending.returned (.bool a)=.returned (.bool b):=by rw[h]
theorem rk(n x:Int)(w:World)(h:n<1∨8<n∨x<0):Calls Tryz.prog 190 #[U Z n,U Z x] w fun e w'=>e=.returned (.bool false)∧w=w':=by
 have hcase:n<1∨(1≤n∧8<n)∨(1≤n∧n≤8∧x<0):=by omega
 clear h;rcases hcase with h|⟨h,h2⟩|⟨h,h2,h3⟩
 all_goals
  go_in
  go_wp2
  go_ret;exact⟨rfl,rfl⟩
theorem tN(n:Nat)(x:Int)(w:World)(h1:1≤n)(h8:n≤8)(hx:0≤x)(hm:x≤9223372036854775807):Calls Tryz.prog 190 #[U Z n,U Z x] w fun e w'=>e=.returned (.bool (a_ n x))∧w=w':=by
 go_in
 go_wp2
 go_loopg [1,5] n (fun g v i wr=>∃(j:Nat) (y:Int),g=n-j∧j≤n∧i=U Z (j:Int)∧v=U Z y∧Hid (y=x/256^j)∧0≤y∧y≤9223372036854775807∧w=wr)
 case atStart=>exact⟨0,x,rfl,zP _,rfl,rfl,by unfold Hid;simp,hx,hm,rfl⟩
 case round=>
  obtain⟨j,y,rfl,hj,rfl,rfl,HY,hy0,hy1,rfl⟩:=hrel;by_cases hlt:j<n
  ·go_wp2
   go_roundg (n-(j+1))
   case measure=>omega
   case rel=>
    refine⟨j+1,y/256,rfl,by omega,by go_num,rfl,?_,by omega,by omega,rfl⟩;unfold Hid;rw[HY.out,Int.pow_succ,Int.ediv_ediv_of_nonneg (Int.pow_nonneg (by decide))]
  ·obtain rfl:j=n:=by omega
   go_wp2
   go_ret;refine⟨tM ?_,rfl⟩;rw[tL j x hx,←HY.out]
theorem lI (n x : Int) (w : World) (hm : x ≤ 9223372036854775807) : Calls Tryz.prog 190 #[.int .i64 n, .int .i64 x] w fun e w' => e = .returned (.bool (d9 n x)) ∧ w = w' := by
  by_cases h : 1 ≤ n ∧ n ≤ 8 ∧ 0 ≤ x
  · obtain ⟨q, rfl⟩ := Ak (show 0 ≤ n by omega)
    have e : d9 (q : Int) x = a_ q x := by unfold d9; rw [Al]; simp only [show decide (1 ≤ (q : Int) ∧ (q : Int) ≤ 8) = true by simpa using (by omega : 1 ≤ (q : Int) ∧ (q : Int) ≤ 8), Ad]
    rw [e]
    exact tN q x w (by omega) (by omega) h.2.2 hm
  · have e : d9 n x = false := by
      unfold d9 a_
      by_cases h2 : 1 ≤ n ∧ n ≤ 8
      · have : ¬ 0 ≤ x := fun h3 => h ⟨h2.1, h2.2, h3⟩
        simp [this]
      · simp [h2]
    rw [e]
    exact rk n x w (by omega)
theorem fW(n:Nat)(x:Int)(w:World)(h1:1≤n)(h8:n≤8)(hx:0≤x):
  Calls Tryz.prog 75 #[U Z n,U Z x] w fun e w'=>∃A k c,e=.returned (.slice A k c)∧k=n∧w'.ownsRow w.heap.size 5 1 (.slice A k c) k (bcs (be n x.toNat))∧Chg (fun _=>False) w w':=by
 obtain⟨i0,hi0,hz0,hz1,hz2⟩:=info_parts eF;go_in
 go_wp2
 go_loopg [5,6] n (fun g v i wi=>∃(t:Nat) (y:Int) (A2:Option Addr) (c2:Nat),g=n-t∧t≤n∧i=U Z y∧y≤(n:Int)-1-t∧(n:Int)-1-t≤y∧
  v=.slice A2 t c2∧wi.ownsRow w.heap.size 5 1 (.slice A2 t c2) t (bcs ((be n x.toNat).take t))∧Chg (fun _=>False) w wi)
 case atStart=>exact⟨0,(n:Int)-1,none,0,rfl,zP _,by go_num,by omega,by omega,rfl,As _ _ _ _,Chg.refl _ _⟩
 case round=>
  obtain⟨t,y,A2,c2,rfl,ht,rfl,hy1,hy2,rfl,hown,hC⟩:=hrel;by_cases htn:t<n
  ·obtain⟨s,rfl⟩:=Ak (show 0≤y by omega);have hs:=hC.size;have w8:IntKind.i64.wrap (8*(s:Int))=8*(s:Int):=IntWalk.i64_in _ (by omega)
   have hs8:s≤7:=by omega
   go_wp2_with (at_builtin;refine aN _ rfl (.tmp 13) (.tmp 20) 23 rfl w.heap.size 5 i0 (U .u8 0) 1 Tryz.underlying23 hi0 hz0 hz1 hz2 rfl (.slice A2 t c2) t (bcs ((be n x.toNat).take t)) rfl (hown.alloc _) _ (some ⟨wr.heap.size,0,none⟩) 1 1 [U .u8 (x/2^(8*s)%256)] rfl (aK wr 5 #[U .u8 (x/2^(8*s)%256)] (0,0) _ rfl _ _ rfl rfl) (by simp[Aw]) (by unfold maxLen;omega) (by omega) (by simp only[World.size_alloc];omega) ?_;intro v1 w2 hown1 hg1 hat1;obtain⟨D,dc,rfl,_,_⟩:=aV hown1);go_roundg (n-(t+1))
   case measure=>omega
   case rel=>
    refine⟨t+1,(s:Int)-1,D,dc,rfl,by omega,by go_num,by omega,by omega,rfl,?_,dN (hC.alloc _) hg1 (hown.alloc _) (zG _)⟩
    have e:bcs ((be n x.toNat).take (t+1))=bcs ((be n x.toNat).take t)++[U .u8 (x/2^(8*s)%256)]:=by
     rw[ot _ _ _ htn,jo,show n-1-t=s by omega];simp only[bcs,zT,zU];rw[ou x s hx,Aj]
    rw[e];exact hown1
  ·obtain rfl:t=n:=by omega
   have hyn:y<0:=by omega
   rw[Ax (by rw[bM];omega)]at hown;go_wp2_with fail;go_ret;exact⟨A2,t,c2,rfl,rfl,hown,hC⟩
def aJ(n:Int)(st:Option (List UInt8))(x:Int):Option (List UInt8):=if d9 n x then st.map (· ++be n.toNat x.toNat)else none
theorem vL{T e:TypeId}{w:World}{p:Nat}{o:Option Nat}{st:Option (List UInt8)}{N:Nat}(h:Wr T e w p o st N):
  Wr T e (w.setCell ⟨p,1,none⟩ (.bool true)) p o none N∧Mvd p o o w (w.setCell ⟨p,1,none⟩ (.bool true)):=by
 obtain⟨bs,f,A,c,hob,hN,_⟩:=h;have hb:Blk w p T _:=hob.blk;have hc:=(Chg.refl (fun k=>k=p) w).put p 1 (fun _=>rfl) (.bool true);refine⟨⟨bs,true,A,c,⟨hb.set 1 _,ay hob.own hc (fun k hk e=>?_),hob.at_,hob.ne⟩,hN,rfl⟩,hc.mono (fun _ _ e=>.inl e),.inl rfl⟩;subst e;rw[hob.at_]at hk;exact hob.ne hk
theorem vM(p:Nat)(o:Option Nat)(st:Option (List UInt8))(N:Nat)(n x:Int)(w:World)(h:Wr 213 5 w p o st N)(hx:x≤9223372036854775807)(hf:d9 n x=false):
  Calls Tryz.prog 132 #[.pointer (some ⟨p,0,none⟩),U Z n,U Z x] w fun e w'=>e=.returned (.tuple #[])∧
   Wr 213 5 w' p o none N∧Mvd p o o w w':=by
 have hres:=vL h;have HR:=hd_ hres;have hfit:=lI n x w hx;rw[hf]at hfit;have HF:=hd_ hfit;obtain⟨bs,f,A,c,hob,hN,_⟩:=h;have hb:Blk w p _ _:=hob.blk;have c1:=hb.cell 1;have f1:=hb.frozen 1;simp only[Ap,Aq,Ar]at c1;clear hres hfit hf hob;go_in;go_wp2_with fail;refine HF.out.mono ?_;rintro e w1 ⟨rfl,rfl⟩;go_wp2_with fail;refine bodyPost_ret (results_none rfl _ _ _) rfl ?_;exact⟨rfl,HR.out.1,HR.out.2⟩
theorem tO(p:Nat)(o:Option Nat)(st:Option (List UInt8))(N:Nat)(n:Nat)(x:Int)(w:World)(h:Wr 213 5 w p o st N)(hx0:0≤x)(hx:x≤9223372036854775807)(h1:1≤n)(h8:n≤8)(hf:d9 (n:Int) x=true)(hN2:N+8≤1000000000000):
  Calls Tryz.prog 132 #[.pointer (some ⟨p,0,none⟩),U Z n,U Z x] w fun e w'=>e=.returned (.tuple #[])∧
   ∃o',Wr 213 5 w' p o' (st.map (· ++be n x.toNat)) (N+8)∧Mvd p o o' w w':=by
 obtain⟨i0,hi0,hz0,hz1,hz2⟩:=info_parts eF;have hfit:=lI n x w hx;rw[hf]at hfit;have HF:=hd_ hfit;have hone:=fW n x w.drew h1 h8 hx0;have HO:=hd_ hone;obtain⟨bs,f,A,c,hob,hN,hst⟩:=h;have hb:Blk w p _ _:=hob.blk;have hplt:=hb.lt
 have hne2:(zW A bs.length c).ownBlock≠some p:=by rw[aG,hob.at_];exact hob.ne
 have c0:=hb.cell 0;have c1:=hb.cell 1;have f0:=hb.frozen 0;simp only[Ap,Aq,Ar]at c0 c1
 have hNl:bs.length≤1000000000000:=by omega
 have HST:=hd_ hst;clear hfit hf hst hone;go_in;go_wp2_with fail;refine HF.out.mono ?_;rintro e w1 ⟨rfl,rfl⟩;clear HF;go_wp2_with fail
 go_region_law (first
  |(refine gC _ rfl (.tmp 19) (.tmp 22) 23 rfl 0 5 i0 (U .u8 0) 1 Tryz.underlying23 hi0 hz0 hz1 hz2 rfl (.slice A bs.length c) bs.length (bcs bs) rfl (ay hob.own hC2 (fun _ _=>id)) _ A2 k2 c2 (bcs (be n x.toNat)) rfl (cB hown2) (dv _) (by unfold maxLen;omega) (by omega) (zP _) ?_;intro v' w3 hown3 hg3 hat3;obtain⟨A3,c3,rfl,_,_⟩:=aV hown3;have hb3:=ct (hb.chg hC2 id) hg3 hne2;have z0:=hb3.cell 0;have z1:=hb3.frozen 0;simp only[Ap,Aq]at z0)
  |(go_simp;go_at_call 75;refine HO.out.mono ?_;rintro e w2 ⟨A2,k2,c2,rfl,hk2,hown2,hC20⟩;have hC2:=(Chg.refl (fun _=>False) w).drew.tr hC20;clear hC20;have HK2:=hd_ hk2;have hk8:k2≤8:=(by omega);clear hk2;have y0:=(hb.chg hC2 id).cell 0;simp only[Ap,Aq]at y0))
 all_goals
  go_end0
  obtain⟨hob3,hm3⟩:=jQ hob hC2 (be n x.toNat) rfl (by rw[bM];exact HK2.out) hown3 hg3 hat3;refine⟨rfl,_,⟨bs++be n x.toNat,f,A3,c3,hob3,by rw[zY,bM];omega,?_⟩,hm3⟩;have hst:=HST.out;rcases st with _|b1
  ·exact hst
  ·obtain⟨hf1,rfl⟩:f=false∧b1=bs:=hst;exact⟨hf1,rfl⟩
theorem tP (p : Nat) (o : Option Nat) (st : Option (List UInt8)) (N : Nat) (n x : Int) (w : World) (h : Wr 213 5 w p o st N) (hx : x ≤ 9223372036854775807) (hN2 : N + 8 ≤ 1000000000000) :
    Calls Tryz.prog 132 #[.pointer (some ⟨p, 0, none⟩), .int .i64 n, .int .i64 x] w fun e w' => e = .returned (.tuple #[]) ∧
      ∃ o', Wr 213 5 w' p o' (aJ n st x) (N + 8) ∧ Mvd p o o' w w' := by
  by_cases hf : d9 n x = true
  · have hn : 1 ≤ n ∧ n ≤ 8 ∧ 0 ≤ x := by
      unfold d9 a_ at hf
      simp only [AI, decide_eq_true_eq] at hf
      exact ⟨hf.1.1, hf.1.2, hf.2.1⟩
    obtain ⟨q, rfl⟩ := Ak (show 0 ≤ n by omega)
    have e : aJ (q : Int) st x = st.map (· ++ be q x.toNat) := by unfold aJ; rw [if_pos hf, Al]
    rw [e]
    exact tO p o st N q x w h hn.2.2 hx (by omega) (by omega) hf hN2
  · have hf' : d9 n x = false := by simpa using hf
    have e : aJ n st x = none := by unfold aJ; rw [hf']; rfl
    rw [e]
    exact (vM p o st N n x w h hx hf').mono fun _ _ ⟨he, hr, hm⟩ => ⟨he, o, hr.more (by omega), hm⟩
def ah(lo hi:Int)(l:List Int):Bool:=l.all fun x=>decide (lo≤x)&&decide (x≤hi)
theorem jz{lo hi:Int}{l:List Int}(h:∀j (hj:j<l.length),lo≤l[j]∧l[j]≤hi):ah lo hi l=true:=by
 unfold ah;rw[AJ];intro x hx;obtain⟨j,hj,rfl⟩:=List.getElem_of_mem hx;have:=h j hj;simp[this.1,this.2]
theorem eO{lo hi:Int}{l:List Int}(j:Nat)(hj:j<l.length)(h:l[j]<lo∨hi<l[j]):ah lo hi l=false:=by
 unfold ah;rw[List.all_eq_false];refine⟨_,At hj,?_⟩;rcases h with h|h
 ·have:¬lo≤l[j]:=by omega
  simp[this]
 ·have:¬l[j]≤hi:=by omega
  simp[this]
theorem aE{a b:Bool}(h:a=b):Ending.returned (.bool a)=.returned (.bool b):=by rw[h]
theorem tQ{w:World}{S:Nat→Prop}{A:Option Addr}{n c:Nat}{l:List UInt8}(h:Rds w S A n (bcs l)):(convert 23 9 (.slice A n c)).run Tryz.prog w=.ok (.string ⟨l.toArray⟩) w:=
 tD 23 9 5 Tryz.underlying23 Tryz.underlying5 Tryz.underlying9 h
theorem jA(b:List UInt8)(n:Nat)(h:n≤b.length):num (b.take n)<256^n:=by
 have:=kn (b.take n)
 rwa [zN,Au h]at this
theorem xi(k c x:Nat):be k (c*256^k+x)=be k x:=by
 unfold be;refine AD (fun j hj=>?_)
 have hjk:j<k:=by simpa using hj
 refine UInt8.toNat_inj.1 ?_;rw[UInt8.toNat_ofNat',UInt8.toNat_ofNat']
 have e:(2:Nat)^(8*(k-1-j))=256^(k-1-j):=by rw[AB]
 rw[e]
 have hp:256^k=256^(k-1-j)*(256*256^j):=by
  rw[←Nat.pow_succ',←Nat.pow_add];congr 1;omega
 have hq:0<256^(k-1-j):=AK (by decide);rw[hp]
 have e2:c*(256^(k-1-j)*(256*256^j))+x=x+256^(k-1-j)*(c*(256*256^j)):=by
  rw[AG,AM]
 rw[e2,Nat.add_mul_div_left _ _ hq];have e3:c*(256*256^j)=256*(c*256^j):=AM ..;rw[e3,Nat.add_mul_mod_self_left]
theorem xj(l:List UInt8):be l.length (num l)=l:=by
 induction l with
 |nil=>rfl
 |cons c l ih=>
  have hlt:=kn l;rw[Ab,oA,mB,xi,ih];have hq:0<256^l.length:=AK (by decide)
  have e:(c.toNat*256^l.length+num l)/256^l.length=c.toNat:=by
   rw[AG,Nat.add_mul_div_right _ _ hq,Nat.div_eq_of_lt hlt,AF]
  rw[e];congr 1;exact UInt8.toNat_inj.1 (by rw[UInt8.toNat_ofNat'];have:=c.toNat_lt;omega)
theorem gX(b:List UInt8)(n:Nat)(h:n≤b.length):be n (num (b.take n))=b.take n:=by
 have h2:=xj (b.take n)
 rwa [zN,Au h]at h2
theorem iQ(k x:Nat)(h:x<256^k):num (be k x)=x:=by rw[xh,Ao h]
theorem k_(k x:Nat)(r:List UInt8):(be k x++r).take k=be k x:=List.take_left' (bM k x)
theorem ld(k x:Nat)(r:List UInt8):(be k x++r).drop k=r:=List.drop_left' (bM k x)
def ig:List Bool→Nat
 |[]=>0
 |b::r=>(if b then 0 else 1)+ig r
theorem mE:∀(l:List Bool) (i:Nat),l[i]?=some false→ig (l.set i true)+1=ig l
 |[],i,h=>by simp at h
 |b::r,0,h=>by
  simp at h;subst h;simp[ig];omega
 |b::r,i+1,h=>by
  simp only[Ar]at h;have:=mE r i h;simp only[List.set_cons_succ,ig];omega
theorem lJ:∀(l:List Bool),ig l=0→∀i:Nat,l[i]?≠some false
 |[],_,i=>by simp
 |b::r,h,0=>by
  cases b
  ·simp[ig]at h
  ·simp
 |b::r,h,i+1=>by
  simp only[ig]at h;have:=lJ r (by omega) i;simpa using this
theorem lK{l:Array Bool}{i:Nat}(h:l.getD i true=false):l.toList[i]?=some false:=by
 by_cases hi:i<l.size
 ·simp[hi]at h;simp[hi,h]
 ·simp[hi]at h
def ib(φ:Nat→Oper→Prop):Nat→List Oper→Prop
 |_,[]=>True
 |k,o::L=>φ k o∧ib φ (k+1) L
theorem ib.at_{φ:Nat→Oper→Prop}:∀(L:List Oper) (k:Nat),ib φ k L→∀(i:Nat) (o:Oper),L[i]?=some o→φ (k+i) o
 |[],_,_,i,o,h=>by simp at h
 |x::L,k,hL,0,o,h=>by
  simp at h;subst h;exact hL.1
 |x::L,k,hL,i+1,o,h=>by
  have:=ib.at_ L (k+1) hL.2 i o (by simpa using h)
  rwa [show k+1+i=k+(i+1) by omega]at this
def mF:Nat→List Oper→Bool
 |_,[]=>true
 |k,o::L=>o.after.toList.all (fun e=>decide (e.on<k))&&mF (k+1) L
theorem oC:∀(L:List Oper) (k:Nat),mF k L=true→∀(i:Nat) (o:Oper),L[i]?=some o→∀e∈o.after,e.on<k+i
 |[],_,_,i,o,h,_,_=>by simp at h
 |x::L,k,hL,0,o,h,e,he=>by
  simp at h;subst h;simp only[mF,AI,AJ]at hL;have:=hL.1 e (by simpa using he);simpa using this
 |x::L,k,hL,i+1,o,h,e,he=>by
  simp only[mF,AI]at hL;have:=oC L (k+1) hL.2 i o (by simpa using h) e he;omega
section
variable {P : Program} {ops : Array Oper} {Q : Exit → Act → World → Prop} {md : AN} {S : World → Prop}
def yz(P:Program)(md:AN)(ops:Array Oper)(Q:Exit→Act→World→Prop)(I:Array Bool→Act→World→Prop)(i:Nat)(o:Oper):Prop:=
 ∀(l:Array Bool) (a:Act) (w:World),I l a w→l.getD i true=false→(∀e∈o.after,Region.binds md e=true→l.getD e.on false=true)→
  ∀K':Act→World→Prop,Shut (∀a' w',I (l.setIfInBounds i true) a' w'→K' a' w')→if zV o (yielded ops a.tmps)=true then Oper.wp P o a w K' Q else K' (a.put o.dst undef) w
theorem d_(I:Array Bool→Act→World→Prop)(hsz:∀l a w,I l a w→l.size=ops.size)(hS:∀l a w,I l a w→S w)(hac:mF 0 ops.toList=true)
  (hend:∀l a w,I l a w→(∀i,i<ops.size→l.getD i true=true)→Q .normal a w) (hops:ib (yz P md ops Q I) 0 ops.toList):
  ∀(fuel:Nat) (l:Array Bool) (a:Act) (w:World),ig l.toList≤fuel→I l a w→wpAnyH P md ops Q S fuel l a w:=by
 have hready:∀l a w,I l a w→AO md ops l=[]→Q .normal a w:=by
  intro l a w hI hr;have hz:=hsz l a w hI;refine hend l a w hI (fun i=>?_)
  induction i using Nat.strongRecOn with
  |ind i ih=>
   intro hi
   cases hg:l.getD i true with
   |true=>rfl
   |false=>
    exfalso;have ho:ops[i]?=some ops[i]:=Array.getElem?_eq_getElem hi
    have hm:i∈AO md ops l:=by
     refine mem_ready.2 ⟨hg,ops[i],ho,fun e he _=>?_⟩;have hlt:=oC ops.toList 0 hac i ops[i] (by simp) e he;have h1:=ih e.on (by omega) (by omega)
     have h2:e.on<l.size:=by omega
     simp only[Array.getD,h2,dite_true]at h1⊢;exact h1
    rw[hr]at hm;cases hm
 intro fuel
 induction fuel with
 |zero=>
  intro l a w hc hI
  have hr:AO md ops l=[]:=by
   refine List.eq_nil_iff_forall_not_mem.2 (fun i hi=>?_);exact lJ _ (by omega) i (lK (mem_ready.1 hi).1)
  exact⟨hr,hready l a w hI hr⟩
 |succ fuel ih=>
  intro l a w hc hI;refine⟨hready l a w hI,fun i hi=>?_⟩;obtain⟨hun,o,ho,hdep⟩:=mem_ready.1 hi;have hst:=ib.at_ ops.toList 0 hops i o (by simpa using ho);rw[AF]at hst;refine wpOp_step ho (fun K' hK=>hst l a w hI hun hdep K' (fun a' w' hI'=>hK a' w' ⟨hS _ _ _ hI',ih _ a' w' ?_ hI'⟩));have:=mE l.toList i (lK hun);rw[Array.toList_setIfInBounds];omega
end
def Wat(w1:World)(p:Nat)(st:Option (List UInt8))(N:Nat)(w:World):Prop:=
 ∃o,Wr 243 5 w p o st N∧Chg (fun _=>False) w1 w∧w1.heap.size≤p∧(∀k,o=some k→w1.heap.size≤k)
def Kp(w w':World):Prop:=∀(q:Nat) (cs:Array Value),Blk w q 3 cs→Blk w' q 3 cs
theorem Kp.blk{w w':World}{q:Nat}{cs:Array Value}(k:Kp w w')(h:Blk w q 3 cs):Blk w' q 3 cs:=k q cs h
section
variable {w1 w w' : World} {p : Nat} {st : Option (List UInt8)} {N : Nat}
theorem Wat.was(h:Wat w1 p st N w):Chg (fun _=>False) w1 w:=by
 obtain⟨o,_,hc,_⟩:=h;exact hc
theorem Wat.chg(h:Wat w1 p st N w)(hc:Chg (fun _=>False) w w'):Wat w1 p st N w':=by
 obtain⟨o,hw,hC,hp,ho⟩:=h;exact⟨o,hw.chg hc id (fun _ _=>id),hC.tr hc,hp,ho⟩
theorem Wat.drew(h:Wat w1 p st N w):Wat w1 p st N w.drew:=h.chg (Chg.refl _ w).drew
theorem Wat.alloc(h:Wat w1 p st N w)(o:Obj):Wat w1 p st N (w.alloc o):=h.chg ((Chg.refl _ w).alloc o)
theorem Wat.start(hC:Chg (fun _=>False) w1 w)(hp:w1.heap.size≤p)(hb:Blk w p 243 #[.slice none 0 0,.bool false]):Wat w1 p (some []) 0 w:=
 ⟨none,⟨[],false,none,0,⟨hb,As _ 0 _ 1,rfl,by simp⟩,zG _,rfl,rfl⟩,hC,hp,fun k hk=>by cases hk⟩
end
theorem vN(p q N:Nat)(n:Int)(l:List Int)(st:Option (List UInt8))(w1 W:World)(h:Wat w1 p st N W)(hq:Blk W q 3 (ics l).toArray)(hw:∀x∈l,-9223372036854775808≤x∧x≤9223372036854775807)(hN:N+8*l.length≤1000000):
  Calls Tryz.prog 155 #[.pointer (some ⟨p,0,none⟩),U Z n,.slice (some ⟨q,0,none⟩) l.length l.length] W fun e w'=>e=.returned (.pointer (some ⟨p,0,none⟩))∧Wat w1 p (ax n l st) (N+8*l.length) w'∧Kp W w':=by
 obtain⟨o,hwr,hC,hp,ho⟩:=h
 have hkeep:∀(q:Nat) (cs:Array Value),Blk W q 3 cs→q≠p∧o≠some q:=by
  intro q cs hq;obtain⟨bs,f,A,c,hob,_⟩:=hwr;refine⟨?_,?_⟩
  ·rintro rfl;have h:Blk W q _ _:=hob.blk;have h:=h.symm.trans hq;simp at h
  ·rintro rfl;have ha:=hob.at_;rcases hob.own.2 with⟨e,_⟩|⟨g,cap,cur,e,_,hh,_⟩
   ·injection e with e;subst e;cases ha
   ·injection e with e;subst e;injection ha with ha;have ha:g=q:=ha;subst ha;have h:=hh.symm.trans hq;simp at h
 have hr:=hq.rds;rw[List.size_toArray,List.toList_toArray,eZ]at hr;have hput:=k9 p o st N n l (some ⟨q,0,none⟩) l.length l.length W (fun k=>k=q) hwr rfl hr (fun k hk=>by subst hk;exact hkeep _ _ hq) hw (by omega);refine hput.mono fun e w' ⟨he,o',hw',hm'⟩=>?_;obtain⟨h1,h2⟩:=gE hC hm' hp ho;refine⟨he,⟨o',hw',h1,hp,h2⟩,fun q' cs hb=>hb.chg hm'.1 ?_⟩;obtain⟨e1,e2⟩:=hkeep q' cs hb;rintro(h|h)
 ·exact e1 h
 ·exact e2 h
theorem e_(p q N:Nat)(n x:Int)(st:Option (List UInt8))(w1 W:World)(hx: -9223372036854775808≤x∧x≤9223372036854775807)(hN:N≤1000)(h:Wat w1 p st N W)(hq:Blk W q 3 #[U Z x]):
  Calls Tryz.prog 155 #[.pointer (some ⟨p,0,none⟩),U Z n,.slice (some ⟨q,0,none⟩) 1 1] W fun e w'=>e=.returned (.pointer (some ⟨p,0,none⟩))∧Wat w1 p (ax n [x] st) (N+8) w'∧Kp W w':=
 vN p q N n [x] st w1 W h hq (fun y hy=>by simp only[Az]at hy;subst hy;exact hx) (by simp only[List.length_singleton];omega)
structure ChS where
 al:Bool
 cl:Bool
 v:Value
 c:Value
 q:Nat
 n:Int
 xs:List Int
def Ch (w1 w : World) (p : Nat) : Bool → Value → Option (List UInt8) → Nat → List ChS → Prop
  | b, u, st, N, [] => b = true → (u = .pointer (some ⟨p, 0, none⟩) ∧ Wat w1 p st N w)
  | b, u, st, N, s :: r => (b = true → u = .pointer (some ⟨p, 0, none⟩)) ∧ (s.al = true → s.v = .slice (some ⟨s.q, 0, none⟩) s.xs.length s.xs.length ∧ Blk w s.q 3 (ics s.xs).toArray) ∧ (s.cl = true → b = true) ∧
      (b = true → s.cl = false → Wat w1 p st N w) ∧ Ch w1 w p s.cl s.c (ax s.n s.xs st) (N + 8 * s.xs.length) r
theorem Ch.chg{w1 w w':World}{p:Nat}(hc:Chg (fun _=>False) w w'):∀(L:List ChS) (b:Bool) (u:Value) (st:Option (List UInt8)) (N:Nat),Ch w1 w p b u st N L→Ch w1 w' p b u st N L
 |[],_,_,_,_,h=>fun hb=>⟨(h hb).1,(h hb).2.chg hc⟩
 |s::r,_,_,_,_,⟨h1,h2,h3,h4,h5⟩=>⟨h1,fun ha=>⟨(h2 ha).1,(h2 ha).2.chg hc id⟩,h3,fun hb hs=>(h4 hb hs).chg hc,Ch.chg hc r _ _ _ _ h5⟩
theorem Ch.idle'{w1 w w':World}{p p':Nat}(hk:Kp w w'):∀(L:List ChS) (u u':Value) (st st':Option (List UInt8)) (N N':Nat),Ch w1 w p false u st N L→Ch w1 w' p' false u' st' N' L
 |[],_,_,_,_,_,_,_=>fun hb=>by cases hb
 |s::r,_,_,_,_,_,_,⟨h1,h2,h3,h4,h5⟩=>by
  refine⟨fun hb=>(by cases hb),fun ha=>⟨(h2 ha).1,hk.blk (h2 ha).2⟩,h3,fun hb=>(by cases hb),?_⟩
  have hs:s.cl=false:=by
   cases hcl:s.cl
   ·rfl
   ·exact absurd (h3 hcl) (by decide)
  rw[hs]at h5⊢;exact Ch.idle' hk r _ _ _ _ _ _ h5
theorem Ch.begin'{w1 w w':World}{p p':Nat}{u:Value}{st st':Option (List UInt8)}{N N':Nat}{L:List ChS}(hk:Kp w w')(h:Ch w1 w p false u st N L)(hw:Wat w1 p' st' N' w'):
  Ch w1 w' p' true (.pointer (some ⟨p',0,none⟩)) st' N' L:=by
 cases L with
 |nil=>exact fun _=>⟨rfl,hw⟩
 |cons s r=>
  obtain⟨h1,h2,h3,h4,h5⟩:=h;refine⟨fun _=>rfl,fun ha=>⟨(h2 ha).1,hk.blk (h2 ha).2⟩,fun _=>rfl,fun _ _=>hw,?_⟩
  have hs:s.cl=false:=by
   cases hcl:s.cl
   ·rfl
   ·exact absurd (h3 hcl) (by decide)
  rw[hs]at h5⊢;exact Ch.idle' hk r _ _ _ _ _ _ h5
theorem Ch.lay{w1 w w':World}{p:Nat}(hc:Chg (fun _=>False) w w')(q:Nat)(s:ChS)(l2:List ChS)(hq:Blk w' q 3 (ics s.xs).toArray):∀(l1:List ChS) (b:Bool) (u:Value) (st:Option (List UInt8)) (N:Nat),
  Ch w1 w p b u st N (l1++s::l2)→Ch w1 w' p b u st N (l1++{s with al:=true,v:=.slice (some ⟨q,0,none⟩) s.xs.length s.xs.length,q:=q}::l2)
 |[],_,_,_,_,⟨h1,h2,h3,h4,h5⟩=>⟨h1,fun _=>⟨rfl,hq⟩,h3,fun hb hs=>(h4 hb hs).chg hc,Ch.chg hc l2 _ _ _ _ h5⟩
 |x::r,_,_,_,_,⟨h1,h2,h3,h4,h5⟩=>⟨h1,fun ha=>⟨(h2 ha).1,(h2 ha).2.chg hc id⟩,h3,fun hb hs=>(h4 hb hs).chg hc,Ch.lay hc q s l2 hq r _ _ _ _ h5⟩
def kw:Bool→List ChS→Bool
 |b,[]=>b
 |_,s::r=>kw s.cl r
def pk:Value→List ChS→Value
 |u,[]=>u
 |_,s::r=>pk s.c r
def pl:Option (List UInt8)→List ChS→Option (List UInt8)
 |st,[]=>st
 |st,s::r=>pl (ax s.n s.xs st) r
def nOf:Nat→List ChS→Nat
 |N,[]=>N
 |N,s::r=>nOf (N+8*s.xs.length) r
theorem Ch.back{w1 w:World}{p:Nat}:∀(l1 l2:List ChS) (b:Bool) (u:Value) (st:Option (List UInt8)) (N:Nat),Ch w1 w p b u st N (l1++l2)→kw b l1=true→b=true
 |[],_,_,_,_,_,_,hb=>hb
 |x::r,l2,_,_,_,_,⟨_,_,h3,_,h5⟩,hb=>h3 (Ch.back r l2 _ _ _ _ h5 hb)
theorem Ch.find{w1 w:World}{p:Nat}(s:ChS)(l2:List ChS)(ha:s.al=true)(hs:s.cl=false):∀(l1:List ChS) (b:Bool) (u:Value) (st:Option (List UInt8)) (N:Nat),Ch w1 w p b u st N (l1++s::l2)→kw b l1=true→
  pk u l1=.pointer (some ⟨p,0,none⟩)∧s.v=.slice (some ⟨s.q,0,none⟩) s.xs.length s.xs.length∧Blk w s.q 3 (ics s.xs).toArray∧Wat w1 p (pl st l1) (nOf N l1) w
 |[],_,_,_,_,⟨h1,h2,_,h4,_⟩,hb=>⟨h1 hb,(h2 ha).1,(h2 ha).2,h4 hb hs⟩
 |x::r,_,_,_,_,⟨_,_,_,_,h5⟩,hb=>Ch.find s l2 ha hs r _ _ _ _ h5 hb
theorem Ch.call{w1 w w':World}{p:Nat}(hk:Kp w w')(s:ChS)(l2:List ChS)(hs:s.cl=false):∀(l1:List ChS) (b:Bool) (u:Value) (st:Option (List UInt8)) (N:Nat),Ch w1 w p b u st N (l1++s::l2)→kw b l1=true→
  Wat w1 p (ax s.n s.xs (pl st l1)) (nOf N l1+8*s.xs.length) w'→Ch w1 w' p b u st N (l1++{s with cl:=true,c:=.pointer (some ⟨p,0,none⟩)}::l2)
 |[],b,u,st,N,⟨h1,h2,h3,h4,h5⟩,hb,hw=>by
  refine⟨h1,fun ha=>⟨(h2 ha).1,hk.blk (h2 ha).2⟩,fun _=>hb,fun _ h=>(by cases h),?_⟩;rw[hs]at h5;show Ch w1 w' p true (.pointer (some ⟨p,0,none⟩)) (ax s.n s.xs st) (N+8*s.xs.length) l2;exact Ch.begin' hk h5 hw
 |x::r,b,u,st,N,⟨h1,h2,h3,h4,h5⟩,hb,hw=>by
  have hx:x.cl=true:=Ch.back r _ _ _ _ _ h5 hb;exact⟨h1,fun ha=>⟨(h2 ha).1,hk.blk (h2 ha).2⟩,h3,fun _ h=>(by rw[hx]at h;cases h),Ch.call hk s l2 hs r _ _ _ _ h5 hb hw⟩
theorem Ch.last{w1 w:World}{p:Nat}:∀(L:List ChS) (b:Bool) (u:Value) (st:Option (List UInt8)) (N:Nat),Ch w1 w p b u st N L→kw b L=true→pk u L=.pointer (some ⟨p,0,none⟩)∧Wat w1 p (pl st L) (nOf N L) w
 |[],_,_,_,_,h,hb=>h hb
 |s::r,_,_,_,_,⟨_,_,_,_,h5⟩,hb=>Ch.last r _ _ _ _ h5 hb
def nAt(b:List UInt8)(i k:Nat):Int:=(num ((b.drop i).take k):Int)
theorem pm(b:List UInt8)(i k:Nat):0≤nAt b i k:=by unfold nAt;omega
theorem fX(l:List UInt8)(k:Nat)(h1:1≤k)(h7:k≤7)(h:k≤l.length):bk (k:Int) (some l)=((num (l.take k):Int),some (l.drop k)):=by
 have h2:=jA l k h;have h3:(256:Nat)^k≤256^7:=AA (by decide) h7
 have h4:(256:Nat)^7=72057594037927936:=by decide
 refine if_pos ⟨by omega,by omega,by rw[Al];exact h,by rw[Al];omega⟩
theorem mG(b:List UInt8)(i k:Nat)(h1:1≤k)(h7:k≤7)(h:i+k≤b.length):bk (k:Int) (some (b.drop i))=(nAt b i k,some (b.drop (i+k))):=by
 rw[fX _ k h1 h7 (by rw[zO];omega),List.drop_drop];rfl
def flC(pr src dst sp dp:Int):Array Value:=#[U Z pr,U .u32 src,U .u32 dst,U Z sp,U Z dp]
def fo(x:Int):Bool:=decide (0≤x)&&decide (x≤65535)
def flR(pr sp dp:Int):Bool:=(pr==6||pr==17)&&(fo sp&&fo dp)
theorem ii{w:World}{q:Nat}{pr src dst sp dp:Int}{T:TypeId}(hb:Blk w q T (flC pr src dst sp dp)):
  w.cell? ⟨q,0,none⟩=some (U Z pr)∧w.cell? ⟨q,1,none⟩=some (U .u32 src)∧w.cell? ⟨q,2,none⟩=some (U .u32 dst)∧w.cell? ⟨q,3,none⟩=some (U Z sp)∧w.cell? ⟨q,4,none⟩=some (U Z dp):=by
 have x0:=hb.cell 0;have x1:=hb.cell 1;have x2:=hb.cell 2;have x3:=hb.cell 3;have x4:=hb.cell 4;simp only[flC,Ap,Aq,Ar]at x0 x1 x2 x3 x4;exact⟨x0,x1,x2,x3,x4⟩
theorem jS(x:Int)(w:World):Calls Tryz.prog 276 #[U Z x] w fun e w'=>e=.returned (.bool (fo x))∧w=w':=by
 by_cases h:0≤x
 ·have hR:=hd_ (show fo x=decide (x≤65535) by unfold fo;simp[h]);go_in;go_wp2_with fail;go_ret;exact⟨aE hR.out.symm,rfl⟩
 ·have hR:=hd_ (show fo x=false by unfold fo;simp[h]);go_in;go_wp2_with fail;go_ret;exact⟨aE hR.out.symm,rfl⟩
theorem pq(pr src dst sp dp:Int)(w:World):
  Calls Tryz.prog 259 #[.agg (flC pr src dst sp dp)] w fun e w'=>e=.returned (.bool (flR pr sp dp))∧Chg (fun _=>False) w w':=by
 unfold flC;have hC:=hd_ ((Chg.refl (fun _=>False) w).alloc (.cells #[U Z pr,U .u32 src,U .u32 dst,U Z sp,U Z dp] 217));have hP:=hd_ jS
 have hpr:pr=6∨(pr≠6∧pr=17)∨(pr≠6∧pr≠17):=by omega
 generalize h1:fo sp=b1;generalize h2:fo dp=b2;have hQ1:=hd_ (fun W=>jS sp W);have hQ2:=hd_ (fun W=>jS dp W);rw[h1]at hQ1;rw[h2]at hQ2;have hR:=hd_ (show flR pr sp dp=((pr==6||pr==17)&&(b1&&b2)) by unfold flR;rw[h1,h2]);clear h1 h2 hP;rcases hpr with rfl|⟨hn,rfl⟩|⟨hn,hn2⟩
 ·cases b1 with
  |false=>
   go_in;go_wp2_with fail;refine(hQ1.out _).mono ?_;rintro e w' ⟨rfl,rfl⟩;go_wp2_with fail;go_ret;exact⟨aE (by rw[hR.out];rfl),hC.out⟩
  |true=>
   go_in;go_wp2_with fail;refine(hQ1.out _).mono ?_;rintro e w' ⟨rfl,rfl⟩;go_wp2_with fail;refine(hQ2.out _).mono ?_;rintro e w' ⟨rfl,rfl⟩;go_wp2_with fail;go_ret;exact⟨aE (by rw[hR.out];rfl),hC.out⟩
 ·cases b1 with
  |false=>
   go_in;go_wp2_with fail;refine(hQ1.out _).mono ?_;rintro e w' ⟨rfl,rfl⟩;go_wp2_with fail;go_ret;exact⟨aE (by rw[hR.out];rfl),hC.out⟩
  |true=>
   go_in;go_wp2_with fail;refine(hQ1.out _).mono ?_;rintro e w' ⟨rfl,rfl⟩;go_wp2_with fail;refine(hQ2.out _).mono ?_;rintro e w' ⟨rfl,rfl⟩;go_wp2_with fail;go_ret;exact⟨aE (by rw[hR.out];rfl),hC.out⟩
 ·have t1:(pr==6)=false:=by simpa using hn
  have t2:(pr==17)=false:=by simpa using hn2
  clear hn hn2;go_in;go_wp2_with fail;go_ret;exact⟨aE (by rw[hR.out,t1,t2];rfl),hC.out⟩
end Go.Proofs.YtnojmbejedlilaaGreat
end
