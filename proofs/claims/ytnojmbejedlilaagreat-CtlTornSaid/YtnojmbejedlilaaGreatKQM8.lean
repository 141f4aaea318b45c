/-
  What the library proves of slices.Sorted(maps.Keys(..)) and maps.Clone, at this program: tables of numbers, and one theorem each (written by wip/tools/shelf10.sh). No condition.
-/
import Derived.Test.YtnojmbejedlilaaGreatKQM7
import Derived.Shelf.SlGeneric
import Derived.Shelf.SlIterI.Nil
import Derived.Shelf.SortM.Plain
import Derived.Shelf.SortM.SortNone
import Derived.Shelf.SlMaps.Clone
import Derived.Ground.GgzProg
import Derived.Ground.SlgmProg
import Derived.Ground.SlmcProg
import Derived.MapKept
import Derived.ChangeMaps4
import Derived.ChangeMaps5
import Derived.Maps.Keyed
import Derived.Test.YtnojmbejedlilaaGreatKQMC
import Derived.Deep.LoopGhost
import Derived.Laws.StructEq
import Derived.Deep.RegionHeld3
import Derived.RegionTactic
import Derived.Maps.OwnSet
set_option maxRecDepth 100000
set_option maxHeartbeats 40000000
set_option linter.unusedVariables false
set_option linter.unusedSimpArgs false
section
namespace Go.Proofs.YtnojmbejedlilaaGreat
open List renaming getElem?_eq_some_iff→zS,getElem?_cons_zero→Aq,flatMap_cons→Bb,getElem?_cons_succ→Ar,mem_of_getElem?→Be,mem_append→Bg,mem_singleton→Az,getElem_of_mem→Bi,getElem_set→Bj,getElem?_eq_getElem→zM,pairwise_iff_getElem→Bm,mem_iff_getElem→Bn,eraseIdx_sublist→Bo,mem_eraseIdx_iff_getElem?→Bp,getElem?_of_mem→Bq,range→Br,perm_ext_iff_of_nodup→Bu,Pairwise→Bv,pairwise_map→Bw,nodup_range→Bx,mem_filter→By,mem_map→Bz,mem_range→BB,length_filter_le→BC,length_map→AH,length_range→BD,pairwise_lt_range→BE,any_eq_false→BI,mem_of_find?_eq_some→BK,find?_some→BM,find?_eq_none→BN,length_filterMap_le→BO,filterMap_append→BP,cons_append→BR,getElem?_toArray→Ap,length_append→zY,flatMap_append→BS,take_of_length_le→Ax,any_eq_true→BT
open Option renaming some→AP,isSome_iff_exists→BG,getD_some→BJ
open Nat renaming succ_mul→Bc,lt_trichotomy→Bl,le_of_lt→BF,le_refl→zG,zero_le→zP
open _root_.Array renaming getElem?_eq_some_iff→Bd,toList_push→Bf
open Int renaming ofNat→Bs,not_le→BU
open Bool renaming or_eq_true→BH,true_and→Ad
open Go renaming bodyPost_ret→AW
open Go.Value renaming oneCell'→Aw
open Go.Value renaming int→U
open Go.IntKind renaming i64→Z
open Go.Shelf
def jC:Go.Shelf.Ren:=⟨fun|7=>108|10=>167|n=>n,fun|23=>177|26=>3|3=>4|28=>196|0=>0|27=>195|33=>91|4=>4|n=>n,fun|n=>n⟩
theorem oG:Go.Proofs.SlLaysZI.n7 Tryz.prog jC:={
 mixed:=by kernel_rfl
 f7:=⟨Tryz.f108.name,by decide,Tryz.func108.trans (congrArg some (by kernel_rfl))⟩
 f10:=⟨Tryz.f167.name,by decide,Tryz.func167.trans (congrArg some (by kernel_rfl))⟩
 t0:=Tryz.underlying0
 a0:=Tryz.isAgg0
 z0:=Tryz.sizeOf0
 v0:=Tryz.zeroValue0
 t4:=Tryz.underlying4
 a4:=Tryz.isAgg4
 z4:=Tryz.sizeOf4
 v4:=Tryz.zeroValue4
 t23:=Tryz.underlying177
 a23:=Tryz.isAgg177
 z23:=Tryz.sizeOf177
 v23:=Tryz.zeroValue177
 t26:=Tryz.underlying3
 a26:=Tryz.isAgg3
 z26:=Tryz.sizeOf3
 v26:=Tryz.zeroValue3
 t27:=Tryz.underlying195
 a27:=Tryz.isAgg195
 z27:=Tryz.sizeOf195
 v27:=Tryz.zeroValue195
 t28:=Tryz.underlying196
 a28:=Tryz.isAgg196
 z28:=Tryz.sizeOf196
 v28:=Tryz.zeroValue196
 t33:=Tryz.underlying91
 a33:=Tryz.isAgg91
 z33:=Tryz.sizeOf91
 v33:=Tryz.zeroValue91}
def iN:Go.Shelf.Ren:=⟨fun|6=>107|8=>165|9=>166|11=>211|13=>213|12=>212|23=>253|24=>254|14=>244|15=>245|16=>246|17=>247|18=>248|19=>249|20=>250|21=>251|22=>252|25=>268|26=>269|27=>270|28=>271|29=>272|30=>273|31=>279|n=>n,fun|26=>3|28=>196|24=>56|0=>0|3=>3|37=>227|48=>215|50=>42|4=>4|40=>289|39=>288|45=>293|5=>5|9=>9|51=>303|55=>307|57=>312|58=>313|33=>91|n=>n,fun|n=>n⟩
theorem rt:Go.Proofs.SlLaysZI.n6 Tryz.prog iN:={
 mixed:=by kernel_rfl
 f6:=⟨Tryz.f107.name,by decide,Tryz.func107.trans (congrArg some (by kernel_rfl))⟩
 f8:=⟨Tryz.f165.name,by decide,Tryz.func165.trans (congrArg some (by kernel_rfl))⟩
 f11:=⟨Tryz.f211.name,by decide,Tryz.func211.trans (congrArg some (by kernel_rfl))⟩
 t0:=Tryz.underlying0
 a0:=Tryz.isAgg0
 z0:=Tryz.sizeOf0
 v0:=Tryz.zeroValue0
 t24:=Tryz.underlying56
 a24:=Tryz.isAgg56
 z24:=Tryz.sizeOf56
 v24:=Tryz.zeroValue56
 t26:=Tryz.underlying3
 a26:=Tryz.isAgg3
 z26:=Tryz.sizeOf3
 v26:=Tryz.zeroValue3
 t28:=Tryz.underlying196
 a28:=Tryz.isAgg196
 z28:=Tryz.sizeOf196
 v28:=Tryz.zeroValue196
 i26:=by kernel_rfl}
def nD:Go.Shelf.Ren:=⟨fun|5=>166|8=>213|7=>212|19=>253|20=>254|10=>244|11=>245|12=>246|13=>247|14=>248|15=>249|16=>250|17=>251|18=>252|30=>268|31=>269|32=>270|33=>271|34=>272|35=>273|40=>279|n=>n,fun|23=>56|25=>3|3=>3|32=>227|22=>56|0=>0|44=>215|46=>42|4=>4|36=>289|35=>288|41=>293|5=>5|9=>9|53=>303|57=>307|63=>312|64=>313|n=>n,fun|n=>n⟩
theorem oH:Go.Proofs.SlLaysM.n5 Tryz.prog nD:={
 mixed:=by kernel_rfl
 f5:=⟨Tryz.f166.name,by decide,Tryz.func166.trans (congrArg some (by kernel_rfl))⟩
 f7:=⟨Tryz.f212.name,by decide,Tryz.func212.trans (congrArg some (by kernel_rfl))⟩
 f8:=Tryz.func213.trans (congrArg some (by kernel_rfl))
 f10:=⟨Tryz.f244.name,by decide,Tryz.func244.trans (congrArg some (by kernel_rfl))⟩
 f11:=⟨Tryz.f245.name,by decide,Tryz.func245.trans (congrArg some (by kernel_rfl))⟩
 f12:=⟨Tryz.f246.name,by decide,Tryz.func246.trans (congrArg some (by kernel_rfl))⟩
 f13:=⟨Tryz.f247.name,by decide,Tryz.func247.trans (congrArg some (by kernel_rfl))⟩
 f14:=⟨Tryz.f248.name,by decide,Tryz.func248.trans (congrArg some (by kernel_rfl))⟩
 f15:=⟨Tryz.f249.name,by decide,Tryz.func249.trans (congrArg some (by kernel_rfl))⟩
 f16:=⟨Tryz.f250.name,by decide,Tryz.func250.trans (congrArg some (by kernel_rfl))⟩
 f17:=⟨Tryz.f251.name,by decide,Tryz.func251.trans (congrArg some (by kernel_rfl))⟩
 f18:=⟨Tryz.f252.name,by decide,Tryz.func252.trans (congrArg some (by kernel_rfl))⟩
 f19:=Tryz.func253.trans (congrArg some (by kernel_rfl))
 f20:=Tryz.func254.trans (congrArg some (by kernel_rfl))
 f30:=⟨Tryz.f268.name,by decide,Tryz.func268.trans (congrArg some (by kernel_rfl))⟩
 f31:=Tryz.func269.trans (congrArg some (by kernel_rfl))
 f32:=Tryz.func270.trans (congrArg some (by kernel_rfl))
 f33:=⟨Tryz.f271.name,by decide,Tryz.func271.trans (congrArg some (by kernel_rfl))⟩
 f34:=⟨Tryz.f272.name,by decide,Tryz.func272.trans (congrArg some (by kernel_rfl))⟩
 f35:=⟨Tryz.f273.name,by decide,Tryz.func273.trans (congrArg some (by kernel_rfl))⟩
 f40:=⟨Tryz.f279.name,by decide,Tryz.func279.trans (congrArg some (by kernel_rfl))⟩
 t0:=Tryz.underlying0
 a0:=Tryz.isAgg0
 z0:=Tryz.sizeOf0
 v0:=Tryz.zeroValue0
 t3:=Tryz.underlying3
 a3:=Tryz.isAgg3
 z3:=Tryz.sizeOf3
 v3:=Tryz.zeroValue3
 t4:=Tryz.underlying4
 a4:=Tryz.isAgg4
 z4:=Tryz.sizeOf4
 v4:=Tryz.zeroValue4
 t5:=Tryz.underlying5
 a5:=Tryz.isAgg5
 z5:=Tryz.sizeOf5
 v5:=Tryz.zeroValue5
 t9:=Tryz.underlying9
 a9:=Tryz.isAgg9
 z9:=Tryz.sizeOf9
 v9:=Tryz.zeroValue9
 t22:=Tryz.underlying56
 a22:=Tryz.isAgg56
 z22:=Tryz.sizeOf56
 v22:=Tryz.zeroValue56
 t23:=Tryz.underlying56
 a23:=Tryz.isAgg56
 z23:=Tryz.sizeOf56
 v23:=Tryz.zeroValue56
 t25:=Tryz.underlying3
 a25:=Tryz.isAgg3
 z25:=Tryz.sizeOf3
 v25:=Tryz.zeroValue3
 t32:=Tryz.underlying227
 a32:=Tryz.isAgg227
 z32:=Tryz.sizeOf227
 v32:=Tryz.zeroValue227
 t35:=Tryz.underlying288
 a35:=Tryz.isAgg288
 z35:=Tryz.sizeOf288
 v35:=Tryz.zeroValue288
 t36:=Tryz.underlying289
 a36:=Tryz.isAgg289
 z36:=Tryz.sizeOf289
 v36:=Tryz.zeroValue289
 t41:=Tryz.underlying293
 a41:=Tryz.isAgg293
 z41:=Tryz.sizeOf293
 v41:=Tryz.zeroValue293
 t44:=Tryz.underlying215
 a44:=Tryz.isAgg215
 z44:=Tryz.sizeOf215
 v44:=Tryz.zeroValue215
 t46:=Tryz.underlying42
 a46:=Tryz.isAgg42
 z46:=Tryz.sizeOf42
 v46:=Tryz.zeroValue42
 t53:=Tryz.underlying303
 a53:=Tryz.isAgg303
 z53:=Tryz.sizeOf303
 v53:=Tryz.zeroValue303
 t57:=Tryz.underlying307
 a57:=Tryz.isAgg307
 z57:=Tryz.sizeOf307
 v57:=Tryz.zeroValue307
 t63:=Tryz.underlying312
 a63:=Tryz.isAgg312
 z63:=Tryz.sizeOf312
 v63:=Tryz.zeroValue312
 t64:=Tryz.underlying313
 a64:=Tryz.isAgg313
 z64:=Tryz.sizeOf313
 v64:=Tryz.zeroValue313}
def mM:Go.Shelf.Ren:=⟨fun|5=>207|7=>236|n=>n,fun|23=>178|25=>3|3=>60|4=>4|20=>20|n=>n,fun|n=>n⟩
theorem tY:Go.Proofs.SlLaysW.n5 Tryz.prog mM:={
 mixed:=by kernel_rfl
 f5:=⟨Tryz.f207.name,by decide,Tryz.func207.trans (congrArg some (by kernel_rfl))⟩
 f7:=Tryz.func236.trans (congrArg some (by kernel_rfl))
 t4:=Tryz.underlying4
 a4:=Tryz.isAgg4
 z4:=Tryz.sizeOf4
 v4:=Tryz.zeroValue4
 t20:=Tryz.underlying20
 a20:=Tryz.isAgg20
 z20:=Tryz.sizeOf20
 v20:=Tryz.zeroValue20
 t23:=Tryz.underlying178
 a23:=Tryz.isAgg178
 z23:=Tryz.sizeOf178
 v23:=Tryz.zeroValue178}
end Go.Proofs.YtnojmbejedlilaaGreat
end
section
namespace Go.Proofs.YtnojmbejedlilaaGreat
open List renaming getElem?_eq_some_iff→zS,getElem?_cons_zero→Aq,flatMap_cons→Bb,getElem?_cons_succ→Ar,mem_of_getElem?→Be,mem_append→Bg,mem_singleton→Az,getElem_of_mem→Bi,getElem_set→Bj,getElem?_eq_getElem→zM,pairwise_iff_getElem→Bm,mem_iff_getElem→Bn,eraseIdx_sublist→Bo,mem_eraseIdx_iff_getElem?→Bp,getElem?_of_mem→Bq,range→Br,perm_ext_iff_of_nodup→Bu,Pairwise→Bv,pairwise_map→Bw,nodup_range→Bx,mem_filter→By,mem_map→Bz,mem_range→BB,length_filter_le→BC,length_map→AH,length_range→BD,pairwise_lt_range→BE,any_eq_false→BI,mem_of_find?_eq_some→BK,find?_some→BM,find?_eq_none→BN,length_filterMap_le→BO,filterMap_append→BP,cons_append→BR,getElem?_toArray→Ap,length_append→zY,flatMap_append→BS,take_of_length_le→Ax,any_eq_true→BT
open Option renaming some→AP,isSome_iff_exists→BG,getD_some→BJ
open Nat renaming succ_mul→Bc,lt_trichotomy→Bl,le_of_lt→BF,le_refl→zG,zero_le→zP
open _root_.Array renaming getElem?_eq_some_iff→Bd,toList_push→Bf
open Int renaming ofNat→Bs,not_le→BU
open Bool renaming or_eq_true→BH,true_and→Ad
open Go renaming bodyPost_ret→AW
open Go.Value renaming oneCell'→Aw
open Go.Value renaming int→U
open Go.IntKind renaming i64→Z
open Go.RowKit
/-! ### slices of structs -/
def SR{α:Type}(k:Nat)(cs:α→Array Value)(w:World)(S:Nat→Prop)(L:Option Addr)(m:Nat)(l:List α):Prop:=
 m=l.length∧(0<m→∃ad,L=some ad∧S ad.block∧ad.block<w.heap.size∧∀(i:Nat) (x:α),l[i]?=some x→∀(j:Nat) (u:Value),(cs x)[j]?=some u→w.cell? (ad.add (i*k+j))=some u)
section
variable {α : Type} {k : Nat} {cs : α → Array Value} {w w' : World} {S S' : Nat → Prop} {L : Option Addr} {m : Nat} {l : List α}
theorem SR.keep(h:SR k cs w S L m l)(hz:w.heap.size≤w'.heap.size)(hk:∀k,S k→k<w.heap.size→w'.heap[k]?=w.heap[k]?):SR k cs w' S L m l:=by
 refine⟨h.1,fun hm=>?_⟩;obtain⟨ad,e,hs,hb,hc⟩:=h.2 hm;refine⟨ad,e,hs,Nat.lt_of_lt_of_le hb hz,fun i x hi j u hu=>?_⟩;rw[←hc i x hi j u hu];exact World.cell?_of_block (by rw[bP];exact hk _ hs hb)
theorem SR.chg(h:SR k cs w S L m l)(hc:Chg S' w w')(hd:∀k,S k→¬S' k):SR k cs w' S L m l:=h.keep hc.size fun k hs hk=>hc.block k hk (hd k hs)
theorem SR.alloc(h:SR k cs w S L m l)(o:Obj):SR k cs (w.alloc o) S L m l:=h.chg ((Chg.refl (fun _=>False) w).alloc o) (fun _ _=>id)
theorem SR.drew(h:SR k cs w S L m l):SR k cs w.drew S L m l:=h
theorem SR.mono(h:SR k cs w S L m l)(hs:∀k,S k→S' k):SR k cs w S' L m l:=
 ⟨h.1,fun hm=>by obtain⟨ad,e,h1,h2⟩:=h.2 hm;exact⟨ad,e,hs _ h1,h2⟩⟩
theorem SR.nil(w:World)(S:Nat→Prop)(L:Option Addr):SR k cs w S L 0 []:=⟨rfl,fun h=>absurd h (by omega)⟩
theorem SR.old(h:SR k cs w S L m l):SR k cs w (fun k=>S k∧k<w.heap.size) L m l:=
 ⟨h.1,fun hm=>by obtain⟨ad,e,h1,h2,h3⟩:=h.2 hm;exact⟨ad,e,⟨h1,h2⟩,h2,h3⟩⟩
theorem SR.raw{ad:Addr}{i:Nat}{x:α}(h:SR k cs w S (some ad) m l)(hi:l[i]?=some x)(j:Nat):∀u,(cs x)[j]?=some u→w.cell? ((ad.add (i*k)).add j)=some u:=by
 intro u hu;have hl:i<l.length:=(zS.1 hi).1;obtain⟨ad',e,_,_,hc⟩:=h.2 (by have:=h.1;omega);injection e with e;subst e;rw[dM];exact hc i x hi j u hu
end
theorem oI{α:Type}{k:Nat}{cs:α→Array Value}(hk:∀x,(cs x).size=k):∀(l:List α) (i:Nat) (x:α),l[i]?=some x→∀j,j<k→(l.flatMap fun x=>(cs x).toList)[i*k+j]?=(cs x)[j]?
 |[],i,x,h,_,_=>by simp at h
 |y::l,0,x,h,j,hj=>by
  simp only[Aq,AP.injEq]at h;subst h;simp only[Bb];rw[List.getElem?_append_left (by simp[hk];omega)];simp
 |y::l,i+1,x,h,j,hj=>by
  simp only[Ar]at h;simp only[Bb];rw[List.getElem?_append_right (by simp[hk];rw[Bc];omega)]
  have e:(i+1)*k+j-(cs y).toList.length=i*k+j:=by simp[hk];rw[Bc];omega
  rw[e];exact oI hk l i x h j hj
theorem ft{α:Type}{k:Nat}{cs:α→Array Value}(hk:∀x,(cs x).size=k){w:World}{base:Nat}{e:TypeId}{n c:Nat}{A:Option Addr}{l:List α}(h:w.ownsRow base e k (.slice A n c) n (l.flatMap fun x=>(cs x).toList))(hn:n=l.length):
  SR k cs w (fun k=>base≤k∧k<w.heap.size) A n l:=by
 refine⟨hn,fun hp=>?_⟩;have hlt:=h.lt;rcases h.2 with⟨hv,rfl⟩|⟨g,cap,cur,hv,_⟩
 ·omega
 ·injection hv with hA hn hc;subst hA;have:=hlt g rfl;refine⟨⟨g,0,none⟩,rfl,⟨this.1,this.2⟩,this.2,fun i x hi j u hu=>h.cells (g:=g) rfl _ u ?_⟩
  have hj:j<k:=by rw[←hk x];exact(Bd.1 hu).1
  rw[oI hk l i x hi j hj];exact hu
theorem il{w:World}{base:Nat}{e:TypeId}{size:Nat}:w.ownsRow base e size (.slice none 0 0) 0 []:=World.ownsRow_nil _ base e size
/-! ### maps of whole numbers -/
def IM(w:World)(b:Nat)(f:Int→Option Value):Prop:=
 ∃es clock,w.heap[b]?=some (.map es clock)∧MapKept.Stamped es clock∧(∀x∈es.toList,∃z:Int,x.key=U Z z∧0≤z∧z<32)∧∀(z:Int) (v:Value),f z=some v↔∃x∈es.toList,x.key=U Z z∧x.val=v
section
variable {w w' : World} {b : Nat} {f : Int → Option Value}
theorem IM.lt(h:IM w b f):b<w.heap.size:=by
 obtain⟨es,clock,hb,_⟩:=h;exact(Bd.1 hb).1
theorem IM.chg{S:Nat→Prop}(h:IM w b f)(hc:Chg S w w')(hn:¬S b):IM w' b f:=by
 have hl:=h.lt;obtain⟨es,clock,hb,r⟩:=h;exact⟨es,clock,(hc.block b hl hn).trans hb,r⟩
theorem IM.drew(h:IM w b f):IM w.drew b f:=h
theorem IM.alloc(h:IM w b f)(o:Obj):IM (w.alloc o) b f:=h.chg ((Chg.refl (fun _=>False) w).alloc o) id
theorem IM.new(w:World):IM (w.alloc (.map #[] 0)) w.heap.size (fun _=>none):=
 ⟨#[],0,(MapKept.heap_alloc w _).1,MapKept.stamped_empty 0,by simp,by simp⟩
theorem IM.ne(h:IM w b f){q:Nat}{T:TypeId}{cs:Array Value}(hq:Blk w q T cs):q≠b:=by
 rintro rfl;obtain⟨es,clock,hb,_⟩:=h;unfold Blk at hq;rw[hb]at hq;injection hq with hq;cases hq
theorem jq{es:Array MapEntry}{clock:Nat}(hs:MapKept.Stamped es clock)(hk:∀x∈es.toList,∃z:Int,x.key=U Z z∧0≤z∧z<32)(hf:∀(z:Int) (v:Value),f z=some v↔∃x∈es.toList,x.key=U Z z∧x.val=v)(z:Int):
  (Instr.findNow (.int .i64) (U Z z) es.toList 0=some none∧f z=none∧∀x∈es.toList,x.key≠U Z z)∨
  ∃j e,Instr.findNow (.int .i64) (U Z z) es.toList 0=some (some (j,e.val))∧es.toList[j]?=some e∧e.key=U Z z∧f z=some e.val:=by
 rcases MapKept.findNow_spec (d:=.int .i64) (k:=U Z z) (by simp[MapKept.IsKey]) es.toList 0 (fun x hx=>by obtain⟨y,e,_⟩:=hk x hx;rw[e];simp[MapKept.IsKey])with⟨h1,h2⟩|⟨j,e,h1,h2,h3⟩
 ·refine .inl ⟨h1,?_,h2⟩
  cases hz:f z with
  |none=>rfl
  |some v=>obtain⟨x,hx,e,_⟩:=(hf z v).1 hz;exact absurd e (h2 x hx)
 ·exact .inr ⟨j,e,by simpa using h1,h2,h3,(hf z e.val).2 ⟨e,Be h2,h3,rfl⟩⟩
variable {P : Program} {t kt et : TypeId}
theorem IM.look1(h:IM w b f)(ht:P.underlying t=some (.map kt et))(hk:P.underlying kt=some (.int .i64)){zv:Value}(hz:(zeroValue et).run P w=.ok zv w)(z:Int):
  (Instr.lookup t (.map (some b)) (U Z z) true).run P w=.ok (.tuple #[(f z).getD zv,.bool (f z).isSome]) w:=by
 obtain⟨es,clock,hb,hs,hks,hf⟩:=h;have hc:(Instr.checkKey es.isEmpty 10000 kt (U Z z)).run P w=.ok () w:=MapKept.run_checkKey (k:=U Z z) hk (by simp[MapKept.IsKey]) _ 9999;rcases jq hs hks hf z with⟨h1,h2,h3⟩|⟨j,e,h1,h2,h3,h4⟩
 ·simp[Instr.lookup,run_underlying ht,MapKept.run_getObj_map hb,hc,MapKept.run_findKey hk h1,Result.andThen,hz,h2]
 ·simp[Instr.lookup,run_underlying ht,MapKept.run_getObj_map hb,hc,MapKept.run_findKey hk h1,Result.andThen,h4]
theorem IM.look0(h:IM w b f)(ht:P.underlying t=some (.map kt et))(hk:P.underlying kt=some (.int .i64)){zv:Value}(hz:(zeroValue et).run P w=.ok zv w)(z:Int):
  (Instr.lookup t (.map (some b)) (U Z z) false).run P w=.ok ((f z).getD zv) w:=by
 obtain⟨es,clock,hb,hs,hks,hf⟩:=h;have hc:(Instr.checkKey es.isEmpty 10000 kt (U Z z)).run P w=.ok () w:=MapKept.run_checkKey (k:=U Z z) hk (by simp[MapKept.IsKey]) _ 9999;rcases jq hs hks hf z with⟨h1,h2,h3⟩|⟨j,e,h1,h2,h3,h4⟩
 ·simp[Instr.lookup,run_underlying ht,MapKept.run_getObj_map hb,hc,MapKept.run_findKey hk h1,Result.andThen,hz,h2]
 ·simp[Instr.lookup,run_underlying ht,MapKept.run_getObj_map hb,hc,MapKept.run_findKey hk h1,Result.andThen,h4]
theorem ky{es es':Array MapEntry}{clock clock':Nat}{g:Int→Option Value}(hb:w.heap[b]?=some (.map es clock))(hs:MapKept.Stamped es' clock')
  (hk:∀x∈es'.toList,∃z:Int,x.key=U Z z∧0≤z∧z<32) (hf:∀(z:Int) (v:Value),g z=some v↔∃x∈es'.toList,x.key=U Z z∧x.val=v):
  IM (ChangeMaps.setBlock w b (.map es' clock')) b g∧Chg (fun k=>k=b) w (ChangeMaps.setBlock w b (.map es' clock')):=
 ⟨⟨es',clock',(MapKept.heap_set hb).1,hs,hk,hf⟩,rfl,rfl,rfl,by simp[ChangeMaps.setBlock],fun k _ hn=>(MapKept.heap_set hb).2 k hn⟩
def iU(f:Int→Option Value)(z:Int)(v:Value):Int→Option Value:=fun y=>if y=z then some v else f y
def mN(f:Int→Option Value)(z:Int):Int→Option Value:=fun y=>if y=z then none else f y
theorem IM.put(h:IM w b f)(ht:P.underlying t=some (.map kt et))(hk:P.underlying kt=some (.int .i64))(z:Int)(hz:0≤z∧z<32)(v:Value):
  ∃w',(Instr.mapUpdate t (.map (some b)) (U Z z) v).run P w=.ok () w'∧IM w' b (iU f z v)∧Chg (fun k=>k=b) w w':=by
 obtain⟨es,clock,hb,hs,hks,hf⟩:=h;have hc:(Instr.checkKey false 10000 kt (U Z z)).run P w=.ok () w:=MapKept.run_checkKey (k:=U Z z) hk (by simp[MapKept.IsKey]) _ 9999;rcases jq hs hks hf z with⟨h1,h2,h3⟩|⟨j,e,h1,h2,h3,h4⟩
 ·refine⟨ChangeMaps.setBlock w b (.map (es.push ⟨U Z z,v,clock⟩) (clock+1)),by simp[Instr.mapUpdate,run_underlying ht,MapKept.run_getObj_map hb,hc,MapKept.run_findKey hk h1,MapKept.run_setObj_map _ hb,Result.andThen,ChangeMaps.setBlock],ky hb (MapKept.stamped_push hs h3) ?_ ?_⟩
  ·intro x hx;simp only[Bf,Bg,Az]at hx;rcases hx with hx|rfl
   ·exact hks x hx
   ·exact⟨z,rfl,hz⟩
  ·intro y u;unfold iU;simp only[Bf,Bg,Az];by_cases hy:y=z
   ·subst hy;rw[if_pos rfl]
    constructor
    ·intro e;injection e with e;exact⟨_,.inr rfl,rfl,e⟩
    ·rintro⟨x,hx|rfl,e1,e2⟩
     ·exact absurd e1 (h3 x hx)
     ·rw[←e2]
   ·rw[if_neg hy,hf y u]
    constructor
    ·rintro⟨x,hx,e1,e2⟩;exact⟨x,.inl hx,e1,e2⟩
    ·rintro⟨x,hx|rfl,e1,e2⟩
     ·exact⟨x,hx,e1,e2⟩
     ·injection e1 with _ e1;exact absurd e1.symm hy
 ·have hj:es[j]?=some e:=by simpa using h2
  have hkeyf:∀e',es[j]?=some e'→({e' with key:=U Z z,val:=v}:MapEntry).key=e'.key:=fun e' he'=>by rw[hj]at he';cases he';exact h3.symm
  have hlist:(es.modify j (fun e'=>{e' with key:=U Z z,val:=v})).toList=es.toList.set j {e with key:=U Z z,val:=v}:=by rw[Array.toList_modify,ChangeMaps.modify_eq_set _ _ _ _ h2]
  have hst:=MapKept.run_keyThatStays (P:=P) (w:=w) (d:=.int .i64) (k:=U Z z) (by simp[MapKept.IsKey]);have hjl:j<es.toList.length:=(zS.1 h2).1
  have hmem:∀x,x∈es.toList.set j {e with key:=U Z z,val:=v}→x={e with key:=U Z z,val:=v}∨(x∈es.toList∧x.key≠U Z z):=by
   intro x hx;obtain⟨i,hi,ex⟩:=Bi hx;rw[Bj]at ex
   split at ex
   ·exact .inl ex.symm
   ·rename_i hne
    have hi':i<es.toList.length:=by simpa using hi
    refine .inr ⟨ex▸List.getElem_mem hi',fun he=>hne ?_⟩;have hp:=((MapKept.stamped_iff es clock).1 hs).2.2
    have he2:es.toList[j]=e:=by rw[zM hjl]at h2;injection h2
    rcases Bl i j with q|q|q
    ·exact absurd (by rw[ex,he2,he,h3]) (Bm.1 hp i j hi' hjl q)
    ·exact q.symm
    ·exact absurd (by rw[ex,he2,he,h3]) (Bm.1 hp j i hjl hi' q)
  refine⟨ChangeMaps.setBlock w b (.map (es.modify j (fun e'=>{e' with key:=U Z z,val:=v})) clock),by simp[Instr.mapUpdate,run_underlying ht,MapKept.run_getObj_map hb,hc,MapKept.run_findKey hk h1,hj,h3,hst,MapKept.run_setObj_map _ hb,Result.andThen,ChangeMaps.setBlock],ky hb (MapKept.stamped_modify hs _ _ (fun _ _=>rfl) (fun e' _ he'=>hkeyf e' he')) ?_ ?_⟩
  ·intro x hx;rw[hlist]at hx;rcases hmem x hx with rfl|⟨hx,_⟩
   ·exact⟨z,rfl,hz⟩
   ·exact hks x hx
  ·intro y u;unfold iU;rw[hlist];by_cases hy:y=z
   ·subst hy;rw[if_pos rfl]
    constructor
    ·intro e1;injection e1 with e1;exact⟨{e with key:=U Z y,val:=v},Bn.2 ⟨j,by simpa using hjl,by simp⟩,rfl,e1⟩
    ·rintro⟨x,hx,e1,e2⟩;rcases hmem x hx with rfl|⟨_,hne⟩
     ·rw[←e2]
     ·exact absurd e1 hne
   ·rw[if_neg hy,hf y u]
    constructor
    ·rintro⟨x,hx,e1,e2⟩;obtain⟨i,hi,ex⟩:=Bi hx;refine⟨x,Bn.2 ⟨i,by simpa using hi,?_⟩,e1,e2⟩;rw[Bj]
     have hne:j≠i:=by
      rintro rfl;rw[zM hi,ex]at h2;injection h2 with h2;rw[h2,h3]at e1;injection e1 with _ e1;exact hy e1.symm
     rw[if_neg hne];exact ex
    ·rintro⟨x,hx,e1,e2⟩;rcases hmem x hx with rfl|⟨hx,_⟩
     ·injection e1 with _ e1;exact absurd e1.symm hy
     ·exact⟨x,hx,e1,e2⟩
theorem IM.del(h:IM w b f)(ht:P.underlying t=some (.map kt et))(hk:P.underlying kt=some (.int .i64))(z:Int):
  ∃w',(∀ty,(Builtin.delete_ #[t,kt] ty #[.map (some b),U Z z]).run P w=.ok (.tuple #[]) w')∧IM w' b (mN f z)∧Chg (fun k=>k=b) w w':=by
 obtain⟨es,clock,hb,hs,hks,hf⟩:=h;have hc:∀em,(Instr.checkKey em 10000 kt (U Z z)).run P w=.ok () w:=fun em=>MapKept.run_checkKey (k:=U Z z) hk (by simp[MapKept.IsKey]) _ 9999;rcases jq hs hks hf z with⟨h1,h2,h3⟩|⟨j,e,h1,h2,h3,h4⟩
 ·refine⟨ChangeMaps.setBlock w b (.map es clock),fun ty=>by simp[Builtin.delete_,run_underlying ht,MapKept.run_getObj_map hb,hc,MapKept.run_findKey hk h1,MapKept.run_setObj_map _ hb,Result.andThen,ChangeMaps.setBlock],ky hb hs hks ?_⟩;intro y u;unfold mN;by_cases hy:y=z
  ·subst hy;rw[if_pos rfl];exact⟨(fun e=>by cases e),(by rintro⟨x,hx,e1,_⟩;exact absurd e1 (h3 x hx))⟩
  ·rw[if_neg hy];exact hf y u
 ·have hjl:j<es.toList.length:=(zS.1 h2).1
  have hjs:j<es.size:=by simpa using hjl
  have hsub:(es.eraseIdxIfInBounds j).toList=es.toList.eraseIdx j:=by
   unfold Array.eraseIdxIfInBounds;rw[dif_pos hjs];simp
  refine⟨ChangeMaps.setBlock w b (.map (es.eraseIdxIfInBounds j) clock),fun ty=>by simp[Builtin.delete_,run_underlying ht,MapKept.run_getObj_map hb,hc,MapKept.run_findKey hk h1,MapKept.run_setObj_map _ hb,Result.andThen,ChangeMaps.setBlock],ky hb (MapKept.stamped_erase hs j) ?_ ?_⟩
  ·intro x hx;rw[hsub]at hx;exact hks x ((Bo _ _).subset hx)
  ·intro y u;unfold mN;rw[hsub];have hp:=((MapKept.stamped_iff es clock).1 hs).2.2
   have he2:es.toList[j]=e:=by rw[zM hjl]at h2;injection h2
   by_cases hy:y=z
   ·subst hy;rw[if_pos rfl];refine⟨(fun e=>by cases e),?_⟩;rintro⟨x,hx,e1,_⟩;obtain⟨i,hne,hi⟩:=Bp.1 hx;have hi':i<es.toList.length:=(zS.1 hi).1
    have ex:es.toList[i]=x:=by rw[zM hi']at hi;injection hi
    rcases Bl i j with q|q|q
    ·exact absurd (by rw[ex,he2,e1,h3]) (Bm.1 hp i j hi' hjl q)
    ·exact absurd q hne
    ·exact absurd (by rw[ex,he2,e1,h3]) (Bm.1 hp j i hjl hi' q)
   ·rw[if_neg hy,hf y u]
    constructor
    ·rintro⟨x,hx,e1,e2⟩;obtain⟨i,hi⟩:=Bq hx;refine⟨x,Bp.2 ⟨i,?_,hi⟩,e1,e2⟩;rintro rfl;rw[h2]at hi;injection hi with hi;rw[←hi,h3]at e1;injection e1 with _ e1;exact hy e1.symm
    ·rintro⟨x,hx,e1,e2⟩;exact⟨x,(Bo _ _).subset hx,e1,e2⟩
theorem IM.clone{es:Array MapEntry}{clock:Nat}(h:IM w b f)(hb:w.heap[b]?=some (.map es clock)):IM (w.alloc (.map es clock)) w.heap.size f:=by
 obtain⟨es',clock',hb',r⟩:=h;rw[hb]at hb';injection hb' with hb';injection hb' with h1 h2;subst h1;subst h2;exact⟨es,clock,(MapKept.heap_alloc w _).1,r⟩
end
/-! ### a map's keys,sorted -/
theorem ru{l:List Int}{n:Nat}(hn:l.Nodup)(h:∀z∈l,0≤z∧z<(n:Int)):l.Perm (((Br n).map Bs).filter (fun z=>decide (z∈l)))∧l.length≤n:=by
 have hp:l.Perm (((Br n).map Bs).filter (fun z=>decide (z∈l))):=by
  refine(Bu hn ?_).2 (fun z=>?_)
  ·refine Bv.filter _ ?_;rw[Bw];exact Bx.imp (fun h e=>h (by injection e))
  ·simp only[By,Bz,BB,decide_eq_true_eq]
   constructor
   ·intro hz;have:=h z hz;exact⟨⟨z.toNat,by omega,by simp;omega⟩,hz⟩
   ·exact fun h=>h.2
 refine⟨hp,?_⟩;have h1:=hp.length_eq;have h2:=BC (fun z=>decide (z∈l)) ((Br n).map Bs);rw[AH,BD]at h2;omega
def eP(f:Int→Option Value):List Int:=((Br 32).map Bs).filter (fun z=>(f z).isSome)
theorem nE(f:Int→Option Value):(eP f).mergeSort (fun x y=>decide (x≤y))=eP f:=by
 refine List.mergeSort_of_pairwise ?_;unfold eP;refine Bv.filter _ ?_;rw[Bw];refine BE.imp ?_;intro a b h;simp only[decide_eq_true_eq];exact Int.ofNat_le.2 (BF h)
theorem IM.owns{w:World}{b:Nat}{f:Int→Option Value}(h:IM w b f){P:Program}{kt:TypeId}(hk:P.underlying kt=some (.int .i64)):
  ∃D0:DataW Unit,w.ownsMap P kt (fun _=>some (DataW.nil,[])) b 32 D0∧Maps.size D0≤32∧∀ss:List Int,ss.Perm (intKeys D0)→ss.mergeSort (fun x y=>decide (x≤y))=eP f∧ss.length=(eP f).length:=by
 obtain⟨es,clock,hb,hs,hks,hf⟩:=h;let R:Value→Option (DataW Unit×List MemPlace):=fun _=>some (DataW.nil,[])
 have hrd:∀x∈es.toList,∃z:Int,WideElems.rd P kt R x=some (.int .i64 z,DataW.nil)∧x.key=.int .i64 z∧0≤z∧z<32:=by
  intro x hx;obtain⟨z,e,h1,h2⟩:=hks x hx;refine⟨z,?_,e,h1,h2⟩;have hw:(Lit.int .i64 z).wf=true:=WalkArith.wf_i64 (by omega)
  have hk':keyOf P kt x.key=some (.int .i64 z):=by rw[e];exact Maps.keyOf_int_mk hk hw
  exact WideElems.rd_mk (R:=R) (key:=x.key) (val:=x.val) (born:=x.born) (yv:=(DataW.nil,[])) hk' rfl
 have hkeys:(es.toList.map (fun x=>Go.intOf (WideElems.rg P kt R x).1)).Nodup:=by
  unfold List.Nodup;rw[Bw];refine Bv.imp_of_mem ?_ ((MapKept.stamped_iff es clock).1 hs).2.2;intro x y hx hy hne e;obtain⟨a,ha,ea,_⟩:=hrd x hx;obtain⟨c,hc,ec,_⟩:=hrd y hy;rw[WideElems.rg_of ha,WideElems.rg_of hc]at e;simp only[Go.intOf]at e;exact hne (by rw[ea,ec,e])
 have hmem:∀z:Int,z∈es.toList.map (fun x=>Go.intOf (WideElems.rg P kt R x).1)↔(f z).isSome=true:=by
  intro z;rw[Bz]
  constructor
  ·rintro⟨x,hx,e⟩;obtain⟨a,ha,ea,_⟩:=hrd x hx;rw[WideElems.rg_of ha]at e;simp only[Go.intOf]at e;subst e;rw[(hf a x.val).2 ⟨x,hx,ea,rfl⟩];rfl
  ·intro hz;obtain⟨v,hv⟩:=BG.1 hz;obtain⟨x,hx,e,_⟩:=(hf z v).1 hv;obtain⟨a,ha,ea,_⟩:=hrd x hx;refine⟨x,hx,?_⟩;rw[WideElems.rg_of ha];rw[ea]at e;injection e with _ e
 have hb2:∀z∈es.toList.map (fun x=>Go.intOf (WideElems.rg P kt R x).1),0≤z∧z<((32:Nat):Int):=by
  intro z hz;obtain⟨x,hx,e⟩:=Bz.1 hz;obtain⟨a,ha,ea,h1,h2⟩:=hrd x hx;rw[WideElems.rg_of ha]at e;simp only[Go.intOf]at e;omega
 have hlen:=(ru hkeys hb2).2;rw[AH]at hlen
 have hperm:(intKeys (DataW.map ((es.toList.map (WideElems.rg P kt R)).foldr DataW.insert []))).Perm (es.toList.map (fun x=>Go.intOf (WideElems.rg P kt R x).1)):=by
  unfold intKeys;have:=(WideShapes.sorted_perm (es.toList.map (WideElems.rg P kt R))).map (fun p:Lit×DataW Unit=>Go.intOf p.1);rw[List.map_map]at this;exact this
 refine⟨_,⟨es,clock,hb,⟨by unfold maxLen;simp at hlen;omega,hs,fun x hx=>by obtain⟨z,h1,_⟩:=hrd x hx;exact⟨_,h1⟩⟩,by simpa using hlen,rfl⟩,?_,?_⟩
 ·have e1:Maps.size (DataW.map ((es.toList.map (WideElems.rg P kt R)).foldr DataW.insert []))=((es.toList.map (WideElems.rg P kt R)).foldr DataW.insert []).length:=rfl;rw[e1,length_sorted,AH];exact hlen
 ·intro ss hss;have hp2:=hss.trans hperm
  have h3:ss.Perm (eP f):=by
   refine(Bu (hp2.symm.nodup hkeys) ?_).2 (fun z=>?_)
   ·unfold eP;refine Bv.filter _ ?_;rw[Bw];exact Bx.imp (fun h e=>h (by injection e))
   ·rw[hp2.mem_iff,hmem z];unfold eP;simp only[By,Bz,BB];refine⟨fun hz=>⟨?_,hz⟩,fun h=>h.2⟩;have:=hb2 z ((hmem z).2 hz);exact⟨z.toNat,by omega,by simp;omega⟩
  exact⟨(mergeSort_of_perm_i h3).trans (nE f),h3.length_eq⟩
structure CV where
 r:RV
 was:Int
def CV.cs(x:CV):Array Value:=#[U Z x.r.po,U .u64 x.r.ma,U Z x.r.ow,U Z x.r.ta,U Z x.r.ol,U Z x.r.ge,U Z x.r.ph,U Z x.r.ve,U Z x.r.si,U Z x.was]
theorem oJ(x:CV):x.cs.size=10:=rfl
theorem ga(x:RV):x.cs.size=9:=rfl
def aO(R:Int→Option RV):List RV:=(Br 32).filterMap (fun i:Nat=>R (i:Int))
def bw(C:Int→Bool):List Int:=((Br 32).map Bs).filter C
def im(ma:Int)(x:RV):Bool:=x.ph !=3&&x.ma==ma
def ee(R:Int→Option RV)(ma:Int):Option RV:=(aO R).find? (im ma)
def dx(c:Int)(x:RV):Bool:=[x.ow,x.ta,x.ol].contains c
def jr(R:Int→Option RV)(c:Int):Bool:=(aO R).any (dx c)
def de(C:Int→Bool)(n:Int):Bool:=n != -1&& !C n
def ef(C:Int→Bool)(x:RV):Bool:=[x.ow,x.ta,x.ol].any (de C)
def cH(R:Int→Option RV)(p:Int):Int:=((R p).getD z9).ve
def eA(R:Int→Option RV)(x:RV):Bool:=x.ph !=3&&((ee R x.ma).isSome&&((ee R x.ma).getD z9).po !=x.po)
def aC(C:Int→Bool)(R:Int→Option RV)(c:CV):Int:=
 if (!c.r.ok||decide (c.r.ve≤c.was))=true then 1 else if ef C c.r=true then 4 else if (cH R c.r.po !=c.was)=true then 7 else if eA R c.r=true then 5 else 0
def cm(R:Int→Option RV)(x:RV):Int→Option RV:=fun y=>if y=x.po then some x else R y
def bF(C:Int→Bool):List CV→(Int→Option RV)→Int×(Int→Option RV)
 |[],R=>(0,R)
 |c::l,R=>if aC C R c=0 then bF C l (cm R c.r)else(aC C R c,R)
def fd(C:Int→Bool)(z:Int):Int:=if (decide (z<0)||decide (15<z))=true then 1 else if C z=true then 5 else 0
def gY(C:Int→Bool)(z:Int):Int→Bool:=fun y=>if y=z then true else C y
def fy(C:Int→Bool)(R:Int→Option RV)(z:Int):Int:=if C z=false then 4 else if jr R z=true then 11 else 0
def io(C:Int→Bool)(z:Int):Int→Bool:=fun y=>if y=z then false else C y
def addK(C:Int→Bool)(z:Int):Int→Bool:=if fd C z=0 then gY C z else C
def remK(C:Int→Bool)(R:Int→Option RV)(z:Int):Int→Bool:=if fy C R z=0 then io C z else C
def eB(now span:Int)(x:RV):Option CV:=if (lt9 x now span).2=true then some ⟨(lt9 x now span).1,x.ve⟩else none
def dg(R:Int→Option RV)(now span:Int):List CV:=(aO R).filterMap (eB now span)
theorem RV.bd{x:RV}(h:x.ok=true):(0≤x.po∧x.po≤31)∧(1≤x.ve∧x.ve≤1099511627776)∧x.ma≤281474976710655∧(1≤x.ge∧x.ge≤4294967296)∧(0≤x.si∧x.si≤1099511627776):=cf h
structure WF(C:Int→Bool)(R:Int→Option RV):Prop where
 ch:∀z,C z=true→0≤z∧z≤15
 row:∀z x,R z=some x→x.ok=true∧x.po=z∧ef C x=false
 one:∀z y x u,R z=some x→R y=some u→x.ph≠3→u.ph≠3→x.ma=u.ma→z=y
section
variable {C : Int → Bool} {R : Int → Option RV}
theorem WF.start:WF (fun _=>false) (fun _=>none):=⟨by simp,by simp,by simp⟩
theorem WF.bounds(h:WF C R){z:Int}{x:RV}(hx:R z=some x):0≤z∧z≤31:=by
 obtain⟨h1,h2,_⟩:=h.row z x hx;have:=(RV.bd h1).1;omega
theorem WF.ver(h:WF C R){z:Int}{x:RV}(hx:R z=some x):1≤x.ve∧x.ve≤1099511627776:=(RV.bd (h.row z x hx).1).2.1
theorem WF.mem(h:WF C R){x:RV}:x∈aO R↔∃z,R z=some x:=by
 unfold aO;rw[List.mem_filterMap]
 constructor
 ·rintro⟨i,_,hi⟩;exact⟨_,hi⟩
 ·rintro⟨z,hz⟩;have:=h.bounds hz;exact⟨z.toNat,BB.2 (by omega),by rw[show ((z.toNat:Nat):Int)=z by omega];exact hz⟩
theorem rx{c:Int}{x:RV}:dx c x=true↔x.ow=c∨x.ta=c∨x.ol=c:=by
 unfold dx;simp only[List.contains_cons,List.contains_nil,Bool.or_false,BH,beq_iff_eq]
 constructor
 ·rintro(h|h|h)<;>simp[h]
 ·rintro(h|h|h)<;>simp[h]
theorem mO{x:RV}:ef C x=false↔de C x.ow=false∧de C x.ta=false∧de C x.ol=false:=by
 unfold ef;simp
theorem ry{n:Int}:de C n=false↔n= -1∨C n=true:=by
 unfold de;by_cases h:n= -1<;>cases hc:C n<;>simp[h]
theorem WF.add(h:WF C R){z:Int}(hz:fd C z=0):WF (gY C z) R:=by
 have hb:0≤z∧z≤15:=by
  unfold fd at hz
  split at hz
  ·cases hz
  ·rename_i hb;simp only[BH,decide_eq_true_eq]at hb;omega
 refine⟨fun y hy=>?_,fun y x hx=>?_,h.one⟩
 ·unfold gY at hy
  split at hy
  ·omega
  ·exact h.ch y hy
 ·obtain⟨h1,h2,h3⟩:=h.row y x hx;refine⟨h1,h2,?_⟩;rw[mO]at h3⊢
  have hm:∀n,de C n=false→de (gY C z) n=false:=by
   intro n hn;rw[ry]at hn⊢;rcases hn with hn|hn
   ·exact .inl hn
   ·right;unfold gY;split
    ·rfl
    ·exact hn
  exact⟨hm _ h3.1,hm _ h3.2.1,hm _ h3.2.2⟩
theorem WF.rem(h:WF C R){z:Int}(hz:fy C R z=0):WF (io C z) R:=by
 have hu:jr R z=false:=by
  unfold fy at hz
  split at hz
  ·cases hz
  ·split at hz
   ·cases hz
   ·rename_i hh;simpa using hh
 refine⟨fun y hy=>?_,fun y x hx=>?_,h.one⟩
 ·unfold io at hy
  split at hy
  ·cases hy
  ·exact h.ch y hy
 ·obtain⟨h1,h2,h3⟩:=h.row y x hx;refine⟨h1,h2,?_⟩
  have hn:¬dx z x=true:=by
   unfold jr at hu;have:=BI.1 hu x (h.mem.2 ⟨y,hx⟩);simpa using this
  rw[rx]at hn;rw[mO]at h3⊢
  have hm:∀n,n≠z→de C n=false→de (io C z) n=false:=by
   intro n hne hn;rw[ry]at hn⊢;rcases hn with hn|hn
   ·exact .inl hn
   ·right;unfold io;rw[if_neg hne];exact hn
  exact⟨hm _ (fun e=>hn (.inl e)) h3.1,hm _ (fun e=>hn (.inr (.inl e))) h3.2.1,hm _ (fun e=>hn (.inr (.inr e))) h3.2.2⟩
theorem WF.addK(h:WF C R)(z:Int):WF (addK C z) R:=by
 unfold Go.Proofs.YtnojmbejedlilaaGreat.addK
 split
 ·rename_i e;exact h.add e
 ·exact h
theorem WF.remK(h:WF C R)(z:Int):WF (remK C R z) R:=by
 unfold Go.Proofs.YtnojmbejedlilaaGreat.remK
 split
 ·rename_i e;exact h.rem e
 ·exact h
theorem dG{c:CV}(h:aC C R c=0):c.r.ok=true∧c.was<c.r.ve∧ef C c.r=false∧cH R c.r.po=c.was∧eA R c.r=false:=by
 unfold aC at h
 split at h
 ·cases h
 ·rename_i h1
  split at h
  ·cases h
  ·rename_i h2
   split at h
   ·cases h
   ·rename_i h3
    split at h
    ·cases h
    ·rename_i h4;simp only[BH,Bool.not_eq_true',decide_eq_true_eq]at h1;refine⟨?_,by omega,by simpa using h2,by simpa using h3,by simpa using h4⟩;cases hh:c.r.ok
     ·exact absurd (.inl hh) h1
     ·rfl
theorem ip{ma:Int}{x:RV}:im ma x=true↔x.ph≠3∧x.ma=ma:=by
 unfold im;simp
theorem WF.take(h:WF C R)(x:RV):eA R x=true↔x.ph≠3∧∃z u,R z=some u∧z≠x.po∧u.ph≠3∧u.ma=x.ma:=by
 unfold eA ee;simp only[Bool.and_eq_true,bne_iff_ne,ne_eq]
 constructor
 ·rintro⟨h1,h2,h3⟩;refine⟨h1,?_⟩;obtain⟨u,hu⟩:=BG.1 h2;rw[hu]at h3;simp only[BJ]at h3;have hm:=BK hu;have hp:=ip.1 (BM hu);obtain⟨z,hz⟩:=h.mem.1 hm;have:=(h.row z u hz).2.1;exact⟨z,u,hz,by omega,hp.1,hp.2⟩
 ·rintro⟨h1,z,u,hz,hne,hg,hm⟩;refine⟨h1,?_⟩;have hin:=h.mem.2 ⟨z,hz⟩
  cases hf:(aO R).find? (im x.ma)with
  |none=>
   have:=BN.1 hf u hin;exact absurd (ip.2 ⟨hg,hm⟩) this
  |some y=>
   refine⟨rfl,?_⟩;simp only[BJ];have hp:=ip.1 (BM hf);obtain⟨v,hv⟩:=h.mem.1 (BK hf);have e1:=h.one v z y u hv hz hp.1 hg (by rw[hp.2,hm]);have:=(h.row v y hv).2.1;omega
theorem WF.put(h:WF C R){c:CV}(hc:aC C R c=0):WF C (cm R c.r):=by
 obtain⟨h1,h2,h3,h4,h5⟩:=dG hc
 have ht:¬eA R c.r=true:=by rw[h5];decide
 rw[h.take]at ht;refine⟨h.ch,fun z x hx=>?_,fun z y x u hx hu gx gu hm=>?_⟩
 ·unfold cm at hx
  split at hx
  ·rename_i e;injection hx with hx;subst hx;exact⟨h1,e.symm,h3⟩
  ·exact h.row z x hx
 ·unfold cm at hx hu
  split at hx
  ·rename_i e1;injection hx with hx;subst hx
   split at hu
   ·omega
   ·rename_i e2;exact absurd ⟨gx,y,u,hu,e2,gu,hm.symm⟩ ht
  ·rename_i e1
   split at hu
   ·injection hu with hu;subst hu;exact absurd ⟨gu,z,x,hx,e1,gx,hm⟩ ht
   ·exact h.one z y x u hx hu gx gu hm
theorem WF.pair(h:WF C R):(aO R).Pairwise (fun x y=>x.po<y.po∧¬(x.ph≠3∧y.ph≠3∧x.ma=y.ma)):=by
 unfold aO;rw[List.pairwise_filterMap];refine BE.imp ?_;intro i j hij x hx y hy;have h1:=(h.row _ _ hx).2.1;have h2:=(h.row _ _ hy).2.1;refine⟨by omega,fun⟨a,b,c⟩=>?_⟩;have:=h.one _ _ _ _ hx hy a b c;omega
theorem dH(R:Int→Option RV):(aO R).length≤32:=by
 have:=BO (fun i:Nat=>R (i:Int)) (Br 32);rw[BD]at this;exact this
theorem iq(C:Int→Bool):(bw C).length≤32:=by
 have:=BC C ((Br 32).map Bs);rw[AH,BD]at this;exact this
theorem tZ(R:Int→Option RV)(now span:Int):(dg R now span).length≤32:=
 Nat.le_trans (BO _ _) (dH R)
def fF(R:Int→Option RV)(k:Nat):List RV:=(Br k).filterMap (fun i:Nat=>R (i:Int))
theorem kz(R:Int→Option RV)(k:Nat):fF R (k+1)=fF R k++(R (k:Int)).toList:=by
 unfold fF;rw[List.range_succ,BP];cases h:R (k:Int)<;>simp[h]
theorem rz(R:Int→Option RV)(k:Nat):(fF R k).length≤k:=by
 have:=BO (fun i:Nat=>R (i:Int)) (Br k);rw[BD]at this;exact this
theorem jT(C:Int→Bool):∀(l:List CV) (R:Int→Option RV) (c:CV),(bF C l R).1=0→bF C (l++[c]) R=(if aC C (bF C l R).2 c=0 then(0,cm (bF C l R).2 c.r)else(aC C (bF C l R).2 c,(bF C l R).2))
 |[],R,c,_=>rfl
 |d::l,R,c,h=>by
  simp only[BR,bF]at h⊢;by_cases hd:aC C R d=0
  ·simp only[if_pos hd]at h⊢;exact jT C l _ c h
  ·simp only[if_neg hd]at h;exact absurd h hd
theorem oK(C:Int→Bool):∀(l:List CV) (R:Int→Option RV) (r:List CV),(bF C l R).1≠0→(bF C (l++r) R).1=(bF C l R).1
 |[],R,r,h=>absurd rfl h
 |d::l,R,r,h=>by
  simp only[BR,bF]at h⊢;by_cases hd:aC C R d=0
  ·simp only[if_pos hd]at h⊢;exact oK C l _ r h
  ·simp only[if_neg hd]
end
def fC(C:Int→Bool):Int→Option Value:=fun z=>if C z=true then some (.bool true)else none
def fR(R:Int→Option RV):Int→Option Value:=fun z=>(R z).map fun x=>Value.agg x.cs
structure CS(B:Nat)(w:World)(p bc br:Nat)(C:Int→Bool)(R:Int→Option RV):Prop where
 bp:B≤p
 bbc:B≤bc
 bbr:B≤br
 ne:bc≠br
 blk:Blk w p 180 #[.map (some bc),.map (some br)]
 ch:IM w bc (fC C)
 ro:IM w br (fR R)
section
variable {B : Nat} {w w' : World} {p bc br : Nat} {C : Int → Bool} {R : Int → Option RV}
theorem CS.chg{S:Nat→Prop}(h:CS B w p bc br C R)(hc:Chg S w w')(h1:¬S p)(h2:¬S bc)(h3:¬S br):CS B w' p bc br C R:=
 ⟨h.bp,h.bbc,h.bbr,h.ne,h.blk.chg hc h1,h.ch.chg hc h2,h.ro.chg hc h3⟩
theorem CS.keep(h:CS B w p bc br C R)(hc:Chg (fun _=>False) w w'):CS B w' p bc br C R:=h.chg hc id id id
theorem CS.drew(h:CS B w p bc br C R):CS B w.drew p bc br C R:=⟨h.bp,h.bbc,h.bbr,h.ne,h.blk.drew,h.ch.drew,h.ro.drew⟩
theorem CS.cells(h:CS B w p bc br C R):w.cell? ⟨p,0,none⟩=some (.map (some bc))∧w.cell? ⟨p,1,none⟩=some (.map (some br)):=by
 have x0:=h.blk.cell 0;have x1:=h.blk.cell 1;simp only[Ap,Aq,Ar]at x0 x1;exact⟨x0,x1⟩
theorem CS.apart(h:CS B w p bc br C R){q:Nat}{T:TypeId}{cs:Array Value}(hq:Blk w q T cs)(hT:T≠180):q≠p∧q≠bc∧q≠br:=by
 refine⟨?_,h.ch.ne hq,h.ro.ne hq⟩;rintro rfl;have hb:=h.blk;unfold Blk at hb hq;rw[hb]at hq;injection hq with hq;injection hq with _ hq;exact hT hq.symm
theorem CS.lookC(h:CS B w p bc br C R)(z:Int):(Instr.lookup 177 (.map (some bc)) (U Z z) false).run Tryz.prog w=.ok (.bool (C z)) w:=by
 rw[h.ch.look0 Tryz.underlying177 Tryz.underlying3 (zv:=.bool false) (by kernel_rfl) z];unfold fC;cases C z<;>rfl
theorem CS.lookR(h:CS B w p bc br C R)(z:Int):(Instr.lookup 178 (.map (some br)) (U Z z) true).run Tryz.prog w=.ok (.tuple #[.agg ((R z).getD z9).cs,.bool (R z).isSome]) w:=by
 rw[h.ro.look1 Tryz.underlying178 Tryz.underlying3 (zv:=.agg z9.cs) (by kernel_rfl) z];unfold fR;cases R z<;>rfl
end
theorem bm(x:RV):∃po ma ow ta ol ge ph ve si:Int,x=⟨po,ma,ow,ta,ol,ge,ph,ve,si⟩:=by
 obtain⟨po,ma,ow,ta,ol,ge,ph,ve,si⟩:=x;exact⟨_,_,_,_,_,_,_,_,_,rfl⟩
theorem ir{B:Nat}{w:World}{p bc br:Nat}{C:Int→Bool}{R:Int→Option RV}(h:CS B w p bc br C R)(z:Int):
  Calls Tryz.prog 89 #[.pointer (some ⟨p,0,none⟩),U Z z] w fun e w'=>e=.returned (.bool (C z))∧w=w':=by
 have hl:=h.lookC z;obtain⟨c0,c1⟩:=h.cells;clear h;generalize C z=b at*;go_in;go_wp2_with fail;go_ret;exact⟨rfl,rfl⟩
theorem jU(w:World):Calls Tryz.prog 50 #[] w fun e w'=>e=.returned (.pointer (some ⟨w.heap.size+1+1,0,none⟩))∧CS w.heap.size w' (w.heap.size+1+1) w.heap.size (w.heap.size+1) (fun _=>false) (fun _=>none)∧Chg (fun _=>False) w w':=by
 have hmm:= @run_makeMap Tryz.prog;have HX:=hd_ ((((Chg.refl (fun _=>False) w).alloc (.map #[] 0)).alloc (.map #[] 0)).alloc (.cells #[.map (some w.heap.size),.map (some (w.heap.size+1))] 180));have H0:=hd_ (((IM.new w).alloc (.map #[] 0)).alloc (.cells #[.map (some w.heap.size),.map (some (w.heap.size+1))] 180))
 have h1:IM ((w.alloc (.map #[] 0)).alloc (.map #[] 0)) (w.heap.size+1) (fun _=>none):=by simpa using IM.new (w.alloc (.map #[] 0))
 have H1:=hd_ (h1.alloc (.cells #[.map (some w.heap.size),.map (some (w.heap.size+1))] 180))
 have hb:Blk (((w.alloc (.map #[] 0)).alloc (.map #[] 0)).alloc (.cells #[.map (some w.heap.size),.map (some (w.heap.size+1))] 180)) (w.heap.size+1+1) 180 #[.map (some w.heap.size),.map (some (w.heap.size+1))]:=by simpa using Blk.new ((w.alloc (.map #[] 0)).alloc (.map #[] 0)) 180 #[.map (some w.heap.size),.map (some (w.heap.size+1))]
 have HB:=hd_ hb;clear h1 hb;go_in;go_wp2_with fail;go_ret;refine⟨by simp,⟨by omega,by omega,by omega,by omega,?_,?_,?_⟩,HX.out⟩
 ·exact HB.out
 ·exact H0.out
 ·exact H1.out
def cw(o:Option RV):RV×Bool:=(o.getD z9,o.isSome)
theorem dT{P:Program}(w:World){ops:Array Oper}{rest:List Oper}{o:Oper}{a:Act}{Q:Exit→Act→World→Prop}(hgd:o.guard=none)(s x:Operand)(t:TypeId)
  (ho:o.op=.call {callee:=.builtin .append,args:=#[s,x],argTypes:=#[t,t]})
  (base:Nat) (e:TypeId) (i:TypeInfo) (z:Value) (size bytes:Nat) (ht:P.underlying t=some (.slice e)) (hi:P.info? e=some i) (hz:i.zero=some z)
  (hsize:i.size=size) (hby:i.bytes=bytes) (hzs:z.cells.size=size) (hpos:0<size)
  (v:Value) (n:Nat) (xs:List Value) (hs:a.eval s=v) (hown:w.ownsRow base e size v n xs)
  (ad:Addr) (m c:Nat) (news:List Value) (hx:a.eval x=.slice (some ad) m c) (hl:news.length=m*size) (hnews:∀j u,news[j]?=some u→w.cell? (ad.add j)=some u) (h1:∀u∈news,u.oneCell'=true)
  (h63:n+m≤maxLen) (hbytes:(n+m)*bytes≤140737488355328) (hbase:base≤w.heap.size)
  (h:∀v' w',w'.ownsRow base e size v' (n+m) (xs++news)→w.grownBy w' v.ownBlock→(v'.ownBlock=v.ownBlock∨v'.ownBlock=some w.heap.size)→wpList P ops Q rest (a.put o.dst v') w'):wpList P ops Q (o::rest) a w:=by
 refine wpList_plain hgd fun K hK=>?_;obtain⟨v',w',hrun,h2,h3,_,h4⟩:=run_append_own_at (P:=P) w base t o.type e i z size bytes ht hi hz hsize hby hzs hpos v n xs hown ad m c news hl hnews h1 h63 hbytes hbase;unfold Oper.wp execOp;simp only[ho,resolve,invoke,builtin,Sem.run_bind,Sem.run_pure,Result.andThen_ok,List.map_toArray,List.map_cons,List.map_nil,hs,hx,hrun];exact hK _ _ (h v' w' h2 h3 h4)
theorem gH{w W:World}{t:TypeId}{cs:Array Value}(hW:W=w.alloc (.cells cs t)):∀(j:Nat) (u:Value),cs.toList[j]?=some u→W.cell? ((⟨w.heap.size,0,none⟩:Addr).add j)=some u:=by
 subst hW;intro j u hu
 have e:(⟨w.heap.size,0,none⟩:Addr).add j=⟨w.heap.size,j,none⟩:=by unfold Addr.add;split<;>simp_all
 rw[e,(Blk.new w t cs).cell];simpa using hu
theorem rA:(Tryz.prog.info? 60).map (fun i=>(i.zero,i.size,i.bytes))=some (some (.agg #[U Z 0,U .u64 0,U Z 0,U Z 0,U Z 0,U Z 0,U Z 0,U Z 0,U Z 0]),9,72):=by kernel_rfl
def t_{α:Type}(T:TypeId)(k:Nat)(cs:α→Array Value)(l:List α)(w:World)(e:Ending)(w':World):Prop:=
 ∃A n c,e=.returned (.slice A n c)∧n=l.length∧w'.ownsRow w.heap.size T k (.slice A n c) n (l.flatMap fun x=>(cs x).toList)∧Chg (fun _=>False) w w'
theorem kC{S:Nat→Prop}{a w w':World}{base:Nat}{e:TypeId}{size n:Nat}{v:Value}{xs:List Value}(h:Chg (fun _=>False) a w)(hg:w.grownBy w' v.ownBlock)(hown:w.ownsRow base e size v n xs)(hb:a.heap.size≤base):Chg (fun _=>False) a w':=
 h.grown hg (fun k hk hlt=>by have:=hown.lt k hk;omega)
theorem ff{B:Nat}{w:World}{p bc br:Nat}{C:Int→Bool}{R:Int→Option RV}(h:CS B w p bc br C R)(z:Int):Calls Tryz.prog 106 #[.pointer (some ⟨p,0,none⟩),U Z z] w (HB (cw (R z)) w):=by
 have HS0:=hd_ h;clear h;obtain⟨po,ma,ow,ta,ol,ge,ph,ve,si,hv⟩:=bm ((R z).getD z9);rw[show cw (R z)=(⟨po,ma,ow,ta,ol,ge,ph,ve,si⟩,(R z).isSome)from by unfold cw;rw[hv]];have HL:Hid (∀W,CS B W p bc br C R→(Instr.lookup 178 (.map (some br)) (U Z z) true).run Tryz.prog W=.ok (.tuple #[.agg #[U Z po,U .u64 ma,U Z ow,U Z ta,U Z ol,U Z ge,U Z ph,U Z ve,U Z si],.bool (R z).isSome]) W):=hd_ (fun W hW=>by have:=hW.lookR z;rw[hv]at this;exact this);clear hv;generalize (R z).isSome=bb at*;have HR0:Blk (w.alloc (.cells #[U Z 0,U .u64 0,U Z 0,U Z 0,U Z 0,U Z 0,U Z 0,U Z 0,U Z 0] 60)) w.heap.size 60 (rvC 0 0 0 0 0 0 0 0 0):=af rfl;replace HR0:=hd_ HR0;have HX0:=hd_ ((Chg.refl (fun _=>False) w).alloc (.cells #[U Z 0,U .u64 0,U Z 0,U Z 0,U Z 0,U Z 0,U Z 0,U Z 0,U Z 0] 60));replace HS0:=hd_ (HS0.out.keep HX0.out);go_in;go_upto_region 1 with fail;generalize (w.alloc (.cells #[U Z 0,U .u64 0,U Z 0,U Z 0,U Z 0,U Z 0,U Z 0,U Z 0,U Z 0] 60))=w1 at*;obtain⟨c0,c1⟩:=HS0.out.cells;have hl:=HL.out _ HS0.out;go_upto_region 4 with fail;clear c0 c1 hl;have HN:Blk (w1.alloc (.cells #[U Z po,U .u64 ma,U Z ow,U Z ta,U Z ol,U Z ge,U Z ph,U Z ve,U Z si] 60)) w1.heap.size 60 (rvC po ma ow ta ol ge ph ve si):=af rfl;replace HN:=hd_ HN;replace HX0:=hd_ (HX0.out.alloc (.cells #[U Z po,U .u64 ma,U Z ow,U Z ta,U Z ol,U Z ge,U Z ph,U Z ve,U Z si] 60));(try replace HR0:=hd_ (HR0.out.alloc (.cells #[U Z po,U .u64 ma,U Z ow,U Z ta,U Z ol,U Z ge,U Z ph,U Z ve,U Z si] 60)));replace HS0:=hd_ (HS0.out.keep ((Chg.refl (fun _=>False) w1).alloc (.cells #[U Z po,U .u64 ma,U Z ow,U Z ta,U Z ol,U Z ge,U Z ph,U Z ve,U Z si] 60)));generalize (w1.alloc (.cells #[U Z po,U .u64 ma,U Z ow,U Z ta,U Z ol,U Z ge,U Z ph,U Z ve,U Z si] 60))=w2 at*;obtain⟨y0,y1,y2,y3,y4,y5,y6,y7,y8⟩:=aa HN.out;obtain⟨x0,x1,x2,x3,x4,x5,x6,x7,x8⟩:=aa HR0.out;obtain⟨u0,u1,u2,u3,u4,u5,u6,u7,u8⟩:=ag HR0.out;obtain⟨RR,hcs⟩:=sp9 (aj HR0.out po ma ow ta ol ge ph ve si);have HF:=hd_ (ab HX0.out hcs (by omega));clear hcs HR0 HX0;go_wp2_with fail;exact AW (v:=.tuple #[.agg (rvC po ma ow ta ol ge ph ve si),.bool bb]) (by simp[results,Tryz.results106,go_sem,rvC,RR.out]) rfl ⟨rfl,HF.out⟩
theorem eJ{B:Nat}{w:World}{p bc br:Nat}{C:Int→Bool}{R:Int→Option RV}(h:CS B w p bc br C R):Calls Tryz.prog 55 #[.pointer (some ⟨p,0,none⟩)] w (t_ 60 9 RV.cs (aO R) w):=by
 have HS0:=hd_ h;clear h;obtain⟨i0,hi,hz0,hz1,hz2⟩:=info_parts rA;have HI:=cj4 hi hz0 hz1 hz2;clear hi hz0 hz1 hz2;go_in;go_wp2_with fail
 go_loopg [3,4,5,6,7] 32 (fun g s3 s4 s5 s6 i wr=>∃(j n c:Nat) (A:Option Addr),g=32-j∧j≤32∧i=U Z (j:Int)∧s3=.slice A n c∧Hid (n=(fF R j).length)∧Hid (wr.ownsRow w.heap.size 60 9 (.slice A n c) n ((fF R j).flatMap fun x=>x.cs.toList))∧Hid (Chg (fun _=>False) w wr))
 case atStart=>exact⟨0,0,0,none,rfl,by omega,rfl,rfl,hd_ rfl,hd_ il,hd_ (Chg.refl _ _)⟩
 case round=>
  obtain⟨j,n,c,A,rfl,hj,rfl,rfl,HN,HO,HX0⟩:=hrel;have hkl:=rz R j
  have hn32:n≤32:=by have:=HN.out;omega
  clear hkl;by_cases hlt:j<32
  ·have hr:=ff (HS0.out.keep HX0.out) (j:Int);have hk:=kz R j
   cases hRj:R (j:Int)with
   |none=>
    rw[hRj]at hr hk;simp only[Option.toList_none,List.append_nil]at hk;have hr:Calls _ _ _ _ (HB9 0 0 0 0 0 0 0 0 0 false wr):=hr;have HK:=hd_ hk;clear hk hRj;go_wp2_with fail;refine hr.mono ?_;rintro e w1 ⟨rfl,hc⟩;replace HX0:=hd_ (HX0.out.tr hc);replace HO:=hd_ (ay HO.out hc (fun _ _=>id));clear hr hc;go_upto_region 6 with fail;replace HX0:=hd_ (HX0.out.alloc (.cells #[U Z 0,U .u64 0,U Z 0,U Z 0,U Z 0,U Z 0,U Z 0,U Z 0,U Z 0] 60));replace HO:=hd_ (ay HO.out ((Chg.refl (fun _=>False) w1).alloc (.cells #[U Z 0,U .u64 0,U Z 0,U Z 0,U Z 0,U Z 0,U Z 0,U Z 0,U Z 0] 60)) (fun _ _=>id));generalize (w1.alloc (.cells #[U Z 0,U .u64 0,U Z 0,U Z 0,U Z 0,U Z 0,U Z 0,U Z 0,U Z 0] 60))=w2 at*;go_wp2_with fail;go_roundg (32-(j+1))
    case measure=>omega
    case rel=>exact⟨j+1,n,c,A,rfl,by omega,by go_num,rfl,hd_ (by rw[HK.out];exact HN.out),hd_ (by rw[HK.out];exact HO.out),HX0⟩
   |some x=>
    obtain⟨po,ma,ow,ta,ol,ge,ph,ve,si,rfl⟩:=bm x;rw[hRj]at hr hk;simp only[Option.toList_some]at hk;have hr:Calls _ _ _ _ (HB9 po ma ow ta ol ge ph ve si true wr):=hr;have HK:=hd_ hk;clear hk hRj;go_wp2_with fail;refine hr.mono ?_;rintro e w1 ⟨rfl,hc⟩;replace HX0:=hd_ (HX0.out.tr hc);replace HO:=hd_ (ay HO.out hc (fun _ _=>id));clear hr hc;go_upto_region 6 with fail;have HQ0:Blk (w1.alloc (.cells #[U Z po,U .u64 ma,U Z ow,U Z ta,U Z ol,U Z ge,U Z ph,U Z ve,U Z si] 60)) w1.heap.size 60 (rvC po ma ow ta ol ge ph ve si):=af rfl;replace HQ0:=hd_ HQ0;replace HX0:=hd_ (HX0.out.alloc (.cells #[U Z po,U .u64 ma,U Z ow,U Z ta,U Z ol,U Z ge,U Z ph,U Z ve,U Z si] 60));replace HO:=hd_ (ay HO.out ((Chg.refl (fun _=>False) w1).alloc (.cells #[U Z po,U .u64 ma,U Z ow,U Z ta,U Z ol,U Z ge,U Z ph,U Z ve,U Z si] 60)) (fun _ _=>id));generalize (w1.alloc (.cells #[U Z po,U .u64 ma,U Z ow,U Z ta,U Z ol,U Z ge,U Z ph,U Z ve,U Z si] 60))=w2 at*;obtain⟨y0,y1,y2,y3,y4,y5,y6,y7,y8⟩:=aa HQ0.out;have hown:=ay HO.out ((Chg.refl (fun _=>False) w2).alloc (.cells #[U Z po,U .u64 ma,U Z ow,U Z ta,U Z ol,U Z ge,U Z ph,U Z ve,U Z si] 60)) (fun _ _=>id)
    have hsz:w.heap.size≤(w2.alloc (.cells #[U Z po,U .u64 ma,U Z ow,U Z ta,U Z ol,U Z ge,U Z ph,U Z ve,U Z si] 60)).heap.size:=by have:=HX0.out.size;simp;omega
    have hxa:=HX0.out.alloc (.cells #[U Z po,U .u64 ma,U Z ow,U Z ta,U Z ol,U Z ge,U Z ph,U Z ve,U Z si] 60);obtain⟨hi,hz0,hz1,hz2⟩:=HI.out;go_wp2_with (at_builtin;refine dT _ rfl (.tmp 17) (.tmp 19) 54 rfl w.heap.size 60 i0 _ 9 72 Tryz.underlying54 hi hz0 hz1 hz2 rfl (by decide) (.slice A n c) n _ rfl hown ⟨w2.heap.size,0,none⟩ 1 1 [U Z po,U .u64 ma,U Z ow,U Z ta,U Z ol,U Z ge,U Z ph,U Z ve,U Z si] rfl rfl (gH rfl) (by simp[Aw]) (by unfold maxLen;omega) (by omega) hsz ?_;intro v3 w3 hown3 hg3 hat3;obtain⟨A3,c3,rfl,_,_⟩:=aV hown3;have HX3:=hd_ (kC (S:=fun _=>False) hxa hg3 hown (zG _));have HO3:=hd_ hown3;clear hown3 hg3 hat3 hown hxa);go_roundg (32-(j+1))
    case measure=>omega
    case rel=>
     refine⟨j+1,n+1,c3,A3,rfl,by omega,by go_num,rfl,hd_ ?_,hd_ ?_,HX3⟩
     ·rw[HK.out,zY,HN.out];rfl
     ·rw[HK.out,BS];exact HO3.out
  ·have:j=32:=by omega
   subst this;go_wp2_with fail;go_ret;exact⟨A,n,c,rfl,HN.out,HO.out,HX0.out⟩
theorem gg{w:World}{S:Nat→Prop}{ad:Addr}{m i:Nat}{l:List RV}{x:RV}(h:SR 9 RV.cs w S (some ad) m l)(hi:l[i]?=some x):
  w.cell? (ad.add (i*9))=some (U Z x.po)∧w.cell? ⟨(ad.add (i*9)).block,(ad.add (i*9)).off+1,none⟩=some (U .u64 x.ma)∧w.cell? ⟨(ad.add (i*9)).block,(ad.add (i*9)).off+2,none⟩=some (U Z x.ow)∧w.cell? ⟨(ad.add (i*9)).block,(ad.add (i*9)).off+3,none⟩=some (U Z x.ta)∧w.cell? ⟨(ad.add (i*9)).block,(ad.add (i*9)).off+4,none⟩=some (U Z x.ol)∧w.cell? ⟨(ad.add (i*9)).block,(ad.add (i*9)).off+5,none⟩=some (U Z x.ge)∧w.cell? ⟨(ad.add (i*9)).block,(ad.add (i*9)).off+6,none⟩=some (U Z x.ph)∧w.cell? ⟨(ad.add (i*9)).block,(ad.add (i*9)).off+7,none⟩=some (U Z x.ve)∧w.cell? ⟨(ad.add (i*9)).block,(ad.add (i*9)).off+8,none⟩=some (U Z x.si):=by
 have g0:=h.raw hi 0 (U Z x.po) rfl;have g1:=h.raw hi 1 (U .u64 x.ma) rfl;have g2:=h.raw hi 2 (U Z x.ow) rfl;have g3:=h.raw hi 3 (U Z x.ta) rfl;have g4:=h.raw hi 4 (U Z x.ol) rfl;have g5:=h.raw hi 5 (U Z x.ge) rfl;have g6:=h.raw hi 6 (U Z x.ph) rfl;have g7:=h.raw hi 7 (U Z x.ve) rfl;have g8:=h.raw hi 8 (U Z x.si) rfl;exact⟨g0,g1,g2,g3,g4,g5,g6,g7,g8⟩
theorem oL{w:World}{S:Nat→Prop}{ad:Addr}{m i:Nat}{l:List CV}{x:CV}(h:SR 10 CV.cs w S (some ad) m l)(hi:l[i]?=some x):
  w.cell? (ad.add (i*10))=some (U Z x.r.po)∧w.cell? ⟨(ad.add (i*10)).block,(ad.add (i*10)).off+1,none⟩=some (U .u64 x.r.ma)∧w.cell? ⟨(ad.add (i*10)).block,(ad.add (i*10)).off+2,none⟩=some (U Z x.r.ow)∧w.cell? ⟨(ad.add (i*10)).block,(ad.add (i*10)).off+3,none⟩=some (U Z x.r.ta)∧w.cell? ⟨(ad.add (i*10)).block,(ad.add (i*10)).off+4,none⟩=some (U Z x.r.ol)∧w.cell? ⟨(ad.add (i*10)).block,(ad.add (i*10)).off+5,none⟩=some (U Z x.r.ge)∧w.cell? ⟨(ad.add (i*10)).block,(ad.add (i*10)).off+6,none⟩=some (U Z x.r.ph)∧w.cell? ⟨(ad.add (i*10)).block,(ad.add (i*10)).off+7,none⟩=some (U Z x.r.ve)∧w.cell? ⟨(ad.add (i*10)).block,(ad.add (i*10)).off+8,none⟩=some (U Z x.r.si)∧w.cell? ⟨(ad.add (i*10)).block,(ad.add (i*10)).off+9,none⟩=some (U Z x.was):=by
 have g0:=h.raw hi 0 (U Z x.r.po) rfl;have g1:=h.raw hi 1 (U .u64 x.r.ma) rfl;have g2:=h.raw hi 2 (U Z x.r.ow) rfl;have g3:=h.raw hi 3 (U Z x.r.ta) rfl;have g4:=h.raw hi 4 (U Z x.r.ol) rfl;have g5:=h.raw hi 5 (U Z x.r.ge) rfl;have g6:=h.raw hi 6 (U Z x.r.ph) rfl;have g7:=h.raw hi 7 (U Z x.r.ve) rfl;have g8:=h.raw hi 8 (U Z x.r.si) rfl;have g9:=h.raw hi 9 (U Z x.was) rfl;exact⟨g0,g1,g2,g3,g4,g5,g6,g7,g8,g9⟩
theorem oM{α:Type}{p:α→Bool}:∀(l:List α) (j:Nat) (x:α),(∀i y,i<j→l[i]?=some y→p y=false)→l[j]?=some x→p x=true→l.find? p=some x
 |[],j,x,_,h,_=>by simp at h
 |y::l,0,x,_,h,hp=>by
  simp only[Aq,AP.injEq]at h;subst h;simp[hp]
 |y::l,j+1,x,h,hx,hp=>by
  have h0:=h 0 y (by omega) rfl;rw[List.find?_cons_of_neg (by rw[h0];decide)];exact oM l j x (fun i z hi hz=>h (i+1) z (by omega) (by simpa using hz)) (by simpa using hx) hp
theorem vY{α:Type}{p:α→Bool}{l:List α}(h:∀i y,i<l.length→l[i]?=some y→p y=false):l.find? p=none:=by
 rw[BN];intro x hx;obtain⟨i,hi⟩:=Bq hx;rw[h i x (zS.1 hi).1 hi];decide
theorem dI{α:Type}{l:List α}{j:Nat}{x:α}(h:l[j]?=some x):l.take (j+1)=l.take j++[x]:=by
 rw[List.take_add_one,h];rfl
theorem rB {B : Nat} {w : World} {p bc br : Nat} {C : Int → Bool} {R : Int → Option RV} (h : CS B w p bc br C R) (ma : Int) : Calls Tryz.prog 265 #[.pointer (some ⟨p, 0, none⟩), .int .u64 ma] w (HB (cw (ee R ma)) w) := by
  have HS0 := Lib.hid h
  clear h
  have HR0 : Blk (w.alloc (.cells #[.int .i64 0, .int .u64 0, .int .i64 0, .int .i64 0, .int .i64 0, .int .i64 0, .int .i64 0, .int .i64 0, .int .i64 0] 60)) w.heap.size 60 (rvC 0 0 0 0 0 0 0 0 0) := af rfl
  replace HR0 := Lib.hid HR0
  have HX0 := Lib.hid ((Chg.refl (fun _ => False) w).alloc (.cells #[.int .i64 0, .int .u64 0, .int .i64 0, .int .i64 0, .int .i64 0, .int .i64 0, .int .i64 0, .int .i64 0, .int .i64 0] 60))
  replace HS0 := Lib.hid (HS0.out.keep HX0.out)
  go_in
  go_upto_region 1 with fail
  generalize (w.alloc (.cells #[.int .i64 0, .int .u64 0, .int .i64 0, .int .i64 0, .int .i64 0, .int .i64 0, .int .i64 0, .int .i64 0, .int .i64 0] 60)) = w1 at *
  go_wp2_with fail
  refine (eJ HS0.out).mono ?_
  rintro e w2 ⟨A, m, c, rfl, hm, hown, hc⟩
  replace HX0 := Lib.hid (HX0.out.tr hc)
  replace HR0 := Lib.hid (HR0.out.chg hc id)
  have HL := Lib.hid (ft ga hown hm)
  have hm32 : m ≤ 32 := by have := dH R; omega
  have HM := Lib.hid hm
  clear hown hc hm
  go_wp2_with fail
  go_loopg [7, 11] m (fun g s7 i wr => ∃ (j : Nat), g = m - j ∧ j ≤ m ∧ i = .int .i64 (j : Int) ∧ Hid (∀ i y, i < j → (aO R)[i]? = some y → im ma y = false) ∧ Hid (Blk wr w.heap.size 60 (rvC 0 0 0 0 0 0 0 0 0)) ∧ Hid (Chg (fun _ => False) w2 wr) ∧ Hid (Chg (fun _ => False) w wr))
  case atStart => exact ⟨0, rfl, zP _, rfl, Lib.hid (fun i y hi => absurd hi (by omega)), HR0, Lib.hid (Chg.refl _ _), HX0⟩
  case round =>
    clear HR0 HX0
    obtain ⟨j, rfl, hj, rfl, HA, HR0, HX2, HX0⟩ := hrel
    by_cases hlt : j < m
    · have hh := HL.out.chg HX2.out (fun _ _ => id)
      obtain ⟨ad, rfl, -⟩ := hh.2 (by omega)
      have hjl : j < (aO R).length := by have := HM.out; omega
      have hx : (aO R)[j]? = some (aO R)[j] := zM hjl
      generalize (aO R)[j] = x at *
      obtain ⟨po, mx, ow, ta, ol, ge, ph, ve, si, rfl⟩ := bm x
      obtain ⟨z0, z1, z2, z3, z4, z5, z6, z7, z8⟩ := gg hh hx
      have HJ := Lib.hid hx
      clear hx hh hjl
      go_upto_region 4 with fail
      clear z0 z1 z2 z3 z4 z5 z6 z7 z8
      have HN : Blk (wr.alloc (.cells #[.int .i64 po, .int .u64 mx, .int .i64 ow, .int .i64 ta, .int .i64 ol, .int .i64 ge, .int .i64 ph, .int .i64 ve, .int .i64 si] 60)) wr.heap.size 60 (rvC po mx ow ta ol ge ph ve si) := af rfl
      replace HN := Lib.hid HN
      replace HX0 := Lib.hid (HX0.out.alloc (.cells #[.int .i64 po, .int .u64 mx, .int .i64 ow, .int .i64 ta, .int .i64 ol, .int .i64 ge, .int .i64 ph, .int .i64 ve, .int .i64 si] 60))
      replace HX2 := Lib.hid (HX2.out.alloc (.cells #[.int .i64 po, .int .u64 mx, .int .i64 ow, .int .i64 ta, .int .i64 ol, .int .i64 ge, .int .i64 ph, .int .i64 ve, .int .i64 si] 60))
      replace HR0 := Lib.hid (HR0.out.alloc (.cells #[.int .i64 po, .int .u64 mx, .int .i64 ow, .int .i64 ta, .int .i64 ol, .int .i64 ge, .int .i64 ph, .int .i64 ve, .int .i64 si] 60))
      generalize (wr.alloc (.cells #[.int .i64 po, .int .u64 mx, .int .i64 ow, .int .i64 ta, .int .i64 ol, .int .i64 ge, .int .i64 ph, .int .i64 ve, .int .i64 si] 60)) = w3 at *
      obtain ⟨y0, y1, y2, y3, y4, y5, y6, y7, y8⟩ := aa HN.out
      have HNO : im ma ⟨po, mx, ow, ta, ol, ge, ph, ve, si⟩ = false → Hid (∀ i y, i < j + 1 → (aO R)[i]? = some y → im ma y = false) := fun hf => Lib.hid (fun i y hi hy => by
        by_cases e : i < j
        · exact HA.out i y e hy
        · have : i = j := by omega
          subst this
          have := HJ.out
          rw [hy] at this
          injection this with this
          rw [this]
          exact hf)
      by_cases hp : ph = 3
      · subst hp
        have HNO2 := HNO (by simp [im])
        clear HNO
        go_wp2_with fail
        go_roundg (m - (j + 1))
        case measure => omega
        case rel => exact ⟨j + 1, rfl, by omega, by go_num, HNO2, HR0, HX2, HX0⟩
      · have tp : (ph == 3) = false := by simpa using hp
        have sp : (ph != 3) = true := by simpa using hp
        by_cases hq : mx = ma
        · have HF2 := Lib.hid (show cw (ee R ma) = (⟨po, mx, ow, ta, ol, ge, ph, ve, si⟩, true) from by
            unfold cw ee
            rw [oM _ j ⟨po, mx, ow, ta, ol, ge, ph, ve, si⟩ HA.out HJ.out (by rw [ip]; exact ⟨hp, hq⟩)]
            rfl)
          clear HNO hp
          subst hq
          go_upto_region 5 with fail
          clear y0 y1 y2 y3 y4 y5 y6 y7 y8 tp sp
          obtain ⟨y0, y1, y2, y3, y4, y5, y6, y7, y8⟩ := aa HN.out
          obtain ⟨x0, x1, x2, x3, x4, x5, x6, x7, x8⟩ := aa HR0.out
          obtain ⟨u0, u1, u2, u3, u4, u5, u6, u7, u8⟩ := ag HR0.out
          obtain ⟨RR, hcs⟩ := sp9 (aj HR0.out po mx ow ta ol ge ph ve si)
          have HF := Lib.hid (ab HX0.out hcs (by omega))
          clear hcs HR0 HX0
          go_wp2_with fail
          exact AW (v := .tuple #[.agg (rvC po mx ow ta ol ge ph ve si), .bool true]) (by simp [results, Tryz.results265, go_sem, rvC, RR.out]) rfl (by rw [HF2.out]; exact ⟨rfl, HF.out⟩)
        · have tq : (mx == ma) = false := by simpa using hq
          have HNO2 := HNO (by simp [im, hq])
          clear HNO hq hp
          go_wp2_with fail
          go_roundg (m - (j + 1))
          case measure => omega
          case rel => exact ⟨j + 1, rfl, by omega, by go_num, HNO2, HR0, HX2, HX0⟩
    · have : j = m := by omega
      subst this
      have HF2 := Lib.hid (show cw (ee R ma) = (z9, false) from by
        unfold cw ee
        rw [vY (fun i y hi hy => HA.out i y (by have := HM.out; omega) hy)]
        rfl)
      obtain ⟨x0, x1, x2, x3, x4, x5, x6, x7, x8⟩ := aa HR0.out
      obtain ⟨u0, u1, u2, u3, u4, u5, u6, u7, u8⟩ := ag HR0.out
      obtain ⟨RR, hcs⟩ := sp9 (aj HR0.out 0 0 0 0 0 0 0 0 0)
      have HF := Lib.hid (ab HX0.out hcs (by omega))
      clear hcs HR0 HX0
      go_wp2_with fail
      exact AW (v := .tuple #[.agg (rvC 0 0 0 0 0 0 0 0 0), .bool false]) (by simp [results, Tryz.results265, go_sem, rvC, RR.out]) rfl (by rw [HF2.out]; exact ⟨rfl, HF.out⟩)
theorem ua:(Tryz.prog.info? 188).map (fun i=>(i.zero,i.size,i.bytes))=some (some (.agg #[U Z 0,U .u64 0,U Z 0,U Z 0,U Z 0,U Z 0,U Z 0,U Z 0,U Z 0,U Z 0]),10,80):=by kernel_rfl
theorem nF{α β:Type}(q:α→Option β){l:List α}{j:Nat}{x:α}(h:l[j]?=some x):(l.take (j+1)).filterMap q=(l.take j).filterMap q++(q x).toList:=by
 rw[dI h,BP];cases hq:q x<;>simp[hq]
theorem kD{α β:Type}(q:α→Option β)(l:List α)(j:Nat):((l.take j).filterMap q).length≤j:=by
 have h1:=BO q (l.take j);rw[List.length_take]at h1;omega
theorem rC{B:Nat}{w:World}{p bc br:Nat}{C:Int→Bool}{R:Int→Option RV}(h:CS B w p bc br C R)(now span:Int)(hsp: -9223372036854775808≤span∧span≤9223372036854775807):Calls Tryz.prog 104 #[.pointer (some ⟨p,0,none⟩),U Z now,U Z span] w (t_ 188 10 CV.cs (dg R now span) w):=by
 have HRS:=hd_ (eJ h);have HLN:=hd_ (dH R);clear h;unfold dg;generalize aO R=l at*;obtain⟨i0,hi,hz0,hz1,hz2⟩:=info_parts ua;have HI:=cj4 hi hz0 hz1 hz2;clear hi hz0 hz1 hz2;go_in;go_wp2_with fail;refine HRS.out.mono ?_;rintro e w2 ⟨L,m,lc,rfl,hm,hown,hc⟩;have HC0:=hd_ hc;have HL:=hd_ (ft ga hown hm)
 have hm32:m≤32:=by have:=HLN.out;omega
 have HM:=hd_ hm;clear hown hc hm;go_wp2_with fail
 go_loopg [7,9,10,11,15] m (fun g s7 s9 s10 s11 i wr=>∃(j n c:Nat) (A:Option Addr),g=m-j∧j≤m∧i=U Z (j:Int)∧s7=.slice A n c∧Hid (n=((l.take j).filterMap (eB now span)).length)∧Hid (wr.ownsRow w2.heap.size 188 10 (.slice A n c) n (((l.take j).filterMap (eB now span)).flatMap fun x=>x.cs.toList))∧Hid (Chg (fun _=>False) w2 wr))
 case atStart=>exact⟨0,0,0,none,rfl,by omega,rfl,rfl,hd_ rfl,hd_ il,hd_ (Chg.refl _ _)⟩
 case round=>
  obtain⟨j,n,c,A,rfl,hj,rfl,rfl,HN,HO,HX2⟩:=hrel
  have hn32:n≤32:=by have h1:=kD (eB now span) l j;have h2:=HN.out;omega
  by_cases hlt:j<m
  ·have hh:=HL.out.chg HX2.out (fun _ _=>id);obtain⟨ad,rfl,-⟩:=hh.2 (by omega)
   have hjl:j<l.length:=by have:=HM.out;omega
   have hx:l[j]?=some l[j]:=zM hjl;generalize l[j]=x at*;obtain⟨po,ma,ow,ta,ol,ge,ph,ve,si,rfl⟩:=bm x;obtain⟨z0,z1,z2,z3,z4,z5,z6,z7,z8⟩:=gg hh hx;have hk:=nF (eB now span) hx;have hp:=fun W=>rq po ma ow ta ol ge ph ve si now span W hsp;obtain⟨y,b,hyb⟩:∃y b,lt9 ⟨po,ma,ow,ta,ol,ge,ph,ve,si⟩ now span=(y,b):=⟨_,_,rfl⟩;obtain⟨a0,a1,a2,a3,a4,a5,a6,a7,a8,rfl⟩:=bm y;rw[hyb]at hp;have HP:Hid (∀W,Calls _ _ _ W (HB9 a0 a1 a2 a3 a4 a5 a6 a7 a8 b W)):=hd_ hp
   have hv:eB now span ⟨po,ma,ow,ta,ol,ge,ph,ve,si⟩=if b=true then some ⟨⟨a0,a1,a2,a3,a4,a5,a6,a7,a8⟩,ve⟩else none:=by unfold eB;rw[hyb]
   rw[hv]at hk;have HK:=hd_ hk;clear hx hh hjl hp hyb hv hk;go_upto_region 5 with fail;clear z0 z1 z2 z3 z4 z5 z6 z7 z8;have HQ0:Blk (wr.alloc (.cells #[U Z po,U .u64 ma,U Z ow,U Z ta,U Z ol,U Z ge,U Z ph,U Z ve,U Z si] 60)) wr.heap.size 60 (rvC po ma ow ta ol ge ph ve si):=af rfl;replace HQ0:=hd_ HQ0;replace HX2:=hd_ (HX2.out.alloc (.cells #[U Z po,U .u64 ma,U Z ow,U Z ta,U Z ol,U Z ge,U Z ph,U Z ve,U Z si] 60));replace HO:=hd_ (ay HO.out ((Chg.refl (fun _=>False) wr).alloc (.cells #[U Z po,U .u64 ma,U Z ow,U Z ta,U Z ol,U Z ge,U Z ph,U Z ve,U Z si] 60)) (fun _ _=>id));generalize (wr.alloc (.cells #[U Z po,U .u64 ma,U Z ow,U Z ta,U Z ol,U Z ge,U Z ph,U Z ve,U Z si] 60))=w3 at*;obtain⟨y0,y1,y2,y3,y4,y5,y6,y7,y8⟩:=aa HQ0.out;go_wp2_with fail;refine(HP.out _).mono ?_;rintro e w4 ⟨rfl,hc⟩;replace HX2:=hd_ (HX2.out.tr hc);replace HQ0:=hd_ (HQ0.out.chg hc id);replace HO:=hd_ (ay HO.out hc (fun _ _=>id));clear hc y0 y1 y2 y3 y4 y5 y6 y7 y8;go_upto_region 6 with fail;have HN0:Blk (w4.alloc (.cells #[U Z a0,U .u64 a1,U Z a2,U Z a3,U Z a4,U Z a5,U Z a6,U Z a7,U Z a8] 60)) w4.heap.size 60 (rvC a0 a1 a2 a3 a4 a5 a6 a7 a8):=af rfl;replace HN0:=hd_ HN0;replace HX2:=hd_ (HX2.out.alloc (.cells #[U Z a0,U .u64 a1,U Z a2,U Z a3,U Z a4,U Z a5,U Z a6,U Z a7,U Z a8] 60));replace HQ0:=hd_ (HQ0.out.alloc (.cells #[U Z a0,U .u64 a1,U Z a2,U Z a3,U Z a4,U Z a5,U Z a6,U Z a7,U Z a8] 60));replace HO:=hd_ (ay HO.out ((Chg.refl (fun _=>False) w4).alloc (.cells #[U Z a0,U .u64 a1,U Z a2,U Z a3,U Z a4,U Z a5,U Z a6,U Z a7,U Z a8] 60)) (fun _ _=>id));generalize (w4.alloc (.cells #[U Z a0,U .u64 a1,U Z a2,U Z a3,U Z a4,U Z a5,U Z a6,U Z a7,U Z a8] 60))=w5 at*
   cases b with
   |false=>
    rw[if_neg (by decide)]at HK;go_wp2_with fail;go_roundg (m-(j+1))
    case measure=>omega
    case rel=>exact⟨j+1,n,c,A,rfl,by omega,by go_num,rfl,hd_ (by rw[HK.out];simpa using HN.out),hd_ (by rw[HK.out];simpa using HO.out),HX2⟩
   |true=>
    rw[if_pos rfl]at HK;obtain⟨x0,x1,x2,x3,x4,x5,x6,x7,x8⟩:=aa HN0.out;obtain⟨-,-,-,-,-,-,-,q7,-⟩:=aa HQ0.out;have hown:=ay HO.out ((Chg.refl (fun _=>False) w5).alloc (.cells #[U Z a0,U .u64 a1,U Z a2,U Z a3,U Z a4,U Z a5,U Z a6,U Z a7,U Z a8,U Z ve] 188)) (fun _ _=>id)
    have hsz:w2.heap.size≤(w5.alloc (.cells #[U Z a0,U .u64 a1,U Z a2,U Z a3,U Z a4,U Z a5,U Z a6,U Z a7,U Z a8,U Z ve] 188)).heap.size:=by have:=HX2.out.size;simp;omega
    have hxb:=HX2.out.alloc (.cells #[U Z a0,U .u64 a1,U Z a2,U Z a3,U Z a4,U Z a5,U Z a6,U Z a7,U Z a8,U Z ve] 188);obtain⟨hi,hz0,hz1,hz2⟩:=HI.out;go_wp2_with (at_builtin;refine dT _ rfl (.tmp 27) (.tmp 32) 189 rfl w2.heap.size 188 i0 _ 10 80 Tryz.underlying189 hi hz0 hz1 hz2 rfl (by decide) (.slice A n c) n _ rfl hown ⟨w5.heap.size,0,none⟩ 1 1 [U Z a0,U .u64 a1,U Z a2,U Z a3,U Z a4,U Z a5,U Z a6,U Z a7,U Z a8,U Z ve] rfl rfl (gH rfl) (by simp[Aw]) (by unfold maxLen;omega) (by omega) hsz ?_;intro v6 w6 hown6 hg6 hat6;obtain⟨A6,c6,rfl,_,_⟩:=aV hown6;have HX6:=hd_ (kC (S:=fun _=>False) hxb hg6 hown (zG _));have HO6:=hd_ hown6;clear hown6 hg6 hat6 hown hxb);go_roundg (m-(j+1))
    case measure=>omega
    case rel=>
     refine⟨j+1,n+1,c6,A6,rfl,by omega,by go_num,rfl,hd_ ?_,hd_ ?_,HX6⟩
     ·rw[HK.out,zY,HN.out];rfl
     ·rw[HK.out,BS];exact HO6.out
  ·have:j=m:=by omega
   subst this;have HE:=hd_ (show l.take j=l from Ax (by have:=HM.out;omega));go_wp2_with fail;go_ret;exact⟨A,n,c,rfl,by have:=HN.out;rw[HE.out]at this;exact this,by have:=HO.out;rw[HE.out]at this;exact cT this HC0.out.size,HC0.out.tr HX2.out⟩
theorem fg{w:World}{S:Nat→Prop}{ad:Addr}{n j:Nat}{l:List Int}{x:Int}(h:Rds w S (some ad) n (ics l))(hi:l[j]?=some x):w.cell? (ad.add j)=some (U Z x):=by
 have hl:j<l.length:=(zS.1 hi).1;obtain⟨ad',e,_,_,hc⟩:=h.2 (by have:=h.1;rw[eZ]at this;omega);injection e with e;subst e;exact hc j _ (by simp[ics,hi])
def lh(l:List Int)(w:World)(e:Ending)(w':World):Prop:=∃A n c,e=.returned (.slice A n c)∧n=l.length∧Rds w' (fun k=>w.heap.size≤k) A n (ics l)∧Chg (fun _=>False) w w'
theorem kE(po ma ow ta ol ge ph ve si:Int)(w:World):Calls Tryz.prog 243 #[.agg #[U Z po,U .u64 ma,U Z ow,U Z ta,U Z ol,U Z ge,U Z ph,U Z ve,U Z si]] w (lh [ow,ta,ol] w):=by
 have HQ0:Blk (w.alloc (.cells #[U Z po,U .u64 ma,U Z ow,U Z ta,U Z ol,U Z ge,U Z ph,U Z ve,U Z si] 60)) w.heap.size 60 (rvC po ma ow ta ol ge ph ve si):=af rfl;replace HQ0:=hd_ HQ0;have HX0:=hd_ ((Chg.refl (fun _=>False) w).alloc (.cells #[U Z po,U .u64 ma,U Z ow,U Z ta,U Z ol,U Z ge,U Z ph,U Z ve,U Z si] 60));go_in;go_upto_region 1 with fail;generalize (w.alloc (.cells #[U Z po,U .u64 ma,U Z ow,U Z ta,U Z ol,U Z ge,U Z ph,U Z ve,U Z si] 60))=w1 at*;obtain⟨y0,y1,y2,y3,y4,y5,y6,y7,y8⟩:=aa HQ0.out;have HR:=hd_ (iO w1 3 #[U Z ow,U Z ta,U Z ol] (0,0));have HX1:=hd_ (HX0.out.alloc (.cells #[U Z ow,U Z ta,U Z ol] 3));have HZ:=hd_ HX0.out.size;go_wp2_with fail;go_ret;exact⟨_,_,_,rfl,rfl,HR.out.mono (fun k hk=>by have:=HZ.out;omega),HX1.out⟩
theorem pD(A:Option Addr)(n c:Nat)(l:List Int)(v:Int)(w:World)(S:Nat→Prop)(h:Rds w S A n (ics l))(hn:n≤9223372036854775807):Calls Tryz.prog 267 #[.slice A n c,U Z v] w fun e w'=>∃z:Int,e=.returned (U Z z)∧decide (0≤z)=l.contains v∧Chg (fun _=>False) w w':=by
 have HH:=hd_ h
 have hl:n=l.length:=by have:=h.1;rw[eZ]at this;exact this.symm
 have HL:=hd_ hl;clear h hl;go_in;go_wp2_with fail
 go_loopg [5,8] n (fun g s5 i wr=>∃j:Nat,g=n-j∧j≤n∧i=U Z (j:Int)∧Hid (∀(i:Nat) (x:Int),i<j→l[i]?=some x→x≠v)∧Hid (Chg (fun _=>False) w wr))
 case atStart=>exact⟨0,rfl,zP _,rfl,hd_ (fun i x hi=>absurd hi (by omega)),hd_ (Chg.refl _ _)⟩
 case round=>
  obtain⟨j,rfl,hj,rfl,HA,HX⟩:=hrel;by_cases hlt:j<n
  ·have hh:=HH.out.chg HX.out (fun _ _=>id);obtain⟨ad,rfl,-⟩:=hh.2 (by omega)
   have hjl:j<l.length:=by have:=HL.out;omega
   have hx:l[j]?=some l[j]:=zM hjl;generalize l[j]=x at*;have z0:=fg hh hx;have HJ:=hd_ hx;clear hx hh hjl;by_cases he:v=x
   ·subst he;go_wp2_with fail;go_ret;refine⟨(j:Int),rfl,?_,HX.out⟩;rw[show l.contains v=true from by simpa using Be HJ.out];simp
   ·have te:(v==x)=false:=by simpa using he
    go_wp2_with fail;go_roundg (n-(j+1))
    case measure=>omega
    case rel=>
     refine⟨j+1,rfl,by omega,by go_num,hd_ (fun i y hi hy=>?_),HX⟩;by_cases e:i<j
     ·exact HA.out i y e hy
     ·have:i=j:=by omega
      subst this;have:=HJ.out;rw[hy]at this;injection this with this;subst this;exact fun e=>he e.symm
  ·have:j=n:=by omega
   subst this;go_wp2_with fail;go_ret;refine⟨-1,rfl,?_,HX.out⟩
   have e1:l.contains v=false:=by
    rw[Bool.eq_false_iff];intro hc
    have hm:v∈l:=by simpa using hc
    obtain⟨i,hi⟩:=Bq hm;have:=(zS.1 hi).1;have:=HL.out;exact HA.out i v (by omega) hi rfl
   rw[e1];rfl
theorem mh(A:Option Addr)(n c:Nat)(l:List Int)(v:Int)(w:World)(S:Nat→Prop)(h:Rds w S A n (ics l))(hn:n≤9223372036854775807):Calls Tryz.prog 242 #[.slice A n c,U Z v] w fun e w'=>e=.returned (.bool (l.contains v))∧Chg (fun _=>False) w w':=by
 have HK:=hd_ (pD A n c l v w S h hn);clear h;go_in;go_wp2_with fail;refine HK.out.mono ?_;rintro e w1 ⟨z,rfl,hz,hc⟩;have HZ:=hd_ hz;have HC:=hd_ hc;clear hz hc;go_wp2_with fail;go_ret;exact⟨aE HZ.out,HC.out⟩
theorem pE(po ma ow ta ol ge ph ve si c:Int)(q:Nat)(w:World)(h:Blk w q 3 #[U Z c]):Calls Tryz.prog 241 #[.agg #[U Z po,U .u64 ma,U Z ow,U Z ta,U Z ol,U Z ge,U Z ph,U Z ve,U Z si],.pointer (some ⟨q,0,none⟩)] w fun e w'=>e=.returned (.bool (dx c ⟨po,ma,ow,ta,ol,ge,ph,ve,si⟩))∧Chg (fun _=>False) w w':=by
 have HQ0:Blk (w.alloc (.cells #[U Z po,U .u64 ma,U Z ow,U Z ta,U Z ol,U Z ge,U Z ph,U Z ve,U Z si] 60)) w.heap.size 60 (rvC po ma ow ta ol ge ph ve si):=af rfl;replace HQ0:=hd_ HQ0;have HX0:=hd_ ((Chg.refl (fun _=>False) w).alloc (.cells #[U Z po,U .u64 ma,U Z ow,U Z ta,U Z ol,U Z ge,U Z ph,U Z ve,U Z si] 60));have HB0:=hd_ (h.alloc (.cells #[U Z po,U .u64 ma,U Z ow,U Z ta,U Z ol,U Z ge,U Z ph,U Z ve,U Z si] 60));clear h;go_in;go_wp2_with fail;generalize (w.alloc (.cells #[U Z po,U .u64 ma,U Z ow,U Z ta,U Z ol,U Z ge,U Z ph,U Z ve,U Z si] 60))=w1 at*
 have HKEEP:Hid (∀W:World,Chg (fun _=>False) w1 W→(W.cell? ⟨w.heap.size,0,none⟩=some (U Z po)∧W.cell? ⟨w.heap.size,1,none⟩=some (U .u64 ma)∧W.cell? ⟨w.heap.size,2,none⟩=some (U Z ow)∧W.cell? ⟨w.heap.size,3,none⟩=some (U Z ta)∧W.cell? ⟨w.heap.size,4,none⟩=some (U Z ol)∧W.cell? ⟨w.heap.size,5,none⟩=some (U Z ge)∧W.cell? ⟨w.heap.size,6,none⟩=some (U Z ph)∧W.cell? ⟨w.heap.size,7,none⟩=some (U Z ve)∧W.cell? ⟨w.heap.size,8,none⟩=some (U Z si)∧W.cell? ⟨q,0,none⟩=some (U Z c))):=hd_ (fun W hw=>by
  obtain⟨x0,x1,x2,x3,x4,x5,x6,x7,x8⟩:=aa (HQ0.out.chg hw id);have xb:=(HB0.out.chg hw id).cell 0;simp only[Ap,Aq]at xb
  exact⟨x0,x1,x2,x3,x4,x5,x6,x7,x8,xb⟩)
 have HXA:=hd_ (Chg.refl (fun _=>False) w1).drew;have HNA:=hd_ (kE po ma ow ta ol ge ph ve si w1.drew);obtain⟨y0,y1,y2,y3,y4,y5,y6,y7,y8,yb⟩:=HKEEP.out _ HXA.out
 go_region_held3 (fun w'=>w'.cell? ⟨w.heap.size,0,none⟩=some (U Z po)∧w'.cell? ⟨w.heap.size,1,none⟩=some (U .u64 ma)∧w'.cell? ⟨w.heap.size,2,none⟩=some (U Z ow)∧w'.cell? ⟨w.heap.size,3,none⟩=some (U Z ta)∧w'.cell? ⟨w.heap.size,4,none⟩=some (U Z ol)∧w'.cell? ⟨w.heap.size,5,none⟩=some (U Z ge)∧w'.cell? ⟨w.heap.size,6,none⟩=some (U Z ph)∧w'.cell? ⟨w.heap.size,7,none⟩=some (U Z ve)∧w'.cell? ⟨w.heap.size,8,none⟩=some (U Z si)∧w'.cell? ⟨q,0,none⟩=some (U Z c))
  (first|with_reducible exact HKEEP.out _ HXA.out|with_reducible exact HKEEP.out _ HXB.out|with_reducible exact HKEEP.out _ HXC.out|fail)
  (first
   |(go_at_call 243;(with_reducible refine(HNA.out).mono ?_);rintro e wz ⟨SA,SN,SC,rfl,rfl,hrd,hc⟩;(replace hrd:Rds wz _ SA 3 _:=hrd);have HXB:=hd_ (HXA.out.tr hc);have HCN:=hd_ (show Calls _ _ _ _ (fun e w'=>e=.returned (.bool (dx c ⟨po,ma,ow,ta,ol,ge,ph,ve,si⟩))∧Chg (fun _=>False) wz w')from mh SA 3 SC [ow,ta,ol] c wz _ hrd (by decide));clear hc hrd)
   |(go_at_call 242;(with_reducible refine(HCN.out).mono ?_);rintro e wy ⟨rfl,hc⟩;have HXC:=hd_ (HXB.out.tr hc);clear hc)
   |fail)
 all_goals
  go_wp2_with fail;go_ret;exact⟨rfl,HX0.out.tr HXC.out⟩
theorem pF(A:Option Addr)(n c:Nat)(l:List RV)(q:Nat)(cc:Int)(w:World)(hq:Blk w q 3 #[U Z cc])(S:Nat→Prop)(h:SR 9 RV.cs w S A n l)(hn:n≤9223372036854775807):Calls Tryz.prog 266 #[.slice A n c,.func (.func 241) #[] #[.pointer (some ⟨q,0,none⟩)]] w fun e w'=>∃z:Int,e=.returned (U Z z)∧decide (0≤z)=l.any (dx cc)∧Chg (fun _=>False) w w':=by
 have HH:=hd_ h;have hl:n=l.length:=h.1;have HL:=hd_ hl;have HQ:=hd_ hq;clear hq;clear h hl;go_in;go_wp2_with fail
 go_loopg [5,8] n (fun g s5 i wr=>∃j:Nat,g=n-j∧j≤n∧i=U Z (j:Int)∧Hid (∀(i:Nat) x,i<j→l[i]?=some x→(dx cc) x=false)∧Hid (Chg (fun _=>False) w wr))
 case atStart=>exact⟨0,rfl,zP _,rfl,hd_ (fun i x hi=>absurd hi (by omega)),hd_ (Chg.refl _ _)⟩
 case round=>
  obtain⟨j,rfl,hj,rfl,HA,HX⟩:=hrel;by_cases hlt:j<n
  ·have hh:=HH.out.chg HX.out (fun _ _=>id);obtain⟨ad,rfl,-⟩:=hh.2 (by omega)
   have hjl:j<l.length:=by have:=HL.out;omega
   have hx:l[j]?=some l[j]:=zM hjl;generalize l[j]=x at*;obtain⟨po,ma,ow,ta,ol,ge,ph,ve,si,rfl⟩:=bm x;obtain⟨z0,z1,z2,z3,z4,z5,z6,z7,z8⟩:=gg hh hx;have hk:=pE po ma ow ta ol ge ph ve si cc q wr (HQ.out.chg HX.out id);have HJ:=hd_ hx;clear hx hh hjl
   cases hb:(dx cc) ⟨po,ma,ow,ta,ol,ge,ph,ve,si⟩with
   |true=>
    rw[hb]at hk;have HK:=hd_ hk;have HBB:=hd_ hb;clear hk hb;go_wp2_with fail;refine HK.out.mono ?_;rintro e w1 ⟨rfl,hc1⟩;replace HX:=hd_ (HX.out.tr hc1);clear hc1;go_wp2_with fail;go_ret;refine⟨(j:Int),rfl,?_,HX.out⟩;rw[show l.any (dx cc)=true from BT.2 ⟨_,Be HJ.out,HBB.out⟩];simp
   |false=>
    rw[hb]at hk;have HK:=hd_ hk;have HBB:=hd_ hb;clear hk hb;go_wp2_with fail;refine HK.out.mono ?_;rintro e w1 ⟨rfl,hc1⟩;replace HX:=hd_ (HX.out.tr hc1);clear hc1;go_wp2_with fail;go_roundg (n-(j+1))
    case measure=>omega
    case rel=>
     refine⟨j+1,rfl,by omega,by go_num,hd_ (fun i y hi hy=>?_),HX⟩;by_cases e:i<j
     ·exact HA.out i y e hy
     ·have:i=j:=by omega
      subst this;have:=HJ.out;rw[hy]at this;injection this with this;subst this;exact HBB.out
  ·have:j=n:=by omega
   subst this;go_wp2_with fail;go_ret;refine⟨-1,rfl,?_,HX.out⟩
   have e1:l.any (dx cc)=false:=by
    rw[BI];intro x hx;obtain⟨i,hi⟩:=Bq hx;have:=(zS.1 hi).1;have:=HL.out;rw[HA.out i x (by omega) hi];decide
   rw[e1];rfl
theorem mj(A:Option Addr)(n c:Nat)(l:List RV)(q:Nat)(cc:Int)(w:World)(hq:Blk w q 3 #[U Z cc])(S:Nat→Prop)(h:SR 9 RV.cs w S A n l)(hn:n≤9223372036854775807):Calls Tryz.prog 240 #[.slice A n c,.func (.func 241) #[] #[.pointer (some ⟨q,0,none⟩)]] w fun e w'=>e=.returned (.bool (l.any (dx cc)))∧Chg (fun _=>False) w w':=by
 have HK:=hd_ (pF A n c l q cc w hq S h hn);clear h;go_in;go_wp2_with fail;refine HK.out.mono ?_;rintro e w1 ⟨z,rfl,hz,hc⟩;have HZ:=hd_ hz;have HC:=hd_ hc;clear hz hc;go_wp2_with fail;go_ret;exact⟨aE HZ.out,HC.out⟩
theorem rD{B:Nat}{w:World}{p bc br:Nat}{C:Int→Bool}{R:Int→Option RV}(h:CS B w p bc br C R)(z:Int):Calls Tryz.prog 209 #[.pointer (some ⟨p,0,none⟩),U Z z] w fun e w'=>e=.returned (.bool (jr R z))∧Chg (fun _=>False) w w':=by
 have hmf:∀(fn:Fn) (first cap:Array Value) (w:World),(Instr.makeFunc fn first cap).run Tryz.prog w=.ok (.func fn first cap) w:=fun _ _ _ _=>rfl;have HB0:Blk (w.alloc (.cells #[U Z z] 3)) w.heap.size 3 #[U Z z]:=af rfl;replace HB0:=hd_ HB0;have HX0:=hd_ ((Chg.refl (fun _=>False) w).alloc (.cells #[U Z z] 3));have HS0:=hd_ (h.keep HX0.out);clear h;have HU:=hd_ (show jr R z=(aO R).any (dx z)from rfl);go_in;go_upto_region 1 with fail;generalize (w.alloc (.cells #[U Z z] 3))=w1 at*;go_wp2_with fail;refine(eJ HS0.out).mono ?_;rintro e w2 ⟨A,m,c,rfl,hm,hown,hc⟩;have HXX:=hd_ hc;have HC:=hd_ (mj A m c (aO R) w.heap.size z w2 (HB0.out.chg hc id) _ (ft ga hown hm) (by have:=dH R;omega));clear hm hown hc;go_wp2_with fail;refine HC.out.mono ?_;rintro e w3 ⟨rfl,hc⟩;have HX3:=hd_ (HX0.out.trans (HXX.out.tr hc) (fun _ _ e=>e));clear hc;go_wp2_with fail;go_ret;exact⟨aE HU.out.symm,HX3.out⟩
theorem nG{B:Nat}{w:World}{p bc br:Nat}{C:Int→Bool}{R:Int→Option RV}(n:Int)(q:Nat)(h:CS B w p bc br C R)(hq:Blk w q 96 #[.pointer (some ⟨p,0,none⟩)]):Calls Tryz.prog 264 #[U Z n,.pointer (some ⟨q,0,none⟩)] w fun e w'=>e=.returned (.bool (de C n))∧Chg (fun _=>False) w w':=by
 have c0:=hq.cell 0;simp only[Ap,Aq]at c0;have HHS:=hd_ (ir h n);clear h hq;by_cases hn:n= -1
 ·subst hn;have HV:=hd_ (show de C (-1)=false from by simp[de]);go_in;go_wp2_with fail;go_ret;exact⟨aE HV.out.symm,Chg.refl _ _⟩
 ·have tn:(n== -1)=false:=by simpa using hn
  have sn:(n != -1)=true:=by simpa using hn
  have HV:=hd_ (show de C n= !C n from by simp[de,hn]);clear hn;go_in;go_wp2_with fail;refine HHS.out.mono ?_;rintro e w1 ⟨rfl,rfl⟩;go_wp2_with fail;go_ret;exact⟨aE HV.out.symm,Chg.refl _ _⟩
theorem pG(A:Option Addr)(n c:Nat)(l:List Int){B:Nat}{p bc br:Nat}{C:Int→Bool}{R:Int→Option RV}(q:Nat)(w:World)(hs:CS B w p bc br C R)(hq:Blk w q 96 #[.pointer (some ⟨p,0,none⟩)])(S:Nat→Prop)(h:Rds w S A n (ics l))(hn:n≤9223372036854775807):Calls Tryz.prog 278 #[.slice A n c,.func (.func 264) #[] #[.pointer (some ⟨q,0,none⟩)]] w fun e w'=>∃z:Int,e=.returned (U Z z)∧decide (0≤z)=l.any (de C)∧Chg (fun _=>False) w w':=by
 have HH:=hd_ h
 have hl:n=l.length:=by have:=h.1;rw[eZ]at this;exact this.symm
 have HL:=hd_ hl;have HS:=hd_ hs;have HQ:=hd_ hq;clear hq hs;clear h hl;go_in;go_wp2_with fail
 go_loopg [5,8] n (fun g s5 i wr=>∃j:Nat,g=n-j∧j≤n∧i=U Z (j:Int)∧Hid (∀(i:Nat) x,i<j→l[i]?=some x→(de C) x=false)∧Hid (Chg (fun _=>False) w wr))
 case atStart=>exact⟨0,rfl,zP _,rfl,hd_ (fun i x hi=>absurd hi (by omega)),hd_ (Chg.refl _ _)⟩
 case round=>
  obtain⟨j,rfl,hj,rfl,HA,HX⟩:=hrel;by_cases hlt:j<n
  ·have hh:=HH.out.chg HX.out (fun _ _=>id);obtain⟨ad,rfl,-⟩:=hh.2 (by omega)
   have hjl:j<l.length:=by have:=HL.out;omega
   have hx:l[j]?=some l[j]:=zM hjl;generalize l[j]=x at*;have z0:=fg hh hx;have hk:=nG x q (HS.out.keep HX.out) (HQ.out.chg HX.out id);have HJ:=hd_ hx;clear hx hh hjl
   cases hb:(de C) x with
   |true=>
    rw[hb]at hk;have HK:=hd_ hk;have HBB:=hd_ hb;clear hk hb;go_wp2_with fail;refine HK.out.mono ?_;rintro e w1 ⟨rfl,hc1⟩;replace HX:=hd_ (HX.out.tr hc1);clear hc1;go_wp2_with fail;go_ret;refine⟨(j:Int),rfl,?_,HX.out⟩;rw[show l.any (de C)=true from BT.2 ⟨_,Be HJ.out,HBB.out⟩];simp
   |false=>
    rw[hb]at hk;have HK:=hd_ hk;have HBB:=hd_ hb;clear hk hb;go_wp2_with fail;refine HK.out.mono ?_;rintro e w1 ⟨rfl,hc1⟩;replace HX:=hd_ (HX.out.tr hc1);clear hc1;go_wp2_with fail;go_roundg (n-(j+1))
    case measure=>omega
    case rel=>
     refine⟨j+1,rfl,by omega,by go_num,hd_ (fun i y hi hy=>?_),HX⟩;by_cases e:i<j
     ·exact HA.out i y e hy
     ·have:i=j:=by omega
      subst this;have:=HJ.out;rw[hy]at this;injection this with this;subst this;exact HBB.out
  ·have:j=n:=by omega
   subst this;go_wp2_with fail;go_ret;refine⟨-1,rfl,?_,HX.out⟩
   have e1:l.any (de C)=false:=by
    rw[BI];intro x hx;obtain⟨i,hi⟩:=Bq hx;have:=(zS.1 hi).1;have:=HL.out;rw[HA.out i x (by omega) hi];decide
   rw[e1];rfl
theorem mm(A:Option Addr)(n c:Nat)(l:List Int){B:Nat}{p bc br:Nat}{C:Int→Bool}{R:Int→Option RV}(q:Nat)(w:World)(hs:CS B w p bc br C R)(hq:Blk w q 96 #[.pointer (some ⟨p,0,none⟩)])(S:Nat→Prop)(h:Rds w S A n (ics l))(hn:n≤9223372036854775807):Calls Tryz.prog 263 #[.slice A n c,.func (.func 264) #[] #[.pointer (some ⟨q,0,none⟩)]] w fun e w'=>e=.returned (.bool (l.any (de C)))∧Chg (fun _=>False) w w':=by
 have HK:=hd_ (pG A n c l q w hs hq S h hn);clear h;go_in;go_wp2_with fail;refine HK.out.mono ?_;rintro e w1 ⟨z,rfl,hz,hc⟩;have HZ:=hd_ hz;have HC:=hd_ hc;clear hz hc;go_wp2_with fail;go_ret;exact⟨aE HZ.out,HC.out⟩
theorem pH{B:Nat}{w:World}{p bc br:Nat}{C:Int→Bool}{R:Int→Option RV}(h:CS B w p bc br C R)(po ma ow ta ol ge ph ve si:Int):Calls Tryz.prog 237 #[.pointer (some ⟨p,0,none⟩),.agg #[U Z po,U .u64 ma,U Z ow,U Z ta,U Z ol,U Z ge,U Z ph,U Z ve,U Z si]] w fun e w'=>e=.returned (.bool (ef C ⟨po,ma,ow,ta,ol,ge,ph,ve,si⟩))∧Chg (fun _=>False) w w':=by
 have hmf:∀(fn:Fn) (first cap:Array Value) (w:World),(Instr.makeFunc fn first cap).run Tryz.prog w=.ok (.func fn first cap) w:=fun _ _ _ _=>rfl;have HB0:Blk ((w.alloc (.cells #[.pointer (some ⟨p,0,none⟩)] 96)).alloc (.cells #[U Z po,U .u64 ma,U Z ow,U Z ta,U Z ol,U Z ge,U Z ph,U Z ve,U Z si] 60)) w.heap.size 96 #[.pointer (some ⟨p,0,none⟩)]:=Blk.alloc (af rfl) _;replace HB0:=hd_ HB0;have HQ0:Blk ((w.alloc (.cells #[.pointer (some ⟨p,0,none⟩)] 96)).alloc (.cells #[U Z po,U .u64 ma,U Z ow,U Z ta,U Z ol,U Z ge,U Z ph,U Z ve,U Z si] 60)) (w.heap.size+1) 60 (rvC po ma ow ta ol ge ph ve si):=af (by simp);replace HQ0:=hd_ HQ0;have HX0:=hd_ (((Chg.refl (fun _=>False) w).alloc (.cells #[.pointer (some ⟨p,0,none⟩)] 96)).alloc (.cells #[U Z po,U .u64 ma,U Z ow,U Z ta,U Z ol,U Z ge,U Z ph,U Z ve,U Z si] 60));have HS0:=hd_ (h.keep HX0.out);clear h;have HU:=hd_ (show ef C ⟨po,ma,ow,ta,ol,ge,ph,ve,si⟩=[ow,ta,ol].any (de C)from rfl);go_in;go_upto_region 1 with fail;generalize ((w.alloc (.cells #[.pointer (some ⟨p,0,none⟩)] 96)).alloc (.cells #[U Z po,U .u64 ma,U Z ow,U Z ta,U Z ol,U Z ge,U Z ph,U Z ve,U Z si] 60))=w1 at*;obtain⟨y0,y1,y2,y3,y4,y5,y6,y7,y8⟩:=aa HQ0.out;go_wp2_with fail;refine(kE po ma ow ta ol ge ph ve si w1).mono ?_;rintro e w2 ⟨A,n,c,rfl,rfl,hrd,hc⟩;have HXX:=hd_ hc;have HC:=hd_ (show Calls _ _ _ _ (fun e w'=>e=.returned (.bool (ef C ⟨po,ma,ow,ta,ol,ge,ph,ve,si⟩))∧Chg (fun _=>False) w2 w')from mm A 3 c [ow,ta,ol] w.heap.size w2 (HS0.out.keep hc) (HB0.out.chg hc id) _ hrd (by decide));clear hrd hc y0 y1 y2 y3 y4 y5 y6 y7 y8;go_wp2_with fail;refine HC.out.mono ?_;rintro e w3 ⟨rfl,hc⟩;have HX3:=hd_ (HX0.out.trans (HXX.out.tr hc) (fun _ _ e=>e));clear hc;go_wp2_with fail;go_ret;exact⟨rfl,HX3.out⟩
theorem mP{P:Program}{w w':World}{ops:Array Oper}{rest:List Oper}{o:Oper}{a:Act}{Q:Exit→Act→World→Prop}(hg:o.guard=none)(m x v:Operand)(t:TypeId)(hop:o.op=Op.mapUpdate t m x v)
  (b:Nat) (z:Int) (val:Value) (hm:a.eval m=.map (some b)) (hx:a.eval x=U Z z) (hv:a.eval v=val) (hrun:(Instr.mapUpdate t (.map (some b)) (U Z z) val).run P w=.ok () w') (hK:wpList P ops Q rest (a.put o.dst undef) w'):wpList P ops Q (o::rest) a w:=by
 refine wpList_plain hg fun K' hK'=>?_;unfold Oper.wp;simp[execOp,hop,hm,hx,hv,hrun,Result.andThen];exact hK' _ _ hK
theorem mQ{P:Program}{w w':World}{ops:Array Oper}{rest:List Oper}{o:Oper}{a:Act}{Q:Exit→Act→World→Prop}(hg:o.guard=none)(m x:Operand)(t k:TypeId)(hop:o.op=Op.call {callee:=Callee.builtin Builtin.delete,args:=#[m,x],argTypes:=#[t,k]})
  (b:Nat) (z:Int) (hm:a.eval m=.map (some b)) (hx:a.eval x=U Z z) (hrun:∀ty,(Builtin.delete_ #[t,k] ty #[.map (some b),U Z z]).run P w=.ok (.tuple #[]) w') (hK:wpList P ops Q rest (a.put o.dst (.tuple #[])) w'):wpList P ops Q (o::rest) a w:=by
 refine wpList_plain hg fun K' hK'=>?_;unfold Oper.wp;simp[execOp,hop,resolve,invoke,builtin,hm,hx,hrun,Result.andThen];exact hK' _ _ hK
theorem vZ(m:Nat):AnyZI.SortsIn Tryz.prog iN Fence.wide m:=
  ⟨fun blk off cap ss W hH hblk hsz=>callsIn_wide.2 (AnyM.slices_Sort_int oH blk off cap ss W hH hblk hsz),
   fun p cap W=>callsIn_wide.2 (AnyM.slices_Sort_int_none oH p cap W)⟩
theorem pI(mb:Option Nat)(W:World):Calls Tryz.prog 108 #[.map mb] W fun e w'=>e=.returned (.func (.func 167) #[] #[.pointer (some ⟨W.heap.size,0,none⟩)])∧w'=W.alloc (.cells #[.map mb] 177):=
 (callsIn_wide (n:=5)).1 (AnyZI.keys_in oG Fence.wide 5 trivial rfl mb W)
theorem mR{b:Nat}{f:Int→Option Value}(w:World)(h:IM w b f):Calls Tryz.prog 107 #[.func (.func 167) #[] #[.pointer (some ⟨w.heap.size,0,none⟩)]] (w.alloc (.cells #[.map (some b)] 177)) (lh (eP f) (w.alloc (.cells #[.map (some b)] 177))):=by
 obtain⟨D0,hown,hsz,hk⟩:=h.owns Tryz.underlying3;have hbl:=hown.lt
 have hseq:SeqGives Fence.wide 2 Tryz.prog 167 #[.pointer (some ⟨w.heap.size,0,none⟩)] encZ (fun ss=>ss.Perm (intKeys D0)) (Maps.size D0) (w.alloc (.cells #[.map (some b)] 177)):=
  AnyZI.keys_gives (ρ:=jC) {oG with} Fence.wide _ trivial rfl (by omega) w.heap.size b 32 D0 _ (by simp) (by simp) (by
   obtain⟨es,clock,hb,Ft,hs,hD⟩:=hown
   exact⟨es,clock,(Below.heap_alloc _ _ b hbl).trans hb,Ft,hs,hD⟩)
 have cS:=AnyZI.sorted_in rt Fence.wide 5 trivial trivial trivial trivial rfl (by omega) (vZ _) (enters_of Tryz.func166 (by kernel_rfl) rfl) 167 #[.pointer (some ⟨w.heap.size,0,none⟩)] trivial (enters_of Tryz.func167 (by kernel_rfl) rfl) _ _ (by unfold maxLen;omega) (by omega) _ hseq;change CallsIn _ _ Tryz.prog 107 _ _ _ at cS;refine(callsIn_wide.1 cS).mono ?_;rintro e w' ⟨v,ss,rfl,hp,hrow,hnil,hb⟩;obtain⟨h1,h2⟩:=hk ss hp;rw[h1,h2]at hrow;obtain⟨A,c,rfl,_,_⟩:=aV hrow;exact⟨A,_,c,rfl,rfl,(cB hrow).mono (fun k hk=>hk.1),Chg.of_below hb (zG _) _⟩
theorem ub(C:Int→Bool):eP (fC C)=bw C:=by
 unfold eP bw;congr 1;funext z;unfold fC;cases C z<;>rfl
theorem iV{B:Nat}{w:World}{p bc br:Nat}{C:Int→Bool}{R:Int→Option RV}(h:CS B w p bc br C R):Calls Tryz.prog 56 #[.pointer (some ⟨p,0,none⟩)] w (lh (bw C) w):=by
 obtain⟨c0,c1⟩:=h.cells;have HSO:=hd_ (mR w h.ch);rw[ub]at HSO;have HX:=hd_ ((Chg.refl (fun _=>False) w).alloc (.cells #[.map (some bc)] 177));clear h;go_in;go_wp2_with fail;refine(pI (some bc) w).mono ?_;rintro e w1 ⟨rfl,rfl⟩;go_wp2_with fail;refine HSO.out.mono ?_;rintro e w2 ⟨A,n,c,rfl,hn,hrd,hc⟩;have HN:=hd_ hn;have HR:=hd_ hrd;have HC:=hd_ hc;clear hn hrd hc;go_wp2_with fail;go_ret;exact⟨A,n,c,rfl,HN.out,HR.out.mono (fun k hk=>by simp at hk;omega),HX.out.tr HC.out⟩
theorem xm(C:Int→Bool)(z:Int):iU (fC C) z (.bool true)=fC (gY C z):=by
 funext y;unfold iU fC gY;by_cases h:y=z<;>simp[h]
theorem xn(C:Int→Bool)(z:Int):mN (fC C) z=fC (io C z):=by
 funext y;unfold mN fC io;by_cases h:y=z<;>simp[h]
theorem xo(R:Int→Option RV)(x:RV):iU (fR R) x.po (.agg x.cs)=fR (cm R x):=by
 funext y;unfold iU fR cm;by_cases h:y=x.po<;>simp[h]
theorem mS{B:Nat}{w:World}{p bc br:Nat}{C:Int→Bool}{R:Int→Option RV}(h:CS B w p bc br C R)(z:Int):Calls Tryz.prog 161 #[.pointer (some ⟨p,0,none⟩),U Z z] w fun e w'=>e=.returned (U Z (fd C z))∧CS B w' p bc br (addK C z) R∧Chg (fun k=>k=bc) w w':=by
 by_cases hb:0≤z∧z≤15
 case neg=>
  have HV:fd C z=1:=by
   unfold fd;rw[if_pos (by simp only[BH,decide_eq_true_eq];omega)]
  have HK:addK C z=C:=by unfold addK;rw[HV];rfl
  rw[HV,HK];have HH:=hd_ h;clear h HV HK;by_cases h0:z<0
  ·go_in;go_wp2_with fail;go_ret;exact⟨rfl,HH.out,Chg.refl _ _⟩
  ·have h1:¬z<16:=by omega
   clear hb;go_in;go_wp2_with fail;go_ret;exact⟨rfl,HH.out,Chg.refl _ _⟩
 case pos=>
  obtain⟨hb1,hb2⟩:=hb
  have hg:(decide (z<0)||decide (15<z))=false:=by simp only[Bool.or_eq_false_iff,decide_eq_false_iff_not];omega
  have HHS:=hd_ (ir h z)
  cases hC:C z with
  |true=>
   have HV:fd C z=5:=by unfold fd;rw[if_neg (by rw[hg];decide),if_pos hC]
   have HK:addK C z=C:=by unfold addK;rw[HV];rfl
   rw[HV,HK];rw[hC]at HHS;have HH:=hd_ h;clear h HV HK hg hC;go_in;go_wp2_with fail;refine HHS.out.mono ?_;rintro e w1 ⟨rfl,rfl⟩;go_wp2_with fail;go_ret;exact⟨rfl,HH.out,Chg.refl _ _⟩
  |false=>
   have HV:fd C z=0:=by unfold fd;rw[if_neg (by rw[hg];decide),if_neg (by rw[hC];decide)]
   have HK:addK C z=gY C z:=by unfold addK;rw[if_pos HV]
   rw[HV,HK];rw[hC]at HHS;have HCE:=hd_ h.cells;obtain⟨w2,hrun,him,hc⟩:=h.ch.put Tryz.underlying177 Tryz.underlying3 z ⟨hb1,by omega⟩ (.bool true);rw[xm]at him;have HE:Hid (CS B w2 p bc br (gY C z) R∧Chg (fun k=>k=bc) w w2):=hd_ ⟨⟨h.bp,h.bbc,h.bbr,h.ne,h.blk.chg hc (h.ch.ne h.blk),him,h.ro.chg hc (fun e=>h.ne e.symm)⟩,hc⟩;have HRUN:=hd_ hrun;clear h HV HK hg hC him hc hrun;go_in;go_wp2_with fail;refine HHS.out.mono ?_;rintro e w1 ⟨rfl,rfl⟩;obtain⟨c0,c1⟩:=HCE.out;go_wp2_with (at_mapUpdate;refine mP rfl _ _ _ 177 rfl bc z (.bool true) rfl rfl rfl HRUN.out ?_;clear HRUN);go_ret;exact⟨rfl,HE.out.1,HE.out.2⟩
theorem uc{B:Nat}{w:World}{p bc br:Nat}{C:Int→Bool}{R:Int→Option RV}(h:CS B w p bc br C R)(z:Int):Calls Tryz.prog 162 #[.pointer (some ⟨p,0,none⟩),U Z z] w fun e w'=>e=.returned (U Z (fy C R z))∧CS B w' p bc br (remK C R z) R∧Chg (fun k=>k=bc) w w':=by
 have HHS:=hd_ (ir h z)
 cases hC:C z with
 |false=>
  have HV:fy C R z=4:=by unfold fy;rw[if_pos hC]
  have HK:remK C R z=C:=by unfold remK;rw[HV];rfl
  rw[HV,HK];rw[hC]at HHS;have HH:=hd_ h;clear h HV HK hC;go_in;go_wp2_with fail;refine HHS.out.mono ?_;rintro e w1 ⟨rfl,rfl⟩;go_wp2_with fail;go_ret;exact⟨rfl,HH.out,Chg.refl _ _⟩
 |true=>
  rw[hC]at HHS;have HU:=hd_ (rD h z)
  cases hu:jr R z with
  |true=>
   have HV:fy C R z=11:=by unfold fy;rw[if_neg (by rw[hC];decide),if_pos hu]
   have HK:remK C R z=C:=by unfold remK;rw[HV];rfl
   rw[HV,HK];rw[hu]at HU;have HH:=hd_ h;clear h HV HK hC hu;go_in;go_wp2_with fail;refine HHS.out.mono ?_;rintro e w1 ⟨rfl,rfl⟩;go_wp2_with fail;refine HU.out.mono ?_;rintro e w1 ⟨rfl,hc⟩;have HC:=hd_ hc;clear hc;go_wp2_with fail;go_ret;exact⟨rfl,HH.out.keep HC.out,HC.out.mono (fun _ _ e=>e.elim)⟩
  |false=>
   have HV:fy C R z=0:=by unfold fy;rw[if_neg (by rw[hC];decide),if_neg (by rw[hu];decide)]
   have HK:remK C R z=io C z:=by unfold remK;rw[if_pos HV]
   rw[HV,HK];rw[hu]at HU;have HH:=hd_ h;clear h HV HK hC hu;go_in;go_wp2_with fail;refine HHS.out.mono ?_;rintro e w1 ⟨rfl,rfl⟩;go_wp2_with fail;refine HU.out.mono ?_;rintro e w1 ⟨rfl,hc0⟩;have h:=HH.out.keep hc0;obtain⟨c0,c1⟩:=h.cells;obtain⟨w2,hrun,him,hc⟩:=h.ch.del Tryz.underlying177 Tryz.underlying3 z;rw[xn]at him;have HE:Hid (CS B w2 p bc br (io C z) R∧Chg (fun k=>k=bc) w w2):=hd_ ⟨⟨h.bp,h.bbc,h.bbr,h.ne,h.blk.chg hc (h.ch.ne h.blk),him,h.ro.chg hc (fun e=>h.ne e.symm)⟩,(hc0.mono (fun _ _ e=>e.elim)).tr hc⟩;have HRUN:=hd_ hrun;clear h him hc hc0 hrun;go_wp2_with (at_delete;refine mQ rfl _ _ 177 3 rfl bc z rfl rfl HRUN.out ?_;clear HRUN);go_ret;exact⟨rfl,HE.out.1,HE.out.2⟩
theorem eh{a b:Int}(h:a=b):Ending.returned (U Z a)=.returned (U Z b):=by rw[h]
theorem pJ{B:Nat}{w:World}{p bc br:Nat}{C:Int→Bool}{R:Int→Option RV}(h:CS B w p bc br C R)(po ma ow ta ol ge ph ve si:Int):Calls Tryz.prog 239 #[.pointer (some ⟨p,0,none⟩),.agg #[U Z po,U .u64 ma,U Z ow,U Z ta,U Z ol,U Z ge,U Z ph,U Z ve,U Z si]] w fun e w'=>e=.returned (.bool (eA R ⟨po,ma,ow,ta,ol,ge,ph,ve,si⟩))∧Chg (fun _=>False) w w':=by
 have HQ0:Blk (w.alloc (.cells #[U Z po,U .u64 ma,U Z ow,U Z ta,U Z ol,U Z ge,U Z ph,U Z ve,U Z si] 60)) w.heap.size 60 (rvC po ma ow ta ol ge ph ve si):=af rfl;replace HQ0:=hd_ HQ0;have HX0:=hd_ ((Chg.refl (fun _=>False) w).alloc (.cells #[U Z po,U .u64 ma,U Z ow,U Z ta,U Z ol,U Z ge,U Z ph,U Z ve,U Z si] 60));have HS0:=hd_ (h.keep HX0.out);clear h;have HT:eA R ⟨po,ma,ow,ta,ol,ge,ph,ve,si⟩=(ph !=3&&((ee R ma).isSome&&((ee R ma).getD z9).po !=po)):=rfl;have hf:=fun(W:World) (hW:CS B W p bc br C R)=>rB hW ma;obtain⟨y,hy⟩:∃y,(ee R ma).getD z9=y:=⟨_,rfl⟩;obtain⟨b,hb⟩:∃b,(ee R ma).isSome=b:=⟨_,rfl⟩;obtain⟨a0,a1,a2,a3,a4,a5,a6,a7,a8,rfl⟩:=bm y
 have hrb:cw (ee R ma)=(⟨a0,a1,a2,a3,a4,a5,a6,a7,a8⟩,b):=by unfold cw;rw[hy,hb]
 rw[hrb]at hf;rw[hy,hb]at HT;have HF:Hid (∀(W:World),CS B W p bc br C R→Calls _ _ _ W (HB9 a0 a1 a2 a3 a4 a5 a6 a7 a8 b W)):=hd_ hf;clear hf hy hb hrb;replace HT:=hd_ HT;go_in;go_upto_region 1 with fail;generalize (w.alloc (.cells #[U Z po,U .u64 ma,U Z ow,U Z ta,U Z ol,U Z ge,U Z ph,U Z ve,U Z si] 60))=w1 at*;obtain⟨y0,y1,y2,y3,y4,y5,y6,y7,y8⟩:=aa HQ0.out;go_wp2_with fail;refine(HF.out _ HS0.out).mono ?_;rintro e w2 ⟨rfl,hc⟩;replace HX0:=hd_ (HX0.out.tr hc);replace HQ0:=hd_ (HQ0.out.chg hc id);clear hc y0 y1 y2 y3 y4 y5 y6 y7 y8;go_upto_region 2 with fail;have HN0:Blk (w2.alloc (.cells #[U Z a0,U .u64 a1,U Z a2,U Z a3,U Z a4,U Z a5,U Z a6,U Z a7,U Z a8] 60)) w2.heap.size 60 (rvC a0 a1 a2 a3 a4 a5 a6 a7 a8):=af rfl;replace HN0:=hd_ HN0;replace HX0:=hd_ (HX0.out.alloc (.cells #[U Z a0,U .u64 a1,U Z a2,U Z a3,U Z a4,U Z a5,U Z a6,U Z a7,U Z a8] 60));replace HQ0:=hd_ (HQ0.out.alloc (.cells #[U Z a0,U .u64 a1,U Z a2,U Z a3,U Z a4,U Z a5,U Z a6,U Z a7,U Z a8] 60));generalize (w2.alloc (.cells #[U Z a0,U .u64 a1,U Z a2,U Z a3,U Z a4,U Z a5,U Z a6,U Z a7,U Z a8] 60))=w3 at*;obtain⟨y0,y1,y2,y3,y4,y5,y6,y7,y8⟩:=aa HQ0.out;obtain⟨x0,x1,x2,x3,x4,x5,x6,x7,x8⟩:=aa HN0.out;by_cases hp:ph=3
 ·subst hp;go_wp2_with fail;go_ret;exact⟨aE (by rw[HT.out];rfl),HX0.out⟩
 ·have tp:(ph==3)=false:=by simpa using hp
  have sp:(ph !=3)=true:=by simpa using hp
  replace HT:=hd_ (show _=(b&&a0 !=po)from HT.out.trans (by rw[sp,Ad]))
  cases b with
  |false=>
   go_wp2_with fail;go_ret;exact⟨aE (by rw[HT.out];rfl),HX0.out⟩
  |true=>
   clear hp;replace HT:=hd_ (HT.out.trans (Ad _));change Hid (eA R ⟨po,ma,ow,ta,ol,ge,ph,ve,si⟩=(a0 !=po))at HT;by_cases ha:a0=po
   ·subst ha;go_wp2_with fail;go_ret;exact⟨aE (by rw[HT.out];simp),HX0.out⟩
   ·have ta:(a0==po)=false:=by simpa using ha
    have sa:(a0 !=po)=true:=by simpa using ha
    replace HT:=hd_ (HT.out.trans sa);clear ha;go_wp2_with fail;go_ret;exact⟨aE (by rw[HT.out]),HX0.out⟩
theorem ud{B:Nat}{w:World}{p bc br:Nat}{C:Int→Bool}{R:Int→Option RV}(h:CS B w p bc br C R)(z:Int):Calls Tryz.prog 238 #[.pointer (some ⟨p,0,none⟩),U Z z] w fun e w'=>e=.returned (U Z (cH R z))∧Chg (fun _=>False) w w':=by
 have hr:=ff h z;have HV:cH R z=((R z).getD z9).ve:=rfl;obtain⟨y,hy⟩:∃y,(R z).getD z9=y:=⟨_,rfl⟩;obtain⟨b,hb⟩:∃b,(R z).isSome=b:=⟨_,rfl⟩;obtain⟨a0,a1,a2,a3,a4,a5,a6,a7,a8,rfl⟩:=bm y
 have hrb:cw (R z)=(⟨a0,a1,a2,a3,a4,a5,a6,a7,a8⟩,b):=by unfold cw;rw[hy,hb]
 rw[hrb]at hr;rw[hy]at HV;have HR:Hid (Calls _ _ _ w (HB9 a0 a1 a2 a3 a4 a5 a6 a7 a8 b w)):=hd_ hr;replace HV:=hd_ HV;clear hr hy hb hrb h;go_in;go_wp2_with fail;refine HR.out.mono ?_;rintro e w2 ⟨rfl,hc⟩;have HX0:=hd_ hc;clear hc;go_upto_region 2 with fail;have HN0:Blk (w2.alloc (.cells #[U Z a0,U .u64 a1,U Z a2,U Z a3,U Z a4,U Z a5,U Z a6,U Z a7,U Z a8] 60)) w2.heap.size 60 (rvC a0 a1 a2 a3 a4 a5 a6 a7 a8):=af rfl;replace HN0:=hd_ HN0;replace HX0:=hd_ (HX0.out.alloc (.cells #[U Z a0,U .u64 a1,U Z a2,U Z a3,U Z a4,U Z a5,U Z a6,U Z a7,U Z a8] 60));generalize (w2.alloc (.cells #[U Z a0,U .u64 a1,U Z a2,U Z a3,U Z a4,U Z a5,U Z a6,U Z a7,U Z a8] 60))=w3 at*;obtain⟨x0,x1,x2,x3,x4,x5,x6,x7,x8⟩:=aa HN0.out;go_wp2_with fail;go_ret;exact⟨eh HV.out.symm,HX0.out⟩
def doR(C:Int→Bool)(R:Int→Option RV)(c:CV):Int→Option RV:=if aC C R c=0 then cm R c.r else R
theorem dU{w:World}{q:Nat}{po ma ow ta ol ge ph ve si was:Int}{T:TypeId}(hb:Blk w q T #[U Z po,U .u64 ma,U Z ow,U Z ta,U Z ol,U Z ge,U Z ph,U Z ve,U Z si,U Z was]):
  w.cell? ⟨q,0,none⟩=some (U Z po)∧w.cell? ⟨q,1,none⟩=some (U .u64 ma)∧w.cell? ⟨q,2,none⟩=some (U Z ow)∧w.cell? ⟨q,3,none⟩=some (U Z ta)∧w.cell? ⟨q,4,none⟩=some (U Z ol)∧w.cell? ⟨q,5,none⟩=some (U Z ge)∧w.cell? ⟨q,6,none⟩=some (U Z ph)∧w.cell? ⟨q,7,none⟩=some (U Z ve)∧w.cell? ⟨q,8,none⟩=some (U Z si)∧w.cell? ⟨q,9,none⟩=some (U Z was):=by
 have x0:=hb.cell 0;have x1:=hb.cell 1;have x2:=hb.cell 2;have x3:=hb.cell 3;have x4:=hb.cell 4;have x5:=hb.cell 5;have x6:=hb.cell 6;have x7:=hb.cell 7;have x8:=hb.cell 8;have x9:=hb.cell 9;simp only[Ap,Aq,Ar]at x0 x1 x2 x3 x4 x5 x6 x7 x8 x9;exact⟨x0,x1,x2,x3,x4,x5,x6,x7,x8,x9⟩
section
variable {C : Int → Bool} {R : Int → Option RV} {c : CV}
theorem zl(h:c.r.ok=false):aC C R c=1∧doR C R c=R:=by
 have e:aC C R c=1:=by unfold aC;rw[if_pos (by rw[h];rfl)]
 exact⟨e,by unfold doR;rw[e];rfl⟩
theorem zm(h:c.r.ok=true)(h2:c.r.ve≤c.was):aC C R c=1∧doR C R c=R:=by
 have e:aC C R c=1:=by unfold aC;rw[if_pos (by rw[h,decide_eq_true h2];rfl)]
 exact⟨e,by unfold doR;rw[e];rfl⟩
theorem pK(h:c.r.ok=true)(h2:¬c.r.ve≤c.was):¬(!c.r.ok||decide (c.r.ve≤c.was))=true:=by rw[h,decide_eq_false h2];decide
theorem zn(h:c.r.ok=true)(h2:¬c.r.ve≤c.was)(h3:ef C c.r=true):aC C R c=4∧doR C R c=R:=by
 have e:aC C R c=4:=by unfold aC;rw[if_neg (pK h h2),if_pos h3]
 exact⟨e,by unfold doR;rw[e];rfl⟩
theorem zo(h:c.r.ok=true)(h2:¬c.r.ve≤c.was)(h3:ef C c.r=false)(h4:cH R c.r.po≠c.was):aC C R c=7∧doR C R c=R:=by
 have e:aC C R c=7:=by unfold aC;rw[if_neg (pK h h2),if_neg (by rw[h3];decide),if_pos (by simpa using h4)]
 exact⟨e,by unfold doR;rw[e];rfl⟩
theorem zp(h:c.r.ok=true)(h2:¬c.r.ve≤c.was)(h3:ef C c.r=false)(h4:cH R c.r.po=c.was)(h5:eA R c.r=true):aC C R c=5∧doR C R c=R:=by
 have e:aC C R c=5:=by unfold aC;rw[if_neg (pK h h2),if_neg (by rw[h3];decide),if_neg (by simpa using h4),if_pos h5]
 exact⟨e,by unfold doR;rw[e];rfl⟩
theorem zq(h:c.r.ok=true)(h2:¬c.r.ve≤c.was)(h3:ef C c.r=false)(h4:cH R c.r.po=c.was)(h5:eA R c.r=false):aC C R c=0∧doR C R c=cm R c.r:=by
 have e:aC C R c=0:=by unfold aC;rw[if_neg (pK h h2),if_neg (by rw[h3];decide),if_neg (by simpa using h4),if_neg (by rw[h5];decide)]
 exact⟨e,by unfold doR;rw[e];rfl⟩
end
theorem v_{B:Nat}{w:World}{p bc br:Nat}{C:Int→Bool}{R:Int→Option RV}(h:CS B w p bc br C R)(po ma ow ta ol ge ph ve si was:Int):Calls Tryz.prog 208 #[.pointer (some ⟨p,0,none⟩),.agg #[U Z po,U .u64 ma,U Z ow,U Z ta,U Z ol,U Z ge,U Z ph,U Z ve,U Z si,U Z was]] w fun e w'=>e=.returned (U Z (aC C R ⟨⟨po,ma,ow,ta,ol,ge,ph,ve,si⟩,was⟩))∧CS B w' p bc br C (doR C R ⟨⟨po,ma,ow,ta,ol,ge,ph,ve,si⟩,was⟩)∧Chg (fun k=>k=br) w w':=by
 have HQ0:Blk (w.alloc (.cells #[U Z po,U .u64 ma,U Z ow,U Z ta,U Z ol,U Z ge,U Z ph,U Z ve,U Z si,U Z was] 188)) w.heap.size 188 #[U Z po,U .u64 ma,U Z ow,U Z ta,U Z ol,U Z ge,U Z ph,U Z ve,U Z si,U Z was]:=af rfl;replace HQ0:=hd_ HQ0;have HX0:=hd_ ((Chg.refl (fun _=>False) w).alloc (.cells #[U Z po,U .u64 ma,U Z ow,U Z ta,U Z ol,U Z ge,U Z ph,U Z ve,U Z si,U Z was] 188));have HS0:=hd_ (h.keep HX0.out);have HLT:=hd_ h.ro.lt;clear h;have hr:=fun W=>dF po ma ow ta ol ge ph ve si W;unfold rvC at hr;obtain⟨ok,hok⟩:∃ok,rwR po ma ow ta ol ge ph ve si=ok:=⟨_,rfl⟩;rw[hok]at hr;have HRW:=hd_ hr;have HOK:Hid (RV.ok ⟨po,ma,ow,ta,ol,ge,ph,ve,si⟩=ok):=hd_ hok;clear hr hok;go_in;go_upto_region 1 with fail;generalize (w.alloc (.cells #[U Z po,U .u64 ma,U Z ow,U Z ta,U Z ol,U Z ge,U Z ph,U Z ve,U Z si,U Z was] 188))=w1 at*;obtain⟨y0,y1,y2,y3,y4,y5,y6,y7,y8,y9⟩:=dU HQ0.out;go_wp2_with fail;refine(HRW.out _).mono ?_;rintro e w2 ⟨rfl,hc⟩;replace HX0:=hd_ (HX0.out.tr hc);replace HQ0:=hd_ (HQ0.out.chg hc id);replace HS0:=hd_ (HS0.out.keep hc);clear hc y0 y1 y2 y3 y4 y5 y6 y7 y8 y9;obtain⟨y0,y1,y2,y3,y4,y5,y6,y7,y8,y9⟩:=dU HQ0.out
 cases ok with
 |false=>
  have HV:=hd_ (zl (C:=C) (R:=R) (c:=⟨⟨po,ma,ow,ta,ol,ge,ph,ve,si⟩,was⟩) HOK.out);go_wp2_with fail;go_ret;exact⟨eh HV.out.1.symm,by rw[HV.out.2];exact HS0.out,HX0.out.mono (fun _ _ e=>e.elim)⟩
 |true=>
  by_cases hv:ve≤was
  ·have HV:=hd_ (zm (C:=C) (R:=R) (c:=⟨⟨po,ma,ow,ta,ol,ge,ph,ve,si⟩,was⟩) HOK.out hv);go_wp2_with fail;go_ret;exact⟨eh HV.out.1.symm,by rw[HV.out.2];exact HS0.out,HX0.out.mono (fun _ _ e=>e.elim)⟩
  ·have HNV:=hd_ hv;have hl:=fun(W:World) (hW:CS B W p bc br C R)=>pH hW po ma ow ta ol ge ph ve si;obtain⟨lk,hlk⟩:∃lk,ef C ⟨po,ma,ow,ta,ol,ge,ph,ve,si⟩=lk:=⟨_,rfl⟩;rw[hlk]at hl;have HL:=hd_ hl;have HLK:=hd_ hlk;clear hl hlk;go_wp2_with fail;refine(HL.out _ HS0.out).mono ?_;rintro e w3 ⟨rfl,hc⟩;replace HX0:=hd_ (HX0.out.tr hc);replace HQ0:=hd_ (HQ0.out.chg hc id);replace HS0:=hd_ (HS0.out.keep hc);clear hc y0 y1 y2 y3 y4 y5 y6 y7 y8 y9;obtain⟨y0,y1,y2,y3,y4,y5,y6,y7,y8,y9⟩:=dU HQ0.out
   cases lk with
   |true=>
    have HV:=hd_ (zn (C:=C) (R:=R) (c:=⟨⟨po,ma,ow,ta,ol,ge,ph,ve,si⟩,was⟩) HOK.out (BU.2 HNV.out) HLK.out);go_wp2_with fail;go_ret;exact⟨eh HV.out.1.symm,by rw[HV.out.2];exact HS0.out,HX0.out.mono (fun _ _ e=>e.elim)⟩
   |false=>
    have hvr:=fun(W:World) (hW:CS B W p bc br C R)=>ud hW po;obtain⟨vr,hvv⟩:∃vr,cH R po=vr:=⟨_,rfl⟩;rw[hvv]at hvr;have HVR:=hd_ hvr;have HVV:=hd_ hvv;clear hvr hvv
    have HKEEP:Hid (∀W:World,Chg (fun _=>False) w3 W→(W.cell? ⟨w.heap.size,0,none⟩=some (U Z po)∧W.cell? ⟨w.heap.size,9,none⟩=some (U Z was))):=hd_ (fun W hw=>by
     obtain⟨x0,x1,x2,x3,x4,x5,x6,x7,x8,x9⟩:=dU (HQ0.out.chg hw id)
     exact⟨x0,x9⟩)
    have HXA:=hd_ (Chg.refl (fun _=>False) w3).drew;have HVA:=hd_ (HVR.out _ (HS0.out.keep HXA.out));clear y0 y1 y2 y3 y4 y5 y6 y7 y8 y9;go_wp2_with fail;obtain⟨y0,y9⟩:=HKEEP.out _ HXA.out
    go_region_held3 (fun w'=>w'.cell? ⟨w.heap.size,0,none⟩=some (U Z po)∧w'.cell? ⟨w.heap.size,9,none⟩=some (U Z was))
     (first|with_reducible exact HKEEP.out _ HXA.out|with_reducible exact HKEEP.out _ HXB.out|fail)
     (first
      |(go_at_call 238;(with_reducible refine(HVA.out).mono ?_);rintro e wz ⟨rfl,hc⟩;have HXB:=hd_ (HXA.out.tr hc);clear hc)
      |fail)
    replace HX0:=hd_ (HX0.out.tr HXB.out);replace HQ0:=hd_ (HQ0.out.chg HXB.out id);replace HS0:=hd_ (HS0.out.keep HXB.out);clear HKEEP HXA HVA HXB y0 y9;by_cases hwv:vr=was
    case neg=>
     have tw:(vr==was)=false:=by simpa using hwv
     have sw:(vr !=was)=true:=by simpa using hwv
     have HV:=hd_ (zo (C:=C) (R:=R) (c:=⟨⟨po,ma,ow,ta,ol,ge,ph,ve,si⟩,was⟩) HOK.out (BU.2 HNV.out) HLK.out (show cH R po≠was by rw[HVV.out];exact hwv));clear hwv;go_wp2_with fail;go_ret;exact⟨eh HV.out.1.symm,by rw[HV.out.2];exact HS0.out,HX0.out.mono (fun _ _ e=>e.elim)⟩
    case pos=>
     subst hwv;have ht:=fun(W:World) (hW:CS B W p bc br C R)=>pJ hW po ma ow ta ol ge ph ve si;obtain⟨tk,htk⟩:∃tk,eA R ⟨po,ma,ow,ta,ol,ge,ph,ve,si⟩=tk:=⟨_,rfl⟩;rw[htk]at ht;have HT:=hd_ ht;have HTK:=hd_ htk;clear ht htk;obtain⟨y0,y1,y2,y3,y4,y5,y6,y7,y8,y9⟩:=dU HQ0.out;go_wp2_with fail;refine(HT.out _ HS0.out).mono ?_;rintro e w5 ⟨rfl,hc⟩;replace HX0:=hd_ (HX0.out.tr hc);replace HQ0:=hd_ (HQ0.out.chg hc id);replace HS0:=hd_ (HS0.out.keep hc);clear hc y0 y1 y2 y3 y4 y5 y6 y7 y8 y9;obtain⟨y0,y1,y2,y3,y4,y5,y6,y7,y8,y9⟩:=dU HQ0.out
     cases tk with
     |true=>
      have HV:=hd_ (zp (C:=C) (R:=R) (c:=⟨⟨po,ma,ow,ta,ol,ge,ph,ve,si⟩,vr⟩) HOK.out (BU.2 HNV.out) HLK.out HVV.out HTK.out);go_wp2_with fail;go_ret;exact⟨eh HV.out.1.symm,by rw[HV.out.2];exact HS0.out,HX0.out.mono (fun _ _ e=>e.elim)⟩
     |false=>
      have HV:=hd_ (zq (C:=C) (R:=R) (c:=⟨⟨po,ma,ow,ta,ol,ge,ph,ve,si⟩,vr⟩) HOK.out (BU.2 HNV.out) HLK.out HVV.out HTK.out);have hbd:=RV.bd HOK.out;have hpo:0≤po∧po≤31:=hbd.1;have h:=HS0.out.drew;obtain⟨w6,hrun,him,hc⟩:=h.ro.put Tryz.underlying178 Tryz.underlying3 po (by omega) (.agg (RV.cs ⟨po,ma,ow,ta,ol,ge,ph,ve,si⟩));rw[show iU (fR R) po (.agg (RV.cs ⟨po,ma,ow,ta,ol,ge,ph,ve,si⟩))=fR (cm R ⟨po,ma,ow,ta,ol,ge,ph,ve,si⟩)from xo R ⟨po,ma,ow,ta,ol,ge,ph,ve,si⟩]at him;have HE:Hid (CS B w6 p bc br C (cm R ⟨po,ma,ow,ta,ol,ge,ph,ve,si⟩)∧Chg (fun k=>k=br) w w6):=hd_ ⟨⟨h.bp,h.bbc,h.bbr,h.ne,h.blk.chg hc (h.ro.ne h.blk),h.ch.chg hc h.ne,him⟩,((HX0.out.drew).mono (fun _ _ e=>e.elim)).tr hc⟩;have hrun2:(Instr.mapUpdate 178 (.map (some br)) (U Z po) (.agg #[U Z po,U .u64 ma,U Z ow,U Z ta,U Z ol,U Z ge,U Z ph,U Z ve,U Z si])).run Tryz.prog w5.drew=.ok () w6:=hrun;obtain⟨c0,c1⟩:=h.cells;clear h him hc hrun hbd hpo;go_wp2_with fail
      go_region
      go_wp2_with fail;go_ret;exact⟨eh HV.out.1.symm,by rw[HV.out.2];exact HE.out.1,HE.out.2⟩
theorem pL{w:World}{b:Nat}{f:Int→Option Value}(h:IM w b f):Calls Tryz.prog 207 #[.map (some b)] w fun e w'=>e=.returned (.map (some w.heap.size))∧IM w' w.heap.size f∧Chg (fun _=>False) w w':=by
 obtain⟨es,clock,hb,r⟩:=id h;have hc:Calls Tryz.prog 207 #[.map (some b)] w fun e w'=>e=.returned (.map (some w.heap.size))∧w'=w.alloc (.map es clock):=AnyW.maps_Clone tY b es clock w hb;refine hc.mono ?_;rintro e w' ⟨rfl,rfl⟩;exact⟨rfl,h.clone hb,(Chg.refl _ w).alloc _⟩
def gZ(C:Int→Bool)(l:List CV)(R:Int→Option RV):Int→Option RV:=if (bF C l R).1=0 then(bF C l R).2 else R
def ApP(B p bc:Nat)(C:Int→Bool)(R:Int→Option RV)(l:List CV)(w:World)(e:Ending)(w':World):Prop:=
 ∃br',e=.returned (U Z (bF C l R).1)∧CS B w' p bc br' C (gZ C l R)∧Chg (fun k=>k=p) w w'
theorem ue{C:Int→Bool}{R:Int→Option RV}{l:List CV}{j:Nat}{x:CV}(hx:l[j]?=some x)(h0:(bF C (l.take j) R).1=0):
  (aC C (bF C (l.take j) R).2 x=0→(bF C (l.take (j+1)) R).1=0∧(bF C (l.take (j+1)) R).2=doR C (bF C (l.take j) R).2 x)∧
  (aC C (bF C (l.take j) R).2 x≠0→(bF C l R).1=aC C (bF C (l.take j) R).2 x∧gZ C l R=R):=by
 have hs:=jT C (l.take j) R x h0;rw[←dI hx]at hs
 constructor
 ·intro h;rw[if_pos h]at hs;rw[hs];exact⟨rfl,by unfold doR;rw[if_pos h]⟩
 ·intro h;rw[if_neg h]at hs
  have h1:(bF C (l.take (j+1)) R).1≠0:=by rw[hs];exact h
  have h2:=oK C (l.take (j+1)) R (l.drop (j+1)) h1;rw[List.take_append_drop,hs]at h2;refine⟨h2,?_⟩;unfold gZ;rw[if_neg (by rw[h2];exact h)]
theorem kF{B:Nat}{w:World}{p bc br:Nat}{C:Int→Bool}{R:Int→Option RV}(h:CS B w p bc br C R)(L:Option Addr)(m lc:Nat)(l:List CV)(S:Nat→Prop)(hl:SR 10 CV.cs w S L m l)(hm:m≤9223372036854775807):Calls Tryz.prog 160 #[.pointer (some ⟨p,0,none⟩),.slice L m lc] w (ApP B p bc C R l w):=by
 have HS:=hd_ h;have HL:=hd_ hl;have HLN:=hd_ hl.1;have HPB:=hd_ (show B≤w.heap.size∧p<w.heap.size∧bc<w.heap.size from⟨BF (Nat.lt_of_le_of_lt h.bp h.blk.lt),h.blk.lt,h.ch.lt⟩);have HCA:=hd_ (pL h.ro.drew);clear h hl;go_in;go_wp2_with fail;have HKEEP:Hid (∀W:World,Chg (fun _=>False) w W→(W.cell? ⟨p,0,none⟩=some (.map (some bc))∧W.cell? ⟨p,1,none⟩=some (.map (some br)))):=hd_ (fun W hw=>(HS.out.keep hw).cells);have HXA:=hd_ (Chg.refl (fun _=>False) w).drew;obtain⟨c0,c1⟩:=HKEEP.out _ HXA.out
 go_region_held3 (fun w'=>w'.cell? ⟨p,0,none⟩=some (.map (some bc))∧w'.cell? ⟨p,1,none⟩=some (.map (some br)))
  (first|with_reducible exact HKEEP.out _ HXA.out|with_reducible exact HKEEP.out _ HXB.out|with_reducible exact HKEEP.out _ (HXB.out.alloc _)|fail)
  (first
   |(go_at_call 207;(with_reducible refine(HCA.out).mono ?_);rintro e wz ⟨rfl,him,hc⟩;have HXB:=hd_ (HXA.out.tr hc);have HIM:=hd_ him;clear hc him)
   |fail)
 have HNX:CS B (wz.alloc (.cells #[.map (some bc),.map (some w.heap.size)] 180)) wz.heap.size bc w.heap.size C R:=by
  have hz:=HXB.out.size;have hp:=HPB.out;have hh:=(HS.out.keep HXB.out);exact⟨by omega,hh.bbc,hp.1,by omega,af rfl,hh.ch.alloc _,HIM.out.alloc _⟩
 replace HNX:=hd_ HNX;have HZ:=hd_ HXB.out.size;replace HXB:=hd_ (HXB.out.alloc (.cells #[.map (some bc),.map (some w.heap.size)] 180));clear HKEEP HXA HCA HIM c0 c1;generalize (wz.alloc (.cells #[.map (some bc),.map (some w.heap.size)] 180))=w2 at*;generalize wz.heap.size=pn at*;go_wp2_with fail
 go_loopg [7,8,24] m (fun g s7 s8 i wr=>∃(j:Nat),g=m-j∧j≤m∧i=U Z (j:Int)∧Hid ((bF C (l.take j) R).1=0)∧Hid (CS B wr pn bc w.heap.size C (bF C (l.take j) R).2)∧Hid (Chg (fun _=>False) w wr))
 case atStart=>exact⟨0,rfl,zP _,rfl,hd_ rfl,HNX,HXB⟩
 case round=>
  clear HNX HXB;obtain⟨j,rfl,hj,rfl,H0,HNX,HX0⟩:=hrel;by_cases hlt:j<m
  ·have hh:=HL.out.chg HX0.out (fun _ _=>id);obtain⟨ad,rfl,-⟩:=hh.2 (by omega)
   have hjl:j<l.length:=by have:=HLN.out;omega
   have hx:l[j]?=some l[j]:=zM hjl;generalize l[j]=x at*;obtain⟨z0,z1,z2,z3,z4,z5,z6,z7,z8,z9⟩:=oL hh hx;have HAS:=hd_ (ue (C:=C) (R:=R) hx H0.out);clear hx hh hjl;obtain⟨xr,was⟩:=x;obtain⟨po,ma,ow,ta,ol,ge,ph,ve,si,rfl⟩:=bm xr;go_upto_region 7 with fail;clear z0 z1 z2 z3 z4 z5 z6 z7 z8 z9;have HQ0:Blk (wr.alloc (.cells #[U Z po,U .u64 ma,U Z ow,U Z ta,U Z ol,U Z ge,U Z ph,U Z ve,U Z si,U Z was] 188)) wr.heap.size 188 #[U Z po,U .u64 ma,U Z ow,U Z ta,U Z ol,U Z ge,U Z ph,U Z ve,U Z si,U Z was]:=af rfl;replace HQ0:=hd_ HQ0;have hca:=(Chg.refl (fun _=>False) wr).alloc (.cells #[U Z po,U .u64 ma,U Z ow,U Z ta,U Z ol,U Z ge,U Z ph,U Z ve,U Z si,U Z was] 188);replace HX0:=hd_ (HX0.out.tr hca);replace HNX:=hd_ (HNX.out.keep hca);clear hca;generalize (wr.alloc (.cells #[U Z po,U .u64 ma,U Z ow,U Z ta,U Z ol,U Z ge,U Z ph,U Z ve,U Z si,U Z was] 188))=w3 at*;obtain⟨y0,y1,y2,y3,y4,y5,y6,y7,y8,y9⟩:=dU HQ0.out;generalize (bF C (l.take j) R).2=Rj at*;have hd:=v_ HNX.out po ma ow ta ol ge ph ve si was;obtain⟨v,hv⟩:∃v,aC C Rj ⟨⟨po,ma,ow,ta,ol,ge,ph,ve,si⟩,was⟩=v:=⟨_,rfl⟩;rw[hv]at hd;have HD:=hd_ hd;have HV:=hd_ hv;clear hd hv;go_wp2_with fail;refine HD.out.mono ?_;rintro e w4 ⟨rfl,hcs,hc⟩;replace HX0:=hd_ (ab HX0.out hc (zG _));replace HNX:=hd_ hcs;clear hcs hc y0 y1 y2 y3 y4 y5 y6 y7 y8 y9 HD;by_cases h0:v=0
   ·subst h0;have HA2:=hd_ (HAS.out.1 HV.out);go_wp2_with fail;go_roundg (m-(j+1))
    case measure=>omega
    case rel=>exact⟨j+1,rfl,by omega,by go_num,hd_ HA2.out.1,hd_ (by rw[HA2.out.2];exact HNX.out),HX0⟩
   ·have tv:(v==0)=false:=by simpa using h0
    have sv:(v !=0)=true:=by simpa using h0
    have HA2:=hd_ (HAS.out.2 (by rw[HV.out];exact h0));clear h0;go_wp2_with fail;go_ret;exact⟨br,eh (by rw[HA2.out.1,HV.out]),by rw[HA2.out.2];exact HS.out.keep HX0.out,HX0.out.mono (fun _ _ e=>e.elim)⟩
  ·have:j=m:=by omega
   subst this;have HE:=hd_ (show l.take j=l from Ax (by have:=HLN.out;omega));obtain⟨n0,n1⟩:=HNX.out.cells;have hs:=HS.out.keep HX0.out;have f1:=hs.blk.frozen 1;have hb:=hs.blk.set 1 (.map (some w.heap.size));have hcp:=(Chg.refl (fun k=>k=p) wr).put p 1 (fun _=>rfl) (.map (some w.heap.size));simp only[List.setIfInBounds_toArray,List.set_cons_succ,List.set_cons_zero]at hb;have hp:=HPB.out
   have HR:=hd_ (show CS B (wr.setCell ⟨p,1,none⟩ (.map (some w.heap.size))) p bc w.heap.size C (gZ C l R)from by
    have e1:gZ C l R=(bF C (l.take j) R).2:=by
     have h0:=H0.out;unfold gZ;rw[HE.out]at h0⊢;rw[if_pos h0]
    rw[e1]
    exact⟨hs.bp,hs.bbc,hp.1,by omega,hb,hs.ch.chg hcp (fun e=>by have:=hs.ch.ne hs.blk;exact this e.symm),HNX.out.ro.chg hcp (by omega)⟩)
   have HC:=hd_ ((HX0.out.mono (S':=fun k=>k=p) (fun _ _ e=>e.elim)).tr hcp);have HV:=hd_ (show (bF C l R).1=0 from by have h0:=H0.out;rw[HE.out]at h0;exact h0);obtain⟨s0,s1⟩:=hs.cells;clear hb hs hcp hp;go_wp2_with fail;go_ret;exact⟨w.heap.size,eh HV.out.symm,HR.out,HC.out⟩
end Go.Proofs.YtnojmbejedlilaaGreat
end
