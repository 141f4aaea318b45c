/-
  A region that draws its order, in a round of a range over a function, by the walk of the same region outside of it; what is in memory abides the turn of a block that is no cells. No condition.
-/
import Derived.Test.YtnojmbejedlilaaGreatKQM1
import Derived.RangeFuncNested
import Derived.RangeFuncBound
import Derived.RangeFuncCalls
import Derived.RangeFuncLeaves
import Derived.Shelf.Abstract
import Derived.WalkKit
import Derived.OwnWalkIn
import Derived.TacticsInMore
import Derived.LoopNIn
import Derived.LoopIn
import Derived.Deep.RegionHeld3
import Derived.OrdersIn
import Derived.Test.YtnojmbejedlilaaGreatKQM2
import Derived.Lib.SliceRun
import Derived.Deep.Upon
import Derived.Deep.MidRow
import Derived.Deep.RegionLaw
import Derived.Lib.Walk
import Derived.Deep.DeepCutAuto
set_option maxRecDepth 100000
set_option maxHeartbeats 40000000
set_option linter.unusedVariables false
set_option linter.unusedSimpArgs false
section
namespace Go.Proofs.YtnojmbejedlilaaGreat
open Nat renaming lt_or_ge→B6,le_trans→zH,le_refl→zG,sub_self→B4,reduceAdd→Cd,reduceSub→Ce,zero_le→zP,mul_one→Cn,eq_zero_or_pos→zQ
open _root_.Array renaming getElem?_eq_some_iff→Bd,replicate_succ→Cf,replicate_zero→Cg,getElem?_toList→Co,getElem?_eq_getElem→Cp
open Go.World renaming putObj_heap_other→B7,alloc_heap_new→B8,ownsRow→Cv
open List renaming getElem?_append_left→B2,getElem?_eq_some_iff→zS,length_append→zY,length_singleton→B9,getElem?_append_right→B3,getElem?_cons_zero→Aq,length_drop→zO,getElem?_drop→B_,getElem?_toArray→Ap,getElem?_cons_succ→Ar,finRange→Ca,size_toArray→Cb,length_cons→Ab,length_nil→Cc,push_toArray→Ci,append_toArray→Cj,nil_append→Ck,cons_append→BR,getElem?_eq_getElem→zM,setIfInBounds_toArray→AQ,set_cons_succ→AR,set_cons_zero→AS,replicate→Cm,getElem?_take→B5,length_finRange→Cq,getElem_toArray→AZ,getElem_cons_succ→A7,getElem_cons_zero→A8,all_cons→AT,all_nil→AU
open Option renaming some→AP
open Go renaming bodyPost_ret→AW,results_none→Cl,wp_region_noPanic→Cr,wp_region_held_drew→Cs,wpAnyH_take→AY,wpAnyH_ready→A_,wpAnyH_done→Ct
open Go.Region renaming wanted→zV
open Go.AllReadyH renaming cons→Ba
open Go.NoPanic renaming normal→Cu
open Bool renaming and_true→AV,and_eq_true→AI,false_eq_true→Cw
open Go.Value renaming slice→zW,oneCell'→Aw
open Go.Value renaming int→U
open Go.IntKind renaming i64→Z
open Go.RowKit
section
variable {w w' : World} {row : Option Nat}
def Abd(w w':World):Prop:=∃row:Option Nat,w.grownBy w' row∧∀r,row=some r→∃o:Obj,w.heap[r]?=some o∧o.isCells=false
theorem Abd.of(hg:w.grownBy w' row)(hr:∀r,row=some r→∃o:Obj,w.heap[r]?=some o∧o.isCells=false):Abd w w':=⟨row,hg,hr⟩
theorem Abd.block(h:Abd w w'){g:Nat}{cs:Array Value}{t:TypeId}{fr:Nat×Nat}(hb:w.heap[g]?=some (.cells cs t fr)):w'.heap[g]?=some (.cells cs t fr):=by
 obtain⟨row,hg,hr⟩:=h;exact(grownBy_keeps_cells hg hr hb rfl).trans hb
theorem Blk.abd{g:Nat}{t:TypeId}{cs:Array Value}(hb:Blk w g t cs)(h:Abd w w'):Blk w' g t cs:=h.block hb
theorem Rds.abd{S:Nat→Prop}{A:Option Addr}{n:Nat}{xs:List Value}(hr:Rds w S A n xs)(h:Abd w w'):Rds w' S A n xs:=by
 refine⟨hr.1,fun hn=>?_⟩;obtain⟨ad,e,hs,hb,hc⟩:=hr.2 hn;obtain⟨row,hg,hrow⟩:=h;exact⟨ad,e,hs,Nat.lt_of_lt_of_le hb hg.size,fun j u hu=>cell_kept (hc j u hu) hg hrow⟩
theorem oS{base:Nat}{e:TypeId}{size n:Nat}{v:Value}{xs:List Value}(ho:w.ownsRow base e size v n xs)(h:Abd w w'):w'.ownsRow base e size v n xs:=by
 refine⟨ho.1,?_⟩;rcases ho.2 with h2|⟨g,cap,cur,hv,hg,hh,r⟩
 ·exact .inl h2
 ·exact .inr ⟨g,cap,cur,hv,hg,h.block hh,r⟩
theorem gJ{n₀:Nat}{S:Nat→Prop}(h:Below n₀ w w')(hS:∀k,n₀≤k→S k):Chg S w w':=⟨h.os,h.tape,h.output,h.size,fun k hk hn=>h.block k (by
 rcases B6 k n₀ with hl|hl
 ·exact hl
 ·exact absurd (hS k hl) hn)⟩
theorem rP{n₀:Nat}(h:Chg (fun k=>n₀≤k) w w')(hn:n₀≤w.heap.size):Below n₀ w w':=⟨h.os,h.tape,h.output,h.size,fun k hk=>h.block k (by omega) (by omega)⟩
theorem Chg.keepsFrom{S:Nat→Prop}(h:Chg S w w')(B:Nat)(hS:∀k (cs:Obj),w.heap[k]?=some cs→S k→cs.isCells=true):KeepsFrom B w w':=
 ⟨h.size,fun k o _ hk ho=>by
  refine(h.block k (Bd.1 hk).1 (fun hs=>?_)).trans hk;rw[hS k o hk hs]at ho
  cases ho⟩
end
def xx{α:Type}(n₀ B:Nat)(I:List α→World→Prop)(Ix:Code→List α→World→Prop)(xs:List α)(W:World)(e:Exit)(_:Act)(W':World):Prop:=
 KeepsFrom B W W'∧Below n₀ W W'∧match e with
  |.normal=>I xs W'
  |.ret=>Ix .ret xs W'
  |.exit id=>Ix (.exit id) xs W'
  |.goto t=>Ix (.goto t) xs W'
  |.panic _=>False
  |.outgrown=>False
theorem fh{W:World}{l:Nat}{o o':Obj}(h:W.heap[l]?=some o)(ho:o.isCells=false):Abd W (W.putObj l o'):=
 Abd.of (grownBy_putObj' W l o') (fun r e=>by cases e;exact⟨o,h,ho⟩)
theorem lQ(W:World)(o:Obj):Abd W (W.alloc o):=Abd.of (World.grownBy_alloc W o none) (fun r e=>by cases e)
def rQ{α:Type}(n:Nat)(P:Program)(gf:Nat)(first:Array Value)(n₀:Nat)(encs:α→Array Value)(xs:List α)(W:World):Prop:=
 ∀(l:Nat) (J Jx:List α→World→Prop),
  (∀pre x W1,J pre W1→pre.length<xs.length→YieldAt Fence.wide (n-1) P l (encs x) W1 fun e W'=>(e=.returned (.bool true)∧J (pre++[x]) W'∧Below n₀ W1 W')∨(e=.returned (.bool false)∧Jx (pre++[x]) W'))→
  J [] W→CallsIn Fence.wide n P gf (first++#[.func (.yield l) #[] #[]]) W fun e W'=>(∃v,e=.returned v)∧(J xs W'∨∃pre,pre<+:xs∧Jx pre W')
theorem xy {α : Type} {n : Nat} {P : Program} {g : Operand} {ps : Array Tmp} {assign body : Code} {Q : Exit → Act → World → Prop} {a : Act} {w : World} {gf : Nat} {first : Array Value}
    (hg : a.eval g = .func (.func gf) first #[]) (eg : ∀ args w, (callFunc gf args).run P w = .ok (.enter gf args) w) {encs : α → Array Value} {xs : List α} (n₀ : Nat) (hn₀ : n₀ ≤ w.heap.size)
    (hit : ∀ W, Below n₀ w W → rQ (n - 1) P gf first n₀ encs xs W) (hps : ∀ x, (encs x).size = ps.size)
    (I : List α → World → Prop) (Ix : Code → List α → World → Prop) (hI : ∀ s W W', I s W → Abd W W' → I s W') (hIx : ∀ c s W W', Ix c s W → Abd W W' → Ix c s W') (h0 : I [] w) (a₁ : α → Act)
    (hassign : ∀ (l : Nat) (x : α) (W : World) (K : Act → World → Prop), K (a₁ x) W →
      assign.wpIn (Fence.wide.inRound l) (n - 1 - 1) P (Exit.then K (fun _ _ _ => False)) { tmps := (ps.zip (encs x)).foldl (fun t (p, v) => t.setIfInBounds p v) a.tmps, defers := [] } W)
    (hbody : ∀ (l : Nat) (pre : List α) (x : α) (W : World), pre.length < xs.length → Below n₀ w W → I pre W → body.wpIn (Fence.wide.inRound l) (n - 1 - 1) P (xx n₀ w.heap.size I Ix (pre ++ [x]) W) (a₁ x) W)
    (hdone : ∀ (D : Nat) (W : World), w.heap.size ≤ D → Below n₀ w W → I xs W → W.heap[D]? = some (.deferred (some [])) → Q .normal { a with defers := { target := .collected D, args := #[] } :: a.defers } W)
    (hstop : ∀ (D : Nat) (c : Code) (pre : List α) (W : World), w.heap.size ≤ D → Below n₀ w W → pre <+: xs → Ix c pre W → W.heap[D]? = some (.deferred (some [])) → c.wpIn Fence.wide n P Q { a with defers := { target := .collected D, args := #[] } :: a.defers } W) :
    (Code.rangeFunc g ps assign body).wpIn Fence.wide n P Q a w := by
  refine wpIn_rangeFunc fun fn _ => ?_
  generalize hB : w.heap.size = B at *
  have hrecs : ∃ rc : LoopState → Option Code → Obj, rc = fun st pe => .loop { state := st, pending := pe, fn, tmps := a.tmps, params := ps, assign, body, defers := B } := ⟨_, rfl⟩
  obtain ⟨rc, hrc⟩ := hrecs
  have hnc : ∀ st pe, (rc st pe).isCells = false := fun st pe => by rw [hrc]; rfl
  -- what the law keeps: the record's state, the deferred calls' block, what the caller keeps
  let Bk : Obj → World → Prop := fun o W => W.heap[B + 1]? = some o ∧ W.heap[B]? = some (.deferred (some [])) ∧ Below n₀ w W
  have hturn : ∀ (o o' : Obj) (W : World), Bk o W → Bk o' (W.putObj (B + 1) o') := fun o o' W ⟨h1, h2, h3⟩ =>
    ⟨World.putObj_heap_same (Bd.1 h1).1, (B7 (by omega)).trans h2,
      h3.grown (grownBy_putObj' W (B + 1) o') (zH (by omega) h3.size) (fun k e => by cases e; omega)⟩
  have hbel : ∀ (o' : Obj) (W : World), n₀ ≤ W.heap.size → Below n₀ W (W.putObj (B + 1) o') := fun o' W hw =>
    (Below.refl n₀ W).grown (grownBy_putObj' W (B + 1) o') hw (fun k e => by cases e; omega)
  obtain ⟨W1, hW1⟩ : ∃ W1, (w.alloc (.deferred (some []))).alloc (rc .ready none) = W1 := ⟨_, rfl⟩
  have hbk1 : Bk (rc .ready none) W1 := by
    rw [← hW1]
    refine ⟨?_, (Below.heap_alloc _ _ _ (by simp; omega)).trans (by rw [← hB]; exact B8 w _), ((Below.refl n₀ w).alloc (by omega) _).alloc (by simp; omega) _⟩
    have h := B8 (w.alloc (.deferred (some []))) (rc .ready none)
    rwa [World.size_alloc, hB] at h
  have hI1 : I [] W1 := by
    rw [← hW1]
    exact hI _ _ _ (hI _ _ _ h0 (lQ _ _)) (lQ _ _)
  refine ⟨B + 1, [{ target := .collected B, args := #[] }], W1, { target := .fn (.func gf) #[], args := first ++ #[.func (.yield (B + 1)) #[] #[]] }, W1, gf, first ++ #[.func (.yield (B + 1)) #[] #[]], W1, ?_, ?_, fun _ _ => trivial, ?_, fun h => by simp [Fence.wide] at h, ?_⟩
  · have h := run_enterLoop_outer (P := P) (w := w) fn a.tmps ps assign body
    rw [hB] at h
    rw [← hW1, hrc]
    exact h
  · simp only [resolve, hg]
    simp [go_sem]
  · simp [invoke, go_sem, eg]
  refine (hit W1 hbk1.2.2 (B + 1) (fun pre W => I pre W ∧ Bk (rc .ready none) W) (fun pre W => ∃ c, Ix c pre W ∧ Bk (rc .done (some c)) W) ?_ ⟨hI1, hbk1⟩).mono ?_
  · -- one round
    rintro pre x W ⟨hi, hb⟩ hlen
    have hl : W.heap[B + 1]? = some (.loop { state := .ready, pending := none, fn, tmps := a.tmps, params := ps, assign, body, defers := B }) := by
      have := hb.1
      rwa [hrc] at this
    refine ⟨fn, _, assign, body, run_yield hl (hps x), roundIn_of_wpIn trivial (hassign _ x W _ ⟨_, run_beginRound hl rfl, ?_⟩)⟩
    have hb2 := hturn _ (rc .busy none) W hb
    have hi2 : I pre (W.putObj (B + 1) (rc .busy none)) := hI _ _ _ hi (fh hb.1 (hnc _ _))
    have hw2 := hbel (rc .busy none) W (zH (by omega) hb.2.2.size)
    have hrb : W.putObj (B + 1) (rc .busy none) = W.putObj (B + 1) (.loop { state := .busy, pending := none, fn, tmps := a.tmps, params := ps, assign, body, defers := B }) := by rw [hrc]
    rw [← hrb]
    clear hrb
    refine wpIn_mono (hbody _ pre x _ hlen hb2.2.2 hi2) ?_
    have fin : ∀ (jump : Option Code) (W3 : World), KeepsFrom B (W.putObj (B + 1) (rc .busy none)) W3 → Below n₀ (W.putObj (B + 1) (rc .busy none)) W3 →
        (Instr.endRound (B + 1) jump).run P W3 = .ok (.bool jump.isNone) (W3.putObj (B + 1) (rc (if jump.isNone then .ready else .done) jump)) ∧ Bk (rc .busy none) W3 := fun jump W3 hk hbw => by
      have h3 := hk.same _ _ (by omega) hb2.1 (hnc _ _)
      have h4 := hk.same _ _ (zG _) hb2.2.1 rfl
      refine ⟨?_, h3, h4, hb2.2.2.trans hbw⟩
      have h5 := h3
      rw [hrc] at h5 ⊢
      exact run_endRound (P := P) jump h5
    have jumped : ∀ (c : Code) (W3 : World), KeepsFrom B (W.putObj (B + 1) (rc .busy none)) W3 → Below n₀ (W.putObj (B + 1) (rc .busy none)) W3 → Ix c (pre ++ [x]) W3 →
        ∃ v w', (Instr.endRound (B + 1) (some c)).run P W3 = .ok v w' ∧
          ((Ending.returned v = .returned (.bool true) ∧ (I (pre ++ [x]) w' ∧ Bk (rc .ready none) w') ∧ Below n₀ W w') ∨ (Ending.returned v = .returned (.bool false) ∧ ∃ c, Ix c (pre ++ [x]) w' ∧ Bk (rc .done (some c)) w')) := fun c W3 hk hbw hx => by
      obtain ⟨hr, hb3⟩ := fin (some c) W3 hk hbw
      exact ⟨_, _, hr, .inr ⟨rfl, c, hIx _ _ _ _ hx (fh hb3.1 (hnc _ _)), hturn _ _ _ hb3⟩⟩
    rintro e a3 W3 ⟨hk, hbw, hp⟩
    cases e with
    | normal =>
      obtain ⟨hr, hb3⟩ := fin none W3 hk hbw
      exact ⟨_, _, hr, .inl ⟨rfl, ⟨hI _ _ _ hp (fh hb3.1 (hnc _ _)), hturn _ _ _ hb3⟩, (hw2.trans hbw).trans (hbel _ W3 (zH (by omega) hb3.2.2.size))⟩⟩
    | ret => exact jumped _ _ hk hbw hp
    | exit id => exact jumped _ _ hk hbw hp
    | goto t => exact jumped _ _ hk hbw hp
    | panic ch => exact hp.elim
    | outgrown => exact hp.elim
  · -- behind the iterator
    rintro e W2 ⟨⟨v, rfl⟩, (⟨hi, hb⟩ | ⟨pre, hp, c, hi, hb⟩)⟩
    · have h5 := hb.1
      have h6 := hb.2.1
      rw [hrc] at h5
      refine ⟨none, _, run_endLoop (P := P) h5 (by simp), hdone B _ (zG _) ?_ (hI _ _ _ hi (fh h5 rfl)) ((B7 (by omega)).trans h6)⟩
      exact hb.2.2.trans (hbel _ W2 (zH (by omega) hb.2.2.size))
    · have h5 := hb.1
      have h6 := hb.2.1
      rw [hrc] at h5
      refine ⟨some c, _, run_endLoop (P := P) h5 (by simp), hstop B c pre _ (zG _) ?_ hp (hIx _ _ _ _ hi (fh h5 rfl)) ((B7 (by omega)).trans h6)⟩
      exact hb.2.2.trans (hbel _ W2 (zH (by omega) hb.2.2.size))
attribute [local go_sem] Oper.semAt_some
theorem mU:(Tryz.prog.info? 23).map (fun i=>(i.zero,i.size,i.bytes))=some (some (.slice none 0 0),1,24):=by kernel_rfl
def BQ(w:World)(S:Nat→Prop)(vs:List Value)(ls:List (List UInt8)):Prop:=
 vs.length=ls.length∧∀(i:Nat) (l:List UInt8),ls[i]?=some l→∃A c,vs[i]?=some (.slice A l.length c)∧(A=none→c=0)∧Rds w S A l.length (bcs l)
section
variable {w w' : World} {S S' : Nat → Prop} {vs : List Value} {ls : List (List UInt8)}
theorem BQ.nil(w:World)(S:Nat→Prop):BQ w S [] []:=⟨rfl,fun i l h=>by simp at h⟩
theorem BQ.mono(h:BQ w S vs ls)(hs:∀k,S k→S' k):BQ w S' vs ls:=
 ⟨h.1,fun i l hl=>by obtain⟨A,c,h1,h0,h2⟩:=h.2 i l hl;exact⟨A,c,h1,h0,h2.mono hs⟩⟩
theorem BQ.chg(h:BQ w S vs ls)(hc:Chg S' w w')(hd:∀k,S k→¬S' k):BQ w' S vs ls:=
 ⟨h.1,fun i l hl=>by obtain⟨A,c,h1,h0,h2⟩:=h.2 i l hl;exact⟨A,c,h1,h0,h2.chg hc hd⟩⟩
theorem BQ.old(h:BQ w S vs ls):BQ w (fun k=>S k∧k<w.heap.size) vs ls:=
 ⟨h.1,fun i l hl=>by obtain⟨A,c,h1,h0,h2⟩:=h.2 i l hl;exact⟨A,c,h1,h0,h2.old⟩⟩
theorem BQ.snoc(h:BQ w S vs ls){A:Option Addr}{l:List UInt8}{n c:Nat}(hn:n=l.length)(hz:A=none→c=0)(hr:Rds w S A n (bcs l)):BQ w S (vs++[.slice A n c]) (ls++[l]):=by
 subst hn;have h1:=h.1;refine⟨by simp[h1],fun i x hx=>?_⟩;by_cases hi:i<ls.length
 ·rw[B2 hi]at hx;obtain⟨A',c',h2,h0,h3⟩:=h.2 i x hx;exact⟨A',c',by rw[B2 (by omega)];exact h2,h0,h3⟩
 ·have hi2:i<(ls++[l]).length:=(zS.1 hx).1;rw[zY,B9]at hi2
  have hij:i=ls.length:=by omega
  subst hij;rw[B3 (zG _),B4,Aq,AP.injEq]at hx;subst hx;exact⟨A,c,by rw[B3 (by omega),h1,B4];rfl,hz,hr⟩
theorem BQ.drop(h:BQ w S vs ls)(k:Nat):BQ w S (vs.drop k) (ls.drop k):=by
 refine⟨by rw[zO,zO,h.1],fun i l hl=>?_⟩;rw[B_]at hl;obtain⟨A,c,h1,h2⟩:=h.2 _ l hl;exact⟨A,c,by rw[B_];exact h1,h2⟩
end
structure SV where
 mi:Int
 pe:Int
 nx:Int
 go:Int
 q:List (List UInt8)
structure SOk(x:SV):Prop where
 len:x.q.length≤64
 bod:∀b∈x.q,1≤b.length∧b.length≤1000
 nx0:0≤x.nx∧x.nx≤1000000000000000
 go0:0≤x.go∧x.go≤1099511627776
def snC(mi pe:Int)(A:Option Addr)(m c:Nat)(nx go:Int):Array Value:=#[U Z mi,U Z pe,.slice A m c,U Z nx,U Z go]
def SN(w:World)(p:Nat)(o:Option Nat)(G:Nat→Prop)(x:SV):Prop:=
 ∃A c vs,Blk w p 207 (snC x.mi x.pe A x.q.length c x.nx x.go)∧w.ownsRow 0 23 1 (.slice A x.q.length c) x.q.length vs∧A.map (·.block)=o∧o≠some p∧BQ w G vs x.q∧¬G p∧∀k,o=some k→¬G k
theorem aL{w:World}{p:Nat}{mi pe nx go:Int}{A:Option Addr}{m c:Nat}{T:TypeId}(h:Blk w p T (snC mi pe A m c nx go)):
  w.cell? ⟨p,0,none⟩=some (U Z mi)∧w.cell? ⟨p,1,none⟩=some (U Z pe)∧w.cell? ⟨p,2,none⟩=some (.slice A m c)∧w.cell? ⟨p,3,none⟩=some (U Z nx)∧w.cell? ⟨p,4,none⟩=some (U Z go):=by
 have h0:=h.cell 0;have h1:=h.cell 1;have h2:=h.cell 2;have h3:=h.cell 3;have h4:=h.cell 4;simp only[snC,Ap,Aq,Ar]at h0 h1 h2 h3 h4;exact⟨h0,h1,h2,h3,h4⟩
theorem SN.lt{w:World}{p:Nat}{o:Option Nat}{G:Nat→Prop}{x:SV}(h:SN w p o G x):p<w.heap.size∧∀k,o=some k→k<w.heap.size:=by
 obtain⟨A,c,vs,hb,hown,ho,_⟩:=h;refine⟨hb.lt,fun k hk=>?_⟩;rw[hk]at ho;have:=hown.lt k (by rw[aG];exact ho);exact this.2
theorem SN.chg{S:Nat→Prop}{w w':World}{p:Nat}{o:Option Nat}{G:Nat→Prop}{x:SV}(h:SN w p o G x)(hc:Chg S w w')(hp:¬S p)(ho:∀k,o=some k→¬S k)(hG:∀k,G k→¬S k):SN w' p o G x:=by
 obtain⟨A,c,vs,hb,hown,h1,h2,h3,h4,h5⟩:=h;exact⟨A,c,vs,hb.chg hc hp,ay hown hc (fun k hk=>ho k (by rw[←h1];exact hk)),h1,h2,h3.chg hc hG,h4,h5⟩
theorem SN.new{w w':World}{p:Nat}{o:Option Nat}{G:Nat→Prop}{x:SV}(h:SN w p o G x)(hc:Chg (fun _=>False) w w'):SN w' p o G x:=h.chg hc id (fun _ _=>id) (fun _ _=>id)
theorem SN.mono{w:World}{p:Nat}{o:Option Nat}{G G':Nat→Prop}{x:SV}(h:SN w p o G x)(hG:∀k,G k→k<w.heap.size→G' k)(hp:¬G' p)(ho:∀k,o=some k→¬G' k):SN w p o G' x:=by
 obtain⟨A,c,vs,hb,hown,h1,h2,h3,h4,h5⟩:=h;exact⟨A,c,vs,hb,hown,h1,h2,h3.old.mono (fun k hk=>hG k hk.1 hk.2),hp,ho⟩
theorem mV(p:Nat)(o:Option Nat)(G:Nat→Prop)(x:SV)(w:World)(h:SN w p o G x):Calls Tryz.prog 124 #[.pointer (some ⟨p,0,none⟩)] w fun e w'=>e=.returned (U Z (x.q.length:Int))∧w=w':=by
 obtain⟨A,c,vs,hb,_⟩:=h;generalize hm:x.q.length=m at*;obtain⟨c0,c1,c2,c3,c4⟩:=aL hb;clear hb hm;go_in
 go_wp2
 go_ret;exact⟨rfl,rfl⟩
theorem rR(p:Nat)(o:Option Nat)(G:Nat→Prop)(x:SV)(w:World)(h:SN w p o G x):Calls Tryz.prog 158 #[.pointer (some ⟨p,0,none⟩)] w fun e w'=>e=.returned (U Z x.pe)∧w=w':=by
 obtain⟨A,c,vs,hb,_⟩:=h;generalize hm:x.q.length=m at*;obtain⟨c0,c1,c2,c3,c4⟩:=aL hb;clear hb hm;go_in
 go_wp2
 go_ret;exact⟨rfl,rfl⟩
theorem lR(m:Nat)(k:Nat)(hk:k<m):(Ca m).take k++[⟨k,hk⟩]=(Ca m).take (k+1):=by
 have hl:k<(Ca m).length:=by simpa using hk
 rw[List.take_succ_eq_append_getElem hl];simp
theorem mn(n p n₀ m c:Nat)(A:Option Addr)(nx:Int)(vs:List Value)(W0:World)(hm:m≤64)(hnx:0≤nx∧nx≤1000000000000000)(hp:p<n₀)
  (z2:W0.cell? ⟨p,2,none⟩=some (.slice A m c)) (z3:W0.cell? ⟨p,3,none⟩=some (U Z nx)) (hr:Rds W0 (fun k=>k<n₀) A m vs):
  rQ n Tryz.prog 153 #[.pointer (some ⟨p,0,none⟩)] n₀ (fun i:Fin m=>#[U Z (nx+(i.1:Int)),vs[i.1]?.getD undef]) (Ca m) W0:=by
 intro l J Jx hY h0;have HR:=hd_ hr;have HZ3:=hd_ z3;have hlen:vs.length=m:=hr.1;clear hr z3;refine callsIn_of_wp Tryz.func153 rfl trivial ?_ rfl;simp only[Tryz.ntmps153,Cb,Ab,Cc,Cd,Ce,Cf,Cg,Ci,Cj,Ck,BR]
 gi_wp2
 gi_loopw [11] (fun i wr=>∃k:Nat,i=U Z (k:Int)∧k≤m∧Hid (J ((Ca m).take k) wr)∧Hid (Below n₀ W0 wr)) (fun i wr=>m-(intOf i).toNat)
 case atStart=>exact⟨0,rfl,zP _,h0,Below.refl _ _⟩
 case round=>
  obtain⟨k,rfl,hk,HJ,HB⟩:=hrel;by_cases hlt:k<m
  ·obtain⟨ad,rfl,hs,hb,hc⟩:=HR.out.cellAt hlt
   have hc2:wr.cell? (ad.add k)=some (vs[k]?.getD undef):=by
    rw[(HB.out.cell (p:=ad.add k) (by rw[bP];exact hs)),hc,zM (by omega)];rfl
   have z3:wr.cell? ⟨p,3,none⟩=some (U Z nx):=(HB.out.cell (p:=⟨p,3,none⟩) hp).trans HZ3.out;obtain⟨fn,tmps,assign,body,hy,hR⟩:=hY ((Ca m).take k) ⟨k,hlt⟩ wr HJ.out (by simp;omega);generalize vs[k]?.getD undef=v at*;have HRR:=hd_ hR;clear hR hc hs hb z2 hY;have hw1:IntKind.i64.wrap (nx+(k:Int))=nx+(k:Int):=IntWalk.i64_in _ (by omega)
   gi_wp2
   refine⟨fun h=>by simp[Fence.wide]at h,HRR.out.mono ?_⟩;rintro e W3 (⟨rfl,hJ3,hk3⟩|⟨rfl,hJx3⟩)
   ·rw[lR]at hJ3;have HJ3:=hd_ hJ3;have HB3:=hd_ (HB.out.trans hk3);clear hJ3 hk3
    gi_wp2
    go_roundw
    case rel=>exact⟨k+1,by go_num,by omega,HJ3,HB3⟩
    case measure=>simp[intOf];omega
   ·rw[lR]at hJx3;have HJ3:=hd_ hJx3;clear hJx3
    gi_wp2
    refine AW (Cl rfl _ _ _) rfl ?_;exact⟨⟨_,rfl⟩,.inr ⟨_,List.take_prefix _ _,HJ3.out⟩⟩
  ·obtain rfl:k=m:=by omega
   gi_wp2
   go_end0
   refine⟨⟨_,rfl⟩,.inl ?_⟩;have:=HJ.out
   rwa [List.take_of_length_le (by simp)]at this
def ltC(m p a s:Int)(A:Option Addr)(n c:Nat):Array Value:=#[U Z m,U Z p,U Z a,U Z s,.slice A n c]
theorem aW{w:World}{r:Nat}{T:TypeId}{m p a s:Int}{A:Option Addr}{n c:Nat}(h:Blk w r T (ltC m p a s A n c)):
  w.cell? ⟨r,0,none⟩=some (U Z m)∧w.cell? ⟨r,1,none⟩=some (U Z p)∧w.cell? ⟨r,2,none⟩=some (U Z a)∧w.cell? ⟨r,3,none⟩=some (U Z s)∧w.cell? ⟨r,4,none⟩=some (.slice A n c):=by
 have h0:=h.cell 0;have h1:=h.cell 1;have h2:=h.cell 2;have h3:=h.cell 3;have h4:=h.cell 4;simp only[ltC,Ap,Aq,Ar]at h0 h1 h2 h3 h4;exact⟨h0,h1,h2,h3,h4⟩
theorem lw{w:World}{r:Nat}{T:TypeId}{cs:Array Value}(hb:Blk w r T cs):w.frozen? ⟨r,0,none⟩=false∧w.frozen? ⟨r,1,none⟩=false∧w.frozen? ⟨r,2,none⟩=false∧w.frozen? ⟨r,3,none⟩=false∧w.frozen? ⟨r,4,none⟩=false:=
 ⟨hb.frozen 0,hb.frozen 1,hb.frozen 2,hb.frozen 3,hb.frozen 4⟩
theorem mW{w:World}{r:Nat}{T:TypeId}{m p a s:Int}{A:Option Addr}{n c:Nat}(hb:Blk w r T (ltC m p a s A n c))(m' p' a' s':Int)(A':Option Addr)(n' c':Nat):
  (w.setCell ⟨r,0,none⟩ (U Z m')).cell? ⟨r,0,none⟩=some (U Z m')∧
  ((w.setCell ⟨r,0,none⟩ (U Z m')).setCell ⟨r,1,none⟩ (U Z p')).cell? ⟨r,1,none⟩=some (U Z p')∧
  (((w.setCell ⟨r,0,none⟩ (U Z m')).setCell ⟨r,1,none⟩ (U Z p')).setCell ⟨r,2,none⟩ (U Z a')).cell? ⟨r,2,none⟩=some (U Z a')∧
  ((((w.setCell ⟨r,0,none⟩ (U Z m')).setCell ⟨r,1,none⟩ (U Z p')).setCell ⟨r,2,none⟩ (U Z a')).setCell ⟨r,3,none⟩ (U Z s')).cell? ⟨r,3,none⟩=some (U Z s')∧
  (((((w.setCell ⟨r,0,none⟩ (U Z m')).setCell ⟨r,1,none⟩ (U Z p')).setCell ⟨r,2,none⟩ (U Z a')).setCell ⟨r,3,none⟩ (U Z s')).setCell ⟨r,4,none⟩ (.slice A' n' c')).cell? ⟨r,4,none⟩=some (.slice A' n' c')∧
  Blk (((((w.setCell ⟨r,0,none⟩ (U Z m')).setCell ⟨r,1,none⟩ (U Z p')).setCell ⟨r,2,none⟩ (U Z a')).setCell ⟨r,3,none⟩ (U Z s')).setCell ⟨r,4,none⟩ (.slice A' n' c')) r T (ltC m' p' a' s' A' n' c')∧Chg (fun k=>k=r) w (((((w.setCell ⟨r,0,none⟩ (U Z m')).setCell ⟨r,1,none⟩ (U Z p')).setCell ⟨r,2,none⟩ (U Z a')).setCell ⟨r,3,none⟩ (U Z s')).setCell ⟨r,4,none⟩ (.slice A' n' c')):=by
 have h0:=(hb.set 0 (U Z m'));have r0:=h0.cell 0;have h1:=((hb.set 0 (U Z m')).set 1 (U Z p'));have r1:=h1.cell 1;have h2:=(((hb.set 0 (U Z m')).set 1 (U Z p')).set 2 (U Z a'));have r2:=h2.cell 2;have h3:=((((hb.set 0 (U Z m')).set 1 (U Z p')).set 2 (U Z a')).set 3 (U Z s'));have r3:=h3.cell 3;have h4:=(((((hb.set 0 (U Z m')).set 1 (U Z p')).set 2 (U Z a')).set 3 (U Z s')).set 4 (.slice A' n' c'));have r4:=h4.cell 4;simp only[ltC,AQ,AR,AS,Ap,Aq,Ar]at r0 r1 r2 r3 r4 h4;exact⟨r0,r1,r2,r3,r4,h4,((((((Chg.refl (fun k=>k=r) w).put r 0 (fun _=>rfl) _).put r 1 (fun _=>rfl) _).put r 2 (fun _=>rfl) _).put r 3 (fun _=>rfl) _).put r 4 (fun _=>rfl) _)⟩
theorem gi(lo hi:Int)(l:List Int)(A:Option Addr)(n c:Nat)(S:Nat→Prop)(w:World)(hn:n=l.length)(hr:Rds w S A n (l.map (Value.int .i64)))(hb:n≤1000):
  Calls Tryz.prog 163 #[U Z lo,U Z hi,.slice A n c] w fun e w'=>e=.returned (.bool (ah lo hi l))∧w=w':=by
 have HN:=hd_ hn;clear hn;go_in
 go_wp2
 go_loop [8,11] (fun _ i=>∃k:Nat,k≤n∧i=U Z k∧∀j (hj:j<l.length),j<k→lo≤l[j]∧l[j]≤hi) (fun _ i=>n-(intOf i).toNat)
 case atStart=>exact⟨0,zP _,rfl,fun j _ h=>absurd h (Nat.not_lt_zero _)⟩
 case round=>
  obtain⟨k,hk,rfl,hall⟩:=hrel;have HA:=hd_ hall;clear hall;by_cases hlt:k<n
  ·obtain⟨ad,rfl,_,_,hc⟩:=hr.cellAt hlt
   have hkl:k<l.length:=by have:=HN.out;omega
   rw[List.getElem?_map,zM hkl]at hc;simp only[Option.map_some]at hc;have hv:∃x,x=l[k]:=⟨_,rfl⟩;obtain⟨x,hxe⟩:=hv;rw[←hxe]at hc;have HX:=hd_ hxe;clear hxe;by_cases h1:x<lo
   ·go_wp2
    go_ret;exact⟨aE (eO k hkl (by have:=HX.out;omega)).symm,rfl⟩
   ·by_cases h2:hi<x
    ·go_wp2
     go_ret;exact⟨aE (eO k hkl (by have:=HX.out;omega)).symm,rfl⟩
    ·go_wp2
     go_round
     case rel=>exact⟨k+1,by omega,by go_num,fun j hj hjk=>by
      by_cases e:j<k
      ·exact HA.out j hj e
      ·have:j=k:=by omega
       subst this;have:=HX.out
       omega⟩
     case measure=>simp[intOf];omega
  ·have:k=n:=by omega
   subst this
   go_wp2
   go_ret;exact⟨aE (jz (fun j hj=>HA.out j hj (by have:=HN.out;omega))).symm,rfl⟩
theorem oT(A:Option Addr)(n c:Nat)(w:World)(hn:n≤9223372036854775807):Calls Tryz.prog 183 #[.slice A n c] w fun e w'=>e=.returned (.bool (ah 1 1000 [(n:Int)]))∧Chg (fun _=>False) w w':=by
 have HW:=hd_ (gi 1 1000 [(n:Int)] (some ⟨w.heap.size,0,none⟩) 1 1 _ (w.alloc (.cells #[U Z (n:Int)] 3)) rfl (aK w 3 #[U Z (n:Int)] (0,0) w.heap.size rfl _ 1 rfl rfl) (by decide));generalize ah 1 1000 [(n:Int)]=b at*;go_in;go_wp2_with fail;refine HW.out.mono ?_;rintro e w1 ⟨rfl,rfl⟩;go_wp2_with fail;go_ret;exact⟨rfl,(Chg.refl _ w).alloc _⟩
def HL(m p a s:Int)(b:List UInt8)(w:World)(e:Ending)(w':World):Prop:=
 ∃E d,e=.returned (.agg (ltC m p a s E b.length d))∧(E=none→d=0)∧Rds w' (fun k=>w.heap.size≤k) E b.length (bcs b)∧Chg (fun _=>False) w w'
structure LV where
 mi:Int
 pe:Int
 ac:Int
 se:Int
 b:List UInt8
structure LA where
 mi:Int
 pe:Int
 ac:Int
 se:Int
 A:Option Addr
 n:Nat
 c:Nat
def LA.cs(y:LA):Array Value:=ltC y.mi y.pe y.ac y.se y.A y.n y.c
def LA.is(w:World)(S:Nat→Prop)(y:LA)(l:LV):Prop:=y.mi=l.mi∧y.pe=l.pe∧y.ac=l.ac∧y.se=l.se∧y.n=l.b.length∧(y.A=none→y.c=0)∧Rds w S y.A y.n (bcs l.b)
def LB(w:World)(S:Nat→Prop)(ys:List LA)(ls:List LV):Prop:=ys.length=ls.length∧∀(i:Nat) (y:LA) (l:LV),ys[i]?=some y→ls[i]?=some l→LA.is w S y l
section
variable {w w' : World} {S S' : Nat → Prop} {ys : List LA} {ls : List LV}
theorem LA.is_mono{y:LA}{l:LV}(h:LA.is w S y l)(hs:∀k,S k→S' k):LA.is w S' y l:=⟨h.1,h.2.1,h.2.2.1,h.2.2.2.1,h.2.2.2.2.1,h.2.2.2.2.2.1,h.2.2.2.2.2.2.mono hs⟩
theorem LA.is_chg{y:LA}{l:LV}(h:LA.is w S y l)(hc:Chg S' w w')(hd:∀k,S k→¬S' k):LA.is w' S y l:=⟨h.1,h.2.1,h.2.2.1,h.2.2.2.1,h.2.2.2.2.1,h.2.2.2.2.2.1,h.2.2.2.2.2.2.chg hc hd⟩
theorem LB.nil(w:World)(S:Nat→Prop):LB w S [] []:=⟨rfl,fun i y l h=>by simp at h⟩
theorem LB.mono(h:LB w S ys ls)(hs:∀k,S k→S' k):LB w S' ys ls:=⟨h.1,fun i y l h1 h2=>LA.is_mono (h.2 i y l h1 h2) hs⟩
theorem LB.chg(h:LB w S ys ls)(hc:Chg S' w w')(hd:∀k,S k→¬S' k):LB w' S ys ls:=⟨h.1,fun i y l h1 h2=>LA.is_chg (h.2 i y l h1 h2) hc hd⟩
theorem LB.old(h:LB w S ys ls):LB w (fun k=>S k∧k<w.heap.size) ys ls:=
 ⟨h.1,fun i y l h1 h2=>by obtain⟨a1,a2,a3,a4,a5,a6,a7⟩:=h.2 i y l h1 h2;exact⟨a1,a2,a3,a4,a5,a6,a7.old⟩⟩
theorem LB.abd(h:LB w S ys ls)(ha:Abd w w'):LB w' S ys ls:=
 ⟨h.1,fun i y l h1 h2=>by obtain⟨a1,a2,a3,a4,a5,a6,a7⟩:=h.2 i y l h1 h2;exact⟨a1,a2,a3,a4,a5,a6,a7.abd ha⟩⟩
theorem LB.snoc(h:LB w S ys ls){y:LA}{l:LV}(hy:LA.is w S y l):LB w S (ys++[y]) (ls++[l]):=by
 have h1:=h.1;refine⟨by simp[h1],fun i a b ha hb=>?_⟩;by_cases hi:i<ls.length
 ·rw[B2 hi]at hb;rw[B2 (by omega)]at ha;exact h.2 i a b ha hb
 ·have hi2:i<(ls++[l]).length:=(zS.1 hb).1;rw[zY,B9]at hi2
  have hij:i=ls.length:=by omega
  subst hij;rw[B3 (zG _),B4,Aq,AP.injEq]at hb;rw[B3 (by omega),h1,B4,Aq,AP.injEq]at ha;subst ha;subst hb;exact hy
end
theorem kI{w:World}{base:Nat}{e:TypeId}{size n c:Nat}{A:Option Addr}{xs:List Value}{g:Nat}{t:TypeId}{cs:Array Value}(ho:w.ownsRow base e size (.slice A n c) n xs)(hb:Blk w g t cs)(ht:t≠e):A.map (·.block)≠some g:=by
 intro hA;rcases ho.2 with⟨hv,_⟩|⟨k,cap,cur,hv,_,hh,_⟩
 ·injection hv with hv;subst hv;cases hA
 ·injection hv with hv;subst hv
  have hk:k=g:=by simpa using hA
  subst hk;have h:=hh.symm.trans hb;simp at h;exact ht h.2.symm
theorem gK{w:World}{base:Nat}{e:TypeId}{size n c:Nat}{A:Option Addr}{xs:List Value}(ho:w.ownsRow base e size (.slice A n c) n xs){k:Nat}{o:Obj}(hA:A.map (·.block)=some k)(hk:w.heap[k]?=some o):o.isCells=true:=by
 rcases ho.2 with⟨hv,_⟩|⟨g,cap,cur,hv,_,hh,_⟩
 ·injection hv with hv;subst hv;cases hA
 ·injection hv with hv;subst hv
  have hg:g=k:=by simpa using hA
  subst hg;rw[hh]at hk;injection hk with hk;subst hk;rfl
theorem iw{P:Program}(w:World){ops:Array Oper}{o:Oper}{a:Act}{K:Act→World→Prop}{Q:Exit→Act→World→Prop}{E:Prop}(hgd:o.guard=none)(s x:Operand)(t:TypeId)
  (ho:o.op=.call {callee:=.builtin .append,args:=#[s,x],argTypes:=#[t,t]})
  (base:Nat) (e:TypeId) (i:TypeInfo) (z:Value) (size bytes:Nat) (ht:P.underlying t=some (.slice e)) (hi:P.info? e=some i) (hz:i.zero=some z)
  (hsize:i.size=size) (hby:i.bytes=bytes) (hzs:z.cells.size=size) (hpos:0<size)
  (v:Value) (n:Nat) (xs:List Value) (hs:a.eval s=v) (hown:w.ownsRow base e size v n xs)
  (ad:Addr) (m c:Nat) (news:List Value) (hx:a.eval x=.slice (some ad) m c) (hl:news.length=m*size) (hnews:∀j u,news[j]?=some u→w.cell? (ad.add j)=some u) (h1:∀u∈news,u.oneCell'=true)
  (h63:n+m≤maxLen) (hbytes:(n+m)*bytes≤140737488355328) (hbase:base≤w.heap.size)
  (h:∀v' w',w'.ownsRow base e size v' (n+m) (xs++news)→w.grownBy w' v.ownBlock→(v'.ownBlock=v.ownBlock∨v'.ownBlock=some w.heap.size)→K (a.put o.dst v') w'):
  if zV o (yielded ops a.tmps)=true then Oper.wp P o a w K Q else E:=by
 rw[if_pos (by simp[zV,hgd])];obtain⟨v',w',hrun,h2,h3,_,h4⟩:=run_append_own_at (P:=P) w base t o.type e i z size bytes ht hi hz hsize hby hzs hpos v n xs hown ad m c news hl hnews h1 h63 hbytes hbase;unfold Oper.wp execOp;simp only[ho,resolve,invoke,builtin,Sem.run_bind,Sem.run_pure,Result.andThen_ok,List.map_toArray,List.map_cons,List.map_nil,hs,hx,hrun];exact h v' w' h2 h3 h4
def SB(n₀ b1:Nat)(A:Option Addr)(k:Nat):Prop:=n₀≤k∧k≠b1∧A.map (·.block)≠some k
def js(w:World)(n₀ b1:Nat)(A:Option Addr)(n c:Nat)(ys:List LA)(ls:List LV):Prop:=
 Blk w b1 166 #[.slice A n c]∧w.ownsRow n₀ 122 5 (.slice A n c) n (ys.flatMap fun y=>y.cs.toList)∧LB w (SB n₀ b1 A) ys ls∧n=ls.length
theorem js.new{w w':World}{n₀ b1:Nat}{A:Option Addr}{n c:Nat}{ys:List LA}{ls:List LV}(h:js w n₀ b1 A n c ys ls)(hc:Chg (fun _=>False) w w'):js w' n₀ b1 A n c ys ls:=
 ⟨h.1.chg hc id,ay h.2.1 hc (fun _ _=>id),h.2.2.1.chg hc (fun _ _=>id),h.2.2.2⟩
theorem js.abd{w w':World}{n₀ b1:Nat}{A:Option Addr}{n c:Nat}{ys:List LA}{ls:List LV}(h:js w n₀ b1 A n c ys ls)(ha:Abd w w'):js w' n₀ b1 A n c ys ls:=
 ⟨h.1.abd ha,oS h.2.1 ha,h.2.2.1.abd ha,h.2.2.2⟩
theorem SN.old{w:World}{p:Nat}{o:Option Nat}{G:Nat→Prop}{x:SV}(h:SN w p o G x):SN w p o (fun k=>G k∧k<w.heap.size) x:=by
 obtain⟨A,c,vs,hb,hown,h1,h2,h3,h4,h5⟩:=h;exact⟨A,c,vs,hb,hown,h1,h2,h3.old,fun hh=>h4 hh.1,fun k hk hh=>h5 k hk hh.1⟩
theorem SN.below{w w':World}{p:Nat}{o:Option Nat}{G:Nat→Prop}{x:SV}(h:SN w p o G x)(hb:Below w.heap.size w w'):SN w' p o (fun k=>G k∧k<w.heap.size) x:=by
 have hlt:=h.lt;exact h.old.chg (gJ hb (S:=fun k=>w.heap.size≤k) (fun _ h=>h)) (by omega) (fun k hk=>by have:=hlt.2 k hk;omega) (fun k hk=>by have:=hk.2;omega)
attribute [local go_sem] Oper.semAt_some
theorem eR{t:TypeId}{g:Nat}:∀(vs:List Value) (o:Nat) (w:World) (cs:Array Value),Blk w g t cs→∃cs',Blk (w.setCells g o vs) g t cs'∧cs'.size=cs.size
 |[],_,_,cs,h=>⟨cs,h,rfl⟩
 |v::r,o,w,cs,h=>by
  obtain⟨cs',h1,h2⟩:=eR r (o+1) _ _ (h.set o v);exact⟨cs',h1,by rw[h2];simp⟩
theorem gj{g:Nat}{a:World}{S:Nat→Prop}(hg:S g):∀(vs:List Value) (o:Nat) (w:World),Chg S a w→Chg S a (w.setCells g o vs)
 |[],_,_,h=>h
 |v::r,o,w,h=>gj hg r (o+1) _ (h.put g o (fun _=>hg) v)
theorem rS{w w1:World}{g m c k B:Nat}{cur:Array Value}{vs:List Value}{z:Value}(hb:Blk w g 23 cur)(hB:B≤g)(hc:cur.size=c)(hm:m≤c)(hmx:c≤maxLen)(hk:k≤m)(hv:cur.toList.take m=vs)(hvl:vs.length=m)
  (h1:w1=(w.setCells g 0 (vs.drop k)).setCells g (m-k) (Cm k z)):w1.ownsRow B 23 1 (.slice (some ⟨g,0,none⟩) (m-k) c) (m-k) (vs.drop k):=by
 subst h1;obtain⟨cs1,hb1,hs1⟩:=eR (vs.drop k) 0 w cur hb;obtain⟨cs2,hb2,hs2⟩:=eR (Cm k z) (m-k) _ cs1 hb1;refine⟨by simp[hvl],.inr ⟨g,c,cs2,rfl,hB,hb2,by omega,hmx,by omega,?_⟩⟩;refine List.ext_getElem? (fun j=>?_);rw[Cn,B5];by_cases hj:j<m-k
 ·rw[if_pos hj,Co,←hb2.cell j,World.cell?_setCells_out g _ _ _ ⟨g,j,none⟩ (fun _ _=>.inl hj)]
  have hl:j<(vs.drop k).length:=by rw[zO];omega
  have h:=World.cell?_setCells_in g (vs.drop k) 0 w (fun i hi=>by
   rw[zO]at hi;rw[hb.cell,Cp (by omega)]
   rfl) j hl
  rw[Nat.zero_add]at h;rw[h,zM hl]
 ·rw[if_neg hj,List.getElem?_eq_none (by rw[zO];omega)]
theorem ur(w:World):(zeroValue 23).run Tryz.prog w=.ok (.slice none 0 0) w:=Tryz.zeroValue23 w
theorem nK(s:Option Addr)(m c:Nat)(w:World)(hm:m≤c)(hc:c≤maxLen)(hz:s=none→c=0):Calls Tryz.prog 184 #[.slice s m c,U Z 0,U Z 0] w fun e w'=>e=.returned (.slice s m c)∧w=w':=by
 unfold maxLen at hc;go_in
 go_wp2
 all_goals
  go_ret;exact⟨rfl,rfl⟩
theorem nL(g m c k B:Nat)(cur:Array Value)(vs:List Value)(w:World)(hb:Blk w g 23 cur)(hB:B≤g)(hc:cur.size=c)(hm:m≤c)(hmx:c≤maxLen)(hk:k≤m)(hk1:1≤k)(hv:cur.toList.take m=vs)(hvl:vs.length=m)(h1c:∀u∈vs,u.oneCell'=true):Calls Tryz.prog 184 #[.slice (some ⟨g,0,none⟩) m c,U Z 0,U Z (k:Int)] w fun e w'=>e=.returned (.slice (some ⟨g,0,none⟩) (m-k) c)∧w'.ownsRow B 23 1 (.slice (some ⟨g,0,none⟩) (m-k) c) (m-k) (vs.drop k)∧Chg (fun j=>j=g) w w':=by
 obtain⟨i0,hi0,hz0,hz1,hz2⟩:=info_parts mU;have hcm:c≤9223372036854775807:=hmx
 obtain⟨A,hA,hsrc⟩:∃A:Addr,(if c=k then(some ⟨g,0,none⟩:Option Addr)else some ⟨g,k,none⟩)=some A∧Hid (∀t u,(vs.drop k)[t]?=some u→w.drew.cell? (A.add t)=some u):=by
  by_cases h:c=k
  ·refine⟨⟨g,0,none⟩,by simp[h],fun t u hu=>?_⟩
   have h0:(vs.drop k).length=0:=by rw[zO];omega
   rw[List.length_eq_zero_iff.1 h0]at hu;simp at hu
  ·refine⟨⟨g,k,none⟩,by simp[h],fun t u hu=>?_⟩
   have e:(⟨g,k,none⟩:Addr).add t=⟨g,k+t,none⟩:=by unfold Addr.add;split<;>simp_all
   rw[e];show w.cell? _=_
   rw[hb.cell,←hu,B_,←hv,B5,if_pos (by
    have:=(zS.1 hu).1;rw[zO]at this
    omega),Co]
 have S1:=hd_ (show (vs.drop k).length=(m-k)*1 from by rw[zO];omega);have S2:=hd_ (show∀u∈vs.drop k,u.oneCell'=true from fun u hu=>h1c u (List.mem_of_mem_drop hu))
 have S3:=hd_ (show∀t,t<(vs.drop k).length→(w.drew.cell? ⟨g,0+0*1+t,none⟩).isSome=true∧w.drew.frozen? ⟨g,0+0*1+t,none⟩=false from fun t ht=>by
  rw[zO]at ht;refine⟨?_,hb.frozen _⟩;show (w.cell? _).isSome=true;rw[hb.cell,Cp (by omega)]
  rfl)
 obtain⟨W1,hW1⟩:∃W1,W1=w.drew.setCells g 0 (vs.drop k):=⟨_,rfl⟩;obtain⟨cs1,hb1,hs1⟩:=eR (vs.drop k) 0 w.drew cur hb;rw[←hW1]at hb1
 have hcl:∀ty,(Builtin.clear_ #[89] ty #[.slice (some ⟨g,m-k,none⟩) (m-(m-k)) (c-(m-k))]).run Tryz.prog W1=.ok (.tuple #[]) (W1.setCells g (m-k) (Cm (m-(m-k)) (.slice none 0 0))):=
  fun ty=>Lib.run_clear_slice W1 _ _ ty _ Tryz.underlying89 ur rfl rfl g (m-k) _ _ (by omega) (fun t ht=>by rw[hb1.cell,Cp (by omega)];rfl) (fun t ht=>hb1.frozen _)
 have HOWN:=hd_ (fun z=>rS (w:=w.drew) (z:=z) (B:=B) hb hB hc hm hmx hk hv hvl rfl);have HW:=hd_ hW1
 have hkc:k≤c:=by omega
 have hmk:m-k<c:=by omega
 have hmk2:m-k≤m:=by omega
 clear hb hv hvl h1c hb1 hs1 hW1 hc;go_in;go_wp2_with fail
 go_region_law (refine step_append_room rfl (.tmp 22) (.tmp 25) 89 rfl 23 i0 1 Tryz.underlying89 hi0 hz1 g 0 0 c (by simp[Act.eval,Act.put]) A (m-k) (c-k) (vs.drop k) (by simp[Act.eval,Act.put]) S1.out hsrc.out S2.out (by omega) S3.out ?_;rw[show 0+0*1=0 from rfl,←HW.out])
 go_wp2_with fail;go_ret
 have e:m-(m-k)=k:=by omega
 rw[e];refine⟨by simp,?_,?_⟩
 ·rw[HW.out];exact HOWN.out _
 ·rw[HW.out];exact gj (S:=fun j=>j=g) rfl _ _ _ (gj (S:=fun j=>j=g) rfl _ _ _ (Chg.refl _ w).drew)
def zr(w:World)(A:Option Addr)(m c k:Nat)(vs:List Value)(e:Ending)(w':World):Prop:=
 e=.returned (.slice A (m-k) c)∧w'.ownsRow 0 23 1 (.slice A (m-k) c) (m-k) (vs.drop k)∧Chg (fun j=>A.map (·.block)=some j) w w'
theorem mX(A:Option Addr)(m c k:Nat)(vs:List Value)(w:World)(ho:w.ownsRow 0 23 1 (.slice A m c) m vs)(hk:k≤m)(h1c:∀u∈vs,u.oneCell'=true):Calls Tryz.prog 184 #[.slice A m c,U Z 0,U Z (k:Int)] w (zr w A m c k vs):=by
 have hcap:=oq ho;have hnil:=d7 ho;rcases zQ k with h0|h1
 ·subst h0;refine(nK A m c w hcap.1 hcap.2 hnil).mono ?_;rintro e w' ⟨rfl,rfl⟩;exact⟨rfl,ho,Chg.refl _ _⟩
 ·have hvl:vs.length=m:=by have:=ho.1;simpa using this
  rcases ho.2 with⟨hv,hm⟩|⟨g,cap,cur,hv,_,hh,h2,h3,h4,h5⟩
  ·omega
  ·injection hv with hA hn hc;subst hA;subst hc;rw[Cn]at h4 h5;refine(nL g m c k 0 cur vs w hh (zP _) h4 h2 h3 hk h1 h5 hvl h1c).mono ?_;rintro e w' ⟨rfl,h6,h7⟩;exact⟨rfl,h6,h7.mono (fun j _ e=>by subst e;rfl)⟩
attribute [local go_sem] Oper.semAt_some
def i1(nx ack:Int)(m:Nat):Nat:=min m (ack+1-nx).toNat
def dJ(x:SV)(ack:Int):SV:={x with q:=x.q.drop (i1 x.nx ack x.q.length),nx:=x.nx+(i1 x.nx ack x.q.length:Int)}
def zt(p:Nat)(o:Option Nat)(G:Nat→Prop)(x:SV)(ack:Int)(w:World)(e:Ending)(w':World):Prop:=
 e=.returned (.tuple #[])∧SN w' p o G (dJ x ack)∧Chg (fun k=>k=p∨o=some k) w w'
def pV(w:World)(m:Nat)(nx ack:Int)(pre:List (Fin m))(W:World):Prop:=
 (∀i∈pre,nx+(i.1:Int)≤ack)∧Blk W w.heap.size 3 #[U Z ack]∧Blk W (w.heap.size+1) 3 #[U Z (pre.length:Int)]
def pW(w:World)(m:Nat)(nx ack:Int)(cd:Code)(pre:List (Fin m))(W:World):Prop:=
 cd=.exit 0∧∃pre' i,pre=pre'++[i]∧ack<nx+(i.1:Int)∧pV w m nx ack pre' W
theorem mY{w:World}{m:Nat}{nx ack:Int}{pre:List (Fin m)}{W W':World}(h:pV w m nx ack pre W)(ha:Abd W W'):pV w m nx ack pre W':=⟨h.1,h.2.1.abd ha,h.2.2.abd ha⟩
theorem rT{w:World}{m:Nat}{nx ack:Int}{cd:Code}{pre:List (Fin m)}{W W':World}(h:pW w m nx ack cd pre W)(ha:Abd W W'):pW w m nx ack cd pre W':=by
 obtain⟨h1,pre',i,h2,h3,h4⟩:=h;exact⟨h1,pre',i,h2,h3,mY h4 ha⟩
theorem wA{m:Nat}{nx ack:Int}(h:∀i∈Ca m,nx+(i.1:Int)≤ack):i1 nx ack m=m:=by
 unfold i1;rcases zQ m with h0|h0
 ·subst h0;simp
 ·have:=h ⟨m-1,by omega⟩ (by simp);simp only at this;omega
theorem ut{m:Nat}{nx ack:Int}{pre:List (Fin m)}{i:Fin m}(hp:pre++[i]<+:Ca m)(h:∀j∈pre,nx+(j.1:Int)≤ack)(hi:ack<nx+(i.1:Int)):i1 nx ack m=pre.length:=by
 have hl:=hp.length_le;simp only[zY,Ab,Cc,Cq]at hl
 have hat:∀(j:Nat) (hj:j<pre.length+1),(pre++[i])[j]'(by simpa using hj)=⟨j,by omega⟩:=fun j hj=>by
  have h1:=hp.getElem (i:=j) (by simpa using hj);rw[h1];simp
 have h1:i.1=pre.length:=by
  have h2:=hat pre.length (by omega);simp at h2;rw[h2]
 unfold i1;rcases zQ pre.length with h0|h0
 ·omega
 ·have h2:=hat (pre.length-1) (by omega);rw[List.getElem_append_left (by omega)]at h2;have h3:=h _ (List.getElem_mem (l:=pre) (n:=pre.length-1) (by omega));rw[h2]at h3;simp only at h3;omega
theorem rU{w:World}{S:Nat→Prop}{vs:List Value}{ls:List (List UInt8)}(h:BQ w S vs ls):∀u∈vs,u.oneCell'=true:=fun u hu=>by
 obtain⟨i,hi,rfl⟩:=List.getElem_of_mem hu;have h1:=h.1;obtain⟨A,c,h2,_⟩:=h.2 i ls[i] (zM (by omega));rw[zM hi]at h2;injection h2 with h2;rw[h2];rfl
theorem lS{W:World}{p:Nat}{o:Option Nat}{T:TypeId}{cs:Array Value}(hp:Blk W p T cs)(ho:∀(k:Nat) (o':Obj),o=some k→W.heap[k]?=some o'→o'.isCells=true){k:Nat}{o':Obj}(hk:W.heap[k]?=some o')(e:k=p∨o=some k):o'.isCells=true:=by
 rcases e with rfl|e
 ·rw[show W.heap[k]?=_ from hp]at hk;injection hk with hk;subst hk;rfl
 ·exact ho k o' e hk
theorem BQ.abd{w w':World}{S:Nat→Prop}{vs:List Value}{ls:List (List UInt8)}(h:BQ w S vs ls)(ha:Abd w w'):BQ w' S vs ls:=
 ⟨h.1,fun i l hl=>by obtain⟨A,c,h1,h0,h2⟩:=h.2 i l hl;exact⟨A,c,h1,h0,h2.abd ha⟩⟩
theorem SN.abd{w w':World}{p:Nat}{o:Option Nat}{G:Nat→Prop}{x:SV}(h:SN w p o G x)(ha:Abd w w'):SN w' p o G x:=by
 obtain⟨A,c,vs,hb,hown,h1,h2,h3,h4,h5⟩:=h;exact⟨A,c,vs,hb.abd ha,oS hown ha,h1,h2,h3.abd ha,h4,h5⟩
theorem SN.drew{w:World}{p:Nat}{o:Option Nat}{G:Nat→Prop}{x:SV}(h:SN w p o G x):SN w.drew p o G x:=h
theorem mZ (p : Nat) (o : Option Nat) (G : Nat → Prop) (x : SV) (ack : Int) (w : World) (h : SN w p o G x) (hok : SOk x) : Calls Tryz.prog 123 #[.pointer (some ⟨p, 0, none⟩), .int .i64 ack] w (zt p o G x ack w) := by
  have HSN := Lib.hid h
  have HOK := Lib.hid hok
  have hgp : ¬ G p := by obtain ⟨_, _, _, _, _, _, _, _, h1, _⟩ := h; exact h1
  have hgo : ∀ k, o = some k → ¬ G k := by obtain ⟨_, _, _, _, _, _, _, _, _, h1⟩ := h; exact h1
  obtain ⟨A, c, vs, hb, hown, ho, hne, hbq, hG1, hG2⟩ := h.old
  have hplt := hb.lt
  have hcel := aL hb
  have hrow := cB hown
  have hnx := hok.nx0
  have hq64 := hok.len
  generalize hm : x.q.length = m at *
  have HM := Lib.hid hm
  have HBQ := Lib.hid hbq
  obtain ⟨mi, pe, nx, go, q⟩ := x
  simp only at hcel hnx hm HM hq64
  obtain ⟨z0, z1, z2, z3, z4⟩ := hcel
  have hb0 : Blk ((w.alloc (.cells #[.int .i64 ack] 3)).alloc (.cells #[.int .i64 0] 3)) w.heap.size 3 #[.int .i64 ack] := (af rfl).alloc _
  have hb1 : Blk ((w.alloc (.cells #[.int .i64 ack] 3)).alloc (.cells #[.int .i64 0] 3)) (w.heap.size + 1) 3 #[.int .i64 0] := af (by simp)
  have hB2 : Below w.heap.size w ((w.alloc (.cells #[.int .i64 ack] 3)).alloc (.cells #[.int .i64 0] 3)) := ((Below.refl _ w).alloc (zG _) _).alloc (by simp) _
  have HIT := Lib.hid (fun W (hW : Below w.heap.size ((w.alloc (.cells #[.int .i64 ack] 3)).alloc (.cells #[.int .i64 0] 3)) W) => mn 2 p w.heap.size m c A nx vs W hq64 hnx hplt (((hB2.trans hW).cell (p := ⟨p, 2, none⟩) hplt).trans z2) (((hB2.trans hW).cell (p := ⟨p, 3, none⟩) hplt).trans z3) ((hrow.chg (gJ (hB2.trans hW) (S := fun k => w.heap.size ≤ k) (fun _ h => h)) (fun k hk => by have := hk.2; omega)).mono (fun k hk => hk.2)))
  have HB0 := Lib.hid hb0
  have HB1 := Lib.hid hb1
  have HB2 := Lib.hid hB2
  have HSZ2 := Lib.hid (show w.heap.size ≤ ((w.alloc (.cells #[.int .i64 ack] 3)).alloc (.cells #[.int .i64 0] 3)).heap.size from by simp; omega)
  have HPLT := Lib.hid hplt
  clear hb hown hbq hrow hb0 hb1 hB2 z0 z1 z2 z3 z4 hm
  refine (callsIn_wide (n := 3)).1 ?_
  refine callsIn_of_wp_marks Tryz.func123 rfl trivial ?_ rfl
  simp only [Tryz.ntmps123, Cb, Ab, Cc, Cd, Ce, Cf, Cg, Ci, Cj, Ck, BR]
  gi_wp2
  refine xy (gf := 153) (first := #[.pointer (some ⟨p, 0, none⟩)]) rfl (enters_of Tryz.func153 (by kernel_rfl) rfl) (encs := fun i : Fin m => #[.int .i64 (nx + (i.1 : Int)), vs[i.1]?.getD undef]) (xs := Ca m) w.heap.size HSZ2.out HIT.out (fun _ => rfl)
    (pV w m nx ack) (pW w m nx ack) (fun _ _ _ => mY) (fun _ _ _ _ => rT) ⟨by simp, HB0.out, HB1.out⟩ (fun i => { tmps := #[.pointer (some ⟨p, 0, none⟩), .int .i64 ack, undef, .pointer (some ⟨w.heap.size, 0, none⟩), .pointer (some ⟨w.heap.size + 1, 0, none⟩), .int .i64 (nx + (i.1 : Int)), .pointer (some ⟨p, 0, none⟩), .func (.func 153) #[.pointer (some ⟨p, 0, none⟩)] #[], .int .i64 (nx + (i.1 : Int)), vs[i.1]?.getD undef, undef, undef, undef, undef, undef, undef, undef, undef, undef, undef, undef, undef, undef, undef, undef, undef, undef, undef, undef, undef, undef, undef], defers := [] }) ?assign ?body ?done ?stop
  case assign =>
    intro l i W K hK
    gi_wp2
    exact hK
  case body =>
    rintro l pre i W hpl hBW ⟨hall, hb0, hb1⟩
    have hc0 := hb0.cell 0
    have hc1 := hb1.cell 0
    simp only [Ap, Aq] at hc0 hc1
    have hf1 := hb1.frozen 0
    have hlen : (pre.length : Int) ≤ 9223372036854775806 := by simp at hpl; omega
    by_cases hgt : ack < nx + (i.1 : Int)
    · gi_wp2
      exact ⟨KeepsFrom.refl _ _, Below.refl _ _, rfl, pre, i, rfl, hgt, hall, hb0, hb1⟩
    · have hw1 : IntKind.i64.wrap ((pre.length : Int) + 1) = (pre.length : Int) + 1 := IntWalk.i64_in _ (by omega)
      gi_wp2
      have hcs := (Chg.refl (fun k => k = w.heap.size + 1) W).put (w.heap.size + 1) 0 (fun _ => rfl) (.int .i64 ((pre.length : Int) + 1))
      refine ⟨hcs.keepsFrom _ (fun k o hk e => ?_), rP (hcs.mono (fun k _ e => by omega)) (zH (by simp; omega) hBW.size), ?_, hb0.chg hcs (by omega), ?_⟩
      · subst e
        rw [show W.heap[w.heap.size + 1]? = _ from hb1] at hk
        injection hk with hk
        subst hk
        rfl
      · intro j hj
        rcases List.mem_append.1 hj with hj | hj
        · exact hall j hj
        · rw [List.mem_singleton] at hj
          subst hj
          omega
      · have h := hb1.set 0 (.int .i64 ((pre.length : Int) + 1))
        simp only [zY, Ab, Cc]
        exact h
  case done =>
    rintro D W hD hBW ⟨hall, hb0, hb1⟩ hK
    have hk := wA hall
    rw [Cq] at hb1
    obtain ⟨k, hkk⟩ : ∃ k : Nat, m = k := ⟨m, rfl⟩
    have hkm : k ≤ m := by omega
    rw [show (m : Int) = (k : Int) from by omega] at hb1
    have HK := Lib.hid (hk.trans hkk)
    clear hall hk hkk
    have HBW := Lib.hid (HB2.out.trans hBW)
    have HKD := Lib.hid hK
    have HD := Lib.hid (show w.heap.size ≤ D from zH HSZ2.out hD)
    obtain ⟨A2, c2, vs2, hbW, hownW, hoW, hneW, hbqW, -, -⟩ := HSN.out.below HBW.out
    rw [show (SV.mk mi pe nx go q).q.length = m from HM.out] at hbW hownW
    obtain ⟨y0, y1, y2, y3, y4⟩ := aL hbW
    have hB1 := hb1
    have t1 := hb1.cell 0
    simp only [Ap, Aq] at t1
    have HOA := Lib.hid (show ∀ (k : Nat) (o' : Obj), o = some k → W.heap[k]? = some o' → o'.isCells = true from fun k o' e hk => gK hownW (by rw [hoW]; exact e) hk)
    have HB1 := Lib.hid hb1
    have HPB := Lib.hid hbW
    have HOW := Lib.hid (And.intro hoW hneW)
    have HBQW := Lib.hid hbqW
    have HDE := Lib.hid (mX A2 m c2 k vs2 W.drew hownW hkm (rU hbqW))
    have HWS := Lib.hid HBW.out.size
    have hop : ∀ j, A2.map (·.block) = some j → j < w.heap.size := fun j hj => by
      have h1 := HSN.out.lt.2 j (by rw [← hoW]; exact hj)
      exact h1
    have HOP := Lib.hid hop
    have hnk : nx + (k : Int) ≤ 2000000000000000 := by omega
    clear hb0 hb1 hBW hK hD hB1 hbW hownW hoW hneW hbqW hop
    gi_wp2
    refine wpIn_wide.2 ?_
    refine Cr ?_
    refine Cs (S := (fun w' => w'.cell? ⟨w.heap.size + 1, 0, none⟩ = some (.int .i64 (k : Int)))) (by kernel_rfl) t1 (fun hHeld => ?_)
    iterate 5
      first
        | refine tk 0 ?_ ?_ ?_
        | refine tk 1 ?_ ?_ ?_
        | refine tk 2 ?_ ?_ ?_
        | refine tk 3 ?_ ?_ ?_
        | refine tk 5 ?_ ?_ ?_
      rotate_left
      · intro w' hSw
        try dsimp only at hSw
        go_simp
        first | done | (with_reducible rfl)
      try simp only [AZ, A7, A8, Act.put, AQ, AS, AR]
    refine A_ (rs := [4]) (by kernel_rfl) (by simp) ?_
    refine Ba rfl (fun K hK => ?_) AllReadyH.nil
    go_simp
    refine hK.out _ _ t1 (fun hHeld => ?_)
    clear hK K
    try simp only [AZ, A7, A8, Act.put, AQ, AS, AR]
    refine A_ (rs := [6]) (by kernel_rfl) (by simp) ?_
    refine Ba rfl (fun K hK => ?_) AllReadyH.nil
    go_simp
    refine HDE.out.mono ?_
    rintro e w3 ⟨rfl, hown3, hc3⟩
    have hb3 := HB1.out.drew.chg hc3 (fun e => by have := HOP.out _ e; omega)
    have t3 := hb3.cell 0
    simp only [Ap, Aq] at t3
    have hp3 := HPB.out.drew.chg hc3 (fun e => HOW.out.2 (by rw [← HOW.out.1]; exact e))
    have x2 := (aL hp3).2.2.1
    have g2 := hp3.frozen 2
    have HB3 := Lib.hid hb3
    have HP3 := Lib.hid hp3
    have HO3 := Lib.hid hown3
    have HC3 := Lib.hid hc3
    clear hb3 hp3 hown3 hc3 HDE
    go_wp2_with fail
    refine hK.out _ _ t3 (fun hHeld => ?_)
    clear hK K
    try simp only [AZ, A7, A8, Act.put, AQ, AS, AR]
    have hb4 := HB3.out.chg ((Chg.refl (fun j => j = p) w3).put p 2 (fun _ => rfl) (.slice A2 (m - k) c2)) (by omega)
    have t4 := hb4.cell 0
    simp only [Ap, Aq] at t4
    have HB4 := Lib.hid hb4
    clear hb4
    iterate 2
      first
        | refine AY (i := 7) (v := ?_) rfl (by kernel_rfl) (by kernel_rfl) (by decide +kernel) (fun _ _ _ h => h) (Or.inl ⟨by rfl, ?_⟩) t3 ?_
        | refine AY (i := 8) (v := ?_) rfl (by kernel_rfl) (by kernel_rfl) (by decide +kernel) (fun _ _ _ h => h) (Or.inl ⟨by rfl, ?_⟩) t3 ?_
      rotate_left
      · intro w' hSw
        try dsimp only at hSw
        go_simp
        first | done | (with_reducible rfl)
      try simp only [AZ, A7, A8, Act.put, AQ, AS, AR]
    refine A_ (rs := [9]) (by kernel_rfl) (by simp) ?_
    refine Ba rfl (fun K hK => ?_) AllReadyH.nil
    go_simp
    refine hK.out _ _ t4 (fun hHeld => ?_)
    clear hK K
    try simp only [AZ, A7, A8, Act.put, AQ, AS, AR]
    refine Ct (by kernel_rfl) ?_ _
    refine Cu ?_
    have hp4 : Blk (w3.setCell ⟨p, 2, none⟩ (.slice A2 (m - k) c2)) p 207 (snC mi pe A2 (m - k) c2 nx go) := HP3.out.set 2 (.slice A2 (m - k) c2)
    have hcs := (Chg.refl (fun j => j = p) w3).put p 2 (fun _ => rfl) (.slice A2 (m - k) c2)
    have HP4 := Lib.hid hp4
    have HC4 := Lib.hid hcs
    clear hHeld t1 t3 t4 y0 y1 y2 y3 y4 x2 g2 hp4 hcs
    generalize w3.setCell ⟨p, 2, none⟩ (.slice A2 (m - k) c2) = w4 at *
    obtain ⟨y0, y1, y2, y3, y4⟩ := aL HP4.out
    have g3 := HP4.out.frozen 3
    have t5 := HB4.out.cell 0
    simp only [Ap, Aq] at t5
    have hw1 : IntKind.i64.wrap (nx + (k : Int)) = nx + (k : Int) := IntWalk.i64_in _ (by omega)
    gi_wp2
    refine wpIn_wide.2 ?_
    go_region
    have hp5 : Blk (w4.setCell ⟨p, 3, none⟩ (.int .i64 (nx + (k : Int)))) p 207 (snC mi pe A2 (m - k) c2 (nx + (k : Int)) go) := HP4.out.set 3 (.int .i64 (nx + (k : Int)))
    have hcs := (Chg.refl (fun j => j = p) w4).put p 3 (fun _ => rfl) (.int .i64 (nx + (k : Int)))
    have HP5 := Lib.hid hp5
    have HC5 := Lib.hid hcs
    clear hp5 hcs y0 y1 y2 y3 y4 g3 t5
    generalize w4.setCell ⟨p, 3, none⟩ (.int .i64 (nx + (k : Int))) = w5 at *
    have HCA := Lib.hid (show Chg (fun j => j = p ∨ o = some j) W w5 from
      ((((Chg.refl _ W).drew.trans (HC3.out.mono (fun j _ e => .inr (by rw [← HOW.out.1]; exact e))) (fun _ _ e => e)).trans (HC4.out.mono (fun j _ e => .inl e)) (fun _ _ e => e)).trans (HC5.out.mono (fun j _ e => .inl e)) (fun _ _ e => e)))
    gi_wp2
    have hke := (KeepsFrom.trans (HCA.out.keepsFrom w.heap.size (fun k o hk e => lS HPB.out HOA.out hk e)) (KeepsOthers.from (KeepsOthers.drew w5) w.heap.size)).same D _ HD.out HKD.out rfl
    refine ⟨by simp, .inl ⟨_, _, rfl, run_takeDeferred hke, ?_⟩⟩
    refine ⟨_, Cl rfl _ _ _, rfl, SN.abd ?_ (fh hke rfl), ?_⟩
    · have e1 : dJ ⟨mi, pe, nx, go, q⟩ ack = ⟨mi, pe, nx + (k : Int), go, q.drop k⟩ := by
        unfold dJ
        simp only [HM.out, HK.out]
      have e2 : (q.drop k).length = m - k := by rw [zO, HM.out]
      have hc35 : Chg (fun j => j = p) w3 w5.drew := (HC4.out.tr HC5.out).drew
      rw [e1]
      refine ⟨A2, c2, vs2.drop k, ?_, ?_, HOW.out.1, HOW.out.2, ?_, hgp, hgo⟩
      · show Blk _ _ _ (snC mi pe A2 (q.drop k).length c2 (nx + (k : Int)) go)
        rw [e2]
        exact HP5.out
      · show Cv _ _ _ _ (.slice A2 (q.drop k).length c2) (q.drop k).length _
        rw [e2]
        exact ay HO3.out hc35 (fun j hj e => by subst e; exact HOW.out.2 (by rw [← HOW.out.1]; exact hj))
      · exact (((HBQW.out.drop k).chg HCA.out.drew (fun j hj e => by
          rcases e with e | e
          · subst e; exact hgp hj.1
          · exact hgo j e hj.1)).mono (fun j hj => hj.1))
    · have hb : Below w.heap.size w5.drew (w5.drew.putObj D (.deferred none)) := (Below.refl _ w5.drew).grown (grownBy_putObj' w5.drew D _) (zH HWS.out HCA.out.size) (fun k e => by cases e; exact HD.out)
      exact ((Chg.of_below HBW.out (zG _) _).trans HCA.out.drew (fun _ _ e => e)).trans (gJ hb (S := fun j => w.heap.size ≤ j) (fun _ h => h)) (fun j hj e => by omega)
  case stop =>
    rintro D cd pre W hD hBW hpre ⟨rfl, pre', i, rfl, hgt, hall, hb0, hb1⟩ hK
    have hk := ut hpre hall hgt
    generalize pre'.length = k at *
    have hkm : k ≤ m := by unfold i1 at hk; omega
    have HK := Lib.hid hk
    clear hall hk hpre hgt
    have HBW := Lib.hid (HB2.out.trans hBW)
    have HKD := Lib.hid hK
    have HD := Lib.hid (show w.heap.size ≤ D from zH HSZ2.out hD)
    obtain ⟨A2, c2, vs2, hbW, hownW, hoW, hneW, hbqW, -, -⟩ := HSN.out.below HBW.out
    rw [show (SV.mk mi pe nx go q).q.length = m from HM.out] at hbW hownW
    obtain ⟨y0, y1, y2, y3, y4⟩ := aL hbW
    have hB1 := hb1
    have t1 := hb1.cell 0
    simp only [Ap, Aq] at t1
    have HOA := Lib.hid (show ∀ (k : Nat) (o' : Obj), o = some k → W.heap[k]? = some o' → o'.isCells = true from fun k o' e hk => gK hownW (by rw [hoW]; exact e) hk)
    have HB1 := Lib.hid hb1
    have HPB := Lib.hid hbW
    have HOW := Lib.hid (And.intro hoW hneW)
    have HBQW := Lib.hid hbqW
    have HDE := Lib.hid (mX A2 m c2 k vs2 W.drew hownW hkm (rU hbqW))
    have HWS := Lib.hid HBW.out.size
    have hop : ∀ j, A2.map (·.block) = some j → j < w.heap.size := fun j hj => by
      have h1 := HSN.out.lt.2 j (by rw [← hoW]; exact hj)
      exact h1
    have HOP := Lib.hid hop
    have hnk : nx + (k : Int) ≤ 2000000000000000 := by omega
    clear hb0 hb1 hBW hK hD hB1 hbW hownW hoW hneW hbqW hop
    gi_wp2
    refine wpIn_wide.2 ?_
    refine Cr ?_
    refine Cs (S := (fun w' => w'.cell? ⟨w.heap.size + 1, 0, none⟩ = some (.int .i64 (k : Int)))) (by kernel_rfl) t1 (fun hHeld => ?_)
    iterate 5
      first
        | refine tk 0 ?_ ?_ ?_
        | refine tk 1 ?_ ?_ ?_
        | refine tk 2 ?_ ?_ ?_
        | refine tk 3 ?_ ?_ ?_
        | refine tk 5 ?_ ?_ ?_
      rotate_left
      · intro w' hSw
        try dsimp only at hSw
        go_simp
        first | done | (with_reducible rfl)
      try simp only [AZ, A7, A8, Act.put, AQ, AS, AR]
    refine A_ (rs := [4]) (by kernel_rfl) (by simp) ?_
    refine Ba rfl (fun K hK => ?_) AllReadyH.nil
    go_simp
    refine hK.out _ _ t1 (fun hHeld => ?_)
    clear hK K
    try simp only [AZ, A7, A8, Act.put, AQ, AS, AR]
    refine A_ (rs := [6]) (by kernel_rfl) (by simp) ?_
    refine Ba rfl (fun K hK => ?_) AllReadyH.nil
    go_simp
    refine HDE.out.mono ?_
    rintro e w3 ⟨rfl, hown3, hc3⟩
    have hb3 := HB1.out.drew.chg hc3 (fun e => by have := HOP.out _ e; omega)
    have t3 := hb3.cell 0
    simp only [Ap, Aq] at t3
    have hp3 := HPB.out.drew.chg hc3 (fun e => HOW.out.2 (by rw [← HOW.out.1]; exact e))
    have x2 := (aL hp3).2.2.1
    have g2 := hp3.frozen 2
    have HB3 := Lib.hid hb3
    have HP3 := Lib.hid hp3
    have HO3 := Lib.hid hown3
    have HC3 := Lib.hid hc3
    clear hb3 hp3 hown3 hc3 HDE
    go_wp2_with fail
    refine hK.out _ _ t3 (fun hHeld => ?_)
    clear hK K
    try simp only [AZ, A7, A8, Act.put, AQ, AS, AR]
    have hb4 := HB3.out.chg ((Chg.refl (fun j => j = p) w3).put p 2 (fun _ => rfl) (.slice A2 (m - k) c2)) (by omega)
    have t4 := hb4.cell 0
    simp only [Ap, Aq] at t4
    have HB4 := Lib.hid hb4
    clear hb4
    iterate 2
      first
        | refine AY (i := 7) (v := ?_) rfl (by kernel_rfl) (by kernel_rfl) (by decide +kernel) (fun _ _ _ h => h) (Or.inl ⟨by rfl, ?_⟩) t3 ?_
        | refine AY (i := 8) (v := ?_) rfl (by kernel_rfl) (by kernel_rfl) (by decide +kernel) (fun _ _ _ h => h) (Or.inl ⟨by rfl, ?_⟩) t3 ?_
      rotate_left
      · intro w' hSw
        try dsimp only at hSw
        go_simp
        first | done | (with_reducible rfl)
      try simp only [AZ, A7, A8, Act.put, AQ, AS, AR]
    refine A_ (rs := [9]) (by kernel_rfl) (by simp) ?_
    refine Ba rfl (fun K hK => ?_) AllReadyH.nil
    go_simp
    refine hK.out _ _ t4 (fun hHeld => ?_)
    clear hK K
    try simp only [AZ, A7, A8, Act.put, AQ, AS, AR]
    refine Ct (by kernel_rfl) ?_ _
    refine Cu ?_
    have hp4 : Blk (w3.setCell ⟨p, 2, none⟩ (.slice A2 (m - k) c2)) p 207 (snC mi pe A2 (m - k) c2 nx go) := HP3.out.set 2 (.slice A2 (m - k) c2)
    have hcs := (Chg.refl (fun j => j = p) w3).put p 2 (fun _ => rfl) (.slice A2 (m - k) c2)
    have HP4 := Lib.hid hp4
    have HC4 := Lib.hid hcs
    clear hHeld t1 t3 t4 y0 y1 y2 y3 y4 x2 g2 hp4 hcs
    generalize w3.setCell ⟨p, 2, none⟩ (.slice A2 (m - k) c2) = w4 at *
    obtain ⟨y0, y1, y2, y3, y4⟩ := aL HP4.out
    have g3 := HP4.out.frozen 3
    have t5 := HB4.out.cell 0
    simp only [Ap, Aq] at t5
    have hw1 : IntKind.i64.wrap (nx + (k : Int)) = nx + (k : Int) := IntWalk.i64_in _ (by omega)
    gi_wp2
    refine wpIn_wide.2 ?_
    go_region
    have hp5 : Blk (w4.setCell ⟨p, 3, none⟩ (.int .i64 (nx + (k : Int)))) p 207 (snC mi pe A2 (m - k) c2 (nx + (k : Int)) go) := HP4.out.set 3 (.int .i64 (nx + (k : Int)))
    have hcs := (Chg.refl (fun j => j = p) w4).put p 3 (fun _ => rfl) (.int .i64 (nx + (k : Int)))
    have HP5 := Lib.hid hp5
    have HC5 := Lib.hid hcs
    clear hp5 hcs y0 y1 y2 y3 y4 g3 t5
    generalize w4.setCell ⟨p, 3, none⟩ (.int .i64 (nx + (k : Int))) = w5 at *
    have HCA := Lib.hid (show Chg (fun j => j = p ∨ o = some j) W w5 from
      ((((Chg.refl _ W).drew.trans (HC3.out.mono (fun j _ e => .inr (by rw [← HOW.out.1]; exact e))) (fun _ _ e => e)).trans (HC4.out.mono (fun j _ e => .inl e)) (fun _ _ e => e)).trans (HC5.out.mono (fun j _ e => .inl e)) (fun _ _ e => e)))
    gi_wp2
    have hke := (KeepsFrom.trans (HCA.out.keepsFrom w.heap.size (fun k o hk e => lS HPB.out HOA.out hk e)) (KeepsOthers.from (KeepsOthers.drew w5) w.heap.size)).same D _ HD.out HKD.out rfl
    refine ⟨by simp, .inl ⟨_, _, rfl, run_takeDeferred hke, ?_⟩⟩
    refine ⟨_, Cl rfl _ _ _, rfl, SN.abd ?_ (fh hke rfl), ?_⟩
    · have e1 : dJ ⟨mi, pe, nx, go, q⟩ ack = ⟨mi, pe, nx + (k : Int), go, q.drop k⟩ := by
        unfold dJ
        simp only [HM.out, HK.out]
      have e2 : (q.drop k).length = m - k := by rw [zO, HM.out]
      have hc35 : Chg (fun j => j = p) w3 w5.drew := (HC4.out.tr HC5.out).drew
      rw [e1]
      refine ⟨A2, c2, vs2.drop k, ?_, ?_, HOW.out.1, HOW.out.2, ?_, hgp, hgo⟩
      · show Blk _ _ _ (snC mi pe A2 (q.drop k).length c2 (nx + (k : Int)) go)
        rw [e2]
        exact HP5.out
      · show Cv _ _ _ _ (.slice A2 (q.drop k).length c2) (q.drop k).length _
        rw [e2]
        exact ay HO3.out hc35 (fun j hj e => by subst e; exact HOW.out.2 (by rw [← HOW.out.1]; exact hj))
      · exact (((HBQW.out.drop k).chg HCA.out.drew (fun j hj e => by
          rcases e with e | e
          · subst e; exact hgp hj.1
          · exact hgo j e hj.1)).mono (fun j hj => hj.1))
    · have hb : Below w.heap.size w5.drew (w5.drew.putObj D (.deferred none)) := (Below.refl _ w5.drew).grown (grownBy_putObj' w5.drew D _) (zH HWS.out HCA.out.size) (fun k e => by cases e; exact HD.out)
      exact ((Chg.of_below HBW.out (zG _) _).trans HCA.out.drew (fun _ _ e => e)).trans (gJ hb (S := fun j => w.heap.size ≤ j) (fun _ h => h)) (fun j hj e => by omega)
def m0(s:Int)(n:Nat):Bool:=if s=0 then decide (n=0)else ah 1 1000 [(n:Int)]
def ltR(m p a s:Int)(n:Nat):Bool:=ah 1 4294967296 [m]&&(ah 0 4294967296 [p]&&(ah 0 1099511627776 [a,s]&&m0 s n))
theorem gM{m p a s:Int}{n:Nat}(h:ltR m p a s n=true):(1≤m∧m≤4294967296)∧(0≤p∧p≤4294967296)∧(0≤a∧a≤1099511627776)∧(0≤s∧s≤1099511627776)∧n≤1000∧(s≠0→1≤n)∧(s=0→n=0):=by
 unfold ltR ah at h;simp only[AT,AU,AV,AI,decide_eq_true_eq]at h;obtain⟨h1,h2,⟨h3,h4⟩,h5⟩:=h;refine⟨h1,h2,h3,h4,?_⟩;unfold m0 ah at h5;by_cases hs:s=0
 ·rw[if_pos hs]at h5;simp only[decide_eq_true_eq]at h5;omega
 ·rw[if_neg hs]at h5;simp only[AT,AU,AV,AI,decide_eq_true_eq]at h5;omega
theorem lx{a b:Int}(h:a=b):Ending.returned (U Z a)=.returned (U Z b):=by rw[h]
theorem jD(m p a s:Int)(A:Option Addr)(n c:Nat)(w:World)(hn:n≤9223372036854775807):Calls Tryz.prog 122 #[.agg (ltC m p a s A n c)] w fun e w'=>e=.returned (.bool (ltR m p a s n))∧Chg (fun _=>False) w w':=by
 have hw1:=fun(W:World) (g:Nat) (hg:g=W.heap.size)=>(show Calls Tryz.prog 163 #[U Z 1,U Z 4294967296,.slice (some ⟨g,0,none⟩) 1 1] (W.alloc (.cells #[U Z m] 3)) (fun e w'=>e=.returned (.bool (ah 1 4294967296 [m]))∧W.alloc (.cells #[U Z m] 3)=w')from gi 1 4294967296 [m] _ 1 1 _ _ rfl (aK W 3 #[U Z m] (0,0) g hg _ 1 rfl rfl) (by decide));have hw2:=fun(W:World) (g:Nat) (hg:g=W.heap.size)=>(show Calls Tryz.prog 163 #[U Z 0,U Z 4294967296,.slice (some ⟨g,0,none⟩) 1 1] (W.alloc (.cells #[U Z p] 3)) (fun e w'=>e=.returned (.bool (ah 0 4294967296 [p]))∧W.alloc (.cells #[U Z p] 3)=w')from gi 0 4294967296 [p] _ 1 1 _ _ rfl (aK W 3 #[U Z p] (0,0) g hg _ 1 rfl rfl) (by decide));have hw3:=fun(W:World) (g:Nat) (hg:g=W.heap.size)=>(show Calls Tryz.prog 163 #[U Z 0,U Z 1099511627776,.slice (some ⟨g,0,none⟩) 2 2] (W.alloc (.cells #[U Z a,U Z s] 3)) (fun e w'=>e=.returned (.bool (ah 0 1099511627776 [a,s]))∧W.alloc (.cells #[U Z a,U Z s] 3)=w')from gi 0 1099511627776 [a,s] _ 2 2 _ _ rfl (aK W 3 #[U Z a,U Z s] (0,0) g hg _ 2 rfl rfl) (by decide));have hs:=fun(W:World)=>oT A n c W hn;have hr:ltR m p a s n=(ah 1 4294967296 [m]&&(ah 0 4294967296 [p]&&(ah 0 1099511627776 [a,s]&&m0 s n))):=rfl;have hb5:m0 s n=if s=0 then decide (n=0)else ah 1 1000 [(n:Int)]:=rfl;rw[hr];clear hr;generalize ah 1 4294967296 [m]=b1 at*;generalize ah 0 4294967296 [p]=b2 at*;generalize ah 0 1099511627776 [a,s]=b3 at*;generalize ah 1 1000 [(n:Int)]=b4 at*;generalize m0 s n=b5 at*;have HB5:=hd_ hb5;clear hb5;have HW1:=hd_ hw1;have HW2:=hd_ hw2;have HW3:=hd_ hw3;have HS:=hd_ hs;clear hw1 hw2 hw3 hs;unfold ltC;go_in
 cases b1 with
 |false=>
  go_wp2_with fail;refine(HW1.out _ _ (by simp)).mono ?_;rintro e _ ⟨rfl,rfl⟩;go_wp2_with fail;go_ret;exact⟨rfl,(by repeat (first|exact Chg.refl _ _|exact Chg.drew (Chg.refl _ _)|refine Chg.alloc ?_ _))⟩
 |true=>
  cases b2 with
  |false=>
   go_wp2_with fail;refine(HW1.out _ _ (by simp)).mono ?_;rintro e _ ⟨rfl,rfl⟩;go_wp2_with fail;refine(HW2.out _ _ (by simp)).mono ?_;rintro e _ ⟨rfl,rfl⟩;go_wp2_with fail;go_ret;exact⟨rfl,(by repeat (first|exact Chg.refl _ _|exact Chg.drew (Chg.refl _ _)|refine Chg.alloc ?_ _))⟩
  |true=>
   cases b3 with
   |false=>
    go_wp2_with fail;refine(HW1.out _ _ (by simp)).mono ?_;rintro e _ ⟨rfl,rfl⟩;go_wp2_with fail;refine(HW2.out _ _ (by simp)).mono ?_;rintro e _ ⟨rfl,rfl⟩;go_wp2_with fail;refine(HW3.out _ _ (by simp)).mono ?_;rintro e _ ⟨rfl,rfl⟩;go_wp2_with fail;go_ret;exact⟨rfl,(by repeat (first|exact Chg.refl _ _|exact Chg.drew (Chg.refl _ _)|refine Chg.alloc ?_ _))⟩
   |true=>
    by_cases hs0:s=0
    ·have e1:(s==0)=true:=by simp[hs0]
     have HE:=hd_ (show b5=((n:Int)==0)from by rw[HB5.out,if_pos hs0,Bool.eq_iff_iff];simp);clear hs0;go_wp2_with fail;refine(HW1.out _ _ (by simp)).mono ?_;rintro e _ ⟨rfl,rfl⟩;go_wp2_with fail;refine(HW2.out _ _ (by simp)).mono ?_;rintro e _ ⟨rfl,rfl⟩;go_wp2_with fail;refine(HW3.out _ _ (by simp)).mono ?_;rintro e _ ⟨rfl,rfl⟩;go_wp2_with fail;go_ret;exact⟨aE HE.out.symm,(by repeat (first|exact Chg.refl _ _|exact Chg.drew (Chg.refl _ _)|refine Chg.alloc ?_ _))⟩
    ·have e1:(s==0)=false:=by simpa using hs0
     have HE:=hd_ (show b5=b4 from by rw[HB5.out,if_neg hs0]);clear hs0;go_wp2_with fail;refine(HW1.out _ _ (by simp)).mono ?_;rintro e _ ⟨rfl,rfl⟩;go_wp2_with fail;refine(HW2.out _ _ (by simp)).mono ?_;rintro e _ ⟨rfl,rfl⟩;go_wp2_with fail;refine(HW3.out _ _ (by simp)).mono ?_;rintro e _ ⟨rfl,rfl⟩;go_wp2_with fail;refine(HS.out _).mono ?_;rintro e w2 ⟨rfl,hc2⟩;go_wp2_with fail;go_ret;refine⟨aE HE.out.symm,Chg.trans ?_ hc2 (fun _ _ e=>e)⟩;exact(by repeat (first|exact Chg.refl _ _|exact Chg.drew (Chg.refl _ _)|refine Chg.alloc ?_ _))
def pX(mi:Int)(w:World)(e:Ending)(w':World):Prop:=
 if ah 1 4294967296 [mi]=true then∃p,e=.returned (.tuple #[.pointer (some ⟨p,0,none⟩),U Z 0])∧w.heap.size≤p∧Blk w' p 207 (snC mi 0 none 0 0 1 0)∧Chg (fun _=>False) w w'
 else e=.returned (.tuple #[.pointer none,U Z 1])∧Chg (fun _=>False) w w'
theorem pY(mi:Int)(w:World):Calls Tryz.prog 102 #[U Z mi] w (pX mi w):=by
 have hw1:=fun(W:World) (g:Nat) (hg:g=W.heap.size)=>(show Calls Tryz.prog 163 #[U Z 1,U Z 4294967296,.slice (some ⟨g,0,none⟩) 1 1] (W.alloc (.cells #[U Z mi] 3)) (fun e w'=>e=.returned (.bool (ah 1 4294967296 [mi]))∧W.alloc (.cells #[U Z mi] 3)=w')from gi 1 4294967296 [mi] _ 1 1 _ _ rfl (aK W 3 #[U Z mi] (0,0) g hg _ 1 rfl rfl) (by decide));unfold pX;generalize ah 1 4294967296 [mi]=b1 at*;have HW1:=hd_ hw1;clear hw1
 cases b1 with
 |false=>
  simp only[Cw,if_false];go_in;go_wp2_with fail;refine(HW1.out _ _ (by simp)).mono ?_;rintro e _ ⟨rfl,rfl⟩;go_wp2_with fail;go_ret2;exact⟨rfl,(by repeat (first|exact Chg.refl _ _|exact Chg.drew (Chg.refl _ _)|refine Chg.alloc ?_ _))⟩
 |true=>
  simp only[if_true];go_in;go_wp2_with fail;refine(HW1.out _ _ (by simp)).mono ?_;rintro e _ ⟨rfl,rfl⟩;go_wp2_with fail;go_ret2;exact⟨w.heap.size+1,rfl,by omega,af (by simp),(by repeat (first|exact Chg.refl _ _|exact Chg.drew (Chg.refl _ _)|refine Chg.alloc ?_ _))⟩
def GN(G:Nat→Prop)(w:World)(o':Option Nat)(k:Nat):Prop:=(G k∧k<w.heap.size)∨(w.heap.size≤k∧o'≠some k)
def SM(p:Nat)(o:Option Nat)(G:Nat→Prop)(x:SV)(w w':World):Prop:=∃o',SN w' p o' (GN G w o') x∧Mvd p o o' w w'
theorem GN.ok{G:Nat→Prop}{w w':World}{p:Nat}{o o':Option Nat}{x:SV}(h:SN w p o G x)(hm:Mvd p o o' w w'):¬GN G w o' p∧∀k,o'=some k→¬GN G w o' k:=by
 have hlt:=h.lt;obtain⟨A,c,vs,hb,hown,h1,h2,h3,h4,h5⟩:=h;refine⟨fun e=>?_,fun k hk e=>?_⟩
 ·rcases e with e|e
  ·exact h4 e.1
  ·omega
 ·rcases e with e|e
  ·rcases hm.2 with h|h|⟨j,h,hj⟩
   ·exact h5 k (by rw[←h];exact hk) e.1
   ·rw[h]at hk;cases hk
   ·rw[h]at hk;injection hk with hk;omega
  ·exact e.2 hk
theorem SN.sm{w w':World}{p:Nat}{o:Option Nat}{G:Nat→Prop}{x y:SV}(h:SN w p o G x)(h2:SN w' p o (fun k=>G k∧k<w.heap.size) y)(hc:Chg (fun k=>k=p∨o=some k) w w'):SM p o G y w w':=by
 have hm:Mvd p o o w w':=⟨hc,.inl rfl⟩;obtain⟨g1,g2⟩:=GN.ok h hm;exact⟨o,h2.mono (fun k hk _=>.inl hk) g1 g2,hm⟩
theorem SM.refl{w:World}{p:Nat}{o:Option Nat}{G:Nat→Prop}{x:SV}(h:SN w p o G x):SM p o G x w w:=h.sm h.old (Chg.refl _ _)
theorem GN.pre{G:Nat→Prop}{w w1 w2:World}{p:Nat}{o':Option Nat}{x:SV}(hs:w.heap.size≤w1.heap.size)(hp:p<w.heap.size)(h:SN w2 p o' (GN G w1 o') x):SN w2 p o' (GN G w o') x:=by
 have h6:¬GN G w1 o' p:=by obtain⟨_,_,_,_,_,_,_,_,h,_⟩:=h;exact h
 have h7:∀k,o'=some k→¬GN G w1 o' k:=by obtain⟨_,_,_,_,_,_,_,_,_,h⟩:=h;exact h
 refine h.mono (fun k hk _=>?_) (fun e=>?_) (fun k hk e=>?_)
 ·rcases B6 k w.heap.size with hl|hl
  ·rcases hk with hk|hk
   ·exact .inl ⟨hk.1,hl⟩
   ·omega
  ·exact .inr ⟨hl,fun e=>h7 k e hk⟩
 ·rcases e with e|e
  ·exact h6 (.inl ⟨e.1,by omega⟩)
  ·omega
 ·rcases e with e|e
  ·exact h7 k hk (.inl ⟨e.1,by omega⟩)
  ·exact e.2 hk
theorem SM.pre{w w1 w2:World}{p:Nat}{o:Option Nat}{G:Nat→Prop}{x:SV}(hc:Chg (fun _=>False) w w1)(h:SM p o G x w1 w2)(hp:p<w.heap.size):SM p o G x w w2:=by
 obtain⟨o',hs,hm⟩:=h;exact⟨o',GN.pre hc.size hp hs,Mvd.pre hc hm⟩
theorem SM.post{w w1 w2:World}{p:Nat}{o:Option Nat}{G:Nat→Prop}{x:SV}(h:SM p o G x w w1)(hc:Chg (fun _=>False) w1 w2):SM p o G x w w2:=by
 obtain⟨o',hs,hm⟩:=h;exact⟨o',hs.new hc,Mvd.post hm hc⟩
def db(x:SV)(b:List UInt8):Int:=if ah 1 1000 [(b.length:Int)]=true then(if x.q.length=64 then 3 else 0)else 1
def bL(x:SV)(b:List UInt8):SV:=if db x b=0 then{x with q:=x.q++[b]}else x
theorem SN.push {w w3 w5 : World} {p : Nat} {G : Nat → Prop} {mi pe nx go : Int} {A A5 E : Option Addr} {n c c5 d : Nat} {q : List (List UInt8)} {vs : List Value} {b : List UInt8} (hb : Blk w p 207 (snC mi pe A n c nx go)) (hown : w.ownsRow 0 23 1 (.slice A n c) n vs) (hbq : BQ w (fun k => G k ∧ k < w.heap.size) vs q)
    (hne : A.map (·.block) ≠ some p) (hgp : ¬ G p) (hgo : ∀ k, A.map (·.block) = some k → ¬ G k) (hn : n = q.length) (hc : Chg (fun _ => False) w w3) (hz : E = none → d = 0) (hr : Rds w3 (fun k => w.heap.size ≤ k) E b.length (bcs b))
    (hown5 : w5.ownsRow 0 23 1 (.slice A5 (n + 1) c5) (n + 1) (vs ++ [.slice E b.length d])) (hg : (w3.alloc (.cells #[.slice E b.length d] 23)).grownBy w5 (zW A n c).ownBlock)
    (hat : (zW A5 (n + 1) c5).ownBlock = (zW A n c).ownBlock ∨ (zW A5 (n + 1) c5).ownBlock = some (w3.alloc (.cells #[.slice E b.length d] 23)).heap.size) :
    SM p (A.map (·.block)) G ⟨mi, pe, nx, go, q ++ [b]⟩ w (w5.setCell ⟨p, 2, none⟩ (.slice A5 (n + 1) c5)) ∧ Blk w5 p 207 (snC mi pe A n c nx go) := by
  subst hn
  rw [aG, aG] at hat
  rw [aG] at hg
  have hplt := hb.lt
  have hs3 := hc.size
  have hb3 : Blk (w3.alloc (.cells #[.slice E b.length d] 23)) p _ _ := (hb.chg hc id).alloc _
  have hb5 := ct hb3 hg hne
  have hc4 := hc.alloc (.cells #[.slice E b.length d] 23)
  have hc5 : Chg (fun k => k = p ∨ A.map (·.block) = some k) w w5 := (hc4.mono (fun _ _ h => h.elim)).grown hg (fun k hk _ => .inr hk)
  have hc6 : Chg (fun k => k = p ∨ A.map (·.block) = some k) w (w5.setCell ⟨p, 2, none⟩ (.slice A5 (q.length + 1) c5)) := hc5.put p 2 (fun _ => .inl rfl) _
  have hlt : ∀ k, A.map (·.block) = some k → k < w.heap.size := fun k hk => (hown.lt k (by rw [aG]; exact hk)).2
  have hsz4 : (w3.alloc (.cells #[.slice E b.length d] 23)).heap.size = w3.heap.size + 1 := by simp
  have hne5 : A5.map (·.block) ≠ some p := by
    rcases hat with e | e
    · rw [e]; exact hne
    · rw [e, hsz4]
      intro e
      injection e with e
      omega
  have hm : Mvd p (A.map (·.block)) (A5.map (·.block)) w (w5.setCell ⟨p, 2, none⟩ (.slice A5 (q.length + 1) c5)) := ⟨hc6, by
    rcases hat with e | e
    · exact .inl e
    · exact .inr (.inr ⟨_, e, by omega⟩)⟩
  have hsn : SN w p (A.map (·.block)) (fun k => G k ∧ k < w.heap.size) ⟨mi, pe, nx, go, q⟩ := ⟨A, c, vs, hb, hown, rfl, hne, hbq, fun e => hgp e.1, fun k hk e => hgo k hk e.1⟩
  obtain ⟨g1, g2⟩ := GN.ok hsn hm
  have e1 : ∀ k, GN (fun k => G k ∧ k < w.heap.size) w (A5.map (·.block)) k ↔ GN G w (A5.map (·.block)) k := fun k => by
    unfold GN
    constructor
    · rintro (h | h)
      · exact .inl ⟨h.1.1, h.2⟩
      · exact .inr h
    · rintro (h | h)
      · exact .inl ⟨⟨h.1, h.2⟩, h.2⟩
      · exact .inr h
  refine ⟨⟨A5.map (·.block), ⟨A5, c5, vs ++ [.slice E b.length d], ?_, ?_, rfl, hne5, ?_, fun e => g1 ((e1 p).2 e), fun k hk e => g2 k hk ((e1 k).2 e)⟩, hm⟩, hb5⟩
  · have h := hb5.set 2 (.slice A5 (q.length + 1) c5)
    show Blk _ _ _ (snC mi pe A5 (q ++ [b]).length c5 nx go)
    rw [zY]
    exact h
  · show Cv _ _ _ _ (.slice A5 (q ++ [b]).length c5) (q ++ [b]).length _
    rw [zY]
    exact ay hown5 ((Chg.refl (fun k => k = p) w5).put p 2 (fun _ => rfl) _) (fun k hk e => by subst e; exact hne5 hk)
  · refine BQ.snoc ?_ rfl hz ?_
    · exact (hbq.chg hc6 (fun k hk e => by
        rcases e with e | e
        · subst e; exact hgp hk.1
        · exact hgo k e hk.1)).mono (fun k hk => .inl hk)
    · have hr2 := hr.old
      have hc35 : Chg (fun k => k = p ∨ A.map (·.block) = some k) w3 (w5.setCell ⟨p, 2, none⟩ (.slice A5 (q.length + 1) c5)) :=
        ((((Chg.refl (fun _ => False) w3).alloc (.cells #[.slice E b.length d] 23)).mono (fun _ _ h => h.elim)).grown hg (fun k hk _ => .inr hk)).put p 2 (fun _ => .inl rfl) _
      refine (hr2.chg hc35 (fun k hk e => ?_)).mono (fun k hk => .inr ⟨hk.1, ?_⟩)
      · rcases e with e | e
        · have := hk.1
          omega
        · have := hlt k e
          have := hk.1
          omega
      · rcases hat with e | e
        · rw [e]
          intro e
          have := hlt k e
          have := hk.1
          omega
        · rw [e, hsz4]
          intro e
          injection e with e
          have := hk.2
          omega
def vj(p:Nat)(o:Option Nat)(G:Nat→Prop)(x:SV)(b:List UInt8)(w:World)(e:Ending)(w':World):Prop:=e=.returned (U Z (db x b))∧SM p o G (bL x b) w w'
theorem rV(p:Nat)(o:Option Nat)(G:Nat→Prop)(x:SV)(A2:Option Addr)(n2 c2:Nat)(b:List UInt8)(S:Nat→Prop)(w:World)(h:SN w p o G x)(hq:x.q.length≤64)(hn2:n2=b.length)(hr:Rds w S A2 n2 (bcs b))(hz2':A2=none→c2=0)(hmax:n2≤9223372036854775807):Calls Tryz.prog 127 #[.pointer (some ⟨p,0,none⟩),.slice A2 n2 c2] w (vj p o G x b w):=by
 subst hn2;obtain⟨i0,hi0,hz0,hz1,hz2⟩:=info_parts mU;have HSN:=hd_ h;have HLT:=hd_ h.lt.1;have hs:=fun W=>oT A2 b.length c2 W hmax;have HLEN:=hd_ (fun W (hw:Chg (fun _=>False) w W)=>mV p o G x W (h.new hw));unfold vj;have hpe:db x b=if ah 1 1000 [(b.length:Int)]=true then(if x.q.length=64 then 3 else 0)else 1:=rfl;have hps:bL x b=if db x b=0 then{x with q:=x.q++[b]}else x:=rfl;by_cases hb1:ah 1 1000 [(b.length:Int)]=true
 case neg=>
  have hb2:ah 1 1000 [(b.length:Int)]=false:=by simpa using hb1
  rw[hb2]at hs hpe;rw[hps,hpe];simp only[Cw,if_false,show¬((1:Int)=0)from by decide];have HS:=hd_ hs;clear hs hb1 hb2 hpe hps h hr;go_in;go_wp2_with fail;refine(HS.out _).mono ?_;rintro e w1 ⟨rfl,hc1⟩;go_wp2_with fail;go_ret;exact⟨rfl,(SM.refl HSN.out).post hc1⟩
 rw[hb1]at hs hpe;simp only[if_true]at hpe
 have hbl:1≤b.length∧b.length≤1000:=by
  unfold ah at hb1;simp only[AT,AU,AV,AI,decide_eq_true_eq]at hb1;omega
 by_cases hfull:x.q.length=64
 ·rw[if_pos hfull]at hpe;rw[hps,hpe,if_neg (by decide)];have HS:=hd_ hs;rw[hfull]at HLEN;clear hs hb1 hpe hps h hr hbl hfull hq;go_in;go_wp2_with fail;refine(HS.out _).mono ?_;rintro e w1 ⟨rfl,hc1⟩;go_wp2_with fail;refine(HLEN.out _ hc1).mono ?_;rintro e _ ⟨rfl,rfl⟩;go_wp2_with fail;go_ret;exact⟨rfl,(SM.refl HSN.out).post hc1⟩
 rw[if_neg hfull]at hpe;have HE:=hd_ (And.intro hpe (show bL x b=⟨x.mi,x.pe,x.nx,x.go,x.q++[b]⟩from by rw[hps,hpe];rfl));have HS:=hd_ hs
 have hg1:¬G p:=by obtain⟨_,_,_,_,_,_,_,_,h1,_⟩:=h;exact h1
 have hg2:∀k,o=some k→¬G k:=by obtain⟨_,_,_,_,_,_,_,_,_,h1⟩:=h;exact h1
 have HRB:=hd_ hr
 have tf:((x.q.length:Int)==64)=false:=by simp;omega
 obtain⟨mi,pe,nx,go,q⟩:=x;simp only at tf hfull hq HE HLEN;generalize hqn:q.length=n at*;have HN:=hd_ hqn.symm;clear hs hb1 hpe hps hr hqn;go_in;go_wp2_with fail;refine(HS.out _).mono ?_;rintro e w1 ⟨rfl,hc1⟩;have HC1:=hd_ hc1;have hl:=HLEN.out _ hc1;clear HS HLEN;go_wp2_with fail;refine hl.mono ?_;rintro e _ ⟨rfl,rfl⟩;clear hl;obtain⟨A,c,vs,hb,hown,ho,hne,hbq,-,-⟩:=(HSN.out.new HC1.out).old;rw[show (SV.mk mi pe nx go q).q.length=n from HN.out.symm]at hb hown;subst ho;obtain⟨z0,z1,z2,z3,z4⟩:=aL hb;have HPB:=hd_ hb;have HOW:=hd_ hown;have HBQ:=hd_ hbq;have HGS:=hd_ (And.intro hne (And.intro hg1 hg2));have HCL:=hd_ (fun W (hw:Chg (fun _=>False) w1 W)=>iv A2 b.length c2 b S W rfl (HRB.out.chg (HC1.out.tr hw) (fun _ _=>id)) hz2' (by omega));have HX:=hd_ (Chg.refl (fun _=>False) w1).drew;clear hb hown hbq hne hg1 hg2 hc1 h HSN;go_wp2_with fail;refine Cr ?_;refine Cs (S:=(fun _=>True)) (by kernel_rfl) trivial (fun hHeld=>?_)
 iterate 5
  first
   |refine tk 0 ?_ ?_ ?_
   |refine tk 1 ?_ ?_ ?_
   |refine tk 2 ?_ ?_ ?_
   |refine tk 3 ?_ ?_ ?_
   |refine tk 5 ?_ ?_ ?_
  rotate_left
  ·intro w' hSw;(try dsimp only at hSw);go_simp;first|done|(with_reducible rfl)
  try simp only[AZ,A7,A8,Act.put,AQ,AS,AR]
 refine A_ (rs:=[4,6]) (by kernel_rfl) (by simp) ?_;refine Ba rfl (fun K hK=>?_) (Ba rfl (fun K hK=>?_) AllReadyH.nil)
 ·go_simp;refine hK.out _ _ trivial (fun hHeld=>?_);clear hK K;(try simp only[AZ,A7,A8,Act.put,AQ,AS,AR]);refine A_ (rs:=[6]) (by kernel_rfl) (by simp) ?_;refine Ba rfl (fun K hK=>?_) AllReadyH.nil;go_simp;refine(HCL.out _ HX.out).mono ?_;rintro e w3 ⟨E,d3,rfl,hown3,hc3⟩;have HZ3:=hd_ (d7 hown3);have HR3:=hd_ ((cB hown3).mono (S':=fun k=>w1.heap.size≤k) (fun k hk=>hk.1));have HX:=hd_ (HX.out.tr hc3);clear hown3 hc3;go_wp2_with fail;refine hK.out _ _ trivial (fun hHeld=>?_);clear hK K;(try simp only[AZ,A7,A8,Act.put,AQ,AS,AR]);refine A_ (rs:=[7]) (by kernel_rfl) (by simp) ?_;refine Ba rfl (fun K hK=>?_) AllReadyH.nil;go_simp;refine hK.out _ _ trivial (fun hHeld=>?_);clear hK K;(try simp only[AZ,A7,A8,Act.put,AQ,AS,AR]);refine A_ (rs:=[8]) (by kernel_rfl) (by simp) ?_;refine Ba rfl (fun K hK=>?_) AllReadyH.nil;refine iw _ rfl (.tmp 21) (.tmp 24) 89 rfl 0 23 i0 _ 1 24 Tryz.underlying89 hi0 hz0 hz1 hz2 rfl (by decide) (.slice A n c) n _ rfl ((ay HOW.out HX.out (fun _ _=>id)).alloc _) ⟨w3.heap.size,0,none⟩ 1 1 [.slice E b.length d3] rfl rfl (fun j u hu=>by rw[show (⟨w3.heap.size,0,none⟩:Addr).add j=⟨w3.heap.size,j,none⟩from by unfold Addr.add;split<;>simp_all,(Blk.new w3 23 #[.slice E b.length d3]).cell j];simpa using hu) (by simp[Aw]) (by unfold maxLen;omega) (by omega) (zP _) ?_;intro v5 w5 hown5 hg5 hat5;obtain⟨A5,c5,rfl,_,_⟩:=aV hown5;obtain⟨hsm,hb5⟩:=SN.push HPB.out HOW.out HBQ.out HGS.out.1 HGS.out.2.1 HGS.out.2.2 HN.out HX.out HZ3.out HR3.out hown5 hg5 hat5;have HSM:=hd_ hsm;have g2:=hb5.frozen 2;have x2:=(aL hb5).2.2.1;clear hsm hown5 hg5 hat5 hb5;refine hK.out _ _ trivial (fun hHeld=>?_);clear hK K;try simp only[AZ,A7,A8,Act.put,AQ,AS,AR]
  iterate 2
   first
    |refine tk 9 ?_ ?_ ?_
    |refine tk 10 ?_ ?_ ?_
   rotate_left
   ·intro w' hSw;(try dsimp only at hSw);go_simp;first|done|(with_reducible rfl)
   try simp only[AZ,A7,A8,Act.put,AQ,AS,AR]
  refine A_ (rs:=[11]) (by kernel_rfl) (by simp) ?_;refine Ba rfl (fun K hK=>?_) AllReadyH.nil;go_simp;refine hK.out _ _ trivial (fun hHeld=>?_);clear hK K;(try simp only[AZ,A7,A8,Act.put,AQ,AS,AR]);refine Ct (by kernel_rfl) ?_ _;refine Cu ?_;go_wp2_with fail;go_ret;exact⟨lx HE.out.1.symm,by rw[HE.out.2];exact SM.pre HC1.out HSM.out HLT.out⟩
 ·go_simp;refine(HCL.out _ HX.out).mono ?_;rintro e w3 ⟨E,d3,rfl,hown3,hc3⟩;have HZ3:=hd_ (d7 hown3);have HR3:=hd_ ((cB hown3).mono (S':=fun k=>w1.heap.size≤k) (fun k hk=>hk.1));have HX:=hd_ (HX.out.tr hc3);clear hown3 hc3;go_wp2_with fail;refine hK.out _ _ trivial (fun hHeld=>?_);clear hK K;(try simp only[AZ,A7,A8,Act.put,AQ,AS,AR]);have z5:=(aL (HPB.out.chg HX.out id)).2.2.1;have z6:=(aL (HPB.out.chg (HX.out.alloc (.cells #[.slice E b.length d3] 23)) id)).2.2.1;refine A_ (rs:=[4,7]) (by kernel_rfl) (by simp) ?_;refine Ba rfl (fun K hK=>?_) (Ba rfl (fun K hK=>?_) AllReadyH.nil)
  ·go_simp;refine hK.out _ _ trivial (fun hHeld=>?_);clear hK K;(try simp only[AZ,A7,A8,Act.put,AQ,AS,AR]);refine A_ (rs:=[7]) (by kernel_rfl) (by simp) ?_;refine Ba rfl (fun K hK=>?_) AllReadyH.nil;go_simp;refine hK.out _ _ trivial (fun hHeld=>?_);clear hK K;(try simp only[AZ,A7,A8,Act.put,AQ,AS,AR]);refine A_ (rs:=[8]) (by kernel_rfl) (by simp) ?_;refine Ba rfl (fun K hK=>?_) AllReadyH.nil;refine iw _ rfl (.tmp 21) (.tmp 24) 89 rfl 0 23 i0 _ 1 24 Tryz.underlying89 hi0 hz0 hz1 hz2 rfl (by decide) (.slice A n c) n _ rfl ((ay HOW.out HX.out (fun _ _=>id)).alloc _) ⟨w3.heap.size,0,none⟩ 1 1 [.slice E b.length d3] rfl rfl (fun j u hu=>by rw[show (⟨w3.heap.size,0,none⟩:Addr).add j=⟨w3.heap.size,j,none⟩from by unfold Addr.add;split<;>simp_all,(Blk.new w3 23 #[.slice E b.length d3]).cell j];simpa using hu) (by simp[Aw]) (by unfold maxLen;omega) (by omega) (zP _) ?_;intro v5 w5 hown5 hg5 hat5;obtain⟨A5,c5,rfl,_,_⟩:=aV hown5;obtain⟨hsm,hb5⟩:=SN.push HPB.out HOW.out HBQ.out HGS.out.1 HGS.out.2.1 HGS.out.2.2 HN.out HX.out HZ3.out HR3.out hown5 hg5 hat5;have HSM:=hd_ hsm;have g2:=hb5.frozen 2;have x2:=(aL hb5).2.2.1;clear hsm hown5 hg5 hat5 hb5;refine hK.out _ _ trivial (fun hHeld=>?_);clear hK K;try simp only[AZ,A7,A8,Act.put,AQ,AS,AR]
   iterate 2
    first
     |refine tk 9 ?_ ?_ ?_
     |refine tk 10 ?_ ?_ ?_
    rotate_left
    ·intro w' hSw;(try dsimp only at hSw);go_simp;first|done|(with_reducible rfl)
    try simp only[AZ,A7,A8,Act.put,AQ,AS,AR]
   refine A_ (rs:=[11]) (by kernel_rfl) (by simp) ?_;refine Ba rfl (fun K hK=>?_) AllReadyH.nil;go_simp;refine hK.out _ _ trivial (fun hHeld=>?_);clear hK K;(try simp only[AZ,A7,A8,Act.put,AQ,AS,AR]);refine Ct (by kernel_rfl) ?_ _;refine Cu ?_;go_wp2_with fail;go_ret;exact⟨lx HE.out.1.symm,by rw[HE.out.2];exact SM.pre HC1.out HSM.out HLT.out⟩
  ·go_simp;refine hK.out _ _ trivial (fun hHeld=>?_);clear hK K;(try simp only[AZ,A7,A8,Act.put,AQ,AS,AR]);refine A_ (rs:=[4]) (by kernel_rfl) (by simp) ?_;refine Ba rfl (fun K hK=>?_) AllReadyH.nil;go_simp;refine hK.out _ _ trivial (fun hHeld=>?_);clear hK K;(try simp only[AZ,A7,A8,Act.put,AQ,AS,AR]);refine A_ (rs:=[8]) (by kernel_rfl) (by simp) ?_;refine Ba rfl (fun K hK=>?_) AllReadyH.nil;refine iw _ rfl (.tmp 21) (.tmp 24) 89 rfl 0 23 i0 _ 1 24 Tryz.underlying89 hi0 hz0 hz1 hz2 rfl (by decide) (.slice A n c) n _ rfl ((ay HOW.out HX.out (fun _ _=>id)).alloc _) ⟨w3.heap.size,0,none⟩ 1 1 [.slice E b.length d3] rfl rfl (fun j u hu=>by rw[show (⟨w3.heap.size,0,none⟩:Addr).add j=⟨w3.heap.size,j,none⟩from by unfold Addr.add;split<;>simp_all,(Blk.new w3 23 #[.slice E b.length d3]).cell j];simpa using hu) (by simp[Aw]) (by unfold maxLen;omega) (by omega) (zP _) ?_;intro v5 w5 hown5 hg5 hat5;obtain⟨A5,c5,rfl,_,_⟩:=aV hown5;obtain⟨hsm,hb5⟩:=SN.push HPB.out HOW.out HBQ.out HGS.out.1 HGS.out.2.1 HGS.out.2.2 HN.out HX.out HZ3.out HR3.out hown5 hg5 hat5;have HSM:=hd_ hsm;have g2:=hb5.frozen 2;have x2:=(aL hb5).2.2.1;clear hsm hown5 hg5 hat5 hb5;refine hK.out _ _ trivial (fun hHeld=>?_);clear hK K;try simp only[AZ,A7,A8,Act.put,AQ,AS,AR]
   iterate 2
    first
     |refine tk 9 ?_ ?_ ?_
     |refine tk 10 ?_ ?_ ?_
    rotate_left
    ·intro w' hSw;(try dsimp only at hSw);go_simp;first|done|(with_reducible rfl)
    try simp only[AZ,A7,A8,Act.put,AQ,AS,AR]
   refine A_ (rs:=[11]) (by kernel_rfl) (by simp) ?_;refine Ba rfl (fun K hK=>?_) AllReadyH.nil;go_simp;refine hK.out _ _ trivial (fun hHeld=>?_);clear hK K;(try simp only[AZ,A7,A8,Act.put,AQ,AS,AR]);refine Ct (by kernel_rfl) ?_ _;refine Cu ?_;go_wp2_with fail;go_ret;exact⟨lx HE.out.1.symm,by rw[HE.out.2];exact SM.pre HC1.out HSM.out HLT.out⟩
def tkC(A:Option Addr)(n c:Nat)(g r:Bool):Array Value:=#[.slice A n c,.bool g,.bool r]
theorem aT{w:World}{v:Nat}{T:TypeId}{A:Option Addr}{n c:Nat}{g r:Bool}(h:Blk w v T (tkC A n c g r)):
  w.cell? ⟨v,0,none⟩=some (.slice A n c)∧w.cell? ⟨v,1,none⟩=some (.bool g)∧w.cell? ⟨v,2,none⟩=some (.bool r):=by
 have h0:=h.cell 0;have h1:=h.cell 1;have h2:=h.cell 2;simp only[tkC,Ap,Aq,Ar]at h0 h1 h2;exact⟨h0,h1,h2⟩
theorem dz{w:World}{v:Nat}{T:TypeId}{cs:Array Value}(hb:Blk w v T cs):w.frozen? ⟨v,0,none⟩=false∧w.frozen? ⟨v,1,none⟩=false∧w.frozen? ⟨v,2,none⟩=false:=⟨hb.frozen 0,hb.frozen 1,hb.frozen 2⟩
theorem eS{w:World}{v:Nat}{T:TypeId}{A:Option Addr}{n c:Nat}{g r:Bool}(hb:Blk w v T (tkC A n c g r))(A':Option Addr)(n' c':Nat)(g' r':Bool):
  (w.setCell ⟨v,0,none⟩ (.slice A' n' c')).cell? ⟨v,0,none⟩=some (.slice A' n' c')∧
  ((w.setCell ⟨v,0,none⟩ (.slice A' n' c')).setCell ⟨v,1,none⟩ (.bool g')).cell? ⟨v,1,none⟩=some (.bool g')∧
  (((w.setCell ⟨v,0,none⟩ (.slice A' n' c')).setCell ⟨v,1,none⟩ (.bool g')).setCell ⟨v,2,none⟩ (.bool r')).cell? ⟨v,2,none⟩=some (.bool r')∧
  Blk (((w.setCell ⟨v,0,none⟩ (.slice A' n' c')).setCell ⟨v,1,none⟩ (.bool g')).setCell ⟨v,2,none⟩ (.bool r')) v T (tkC A' n' c' g' r')∧Chg (fun k=>k=v) w (((w.setCell ⟨v,0,none⟩ (.slice A' n' c')).setCell ⟨v,1,none⟩ (.bool g')).setCell ⟨v,2,none⟩ (.bool r')):=by
 have h0:=(hb.set 0 (.slice A' n' c'));have r0:=h0.cell 0;have h1:=((hb.set 0 (.slice A' n' c')).set 1 (.bool g'));have r1:=h1.cell 1;have h2:=(((hb.set 0 (.slice A' n' c')).set 1 (.bool g')).set 2 (.bool r'));have r2:=h2.cell 2;simp only[tkC,AQ,AR,AS,Ap,Aq,Ar]at r0 r1 r2 h2;exact⟨r0,r1,r2,h2,((((Chg.refl (fun k=>k=v) w).put v 0 (fun _=>rfl) _).put v 1 (fun _=>rfl) _).put v 2 (fun _=>rfl) _)⟩
def i2(x:SV)(l:LV):SV:=if x.pe<l.mi then⟨x.mi,l.mi,1,0,[]⟩else x
def ix(x:SV)(l:LV):SV:=if l.pe=x.mi then dJ (i2 x l) l.ac else i2 x l
def ej(x:SV)(l:LV):Bool:=decide (l.pe=x.mi)&&decide (l.se=(i2 x l).go+1)
def gk(x:SV)(l:LV):Bool:=ltR l.mi l.pe l.ac l.se l.b.length&&decide (x.pe≤l.mi)
def tkE(x:SV)(l:LV):Int:=if ltR l.mi l.pe l.ac l.se l.b.length=true then(if l.mi<x.pe then 7 else 0)else 1
def tkS(x:SV)(l:LV):SV:=if gk x l=true then(if ej x l=true then{ix x l with go:=l.se}else ix x l)else x
def dP(x:SV)(l:LV):Bool:=gk x l&&ej x l
def el(x:SV)(l:LV):Bool:=gk x l&&decide (x.pe<l.mi)
def tkB(x:SV)(l:LV):List UInt8:=if dP x l=true then l.b else []
def SMq(p:Nat)(o:Option Nat)(G:Nat→Prop)(y:SV)(w w':World):Prop:=∃o',(o'=o∨o'=none)∧SN w' p o' (GN G w o') y∧Mvd p o o' w w'
theorem SMq.sm{p:Nat}{o:Option Nat}{G:Nat→Prop}{y:SV}{w w':World}(h:SMq p o G y w w'):SM p o G y w w':=by
 obtain⟨o',_,h1,h2⟩:=h;exact⟨o',h1,h2⟩
def TkR(p:Nat)(o:Option Nat)(G:Nat→Prop)(y:SV)(b:List UInt8)(got res:Bool)(er:Int)(w:World)(e:Ending)(w':World):Prop:=
 ∃A c,e=.returned (.tuple #[.agg (tkC A b.length c got res),U Z er])∧(A=none→c=0)∧Rds w' (fun k=>w.heap.size≤k) A b.length (bcs b)∧SMq p o G y w w'
def fp(p:Nat)(o:Option Nat)(G:Nat→Prop)(x:SV)(l:LV)(w:World):Ending→World→Prop:=TkR p o G (tkS x l) (tkB x l) (dP x l) (el x l) (tkE x l) w
theorem SN.sm2{w w':World}{p:Nat}{o oy:Option Nat}{G:Nat→Prop}{x y:SV}(h:SN w p o G x)(h2:SN w' p oy (fun k=>G k∧k<w.heap.size) y)(hm:Mvd p o oy w w')(ho:oy=o∨oy=none):SMq p o G y w w':=by
 obtain⟨g1,g2⟩:=GN.ok h hm;exact⟨oy,ho,h2.mono (fun k hk _=>.inl hk) g1 g2,hm⟩
theorem SN.raw{w:World}{p:Nat}{o:Option Nat}{G:Nat→Prop}{mi pe nx go:Int}{q:List (List UInt8)}(h:SN w p o G ⟨mi,pe,nx,go,q⟩):∃A m c,Blk w p 207 (snC mi pe A m c nx go):=by
 obtain⟨A,c,vs,hb,_⟩:=h;exact⟨A,_,c,hb⟩
theorem SN.got{w:World}{p:Nat}{o:Option Nat}{G:Nat→Prop}{mi pe nx go:Int}{q:List (List UInt8)}(h:SN w p o G ⟨mi,pe,nx,go,q⟩)(v:Int):SN (w.setCell ⟨p,4,none⟩ (U Z v)) p o G ⟨mi,pe,nx,v,q⟩:=by
 obtain⟨A,c,vs,hb,hown,h1,h2,h3,h4,h5⟩:=h;have hc:=(Chg.refl (fun k=>k=p) w).put p 4 (fun _=>rfl) (U Z v);exact⟨A,c,vs,hb.set 4 (U Z v),ay hown hc (fun k hk e=>by subst e;exact h2 (by rw[←h1];exact hk)),h1,h2,h3.chg hc (fun k hk e=>by subst e;exact h4 hk),h4,h5⟩
theorem SN.anew{w w':World}{p:Nat}{o:Option Nat}{G:Nat→Prop}{x:SV}{mi pe:Int}(h:SN w p o G x)(hb:Blk w' p 207 (snC mi pe none 0 0 1 0)):SN w' p none G ⟨mi,pe,1,0,[]⟩:=by
 obtain⟨A,c,vs,_,_,h1,h2,h3,h4,h5⟩:=h;exact⟨none,0,[],hb,World.ownsRow_nil _ _ _ _,rfl,by simp,BQ.nil _ _,h4,fun k hk=>by cases hk⟩
theorem Mvd.put{p v:Nat}{o o1:Option Nat}{w w1 w2:World}(h:Mvd p o o1 w w1)(hc:Chg (fun k=>k=v) w1 w2)(hv:w.heap.size≤v):Mvd p o o1 w w2:=⟨h.1.trans hc (fun i hi e=>by subst e;omega),h.2⟩
section
variable {p : Nat} {o : Option Nat} {G : Nat → Prop} {x : SV} {l : LV} {w w' : World} {e : Ending}
theorem xz(h:ltR l.mi l.pe l.ac l.se l.b.length=false)(hh:TkR p o G x [] false false 1 w e w'):fp p o G x l w e w':=by
 have h1:gk x l=false:=by unfold gk;rw[h];rfl
 have h2:dP x l=false:=by unfold dP;rw[h1];rfl
 unfold fp;rw[show tkS x l=x from by unfold tkS;rw[h1];rfl,show tkB x l=[]from by unfold tkB;rw[h2];rfl,h2,show el x l=false from by unfold el;rw[h1];rfl,show tkE x l=1 from by unfold tkE;rw[h];rfl];exact hh
theorem uu(h:ltR l.mi l.pe l.ac l.se l.b.length=true)(hs:l.mi<x.pe)(hh:TkR p o G x [] false false 7 w e w'):fp p o G x l w e w':=by
 have h1:gk x l=false:=by unfold gk;rw[h];simp;omega
 have h2:dP x l=false:=by unfold dP;rw[h1];rfl
 unfold fp;rw[show tkS x l=x from by unfold tkS;rw[h1];rfl,show tkB x l=[]from by unfold tkB;rw[h2];rfl,h2,show el x l=false from by unfold el;rw[h1];rfl,show tkE x l=7 from by unfold tkE;rw[if_pos h,if_pos hs]];exact hh
theorem pZ(h:ltR l.mi l.pe l.ac l.se l.b.length=true)(hs:¬l.mi<x.pe)(y:SV)(b:List UInt8)(got res:Bool)(hy:(if ej x l=true then{ix x l with go:=l.se}else ix x l)=y)(hb:(if ej x l=true then l.b else [])=b)(hg:ej x l=got)(hr:decide (x.pe<l.mi)=res)
  (hh:TkR p o G y b got res 0 w e w'):fp p o G x l w e w':=by
 have h1:gk x l=true:=by unfold gk;rw[h];simp;omega
 have h2:dP x l=ej x l:=by unfold dP;rw[h1];rfl
 subst hy hb hg hr;unfold fp;rw[show tkS x l=_ from if_pos h1,show tkB x l=(if ej x l=true then l.b else [])from by unfold tkB;rw[h2],h2,show el x l=decide (x.pe<l.mi)from by unfold el;rw[h1];rfl,show tkE x l=0 from by unfold tkE;rw[if_pos h,if_neg hs]];exact hh
theorem m2(h:ltR l.mi l.pe l.ac l.se l.b.length=true)(hs:¬l.mi<x.pe)(hp:l.pe≠x.mi){res:Bool}(hr:decide (x.pe<l.mi)=res){y:SV}(hy:i2 x l=y)(hh:TkR p o G y [] false res 0 w e w'):fp p o G x l w e w':=by
 have h2:ej x l=false:=by unfold ej;simp[hp]
 exact pZ h hs y [] false res (by rw[h2];simp only[Cw,if_false];unfold ix;rw[if_neg hp];exact hy) (by rw[h2];rfl) h2 hr hh
theorem oU(h:ltR l.mi l.pe l.ac l.se l.b.length=true)(hs:¬l.mi<x.pe)(hp:l.pe=x.mi){res:Bool}(hr:decide (x.pe<l.mi)=res){y:SV}(hy:i2 x l=y)(hq:l.se≠y.go+1)(hh:TkR p o G (dJ y l.ac) [] false res 0 w e w'):fp p o G x l w e w':=by
 subst hy
 have h2:ej x l=false:=by unfold ej;simp[hq]
 exact pZ h hs _ [] false res (by rw[h2];simp only[Cw,if_false];unfold ix;rw[if_pos hp]) (by rw[h2];rfl) h2 hr hh
theorem rX(h:ltR l.mi l.pe l.ac l.se l.b.length=true)(hs:¬l.mi<x.pe)(hp:l.pe=x.mi){res:Bool}(hr:decide (x.pe<l.mi)=res){y:SV}(hy:i2 x l=y)(hq:l.se=y.go+1)(hh:TkR p o G {dJ y l.ac with go:=l.se} l.b true res 0 w e w'):fp p o G x l w e w':=by
 subst hy
 have h2:ej x l=true:=by unfold ej;simp[hq,hp]
 exact pZ h hs _ l.b true res (by rw[h2];simp only[if_true];unfold ix;rw[if_pos hp]) (by rw[h2];rfl) h2 hr hh
end
theorem rY(p:Nat)(o:Option Nat)(G:Nat→Prop)(x:SV)(l:LV)(B:Option Addr)(n d:Nat)(S:Nat→Prop)(w:World)(h:SN w p o G x)(hok:SOk x)(hn:n=l.b.length)(hr:Rds w S B n (bcs l.b))(hz:1≤n→B=none→d=0)(hmax:n≤9223372036854775807)(hSp:¬S p)(hSo:∀k,o=some k→¬S k):Calls Tryz.prog 65 #[.pointer (some ⟨p,0,none⟩),.agg (ltC l.mi l.pe l.ac l.se B n d)] w (fp p o G x l w):=by
 obtain⟨mi,pe,nx,go,q⟩:=x;obtain⟨lm,lp,la,ls,b⟩:=l;simp only at hn hr⊢;subst hn;have hplt:=h.lt.1;have HSN0:=hd_ h;have HOO:=hd_ h.lt.2;have HSP:=hd_ hSp;have HSO:=hd_ hSo;have HOK:=hd_ hok;have hgo:=hok.go0;have HC0:=hd_ (((Chg.refl (fun _=>False) w).alloc (.cells #[U Z lm,U Z lp,U Z la,U Z ls,.slice B b.length d] 122)).alloc (.cells #[.slice none 0 0,.bool false,.bool false] 126));have HQ:Hid (Blk ((w.alloc (.cells #[U Z lm,U Z lp,U Z la,U Z ls,.slice B b.length d] 122)).alloc (.cells #[.slice none 0 0,.bool false,.bool false] 126)) w.heap.size 122 (ltC lm lp la ls B b.length d)):=hd_ ((af rfl).alloc _);have HR:Hid (Blk ((w.alloc (.cells #[U Z lm,U Z lp,U Z la,U Z ls,.slice B b.length d] 122)).alloc (.cells #[.slice none 0 0,.bool false,.bool false] 126)) (w.heap.size+1) 126 (tkC none 0 0 false false)):=hd_ (af (by simp));have HSN:=hd_ (h.old.new HC0.out);have HBB:=hd_ (hr.old.chg HC0.out (fun _ _=>id));have HM:=hd_ ((Mvd.refl p o w).post HC0.out);have hrt:=fun W=>jD lm lp la ls B b.length d W hmax;generalize hlr:ltR lm lp la ls b.length=rb at*;have HLR:Hid (ltR (LV.mk lm lp la ls b).mi (LV.mk lm lp la ls b).pe (LV.mk lm lp la ls b).ac (LV.mk lm lp la ls b).se (LV.mk lm lp la ls b).b.length=rb):=hd_ hlr
 have HLS5:Hid (rb=true→ls≠0→1≤b.length):=hd_ (fun e h0=>by
  rw[e]at hlr
  exact(gM hlr).2.2.2.2.2.1 h0)
 have hls:rb=true→b.length≤1000∧(0≤lm∧lm≤4294967296)∧(0≤lp∧lp≤4294967296)∧(0≤la∧la≤1099511627776):=fun e=>by
  rw[e]at hlr;have:=gM hlr;omega
 have HRT:=hd_ hrt;clear h hr hSp hSo hok hrt hlr HC0;unfold ltC;go_in;go_upto_region 1 with fail;generalize (w.alloc (.cells #[U Z lm,U Z lp,U Z la,U Z ls,.slice B b.length d] 122)).alloc (.cells #[.slice none 0 0,.bool false,.bool false] 126)=w1 at*;obtain⟨q0,q1,q2,q3,q4⟩:=aW HQ.out;unfold ltC at HRT
 cases rb with
 |false=>
  have HOY:=HOO;go_wp2_with fail;refine(HRT.out _).mono ?_;rintro e w2 ⟨rfl,hc⟩;replace HQ:=hd_ (HQ.out.chg hc id);replace HR:=hd_ (HR.out.chg hc id);replace HSN:=hd_ (HSN.out.new hc);replace HBB:=hd_ (HBB.out.chg hc (fun _ _=>id));replace HM:=hd_ (HM.out.post hc);clear hc q0 q1 q2 q3 q4;obtain⟨u0,u1,u2⟩:=dz HR.out;obtain⟨x0,x1,x2⟩:=aT HR.out;obtain⟨r0,r1,r2,-,hcs⟩:=eS HR.out none 0 0 false false;have RR:=hd_ (And.intro r0 (And.intro r1 r2));have HCS:=hd_ hcs;clear r0 r1 r2 hcs;go_wp2_with fail;obtain⟨r0,r1,r2⟩:=RR.out;exact AW (v:=.tuple #[.agg (tkC none 0 0 false false),U Z 1]) (by simp[results,Tryz.results65,go_sem,tkC,r0,r1,r2]) rfl (xz HLR.out ⟨none,0,rfl,fun _=>rfl,Rds.nil _ _ _,HSN0.out.sm2 (HSN.out.chg HCS.out (by omega) (fun k hk=>by have:=HOY.out k hk;omega) (fun k hk=>by have:=hk.2;omega)) (HM.out.put HCS.out (by omega)) (by first|exact .inl rfl|exact .inr rfl)⟩)
 |true=>
  obtain⟨hl1,hl2,hl3,hl4⟩:=hls rfl;go_wp2_with fail;refine(HRT.out _).mono ?_;rintro e w2 ⟨rfl,hc⟩;replace HQ:=hd_ (HQ.out.chg hc id);replace HR:=hd_ (HR.out.chg hc id);replace HSN:=hd_ (HSN.out.new hc);replace HBB:=hd_ (HBB.out.chg hc (fun _ _=>id));replace HM:=hd_ (HM.out.post hc);clear hc q0 q1 q2 q3 q4;obtain⟨A9,m9,c9,hbp⟩:=SN.raw HSN.out;obtain⟨s0,s1,s2,s3,s4⟩:=aL hbp;obtain⟨q0,q1,q2,q3,q4⟩:=aW HQ.out;clear hbp;by_cases hst:lm<pe
  ·have HOY:=HOO;have HST:=hd_ hst;go_wp2_with fail
   go_region
   clear s0 s1 s2 s3 s4 q0 q1 q2 q3 q4;replace HQ:=hd_ HQ.out.drew;replace HR:=hd_ HR.out.drew;replace HSN:=hd_ HSN.out.drew;replace HBB:=hd_ HBB.out.drew;replace HM:=hd_ (HM.out.post (Chg.refl _ w2).drew);generalize w2.drew=w3 at*;obtain⟨u0,u1,u2⟩:=dz HR.out;obtain⟨x0,x1,x2⟩:=aT HR.out;obtain⟨r0,r1,r2,-,hcs⟩:=eS HR.out none 0 0 false false;have RR:=hd_ (And.intro r0 (And.intro r1 r2));have HCS:=hd_ hcs;clear r0 r1 r2 hcs;go_wp2_with fail;obtain⟨r0,r1,r2⟩:=RR.out;exact AW (v:=.tuple #[.agg (tkC none 0 0 false false),U Z 7]) (by simp[results,Tryz.results65,go_sem,tkC,r0,r1,r2]) rfl (uu HLR.out HST.out ⟨none,0,rfl,fun _=>rfl,Rds.nil _ _ _,HSN0.out.sm2 (HSN.out.chg HCS.out (by omega) (fun k hk=>by have:=HOY.out k hk;omega) (fun k hk=>by have:=hk.2;omega)) (HM.out.put HCS.out (by omega)) (by first|exact .inl rfl|exact .inr rfl)⟩)
  ·by_cases hres:pe<lm
   ·have HRES:=hd_ hres;go_wp2_with fail;have HST:=hd_ hst
    go_region
    clear s0 s1 s2 s3 s4 q0 q1 q2 q3 q4;replace HQ:=hd_ HQ.out.drew;replace HR:=hd_ HR.out.drew;replace HSN:=hd_ HSN.out.drew;replace HBB:=hd_ HBB.out.drew;replace HM:=hd_ (HM.out.post (Chg.refl _ w2).drew);generalize w2.drew=w3 at*;obtain⟨A9,m9,c9,hbp⟩:=SN.raw HSN.out;obtain⟨s0,s1,s2,s3,s4⟩:=aL hbp;obtain⟨q0,q1,q2,q3,q4⟩:=aW HQ.out;have hba:Blk (w3.alloc (.cells #[.slice none 0 0,.bool false,.bool false] 126)) p 207 (snC mi pe A9 m9 c9 nx go):=hbp.alloc _;have hqa:Blk (w3.alloc (.cells #[.slice none 0 0,.bool false,.bool false] 126)) w.heap.size 122 (ltC lm lp la ls B b.length d):=HQ.out.alloc _;obtain⟨-,t1,-,-,-⟩:=aL hba;obtain⟨k0,-,-,-,-⟩:=aW hqa;clear hbp hba hqa;go_wp2_with fail
    go_region
    clear s0 s1 s2 s3 s4 q0 q1 q2 q3 q4 t1 k0;have hhv:w.heap.size+1<w3.heap.size:=HR.out.lt;have HV:Hid (Blk (w3.alloc (.cells #[.slice none 0 0,.bool false,.bool true] 126)) w3.heap.size 126 (tkC none 0 0 false true)):=hd_ (af rfl);have hc:=(Chg.refl (fun _=>False) w3).alloc (.cells #[.slice none 0 0,.bool false,.bool true] 126);replace HQ:=hd_ (HQ.out.chg hc id);replace HR:=hd_ (HR.out.chg hc id);replace HSN:=hd_ (HSN.out.new hc);replace HBB:=hd_ (HBB.out.chg hc (fun _ _=>id));replace HM:=hd_ (HM.out.post hc);clear hc;generalize w3.alloc (.cells #[.slice none 0 0,.bool false,.bool true] 126)=w34 at*;generalize w3.heap.size=hv at*;replace HQ:=hd_ HQ.out.drew;replace HR:=hd_ HR.out.drew;replace HSN:=hd_ HSN.out.drew;replace HBB:=hd_ HBB.out.drew;replace HV:=hd_ HV.out.drew;replace HM:=hd_ (HM.out.post (Chg.refl _ w34).drew);generalize w34.drew=w35 at*;obtain⟨A9,m9,c9,hbp⟩:=SN.raw HSN.out;obtain⟨s0,s1,s2,s3,s4⟩:=aL hbp;have g0:=hbp.frozen 0;have g1:=hbp.frozen 1;have g2:=hbp.frozen 2;have g3:=hbp.frozen 3;have g4:=hbp.frozen 4;obtain⟨q0,q1,q2,q3,q4⟩:=aW HQ.out;obtain⟨v0,v1,v2⟩:=aT HV.out;have hb5:Blk (((((w35.setCell ⟨p,0,none⟩ (U Z mi)).setCell ⟨p,1,none⟩ (U Z lm)).setCell ⟨p,2,none⟩ (.slice none 0 0)).setCell ⟨p,3,none⟩ (U Z 1)).setCell ⟨p,4,none⟩ (U Z 0)) p 207 (snC mi lm none 0 0 1 0):=((((hbp.set 0 (U Z mi)).set 1 (U Z lm)).set 2 (.slice none 0 0)).set 3 (U Z 1)).set 4 (U Z 0);have hc:Chg (fun k=>k=p) w35 (((((w35.setCell ⟨p,0,none⟩ (U Z mi)).setCell ⟨p,1,none⟩ (U Z lm)).setCell ⟨p,2,none⟩ (.slice none 0 0)).setCell ⟨p,3,none⟩ (U Z 1)).setCell ⟨p,4,none⟩ (U Z 0)):=(((((Chg.refl (fun k=>k=p) w35).put p 0 (fun _=>rfl) _).put p 1 (fun _=>rfl) _).put p 2 (fun _=>rfl) _).put p 3 (fun _=>rfl) _).put p 4 (fun _=>rfl) _;have HC5:=hd_ hc;have HB5:=hd_ hb5;clear hbp hb5 hc;go_wp2_with fail
    go_region
    clear s0 s1 s2 s3 s4 q0 q1 q2 q3 q4 v0 v1 v2 g0 g1 g2 g3 g4;have hc:=HC5.out;replace HQ:=hd_ (HQ.out.chg hc (by omega));replace HR:=hd_ (HR.out.chg hc (by omega));replace HV:=hd_ (HV.out.chg hc (by omega));replace HBB:=hd_ (HBB.out.chg hc (fun k hk e=>by subst e;exact HSP.out hk.1));replace HM:Hid (Mvd p o none w _):=hd_ ⟨HM.out.1.trans hc (fun _ _ e=>.inl e),.inr (.inl rfl)⟩;replace HSN:=hd_ (HSN.out.anew HB5.out);clear HC5 HB5 hc;generalize ((((w35.setCell ⟨p,0,none⟩ (U Z mi)).setCell ⟨p,1,none⟩ (U Z lm)).setCell ⟨p,2,none⟩ (.slice none 0 0)).setCell ⟨p,3,none⟩ (U Z 1)).setCell ⟨p,4,none⟩ (U Z 0)=w36 at*;have HOY:Hid (∀k,(none:Option Nat)=some k→k<w.heap.size):=hd_ (fun k hk=>by cases hk);have HSOK:Hid (SOk ⟨mi,lm,1,0,[]⟩):=hd_ ⟨by simp,by simp,⟨by simp,by simp⟩,⟨by simp,by simp⟩⟩;replace HSO:Hid (∀k,(none:Option Nat)=some k→¬S k):=hd_ (fun k hk=>by cases hk);replace HQ:=hd_ HQ.out.drew;replace HR:=hd_ HR.out.drew;replace HSN:=hd_ HSN.out.drew;replace HBB:=hd_ HBB.out.drew;replace HV:=hd_ HV.out.drew;replace HM:=hd_ (HM.out.post (Chg.refl _ w36).drew);generalize w36.drew=w4 at*;go_wp2_with fail;obtain⟨A9,m9,c9,hbp⟩:=SN.raw HSN.out;obtain⟨s0,s1,s2,s3,s4⟩:=aL hbp;obtain⟨q0,q1,q2,q3,q4⟩:=aW HQ.out;clear hbp;by_cases hpm:lp=mi
    case neg=>
     have tp:(lp==mi)=false:=by simpa using hpm
     have tp2:(lp !=mi)=true:=by simpa using hpm
     have HPM:=hd_ hpm;clear hpm
     go_region
     clear s0 s1 s2 s3 s4 q0 q1 q2 q3 q4;replace HQ:=hd_ HQ.out.drew;replace HR:=hd_ HR.out.drew;replace HSN:=hd_ HSN.out.drew;replace HBB:=hd_ HBB.out.drew;replace HV:=hd_ HV.out.drew;replace HM:=hd_ (HM.out.post (Chg.refl _ w4).drew);generalize w4.drew=w5 at*;obtain⟨u0,u1,u2⟩:=dz HR.out;obtain⟨x0,x1,x2⟩:=aT HR.out;obtain⟨v0,v1,v2⟩:=aT HV.out;obtain⟨r0,r1,r2,-,hcs⟩:=eS HR.out none 0 0 false true;have RR:=hd_ (And.intro r0 (And.intro r1 r2));have HCS:=hd_ hcs;clear r0 r1 r2 hcs;go_wp2_with fail;obtain⟨r0,r1,r2⟩:=RR.out;exact AW (v:=.tuple #[.agg (tkC none 0 0 false true),U Z 0]) (by simp[results,Tryz.results65,go_sem,tkC,r0,r1,r2]) rfl (m2 HLR.out (show¬lm<pe from by have:=HST.out;omega) HPM.out (decide_eq_true (show pe<lm from HRES.out)) (if_pos (show pe<lm from HRES.out)) ⟨none,0,rfl,fun _=>rfl,Rds.nil _ _ _,HSN0.out.sm2 (HSN.out.chg HCS.out (by omega) (fun k hk=>by have:=HOY.out k hk;omega) (fun k hk=>by have:=hk.2;omega)) (HM.out.put HCS.out (by omega)) (by first|exact .inl rfl|exact .inr rfl)⟩)
    have tp:(lp==mi)=true:=by simpa using hpm
    have tp2:(lp !=mi)=false:=by simpa using hpm
    have HPM:=hd_ hpm;clear hpm
    go_region
    clear s0 s1 s2 s3 s4 q0 q1 q2 q3 q4;replace HQ:=hd_ HQ.out.drew;replace HR:=hd_ HR.out.drew;replace HSN:=hd_ HSN.out.drew;replace HBB:=hd_ HBB.out.drew;replace HV:=hd_ HV.out.drew;replace HM:=hd_ (HM.out.post (Chg.refl _ w4).drew);generalize w4.drew=w5 at*;have HAC:=hd_ (mZ p none _ ⟨mi,lm,1,0,[]⟩ la w5 HSN.out HSOK.out);obtain⟨q0,q1,q2,q3,q4⟩:=aW HQ.out;go_wp2_with fail;refine HAC.out.mono ?_;rintro e w6 ⟨rfl,hsn6,hc⟩;replace HSN:=hd_ hsn6;clear hsn6 HAC q0 q1 q2 q3 q4;replace HQ:=hd_ (HQ.out.chg hc (fun e=>e.elim (fun e=>by omega) (fun e=>by have:=HOY.out _ e;omega)));replace HR:=hd_ (HR.out.chg hc (fun e=>e.elim (fun e=>by omega) (fun e=>by have:=HOY.out _ e;omega)));replace HV:=hd_ (HV.out.chg hc (fun e=>e.elim (fun e=>by omega) (fun e=>by have:=HOY.out _ e;omega)));replace HBB:=hd_ (HBB.out.chg hc (fun k hk e=>e.elim (fun e=>HSP.out (e▸hk.1)) (fun e=>HSO.out k e hk.1)));replace HM:=hd_ (HM.out.trans ⟨hc,.inl rfl⟩);clear hc;have hack:dJ ⟨mi,lm,1,0,[]⟩ la=⟨mi,lm,(dJ ⟨mi,lm,1,0,[]⟩ la).nx,0,(dJ ⟨mi,lm,1,0,[]⟩ la).q⟩:=rfl;generalize hnx2:(dJ ⟨mi,lm,1,0,[]⟩ la).nx=nx2 at*;generalize hq2:(dJ ⟨mi,lm,1,0,[]⟩ la).q=q2 at*;have HACK:=hd_ hack;rw[hack]at HSN;clear hack hnx2 hq2;obtain⟨A9,m9,c9,hbp⟩:=SN.raw HSN.out;obtain⟨s0,s1,s2,s3,s4⟩:=aL hbp;obtain⟨q0,q1,q2,q3,q4⟩:=aW HQ.out;have hw1:IntKind.i64.wrap (0+1)=0+1:=IntWalk.i64_in _ (by omega);by_cases hse:ls=0+1
    case neg=>
     have te:(ls==0+1)=false:=by simpa using hse
     have HSE:=hd_ hse;clear hse hbp;go_wp2_with fail
     go_region
     clear s0 s1 s2 s3 s4 q0 q1 q2 q3 q4;replace HQ:=hd_ HQ.out.drew;replace HR:=hd_ HR.out.drew;replace HSN:=hd_ HSN.out.drew;replace HBB:=hd_ HBB.out.drew;replace HV:=hd_ HV.out.drew;replace HM:=hd_ (HM.out.post (Chg.refl _ w6).drew);generalize w6.drew=w7 at*;obtain⟨u0,u1,u2⟩:=dz HR.out;obtain⟨x0,x1,x2⟩:=aT HR.out;obtain⟨v0,v1,v2⟩:=aT HV.out;obtain⟨r0,r1,r2,-,hcs⟩:=eS HR.out none 0 0 false true;have RR:=hd_ (And.intro r0 (And.intro r1 r2));have HCS:=hd_ hcs;clear r0 r1 r2 hcs;go_wp2_with fail;obtain⟨r0,r1,r2⟩:=RR.out;exact AW (v:=.tuple #[.agg (tkC none 0 0 false true),U Z 0]) (by simp[results,Tryz.results65,go_sem,tkC,r0,r1,r2]) rfl (oU HLR.out (show¬lm<pe from by have:=HST.out;omega) HPM.out (decide_eq_true (show pe<lm from HRES.out)) (if_pos (show pe<lm from HRES.out)) HSE.out ⟨none,0,rfl,fun _=>rfl,Rds.nil _ _ _,HSN0.out.sm2 (by rw[HACK.out];exact(HSN.out.chg HCS.out (by omega) (fun k hk=>by have:=HOY.out k hk;omega) (fun k hk=>by have:=hk.2;omega))) (HM.out.put HCS.out (by omega)) (by first|exact .inl rfl|exact .inr rfl)⟩)
    have te:(ls==0+1)=true:=by simpa using hse
    have HL1:Hid (1≤b.length):=hd_ (HLS5.out (by first|trivial|rfl) (by omega));have HSE:=hd_ hse;clear hse hbp;go_wp2_with fail
    go_region
    clear s0 s1 s2 s3 s4 q0 q1 q2 q3 q4;replace HQ:=hd_ HQ.out.drew;replace HR:=hd_ HR.out.drew;replace HSN:=hd_ HSN.out.drew;replace HBB:=hd_ HBB.out.drew;replace HV:=hd_ HV.out.drew;replace HM:=hd_ (HM.out.post (Chg.refl _ w6).drew);generalize w6.drew=w7 at*;obtain⟨A9,m9,c9,hbp⟩:=SN.raw HSN.out;obtain⟨s0,s1,s2,s3,s4⟩:=aL hbp;have g4:=hbp.frozen 4;obtain⟨q0,q1,q2,q3,q4⟩:=aW HQ.out;replace HSN:=hd_ (HSN.out.got ls);have hc:=(Chg.refl (fun k=>k=p) w7).put p 4 (fun _=>rfl) (U Z ls);replace HQ:=hd_ (HQ.out.chg hc (by omega));replace HR:=hd_ (HR.out.chg hc (by omega));replace HV:=hd_ (HV.out.chg hc (by omega));replace HBB:=hd_ (HBB.out.chg hc (fun k hk e=>by subst e;exact HSP.out hk.1));replace HM:=hd_ (HM.out.trans ⟨hc.mono (fun k _ e=>.inl e),.inl rfl⟩);clear hc hbp;go_upto_region 13 with fail;generalize w7.setCell ⟨p,4,none⟩ (U Z ls)=w8 at*;clear s0 s1 s2 s3 s4 q0 q1 q2 q3 q4 g4;obtain⟨q0,q1,q2,q3,q4⟩:=aW HQ.out;have HCL:=hd_ (iv B b.length d b _ w8 rfl HBB.out (hz HL1.out) (by omega));go_wp2_with fail;refine HCL.out.mono ?_;rintro e w9 ⟨E,ed,rfl,hown,hc⟩;have HNIL:=hd_ (d7 hown);have HRE:=hd_ ((cB hown).mono (S':=fun k=>hv+1≤k) (fun k hk=>by have h1:=HV.out.lt;have h2:=hk.1;omega));clear hown HCL q0 q1 q2 q3 q4;replace HQ:=hd_ (HQ.out.chg hc id);replace HR:=hd_ (HR.out.chg hc id);replace HV:=hd_ (HV.out.chg hc id);replace HSN:=hd_ (HSN.out.new hc);replace HBB:=hd_ (HBB.out.chg hc (fun _ _=>id));replace HM:=hd_ (HM.out.post hc);clear hc;obtain⟨f0,f1,f2⟩:=dz HV.out;obtain⟨v0,v1,v2⟩:=aT HV.out;have hv10:Blk ((w9.setCell ⟨hv,0,none⟩ (.slice E b.length ed)).setCell ⟨hv,1,none⟩ (.bool true)) hv 126 (tkC E b.length ed true true):=(HV.out.set 0 (.slice E b.length ed)).set 1 (.bool true);have hc:=(((Chg.refl (fun k=>k=hv) w9).put hv 0 (fun _=>rfl) (.slice E b.length ed)).put hv 1 (fun _=>rfl) (.bool true));replace HQ:=hd_ (HQ.out.chg hc (by omega));replace HR:=hd_ (HR.out.chg hc (by omega));replace HSN:=hd_ (HSN.out.chg hc (by omega) (fun k hk=>by have:=HOY.out k hk;omega) (fun k hk=>by have:=hk.2;omega));replace HM:=hd_ (HM.out.put hc (by omega));replace HRE:=hd_ (HRE.out.chg hc (fun k hk e=>by omega));replace HV:=hd_ hv10;clear hc hv10 HBB;go_upto_region 14 with fail;generalize (w9.setCell ⟨hv,0,none⟩ (.slice E b.length ed)).setCell ⟨hv,1,none⟩ (.bool true)=w10 at*;clear v0 v1 v2 f0 f1 f2;obtain⟨u0,u1,u2⟩:=dz HR.out;obtain⟨x0,x1,x2⟩:=aT HR.out;obtain⟨v0,v1,v2⟩:=aT HV.out;obtain⟨r0,r1,r2,-,hcs⟩:=eS HR.out E b.length ed true true;have RR:=hd_ (And.intro r0 (And.intro r1 r2));have HCS:=hd_ hcs;clear r0 r1 r2 hcs;go_wp2_with fail;obtain⟨r0,r1,r2⟩:=RR.out;exact AW (v:=.tuple #[.agg (tkC E b.length ed true true),U Z 0]) (by simp[results,Tryz.results65,go_sem,tkC,r0,r1,r2]) rfl (rX HLR.out (show¬lm<pe from by have:=HST.out;omega) HPM.out (decide_eq_true (show pe<lm from HRES.out)) (if_pos (show pe<lm from HRES.out)) HSE.out ⟨E,ed,rfl,HNIL.out,(HRE.out.chg HCS.out (fun k hk e=>by omega)).mono (fun k hk=>by omega),HSN0.out.sm2 (by rw[HACK.out];exact(HSN.out.chg HCS.out (by omega) (fun k hk=>by have:=HOY.out k hk;omega) (fun k hk=>by have:=hk.2;omega))) (HM.out.put HCS.out (by omega)) (by first|exact .inl rfl|exact .inr rfl)⟩)
   ·have HRES:=hd_ hres;have tres:decide (pe<lm)=false:=decide_eq_false hres;go_wp2_with fail;have HST:=hd_ hst
    go_region
    clear s0 s1 s2 s3 s4 q0 q1 q2 q3 q4;replace HQ:=hd_ HQ.out.drew;replace HR:=hd_ HR.out.drew;replace HSN:=hd_ HSN.out.drew;replace HBB:=hd_ HBB.out.drew;replace HM:=hd_ (HM.out.post (Chg.refl _ w2).drew);generalize w2.drew=w3 at*;obtain⟨A9,m9,c9,hbp⟩:=SN.raw HSN.out;obtain⟨s0,s1,s2,s3,s4⟩:=aL hbp;obtain⟨q0,q1,q2,q3,q4⟩:=aW HQ.out;have hba:Blk (w3.alloc (.cells #[.slice none 0 0,.bool false,.bool false] 126)) p 207 (snC mi pe A9 m9 c9 nx go):=hbp.alloc _;have hqa:Blk (w3.alloc (.cells #[.slice none 0 0,.bool false,.bool false] 126)) w.heap.size 122 (ltC lm lp la ls B b.length d):=HQ.out.alloc _;obtain⟨-,t1,-,-,-⟩:=aL hba;obtain⟨k0,-,-,-,-⟩:=aW hqa;clear hbp hba hqa;go_wp2_with fail
    go_region
    clear s0 s1 s2 s3 s4 q0 q1 q2 q3 q4 t1 k0;have hhv:w.heap.size+1<w3.heap.size:=HR.out.lt;have HV:Hid (Blk (w3.alloc (.cells #[.slice none 0 0,.bool false,.bool false] 126)) w3.heap.size 126 (tkC none 0 0 false false)):=hd_ (af rfl);have hc:=(Chg.refl (fun _=>False) w3).alloc (.cells #[.slice none 0 0,.bool false,.bool false] 126);replace HQ:=hd_ (HQ.out.chg hc id);replace HR:=hd_ (HR.out.chg hc id);replace HSN:=hd_ (HSN.out.new hc);replace HBB:=hd_ (HBB.out.chg hc (fun _ _=>id));replace HM:=hd_ (HM.out.post hc);clear hc;generalize w3.alloc (.cells #[.slice none 0 0,.bool false,.bool false] 126)=w34 at*;generalize w3.heap.size=hv at*;replace HQ:=hd_ HQ.out.drew;replace HR:=hd_ HR.out.drew;replace HSN:=hd_ HSN.out.drew;replace HBB:=hd_ HBB.out.drew;replace HV:=hd_ HV.out.drew;replace HM:=hd_ (HM.out.post (Chg.refl _ w34).drew);generalize w34.drew=w4 at*;have HOY:=HOO;have HSOK:=HOK;obtain⟨v0,v1,v2⟩:=aT HV.out;go_wp2_with fail;clear v0 v1 v2;obtain⟨A9,m9,c9,hbp⟩:=SN.raw HSN.out;obtain⟨s0,s1,s2,s3,s4⟩:=aL hbp;obtain⟨q0,q1,q2,q3,q4⟩:=aW HQ.out;clear hbp;by_cases hpm:lp=mi
    case neg=>
     have tp:(lp==mi)=false:=by simpa using hpm
     have tp2:(lp !=mi)=true:=by simpa using hpm
     have HPM:=hd_ hpm;clear hpm
     go_region
     clear s0 s1 s2 s3 s4 q0 q1 q2 q3 q4;replace HQ:=hd_ HQ.out.drew;replace HR:=hd_ HR.out.drew;replace HSN:=hd_ HSN.out.drew;replace HBB:=hd_ HBB.out.drew;replace HV:=hd_ HV.out.drew;replace HM:=hd_ (HM.out.post (Chg.refl _ w4).drew);generalize w4.drew=w5 at*;obtain⟨u0,u1,u2⟩:=dz HR.out;obtain⟨x0,x1,x2⟩:=aT HR.out;obtain⟨v0,v1,v2⟩:=aT HV.out;obtain⟨r0,r1,r2,-,hcs⟩:=eS HR.out none 0 0 false false;have RR:=hd_ (And.intro r0 (And.intro r1 r2));have HCS:=hd_ hcs;clear r0 r1 r2 hcs;go_wp2_with fail;obtain⟨r0,r1,r2⟩:=RR.out;exact AW (v:=.tuple #[.agg (tkC none 0 0 false false),U Z 0]) (by simp[results,Tryz.results65,go_sem,tkC,r0,r1,r2]) rfl (m2 HLR.out (show¬lm<pe from by have:=HST.out;omega) HPM.out (decide_eq_false (show¬pe<lm from by have:=HRES.out;omega)) (if_neg (show¬pe<lm from by have:=HRES.out;omega)) ⟨none,0,rfl,fun _=>rfl,Rds.nil _ _ _,HSN0.out.sm2 (HSN.out.chg HCS.out (by omega) (fun k hk=>by have:=HOY.out k hk;omega) (fun k hk=>by have:=hk.2;omega)) (HM.out.put HCS.out (by omega)) (by first|exact .inl rfl|exact .inr rfl)⟩)
    have tp:(lp==mi)=true:=by simpa using hpm
    have tp2:(lp !=mi)=false:=by simpa using hpm
    have HPM:=hd_ hpm;clear hpm
    go_region
    clear s0 s1 s2 s3 s4 q0 q1 q2 q3 q4;replace HQ:=hd_ HQ.out.drew;replace HR:=hd_ HR.out.drew;replace HSN:=hd_ HSN.out.drew;replace HBB:=hd_ HBB.out.drew;replace HV:=hd_ HV.out.drew;replace HM:=hd_ (HM.out.post (Chg.refl _ w4).drew);generalize w4.drew=w5 at*;have HAC:=hd_ (mZ p o _ ⟨mi,pe,nx,go,q⟩ la w5 HSN.out HSOK.out);obtain⟨q0,q1,q2,q3,q4⟩:=aW HQ.out;go_wp2_with fail;refine HAC.out.mono ?_;rintro e w6 ⟨rfl,hsn6,hc⟩;replace HSN:=hd_ hsn6;clear hsn6 HAC q0 q1 q2 q3 q4;replace HQ:=hd_ (HQ.out.chg hc (fun e=>e.elim (fun e=>by omega) (fun e=>by have:=HOY.out _ e;omega)));replace HR:=hd_ (HR.out.chg hc (fun e=>e.elim (fun e=>by omega) (fun e=>by have:=HOY.out _ e;omega)));replace HV:=hd_ (HV.out.chg hc (fun e=>e.elim (fun e=>by omega) (fun e=>by have:=HOY.out _ e;omega)));replace HBB:=hd_ (HBB.out.chg hc (fun k hk e=>e.elim (fun e=>HSP.out (e▸hk.1)) (fun e=>HSO.out k e hk.1)));replace HM:=hd_ (HM.out.trans ⟨hc,.inl rfl⟩);clear hc;have hack:dJ ⟨mi,pe,nx,go,q⟩ la=⟨mi,pe,(dJ ⟨mi,pe,nx,go,q⟩ la).nx,go,(dJ ⟨mi,pe,nx,go,q⟩ la).q⟩:=rfl;generalize hnx2:(dJ ⟨mi,pe,nx,go,q⟩ la).nx=nx2 at*;generalize hq2:(dJ ⟨mi,pe,nx,go,q⟩ la).q=q2 at*;have HACK:=hd_ hack;rw[hack]at HSN;clear hack hnx2 hq2;obtain⟨A9,m9,c9,hbp⟩:=SN.raw HSN.out;obtain⟨s0,s1,s2,s3,s4⟩:=aL hbp;obtain⟨q0,q1,q2,q3,q4⟩:=aW HQ.out;have hw1:IntKind.i64.wrap (go+1)=go+1:=IntWalk.i64_in _ (by omega);by_cases hse:ls=go+1
    case neg=>
     have te:(ls==go+1)=false:=by simpa using hse
     have HSE:=hd_ hse;clear hse hbp;go_wp2_with fail
     go_region
     clear s0 s1 s2 s3 s4 q0 q1 q2 q3 q4;replace HQ:=hd_ HQ.out.drew;replace HR:=hd_ HR.out.drew;replace HSN:=hd_ HSN.out.drew;replace HBB:=hd_ HBB.out.drew;replace HV:=hd_ HV.out.drew;replace HM:=hd_ (HM.out.post (Chg.refl _ w6).drew);generalize w6.drew=w7 at*;obtain⟨u0,u1,u2⟩:=dz HR.out;obtain⟨x0,x1,x2⟩:=aT HR.out;obtain⟨v0,v1,v2⟩:=aT HV.out;obtain⟨r0,r1,r2,-,hcs⟩:=eS HR.out none 0 0 false false;have RR:=hd_ (And.intro r0 (And.intro r1 r2));have HCS:=hd_ hcs;clear r0 r1 r2 hcs;go_wp2_with fail;obtain⟨r0,r1,r2⟩:=RR.out;exact AW (v:=.tuple #[.agg (tkC none 0 0 false false),U Z 0]) (by simp[results,Tryz.results65,go_sem,tkC,r0,r1,r2]) rfl (oU HLR.out (show¬lm<pe from by have:=HST.out;omega) HPM.out (decide_eq_false (show¬pe<lm from by have:=HRES.out;omega)) (if_neg (show¬pe<lm from by have:=HRES.out;omega)) HSE.out ⟨none,0,rfl,fun _=>rfl,Rds.nil _ _ _,HSN0.out.sm2 (by rw[HACK.out];exact(HSN.out.chg HCS.out (by omega) (fun k hk=>by have:=HOY.out k hk;omega) (fun k hk=>by have:=hk.2;omega))) (HM.out.put HCS.out (by omega)) (by first|exact .inl rfl|exact .inr rfl)⟩)
    have te:(ls==go+1)=true:=by simpa using hse
    have HL1:Hid (1≤b.length):=hd_ (HLS5.out (by first|trivial|rfl) (by have:=hgo.1;omega));have HSE:=hd_ hse;clear hse hbp;go_wp2_with fail
    go_region
    clear s0 s1 s2 s3 s4 q0 q1 q2 q3 q4;replace HQ:=hd_ HQ.out.drew;replace HR:=hd_ HR.out.drew;replace HSN:=hd_ HSN.out.drew;replace HBB:=hd_ HBB.out.drew;replace HV:=hd_ HV.out.drew;replace HM:=hd_ (HM.out.post (Chg.refl _ w6).drew);generalize w6.drew=w7 at*;obtain⟨A9,m9,c9,hbp⟩:=SN.raw HSN.out;obtain⟨s0,s1,s2,s3,s4⟩:=aL hbp;have g4:=hbp.frozen 4;obtain⟨q0,q1,q2,q3,q4⟩:=aW HQ.out;replace HSN:=hd_ (HSN.out.got ls);have hc:=(Chg.refl (fun k=>k=p) w7).put p 4 (fun _=>rfl) (U Z ls);replace HQ:=hd_ (HQ.out.chg hc (by omega));replace HR:=hd_ (HR.out.chg hc (by omega));replace HV:=hd_ (HV.out.chg hc (by omega));replace HBB:=hd_ (HBB.out.chg hc (fun k hk e=>by subst e;exact HSP.out hk.1));replace HM:=hd_ (HM.out.trans ⟨hc.mono (fun k _ e=>.inl e),.inl rfl⟩);clear hc hbp;go_upto_region 13 with fail;generalize w7.setCell ⟨p,4,none⟩ (U Z ls)=w8 at*;clear s0 s1 s2 s3 s4 q0 q1 q2 q3 q4 g4;obtain⟨q0,q1,q2,q3,q4⟩:=aW HQ.out;have HCL:=hd_ (iv B b.length d b _ w8 rfl HBB.out (hz HL1.out) (by omega));go_wp2_with fail;refine HCL.out.mono ?_;rintro e w9 ⟨E,ed,rfl,hown,hc⟩;have HNIL:=hd_ (d7 hown);have HRE:=hd_ ((cB hown).mono (S':=fun k=>hv+1≤k) (fun k hk=>by have h1:=HV.out.lt;have h2:=hk.1;omega));clear hown HCL q0 q1 q2 q3 q4;replace HQ:=hd_ (HQ.out.chg hc id);replace HR:=hd_ (HR.out.chg hc id);replace HV:=hd_ (HV.out.chg hc id);replace HSN:=hd_ (HSN.out.new hc);replace HBB:=hd_ (HBB.out.chg hc (fun _ _=>id));replace HM:=hd_ (HM.out.post hc);clear hc;obtain⟨f0,f1,f2⟩:=dz HV.out;obtain⟨v0,v1,v2⟩:=aT HV.out;have hv10:Blk ((w9.setCell ⟨hv,0,none⟩ (.slice E b.length ed)).setCell ⟨hv,1,none⟩ (.bool true)) hv 126 (tkC E b.length ed true false):=(HV.out.set 0 (.slice E b.length ed)).set 1 (.bool true);have hc:=(((Chg.refl (fun k=>k=hv) w9).put hv 0 (fun _=>rfl) (.slice E b.length ed)).put hv 1 (fun _=>rfl) (.bool true));replace HQ:=hd_ (HQ.out.chg hc (by omega));replace HR:=hd_ (HR.out.chg hc (by omega));replace HSN:=hd_ (HSN.out.chg hc (by omega) (fun k hk=>by have:=HOY.out k hk;omega) (fun k hk=>by have:=hk.2;omega));replace HM:=hd_ (HM.out.put hc (by omega));replace HRE:=hd_ (HRE.out.chg hc (fun k hk e=>by omega));replace HV:=hd_ hv10;clear hc hv10 HBB;go_upto_region 14 with fail;generalize (w9.setCell ⟨hv,0,none⟩ (.slice E b.length ed)).setCell ⟨hv,1,none⟩ (.bool true)=w10 at*;clear v0 v1 v2 f0 f1 f2;obtain⟨u0,u1,u2⟩:=dz HR.out;obtain⟨x0,x1,x2⟩:=aT HR.out;obtain⟨v0,v1,v2⟩:=aT HV.out;obtain⟨r0,r1,r2,-,hcs⟩:=eS HR.out E b.length ed true false;have RR:=hd_ (And.intro r0 (And.intro r1 r2));have HCS:=hd_ hcs;clear r0 r1 r2 hcs;go_wp2_with fail;obtain⟨r0,r1,r2⟩:=RR.out;exact AW (v:=.tuple #[.agg (tkC E b.length ed true false),U Z 0]) (by simp[results,Tryz.results65,go_sem,tkC,r0,r1,r2]) rfl (rX HLR.out (show¬lm<pe from by have:=HST.out;omega) HPM.out (decide_eq_false (show¬pe<lm from by have:=HRES.out;omega)) (if_neg (show¬pe<lm from by have:=HRES.out;omega)) HSE.out ⟨E,ed,rfl,HNIL.out,(HRE.out.chg HCS.out (fun k hk e=>by omega)).mono (fun k hk=>by omega),HSN0.out.sm2 (by rw[HACK.out];exact(HSN.out.chg HCS.out (by omega) (fun k hk=>by have:=HOY.out k hk;omega) (fun k hk=>by have:=hk.2;omega))) (HM.out.put HCS.out (by omega)) (by first|exact .inl rfl|exact .inr rfl)⟩)
end Go.Proofs.YtnojmbejedlilaaGreat
end
