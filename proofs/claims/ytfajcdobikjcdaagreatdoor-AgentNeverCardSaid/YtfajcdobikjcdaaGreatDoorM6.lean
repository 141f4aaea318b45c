/-
  A region that draws its order, in a round of a range over a function, by the walk of the same region outside of it; what is in memory abides the turn of a block that is no cells. No condition.
-/
import Derived.Test.YtfajcdobikjcdaaGreatDoorM1
import Derived.RangeFuncNested
import Derived.RangeFuncBound
import Derived.RangeFuncCalls
import Derived.RangeFuncLeaves
import Derived.Shelf.Abstract
import Derived.WalkKit
import Derived.OwnWalkIn
import Derived.TacticsInMore
import Derived.LoopNIn
import Derived.LoopIn
import Derived.Deep.RegionHeld3
import Derived.OrdersIn
import Derived.Test.YtfajcdobikjcdaaGreatDoorM3
import Derived.Lib.SliceRun
import Derived.Deep.Upon
import Derived.Deep.MidRow
import Derived.Deep.RegionLaw
import Derived.Lib.Walk
import Derived.Deep.DeepCutAuto
set_option maxRecDepth 100000
set_option maxHeartbeats 40000000
set_option linter.unusedVariables false
set_option linter.unusedSimpArgs false
section
namespace Go.Proofs.YtfajcdobikjcdaaGreatDoor
open Go.Value (int)
open Go.IntKind (i64)
open Go.RowKit
section
variable {P : Program} {ops : Array Oper} {Q : Exit → Act → World → Prop} {md : Region.Mode}
def noDefer11 (ops : Array Oper) : Bool:=ops.all fun o=>match o.op with | .defer _=>false | _=>true
theorem noDefer_spec {ops : Array Oper} (h : noDefer11 ops = true) {i : Nat} {o : Oper} (ho : ops[i]? = some o) : ∀ c,o.op ≠ .defer c:=by
 intro c hc
 obtain ⟨hi,he⟩:=Array.getElem?_eq_some_iff.1 ho
 have h2:=Array.all_eq_true.1 h i hi
 rw [he,hc] at h2
 cases h2
theorem rowsIn_wide {n : Nat} {row : String} {args : Array Value} {w : World} {R : Value → World → Prop} (h : Rows P row args w R) (l : Nat) : RowsIn (Fence.wide.inRound l) n P row args w R :=
 fun c cs _=>let ⟨v,w',r,s⟩:=h c cs; ⟨v,w',r,stepsIn_wide.2 s⟩
theorem wpOp_round {l n i : Nat} {K : Act → World → Prop} {a : Act} {w : World} (hd : noDefer11 ops = true) (hQ : ¬ LetsOut Q) (h : wpOp P ops Q i K a w) : wpOpIn (Fence.wide.inRound l) n P ops Q i K a w:=by
 unfold wpOp at h
 unfold wpOpIn
 cases ho : ops[i]? with
 | none=>simpa [ho] using h
 | some o =>
  simp only [ho] at h ⊢
  split
  ·rename_i hw
   simp only [hw,if_true] at h
   rcases h with h | ⟨_,h⟩
   ·refine ⟨fun _ _=>trivial, ?_⟩
    rw [Fence.inRound_round,Oper.semAt_some l _ _ (noDefer_spec hd ho)]
    unfold Oper.wp at h
    generalize (execOp a.eval o).run P w = r at *
    cases r with
    | ok x w' =>
     cases x <;> simp only [Oper.upon,Oper.uponIn] at h ⊢ <;>
      first
       | exact h
       | exact ⟨fun hh=>by simp [Fence.wide] at hh,callsIn_wide.2 h⟩
       | exact ⟨fun hh=>by simp [Fence.wide] at hh,rowsIn_wide h l⟩
    | halt x w'=>cases x <;> simp only [Oper.upon,Oper.uponIn] at h ⊢ <;> exact h
   ·exact absurd h hQ
  ·rename_i hw
   simp only [hw] at h
   exact ⟨fun _ _=>trivial,h⟩
theorem wpAny_round {l n : Nat} (hd : noDefer11 ops = true) (hQ : ¬ LetsOut Q) : ∀ (fuel : Nat) (listed : Array Bool) (a : Act) (w : World),wpAny P md ops Q fuel listed a w → wpAnyIn (Fence.wide.inRound l) n P md ops Q fuel listed a w
 | 0,_,_,_,h=>h
 | fuel + 1,listed,a,w,h=>⟨h.1,fun i hi=>wpOpIn_mono (fun a' w' h'=>wpAny_round hd hQ fuel _ a' w' h') (wpOp_round hd hQ (h.2 i hi))⟩
theorem round_region {l n id : Nat} {a : Act} {w : World} {S : World → Prop} (hm : P.follows .mixedOrders = true) (hd : noDefer11 ops = true) (hQ : ¬ LetsOut Q) (hS : S w.drew)
  (h : S w.drew → wpAnyH P .any ops Q S ops.size (Array.replicate ops.size false) a w.drew) : (Code.region id ops true).wpIn (Fence.wide.inRound l) n P Q a w :=
 wpIn_region_any hm (wpAny_round hd hQ _ _ _ _ (wpAny_of_held _ _ _ _ (h hS)))
end
section
variable {w w' : World} {row : Option Nat}
def Abd (w w' : World) : Prop := ∃ row : Option Nat,w.grownBy w' row ∧ ∀ r,row = some r → ∃ o : Obj,w.heap[r]? = some o ∧ o.isCells = false
theorem Abd.of (hg : w.grownBy w' row) (hr : ∀ r,row = some r → ∃ o : Obj,w.heap[r]? = some o ∧ o.isCells = false) : Abd w w':=⟨row,hg,hr⟩
theorem Abd.block (h : Abd w w') {g : Nat} {cs : Array Value} {t : TypeId} {fr : Nat × Nat} (hb : w.heap[g]? = some (.cells cs t fr)) : w'.heap[g]? = some (.cells cs t fr):=by
 obtain ⟨row,hg,hr⟩:=h
 exact (grownBy_keeps_cells hg hr hb rfl).trans hb
theorem Blk.abd {g : Nat} {t : TypeId} {cs : Array Value} (hb : Blk w g t cs) (h : Abd w w') : Blk w' g t cs:=h.block hb
theorem Rds.abd {S : Nat → Prop} {A : Option Addr} {n : Nat} {xs : List Value} (hr : Rds w S A n xs) (h : Abd w w') : Rds w' S A n xs:=by
 refine ⟨hr.1,fun hn => ?_⟩
 obtain ⟨ad,e,hs,hb,hc⟩:=hr.2 hn
 obtain ⟨row,hg,hrow⟩:=h
 exact ⟨ad,e,hs,Nat.lt_of_lt_of_le hb hg.size,fun j u hu=>cell_kept (hc j u hu) hg hrow⟩
theorem own_abd {base : Nat} {e : TypeId} {size n : Nat} {v : Value} {xs : List Value} (ho : w.ownsRow base e size v n xs) (h : Abd w w') : w'.ownsRow base e size v n xs:=by
 refine ⟨ho.1, ?_⟩
 rcases ho.2 with h2 | ⟨g,cap,cur,hv,hg,hh,r⟩
 ·exact .inl h2
 ·exact .inr ⟨g,cap,cur,hv,hg,h.block hh,r⟩
theorem below_chg {n₀ : Nat} {S : Nat → Prop} (h : Below n₀ w w') (hS : ∀ k,n₀ ≤ k → S k) : Chg S w w':=⟨h.os,h.tape,h.output,h.size,fun k hk hn=>h.block k (by
 rcases Nat.lt_or_ge k n₀ with hl | hl
 ·exact hl
 ·exact absurd (hS k hl) hn)⟩
theorem chg_below {n₀ : Nat} (h : Chg (fun k=>n₀ ≤ k) w w') (hn : n₀ ≤ w.heap.size) : Below n₀ w w':=⟨h.os,h.tape,h.output,h.size,fun k hk=>h.block k (by omega) (by omega)⟩
theorem Chg.keepsFrom {S : Nat → Prop} (h : Chg S w w') (B : Nat) (hS : ∀ k (cs : Obj),w.heap[k]? = some cs → S k → cs.isCells = true) : KeepsFrom B w w' :=
 ⟨h.size,fun k o _ hk ho=>by
  refine (h.block k (Array.getElem?_eq_some_iff.1 hk).1 (fun hs => ?_)).trans hk
  rw [hS k o hk hs] at ho
  cases ho⟩
end
def post11 {α : Type} (n₀ B : Nat) (I : List α → World → Prop) (Ix : Code → List α → World → Prop) (xs : List α) (W : World) (e : Exit) (_ : Act) (W' : World) : Prop :=
 KeepsFrom B W W' ∧ Below n₀ W W' ∧ match e with
  | .normal=>I xs W'
  | .ret=>Ix .ret xs W'
  | .exit id=>Ix (.exit id) xs W'
  | .goto t=>Ix (.goto t) xs W'
  | .panic _=>False
  | .outgrown=>False
theorem abd_put {W : World} {l : Nat} {o o' : Obj} (h : W.heap[l]? = some o) (ho : o.isCells = false) : Abd W (W.putObj l o') :=
 Abd.of (grownBy_putObj' W l o') (fun r e=>by cases e; exact ⟨o,h,ho⟩)
theorem abd_alloc (W : World) (o : Obj) : Abd W (W.alloc o):=Abd.of (World.grownBy_alloc W o none) (fun r e=>by cases e)
def Iter11 {α : Type} (n : Nat) (P : Program) (gf : Nat) (first : Array Value) (n₀ : Nat) (encs : α → Array Value) (xs : List α) (W : World) : Prop :=
 ∀ (l : Nat) (J Jx : List α → World → Prop),
  (∀ pre x W1,J pre W1 → pre.length < xs.length → YieldAt Fence.wide (n - 1) P l (encs x) W1 fun e W'=>(e = .returned (.bool true) ∧ J (pre ++ [x]) W' ∧ Below n₀ W1 W') ∨ (e = .returned (.bool false) ∧ Jx (pre ++ [x]) W')) →
  J [] W → CallsIn Fence.wide n P gf (first ++ #[.func (.yield l) #[] #[]]) W fun e W'=>(∃ v,e = .returned v) ∧ (J xs W' ∨ ∃ pre,pre <+: xs ∧ Jx pre W')
theorem loop11 {α : Type} {n : Nat} {P : Program} {g : Operand} {ps : Array Tmp} {assign body : Code} {Q : Exit → Act → World → Prop} {a : Act} {w : World} {gf : Nat} {first : Array Value}
    (hg : a.eval g = .func (.func gf) first #[]) (eg : ∀ args w, (callFunc gf args).run P w = .ok (.enter gf args) w) {encs : α → Array Value} {xs : List α} (n₀ : Nat) (hn₀ : n₀ ≤ w.heap.size)
    (hit : ∀ W, Below n₀ w W → Iter11 (n - 1) P gf first n₀ encs xs W) (hps : ∀ x, (encs x).size = ps.size)
    (I : List α → World → Prop) (Ix : Code → List α → World → Prop) (hI : ∀ s W W', I s W → Abd W W' → I s W') (hIx : ∀ c s W W', Ix c s W → Abd W W' → Ix c s W') (h0 : I [] w) (a₁ : α → Act)
    (hassign : ∀ (l : Nat) (x : α) (W : World) (K : Act → World → Prop), K (a₁ x) W →
      assign.wpIn (Fence.wide.inRound l) (n - 1 - 1) P (Exit.then K (fun _ _ _ => False)) { tmps := (ps.zip (encs x)).foldl (fun t (p, v) => t.setIfInBounds p v) a.tmps, defers := [] } W)
    (hbody : ∀ (l : Nat) (pre : List α) (x : α) (W : World), pre.length < xs.length → Below n₀ w W → I pre W → body.wpIn (Fence.wide.inRound l) (n - 1 - 1) P (post11 n₀ w.heap.size I Ix (pre ++ [x]) W) (a₁ x) W)
    (hdone : ∀ (D : Nat) (W : World), w.heap.size ≤ D → Below n₀ w W → I xs W → W.heap[D]? = some (.deferred (some [])) → Q .normal { a with defers := { target := .collected D, args := #[] } :: a.defers } W)
    (hstop : ∀ (D : Nat) (c : Code) (pre : List α) (W : World), w.heap.size ≤ D → Below n₀ w W → pre <+: xs → Ix c pre W → W.heap[D]? = some (.deferred (some [])) → c.wpIn Fence.wide n P Q { a with defers := { target := .collected D, args := #[] } :: a.defers } W) :
    (Code.rangeFunc g ps assign body).wpIn Fence.wide n P Q a w := by
  refine wpIn_rangeFunc fun fn _ => ?_
  generalize hB : w.heap.size = B at *
  have hrecs : ∃ rc : LoopState → Option Code → Obj, rc = fun st pe => .loop { state := st, pending := pe, fn, tmps := a.tmps, params := ps, assign, body, defers := B } := ⟨_, rfl⟩
  obtain ⟨rc, hrc⟩ := hrecs
  have hnc : ∀ st pe, (rc st pe).isCells = false := fun st pe => by rw [hrc]; rfl
  -- what the law keeps: the record's state, the deferred calls' block, what the caller keeps
  let Bk : Obj → World → Prop := fun o W => W.heap[B + 1]? = some o ∧ W.heap[B]? = some (.deferred (some [])) ∧ Below n₀ w W
  have hturn : ∀ (o o' : Obj) (W : World), Bk o W → Bk o' (W.putObj (B + 1) o') := fun o o' W ⟨h1, h2, h3⟩ =>
    ⟨World.putObj_heap_same (Array.getElem?_eq_some_iff.1 h1).1, (World.putObj_heap_other (by omega)).trans h2,
      h3.grown (grownBy_putObj' W (B + 1) o') (Nat.le_trans (by omega) h3.size) (fun k e => by cases e; omega)⟩
  have hbel : ∀ (o' : Obj) (W : World), n₀ ≤ W.heap.size → Below n₀ W (W.putObj (B + 1) o') := fun o' W hw =>
    (Below.refl n₀ W).grown (grownBy_putObj' W (B + 1) o') hw (fun k e => by cases e; omega)
  obtain ⟨W1, hW1⟩ : ∃ W1, (w.alloc (.deferred (some []))).alloc (rc .ready none) = W1 := ⟨_, rfl⟩
  have hbk1 : Bk (rc .ready none) W1 := by
    rw [← hW1]
    refine ⟨?_, (Below.heap_alloc _ _ _ (by simp; omega)).trans (by rw [← hB]; exact World.alloc_heap_new w _), ((Below.refl n₀ w).alloc (by omega) _).alloc (by simp; omega) _⟩
    have h := World.alloc_heap_new (w.alloc (.deferred (some []))) (rc .ready none)
    rwa [World.size_alloc, hB] at h
  have hI1 : I [] W1 := by
    rw [← hW1]
    exact hI _ _ _ (hI _ _ _ h0 (abd_alloc _ _)) (abd_alloc _ _)
  refine ⟨B + 1, [{ target := .collected B, args := #[] }], W1, { target := .fn (.func gf) #[], args := first ++ #[.func (.yield (B + 1)) #[] #[]] }, W1, gf, first ++ #[.func (.yield (B + 1)) #[] #[]], W1, ?_, ?_, fun _ _ => trivial, ?_, fun h => by simp [Fence.wide] at h, ?_⟩
  · have h := run_enterLoop_outer (P := P) (w := w) fn a.tmps ps assign body
    rw [hB] at h
    rw [← hW1, hrc]
    exact h
  · simp only [resolve, hg]
    simp [go_sem]
  · simp [invoke, go_sem, eg]
  refine (hit W1 hbk1.2.2 (B + 1) (fun pre W => I pre W ∧ Bk (rc .ready none) W) (fun pre W => ∃ c, Ix c pre W ∧ Bk (rc .done (some c)) W) ?_ ⟨hI1, hbk1⟩).mono ?_
  · -- one round
    rintro pre x W ⟨hi, hb⟩ hlen
    have hl : W.heap[B + 1]? = some (.loop { state := .ready, pending := none, fn, tmps := a.tmps, params := ps, assign, body, defers := B }) := by
      have := hb.1
      rwa [hrc] at this
    refine ⟨fn, _, assign, body, run_yield hl (hps x), roundIn_of_wpIn trivial (hassign _ x W _ ⟨_, run_beginRound hl rfl, ?_⟩)⟩
    have hb2 := hturn _ (rc .busy none) W hb
    have hi2 : I pre (W.putObj (B + 1) (rc .busy none)) := hI _ _ _ hi (abd_put hb.1 (hnc _ _))
    have hw2 := hbel (rc .busy none) W (Nat.le_trans (by omega) hb.2.2.size)
    have hrb : W.putObj (B + 1) (rc .busy none) = W.putObj (B + 1) (.loop { state := .busy, pending := none, fn, tmps := a.tmps, params := ps, assign, body, defers := B }) := by rw [hrc]
    rw [← hrb]
    clear hrb
    refine wpIn_mono (hbody _ pre x _ hlen hb2.2.2 hi2) ?_
    have fin : ∀ (jump : Option Code) (W3 : World), KeepsFrom B (W.putObj (B + 1) (rc .busy none)) W3 → Below n₀ (W.putObj (B + 1) (rc .busy none)) W3 →
        (Instr.endRound (B + 1) jump).run P W3 = .ok (.bool jump.isNone) (W3.putObj (B + 1) (rc (if jump.isNone then .ready else .done) jump)) ∧ Bk (rc .busy none) W3 := fun jump W3 hk hbw => by
      have h3 := hk.same _ _ (by omega) hb2.1 (hnc _ _)
      have h4 := hk.same _ _ (Nat.le_refl _) hb2.2.1 rfl
      refine ⟨?_, h3, h4, hb2.2.2.trans hbw⟩
      have h5 := h3
      rw [hrc] at h5 ⊢
      exact run_endRound (P := P) jump h5
    have jumped : ∀ (c : Code) (W3 : World), KeepsFrom B (W.putObj (B + 1) (rc .busy none)) W3 → Below n₀ (W.putObj (B + 1) (rc .busy none)) W3 → Ix c (pre ++ [x]) W3 →
        ∃ v w', (Instr.endRound (B + 1) (some c)).run P W3 = .ok v w' ∧
          ((Ending.returned v = .returned (.bool true) ∧ (I (pre ++ [x]) w' ∧ Bk (rc .ready none) w') ∧ Below n₀ W w') ∨ (Ending.returned v = .returned (.bool false) ∧ ∃ c, Ix c (pre ++ [x]) w' ∧ Bk (rc .done (some c)) w')) := fun c W3 hk hbw hx => by
      obtain ⟨hr, hb3⟩ := fin (some c) W3 hk hbw
      exact ⟨_, _, hr, .inr ⟨rfl, c, hIx _ _ _ _ hx (abd_put hb3.1 (hnc _ _)), hturn _ _ _ hb3⟩⟩
    rintro e a3 W3 ⟨hk, hbw, hp⟩
    cases e with
    | normal =>
      obtain ⟨hr, hb3⟩ := fin none W3 hk hbw
      exact ⟨_, _, hr, .inl ⟨rfl, ⟨hI _ _ _ hp (abd_put hb3.1 (hnc _ _)), hturn _ _ _ hb3⟩, (hw2.trans hbw).trans (hbel _ W3 (Nat.le_trans (by omega) hb3.2.2.size))⟩⟩
    | ret => exact jumped _ _ hk hbw hp
    | exit id => exact jumped _ _ hk hbw hp
    | goto t => exact jumped _ _ hk hbw hp
    | panic ch => exact hp.elim
    | outgrown => exact hp.elim
  · -- behind the iterator
    rintro e W2 ⟨⟨v, rfl⟩, (⟨hi, hb⟩ | ⟨pre, hp, c, hi, hb⟩)⟩
    · have h5 := hb.1
      have h6 := hb.2.1
      rw [hrc] at h5
      refine ⟨none, _, run_endLoop (P := P) h5 (by simp), hdone B _ (Nat.le_refl _) ?_ (hI _ _ _ hi (abd_put h5 rfl)) ((World.putObj_heap_other (by omega)).trans h6)⟩
      exact hb.2.2.trans (hbel _ W2 (Nat.le_trans (by omega) hb.2.2.size))
    · have h5 := hb.1
      have h6 := hb.2.1
      rw [hrc] at h5
      refine ⟨some c, _, run_endLoop (P := P) h5 (by simp), hstop B c pre _ (Nat.le_refl _) ?_ hp (hIx _ _ _ _ hi (abd_put h5 rfl)) ((World.putObj_heap_other (by omega)).trans h6)⟩
      exact hb.2.2.trans (hbel _ W2 (Nat.le_trans (by omega) hb.2.2.size))
attribute [local go_sem] Oper.semAt_some
theorem infoSl11 : (Tryz.prog.info? 31).map (fun i=>(i.zero,i.size,i.bytes)) = some (some (.slice none 0 0),1,24):=by kernel_rfl
def BQ (w : World) (S : Nat → Prop) (vs : List Value) (ls : List (List UInt8)) : Prop :=
 vs.length = ls.length ∧ ∀ (i : Nat) (l : List UInt8),ls[i]? = some l → ∃ A c,vs[i]? = some (.slice A l.length c) ∧ (A = none → c = 0) ∧ Rds w S A l.length (bcs l)
section
variable {w w' : World} {S S' : Nat → Prop} {vs : List Value} {ls : List (List UInt8)}
theorem BQ.nil (w : World) (S : Nat → Prop) : BQ w S [] []:=⟨rfl,fun i l h=>by simp at h⟩
theorem BQ.mono (h : BQ w S vs ls) (hs : ∀ k,S k → S' k) : BQ w S' vs ls :=
 ⟨h.1,fun i l hl=>by obtain ⟨A,c,h1,h0,h2⟩:=h.2 i l hl; exact ⟨A,c,h1,h0,h2.mono hs⟩⟩
theorem BQ.chg (h : BQ w S vs ls) (hc : Chg S' w w') (hd : ∀ k,S k → ¬ S' k) : BQ w' S vs ls :=
 ⟨h.1,fun i l hl=>by obtain ⟨A,c,h1,h0,h2⟩:=h.2 i l hl; exact ⟨A,c,h1,h0,h2.chg hc hd⟩⟩
theorem BQ.old (h : BQ w S vs ls) : BQ w (fun k=>S k ∧ k < w.heap.size) vs ls :=
 ⟨h.1,fun i l hl=>by obtain ⟨A,c,h1,h0,h2⟩:=h.2 i l hl; exact ⟨A,c,h1,h0,h2.old⟩⟩
theorem BQ.snoc (h : BQ w S vs ls) {A : Option Addr} {l : List UInt8} {n c : Nat} (hn : n = l.length) (hz : A = none → c = 0) (hr : Rds w S A n (bcs l)) : BQ w S (vs ++ [.slice A n c]) (ls ++ [l]):=by
 subst hn
 have h1:=h.1
 refine ⟨by simp [h1],fun i x hx => ?_⟩
 by_cases hi : i < ls.length
 ·rw [List.getElem?_append_left hi] at hx
  obtain ⟨A',c',h2,h0,h3⟩:=h.2 i x hx
  exact ⟨A',c',by rw [List.getElem?_append_left (by omega)]; exact h2,h0,h3⟩
 ·have hi2 : i < (ls ++ [l]).length:=(List.getElem?_eq_some_iff.1 hx).1
  rw [List.length_append,List.length_singleton] at hi2
  have hij : i = ls.length:=by omega
  subst hij
  rw [List.getElem?_append_right (Nat.le_refl _),Nat.sub_self,List.getElem?_cons_zero,Option.some.injEq] at hx
  subst hx
  exact ⟨A,c,by rw [List.getElem?_append_right (by omega),h1,Nat.sub_self]; rfl,hz,hr⟩
theorem BQ.drop (h : BQ w S vs ls) (k : Nat) : BQ w S (vs.drop k) (ls.drop k):=by
 refine ⟨by rw [List.length_drop,List.length_drop,h.1],fun i l hl => ?_⟩
 rw [List.getElem?_drop] at hl
 obtain ⟨A,c,h1,h2⟩:=h.2 _ l hl
 exact ⟨A,c,by rw [List.getElem?_drop]; exact h1,h2⟩
end
structure SV where
 mi : Int
 pe : Int
 nx : Int
 go : Int
 q : List (List UInt8)
structure SOk (x : SV) : Prop where
 len : x.q.length ≤ 64
 bod : ∀ b ∈ x.q,1 ≤ b.length ∧ b.length ≤ 1000
 nx0 : 0 ≤ x.nx ∧ x.nx ≤ 1000000000000000
 go0 : 0 ≤ x.go ∧ x.go ≤ 1099511627776
def snC (mi pe : Int) (A : Option Addr) (m c : Nat) (nx go : Int) : Array Value:=#[int i64 mi,int i64 pe, .slice A m c,int i64 nx,int i64 go]
def SN (w : World) (p : Nat) (o : Option Nat) (G : Nat → Prop) (x : SV) : Prop :=
 ∃ A c vs,Blk w p 104 (snC x.mi x.pe A x.q.length c x.nx x.go) ∧ w.ownsRow 0 31 1 (.slice A x.q.length c) x.q.length vs ∧ A.map (·.block) = o ∧ o ≠ some p ∧ BQ w G vs x.q ∧ ¬ G p ∧ ∀ k,o = some k → ¬ G k
theorem sn_cells {w : World} {p : Nat} {mi pe nx go : Int} {A : Option Addr} {m c : Nat} {T : TypeId} (h : Blk w p T (snC mi pe A m c nx go)) :
  w.cell? ⟨p,0,none⟩ = some (int i64 mi) ∧ w.cell? ⟨p,1,none⟩ = some (int i64 pe) ∧ w.cell? ⟨p,2,none⟩ = some (.slice A m c) ∧ w.cell? ⟨p,3,none⟩ = some (int i64 nx) ∧ w.cell? ⟨p,4,none⟩ = some (int i64 go):=by
 have h0:=h.cell 0
 have h1:=h.cell 1
 have h2:=h.cell 2
 have h3:=h.cell 3
 have h4:=h.cell 4
 simp only [snC,List.getElem?_toArray,List.getElem?_cons_zero,List.getElem?_cons_succ] at h0 h1 h2 h3 h4
 exact ⟨h0,h1,h2,h3,h4⟩
theorem SN.lt {w : World} {p : Nat} {o : Option Nat} {G : Nat → Prop} {x : SV} (h : SN w p o G x) : p < w.heap.size ∧ ∀ k,o = some k → k < w.heap.size:=by
 obtain ⟨A,c,vs,hb,hown,ho,_⟩:=h
 refine ⟨hb.lt,fun k hk => ?_⟩
 rw [hk] at ho
 have:=hown.lt k (by rw [own_block]; exact ho)
 exact this.2
theorem SN.chg {S : Nat → Prop} {w w' : World} {p : Nat} {o : Option Nat} {G : Nat → Prop} {x : SV} (h : SN w p o G x) (hc : Chg S w w') (hp : ¬ S p) (ho : ∀ k,o = some k → ¬ S k) (hG : ∀ k,G k → ¬ S k) : SN w' p o G x:=by
 obtain ⟨A,c,vs,hb,hown,h1,h2,h3,h4,h5⟩:=h
 exact ⟨A,c,vs,hb.chg hc hp,own_chg hown hc (fun k hk=>ho k (by rw [← h1]; exact hk)),h1,h2,h3.chg hc hG,h4,h5⟩
theorem SN.new {w w' : World} {p : Nat} {o : Option Nat} {G : Nat → Prop} {x : SV} (h : SN w p o G x) (hc : Chg (fun _=>False) w w') : SN w' p o G x:=h.chg hc id (fun _ _=>id) (fun _ _=>id)
theorem SN.mono {w : World} {p : Nat} {o : Option Nat} {G G' : Nat → Prop} {x : SV} (h : SN w p o G x) (hG : ∀ k,G k → k < w.heap.size → G' k) (hp : ¬ G' p) (ho : ∀ k,o = some k → ¬ G' k) : SN w p o G' x:=by
 obtain ⟨A,c,vs,hb,hown,h1,h2,h3,h4,h5⟩:=h
 exact ⟨A,c,vs,hb,hown,h1,h2,h3.old.mono (fun k hk=>hG k hk.1 hk.2),hp,ho⟩
theorem slen_any (p : Nat) (o : Option Nat) (G : Nat → Prop) (x : SV) (w : World) (h : SN w p o G x) : Calls Tryz.prog 47 #[.pointer (some ⟨p,0,none⟩)] w fun e w'=>e = .returned (int i64 (x.q.length : Int)) ∧ w = w':=by
 obtain ⟨A,c,vs,hb,_⟩:=h
 generalize hm : x.q.length = m at *
 obtain ⟨c0,c1,c2,c3,c4⟩:=sn_cells hb
 clear hb hm
 go_enter Tryz.func47,Tryz.ntmps47
 go_wp2
 go_ret
 exact ⟨rfl,rfl⟩
theorem speer_any (p : Nat) (o : Option Nat) (G : Nat → Prop) (x : SV) (w : World) (h : SN w p o G x) : Calls Tryz.prog 48 #[.pointer (some ⟨p,0,none⟩)] w fun e w'=>e = .returned (int i64 x.pe) ∧ w = w':=by
 obtain ⟨A,c,vs,hb,_⟩:=h
 generalize hm : x.q.length = m at *
 obtain ⟨c0,c1,c2,c3,c4⟩:=sn_cells hb
 clear hb hm
 go_enter Tryz.func48,Tryz.ntmps48
 go_wp2
 go_ret
 exact ⟨rfl,rfl⟩
theorem finR_take (m : Nat) (k : Nat) (hk : k < m) : (List.finRange m).take k ++ [⟨k,hk⟩] = (List.finRange m).take (k + 1):=by
 have hl : k < (List.finRange m).length:=by simpa using hk
 rw [List.take_succ_eq_append_getElem hl]
 simp
theorem numbered_iter (n p n₀ m c : Nat) (A : Option Addr) (nx : Int) (vs : List Value) (W0 : World) (hm : m ≤ 64) (hnx : 0 ≤ nx ∧ nx ≤ 1000000000000000) (hp : p < n₀)
  (z2 : W0.cell? ⟨p,2,none⟩ = some (.slice A m c)) (z3 : W0.cell? ⟨p,3,none⟩ = some (int i64 nx)) (hr : Rds W0 (fun k=>k < n₀) A m vs) :
  Iter11 n Tryz.prog 74 #[.pointer (some ⟨p,0,none⟩)] n₀ (fun i : Fin m=>#[int i64 (nx + (i.1 : Int)),vs[i.1]?.getD undef]) (List.finRange m) W0:=by
 intro l J Jx hY h0
 have HR:=hd_ hr
 have HZ3:=hd_ z3
 have hlen : vs.length = m:=hr.1
 clear hr z3
 refine callsIn_of_wp Tryz.func74 rfl trivial ?_ rfl
 simp only [Tryz.ntmps74,List.size_toArray,List.length_cons,List.length_nil,Nat.reduceAdd,Nat.reduceSub,Array.replicate_succ,Array.replicate_zero,List.push_toArray,List.append_toArray,List.nil_append,List.cons_append]
 gi_wp2
 gi_loopw [11] (fun i wr => ∃ k : Nat,i = int i64 (k : Int) ∧ k ≤ m ∧ Hid (J ((List.finRange m).take k) wr) ∧ Hid (Below n₀ W0 wr)) (fun i wr=>m - (intOf i).toNat)
 case atStart=>exact ⟨0,rfl,Nat.zero_le _,h0,Below.refl _ _⟩
 case round =>
  obtain ⟨k,rfl,hk,HJ,HB⟩:=hrel
  by_cases hlt : k < m
  ·obtain ⟨ad,rfl,hs,hb,hc⟩:=HR.out.cellAt hlt
   have hc2 : wr.cell? (ad.add k) = some (vs[k]?.getD undef):=by
    rw [(HB.out.cell (p:=ad.add k) (by rw [block_add]; exact hs)),hc,List.getElem?_eq_getElem (by omega)]
    rfl
   have z3 : wr.cell? ⟨p,3,none⟩ = some (int i64 nx):=(HB.out.cell (p:=⟨p,3,none⟩) hp).trans HZ3.out
   obtain ⟨fn,tmps,assign,body,hy,hR⟩:=hY ((List.finRange m).take k) ⟨k,hlt⟩ wr HJ.out (by simp; omega)
   generalize vs[k]?.getD undef = v at *
   have HRR:=hd_ hR
   clear hR hc hs hb z2 hY
   have hw1 : IntKind.i64.wrap (nx + (k : Int)) = nx + (k : Int):=IntWalk.i64_in _ (by omega)
   gi_wp2
   refine ⟨fun h=>by simp [Fence.wide] at h,HRR.out.mono ?_⟩
   rintro e W3 (⟨rfl,hJ3,hk3⟩ | ⟨rfl,hJx3⟩)
   ·rw [finR_take] at hJ3
    have HJ3:=hd_ hJ3
    have HB3:=hd_ (HB.out.trans hk3)
    clear hJ3 hk3
    gi_wp2
    go_roundw
    case rel=>exact ⟨k + 1,by go_num,by omega,HJ3,HB3⟩
    case measure=>simp [intOf]; omega
   ·rw [finR_take] at hJx3
    have HJ3:=hd_ hJx3
    clear hJx3
    gi_wp2
    refine bodyPost_ret (results_none rfl _ _ _) rfl ?_
    exact ⟨⟨_,rfl⟩, .inr ⟨_,List.take_prefix _ _,HJ3.out⟩⟩
  ·obtain rfl : k = m:=by omega
   gi_wp2
   go_end0
   refine ⟨⟨_,rfl⟩, .inl ?_⟩
   have:=HJ.out
   rwa [List.take_of_length_le (by simp)] at this
def ltC (m p a s : Int) (A : Option Addr) (n c : Nat) : Array Value:=#[int i64 m,int i64 p,int i64 a,int i64 s, .slice A n c]
theorem lt_cells {w : World} {r : Nat} {T : TypeId} {m p a s : Int} {A : Option Addr} {n c : Nat} (h : Blk w r T (ltC m p a s A n c)) :
  w.cell? ⟨r,0,none⟩ = some (int i64 m) ∧ w.cell? ⟨r,1,none⟩ = some (int i64 p) ∧ w.cell? ⟨r,2,none⟩ = some (int i64 a) ∧ w.cell? ⟨r,3,none⟩ = some (int i64 s) ∧ w.cell? ⟨r,4,none⟩ = some (.slice A n c):=by
 have h0:=h.cell 0
 have h1:=h.cell 1
 have h2:=h.cell 2
 have h3:=h.cell 3
 have h4:=h.cell 4
 simp only [ltC,List.getElem?_toArray,List.getElem?_cons_zero,List.getElem?_cons_succ] at h0 h1 h2 h3 h4
 exact ⟨h0,h1,h2,h3,h4⟩
theorem lt_free {w : World} {r : Nat} {T : TypeId} {cs : Array Value} (hb : Blk w r T cs) : w.frozen? ⟨r,0,none⟩ = false ∧ w.frozen? ⟨r,1,none⟩ = false ∧ w.frozen? ⟨r,2,none⟩ = false ∧ w.frozen? ⟨r,3,none⟩ = false ∧ w.frozen? ⟨r,4,none⟩ = false :=
 ⟨hb.frozen 0,hb.frozen 1,hb.frozen 2,hb.frozen 3,hb.frozen 4⟩
theorem lt_put {w : World} {r : Nat} {T : TypeId} {m p a s : Int} {A : Option Addr} {n c : Nat} (hb : Blk w r T (ltC m p a s A n c)) (m' p' a' s' : Int) (A' : Option Addr) (n' c' : Nat) :
  (w.setCell ⟨r,0,none⟩ (int i64 m')).cell? ⟨r,0,none⟩ = some (int i64 m') ∧
  ((w.setCell ⟨r,0,none⟩ (int i64 m')).setCell ⟨r,1,none⟩ (int i64 p')).cell? ⟨r,1,none⟩ = some (int i64 p') ∧
  (((w.setCell ⟨r,0,none⟩ (int i64 m')).setCell ⟨r,1,none⟩ (int i64 p')).setCell ⟨r,2,none⟩ (int i64 a')).cell? ⟨r,2,none⟩ = some (int i64 a') ∧
  ((((w.setCell ⟨r,0,none⟩ (int i64 m')).setCell ⟨r,1,none⟩ (int i64 p')).setCell ⟨r,2,none⟩ (int i64 a')).setCell ⟨r,3,none⟩ (int i64 s')).cell? ⟨r,3,none⟩ = some (int i64 s') ∧
  (((((w.setCell ⟨r,0,none⟩ (int i64 m')).setCell ⟨r,1,none⟩ (int i64 p')).setCell ⟨r,2,none⟩ (int i64 a')).setCell ⟨r,3,none⟩ (int i64 s')).setCell ⟨r,4,none⟩ (.slice A' n' c')).cell? ⟨r,4,none⟩ = some (.slice A' n' c') ∧
  Blk (((((w.setCell ⟨r,0,none⟩ (int i64 m')).setCell ⟨r,1,none⟩ (int i64 p')).setCell ⟨r,2,none⟩ (int i64 a')).setCell ⟨r,3,none⟩ (int i64 s')).setCell ⟨r,4,none⟩ (.slice A' n' c')) r T (ltC m' p' a' s' A' n' c') ∧ Chg (fun k=>k = r) w (((((w.setCell ⟨r,0,none⟩ (int i64 m')).setCell ⟨r,1,none⟩ (int i64 p')).setCell ⟨r,2,none⟩ (int i64 a')).setCell ⟨r,3,none⟩ (int i64 s')).setCell ⟨r,4,none⟩ (.slice A' n' c')):=by
 have h0:=(hb.set 0 (int i64 m'))
 have r0:=h0.cell 0
 have h1:=((hb.set 0 (int i64 m')).set 1 (int i64 p'))
 have r1:=h1.cell 1
 have h2:=(((hb.set 0 (int i64 m')).set 1 (int i64 p')).set 2 (int i64 a'))
 have r2:=h2.cell 2
 have h3:=((((hb.set 0 (int i64 m')).set 1 (int i64 p')).set 2 (int i64 a')).set 3 (int i64 s'))
 have r3:=h3.cell 3
 have h4:=(((((hb.set 0 (int i64 m')).set 1 (int i64 p')).set 2 (int i64 a')).set 3 (int i64 s')).set 4 (.slice A' n' c'))
 have r4:=h4.cell 4
 simp only [ltC,List.setIfInBounds_toArray,List.set_cons_succ,List.set_cons_zero,List.getElem?_toArray,List.getElem?_cons_zero,List.getElem?_cons_succ] at r0 r1 r2 r3 r4 h4
 exact ⟨r0,r1,r2,r3,r4,h4,((((((Chg.refl (fun k=>k = r) w).put r 0 (fun _=>rfl) _).put r 1 (fun _=>rfl) _).put r 2 (fun _=>rfl) _).put r 3 (fun _=>rfl) _).put r 4 (fun _=>rfl) _)⟩
theorem within11 (lo hi : Int) (l : List Int) (A : Option Addr) (n c : Nat) (S : Nat → Prop) (w : World) (hn : n = l.length) (hr : Rds w S A n (l.map (Value.int .i64))) (hb : n ≤ 1000) :
  Calls Tryz.prog 36 #[int i64 lo,int i64 hi, .slice A n c] w fun e w'=>e = .returned (.bool (withinB lo hi l)) ∧ w = w':=by
 have HN:=hd_ hn
 clear hn
 go_enter Tryz.func36,Tryz.ntmps36
 go_wp2
 go_loop [8,11] (fun _ i => ∃ k : Nat,k ≤ n ∧ i = int i64 k ∧ ∀ j (hj : j < l.length),j < k → lo ≤ l[j] ∧ l[j] ≤ hi) (fun _ i=>n - (intOf i).toNat)
 case atStart=>exact ⟨0,Nat.zero_le _,rfl,fun j _ h=>absurd h (Nat.not_lt_zero _)⟩
 case round =>
  obtain ⟨k,hk,rfl,hall⟩:=hrel
  have HA:=hd_ hall
  clear hall
  by_cases hlt : k < n
  ·obtain ⟨ad,rfl,_,_,hc⟩:=hr.cellAt hlt
   have hkl : k < l.length:=by have:=HN.out; omega
   rw [List.getElem?_map,List.getElem?_eq_getElem hkl] at hc
   simp only [Option.map_some] at hc
   have hv : ∃ x,x = l[k]:=⟨_,rfl⟩
   obtain ⟨x,hxe⟩:=hv
   rw [← hxe] at hc
   have HX:=hd_ hxe
   clear hxe
   by_cases h1 : x < lo
   ·go_wp2
    go_ret
    exact ⟨ret_b (within_false k hkl (by have:=HX.out; omega)).symm,rfl⟩
   ·by_cases h2 : hi < x
    ·go_wp2
     go_ret
     exact ⟨ret_b (within_false k hkl (by have:=HX.out; omega)).symm,rfl⟩
    ·go_wp2
     go_round
     case rel=>exact ⟨k + 1,by omega,by go_num,fun j hj hjk=>by
      by_cases e : j < k
      ·exact HA.out j hj e
      ·have : j = k:=by omega
       subst this
       have:=HX.out
       omega⟩
     case measure=>simp [intOf]; omega
  ·have : k = n:=by omega
   subst this
   go_wp2
   go_ret
   exact ⟨ret_b (within_true (fun j hj=>HA.out j hj (by have:=HN.out; omega))).symm,rfl⟩
theorem sized11 (A : Option Addr) (n c : Nat) (w : World) (hn : n ≤ 9223372036854775807) : Calls Tryz.prog 85 #[.slice A n c] w fun e w'=>e = .returned (.bool (withinB 1 1000 [(n : Int)])) ∧ Chg (fun _=>False) w w':=by
 have HW:=hd_ (within11 1 1000 [(n : Int)] (some ⟨w.heap.size,0,none⟩) 1 1 _ (w.alloc (.cells #[int i64 (n : Int)] 3)) rfl (rds_new1 w 3 #[int i64 (n : Int)] (0,0) w.heap.size rfl _ 1 rfl rfl) (by decide))
 generalize withinB 1 1000 [(n : Int)] = b at *
 go_enter Tryz.func85,Tryz.ntmps85
 go_wp2_with fail
 refine HW.out.mono ?_
 rintro e w1 ⟨rfl,rfl⟩
 go_wp2_with fail
 go_ret
 exact ⟨rfl,(Chg.refl _ w).alloc _⟩
def HL (m p a s : Int) (b : List UInt8) (w : World) (e : Ending) (w' : World) : Prop :=
 ∃ E d,e = .returned (.agg (ltC m p a s E b.length d)) ∧ (E = none → d = 0) ∧ Rds w' (fun k=>w.heap.size ≤ k) E b.length (bcs b) ∧ Chg (fun _=>False) w w'
theorem letter_any (p : Nat) (o : Option Nat) (G : Nat → Prop) (x : SV) (seq : Int) (B : Option Addr) (n d : Nat) (b : List UInt8) (S : Nat → Prop) (w : World) (h : SN w p o G x) (hn : n = b.length) (hr : Rds w S B n (bcs b)) (hz : B = none → d = 0) (hbig : n ≤ 1000) :
  Calls Tryz.prog 75 #[.pointer (some ⟨p,0,none⟩),int i64 seq, .slice B n d] w (HL x.mi x.pe x.go seq b w):=by
 obtain ⟨mi,pe,nx,go,q⟩:=x
 obtain ⟨A,c,vs,hb, -⟩:=h
 simp only at hb ⊢
 subst hn
 have hplt:=hb.lt
 have HR0 : Hid (Blk (w.alloc (.cells #[int i64 0,int i64 0,int i64 0,int i64 0, .slice none 0 0] 85)) w.heap.size 85 (ltC 0 0 0 0 none 0 0)):=hd_ (blk_new rfl)
 have HP0:=hd_ (hb.alloc (.cells #[int i64 0,int i64 0,int i64 0,int i64 0, .slice none 0 0] 85))
 have HX0:=hd_ ((Chg.refl (fun _=>False) w).alloc (.cells #[int i64 0,int i64 0,int i64 0,int i64 0, .slice none 0 0] 85))
 have HCL:=hd_ (fun (W : World) (hw : Chg (fun _=>False) w W)=>tclone_any B b.length d b S W rfl (hr.chg hw (fun _ _=>id)) hz (by omega))
 clear hb hr hz
 go_enter Tryz.func75,Tryz.ntmps75
 go_upto_region 1 with fail
 generalize w.alloc (.cells #[int i64 0,int i64 0,int i64 0,int i64 0, .slice none 0 0] 85) = w1 at *
 have HKEEP : Hid (∀ W : World,Chg (fun k=>k = w.heap.size) w1 W → (W.cell? ⟨p,0,none⟩ = some (int i64 mi) ∧ W.cell? ⟨p,1,none⟩ = some (int i64 pe) ∧ W.cell? ⟨p,4,none⟩ = some (int i64 go))):=hd_ (fun W hw=>by
  obtain ⟨x0,x1,_,_,x4⟩:=sn_cells (HP0.out.chg hw (by omega))
  exact ⟨x0,x1,x4⟩)
 have HX:=hd_ (Chg.refl (fun _=>False) w1).drew
 have HXA:=hd_ (Chg.refl (fun k=>k = w.heap.size) w1).drew
 go_wp2_with fail
 go_region_held3 (fun w'=>w'.cell? ⟨p,0,none⟩ = some (int i64 mi) ∧ w'.cell? ⟨p,1,none⟩ = some (int i64 pe) ∧ w'.cell? ⟨p,4,none⟩ = some (int i64 go))
  (first | with_reducible exact HKEEP.out _ HXA.out | with_reducible exact HKEEP.out _ HXB.out | with_reducible exact HKEEP.out _ HXC.out | fail)
  (first
   | (go_at_call 55; (with_reducible refine (HCL.out _ (HX0.out.trans HX.out (fun _ _ e=>e))).mono ?_); rintro e w3 ⟨E,ed,rfl,hown,hc⟩; have HX:=hd_ (HX.out.trans hc (fun _ _ e=>e)); have HXB:=hd_ (HXA.out.trans (hc.mono (S':=fun k=>k = w.heap.size) (fun _ _ h=>h.elim)) (fun _ _ e=>e)); have HO:=hd_ hown; clear hown hc; have HBS:=hd_ HR0.out.lt; replace HX0:=hd_ (HX0.out.trans HX.out (fun _ _ e=>e)); replace HR0:=hd_ (HR0.out.chg HX.out id); obtain ⟨x0,x1,x2,x3,x4⟩:=lt_cells HR0.out; obtain ⟨u0,u1,u2,u3,u4⟩:=lt_free HR0.out; obtain ⟨r0,r1,r2,r3,r4, -,hcs⟩:=lt_put HR0.out mi pe go seq E b.length ed; have HXC:=hd_ (HXB.out.trans hcs (fun _ _ e=>e)); have HF:=hd_ (fresh_set HX0.out hcs (Nat.le_refl _)); have HCS:=hd_ hcs; have RR:=hd_ (And.intro r0 (And.intro r1 (And.intro r2 (And.intro r3 r4)))); clear r0 r1 r2 r3 r4 hcs)
   | fail)
 all_goals
  go_wp2_with fail
  obtain ⟨r0,r1,r2,r3,r4⟩:=RR.out
  have hnil:=own_nil HO.out
  have hbs:=HBS.out
  have hrd:=(own_rds2 HO.out).chg HCS.out (fun k hk e=>by have : w1.heap.size ≤ k:=hk.1; omega)
  exact bodyPost_ret (v := .agg (ltC mi pe go seq E b.length ed)) (by simp [results,Tryz.results75,go_sem,ltC,r0,r1,r2,r3,r4]) rfl ⟨E,ed,rfl,hnil,hrd.mono (fun k hk=>by have : w1.heap.size ≤ k:=hk.1; omega),HF.out⟩
structure LV where
 mi : Int
 pe : Int
 ac : Int
 se : Int
 b : List UInt8
structure LA where
 mi : Int
 pe : Int
 ac : Int
 se : Int
 A : Option Addr
 n : Nat
 c : Nat
def LA.cs (y : LA) : Array Value:=ltC y.mi y.pe y.ac y.se y.A y.n y.c
def LA.is (w : World) (S : Nat → Prop) (y : LA) (l : LV) : Prop:=y.mi = l.mi ∧ y.pe = l.pe ∧ y.ac = l.ac ∧ y.se = l.se ∧ y.n = l.b.length ∧ (y.A = none → y.c = 0) ∧ Rds w S y.A y.n (bcs l.b)
def LB (w : World) (S : Nat → Prop) (ys : List LA) (ls : List LV) : Prop:=ys.length = ls.length ∧ ∀ (i : Nat) (y : LA) (l : LV),ys[i]? = some y → ls[i]? = some l → LA.is w S y l
section
variable {w w' : World} {S S' : Nat → Prop} {ys : List LA} {ls : List LV}
theorem LA.is_mono {y : LA} {l : LV} (h : LA.is w S y l) (hs : ∀ k,S k → S' k) : LA.is w S' y l:=⟨h.1,h.2.1,h.2.2.1,h.2.2.2.1,h.2.2.2.2.1,h.2.2.2.2.2.1,h.2.2.2.2.2.2.mono hs⟩
theorem LA.is_chg {y : LA} {l : LV} (h : LA.is w S y l) (hc : Chg S' w w') (hd : ∀ k,S k → ¬ S' k) : LA.is w' S y l:=⟨h.1,h.2.1,h.2.2.1,h.2.2.2.1,h.2.2.2.2.1,h.2.2.2.2.2.1,h.2.2.2.2.2.2.chg hc hd⟩
theorem LB.nil (w : World) (S : Nat → Prop) : LB w S [] []:=⟨rfl,fun i y l h=>by simp at h⟩
theorem LB.mono (h : LB w S ys ls) (hs : ∀ k,S k → S' k) : LB w S' ys ls:=⟨h.1,fun i y l h1 h2=>LA.is_mono (h.2 i y l h1 h2) hs⟩
theorem LB.chg (h : LB w S ys ls) (hc : Chg S' w w') (hd : ∀ k,S k → ¬ S' k) : LB w' S ys ls:=⟨h.1,fun i y l h1 h2=>LA.is_chg (h.2 i y l h1 h2) hc hd⟩
theorem LB.old (h : LB w S ys ls) : LB w (fun k=>S k ∧ k < w.heap.size) ys ls :=
 ⟨h.1,fun i y l h1 h2=>by obtain ⟨a1,a2,a3,a4,a5,a6,a7⟩:=h.2 i y l h1 h2; exact ⟨a1,a2,a3,a4,a5,a6,a7.old⟩⟩
theorem LB.abd (h : LB w S ys ls) (ha : Abd w w') : LB w' S ys ls :=
 ⟨h.1,fun i y l h1 h2=>by obtain ⟨a1,a2,a3,a4,a5,a6,a7⟩:=h.2 i y l h1 h2; exact ⟨a1,a2,a3,a4,a5,a6,a7.abd ha⟩⟩
theorem LB.snoc (h : LB w S ys ls) {y : LA} {l : LV} (hy : LA.is w S y l) : LB w S (ys ++ [y]) (ls ++ [l]):=by
 have h1:=h.1
 refine ⟨by simp [h1],fun i a b ha hb => ?_⟩
 by_cases hi : i < ls.length
 ·rw [List.getElem?_append_left hi] at hb
  rw [List.getElem?_append_left (by omega)] at ha
  exact h.2 i a b ha hb
 ·have hi2 : i < (ls ++ [l]).length:=(List.getElem?_eq_some_iff.1 hb).1
  rw [List.length_append,List.length_singleton] at hi2
  have hij : i = ls.length:=by omega
  subst hij
  rw [List.getElem?_append_right (Nat.le_refl _),Nat.sub_self,List.getElem?_cons_zero,Option.some.injEq] at hb
  rw [List.getElem?_append_right (by omega),h1,Nat.sub_self,List.getElem?_cons_zero,Option.some.injEq] at ha
  subst ha
  subst hb
  exact hy
end
theorem flatL_at : ∀ (ys : List LA) (i : Nat) (y : LA),ys[i]? = some y → ∀ j,j < 5 → (ys.flatMap fun y=>y.cs.toList)[i * 5 + j]? = y.cs[j]?
 | [],i,y,h,_,_=>by simp at h
 | z :: ys,0,y,h,j,hj=>by
  simp only [List.getElem?_cons_zero,Option.some.injEq] at h
  subst h
  simp only [List.flatMap_cons]
  rw [List.getElem?_append_left (by simp [LA.cs,ltC]; omega)]
  simp
 | z :: ys,i + 1,y,h,j,hj=>by
  simp only [List.getElem?_cons_succ] at h
  simp only [List.flatMap_cons]
  rw [List.getElem?_append_right (by simp [LA.cs,ltC]; omega)]
  have e : (i + 1) * 5 + j - (z.cs).toList.length = i * 5 + j:=by simp [LA.cs,ltC]; omega
  rw [e]
  exact flatL_at ys i y h j hj
theorem infoLT11 : (Tryz.prog.info? 85).map (fun i=>(i.zero,i.size,i.bytes)) = some (some (.agg #[int i64 0,int i64 0,int i64 0,int i64 0, .slice none 0 0]),5,56):=by kernel_rfl
theorem own_ne_blk {w : World} {base : Nat} {e : TypeId} {size n c : Nat} {A : Option Addr} {xs : List Value} {g : Nat} {t : TypeId} {cs : Array Value} (ho : w.ownsRow base e size (.slice A n c) n xs) (hb : Blk w g t cs) (ht : t ≠ e) : A.map (·.block) ≠ some g:=by
 intro hA
 rcases ho.2 with ⟨hv,_⟩ | ⟨k,cap,cur,hv,_,hh,_⟩
 ·injection hv with hv
  subst hv
  cases hA
 ·injection hv with hv
  subst hv
  have hk : k = g:=by simpa using hA
  subst hk
  have h:=hh.symm.trans hb
  simp at h
  exact ht h.2.symm
theorem row_cells {w : World} {base : Nat} {e : TypeId} {size n c : Nat} {A : Option Addr} {xs : List Value} (ho : w.ownsRow base e size (.slice A n c) n xs) {k : Nat} {o : Obj} (hA : A.map (·.block) = some k) (hk : w.heap[k]? = some o) : o.isCells = true:=by
 rcases ho.2 with ⟨hv,_⟩ | ⟨g,cap,cur,hv,_,hh,_⟩
 ·injection hv with hv
  subst hv
  cases hA
 ·injection hv with hv
  subst hv
  have hg : g = k:=by simpa using hA
  subst hg
  rw [hh] at hk
  injection hk with hk
  subst hk
  rfl
theorem step_app11 {P : Program} (w : World) {ops : Array Oper} {o : Oper} {a : Act} {K : Act → World → Prop} {Q : Exit → Act → World → Prop} {E : Prop} (hgd : o.guard = none) (s x : Operand) (t : TypeId)
  (ho : o.op = .call { callee := .builtin .append,args:=#[s,x],argTypes:=#[t,t] })
  (base : Nat) (e : TypeId) (i : TypeInfo) (z : Value) (size bytes : Nat) (ht : P.underlying t = some (.slice e)) (hi : P.info? e = some i) (hz : i.zero = some z)
  (hsize : i.size = size) (hby : i.bytes = bytes) (hzs : z.cells.size = size) (hpos : 0 < size)
  (v : Value) (n : Nat) (xs : List Value) (hs : a.eval s = v) (hown : w.ownsRow base e size v n xs)
  (ad : Addr) (m c : Nat) (news : List Value) (hx : a.eval x = .slice (some ad) m c) (hl : news.length = m * size) (hnews : ∀ j u,news[j]? = some u → w.cell? (ad.add j) = some u) (h1 : ∀ u ∈ news,u.oneCell' = true)
  (h63 : n + m ≤ maxLen) (hbytes : (n + m) * bytes ≤ 140737488355328) (hbase : base ≤ w.heap.size)
  (h : ∀ v' w',w'.ownsRow base e size v' (n + m) (xs ++ news) → w.grownBy w' v.ownBlock → (v'.ownBlock = v.ownBlock ∨ v'.ownBlock = some w.heap.size) → K (a.put o.dst v') w') :
  if Region.wanted o (yielded ops a.tmps) = true then Oper.wp P o a w K Q else E:=by
 rw [if_pos (by simp [Region.wanted,hgd])]
 obtain ⟨v',w',hrun,h2,h3,_,h4⟩:=run_append_own_at (P:=P) w base t o.type e i z size bytes ht hi hz hsize hby hzs hpos v n xs hown ad m c news hl hnews h1 h63 hbytes hbase
 unfold Oper.wp execOp
 simp only [ho,resolve,invoke,builtin,Sem.run_bind,Sem.run_pure,Result.andThen_ok,List.map_toArray,List.map_cons,List.map_nil,hs,hx,hrun]
 exact h v' w' h2 h3 h4
def SB (n₀ b1 : Nat) (A : Option Addr) (k : Nat) : Prop:=n₀ ≤ k ∧ k ≠ b1 ∧ A.map (·.block) ≠ some k
def Box11 (w : World) (n₀ b1 : Nat) (A : Option Addr) (n c : Nat) (ys : List LA) (ls : List LV) : Prop :=
 Blk w b1 113 #[.slice A n c] ∧ w.ownsRow n₀ 85 5 (.slice A n c) n (ys.flatMap fun y=>y.cs.toList) ∧ LB w (SB n₀ b1 A) ys ls ∧ n = ls.length
theorem Box11.new {w w' : World} {n₀ b1 : Nat} {A : Option Addr} {n c : Nat} {ys : List LA} {ls : List LV} (h : Box11 w n₀ b1 A n c ys ls) (hc : Chg (fun _=>False) w w') : Box11 w' n₀ b1 A n c ys ls :=
 ⟨h.1.chg hc id,own_chg h.2.1 hc (fun _ _=>id),h.2.2.1.chg hc (fun _ _=>id),h.2.2.2⟩
theorem Box11.abd {w w' : World} {n₀ b1 : Nat} {A : Option Addr} {n c : Nat} {ys : List LA} {ls : List LV} (h : Box11 w n₀ b1 A n c ys ls) (ha : Abd w w') : Box11 w' n₀ b1 A n c ys ls :=
 ⟨h.1.abd ha,own_abd h.2.1 ha,h.2.2.1.abd ha,h.2.2.2⟩
theorem box_cell {w : World} {n₀ b1 : Nat} {A : Option Addr} {n c : Nat} {ys : List LA} {ls : List LV} (h : Box11 w n₀ b1 A n c ys ls) : w.cell? ⟨b1,0,none⟩ = some (.slice A n c) ∧ w.frozen? ⟨b1,0,none⟩ = false:=by
 have h0:=h.1.cell 0
 simp only [List.getElem?_toArray,List.getElem?_cons_zero] at h0
 exact ⟨h0,h.1.frozen 0⟩
theorem Box11.app {w w3 w5 : World} {n₀ b1 : Nat} {A A5 E : Option Addr} {n c c5 d k : Nat} {ys : List LA} {ls : List LV} (h : Box11 w n₀ b1 A n c ys ls) (hc : Chg (fun _=>False) w w3) (l : LV) (hz : E = none → d = 0) (hk : k = l.b.length)
  (hr : Rds w3 (fun k=>w.heap.size ≤ k) E k (bcs l.b)) (hn₀ : n₀ ≤ w.heap.size)
  (hown : w5.ownsRow n₀ 85 5 (.slice A5 (n + 1) c5) (n + 1) ((ys.flatMap fun y=>y.cs.toList) ++ (ltC l.mi l.pe l.ac l.se E k d).toList))
  (hg : (w3.alloc (.cells (ltC l.mi l.pe l.ac l.se E k d) 85)).grownBy w5 (Value.slice A n c).ownBlock)
  (hat : (Value.slice A5 (n + 1) c5).ownBlock = (Value.slice A n c).ownBlock ∨ (Value.slice A5 (n + 1) c5).ownBlock = some (w3.alloc (.cells (ltC l.mi l.pe l.ac l.se E k d) 85)).heap.size) :
  Box11 (w5.setCell ⟨b1,0,none⟩ (.slice A5 (n + 1) c5)) n₀ b1 A5 (n + 1) c5 (ys ++ [⟨l.mi,l.pe,l.ac,l.se,E,k,d⟩]) (ls ++ [l]) ∧
   Chg (fun k=>k = b1 ∨ A.map (·.block) = some k) w (w5.setCell ⟨b1,0,none⟩ (.slice A5 (n + 1) c5)) ∧
   w5.cell? ⟨b1,0,none⟩ = some (.slice A n c) ∧ w5.frozen? ⟨b1,0,none⟩ = false:=by
 subst hk
 obtain ⟨hb,ho,hl,hn⟩:=h
 have hne:=own_ne_blk ho hb (by decide)
 rw [own_block,own_block] at hat
 rw [own_block] at hg
 have hb3 : Blk (w3.alloc (.cells (ltC l.mi l.pe l.ac l.se E l.b.length d) 85)) b1 _ _:=(hb.chg hc id).alloc _
 have hb5:=blk_grown hb3 hg hne
 have hc4:=hc.alloc (.cells (ltC l.mi l.pe l.ac l.se E l.b.length d) 85)
 have hs3:=hc.size
 have hb1:=hb.lt
 have hc5 : Chg (fun k=>k = b1 ∨ A.map (·.block) = some k) w w5:=(hc4.mono (fun _ _ h=>h.elim)).grown hg (fun k hk _ => .inr hk)
 have hc6 : Chg (fun k=>k = b1 ∨ A.map (·.block) = some k) w (w5.setCell ⟨b1,0,none⟩ (.slice A5 (n + 1) c5)):=hc5.put b1 0 (fun _ => .inl rfl) _
 have hlt : ∀ k,A.map (·.block) = some k → k < w.heap.size:=fun k hk=>(ho.lt k (by rw [own_block]; exact hk)).2
 have c5c:=hb5.cell 0
 simp only [List.getElem?_toArray,List.getElem?_cons_zero] at c5c
 have hsz4 : (w3.alloc (.cells (ltC l.mi l.pe l.ac l.se E l.b.length d) 85)).heap.size = w3.heap.size + 1:=by simp
 have hne5 : A5.map (·.block) ≠ some b1:=by
  rcases hat with e | e
  ·rw [e]; exact hne
  ·rw [e,hsz4]
   intro e
   injection e with e
   omega
 refine ⟨⟨?_, ?_, ?_,by simp [hn]⟩,hc6,c5c,hb5.frozen 0⟩
 ·exact hb5.set 0 _
 ·rw [List.flatMap_append]
  exact own_chg (by simpa [LA.cs] using hown) ((Chg.refl (fun k=>k = b1) w5).put b1 0 (fun _=>rfl) _) (fun k hk e=>by subst e; exact hne5 hk)
 ·refine LB.snoc ?_ ?_
  ·refine (hl.old.chg hc6 (fun k hk e => ?_)).mono (fun k hk=>⟨hk.1.1,hk.1.2.1, ?_⟩)
   ·rcases e with e | e
    ·exact hk.1.2.1 e
    ·exact hk.1.2.2 e
   ·rcases hat with e | e
    ·rw [e]; exact hk.1.2.2
    ·rw [e,hsz4]
     intro e
     injection e with e
     have:=hk.2
     omega
  ·have hr2:=hr.old
   have hc35 : Chg (fun k=>k = b1 ∨ A.map (·.block) = some k) w3 (w5.setCell ⟨b1,0,none⟩ (.slice A5 (n + 1) c5)) :=
    ((((Chg.refl (fun _=>False) w3).alloc (.cells (ltC l.mi l.pe l.ac l.se E l.b.length d) 85)).mono (fun _ _ h=>h.elim)).grown hg (fun k hk _ => .inr hk)).put b1 0 (fun _ => .inl rfl) _
   refine ⟨rfl,rfl,rfl,rfl,rfl,hz,(hr2.chg hc35 (fun k hk e => ?_)).mono (fun k hk=>⟨by have:=hk.1; omega,by have:=hk.1; omega, ?_⟩)⟩
   ·rcases e with e | e
    ·have:=hk.1
     omega
    ·have:=hlt k e
     have:=hk.1
     omega
   ·rcases hat with e | e
    ·rw [e]
     intro e
     have:=hlt k e
     have:=hk.1
     omega
    ·rw [e,hsz4]
     intro e
     injection e with e
     have:=hk.2
     omega
def letS (x : SV) (i : Nat) : LV:=⟨x.mi,x.pe,x.go,x.nx + (i : Int),x.q.getD i []⟩
def outS (x : SV) : List LV:=if x.q.length = 0 then [⟨x.mi,x.pe,x.go,0, []⟩] else (List.range (min x.q.length 8)).map (letS x)
def OutP (x : SV) (w : World) (e : Ending) (w' : World) : Prop :=
 ∃ A n c ys,e = .returned (.slice A n c) ∧ n = (outS x).length ∧ w'.ownsRow w.heap.size 85 5 (.slice A n c) n (ys.flatMap fun y=>y.cs.toList) ∧ LB w' (fun k=>w.heap.size ≤ k ∧ A.map (·.block) ≠ some k) ys (outS x) ∧ Chg (fun _=>False) w w'
theorem SN.old {w : World} {p : Nat} {o : Option Nat} {G : Nat → Prop} {x : SV} (h : SN w p o G x) : SN w p o (fun k=>G k ∧ k < w.heap.size) x:=by
 obtain ⟨A,c,vs,hb,hown,h1,h2,h3,h4,h5⟩:=h
 exact ⟨A,c,vs,hb,hown,h1,h2,h3.old,fun hh=>h4 hh.1,fun k hk hh=>h5 k hk hh.1⟩
theorem SN.below {w w' : World} {p : Nat} {o : Option Nat} {G : Nat → Prop} {x : SV} (h : SN w p o G x) (hb : Below w.heap.size w w') : SN w' p o (fun k=>G k ∧ k < w.heap.size) x:=by
 have hlt:=h.lt
 exact h.old.chg (below_chg hb (S:=fun k=>w.heap.size ≤ k) (fun _ h=>h)) (by omega) (fun k hk=>by have:=hlt.2 k hk; omega) (fun k hk=>by have:=hk.2; omega)
theorem finR_map {α : Type} (m : Nat) (f : Nat → α) : (List.finRange m).map (fun i=>f i.1) = (List.range m).map f:=by
 refine List.ext_getElem (by simp) (fun i h1 h2=>by simp)
attribute [local go_sem] Oper.semAt_some
def IO11 (w : World) (p m : Nat) (f : Fin m → LV) (pre : List (Fin m)) (W : World) : Prop :=
 pre.length ≤ 8 ∧ Blk W w.heap.size 54 #[.pointer (some ⟨p,0,none⟩)] ∧ ∃ A n c ys,Box11 W w.heap.size (w.heap.size + 1) A n c ys (pre.map f)
def IX11 (w : World) (p m : Nat) (f : Fin m → LV) (cd : Code) (pre : List (Fin m)) (W : World) : Prop :=
 cd = .exit 0 ∧ ∃ pre' i,pre = pre' ++ [i] ∧ pre'.length = 8 ∧ IO11 w p m f pre' W
theorem io11_abd {w : World} {p m : Nat} {f : Fin m → LV} {pre : List (Fin m)} {W W' : World} (h : IO11 w p m f pre W) (ha : Abd W W') : IO11 w p m f pre W':=by
 obtain ⟨h8,hb0,A1,n1,c1,ys,hbx⟩:=h
 exact ⟨h8,hb0.abd ha,A1,n1,c1,ys,hbx.abd ha⟩
theorem ix11_abd {w : World} {p m : Nat} {f : Fin m → LV} {cd : Code} {pre : List (Fin m)} {W W' : World} (h : IX11 w p m f cd pre W) (ha : Abd W W') : IX11 w p m f cd pre W':=by
 obtain ⟨h1,pre',i,h2,h3,h4⟩:=h
 exact ⟨h1,pre',i,h2,h3,io11_abd h4 ha⟩
theorem outS_nil {x : SV} (h : x.q.length = 0) : outS x = [⟨x.mi,x.pe,x.go,0, []⟩]:=if_pos h
theorem outS_some {x : SV} {m : Nat} (h : x.q.length = m) (h0 : m ≠ 0) : outS x = (List.range (min m 8)).map (letS x):=by
 subst h
 exact if_neg h0
theorem rows_cells {W : World} {n₀ b1 : Nat} {A : Option Addr} {n c : Nat} {ys : List LA} {ls : List LV} (h : Box11 W n₀ b1 A n c ys ls) : ∀ (k : Nat) (o : Obj),W.heap[k]? = some o → (k = b1 ∨ A.map (·.block) = some k) → o.isCells = true:=fun k o hk hor=>by
 rcases hor with rfl | e
 ·rw [show W.heap[k]? = _ from h.1] at hk
  injection hk with hk
  subst hk
  rfl
 ·exact row_cells h.2.1 e hk
theorem box_other {W : World} {n₀ b1 g : Nat} {A : Option Addr} {n c : Nat} {ys : List LA} {ls : List LV} {cs : Array Value} (h : Box11 W n₀ b1 A n c ys ls) (hg : Blk W g 54 cs) (W3 : World) (hw : Chg (fun k=>k = b1 ∨ A.map (·.block) = some k) W W3) : Blk W3 g 54 cs:=by
 refine hg.chg hw ?_
 rintro (e | e)
 ·subst e
  have h1:=hg.symm.trans h.1
  simp at h1
 ·exact own_ne_blk h.2.1 hg (by decide) e
theorem box_below {w W : World} {A : Option Addr} {n c : Nat} {ys : List LA} {ls : List LV} (h : Box11 W w.heap.size (w.heap.size + 1) A n c ys ls) (hs : w.heap.size ≤ W.heap.size) (W3 : World) (hw : Chg (fun k=>k = w.heap.size + 1 ∨ A.map (·.block) = some k) W W3) : Below w.heap.size W W3 :=
 chg_below (hw.mono (S':=fun k=>w.heap.size ≤ k) (fun k _ e=>by
  rcases e with e | e
  ·omega
  ·exact (h.2.1.lt k (by rw [own_block]; exact e)).1)) hs
theorem out_end {x : SV} {w W : World} {D : Nat} {A : Option Addr} {n c : Nat} {ys : List LA} {ls : List LV} (hls : outS x = ls) (hK : W.heap[D]? = some (.deferred (some []))) (hD : w.heap.size ≤ D) (hB : Below w.heap.size w W)
  (h : Box11 W w.heap.size (w.heap.size + 1) A n c ys ls) : OutP x w (.returned (.slice A n c)) (W.putObj D (.deferred none)):=by
 have ha : Abd W (W.putObj D (.deferred none)):=abd_put hK rfl
 have hB2 : Below w.heap.size W (W.putObj D (.deferred none)):=(Below.refl _ W).grown (grownBy_putObj' W D _) hB.size (fun k e=>by cases e; exact hD)
 subst hls
 exact ⟨A,n,c,ys,rfl,h.2.2.2,own_abd h.2.1 ha,(h.2.2.1.abd ha).mono (fun k hk=>⟨hk.1,hk.2.2⟩),Chg.of_below (hB.trans hB2) (Nat.le_refl _) _⟩
theorem sout_any (p : Nat) (o : Option Nat) (G : Nat → Prop) (x : SV) (w : World) (h : SN w p o G x) (hok : SOk x) : Calls Tryz.prog 40 #[.pointer (some ⟨p,0,none⟩)] w (OutP x w):=by
 obtain ⟨i0,hi0,hz0,hz1,hz2⟩:=info_parts infoLT11
 have HSN:=hd_ h
 have HOK:=hd_ hok
 obtain ⟨A,c,vs,hb,hown,ho,hne,hbq,hG1,hG2⟩:=h.old
 have hplt:=hb.lt
 have hcel:=sn_cells hb
 have hrow:=own_rds2 hown
 have hnx:=hok.nx0
 have hq64:=hok.len
 generalize hm : x.q.length = m at *
 have HM:=hd_ hm
 have HBQ:=hd_ hbq
 have HVS:=hd_ (show vs.length = m from by have:=hbq.1; omega)
 obtain ⟨f,hf⟩ : ∃ f : Fin m → LV,f = fun i=>letS x i.1:=⟨_,rfl⟩
 have HF:=hd_ hf
 clear hf
 obtain ⟨mi,pe,nx,go,q⟩:=x
 simp only at hcel hnx hm HM hq64
 obtain ⟨z0,z1,z2,z3,z4⟩:=hcel
 have hb0 : Blk ((w.alloc (.cells #[.pointer (some ⟨p,0,none⟩)] 54)).alloc (.cells #[.slice none 0 0] 113)) w.heap.size 54 #[.pointer (some ⟨p,0,none⟩)]:=(blk_new rfl).alloc _
 have hb1 : Blk ((w.alloc (.cells #[.pointer (some ⟨p,0,none⟩)] 54)).alloc (.cells #[.slice none 0 0] 113)) (w.heap.size + 1) 113 #[.slice none 0 0]:=blk_new (by simp)
 have hB2 : Below w.heap.size w ((w.alloc (.cells #[.pointer (some ⟨p,0,none⟩)] 54)).alloc (.cells #[.slice none 0 0] 113)):=((Below.refl _ w).alloc (Nat.le_refl _) _).alloc (by simp) _
 have HIT:=hd_ (fun W (hW : Below w.heap.size ((w.alloc (.cells #[.pointer (some ⟨p,0,none⟩)] 54)).alloc (.cells #[.slice none 0 0] 113)) W)=>numbered_iter 2 p w.heap.size m c A nx vs W hq64 hnx hplt (((hB2.trans hW).cell (p:=⟨p,2,none⟩) hplt).trans z2) (((hB2.trans hW).cell (p:=⟨p,3,none⟩) hplt).trans z3) ((hrow.chg (below_chg (hB2.trans hW) (S:=fun k=>w.heap.size ≤ k) (fun _ h=>h)) (fun k hk=>by have:=hk.2; omega)).mono (fun k hk=>hk.2)))
 have HB0:=hd_ hb0
 have HB1:=hd_ hb1
 have HB2:=hd_ hB2
 have HSZ2:=hd_ (show w.heap.size ≤ ((w.alloc (.cells #[.pointer (some ⟨p,0,none⟩)] 54)).alloc (.cells #[.slice none 0 0] 113)).heap.size from by simp; omega)
 have HPLT:=hd_ hplt
 clear hb hown hbq hrow hb0 hb1 hB2 z0 z1 z2 z3 z4 hm
 refine (callsIn_wide (n:=3)).1 ?_
 refine callsIn_of_wp_marks Tryz.func40 rfl trivial ?_ rfl
 simp only [Tryz.ntmps40,List.size_toArray,List.length_cons,List.length_nil,Nat.reduceAdd,Nat.reduceSub,Array.replicate_succ,Array.replicate_zero,List.push_toArray,List.append_toArray,List.nil_append,List.cons_append]
 gi_wp2
 refine loop11 (gf:=74) (first:=#[.pointer (some ⟨p,0,none⟩)]) rfl (enters_of Tryz.func74 (by kernel_rfl) rfl) (encs:=fun i : Fin m=>#[int i64 (nx + (i.1 : Int)),vs[i.1]?.getD undef]) (xs:=List.finRange m) w.heap.size HSZ2.out HIT.out (fun _=>rfl)
  (IO11 w p m f) (IX11 w p m f) (fun _ _ _=>io11_abd) (fun _ _ _ _=>ix11_abd) ?h0 (fun i => { tmps:=#[.pointer (some ⟨p,0,none⟩), .pointer (some ⟨w.heap.size,0,none⟩), .slice none 0 0, .pointer (some ⟨w.heap.size + 1,0,none⟩),int i64 (nx + (i.1 : Int)),vs[i.1]?.getD undef, .pointer (some ⟨p,0,none⟩), .bool false, .pointer (some ⟨p,0,none⟩), .func (.func 74) #[.pointer (some ⟨p,0,none⟩)] #[],int i64 (nx + (i.1 : Int)),vs[i.1]?.getD undef,undef,undef,undef,undef,undef,undef,undef,undef,undef,undef,undef,undef,undef,undef,undef,undef,undef,undef,undef],defers := [] }) ?assign ?body ?done ?stop
 case h0=>exact ⟨by simp,HB0.out,none,0,0, [],HB1.out,World.ownsRow_nil _ _ _ _,LB.nil _ _,rfl⟩
 case assign =>
  intro l i W K hK
  gi_wp2
  exact hK
 case body =>
  rintro l pre i W - hBW ⟨h8,hb0,A1,n1,c1,ys,hbx⟩
  have hbel:=HB2.out.trans hBW
  have hsnW:=HSN.out.below hbel
  have hln : n1 = pre.length:=by have:=hbx.2.2.2; simpa using this
  obtain ⟨hc1,hf1⟩:=box_cell hbx
  have hc0:=hb0.cell 0
  simp only [List.getElem?_toArray,List.getElem?_cons_zero] at hc0
  by_cases h88 : n1 = 8
  ·subst h88
   gi_wp2
   exact ⟨KeepsFrom.refl _ _,Below.refl _ _,rfl,pre,i,rfl,hln.symm,h8,hb0,A1,8,c1,ys,hbx⟩
  ·have hiq : i.1 < q.length:=by have:=HM.out; have:=i.2; omega
   obtain ⟨B,d,hv,hzB,hrB⟩:=HBQ.out.2 i.1 q[i.1] (by simp [hiq])
   have hv2 : vs[i.1]?.getD undef = .slice B (q[i.1]).length d:=by rw [hv]; rfl
   have hbd:=HOK.out.bod q[i.1] (by simp)
   have HFI : Hid (f i = ⟨mi,pe,go,nx + (i.1 : Int),q[i.1]⟩):=hd_ (by rw [HF.out]; simp [letS,List.getD,hiq])
   generalize q[i.1] = bb at *
   have HLE:=hd_ (fun W3 (hw : Chg (fun _=>False) W W3)=>letter_any p o _ ⟨mi,pe,nx,go,q⟩ (nx + (i.1 : Int)) B bb.length d bb _ W3 (hsnW.new hw) rfl ((hrB.chg (below_chg hbel (S:=fun k=>w.heap.size ≤ k) (fun _ h=>h)) (fun k hk=>by have:=hk.2; omega)).chg hw (fun _ _=>id)) hzB hbd.2)
   simp only [hv2]
   have hn8 : n1 < 8:=by omega
   have HLN:=hd_ hln
   clear hln
   gi_wp2
   have HB1:=hd_ hbx
   have HBS:=hd_ hbel.size
   have HX:=hd_ (Chg.refl (fun _=>False) W).drew
   have HROW:=hd_ (show ∀ (k : Nat) (o : Obj),W.heap[k]? = some o → (k = w.heap.size + 1 ∨ A1.map (·.block) = some k) → o.isCells = true from fun k o hk hor=>by
    rcases hor with rfl | e
    ·rw [show W.heap[w.heap.size + 1]? = _ from hbx.1] at hk
     injection hk with hk
     subst hk
     rfl
    ·exact row_cells hbx.2.1 e hk)
   have HKB:=hd_ (fun W3 (hw : Chg (fun k=>k = w.heap.size + 1 ∨ A1.map (·.block) = some k) W W3)=>hb0.chg hw (by
    rintro (e | e)
    ·omega
    ·exact own_ne_blk hbx.2.1 hb0 (by decide) e))
   have HBEL:=hd_ (fun W3 (hw : Chg (fun k=>k = w.heap.size + 1 ∨ A1.map (·.block) = some k) W W3)=>chg_below (hw.mono (S':=fun k=>w.heap.size ≤ k) (fun k _ e=>by
    rcases e with e | e
    ·omega
    ·exact (hbx.2.1.lt k (by rw [own_block]; exact e)).1)) hbel.size)
   have HKEEP:=hd_ (fun W3 (hw : Chg (fun _=>False) W W3)=>(show W3.cell? ⟨w.heap.size,0,none⟩ = some (.pointer (some ⟨p,0,none⟩)) from by
    have h0:=(hb0.chg hw id).cell 0
    simpa using h0))
   have HKEEPB:=hd_ (fun W3 (hw : Chg (fun k=>k = w.heap.size + 1 ∨ A1.map (·.block) = some k) W W3)=>(show W3.cell? ⟨w.heap.size,0,none⟩ = some (.pointer (some ⟨p,0,none⟩)) from by
    have h0:=(HKB.out _ hw).cell 0
    simpa using h0))
   have s2:=HKEEP.out _ HX.out
   clear hbx hbel hsnW hBW hrB hv hv2 hbd hzB
   refine round_region (S:=(fun w'=>w'.cell? ⟨w.heap.size,0,none⟩ = some (.pointer (some ⟨p,0,none⟩)))) (by kernel_rfl) (by kernel_rfl) (fun ⟨_,_,h⟩=>(show False from (h : KeepsFrom _ _ _ ∧ Below _ _ _ ∧ False).2.2)) s2 (fun hHeld => ?_)
   iterate 3
    first
     | refine wpAnyH_take (i:=1) (v := ?_) rfl (by kernel_rfl) (by kernel_rfl) (by decide +kernel) (fun _ _ _ h=>h) (Or.inl ⟨by rfl, ?_⟩) (by assumption) ?_
     | refine wpAnyH_take (i:=2) (v := ?_) rfl (by kernel_rfl) (by kernel_rfl) (by decide +kernel) (fun _ _ _ h=>h) (Or.inl ⟨by rfl, ?_⟩) (by assumption) ?_
     | refine wpAnyH_take (i:=3) (v := ?_) rfl (by kernel_rfl) (by kernel_rfl) (by decide +kernel) (fun _ _ _ h=>h) (Or.inl ⟨by rfl, ?_⟩) (by assumption) ?_
    rotate_left
    ·intro w' hSw
     try dsimp only at hSw
     go_simp
     first | done | (with_reducible rfl)
    try simp only [List.getElem_toArray,List.getElem_cons_succ,List.getElem_cons_zero,Act.put,List.setIfInBounds_toArray,List.set_cons_zero,List.set_cons_succ]
   refine wpAnyH_ready (rs := [0,4]) (by kernel_rfl) (by simp) ?_
   refine AllReadyH.cons rfl (fun K hK => ?_) (AllReadyH.cons rfl (fun K hK => ?_) AllReadyH.nil)
   ·go_simp
    refine hK.out _ _ s2 (fun hHeld => ?_)
    clear hK K
    try simp only [List.getElem_toArray,List.getElem_cons_succ,List.getElem_cons_zero,Act.put,List.setIfInBounds_toArray,List.set_cons_zero,List.set_cons_succ]
    refine wpAnyH_ready (rs := [4]) (by kernel_rfl) (by simp) ?_
    refine AllReadyH.cons rfl (fun K hK => ?_) AllReadyH.nil
    go_simp
    refine (HLE.out _ HX.out).mono ?_
    rintro e w3 ⟨E,d3,rfl,hz3,hr3,hc3⟩
    have HX:=hd_ (HX.out.trans hc3 (fun _ _ e=>e))
    have HZ3:=hd_ hz3
    have HR3:=hd_ hr3
    clear hz3 hr3 hc3
    have s3:=HKEEP.out _ HX.out
    unfold ltC
    go_wp2_with fail
    refine hK.out _ _ s3 (fun hHeld => ?_)
    clear hK K
    try simp only [List.getElem_toArray,List.getElem_cons_succ,List.getElem_cons_zero,Act.put,List.setIfInBounds_toArray,List.set_cons_zero,List.set_cons_succ]
    have s3a:=HKEEP.out _ (HX.out.alloc (.cells #[int i64 mi,int i64 pe,int i64 go,int i64 (nx + (i.1 : Int)), .slice E bb.length d3] 85))
    refine wpAnyH_ready (rs := [5]) (by kernel_rfl) (by simp) ?_
    refine AllReadyH.cons rfl (fun K hK => ?_) AllReadyH.nil
    go_simp
    refine hK.out _ _ s3a (fun hHeld => ?_)
    clear hK K
    try simp only [List.getElem_toArray,List.getElem_cons_succ,List.getElem_cons_zero,Act.put,List.setIfInBounds_toArray,List.set_cons_zero,List.set_cons_succ]
    refine wpAnyH_ready (rs := [6]) (by kernel_rfl) (by simp) ?_
    refine AllReadyH.cons rfl (fun K hK => ?_) AllReadyH.nil
    refine step_app11 _ rfl (.tmp 15) (.tmp 20) 113 rfl w.heap.size 85 i0 _ 5 56 Tryz.underlying113 hi0 hz0 hz1 hz2 rfl (by decide) (.slice A1 n1 c1) n1 _ rfl ((own_chg HB1.out.2.1 HX.out (fun _ _=>id)).alloc _) ⟨w3.heap.size,0,none⟩ 1 1 [int i64 mi,int i64 pe,int i64 go,int i64 (nx + (i.1 : Int)), .slice E bb.length d3] rfl rfl (fun j u hu=>by rw [show (⟨w3.heap.size,0,none⟩ : Addr).add j = ⟨w3.heap.size,j,none⟩ from by unfold Addr.add; split <;> simp_all,(Blk.new w3 85 #[int i64 mi,int i64 pe,int i64 go,int i64 (nx + (i.1 : Int)), .slice E bb.length d3]).cell j]; simpa using hu) (by simp [Value.oneCell']) (by unfold maxLen; omega) (by omega) (by have:=HX.out.size; have:=HBS.out; simp; omega) ?_
    intro v5 w5 hown5 hg5 hat5
    obtain ⟨A5,c5,rfl,_,_⟩:=own_form hown5
    obtain ⟨hbox,hch,hc1,hf1⟩:=HB1.out.app HX.out ⟨mi,pe,go,(nx + (i.1 : Int)),bb⟩ HZ3.out rfl HR3.out HBS.out hown5 hg5 hat5
    have HBOX:=hd_ hbox
    have HCH:=hd_ hch
    have s5:=HKEEPB.out _ (((HX.out.alloc _).mono (fun _ _ h=>h.elim)).grown hg5 (fun k hk _ => .inr (by rw [own_block] at hk; exact hk)))
    have s6:=HKEEPB.out _ HCH.out
    clear hbox hch hown5 hg5 hat5
    refine hK.out _ _ s5 (fun hHeld => ?_)
    clear hK K
    try simp only [List.getElem_toArray,List.getElem_cons_succ,List.getElem_cons_zero,Act.put,List.setIfInBounds_toArray,List.set_cons_zero,List.set_cons_succ]
    refine wpAnyH_ready (rs := [7]) (by kernel_rfl) (by simp) ?_
    refine AllReadyH.cons rfl (fun K hK => ?_) AllReadyH.nil
    go_simp
    refine hK.out _ _ s6 (fun hHeld => ?_)
    clear hK K
    refine wpAnyH_done (by kernel_rfl) ?_ _
    have HBF:=hd_ (show Box11 _ _ _ A5 (n1 + 1) c5 _ ((pre ++ [i]).map f) from by rw [List.map_append,List.map_cons,List.map_nil,HFI.out]; exact HBOX.out)
    exact ⟨Chg.keepsFrom HCH.out _ HROW.out,HBEL.out _ HCH.out,by have:=HLN.out; simp; omega,HKB.out _ HCH.out,A5,n1 + 1,c5,_,HBF.out⟩
   ·go_simp
    refine (HLE.out _ HX.out).mono ?_
    rintro e w3 ⟨E,d3,rfl,hz3,hr3,hc3⟩
    have HX:=hd_ (HX.out.trans hc3 (fun _ _ e=>e))
    have HZ3:=hd_ hz3
    have HR3:=hd_ hr3
    clear hz3 hr3 hc3
    have s3:=HKEEP.out _ HX.out
    unfold ltC
    go_wp2_with fail
    refine hK.out _ _ s3 (fun hHeld => ?_)
    clear hK K
    try simp only [List.getElem_toArray,List.getElem_cons_succ,List.getElem_cons_zero,Act.put,List.setIfInBounds_toArray,List.set_cons_zero,List.set_cons_succ]
    have s3a:=HKEEP.out _ (HX.out.alloc (.cells #[int i64 mi,int i64 pe,int i64 go,int i64 (nx + (i.1 : Int)), .slice E bb.length d3] 85))
    have z3:=(box_cell (HB1.out.new HX.out)).1
    have z4:=(box_cell (HB1.out.new (HX.out.alloc (.cells #[int i64 mi,int i64 pe,int i64 go,int i64 (nx + (i.1 : Int)), .slice E bb.length d3] 85)))).1
    refine wpAnyH_ready (rs := [0,5]) (by kernel_rfl) (by simp) ?_
    refine AllReadyH.cons rfl (fun K hK => ?_) (AllReadyH.cons rfl (fun K hK => ?_) AllReadyH.nil)
    ·go_simp
     refine hK.out _ _ s3 (fun hHeld => ?_)
     clear hK K
     try simp only [List.getElem_toArray,List.getElem_cons_succ,List.getElem_cons_zero,Act.put,List.setIfInBounds_toArray,List.set_cons_zero,List.set_cons_succ]
     refine wpAnyH_ready (rs := [5]) (by kernel_rfl) (by simp) ?_
     refine AllReadyH.cons rfl (fun K hK => ?_) AllReadyH.nil
     go_simp
     refine hK.out _ _ s3a (fun hHeld => ?_)
     clear hK K
     try simp only [List.getElem_toArray,List.getElem_cons_succ,List.getElem_cons_zero,Act.put,List.setIfInBounds_toArray,List.set_cons_zero,List.set_cons_succ]
     refine wpAnyH_ready (rs := [6]) (by kernel_rfl) (by simp) ?_
     refine AllReadyH.cons rfl (fun K hK => ?_) AllReadyH.nil
     refine step_app11 _ rfl (.tmp 15) (.tmp 20) 113 rfl w.heap.size 85 i0 _ 5 56 Tryz.underlying113 hi0 hz0 hz1 hz2 rfl (by decide) (.slice A1 n1 c1) n1 _ rfl ((own_chg HB1.out.2.1 HX.out (fun _ _=>id)).alloc _) ⟨w3.heap.size,0,none⟩ 1 1 [int i64 mi,int i64 pe,int i64 go,int i64 (nx + (i.1 : Int)), .slice E bb.length d3] rfl rfl (fun j u hu=>by rw [show (⟨w3.heap.size,0,none⟩ : Addr).add j = ⟨w3.heap.size,j,none⟩ from by unfold Addr.add; split <;> simp_all,(Blk.new w3 85 #[int i64 mi,int i64 pe,int i64 go,int i64 (nx + (i.1 : Int)), .slice E bb.length d3]).cell j]; simpa using hu) (by simp [Value.oneCell']) (by unfold maxLen; omega) (by omega) (by have:=HX.out.size; have:=HBS.out; simp; omega) ?_
     intro v5 w5 hown5 hg5 hat5
     obtain ⟨A5,c5,rfl,_,_⟩:=own_form hown5
     obtain ⟨hbox,hch,hc1,hf1⟩:=HB1.out.app HX.out ⟨mi,pe,go,(nx + (i.1 : Int)),bb⟩ HZ3.out rfl HR3.out HBS.out hown5 hg5 hat5
     have HBOX:=hd_ hbox
     have HCH:=hd_ hch
     have s5:=HKEEPB.out _ (((HX.out.alloc _).mono (fun _ _ h=>h.elim)).grown hg5 (fun k hk _ => .inr (by rw [own_block] at hk; exact hk)))
     have s6:=HKEEPB.out _ HCH.out
     clear hbox hch hown5 hg5 hat5
     refine hK.out _ _ s5 (fun hHeld => ?_)
     clear hK K
     try simp only [List.getElem_toArray,List.getElem_cons_succ,List.getElem_cons_zero,Act.put,List.setIfInBounds_toArray,List.set_cons_zero,List.set_cons_succ]
     refine wpAnyH_ready (rs := [7]) (by kernel_rfl) (by simp) ?_
     refine AllReadyH.cons rfl (fun K hK => ?_) AllReadyH.nil
     go_simp
     refine hK.out _ _ s6 (fun hHeld => ?_)
     clear hK K
     refine wpAnyH_done (by kernel_rfl) ?_ _
     have HBF:=hd_ (show Box11 _ _ _ A5 (n1 + 1) c5 _ ((pre ++ [i]).map f) from by rw [List.map_append,List.map_cons,List.map_nil,HFI.out]; exact HBOX.out)
     exact ⟨Chg.keepsFrom HCH.out _ HROW.out,HBEL.out _ HCH.out,by have:=HLN.out; simp; omega,HKB.out _ HCH.out,A5,n1 + 1,c5,_,HBF.out⟩
    ·go_simp
     refine hK.out _ _ s3a (fun hHeld => ?_)
     clear hK K
     try simp only [List.getElem_toArray,List.getElem_cons_succ,List.getElem_cons_zero,Act.put,List.setIfInBounds_toArray,List.set_cons_zero,List.set_cons_succ]
     refine wpAnyH_ready (rs := [0]) (by kernel_rfl) (by simp) ?_
     refine AllReadyH.cons rfl (fun K hK => ?_) AllReadyH.nil
     go_simp
     refine hK.out _ _ s3a (fun hHeld => ?_)
     clear hK K
     try simp only [List.getElem_toArray,List.getElem_cons_succ,List.getElem_cons_zero,Act.put,List.setIfInBounds_toArray,List.set_cons_zero,List.set_cons_succ]
     refine wpAnyH_ready (rs := [6]) (by kernel_rfl) (by simp) ?_
     refine AllReadyH.cons rfl (fun K hK => ?_) AllReadyH.nil
     refine step_app11 _ rfl (.tmp 15) (.tmp 20) 113 rfl w.heap.size 85 i0 _ 5 56 Tryz.underlying113 hi0 hz0 hz1 hz2 rfl (by decide) (.slice A1 n1 c1) n1 _ rfl ((own_chg HB1.out.2.1 HX.out (fun _ _=>id)).alloc _) ⟨w3.heap.size,0,none⟩ 1 1 [int i64 mi,int i64 pe,int i64 go,int i64 (nx + (i.1 : Int)), .slice E bb.length d3] rfl rfl (fun j u hu=>by rw [show (⟨w3.heap.size,0,none⟩ : Addr).add j = ⟨w3.heap.size,j,none⟩ from by unfold Addr.add; split <;> simp_all,(Blk.new w3 85 #[int i64 mi,int i64 pe,int i64 go,int i64 (nx + (i.1 : Int)), .slice E bb.length d3]).cell j]; simpa using hu) (by simp [Value.oneCell']) (by unfold maxLen; omega) (by omega) (by have:=HX.out.size; have:=HBS.out; simp; omega) ?_
     intro v5 w5 hown5 hg5 hat5
     obtain ⟨A5,c5,rfl,_,_⟩:=own_form hown5
     obtain ⟨hbox,hch,hc1,hf1⟩:=HB1.out.app HX.out ⟨mi,pe,go,(nx + (i.1 : Int)),bb⟩ HZ3.out rfl HR3.out HBS.out hown5 hg5 hat5
     have HBOX:=hd_ hbox
     have HCH:=hd_ hch
     have s5:=HKEEPB.out _ (((HX.out.alloc _).mono (fun _ _ h=>h.elim)).grown hg5 (fun k hk _ => .inr (by rw [own_block] at hk; exact hk)))
     have s6:=HKEEPB.out _ HCH.out
     clear hbox hch hown5 hg5 hat5
     refine hK.out _ _ s5 (fun hHeld => ?_)
     clear hK K
     try simp only [List.getElem_toArray,List.getElem_cons_succ,List.getElem_cons_zero,Act.put,List.setIfInBounds_toArray,List.set_cons_zero,List.set_cons_succ]
     refine wpAnyH_ready (rs := [7]) (by kernel_rfl) (by simp) ?_
     refine AllReadyH.cons rfl (fun K hK => ?_) AllReadyH.nil
     go_simp
     refine hK.out _ _ s6 (fun hHeld => ?_)
     clear hK K
     refine wpAnyH_done (by kernel_rfl) ?_ _
     have HBF:=hd_ (show Box11 _ _ _ A5 (n1 + 1) c5 _ ((pre ++ [i]).map f) from by rw [List.map_append,List.map_cons,List.map_nil,HFI.out]; exact HBOX.out)
     exact ⟨Chg.keepsFrom HCH.out _ HROW.out,HBEL.out _ HCH.out,by have:=HLN.out; simp; omega,HKB.out _ HCH.out,A5,n1 + 1,c5,_,HBF.out⟩
 case done =>
  rintro D W hD hBW ⟨h8,hb0,A1,n1,c1,ys,hbx⟩ hK
  have hln : n1 = m:=by have:=hbx.2.2.2; simpa using this
  have hm8 : m ≤ 8:=by simpa using h8
  have HD:=hd_ (show w.heap.size ≤ D from Nat.le_trans HSZ2.out hD)
  have HBW:=hd_ (HB2.out.trans hBW)
  have HKD:=hd_ hK
  obtain ⟨hc1,hf1⟩:=box_cell hbx
  have hc0:=hb0.cell 0
  simp only [List.getElem?_toArray,List.getElem?_cons_zero] at hc0
  by_cases hn0 : n1 = 0
  ·have HOE:=hd_ (outS_nil (x:=⟨mi,pe,nx,go,q⟩) (by have:=HM.out; change q.length = 0; omega))
   have t0 : ((n1 : Int) == 0) = true:=by simp [hn0]
   have HLN:=hd_ (And.intro hn0 hln)
   have HB1:=hd_ hbx
   have HBS:=hd_ HBW.out.size
   have HSW:=hd_ (HSN.out.below HBW.out)
   have hn8 : n1 < 8:=by omega
   clear hD hBW hK h8 hln hn0
   gi_wp2
   refine wpIn_wide.2 ?_
   have HLE:=hd_ (fun W3 (hw : Chg (fun _=>False) W W3)=>letter_any p o _ ⟨mi,pe,nx,go,q⟩ 0 none 0 0 [] (fun _=>False) W3 (HSW.out.new hw) rfl (Rds.nil _ _ _) (fun _=>rfl) (by decide))
   have HX:=hd_ (Chg.refl (fun _=>False) W).drew
   have HROW:=hd_ (rows_cells hbx)
   have HBEL:=hd_ (fun W3 hw=>box_below hbx HBS.out W3 hw)
   have HKEEP:=hd_ (fun W3 (hw : Chg (fun _=>False) W W3)=>(show W3.cell? ⟨w.heap.size,0,none⟩ = some (.pointer (some ⟨p,0,none⟩)) from by
    have h0:=(hb0.chg hw id).cell 0
    simpa using h0))
   have HKEEPB:=hd_ (fun W3 (hw : Chg (fun k=>k = w.heap.size + 1 ∨ A1.map (·.block) = some k) W W3)=>(show W3.cell? ⟨w.heap.size,0,none⟩ = some (.pointer (some ⟨p,0,none⟩)) from by
    have h0:=(box_other hbx hb0 W3 hw).cell 0
    simpa using h0))
   have s2:=HKEEP.out _ HX.out
   clear hbx hb0 t0
   refine wp_region_noPanic ?_
   refine wp_region_held_drew (S:=(fun w'=>w'.cell? ⟨w.heap.size,0,none⟩ = some (.pointer (some ⟨p,0,none⟩)))) (by kernel_rfl) s2 (fun hHeld => ?_)
   refine wpAnyH_take (i:=1) (v := ?_) rfl (by kernel_rfl) (by kernel_rfl) (by kernel_rfl) (fun _ _ _ h=>h) (Or.inl ⟨by rfl, ?_⟩) (by assumption) ?_
   rotate_left
   ·intro w' hSw
    try dsimp only at hSw
    go_simp
    first | done | (with_reducible rfl)
   try simp only [List.getElem_toArray,List.getElem_cons_succ,List.getElem_cons_zero,Act.put,List.setIfInBounds_toArray,List.set_cons_zero,List.set_cons_succ]
   refine wpAnyH_ready (rs := [0,2]) (by kernel_rfl) (by simp) ?_
   refine AllReadyH.cons rfl (fun K hK => ?_) (AllReadyH.cons rfl (fun K hK => ?_) AllReadyH.nil)
   ·go_simp
    refine hK.out _ _ s2 (fun hHeld => ?_)
    clear hK K
    try simp only [List.getElem_toArray,List.getElem_cons_succ,List.getElem_cons_zero,Act.put,List.setIfInBounds_toArray,List.set_cons_zero,List.set_cons_succ]
    refine wpAnyH_ready (rs := [2]) (by kernel_rfl) (by simp) ?_
    refine AllReadyH.cons rfl (fun K hK => ?_) AllReadyH.nil
    go_simp
    refine (HLE.out _ HX.out).mono ?_
    rintro e w3 ⟨E,d3,rfl,hz3,hr3,hc3⟩
    have HX:=hd_ (HX.out.trans hc3 (fun _ _ e=>e))
    have HZ3:=hd_ hz3
    have HR3:=hd_ hr3
    clear hz3 hr3 hc3
    have s3:=HKEEP.out _ HX.out
    unfold ltC
    go_wp2_with fail
    refine hK.out _ _ s3 (fun hHeld => ?_)
    clear hK K
    try simp only [List.getElem_toArray,List.getElem_cons_succ,List.getElem_cons_zero,Act.put,List.setIfInBounds_toArray,List.set_cons_zero,List.set_cons_succ]
    have s3a:=HKEEP.out _ (HX.out.alloc (.cells #[int i64 mi,int i64 pe,int i64 go,int i64 0, .slice E 0 d3] 85))
    refine wpAnyH_ready (rs := [3]) (by kernel_rfl) (by simp) ?_
    refine AllReadyH.cons rfl (fun K hK => ?_) AllReadyH.nil
    go_simp
    refine hK.out _ _ s3a (fun hHeld => ?_)
    clear hK K
    try simp only [List.getElem_toArray,List.getElem_cons_succ,List.getElem_cons_zero,Act.put,List.setIfInBounds_toArray,List.set_cons_zero,List.set_cons_succ]
    refine wpAnyH_ready (rs := [4]) (by kernel_rfl) (by simp) ?_
    refine AllReadyH.cons rfl (fun K hK => ?_) AllReadyH.nil
    refine step_app11 _ rfl (.tmp 25) (.tmp 28) 113 rfl w.heap.size 85 i0 _ 5 56 Tryz.underlying113 hi0 hz0 hz1 hz2 rfl (by decide) (.slice A1 n1 c1) n1 _ rfl ((own_chg HB1.out.2.1 HX.out (fun _ _=>id)).alloc _) ⟨w3.heap.size,0,none⟩ 1 1 [int i64 mi,int i64 pe,int i64 go,int i64 0, .slice E 0 d3] rfl rfl (fun j u hu=>by rw [show (⟨w3.heap.size,0,none⟩ : Addr).add j = ⟨w3.heap.size,j,none⟩ from by unfold Addr.add; split <;> simp_all,(Blk.new w3 85 #[int i64 mi,int i64 pe,int i64 go,int i64 0, .slice E 0 d3]).cell j]; simpa using hu) (by simp [Value.oneCell']) (by unfold maxLen; omega) (by omega) (by have:=HX.out.size; have:=HBS.out; simp; omega) ?_
    intro v5 w5 hown5 hg5 hat5
    obtain ⟨A5,c5,rfl,_,_⟩:=own_form hown5
    obtain ⟨hbox,hch,hc1,hf1⟩:=HB1.out.app HX.out ⟨mi,pe,go,0, []⟩ HZ3.out rfl HR3.out HBS.out hown5 hg5 hat5
    have HBOX:=hd_ hbox
    have HCH:=hd_ hch
    have s5:=HKEEPB.out _ (((HX.out.alloc _).mono (fun _ _ h=>h.elim)).grown hg5 (fun k hk _ => .inr (by rw [own_block] at hk; exact hk)))
    have s6:=HKEEPB.out _ HCH.out
    clear hbox hch hown5 hg5 hat5
    refine hK.out _ _ s5 (fun hHeld => ?_)
    clear hK K
    try simp only [List.getElem_toArray,List.getElem_cons_succ,List.getElem_cons_zero,Act.put,List.setIfInBounds_toArray,List.set_cons_zero,List.set_cons_succ]
    refine wpAnyH_ready (rs := [5]) (by kernel_rfl) (by simp) ?_
    refine AllReadyH.cons rfl (fun K hK => ?_) AllReadyH.nil
    go_simp
    refine hK.out _ _ s6 (fun hHeld => ?_)
    clear hK K
    refine wpAnyH_done (by kernel_rfl) ?_ _
    refine NoPanic.normal ?_
    have HKD:=hd_ ((Chg.keepsFrom HCH.out w.heap.size HROW.out).same D _ HD.out HKD.out rfl)
    clear hHeld s2 s3 s3a s5 s6
    try clear z3 z4
    gi_wp2
    refine ⟨by simp, .inl ⟨_,_,rfl,run_takeDeferred HKD.out, ?_⟩⟩
    refine ⟨_,results_tmp rfl _ _ _,out_end ?_ HKD.out HD.out (HBW.out.trans (HBEL.out _ HCH.out)) HBOX.out⟩
    rw [HOE.out,show (List.finRange m).map f = [] from List.eq_nil_of_length_eq_zero (by have:=HLN.out; simp; omega)]
    rfl
   ·go_simp
    refine (HLE.out _ HX.out).mono ?_
    rintro e w3 ⟨E,d3,rfl,hz3,hr3,hc3⟩
    have HX:=hd_ (HX.out.trans hc3 (fun _ _ e=>e))
    have HZ3:=hd_ hz3
    have HR3:=hd_ hr3
    clear hz3 hr3 hc3
    have s3:=HKEEP.out _ HX.out
    unfold ltC
    go_wp2_with fail
    refine hK.out _ _ s3 (fun hHeld => ?_)
    clear hK K
    try simp only [List.getElem_toArray,List.getElem_cons_succ,List.getElem_cons_zero,Act.put,List.setIfInBounds_toArray,List.set_cons_zero,List.set_cons_succ]
    have s3a:=HKEEP.out _ (HX.out.alloc (.cells #[int i64 mi,int i64 pe,int i64 go,int i64 0, .slice E 0 d3] 85))
    have z3:=(box_cell (HB1.out.new HX.out)).1
    have z4:=(box_cell (HB1.out.new (HX.out.alloc (.cells #[int i64 mi,int i64 pe,int i64 go,int i64 0, .slice E 0 d3] 85)))).1
    refine wpAnyH_ready (rs := [0,3]) (by kernel_rfl) (by simp) ?_
    refine AllReadyH.cons rfl (fun K hK => ?_) (AllReadyH.cons rfl (fun K hK => ?_) AllReadyH.nil)
    ·go_simp
     refine hK.out _ _ s3 (fun hHeld => ?_)
     clear hK K
     try simp only [List.getElem_toArray,List.getElem_cons_succ,List.getElem_cons_zero,Act.put,List.setIfInBounds_toArray,List.set_cons_zero,List.set_cons_succ]
     refine wpAnyH_ready (rs := [3]) (by kernel_rfl) (by simp) ?_
     refine AllReadyH.cons rfl (fun K hK => ?_) AllReadyH.nil
     go_simp
     refine hK.out _ _ s3a (fun hHeld => ?_)
     clear hK K
     try simp only [List.getElem_toArray,List.getElem_cons_succ,List.getElem_cons_zero,Act.put,List.setIfInBounds_toArray,List.set_cons_zero,List.set_cons_succ]
     refine wpAnyH_ready (rs := [4]) (by kernel_rfl) (by simp) ?_
     refine AllReadyH.cons rfl (fun K hK => ?_) AllReadyH.nil
     refine step_app11 _ rfl (.tmp 25) (.tmp 28) 113 rfl w.heap.size 85 i0 _ 5 56 Tryz.underlying113 hi0 hz0 hz1 hz2 rfl (by decide) (.slice A1 n1 c1) n1 _ rfl ((own_chg HB1.out.2.1 HX.out (fun _ _=>id)).alloc _) ⟨w3.heap.size,0,none⟩ 1 1 [int i64 mi,int i64 pe,int i64 go,int i64 0, .slice E 0 d3] rfl rfl (fun j u hu=>by rw [show (⟨w3.heap.size,0,none⟩ : Addr).add j = ⟨w3.heap.size,j,none⟩ from by unfold Addr.add; split <;> simp_all,(Blk.new w3 85 #[int i64 mi,int i64 pe,int i64 go,int i64 0, .slice E 0 d3]).cell j]; simpa using hu) (by simp [Value.oneCell']) (by unfold maxLen; omega) (by omega) (by have:=HX.out.size; have:=HBS.out; simp; omega) ?_
     intro v5 w5 hown5 hg5 hat5
     obtain ⟨A5,c5,rfl,_,_⟩:=own_form hown5
     obtain ⟨hbox,hch,hc1,hf1⟩:=HB1.out.app HX.out ⟨mi,pe,go,0, []⟩ HZ3.out rfl HR3.out HBS.out hown5 hg5 hat5
     have HBOX:=hd_ hbox
     have HCH:=hd_ hch
     have s5:=HKEEPB.out _ (((HX.out.alloc _).mono (fun _ _ h=>h.elim)).grown hg5 (fun k hk _ => .inr (by rw [own_block] at hk; exact hk)))
     have s6:=HKEEPB.out _ HCH.out
     clear hbox hch hown5 hg5 hat5
     refine hK.out _ _ s5 (fun hHeld => ?_)
     clear hK K
     try simp only [List.getElem_toArray,List.getElem_cons_succ,List.getElem_cons_zero,Act.put,List.setIfInBounds_toArray,List.set_cons_zero,List.set_cons_succ]
     refine wpAnyH_ready (rs := [5]) (by kernel_rfl) (by simp) ?_
     refine AllReadyH.cons rfl (fun K hK => ?_) AllReadyH.nil
     go_simp
     refine hK.out _ _ s6 (fun hHeld => ?_)
     clear hK K
     refine wpAnyH_done (by kernel_rfl) ?_ _
     refine NoPanic.normal ?_
     have HKD:=hd_ ((Chg.keepsFrom HCH.out w.heap.size HROW.out).same D _ HD.out HKD.out rfl)
     clear hHeld s2 s3 s3a s5 s6
     try clear z3 z4
     gi_wp2
     refine ⟨by simp, .inl ⟨_,_,rfl,run_takeDeferred HKD.out, ?_⟩⟩
     refine ⟨_,results_tmp rfl _ _ _,out_end ?_ HKD.out HD.out (HBW.out.trans (HBEL.out _ HCH.out)) HBOX.out⟩
     rw [HOE.out,show (List.finRange m).map f = [] from List.eq_nil_of_length_eq_zero (by have:=HLN.out; simp; omega)]
     rfl
    ·go_simp
     refine hK.out _ _ s3a (fun hHeld => ?_)
     clear hK K
     try simp only [List.getElem_toArray,List.getElem_cons_succ,List.getElem_cons_zero,Act.put,List.setIfInBounds_toArray,List.set_cons_zero,List.set_cons_succ]
     refine wpAnyH_ready (rs := [0]) (by kernel_rfl) (by simp) ?_
     refine AllReadyH.cons rfl (fun K hK => ?_) AllReadyH.nil
     go_simp
     refine hK.out _ _ s3a (fun hHeld => ?_)
     clear hK K
     try simp only [List.getElem_toArray,List.getElem_cons_succ,List.getElem_cons_zero,Act.put,List.setIfInBounds_toArray,List.set_cons_zero,List.set_cons_succ]
     refine wpAnyH_ready (rs := [4]) (by kernel_rfl) (by simp) ?_
     refine AllReadyH.cons rfl (fun K hK => ?_) AllReadyH.nil
     refine step_app11 _ rfl (.tmp 25) (.tmp 28) 113 rfl w.heap.size 85 i0 _ 5 56 Tryz.underlying113 hi0 hz0 hz1 hz2 rfl (by decide) (.slice A1 n1 c1) n1 _ rfl ((own_chg HB1.out.2.1 HX.out (fun _ _=>id)).alloc _) ⟨w3.heap.size,0,none⟩ 1 1 [int i64 mi,int i64 pe,int i64 go,int i64 0, .slice E 0 d3] rfl rfl (fun j u hu=>by rw [show (⟨w3.heap.size,0,none⟩ : Addr).add j = ⟨w3.heap.size,j,none⟩ from by unfold Addr.add; split <;> simp_all,(Blk.new w3 85 #[int i64 mi,int i64 pe,int i64 go,int i64 0, .slice E 0 d3]).cell j]; simpa using hu) (by simp [Value.oneCell']) (by unfold maxLen; omega) (by omega) (by have:=HX.out.size; have:=HBS.out; simp; omega) ?_
     intro v5 w5 hown5 hg5 hat5
     obtain ⟨A5,c5,rfl,_,_⟩:=own_form hown5
     obtain ⟨hbox,hch,hc1,hf1⟩:=HB1.out.app HX.out ⟨mi,pe,go,0, []⟩ HZ3.out rfl HR3.out HBS.out hown5 hg5 hat5
     have HBOX:=hd_ hbox
     have HCH:=hd_ hch
     have s5:=HKEEPB.out _ (((HX.out.alloc _).mono (fun _ _ h=>h.elim)).grown hg5 (fun k hk _ => .inr (by rw [own_block] at hk; exact hk)))
     have s6:=HKEEPB.out _ HCH.out
     clear hbox hch hown5 hg5 hat5
     refine hK.out _ _ s5 (fun hHeld => ?_)
     clear hK K
     try simp only [List.getElem_toArray,List.getElem_cons_succ,List.getElem_cons_zero,Act.put,List.setIfInBounds_toArray,List.set_cons_zero,List.set_cons_succ]
     refine wpAnyH_ready (rs := [5]) (by kernel_rfl) (by simp) ?_
     refine AllReadyH.cons rfl (fun K hK => ?_) AllReadyH.nil
     go_simp
     refine hK.out _ _ s6 (fun hHeld => ?_)
     clear hK K
     refine wpAnyH_done (by kernel_rfl) ?_ _
     refine NoPanic.normal ?_
     have HKD:=hd_ ((Chg.keepsFrom HCH.out w.heap.size HROW.out).same D _ HD.out HKD.out rfl)
     clear hHeld s2 s3 s3a s5 s6
     try clear z3 z4
     gi_wp2
     refine ⟨by simp, .inl ⟨_,_,rfl,run_takeDeferred HKD.out, ?_⟩⟩
     refine ⟨_,results_tmp rfl _ _ _,out_end ?_ HKD.out HD.out (HBW.out.trans (HBEL.out _ HCH.out)) HBOX.out⟩
     rw [HOE.out,show (List.finRange m).map f = [] from List.eq_nil_of_length_eq_zero (by have:=HLN.out; simp; omega)]
     rfl
  ·have HOE:=hd_ (outS_some (x:=⟨mi,pe,nx,go,q⟩) (m:=m) (by exact HM.out) (by omega))
   rw [show min m 8 = m from by omega] at HOE
   clear hBW hK h8
   have HLN:=hd_ hln
   clear hln
   gi_wp2
   refine ⟨by simp, .inl ⟨_,_,rfl,run_takeDeferred HKD.out, ?_⟩⟩
   refine ⟨_,results_tmp rfl _ _ _,out_end ?_ HKD.out HD.out HBW.out hbx⟩
   rw [HOE.out,HF.out]
   exact (finR_map m _).symm
 case stop =>
  rintro D cd pre W hD hBW hpre ⟨rfl,pre',i,rfl,h8,h88,hb0,A1,n1,c1,ys,hbx⟩ hK
  have hln : n1 = 8:=by have:=hbx.2.2.2; simp at this; omega
  have hpl:=hpre.length_le
  simp only [List.length_append,List.length_cons,List.length_nil,List.length_finRange] at hpl
  have hpe : pre' = (List.finRange m).take 8:=by
   have h1 : pre' <+: List.finRange m:=(List.prefix_append _ _).trans hpre
   rw [List.prefix_iff_eq_take] at h1
   rwa [h8] at h1
  have HOE:=hd_ (outS_some (x:=⟨mi,pe,nx,go,q⟩) (m:=m) (by exact HM.out) (by omega))
  rw [show min m 8 = 8 from by omega] at HOE
  have HD:=hd_ (show w.heap.size ≤ D from Nat.le_trans HSZ2.out hD)
  have HBW:=hd_ (HB2.out.trans hBW)
  have HKD:=hd_ hK
  have HPE:=hd_ hpe
  obtain ⟨hc1,hf1⟩:=box_cell hbx
  subst hln
  have hm9 : 9 ≤ m:=by omega
  clear hBW hK h8 h88 hpe hpl hpre
  gi_wp2
  refine ⟨by simp, .inl ⟨_,_,rfl,run_takeDeferred HKD.out, ?_⟩⟩
  refine ⟨_,results_tmp rfl _ _ _,out_end ?_ HKD.out HD.out HBW.out hbx⟩
  rw [HOE.out,HPE.out,HF.out,List.map_take,finR_map m (letS ⟨mi,pe,nx,go,q⟩), ← List.map_take,List.take_range]
  congr 2
  omega
theorem blk_setCells {t : TypeId} {g : Nat} : ∀ (vs : List Value) (o : Nat) (w : World) (cs : Array Value),Blk w g t cs → ∃ cs',Blk (w.setCells g o vs) g t cs' ∧ cs'.size = cs.size
 | [],_,_,cs,h=>⟨cs,h,rfl⟩
 | v :: r,o,w,cs,h=>by
  obtain ⟨cs',h1,h2⟩:=blk_setCells r (o + 1) _ _ (h.set o v)
  exact ⟨cs',h1,by rw [h2]; simp⟩
theorem chg_setCells {g : Nat} {a : World} {S : Nat → Prop} (hg : S g) : ∀ (vs : List Value) (o : Nat) (w : World),Chg S a w → Chg S a (w.setCells g o vs)
 | [],_,_,h=>h
 | v :: r,o,w,h=>chg_setCells hg r (o + 1) _ (h.put g o (fun _=>hg) v)
theorem own_moved {w w1 : World} {g m c k B : Nat} {cur : Array Value} {vs : List Value} {z : Value} (hb : Blk w g 31 cur) (hB : B ≤ g) (hc : cur.size = c) (hm : m ≤ c) (hmx : c ≤ maxLen) (hk : k ≤ m) (hv : cur.toList.take m = vs) (hvl : vs.length = m)
  (h1 : w1 = (w.setCells g 0 (vs.drop k)).setCells g (m - k) (List.replicate k z)) : w1.ownsRow B 31 1 (.slice (some ⟨g,0,none⟩) (m - k) c) (m - k) (vs.drop k):=by
 subst h1
 obtain ⟨cs1,hb1,hs1⟩:=blk_setCells (vs.drop k) 0 w cur hb
 obtain ⟨cs2,hb2,hs2⟩:=blk_setCells (List.replicate k z) (m - k) _ cs1 hb1
 refine ⟨by simp [hvl], .inr ⟨g,c,cs2,rfl,hB,hb2,by omega,hmx,by omega, ?_⟩⟩
 refine List.ext_getElem? (fun j => ?_)
 rw [Nat.mul_one,List.getElem?_take]
 by_cases hj : j < m - k
 ·rw [if_pos hj,Array.getElem?_toList, ← hb2.cell j,World.cell?_setCells_out g _ _ _ ⟨g,j,none⟩ (fun _ _ => .inl hj)]
  have hl : j < (vs.drop k).length:=by rw [List.length_drop]; omega
  have h:=World.cell?_setCells_in g (vs.drop k) 0 w (fun i hi=>by
   rw [List.length_drop] at hi
   rw [hb.cell,Array.getElem?_eq_getElem (by omega)]
   rfl) j hl
  rw [Nat.zero_add] at h
  rw [h,List.getElem?_eq_getElem hl]
 ·rw [if_neg hj,List.getElem?_eq_none (by rw [List.length_drop]; omega)]
theorem zeroSl11 (w : World) : (zeroValue 31).run Tryz.prog w = .ok (.slice none 0 0) w:=Tryz.zeroValue31 w
theorem delete_none (s : Option Addr) (m c : Nat) (w : World) (hm : m ≤ c) (hc : c ≤ maxLen) (hz : s = none → c = 0) : Calls Tryz.prog 86 #[.slice s m c,int i64 0,int i64 0] w fun e w'=>e = .returned (.slice s m c) ∧ w = w':=by
 unfold maxLen at hc
 go_enter Tryz.func86,Tryz.ntmps86
 go_wp2
 all_goals
  go_ret
  exact ⟨rfl,rfl⟩
theorem delete_some (g m c k B : Nat) (cur : Array Value) (vs : List Value) (w : World) (hb : Blk w g 31 cur) (hB : B ≤ g) (hc : cur.size = c) (hm : m ≤ c) (hmx : c ≤ maxLen) (hk : k ≤ m) (hk1 : 1 ≤ k) (hv : cur.toList.take m = vs) (hvl : vs.length = m) (h1c : ∀ u ∈ vs,u.oneCell' = true) : Calls Tryz.prog 86 #[.slice (some ⟨g,0,none⟩) m c,int i64 0,int i64 (k : Int)] w fun e w'=>e = .returned (.slice (some ⟨g,0,none⟩) (m - k) c) ∧ w'.ownsRow B 31 1 (.slice (some ⟨g,0,none⟩) (m - k) c) (m - k) (vs.drop k) ∧ Chg (fun j=>j = g) w w':=by
 obtain ⟨i0,hi0,hz0,hz1,hz2⟩:=info_parts infoSl11
 have hcm : c ≤ 9223372036854775807:=hmx
 obtain ⟨A,hA,hsrc⟩ : ∃ A : Addr,(if c = k then (some ⟨g,0,none⟩ : Option Addr) else some ⟨g,k,none⟩) = some A ∧ Hid (∀ t u,(vs.drop k)[t]? = some u → w.drew.cell? (A.add t) = some u):=by
  by_cases h : c = k
  ·refine ⟨⟨g,0,none⟩,by simp [h],fun t u hu => ?_⟩
   have h0 : (vs.drop k).length = 0:=by rw [List.length_drop]; omega
   rw [List.length_eq_zero_iff.1 h0] at hu
   simp at hu
  ·refine ⟨⟨g,k,none⟩,by simp [h],fun t u hu => ?_⟩
   have e : (⟨g,k,none⟩ : Addr).add t = ⟨g,k + t,none⟩:=by unfold Addr.add; split <;> simp_all
   rw [e]
   show w.cell? _ = _
   rw [hb.cell, ← hu,List.getElem?_drop, ← hv,List.getElem?_take,if_pos (by
    have:=(List.getElem?_eq_some_iff.1 hu).1
    rw [List.length_drop] at this
    omega),Array.getElem?_toList]
 have S1:=hd_ (show (vs.drop k).length = (m - k) * 1 from by rw [List.length_drop]; omega)
 have S2:=hd_ (show ∀ u ∈ vs.drop k,u.oneCell' = true from fun u hu=>h1c u (List.mem_of_mem_drop hu))
 have S3:=hd_ (show ∀ t,t < (vs.drop k).length → (w.drew.cell? ⟨g,0 + 0 * 1 + t,none⟩).isSome = true ∧ w.drew.frozen? ⟨g,0 + 0 * 1 + t,none⟩ = false from fun t ht=>by
  rw [List.length_drop] at ht
  refine ⟨?_,hb.frozen _⟩
  show (w.cell? _).isSome = true
  rw [hb.cell,Array.getElem?_eq_getElem (by omega)]
  rfl)
 obtain ⟨W1,hW1⟩ : ∃ W1,W1 = w.drew.setCells g 0 (vs.drop k):=⟨_,rfl⟩
 obtain ⟨cs1,hb1,hs1⟩:=blk_setCells (vs.drop k) 0 w.drew cur hb
 rw [← hW1] at hb1
 have hcl : ∀ ty,(Builtin.clear_ #[74] ty #[.slice (some ⟨g,m - k,none⟩) (m - (m - k)) (c - (m - k))]).run Tryz.prog W1 = .ok (.tuple #[]) (W1.setCells g (m - k) (List.replicate (m - (m - k)) (.slice none 0 0))) :=
  fun ty=>Lib.run_clear_slice W1 _ _ ty _ Tryz.underlying74 zeroSl11 rfl rfl g (m - k) _ _ (by omega) (fun t ht=>by rw [hb1.cell,Array.getElem?_eq_getElem (by omega)]; rfl) (fun t ht=>hb1.frozen _)
 have HOWN:=hd_ (fun z=>own_moved (w:=w.drew) (z:=z) (B:=B) hb hB hc hm hmx hk hv hvl rfl)
 have HW:=hd_ hW1
 have hkc : k ≤ c:=by omega
 have hmk : m - k < c:=by omega
 have hmk2 : m - k ≤ m:=by omega
 clear hb hv hvl h1c hb1 hs1 hW1 hc
 go_enter Tryz.func86,Tryz.ntmps86
 go_wp2_with fail
 go_region_law (refine step_append_room rfl (.tmp 22) (.tmp 25) 74 rfl 31 i0 1 Tryz.underlying74 hi0 hz1 g 0 0 c (by simp [Act.eval,Act.put]) A (m - k) (c - k) (vs.drop k) (by simp [Act.eval,Act.put]) S1.out hsrc.out S2.out (by omega) S3.out ?_; rw [show 0 + 0 * 1 = 0 from rfl, ← HW.out])
 go_wp2_with fail
 go_ret
 have e : m - (m - k) = k:=by omega
 rw [e]
 refine ⟨by simp, ?_, ?_⟩
 ·rw [HW.out]
  exact HOWN.out _
 ·rw [HW.out]
  exact chg_setCells (S:=fun j=>j = g) rfl _ _ _ (chg_setCells (S:=fun j=>j = g) rfl _ _ _ (Chg.refl _ w).drew)
def DelP (w : World) (A : Option Addr) (m c k : Nat) (vs : List Value) (e : Ending) (w' : World) : Prop :=
 e = .returned (.slice A (m - k) c) ∧ w'.ownsRow 0 31 1 (.slice A (m - k) c) (m - k) (vs.drop k) ∧ Chg (fun j=>A.map (·.block) = some j) w w'
theorem delete11 (A : Option Addr) (m c k : Nat) (vs : List Value) (w : World) (ho : w.ownsRow 0 31 1 (.slice A m c) m vs) (hk : k ≤ m) (h1c : ∀ u ∈ vs,u.oneCell' = true) : Calls Tryz.prog 86 #[.slice A m c,int i64 0,int i64 (k : Int)] w (DelP w A m c k vs):=by
 have hcap:=own_cap ho
 have hnil:=own_nil ho
 rcases Nat.eq_zero_or_pos k with h0 | h1
 ·subst h0
  refine (delete_none A m c w hcap.1 hcap.2 hnil).mono ?_
  rintro e w' ⟨rfl,rfl⟩
  exact ⟨rfl,ho,Chg.refl _ _⟩
 ·have hvl : vs.length = m:=by have:=ho.1; simpa using this
  rcases ho.2 with ⟨hv,hm⟩ | ⟨g,cap,cur,hv,_,hh,h2,h3,h4,h5⟩
  ·omega
  ·injection hv with hA hn hc
   subst hA
   subst hc
   rw [Nat.mul_one] at h4 h5
   refine (delete_some g m c k 0 cur vs w hh (Nat.zero_le _) h4 h2 h3 hk h1 h5 hvl h1c).mono ?_
   rintro e w' ⟨rfl,h6,h7⟩
   exact ⟨rfl,h6,h7.mono (fun j _ e=>by subst e; rfl)⟩
attribute [local go_sem] Oper.semAt_some
def ackK (nx ack : Int) (m : Nat) : Nat:=min m (ack + 1 - nx).toNat
def ackS (x : SV) (ack : Int) : SV := { x with q:=x.q.drop (ackK x.nx ack x.q.length),nx:=x.nx + (ackK x.nx ack x.q.length : Int) }
def AckP (p : Nat) (o : Option Nat) (G : Nat → Prop) (x : SV) (ack : Int) (w : World) (e : Ending) (w' : World) : Prop :=
 e = .returned (.tuple #[]) ∧ SN w' p o G (ackS x ack) ∧ Chg (fun k=>k = p ∨ o = some k) w w'
def IA11 (w : World) (m : Nat) (nx ack : Int) (pre : List (Fin m)) (W : World) : Prop :=
 (∀ i ∈ pre,nx + (i.1 : Int) ≤ ack) ∧ Blk W w.heap.size 3 #[int i64 ack] ∧ Blk W (w.heap.size + 1) 3 #[int i64 (pre.length : Int)]
def IAX11 (w : World) (m : Nat) (nx ack : Int) (cd : Code) (pre : List (Fin m)) (W : World) : Prop :=
 cd = .exit 0 ∧ ∃ pre' i,pre = pre' ++ [i] ∧ ack < nx + (i.1 : Int) ∧ IA11 w m nx ack pre' W
theorem ia11_abd {w : World} {m : Nat} {nx ack : Int} {pre : List (Fin m)} {W W' : World} (h : IA11 w m nx ack pre W) (ha : Abd W W') : IA11 w m nx ack pre W':=⟨h.1,h.2.1.abd ha,h.2.2.abd ha⟩
theorem iax11_abd {w : World} {m : Nat} {nx ack : Int} {cd : Code} {pre : List (Fin m)} {W W' : World} (h : IAX11 w m nx ack cd pre W) (ha : Abd W W') : IAX11 w m nx ack cd pre W':=by
 obtain ⟨h1,pre',i,h2,h3,h4⟩:=h
 exact ⟨h1,pre',i,h2,h3,ia11_abd h4 ha⟩
theorem ack_all {m : Nat} {nx ack : Int} (h : ∀ i ∈ List.finRange m,nx + (i.1 : Int) ≤ ack) : ackK nx ack m = m:=by
 unfold ackK
 rcases Nat.eq_zero_or_pos m with h0 | h0
 ·subst h0; simp
 ·have:=h ⟨m - 1,by omega⟩ (by simp)
  simp only at this
  omega
theorem ack_some {m : Nat} {nx ack : Int} {pre : List (Fin m)} {i : Fin m} (hp : pre ++ [i] <+: List.finRange m) (h : ∀ j ∈ pre,nx + (j.1 : Int) ≤ ack) (hi : ack < nx + (i.1 : Int)) : ackK nx ack m = pre.length:=by
 have hl:=hp.length_le
 simp only [List.length_append,List.length_cons,List.length_nil,List.length_finRange] at hl
 have hat : ∀ (j : Nat) (hj : j < pre.length + 1),(pre ++ [i])[j]'(by simpa using hj) = ⟨j,by omega⟩:=fun j hj=>by
  have h1:=hp.getElem (i:=j) (by simpa using hj)
  rw [h1]
  simp
 have h1 : i.1 = pre.length:=by
  have h2:=hat pre.length (by omega)
  simp at h2
  rw [h2]
 unfold ackK
 rcases Nat.eq_zero_or_pos pre.length with h0 | h0
 ·omega
 ·have h2:=hat (pre.length - 1) (by omega)
  rw [List.getElem_append_left (by omega)] at h2
  have h3:=h _ (List.getElem_mem (l:=pre) (n:=pre.length - 1) (by omega))
  rw [h2] at h3
  simp only at h3
  omega
theorem bq_one {w : World} {S : Nat → Prop} {vs : List Value} {ls : List (List UInt8)} (h : BQ w S vs ls) : ∀ u ∈ vs,u.oneCell' = true:=fun u hu=>by
 obtain ⟨i,hi,rfl⟩:=List.getElem_of_mem hu
 have h1:=h.1
 obtain ⟨A,c,h2,_⟩:=h.2 i ls[i] (List.getElem?_eq_getElem (by omega))
 rw [List.getElem?_eq_getElem hi] at h2
 injection h2 with h2
 rw [h2]
 rfl
theorem ack_cells {W : World} {p : Nat} {o : Option Nat} {T : TypeId} {cs : Array Value} (hp : Blk W p T cs) (ho : ∀ (k : Nat) (o' : Obj),o = some k → W.heap[k]? = some o' → o'.isCells = true) {k : Nat} {o' : Obj} (hk : W.heap[k]? = some o') (e : k = p ∨ o = some k) : o'.isCells = true:=by
 rcases e with rfl | e
 ·rw [show W.heap[k]? = _ from hp] at hk
  injection hk with hk
  subst hk
  rfl
 ·exact ho k o' e hk
theorem BQ.abd {w w' : World} {S : Nat → Prop} {vs : List Value} {ls : List (List UInt8)} (h : BQ w S vs ls) (ha : Abd w w') : BQ w' S vs ls :=
 ⟨h.1,fun i l hl=>by obtain ⟨A,c,h1,h0,h2⟩:=h.2 i l hl; exact ⟨A,c,h1,h0,h2.abd ha⟩⟩
theorem SN.abd {w w' : World} {p : Nat} {o : Option Nat} {G : Nat → Prop} {x : SV} (h : SN w p o G x) (ha : Abd w w') : SN w' p o G x:=by
 obtain ⟨A,c,vs,hb,hown,h1,h2,h3,h4,h5⟩:=h
 exact ⟨A,c,vs,hb.abd ha,own_abd hown ha,h1,h2,h3.abd ha,h4,h5⟩
theorem SN.drew {w : World} {p : Nat} {o : Option Nat} {G : Nat → Prop} {x : SV} (h : SN w p o G x) : SN w.drew p o G x:=h
theorem sack_any (p : Nat) (o : Option Nat) (G : Nat → Prop) (x : SV) (ack : Int) (w : World) (h : SN w p o G x) (hok : SOk x) : Calls Tryz.prog 54 #[.pointer (some ⟨p, 0, none⟩), .int .i64 ack] w (AckP p o G x ack w) := by
  have HSN := Lib.hid h
  have HOK := Lib.hid hok
  have hgp : ¬ G p := by obtain ⟨_, _, _, _, _, _, _, _, h1, _⟩ := h; exact h1
  have hgo : ∀ k, o = some k → ¬ G k := by obtain ⟨_, _, _, _, _, _, _, _, _, h1⟩ := h; exact h1
  obtain ⟨A, c, vs, hb, hown, ho, hne, hbq, hG1, hG2⟩ := h.old
  have hplt := hb.lt
  have hcel := sn_cells hb
  have hrow := own_rds2 hown
  have hnx := hok.nx0
  have hq64 := hok.len
  generalize hm : x.q.length = m at *
  have HM := Lib.hid hm
  have HBQ := Lib.hid hbq
  obtain ⟨mi, pe, nx, go, q⟩ := x
  simp only at hcel hnx hm HM hq64
  obtain ⟨z0, z1, z2, z3, z4⟩ := hcel
  have hb0 : Blk ((w.alloc (.cells #[.int .i64 ack] 3)).alloc (.cells #[.int .i64 0] 3)) w.heap.size 3 #[.int .i64 ack] := (blk_new rfl).alloc _
  have hb1 : Blk ((w.alloc (.cells #[.int .i64 ack] 3)).alloc (.cells #[.int .i64 0] 3)) (w.heap.size + 1) 3 #[.int .i64 0] := blk_new (by simp)
  have hB2 : Below w.heap.size w ((w.alloc (.cells #[.int .i64 ack] 3)).alloc (.cells #[.int .i64 0] 3)) := ((Below.refl _ w).alloc (Nat.le_refl _) _).alloc (by simp) _
  have HIT := Lib.hid (fun W (hW : Below w.heap.size ((w.alloc (.cells #[.int .i64 ack] 3)).alloc (.cells #[.int .i64 0] 3)) W) => numbered_iter 2 p w.heap.size m c A nx vs W hq64 hnx hplt (((hB2.trans hW).cell (p := ⟨p, 2, none⟩) hplt).trans z2) (((hB2.trans hW).cell (p := ⟨p, 3, none⟩) hplt).trans z3) ((hrow.chg (below_chg (hB2.trans hW) (S := fun k => w.heap.size ≤ k) (fun _ h => h)) (fun k hk => by have := hk.2; omega)).mono (fun k hk => hk.2)))
  have HB0 := Lib.hid hb0
  have HB1 := Lib.hid hb1
  have HB2 := Lib.hid hB2
  have HSZ2 := Lib.hid (show w.heap.size ≤ ((w.alloc (.cells #[.int .i64 ack] 3)).alloc (.cells #[.int .i64 0] 3)).heap.size from by simp; omega)
  have HPLT := Lib.hid hplt
  clear hb hown hbq hrow hb0 hb1 hB2 z0 z1 z2 z3 z4 hm
  refine (callsIn_wide (n := 3)).1 ?_
  refine callsIn_of_wp_marks Tryz.func54 rfl trivial ?_ rfl
  simp only [Tryz.ntmps54, List.size_toArray, List.length_cons, List.length_nil, Nat.reduceAdd, Nat.reduceSub, Array.replicate_succ, Array.replicate_zero, List.push_toArray, List.append_toArray, List.nil_append, List.cons_append]
  gi_wp2
  refine loop11 (gf := 74) (first := #[.pointer (some ⟨p, 0, none⟩)]) rfl (enters_of Tryz.func74 (by kernel_rfl) rfl) (encs := fun i : Fin m => #[.int .i64 (nx + (i.1 : Int)), vs[i.1]?.getD undef]) (xs := List.finRange m) w.heap.size HSZ2.out HIT.out (fun _ => rfl)
    (IA11 w m nx ack) (IAX11 w m nx ack) (fun _ _ _ => ia11_abd) (fun _ _ _ _ => iax11_abd) ⟨by simp, HB0.out, HB1.out⟩ (fun i => { tmps := #[.pointer (some ⟨p, 0, none⟩), .int .i64 ack, undef, .pointer (some ⟨w.heap.size, 0, none⟩), .pointer (some ⟨w.heap.size + 1, 0, none⟩), .int .i64 (nx + (i.1 : Int)), .pointer (some ⟨p, 0, none⟩), .func (.func 74) #[.pointer (some ⟨p, 0, none⟩)] #[], .int .i64 (nx + (i.1 : Int)), vs[i.1]?.getD undef, undef, undef, undef, undef, undef, undef, undef, undef, undef, undef, undef, undef, undef, undef, undef, undef, undef, undef, undef, undef, undef, undef], defers := [] }) ?assign ?body ?done ?stop
  case assign =>
    intro l i W K hK
    gi_wp2
    exact hK
  case body =>
    rintro l pre i W hpl hBW ⟨hall, hb0, hb1⟩
    have hc0 := hb0.cell 0
    have hc1 := hb1.cell 0
    simp only [List.getElem?_toArray, List.getElem?_cons_zero] at hc0 hc1
    have hf1 := hb1.frozen 0
    have hlen : (pre.length : Int) ≤ 9223372036854775806 := by simp at hpl; omega
    by_cases hgt : ack < nx + (i.1 : Int)
    · gi_wp2
      exact ⟨KeepsFrom.refl _ _, Below.refl _ _, rfl, pre, i, rfl, hgt, hall, hb0, hb1⟩
    · have hw1 : IntKind.i64.wrap ((pre.length : Int) + 1) = (pre.length : Int) + 1 := IntWalk.i64_in _ (by omega)
      gi_wp2
      have hcs := (Chg.refl (fun k => k = w.heap.size + 1) W).put (w.heap.size + 1) 0 (fun _ => rfl) (.int .i64 ((pre.length : Int) + 1))
      refine ⟨hcs.keepsFrom _ (fun k o hk e => ?_), chg_below (hcs.mono (fun k _ e => by omega)) (Nat.le_trans (by simp; omega) hBW.size), ?_, hb0.chg hcs (by omega), ?_⟩
      · subst e
        rw [show W.heap[w.heap.size + 1]? = _ from hb1] at hk
        injection hk with hk
        subst hk
        rfl
      · intro j hj
        rcases List.mem_append.1 hj with hj | hj
        · exact hall j hj
        · rw [List.mem_singleton] at hj
          subst hj
          omega
      · have h := hb1.set 0 (.int .i64 ((pre.length : Int) + 1))
        simp only [List.length_append, List.length_cons, List.length_nil]
        exact h
  case done =>
    rintro D W hD hBW ⟨hall, hb0, hb1⟩ hK
    have hk := ack_all hall
    rw [List.length_finRange] at hb1
    obtain ⟨k, hkk⟩ : ∃ k : Nat, m = k := ⟨m, rfl⟩
    have hkm : k ≤ m := by omega
    rw [show (m : Int) = (k : Int) from by omega] at hb1
    have HK := Lib.hid (hk.trans hkk)
    clear hall hk hkk
    have HBW := Lib.hid (HB2.out.trans hBW)
    have HKD := Lib.hid hK
    have HD := Lib.hid (show w.heap.size ≤ D from Nat.le_trans HSZ2.out hD)
    obtain ⟨A2, c2, vs2, hbW, hownW, hoW, hneW, hbqW, -, -⟩ := HSN.out.below HBW.out
    rw [show (SV.mk mi pe nx go q).q.length = m from HM.out] at hbW hownW
    obtain ⟨y0, y1, y2, y3, y4⟩ := sn_cells hbW
    have hB1 := hb1
    have t1 := hb1.cell 0
    simp only [List.getElem?_toArray, List.getElem?_cons_zero] at t1
    have HOA := Lib.hid (show ∀ (k : Nat) (o' : Obj), o = some k → W.heap[k]? = some o' → o'.isCells = true from fun k o' e hk => row_cells hownW (by rw [hoW]; exact e) hk)
    have HB1 := Lib.hid hb1
    have HPB := Lib.hid hbW
    have HOW := Lib.hid (And.intro hoW hneW)
    have HBQW := Lib.hid hbqW
    have HDE := Lib.hid (delete11 A2 m c2 k vs2 W.drew hownW hkm (bq_one hbqW))
    have HWS := Lib.hid HBW.out.size
    have hop : ∀ j, A2.map (·.block) = some j → j < w.heap.size := fun j hj => by
      have h1 := HSN.out.lt.2 j (by rw [← hoW]; exact hj)
      exact h1
    have HOP := Lib.hid hop
    have hnk : nx + (k : Int) ≤ 2000000000000000 := by omega
    clear hb0 hb1 hBW hK hD hB1 hbW hownW hoW hneW hbqW hop
    gi_wp2
    refine wpIn_wide.2 ?_
    refine wp_region_noPanic ?_
    refine wp_region_held_drew (S := (fun w' => w'.cell? ⟨w.heap.size + 1, 0, none⟩ = some (.int .i64 (k : Int)))) (by kernel_rfl) t1 (fun hHeld => ?_)
    iterate 5
      first
        | refine wpAnyH_take (i := 0) (v := ?_) rfl (by kernel_rfl) (by kernel_rfl) (by decide +kernel) (fun _ _ _ h => h) (Or.inl ⟨by rfl, ?_⟩) (by assumption) ?_
        | refine wpAnyH_take (i := 1) (v := ?_) rfl (by kernel_rfl) (by kernel_rfl) (by decide +kernel) (fun _ _ _ h => h) (Or.inl ⟨by rfl, ?_⟩) (by assumption) ?_
        | refine wpAnyH_take (i := 2) (v := ?_) rfl (by kernel_rfl) (by kernel_rfl) (by decide +kernel) (fun _ _ _ h => h) (Or.inl ⟨by rfl, ?_⟩) (by assumption) ?_
        | refine wpAnyH_take (i := 3) (v := ?_) rfl (by kernel_rfl) (by kernel_rfl) (by decide +kernel) (fun _ _ _ h => h) (Or.inl ⟨by rfl, ?_⟩) (by assumption) ?_
        | refine wpAnyH_take (i := 5) (v := ?_) rfl (by kernel_rfl) (by kernel_rfl) (by decide +kernel) (fun _ _ _ h => h) (Or.inl ⟨by rfl, ?_⟩) (by assumption) ?_
      rotate_left
      · intro w' hSw
        try dsimp only at hSw
        go_simp
        first | done | (with_reducible rfl)
      try simp only [List.getElem_toArray, List.getElem_cons_succ, List.getElem_cons_zero, Act.put, List.setIfInBounds_toArray, List.set_cons_zero, List.set_cons_succ]
    refine wpAnyH_ready (rs := [4]) (by kernel_rfl) (by simp) ?_
    refine AllReadyH.cons rfl (fun K hK => ?_) AllReadyH.nil
    go_simp
    refine hK.out _ _ t1 (fun hHeld => ?_)
    clear hK K
    try simp only [List.getElem_toArray, List.getElem_cons_succ, List.getElem_cons_zero, Act.put, List.setIfInBounds_toArray, List.set_cons_zero, List.set_cons_succ]
    refine wpAnyH_ready (rs := [6]) (by kernel_rfl) (by simp) ?_
    refine AllReadyH.cons rfl (fun K hK => ?_) AllReadyH.nil
    go_simp
    refine HDE.out.mono ?_
    rintro e w3 ⟨rfl, hown3, hc3⟩
    have hb3 := HB1.out.drew.chg hc3 (fun e => by have := HOP.out _ e; omega)
    have t3 := hb3.cell 0
    simp only [List.getElem?_toArray, List.getElem?_cons_zero] at t3
    have hp3 := HPB.out.drew.chg hc3 (fun e => HOW.out.2 (by rw [← HOW.out.1]; exact e))
    have x2 := (sn_cells hp3).2.2.1
    have g2 := hp3.frozen 2
    have HB3 := Lib.hid hb3
    have HP3 := Lib.hid hp3
    have HO3 := Lib.hid hown3
    have HC3 := Lib.hid hc3
    clear hb3 hp3 hown3 hc3 HDE
    go_wp2_with fail
    refine hK.out _ _ t3 (fun hHeld => ?_)
    clear hK K
    try simp only [List.getElem_toArray, List.getElem_cons_succ, List.getElem_cons_zero, Act.put, List.setIfInBounds_toArray, List.set_cons_zero, List.set_cons_succ]
    have hb4 := HB3.out.chg ((Chg.refl (fun j => j = p) w3).put p 2 (fun _ => rfl) (.slice A2 (m - k) c2)) (by omega)
    have t4 := hb4.cell 0
    simp only [List.getElem?_toArray, List.getElem?_cons_zero] at t4
    have HB4 := Lib.hid hb4
    clear hb4
    iterate 2
      first
        | refine wpAnyH_take (i := 7) (v := ?_) rfl (by kernel_rfl) (by kernel_rfl) (by decide +kernel) (fun _ _ _ h => h) (Or.inl ⟨by rfl, ?_⟩) t3 ?_
        | refine wpAnyH_take (i := 8) (v := ?_) rfl (by kernel_rfl) (by kernel_rfl) (by decide +kernel) (fun _ _ _ h => h) (Or.inl ⟨by rfl, ?_⟩) t3 ?_
      rotate_left
      · intro w' hSw
        try dsimp only at hSw
        go_simp
        first | done | (with_reducible rfl)
      try simp only [List.getElem_toArray, List.getElem_cons_succ, List.getElem_cons_zero, Act.put, List.setIfInBounds_toArray, List.set_cons_zero, List.set_cons_succ]
    refine wpAnyH_ready (rs := [9]) (by kernel_rfl) (by simp) ?_
    refine AllReadyH.cons rfl (fun K hK => ?_) AllReadyH.nil
    go_simp
    refine hK.out _ _ t4 (fun hHeld => ?_)
    clear hK K
    try simp only [List.getElem_toArray, List.getElem_cons_succ, List.getElem_cons_zero, Act.put, List.setIfInBounds_toArray, List.set_cons_zero, List.set_cons_succ]
    refine wpAnyH_done (by kernel_rfl) ?_ _
    refine NoPanic.normal ?_
    have hp4 : Blk (w3.setCell ⟨p, 2, none⟩ (.slice A2 (m - k) c2)) p 104 (snC mi pe A2 (m - k) c2 nx go) := HP3.out.set 2 (.slice A2 (m - k) c2)
    have hcs := (Chg.refl (fun j => j = p) w3).put p 2 (fun _ => rfl) (.slice A2 (m - k) c2)
    have HP4 := Lib.hid hp4
    have HC4 := Lib.hid hcs
    clear hHeld t1 t3 t4 y0 y1 y2 y3 y4 x2 g2 hp4 hcs
    generalize w3.setCell ⟨p, 2, none⟩ (.slice A2 (m - k) c2) = w4 at *
    obtain ⟨y0, y1, y2, y3, y4⟩ := sn_cells HP4.out
    have g3 := HP4.out.frozen 3
    have t5 := HB4.out.cell 0
    simp only [List.getElem?_toArray, List.getElem?_cons_zero] at t5
    have hw1 : IntKind.i64.wrap (nx + (k : Int)) = nx + (k : Int) := IntWalk.i64_in _ (by omega)
    gi_wp2
    refine wpIn_wide.2 ?_
    go_region
    have hp5 : Blk (w4.setCell ⟨p, 3, none⟩ (.int .i64 (nx + (k : Int)))) p 104 (snC mi pe A2 (m - k) c2 (nx + (k : Int)) go) := HP4.out.set 3 (.int .i64 (nx + (k : Int)))
    have hcs := (Chg.refl (fun j => j = p) w4).put p 3 (fun _ => rfl) (.int .i64 (nx + (k : Int)))
    have HP5 := Lib.hid hp5
    have HC5 := Lib.hid hcs
    clear hp5 hcs y0 y1 y2 y3 y4 g3 t5
    generalize w4.setCell ⟨p, 3, none⟩ (.int .i64 (nx + (k : Int))) = w5 at *
    have HCA := Lib.hid (show Chg (fun j => j = p ∨ o = some j) W w5 from
      ((((Chg.refl _ W).drew.trans (HC3.out.mono (fun j _ e => .inr (by rw [← HOW.out.1]; exact e))) (fun _ _ e => e)).trans (HC4.out.mono (fun j _ e => .inl e)) (fun _ _ e => e)).trans (HC5.out.mono (fun j _ e => .inl e)) (fun _ _ e => e)))
    gi_wp2
    have hke := (KeepsFrom.trans (HCA.out.keepsFrom w.heap.size (fun k o hk e => ack_cells HPB.out HOA.out hk e)) (KeepsOthers.from (KeepsOthers.drew w5) w.heap.size)).same D _ HD.out HKD.out rfl
    refine ⟨by simp, .inl ⟨_, _, rfl, run_takeDeferred hke, ?_⟩⟩
    refine ⟨_, results_none rfl _ _ _, rfl, SN.abd ?_ (abd_put hke rfl), ?_⟩
    · have e1 : ackS ⟨mi, pe, nx, go, q⟩ ack = ⟨mi, pe, nx + (k : Int), go, q.drop k⟩ := by
        unfold ackS
        simp only [HM.out, HK.out]
      have e2 : (q.drop k).length = m - k := by rw [List.length_drop, HM.out]
      have hc35 : Chg (fun j => j = p) w3 w5.drew := (HC4.out.trans HC5.out (fun _ _ e => e)).drew
      rw [e1]
      refine ⟨A2, c2, vs2.drop k, ?_, ?_, HOW.out.1, HOW.out.2, ?_, hgp, hgo⟩
      · show Blk _ _ _ (snC mi pe A2 (q.drop k).length c2 (nx + (k : Int)) go)
        rw [e2]
        exact HP5.out
      · show World.ownsRow _ _ _ _ (.slice A2 (q.drop k).length c2) (q.drop k).length _
        rw [e2]
        exact own_chg HO3.out hc35 (fun j hj e => by subst e; exact HOW.out.2 (by rw [← HOW.out.1]; exact hj))
      · exact (((HBQW.out.drop k).chg HCA.out.drew (fun j hj e => by
          rcases e with e | e
          · subst e; exact hgp hj.1
          · exact hgo j e hj.1)).mono (fun j hj => hj.1))
    · have hb : Below w.heap.size w5.drew (w5.drew.putObj D (.deferred none)) := (Below.refl _ w5.drew).grown (grownBy_putObj' w5.drew D _) (Nat.le_trans HWS.out HCA.out.size) (fun k e => by cases e; exact HD.out)
      exact ((Chg.of_below HBW.out (Nat.le_refl _) _).trans HCA.out.drew (fun _ _ e => e)).trans (below_chg hb (S := fun j => w.heap.size ≤ j) (fun _ h => h)) (fun j hj e => by omega)
  case stop =>
    rintro D cd pre W hD hBW hpre ⟨rfl, pre', i, rfl, hgt, hall, hb0, hb1⟩ hK
    have hk := ack_some hpre hall hgt
    generalize pre'.length = k at *
    have hkm : k ≤ m := by unfold ackK at hk; omega
    have HK := Lib.hid hk
    clear hall hk hpre hgt
    have HBW := Lib.hid (HB2.out.trans hBW)
    have HKD := Lib.hid hK
    have HD := Lib.hid (show w.heap.size ≤ D from Nat.le_trans HSZ2.out hD)
    obtain ⟨A2, c2, vs2, hbW, hownW, hoW, hneW, hbqW, -, -⟩ := HSN.out.below HBW.out
    rw [show (SV.mk mi pe nx go q).q.length = m from HM.out] at hbW hownW
    obtain ⟨y0, y1, y2, y3, y4⟩ := sn_cells hbW
    have hB1 := hb1
    have t1 := hb1.cell 0
    simp only [List.getElem?_toArray, List.getElem?_cons_zero] at t1
    have HOA := Lib.hid (show ∀ (k : Nat) (o' : Obj), o = some k → W.heap[k]? = some o' → o'.isCells = true from fun k o' e hk => row_cells hownW (by rw [hoW]; exact e) hk)
    have HB1 := Lib.hid hb1
    have HPB := Lib.hid hbW
    have HOW := Lib.hid (And.intro hoW hneW)
    have HBQW := Lib.hid hbqW
    have HDE := Lib.hid (delete11 A2 m c2 k vs2 W.drew hownW hkm (bq_one hbqW))
    have HWS := Lib.hid HBW.out.size
    have hop : ∀ j, A2.map (·.block) = some j → j < w.heap.size := fun j hj => by
      have h1 := HSN.out.lt.2 j (by rw [← hoW]; exact hj)
      exact h1
    have HOP := Lib.hid hop
    have hnk : nx + (k : Int) ≤ 2000000000000000 := by omega
    clear hb0 hb1 hBW hK hD hB1 hbW hownW hoW hneW hbqW hop
    gi_wp2
    refine wpIn_wide.2 ?_
    refine wp_region_noPanic ?_
    refine wp_region_held_drew (S := (fun w' => w'.cell? ⟨w.heap.size + 1, 0, none⟩ = some (.int .i64 (k : Int)))) (by kernel_rfl) t1 (fun hHeld => ?_)
    iterate 5
      first
        | refine wpAnyH_take (i := 0) (v := ?_) rfl (by kernel_rfl) (by kernel_rfl) (by decide +kernel) (fun _ _ _ h => h) (Or.inl ⟨by rfl, ?_⟩) (by assumption) ?_
        | refine wpAnyH_take (i := 1) (v := ?_) rfl (by kernel_rfl) (by kernel_rfl) (by decide +kernel) (fun _ _ _ h => h) (Or.inl ⟨by rfl, ?_⟩) (by assumption) ?_
        | refine wpAnyH_take (i := 2) (v := ?_) rfl (by kernel_rfl) (by kernel_rfl) (by decide +kernel) (fun _ _ _ h => h) (Or.inl ⟨by rfl, ?_⟩) (by assumption) ?_
        | refine wpAnyH_take (i := 3) (v := ?_) rfl (by kernel_rfl) (by kernel_rfl) (by decide +kernel) (fun _ _ _ h => h) (Or.inl ⟨by rfl, ?_⟩) (by assumption) ?_
        | refine wpAnyH_take (i := 5) (v := ?_) rfl (by kernel_rfl) (by kernel_rfl) (by decide +kernel) (fun _ _ _ h => h) (Or.inl ⟨by rfl, ?_⟩) (by assumption) ?_
      rotate_left
      · intro w' hSw
        try dsimp only at hSw
        go_simp
        first | done | (with_reducible rfl)
      try simp only [List.getElem_toArray, List.getElem_cons_succ, List.getElem_cons_zero, Act.put, List.setIfInBounds_toArray, List.set_cons_zero, List.set_cons_succ]
    refine wpAnyH_ready (rs := [4]) (by kernel_rfl) (by simp) ?_
    refine AllReadyH.cons rfl (fun K hK => ?_) AllReadyH.nil
    go_simp
    refine hK.out _ _ t1 (fun hHeld => ?_)
    clear hK K
    try simp only [List.getElem_toArray, List.getElem_cons_succ, List.getElem_cons_zero, Act.put, List.setIfInBounds_toArray, List.set_cons_zero, List.set_cons_succ]
    refine wpAnyH_ready (rs := [6]) (by kernel_rfl) (by simp) ?_
    refine AllReadyH.cons rfl (fun K hK => ?_) AllReadyH.nil
    go_simp
    refine HDE.out.mono ?_
    rintro e w3 ⟨rfl, hown3, hc3⟩
    have hb3 := HB1.out.drew.chg hc3 (fun e => by have := HOP.out _ e; omega)
    have t3 := hb3.cell 0
    simp only [List.getElem?_toArray, List.getElem?_cons_zero] at t3
    have hp3 := HPB.out.drew.chg hc3 (fun e => HOW.out.2 (by rw [← HOW.out.1]; exact e))
    have x2 := (sn_cells hp3).2.2.1
    have g2 := hp3.frozen 2
    have HB3 := Lib.hid hb3
    have HP3 := Lib.hid hp3
    have HO3 := Lib.hid hown3
    have HC3 := Lib.hid hc3
    clear hb3 hp3 hown3 hc3 HDE
    go_wp2_with fail
    refine hK.out _ _ t3 (fun hHeld => ?_)
    clear hK K
    try simp only [List.getElem_toArray, List.getElem_cons_succ, List.getElem_cons_zero, Act.put, List.setIfInBounds_toArray, List.set_cons_zero, List.set_cons_succ]
    have hb4 := HB3.out.chg ((Chg.refl (fun j => j = p) w3).put p 2 (fun _ => rfl) (.slice A2 (m - k) c2)) (by omega)
    have t4 := hb4.cell 0
    simp only [List.getElem?_toArray, List.getElem?_cons_zero] at t4
    have HB4 := Lib.hid hb4
    clear hb4
    iterate 2
      first
        | refine wpAnyH_take (i := 7) (v := ?_) rfl (by kernel_rfl) (by kernel_rfl) (by decide +kernel) (fun _ _ _ h => h) (Or.inl ⟨by rfl, ?_⟩) t3 ?_
        | refine wpAnyH_take (i := 8) (v := ?_) rfl (by kernel_rfl) (by kernel_rfl) (by decide +kernel) (fun _ _ _ h => h) (Or.inl ⟨by rfl, ?_⟩) t3 ?_
      rotate_left
      · intro w' hSw
        try dsimp only at hSw
        go_simp
        first | done | (with_reducible rfl)
      try simp only [List.getElem_toArray, List.getElem_cons_succ, List.getElem_cons_zero, Act.put, List.setIfInBounds_toArray, List.set_cons_zero, List.set_cons_succ]
    refine wpAnyH_ready (rs := [9]) (by kernel_rfl) (by simp) ?_
    refine AllReadyH.cons rfl (fun K hK => ?_) AllReadyH.nil
    go_simp
    refine hK.out _ _ t4 (fun hHeld => ?_)
    clear hK K
    try simp only [List.getElem_toArray, List.getElem_cons_succ, List.getElem_cons_zero, Act.put, List.setIfInBounds_toArray, List.set_cons_zero, List.set_cons_succ]
    refine wpAnyH_done (by kernel_rfl) ?_ _
    refine NoPanic.normal ?_
    have hp4 : Blk (w3.setCell ⟨p, 2, none⟩ (.slice A2 (m - k) c2)) p 104 (snC mi pe A2 (m - k) c2 nx go) := HP3.out.set 2 (.slice A2 (m - k) c2)
    have hcs := (Chg.refl (fun j => j = p) w3).put p 2 (fun _ => rfl) (.slice A2 (m - k) c2)
    have HP4 := Lib.hid hp4
    have HC4 := Lib.hid hcs
    clear hHeld t1 t3 t4 y0 y1 y2 y3 y4 x2 g2 hp4 hcs
    generalize w3.setCell ⟨p, 2, none⟩ (.slice A2 (m - k) c2) = w4 at *
    obtain ⟨y0, y1, y2, y3, y4⟩ := sn_cells HP4.out
    have g3 := HP4.out.frozen 3
    have t5 := HB4.out.cell 0
    simp only [List.getElem?_toArray, List.getElem?_cons_zero] at t5
    have hw1 : IntKind.i64.wrap (nx + (k : Int)) = nx + (k : Int) := IntWalk.i64_in _ (by omega)
    gi_wp2
    refine wpIn_wide.2 ?_
    go_region
    have hp5 : Blk (w4.setCell ⟨p, 3, none⟩ (.int .i64 (nx + (k : Int)))) p 104 (snC mi pe A2 (m - k) c2 (nx + (k : Int)) go) := HP4.out.set 3 (.int .i64 (nx + (k : Int)))
    have hcs := (Chg.refl (fun j => j = p) w4).put p 3 (fun _ => rfl) (.int .i64 (nx + (k : Int)))
    have HP5 := Lib.hid hp5
    have HC5 := Lib.hid hcs
    clear hp5 hcs y0 y1 y2 y3 y4 g3 t5
    generalize w4.setCell ⟨p, 3, none⟩ (.int .i64 (nx + (k : Int))) = w5 at *
    have HCA := Lib.hid (show Chg (fun j => j = p ∨ o = some j) W w5 from
      ((((Chg.refl _ W).drew.trans (HC3.out.mono (fun j _ e => .inr (by rw [← HOW.out.1]; exact e))) (fun _ _ e => e)).trans (HC4.out.mono (fun j _ e => .inl e)) (fun _ _ e => e)).trans (HC5.out.mono (fun j _ e => .inl e)) (fun _ _ e => e)))
    gi_wp2
    have hke := (KeepsFrom.trans (HCA.out.keepsFrom w.heap.size (fun k o hk e => ack_cells HPB.out HOA.out hk e)) (KeepsOthers.from (KeepsOthers.drew w5) w.heap.size)).same D _ HD.out HKD.out rfl
    refine ⟨by simp, .inl ⟨_, _, rfl, run_takeDeferred hke, ?_⟩⟩
    refine ⟨_, results_none rfl _ _ _, rfl, SN.abd ?_ (abd_put hke rfl), ?_⟩
    · have e1 : ackS ⟨mi, pe, nx, go, q⟩ ack = ⟨mi, pe, nx + (k : Int), go, q.drop k⟩ := by
        unfold ackS
        simp only [HM.out, HK.out]
      have e2 : (q.drop k).length = m - k := by rw [List.length_drop, HM.out]
      have hc35 : Chg (fun j => j = p) w3 w5.drew := (HC4.out.trans HC5.out (fun _ _ e => e)).drew
      rw [e1]
      refine ⟨A2, c2, vs2.drop k, ?_, ?_, HOW.out.1, HOW.out.2, ?_, hgp, hgo⟩
      · show Blk _ _ _ (snC mi pe A2 (q.drop k).length c2 (nx + (k : Int)) go)
        rw [e2]
        exact HP5.out
      · show World.ownsRow _ _ _ _ (.slice A2 (q.drop k).length c2) (q.drop k).length _
        rw [e2]
        exact own_chg HO3.out hc35 (fun j hj e => by subst e; exact HOW.out.2 (by rw [← HOW.out.1]; exact hj))
      · exact (((HBQW.out.drop k).chg HCA.out.drew (fun j hj e => by
          rcases e with e | e
          · subst e; exact hgp hj.1
          · exact hgo j e hj.1)).mono (fun j hj => hj.1))
    · have hb : Below w.heap.size w5.drew (w5.drew.putObj D (.deferred none)) := (Below.refl _ w5.drew).grown (grownBy_putObj' w5.drew D _) (Nat.le_trans HWS.out HCA.out.size) (fun k e => by cases e; exact HD.out)
      exact ((Chg.of_below HBW.out (Nat.le_refl _) _).trans HCA.out.drew (fun _ _ e => e)).trans (below_chg hb (S := fun j => w.heap.size ≤ j) (fun _ h => h)) (fun j hj e => by omega)
def bodB (s : Int) (n : Nat) : Bool:=if s = 0 then decide (n = 0) else withinB 1 1000 [(n : Int)]
def ltR (m p a s : Int) (n : Nat) : Bool:=withinB 1 4294967296 [m] && (withinB 0 4294967296 [p] && (withinB 0 1099511627776 [a,s] && bodB s n))
theorem ltR_parts {m p a s : Int} {n : Nat} (h : ltR m p a s n = true) : (1 ≤ m ∧ m ≤ 4294967296) ∧ (0 ≤ p ∧ p ≤ 4294967296) ∧ (0 ≤ a ∧ a ≤ 1099511627776) ∧ (0 ≤ s ∧ s ≤ 1099511627776) ∧ n ≤ 1000 ∧ (s ≠ 0 → 1 ≤ n) ∧ (s = 0 → n = 0):=by
 unfold ltR withinB at h
 simp only [List.all_cons,List.all_nil,Bool.and_true,Bool.and_eq_true,decide_eq_true_eq] at h
 obtain ⟨h1,h2,⟨h3,h4⟩,h5⟩:=h
 refine ⟨h1,h2,h3,h4, ?_⟩
 unfold bodB withinB at h5
 by_cases hs : s = 0
 ·rw [if_pos hs] at h5
  simp only [decide_eq_true_eq] at h5
  omega
 ·rw [if_neg hs] at h5
  simp only [List.all_cons,List.all_nil,Bool.and_true,Bool.and_eq_true,decide_eq_true_eq] at h5
  omega
theorem ret_i11 {a b : Int} (h : a = b) : Ending.returned (int i64 a) = .returned (int i64 b):=by rw [h]
theorem right11_any (m p a s : Int) (A : Option Addr) (n c : Nat) (w : World) (hn : n ≤ 9223372036854775807) : Calls Tryz.prog 53 #[.agg (ltC m p a s A n c)] w fun e w'=>e = .returned (.bool (ltR m p a s n)) ∧ Chg (fun _=>False) w w':=by
 have hw1:=fun (W : World) (g : Nat) (hg : g = W.heap.size)=>(show Calls Tryz.prog 36 #[int i64 1,int i64 4294967296, .slice (some ⟨g,0,none⟩) 1 1] (W.alloc (.cells #[int i64 m] 3)) (fun e w'=>e = .returned (.bool (withinB 1 4294967296 [m])) ∧ W.alloc (.cells #[int i64 m] 3) = w') from within11 1 4294967296 [m] _ 1 1 _ _ rfl (rds_new1 W 3 #[int i64 m] (0,0) g hg _ 1 rfl rfl) (by decide))
 have hw2:=fun (W : World) (g : Nat) (hg : g = W.heap.size)=>(show Calls Tryz.prog 36 #[int i64 0,int i64 4294967296, .slice (some ⟨g,0,none⟩) 1 1] (W.alloc (.cells #[int i64 p] 3)) (fun e w'=>e = .returned (.bool (withinB 0 4294967296 [p])) ∧ W.alloc (.cells #[int i64 p] 3) = w') from within11 0 4294967296 [p] _ 1 1 _ _ rfl (rds_new1 W 3 #[int i64 p] (0,0) g hg _ 1 rfl rfl) (by decide))
 have hw3:=fun (W : World) (g : Nat) (hg : g = W.heap.size)=>(show Calls Tryz.prog 36 #[int i64 0,int i64 1099511627776, .slice (some ⟨g,0,none⟩) 2 2] (W.alloc (.cells #[int i64 a,int i64 s] 3)) (fun e w'=>e = .returned (.bool (withinB 0 1099511627776 [a,s])) ∧ W.alloc (.cells #[int i64 a,int i64 s] 3) = w') from within11 0 1099511627776 [a,s] _ 2 2 _ _ rfl (rds_new1 W 3 #[int i64 a,int i64 s] (0,0) g hg _ 2 rfl rfl) (by decide))
 have hs:=fun (W : World)=>sized11 A n c W hn
 have hr : ltR m p a s n = (withinB 1 4294967296 [m] && (withinB 0 4294967296 [p] && (withinB 0 1099511627776 [a,s] && bodB s n))):=rfl
 have hb5 : bodB s n = if s = 0 then decide (n = 0) else withinB 1 1000 [(n : Int)]:=rfl
 rw [hr]
 clear hr
 generalize withinB 1 4294967296 [m] = b1 at *
 generalize withinB 0 4294967296 [p] = b2 at *
 generalize withinB 0 1099511627776 [a,s] = b3 at *
 generalize withinB 1 1000 [(n : Int)] = b4 at *
 generalize bodB s n = b5 at *
 have HB5:=hd_ hb5
 clear hb5
 have HW1:=hd_ hw1
 have HW2:=hd_ hw2
 have HW3:=hd_ hw3
 have HS:=hd_ hs
 clear hw1 hw2 hw3 hs
 unfold ltC
 go_enter Tryz.func53,Tryz.ntmps53
 cases b1 with
 | false =>
  go_wp2_with fail
  refine (HW1.out _ _ (by simp)).mono ?_
  rintro e _ ⟨rfl,rfl⟩
  go_wp2_with fail
  go_ret
  exact ⟨rfl,(by repeat (first | exact Chg.refl _ _ | exact Chg.drew (Chg.refl _ _) | refine Chg.alloc ?_ _))⟩
 | true =>
  cases b2 with
  | false =>
   go_wp2_with fail
   refine (HW1.out _ _ (by simp)).mono ?_
   rintro e _ ⟨rfl,rfl⟩
   go_wp2_with fail
   refine (HW2.out _ _ (by simp)).mono ?_
   rintro e _ ⟨rfl,rfl⟩
   go_wp2_with fail
   go_ret
   exact ⟨rfl,(by repeat (first | exact Chg.refl _ _ | exact Chg.drew (Chg.refl _ _) | refine Chg.alloc ?_ _))⟩
  | true =>
   cases b3 with
   | false =>
    go_wp2_with fail
    refine (HW1.out _ _ (by simp)).mono ?_
    rintro e _ ⟨rfl,rfl⟩
    go_wp2_with fail
    refine (HW2.out _ _ (by simp)).mono ?_
    rintro e _ ⟨rfl,rfl⟩
    go_wp2_with fail
    refine (HW3.out _ _ (by simp)).mono ?_
    rintro e _ ⟨rfl,rfl⟩
    go_wp2_with fail
    go_ret
    exact ⟨rfl,(by repeat (first | exact Chg.refl _ _ | exact Chg.drew (Chg.refl _ _) | refine Chg.alloc ?_ _))⟩
   | true =>
    by_cases hs0 : s = 0
    ·have e1 : (s == 0) = true:=by simp [hs0]
     have HE:=hd_ (show b5 = ((n : Int) == 0) from by rw [HB5.out,if_pos hs0,Bool.eq_iff_iff]; simp)
     clear hs0
     go_wp2_with fail
     refine (HW1.out _ _ (by simp)).mono ?_
     rintro e _ ⟨rfl,rfl⟩
     go_wp2_with fail
     refine (HW2.out _ _ (by simp)).mono ?_
     rintro e _ ⟨rfl,rfl⟩
     go_wp2_with fail
     refine (HW3.out _ _ (by simp)).mono ?_
     rintro e _ ⟨rfl,rfl⟩
     go_wp2_with fail
     go_ret
     exact ⟨ret_b HE.out.symm,(by repeat (first | exact Chg.refl _ _ | exact Chg.drew (Chg.refl _ _) | refine Chg.alloc ?_ _))⟩
    ·have e1 : (s == 0) = false:=by simpa using hs0
     have HE:=hd_ (show b5 = b4 from by rw [HB5.out,if_neg hs0])
     clear hs0
     go_wp2_with fail
     refine (HW1.out _ _ (by simp)).mono ?_
     rintro e _ ⟨rfl,rfl⟩
     go_wp2_with fail
     refine (HW2.out _ _ (by simp)).mono ?_
     rintro e _ ⟨rfl,rfl⟩
     go_wp2_with fail
     refine (HW3.out _ _ (by simp)).mono ?_
     rintro e _ ⟨rfl,rfl⟩
     go_wp2_with fail
     refine (HS.out _).mono ?_
     rintro e w2 ⟨rfl,hc2⟩
     go_wp2_with fail
     go_ret
     refine ⟨ret_b HE.out.symm,Chg.trans ?_ hc2 (fun _ _ e=>e)⟩
     exact (by repeat (first | exact Chg.refl _ _ | exact Chg.drew (Chg.refl _ _) | refine Chg.alloc ?_ _))
def NewSP (mi : Int) (w : World) (e : Ending) (w' : World) : Prop :=
 if withinB 1 4294967296 [mi] = true then ∃ p,e = .returned (.tuple #[.pointer (some ⟨p,0,none⟩),int i64 0]) ∧ w.heap.size ≤ p ∧ Blk w' p 104 (snC mi 0 none 0 0 1 0) ∧ Chg (fun _=>False) w w'
 else e = .returned (.tuple #[.pointer none,int i64 1]) ∧ Chg (fun _=>False) w w'
theorem snew11_any (mi : Int) (w : World) : Calls Tryz.prog 16 #[int i64 mi] w (NewSP mi w):=by
 have hw1:=fun (W : World) (g : Nat) (hg : g = W.heap.size)=>(show Calls Tryz.prog 36 #[int i64 1,int i64 4294967296, .slice (some ⟨g,0,none⟩) 1 1] (W.alloc (.cells #[int i64 mi] 3)) (fun e w'=>e = .returned (.bool (withinB 1 4294967296 [mi])) ∧ W.alloc (.cells #[int i64 mi] 3) = w') from within11 1 4294967296 [mi] _ 1 1 _ _ rfl (rds_new1 W 3 #[int i64 mi] (0,0) g hg _ 1 rfl rfl) (by decide))
 unfold NewSP
 generalize withinB 1 4294967296 [mi] = b1 at *
 have HW1:=hd_ hw1
 clear hw1
 cases b1 with
 | false =>
  simp only [Bool.false_eq_true,if_false]
  go_enter Tryz.func16,Tryz.ntmps16
  go_wp2_with fail
  refine (HW1.out _ _ (by simp)).mono ?_
  rintro e _ ⟨rfl,rfl⟩
  go_wp2_with fail
  go_ret2
  exact ⟨rfl,(by repeat (first | exact Chg.refl _ _ | exact Chg.drew (Chg.refl _ _) | refine Chg.alloc ?_ _))⟩
 | true =>
  simp only [if_true]
  go_enter Tryz.func16,Tryz.ntmps16
  go_wp2_with fail
  refine (HW1.out _ _ (by simp)).mono ?_
  rintro e _ ⟨rfl,rfl⟩
  go_wp2_with fail
  go_ret2
  exact ⟨w.heap.size + 1,rfl,by omega,blk_new (by simp),(by repeat (first | exact Chg.refl _ _ | exact Chg.drew (Chg.refl _ _) | refine Chg.alloc ?_ _))⟩
def GN (G : Nat → Prop) (w : World) (o' : Option Nat) (k : Nat) : Prop:=(G k ∧ k < w.heap.size) ∨ (w.heap.size ≤ k ∧ o' ≠ some k)
def SM (p : Nat) (o : Option Nat) (G : Nat → Prop) (x : SV) (w w' : World) : Prop := ∃ o',SN w' p o' (GN G w o') x ∧ Mvd p o o' w w'
theorem GN.ok {G : Nat → Prop} {w w' : World} {p : Nat} {o o' : Option Nat} {x : SV} (h : SN w p o G x) (hm : Mvd p o o' w w') : ¬ GN G w o' p ∧ ∀ k,o' = some k → ¬ GN G w o' k:=by
 have hlt:=h.lt
 obtain ⟨A,c,vs,hb,hown,h1,h2,h3,h4,h5⟩:=h
 refine ⟨fun e => ?_,fun k hk e => ?_⟩
 ·rcases e with e | e
  ·exact h4 e.1
  ·omega
 ·rcases e with e | e
  ·rcases hm.2 with h | h | ⟨j,h,hj⟩
   ·exact h5 k (by rw [← h]; exact hk) e.1
   ·rw [h] at hk; cases hk
   ·rw [h] at hk
    injection hk with hk
    omega
  ·exact e.2 hk
theorem SN.sm {w w' : World} {p : Nat} {o : Option Nat} {G : Nat → Prop} {x y : SV} (h : SN w p o G x) (h2 : SN w' p o (fun k=>G k ∧ k < w.heap.size) y) (hc : Chg (fun k=>k = p ∨ o = some k) w w') : SM p o G y w w':=by
 have hm : Mvd p o o w w':=⟨hc, .inl rfl⟩
 obtain ⟨g1,g2⟩:=GN.ok h hm
 exact ⟨o,h2.mono (fun k hk _ => .inl hk) g1 g2,hm⟩
theorem SM.refl {w : World} {p : Nat} {o : Option Nat} {G : Nat → Prop} {x : SV} (h : SN w p o G x) : SM p o G x w w:=h.sm h.old (Chg.refl _ _)
theorem GN.pre {G : Nat → Prop} {w w1 w2 : World} {p : Nat} {o' : Option Nat} {x : SV} (hs : w.heap.size ≤ w1.heap.size) (hp : p < w.heap.size) (h : SN w2 p o' (GN G w1 o') x) : SN w2 p o' (GN G w o') x:=by
 have h6 : ¬ GN G w1 o' p:=by obtain ⟨_,_,_,_,_,_,_,_,h,_⟩:=h; exact h
 have h7 : ∀ k,o' = some k → ¬ GN G w1 o' k:=by obtain ⟨_,_,_,_,_,_,_,_,_,h⟩:=h; exact h
 refine h.mono (fun k hk _ => ?_) (fun e => ?_) (fun k hk e => ?_)
 ·rcases Nat.lt_or_ge k w.heap.size with hl | hl
  ·rcases hk with hk | hk
   ·exact .inl ⟨hk.1,hl⟩
   ·omega
  ·exact .inr ⟨hl,fun e=>h7 k e hk⟩
 ·rcases e with e | e
  ·exact h6 (.inl ⟨e.1,by omega⟩)
  ·omega
 ·rcases e with e | e
  ·exact h7 k hk (.inl ⟨e.1,by omega⟩)
  ·exact e.2 hk
theorem SM.pre {w w1 w2 : World} {p : Nat} {o : Option Nat} {G : Nat → Prop} {x : SV} (hc : Chg (fun _=>False) w w1) (h : SM p o G x w1 w2) (hp : p < w.heap.size) : SM p o G x w w2:=by
 obtain ⟨o',hs,hm⟩:=h
 exact ⟨o',GN.pre hc.size hp hs,Mvd.pre hc hm⟩
theorem SM.post {w w1 w2 : World} {p : Nat} {o : Option Nat} {G : Nat → Prop} {x : SV} (h : SM p o G x w w1) (hc : Chg (fun _=>False) w1 w2) : SM p o G x w w2:=by
 obtain ⟨o',hs,hm⟩:=h
 exact ⟨o',hs.new hc,Mvd.post hm hc⟩
def pushE (x : SV) (b : List UInt8) : Int:=if withinB 1 1000 [(b.length : Int)] = true then (if x.q.length = 64 then 3 else 0) else 1
def pushS (x : SV) (b : List UInt8) : SV:=if pushE x b = 0 then { x with q:=x.q ++ [b] } else x
theorem SN.push {w w3 w5 : World} {p : Nat} {G : Nat → Prop} {mi pe nx go : Int} {A A5 E : Option Addr} {n c c5 d : Nat} {q : List (List UInt8)} {vs : List Value} {b : List UInt8} (hb : Blk w p 104 (snC mi pe A n c nx go)) (hown : w.ownsRow 0 31 1 (.slice A n c) n vs) (hbq : BQ w (fun k => G k ∧ k < w.heap.size) vs q)
    (hne : A.map (·.block) ≠ some p) (hgp : ¬ G p) (hgo : ∀ k, A.map (·.block) = some k → ¬ G k) (hn : n = q.length) (hc : Chg (fun _ => False) w w3) (hz : E = none → d = 0) (hr : Rds w3 (fun k => w.heap.size ≤ k) E b.length (bcs b))
    (hown5 : w5.ownsRow 0 31 1 (.slice A5 (n + 1) c5) (n + 1) (vs ++ [.slice E b.length d])) (hg : (w3.alloc (.cells #[.slice E b.length d] 31)).grownBy w5 (Value.slice A n c).ownBlock)
    (hat : (Value.slice A5 (n + 1) c5).ownBlock = (Value.slice A n c).ownBlock ∨ (Value.slice A5 (n + 1) c5).ownBlock = some (w3.alloc (.cells #[.slice E b.length d] 31)).heap.size) :
    SM p (A.map (·.block)) G ⟨mi, pe, nx, go, q ++ [b]⟩ w (w5.setCell ⟨p, 2, none⟩ (.slice A5 (n + 1) c5)) ∧ Blk w5 p 104 (snC mi pe A n c nx go) := by
  subst hn
  rw [own_block, own_block] at hat
  rw [own_block] at hg
  have hplt := hb.lt
  have hs3 := hc.size
  have hb3 : Blk (w3.alloc (.cells #[.slice E b.length d] 31)) p _ _ := (hb.chg hc id).alloc _
  have hb5 := blk_grown hb3 hg hne
  have hc4 := hc.alloc (.cells #[.slice E b.length d] 31)
  have hc5 : Chg (fun k => k = p ∨ A.map (·.block) = some k) w w5 := (hc4.mono (fun _ _ h => h.elim)).grown hg (fun k hk _ => .inr hk)
  have hc6 : Chg (fun k => k = p ∨ A.map (·.block) = some k) w (w5.setCell ⟨p, 2, none⟩ (.slice A5 (q.length + 1) c5)) := hc5.put p 2 (fun _ => .inl rfl) _
  have hlt : ∀ k, A.map (·.block) = some k → k < w.heap.size := fun k hk => (hown.lt k (by rw [own_block]; exact hk)).2
  have hsz4 : (w3.alloc (.cells #[.slice E b.length d] 31)).heap.size = w3.heap.size + 1 := by simp
  have hne5 : A5.map (·.block) ≠ some p := by
    rcases hat with e | e
    · rw [e]; exact hne
    · rw [e, hsz4]
      intro e
      injection e with e
      omega
  have hm : Mvd p (A.map (·.block)) (A5.map (·.block)) w (w5.setCell ⟨p, 2, none⟩ (.slice A5 (q.length + 1) c5)) := ⟨hc6, by
    rcases hat with e | e
    · exact .inl e
    · exact .inr (.inr ⟨_, e, by omega⟩)⟩
  have hsn : SN w p (A.map (·.block)) (fun k => G k ∧ k < w.heap.size) ⟨mi, pe, nx, go, q⟩ := ⟨A, c, vs, hb, hown, rfl, hne, hbq, fun e => hgp e.1, fun k hk e => hgo k hk e.1⟩
  obtain ⟨g1, g2⟩ := GN.ok hsn hm
  have e1 : ∀ k, GN (fun k => G k ∧ k < w.heap.size) w (A5.map (·.block)) k ↔ GN G w (A5.map (·.block)) k := fun k => by
    unfold GN
    constructor
    · rintro (h | h)
      · exact .inl ⟨h.1.1, h.2⟩
      · exact .inr h
    · rintro (h | h)
      · exact .inl ⟨⟨h.1, h.2⟩, h.2⟩
      · exact .inr h
  refine ⟨⟨A5.map (·.block), ⟨A5, c5, vs ++ [.slice E b.length d], ?_, ?_, rfl, hne5, ?_, fun e => g1 ((e1 p).2 e), fun k hk e => g2 k hk ((e1 k).2 e)⟩, hm⟩, hb5⟩
  · have h := hb5.set 2 (.slice A5 (q.length + 1) c5)
    show Blk _ _ _ (snC mi pe A5 (q ++ [b]).length c5 nx go)
    rw [List.length_append]
    exact h
  · show World.ownsRow _ _ _ _ (.slice A5 (q ++ [b]).length c5) (q ++ [b]).length _
    rw [List.length_append]
    exact own_chg hown5 ((Chg.refl (fun k => k = p) w5).put p 2 (fun _ => rfl) _) (fun k hk e => by subst e; exact hne5 hk)
  · refine BQ.snoc ?_ rfl hz ?_
    · exact (hbq.chg hc6 (fun k hk e => by
        rcases e with e | e
        · subst e; exact hgp hk.1
        · exact hgo k e hk.1)).mono (fun k hk => .inl hk)
    · have hr2 := hr.old
      have hc35 : Chg (fun k => k = p ∨ A.map (·.block) = some k) w3 (w5.setCell ⟨p, 2, none⟩ (.slice A5 (q.length + 1) c5)) :=
        ((((Chg.refl (fun _ => False) w3).alloc (.cells #[.slice E b.length d] 31)).mono (fun _ _ h => h.elim)).grown hg (fun k hk _ => .inr hk)).put p 2 (fun _ => .inl rfl) _
      refine (hr2.chg hc35 (fun k hk e => ?_)).mono (fun k hk => .inr ⟨hk.1, ?_⟩)
      · rcases e with e | e
        · have := hk.1
          omega
        · have := hlt k e
          have := hk.1
          omega
      · rcases hat with e | e
        · rw [e]
          intro e
          have := hlt k e
          have := hk.1
          omega
        · rw [e, hsz4]
          intro e
          injection e with e
          have := hk.2
          omega
def PushP (p : Nat) (o : Option Nat) (G : Nat → Prop) (x : SV) (b : List UInt8) (w : World) (e : Ending) (w' : World) : Prop:=e = .returned (int i64 (pushE x b)) ∧ SM p o G (pushS x b) w w'
theorem spush_any (p : Nat) (o : Option Nat) (G : Nat → Prop) (x : SV) (A2 : Option Addr) (n2 c2 : Nat) (b : List UInt8) (S : Nat → Prop) (w : World) (h : SN w p o G x) (hq : x.q.length ≤ 64) (hn2 : n2 = b.length) (hr : Rds w S A2 n2 (bcs b)) (hz2' : A2 = none → c2 = 0) (hmax : n2 ≤ 9223372036854775807) : Calls Tryz.prog 96 #[.pointer (some ⟨p,0,none⟩), .slice A2 n2 c2] w (PushP p o G x b w):=by
 subst hn2
 obtain ⟨i0,hi0,hz0,hz1,hz2⟩:=info_parts infoSl11
 have HSN:=hd_ h
 have HLT:=hd_ h.lt.1
 have hs:=fun W=>sized11 A2 b.length c2 W hmax
 have HLEN:=hd_ (fun W (hw : Chg (fun _=>False) w W)=>slen_any p o G x W (h.new hw))
 unfold PushP
 have hpe : pushE x b = if withinB 1 1000 [(b.length : Int)] = true then (if x.q.length = 64 then 3 else 0) else 1:=rfl
 have hps : pushS x b = if pushE x b = 0 then { x with q:=x.q ++ [b] } else x:=rfl
 by_cases hb1 : withinB 1 1000 [(b.length : Int)] = true
 case neg =>
  have hb2 : withinB 1 1000 [(b.length : Int)] = false:=by simpa using hb1
  rw [hb2] at hs hpe
  rw [hps,hpe]
  simp only [Bool.false_eq_true,if_false,show ¬ ((1 : Int) = 0) from by decide]
  have HS:=hd_ hs
  clear hs hb1 hb2 hpe hps h hr
  go_enter Tryz.func96,Tryz.ntmps96
  go_wp2_with fail
  refine (HS.out _).mono ?_
  rintro e w1 ⟨rfl,hc1⟩
  go_wp2_with fail
  go_ret
  exact ⟨rfl,(SM.refl HSN.out).post hc1⟩
 rw [hb1] at hs hpe
 simp only [if_true] at hpe
 have hbl : 1 ≤ b.length ∧ b.length ≤ 1000:=by
  unfold withinB at hb1
  simp only [List.all_cons,List.all_nil,Bool.and_true,Bool.and_eq_true,decide_eq_true_eq] at hb1
  omega
 by_cases hfull : x.q.length = 64
 ·rw [if_pos hfull] at hpe
  rw [hps,hpe,if_neg (by decide)]
  have HS:=hd_ hs
  rw [hfull] at HLEN
  clear hs hb1 hpe hps h hr hbl hfull hq
  go_enter Tryz.func96,Tryz.ntmps96
  go_wp2_with fail
  refine (HS.out _).mono ?_
  rintro e w1 ⟨rfl,hc1⟩
  go_wp2_with fail
  refine (HLEN.out _ hc1).mono ?_
  rintro e _ ⟨rfl,rfl⟩
  go_wp2_with fail
  go_ret
  exact ⟨rfl,(SM.refl HSN.out).post hc1⟩
 rw [if_neg hfull] at hpe
 have HE:=hd_ (And.intro hpe (show pushS x b = ⟨x.mi,x.pe,x.nx,x.go,x.q ++ [b]⟩ from by rw [hps,hpe]; rfl))
 have HS:=hd_ hs
 have hg1 : ¬ G p:=by obtain ⟨_,_,_,_,_,_,_,_,h1,_⟩:=h; exact h1
 have hg2 : ∀ k,o = some k → ¬ G k:=by obtain ⟨_,_,_,_,_,_,_,_,_,h1⟩:=h; exact h1
 have HRB:=hd_ hr
 have tf : ((x.q.length : Int) == 64) = false:=by simp; omega
 obtain ⟨mi,pe,nx,go,q⟩:=x
 simp only at tf hfull hq HE HLEN
 generalize hqn : q.length = n at *
 have HN:=hd_ hqn.symm
 clear hs hb1 hpe hps hr hqn
 go_enter Tryz.func96,Tryz.ntmps96
 go_wp2_with fail
 refine (HS.out _).mono ?_
 rintro e w1 ⟨rfl,hc1⟩
 have HC1:=hd_ hc1
 have hl:=HLEN.out _ hc1
 clear HS HLEN
 go_wp2_with fail
 refine hl.mono ?_
 rintro e _ ⟨rfl,rfl⟩
 clear hl
 obtain ⟨A,c,vs,hb,hown,ho,hne,hbq, -, -⟩:=(HSN.out.new HC1.out).old
 rw [show (SV.mk mi pe nx go q).q.length = n from HN.out.symm] at hb hown
 subst ho
 obtain ⟨z0,z1,z2,z3,z4⟩:=sn_cells hb
 have HPB:=hd_ hb
 have HOW:=hd_ hown
 have HBQ:=hd_ hbq
 have HGS:=hd_ (And.intro hne (And.intro hg1 hg2))
 have HCL:=hd_ (fun W (hw : Chg (fun _=>False) w1 W)=>tclone_any A2 b.length c2 b S W rfl (HRB.out.chg (HC1.out.trans hw (fun _ _ e=>e)) (fun _ _=>id)) hz2' (by omega))
 have HX:=hd_ (Chg.refl (fun _=>False) w1).drew
 clear hb hown hbq hne hg1 hg2 hc1 h HSN
 go_wp2_with fail
 refine wp_region_noPanic ?_
 refine wp_region_held_drew (S:=(fun _=>True)) (by kernel_rfl) trivial (fun hHeld => ?_)
 iterate 5
  first
   | refine wpAnyH_take (i:=0) (v := ?_) rfl (by kernel_rfl) (by kernel_rfl) (by decide +kernel) (fun _ _ _ h=>h) (Or.inl ⟨by rfl, ?_⟩) (by assumption) ?_
   | refine wpAnyH_take (i:=1) (v := ?_) rfl (by kernel_rfl) (by kernel_rfl) (by decide +kernel) (fun _ _ _ h=>h) (Or.inl ⟨by rfl, ?_⟩) (by assumption) ?_
   | refine wpAnyH_take (i:=2) (v := ?_) rfl (by kernel_rfl) (by kernel_rfl) (by decide +kernel) (fun _ _ _ h=>h) (Or.inl ⟨by rfl, ?_⟩) (by assumption) ?_
   | refine wpAnyH_take (i:=3) (v := ?_) rfl (by kernel_rfl) (by kernel_rfl) (by decide +kernel) (fun _ _ _ h=>h) (Or.inl ⟨by rfl, ?_⟩) (by assumption) ?_
   | refine wpAnyH_take (i:=5) (v := ?_) rfl (by kernel_rfl) (by kernel_rfl) (by decide +kernel) (fun _ _ _ h=>h) (Or.inl ⟨by rfl, ?_⟩) (by assumption) ?_
  rotate_left
  ·intro w' hSw
   try dsimp only at hSw
   go_simp
   first | done | (with_reducible rfl)
  try simp only [List.getElem_toArray,List.getElem_cons_succ,List.getElem_cons_zero,Act.put,List.setIfInBounds_toArray,List.set_cons_zero,List.set_cons_succ]
 refine wpAnyH_ready (rs := [4,6]) (by kernel_rfl) (by simp) ?_
 refine AllReadyH.cons rfl (fun K hK => ?_) (AllReadyH.cons rfl (fun K hK => ?_) AllReadyH.nil)
 ·go_simp
  refine hK.out _ _ trivial (fun hHeld => ?_)
  clear hK K
  try simp only [List.getElem_toArray,List.getElem_cons_succ,List.getElem_cons_zero,Act.put,List.setIfInBounds_toArray,List.set_cons_zero,List.set_cons_succ]
  refine wpAnyH_ready (rs := [6]) (by kernel_rfl) (by simp) ?_
  refine AllReadyH.cons rfl (fun K hK => ?_) AllReadyH.nil
  go_simp
  refine (HCL.out _ HX.out).mono ?_
  rintro e w3 ⟨E,d3,rfl,hown3,hc3⟩
  have HZ3:=hd_ (own_nil hown3)
  have HR3:=hd_ ((own_rds2 hown3).mono (S':=fun k=>w1.heap.size ≤ k) (fun k hk=>hk.1))
  have HX:=hd_ (HX.out.trans hc3 (fun _ _ e=>e))
  clear hown3 hc3
  go_wp2_with fail
  refine hK.out _ _ trivial (fun hHeld => ?_)
  clear hK K
  try simp only [List.getElem_toArray,List.getElem_cons_succ,List.getElem_cons_zero,Act.put,List.setIfInBounds_toArray,List.set_cons_zero,List.set_cons_succ]
  refine wpAnyH_ready (rs := [7]) (by kernel_rfl) (by simp) ?_
  refine AllReadyH.cons rfl (fun K hK => ?_) AllReadyH.nil
  go_simp
  refine hK.out _ _ trivial (fun hHeld => ?_)
  clear hK K
  try simp only [List.getElem_toArray,List.getElem_cons_succ,List.getElem_cons_zero,Act.put,List.setIfInBounds_toArray,List.set_cons_zero,List.set_cons_succ]
  refine wpAnyH_ready (rs := [8]) (by kernel_rfl) (by simp) ?_
  refine AllReadyH.cons rfl (fun K hK => ?_) AllReadyH.nil
  refine step_app11 _ rfl (.tmp 21) (.tmp 24) 74 rfl 0 31 i0 _ 1 24 Tryz.underlying74 hi0 hz0 hz1 hz2 rfl (by decide) (.slice A n c) n _ rfl ((own_chg HOW.out HX.out (fun _ _=>id)).alloc _) ⟨w3.heap.size,0,none⟩ 1 1 [.slice E b.length d3] rfl rfl (fun j u hu=>by rw [show (⟨w3.heap.size,0,none⟩ : Addr).add j = ⟨w3.heap.size,j,none⟩ from by unfold Addr.add; split <;> simp_all,(Blk.new w3 31 #[.slice E b.length d3]).cell j]; simpa using hu) (by simp [Value.oneCell']) (by unfold maxLen; omega) (by omega) (Nat.zero_le _) ?_
  intro v5 w5 hown5 hg5 hat5
  obtain ⟨A5,c5,rfl,_,_⟩:=own_form hown5
  obtain ⟨hsm,hb5⟩:=SN.push HPB.out HOW.out HBQ.out HGS.out.1 HGS.out.2.1 HGS.out.2.2 HN.out HX.out HZ3.out HR3.out hown5 hg5 hat5
  have HSM:=hd_ hsm
  have g2:=hb5.frozen 2
  have x2:=(sn_cells hb5).2.2.1
  clear hsm hown5 hg5 hat5 hb5
  refine hK.out _ _ trivial (fun hHeld => ?_)
  clear hK K
  try simp only [List.getElem_toArray,List.getElem_cons_succ,List.getElem_cons_zero,Act.put,List.setIfInBounds_toArray,List.set_cons_zero,List.set_cons_succ]
  iterate 2
   first
    | refine wpAnyH_take (i:=9) (v := ?_) rfl (by kernel_rfl) (by kernel_rfl) (by decide +kernel) (fun _ _ _ h=>h) (Or.inl ⟨by rfl, ?_⟩) (by assumption) ?_
    | refine wpAnyH_take (i:=10) (v := ?_) rfl (by kernel_rfl) (by kernel_rfl) (by decide +kernel) (fun _ _ _ h=>h) (Or.inl ⟨by rfl, ?_⟩) (by assumption) ?_
   rotate_left
   ·intro w' hSw
    try dsimp only at hSw
    go_simp
    first | done | (with_reducible rfl)
   try simp only [List.getElem_toArray,List.getElem_cons_succ,List.getElem_cons_zero,Act.put,List.setIfInBounds_toArray,List.set_cons_zero,List.set_cons_succ]
  refine wpAnyH_ready (rs := [11]) (by kernel_rfl) (by simp) ?_
  refine AllReadyH.cons rfl (fun K hK => ?_) AllReadyH.nil
  go_simp
  refine hK.out _ _ trivial (fun hHeld => ?_)
  clear hK K
  try simp only [List.getElem_toArray,List.getElem_cons_succ,List.getElem_cons_zero,Act.put,List.setIfInBounds_toArray,List.set_cons_zero,List.set_cons_succ]
  refine wpAnyH_done (by kernel_rfl) ?_ _
  refine NoPanic.normal ?_
  go_wp2_with fail
  go_ret
  exact ⟨ret_i11 HE.out.1.symm,by rw [HE.out.2]; exact SM.pre HC1.out HSM.out HLT.out⟩
 ·go_simp
  refine (HCL.out _ HX.out).mono ?_
  rintro e w3 ⟨E,d3,rfl,hown3,hc3⟩
  have HZ3:=hd_ (own_nil hown3)
  have HR3:=hd_ ((own_rds2 hown3).mono (S':=fun k=>w1.heap.size ≤ k) (fun k hk=>hk.1))
  have HX:=hd_ (HX.out.trans hc3 (fun _ _ e=>e))
  clear hown3 hc3
  go_wp2_with fail
  refine hK.out _ _ trivial (fun hHeld => ?_)
  clear hK K
  try simp only [List.getElem_toArray,List.getElem_cons_succ,List.getElem_cons_zero,Act.put,List.setIfInBounds_toArray,List.set_cons_zero,List.set_cons_succ]
  have z5:=(sn_cells (HPB.out.chg HX.out id)).2.2.1
  have z6:=(sn_cells (HPB.out.chg (HX.out.alloc (.cells #[.slice E b.length d3] 31)) id)).2.2.1
  refine wpAnyH_ready (rs := [4,7]) (by kernel_rfl) (by simp) ?_
  refine AllReadyH.cons rfl (fun K hK => ?_) (AllReadyH.cons rfl (fun K hK => ?_) AllReadyH.nil)
  ·go_simp
   refine hK.out _ _ trivial (fun hHeld => ?_)
   clear hK K
   try simp only [List.getElem_toArray,List.getElem_cons_succ,List.getElem_cons_zero,Act.put,List.setIfInBounds_toArray,List.set_cons_zero,List.set_cons_succ]
   refine wpAnyH_ready (rs := [7]) (by kernel_rfl) (by simp) ?_
   refine AllReadyH.cons rfl (fun K hK => ?_) AllReadyH.nil
   go_simp
   refine hK.out _ _ trivial (fun hHeld => ?_)
   clear hK K
   try simp only [List.getElem_toArray,List.getElem_cons_succ,List.getElem_cons_zero,Act.put,List.setIfInBounds_toArray,List.set_cons_zero,List.set_cons_succ]
   refine wpAnyH_ready (rs := [8]) (by kernel_rfl) (by simp) ?_
   refine AllReadyH.cons rfl (fun K hK => ?_) AllReadyH.nil
   refine step_app11 _ rfl (.tmp 21) (.tmp 24) 74 rfl 0 31 i0 _ 1 24 Tryz.underlying74 hi0 hz0 hz1 hz2 rfl (by decide) (.slice A n c) n _ rfl ((own_chg HOW.out HX.out (fun _ _=>id)).alloc _) ⟨w3.heap.size,0,none⟩ 1 1 [.slice E b.length d3] rfl rfl (fun j u hu=>by rw [show (⟨w3.heap.size,0,none⟩ : Addr).add j = ⟨w3.heap.size,j,none⟩ from by unfold Addr.add; split <;> simp_all,(Blk.new w3 31 #[.slice E b.length d3]).cell j]; simpa using hu) (by simp [Value.oneCell']) (by unfold maxLen; omega) (by omega) (Nat.zero_le _) ?_
   intro v5 w5 hown5 hg5 hat5
   obtain ⟨A5,c5,rfl,_,_⟩:=own_form hown5
   obtain ⟨hsm,hb5⟩:=SN.push HPB.out HOW.out HBQ.out HGS.out.1 HGS.out.2.1 HGS.out.2.2 HN.out HX.out HZ3.out HR3.out hown5 hg5 hat5
   have HSM:=hd_ hsm
   have g2:=hb5.frozen 2
   have x2:=(sn_cells hb5).2.2.1
   clear hsm hown5 hg5 hat5 hb5
   refine hK.out _ _ trivial (fun hHeld => ?_)
   clear hK K
   try simp only [List.getElem_toArray,List.getElem_cons_succ,List.getElem_cons_zero,Act.put,List.setIfInBounds_toArray,List.set_cons_zero,List.set_cons_succ]
   iterate 2
    first
     | refine wpAnyH_take (i:=9) (v := ?_) rfl (by kernel_rfl) (by kernel_rfl) (by decide +kernel) (fun _ _ _ h=>h) (Or.inl ⟨by rfl, ?_⟩) (by assumption) ?_
     | refine wpAnyH_take (i:=10) (v := ?_) rfl (by kernel_rfl) (by kernel_rfl) (by decide +kernel) (fun _ _ _ h=>h) (Or.inl ⟨by rfl, ?_⟩) (by assumption) ?_
    rotate_left
    ·intro w' hSw
     try dsimp only at hSw
     go_simp
     first | done | (with_reducible rfl)
    try simp only [List.getElem_toArray,List.getElem_cons_succ,List.getElem_cons_zero,Act.put,List.setIfInBounds_toArray,List.set_cons_zero,List.set_cons_succ]
   refine wpAnyH_ready (rs := [11]) (by kernel_rfl) (by simp) ?_
   refine AllReadyH.cons rfl (fun K hK => ?_) AllReadyH.nil
   go_simp
   refine hK.out _ _ trivial (fun hHeld => ?_)
   clear hK K
   try simp only [List.getElem_toArray,List.getElem_cons_succ,List.getElem_cons_zero,Act.put,List.setIfInBounds_toArray,List.set_cons_zero,List.set_cons_succ]
   refine wpAnyH_done (by kernel_rfl) ?_ _
   refine NoPanic.normal ?_
   go_wp2_with fail
   go_ret
   exact ⟨ret_i11 HE.out.1.symm,by rw [HE.out.2]; exact SM.pre HC1.out HSM.out HLT.out⟩
  ·go_simp
   refine hK.out _ _ trivial (fun hHeld => ?_)
   clear hK K
   try simp only [List.getElem_toArray,List.getElem_cons_succ,List.getElem_cons_zero,Act.put,List.setIfInBounds_toArray,List.set_cons_zero,List.set_cons_succ]
   refine wpAnyH_ready (rs := [4]) (by kernel_rfl) (by simp) ?_
   refine AllReadyH.cons rfl (fun K hK => ?_) AllReadyH.nil
   go_simp
   refine hK.out _ _ trivial (fun hHeld => ?_)
   clear hK K
   try simp only [List.getElem_toArray,List.getElem_cons_succ,List.getElem_cons_zero,Act.put,List.setIfInBounds_toArray,List.set_cons_zero,List.set_cons_succ]
   refine wpAnyH_ready (rs := [8]) (by kernel_rfl) (by simp) ?_
   refine AllReadyH.cons rfl (fun K hK => ?_) AllReadyH.nil
   refine step_app11 _ rfl (.tmp 21) (.tmp 24) 74 rfl 0 31 i0 _ 1 24 Tryz.underlying74 hi0 hz0 hz1 hz2 rfl (by decide) (.slice A n c) n _ rfl ((own_chg HOW.out HX.out (fun _ _=>id)).alloc _) ⟨w3.heap.size,0,none⟩ 1 1 [.slice E b.length d3] rfl rfl (fun j u hu=>by rw [show (⟨w3.heap.size,0,none⟩ : Addr).add j = ⟨w3.heap.size,j,none⟩ from by unfold Addr.add; split <;> simp_all,(Blk.new w3 31 #[.slice E b.length d3]).cell j]; simpa using hu) (by simp [Value.oneCell']) (by unfold maxLen; omega) (by omega) (Nat.zero_le _) ?_
   intro v5 w5 hown5 hg5 hat5
   obtain ⟨A5,c5,rfl,_,_⟩:=own_form hown5
   obtain ⟨hsm,hb5⟩:=SN.push HPB.out HOW.out HBQ.out HGS.out.1 HGS.out.2.1 HGS.out.2.2 HN.out HX.out HZ3.out HR3.out hown5 hg5 hat5
   have HSM:=hd_ hsm
   have g2:=hb5.frozen 2
   have x2:=(sn_cells hb5).2.2.1
   clear hsm hown5 hg5 hat5 hb5
   refine hK.out _ _ trivial (fun hHeld => ?_)
   clear hK K
   try simp only [List.getElem_toArray,List.getElem_cons_succ,List.getElem_cons_zero,Act.put,List.setIfInBounds_toArray,List.set_cons_zero,List.set_cons_succ]
   iterate 2
    first
     | refine wpAnyH_take (i:=9) (v := ?_) rfl (by kernel_rfl) (by kernel_rfl) (by decide +kernel) (fun _ _ _ h=>h) (Or.inl ⟨by rfl, ?_⟩) (by assumption) ?_
     | refine wpAnyH_take (i:=10) (v := ?_) rfl (by kernel_rfl) (by kernel_rfl) (by decide +kernel) (fun _ _ _ h=>h) (Or.inl ⟨by rfl, ?_⟩) (by assumption) ?_
    rotate_left
    ·intro w' hSw
     try dsimp only at hSw
     go_simp
     first | done | (with_reducible rfl)
    try simp only [List.getElem_toArray,List.getElem_cons_succ,List.getElem_cons_zero,Act.put,List.setIfInBounds_toArray,List.set_cons_zero,List.set_cons_succ]
   refine wpAnyH_ready (rs := [11]) (by kernel_rfl) (by simp) ?_
   refine AllReadyH.cons rfl (fun K hK => ?_) AllReadyH.nil
   go_simp
   refine hK.out _ _ trivial (fun hHeld => ?_)
   clear hK K
   try simp only [List.getElem_toArray,List.getElem_cons_succ,List.getElem_cons_zero,Act.put,List.setIfInBounds_toArray,List.set_cons_zero,List.set_cons_succ]
   refine wpAnyH_done (by kernel_rfl) ?_ _
   refine NoPanic.normal ?_
   go_wp2_with fail
   go_ret
   exact ⟨ret_i11 HE.out.1.symm,by rw [HE.out.2]; exact SM.pre HC1.out HSM.out HLT.out⟩
def tkC (A : Option Addr) (n c : Nat) (g r : Bool) : Array Value:=#[.slice A n c, .bool g, .bool r]
theorem tk_cells {w : World} {v : Nat} {T : TypeId} {A : Option Addr} {n c : Nat} {g r : Bool} (h : Blk w v T (tkC A n c g r)) :
  w.cell? ⟨v,0,none⟩ = some (.slice A n c) ∧ w.cell? ⟨v,1,none⟩ = some (.bool g) ∧ w.cell? ⟨v,2,none⟩ = some (.bool r):=by
 have h0:=h.cell 0
 have h1:=h.cell 1
 have h2:=h.cell 2
 simp only [tkC,List.getElem?_toArray,List.getElem?_cons_zero,List.getElem?_cons_succ] at h0 h1 h2
 exact ⟨h0,h1,h2⟩
theorem tk_free {w : World} {v : Nat} {T : TypeId} {cs : Array Value} (hb : Blk w v T cs) : w.frozen? ⟨v,0,none⟩ = false ∧ w.frozen? ⟨v,1,none⟩ = false ∧ w.frozen? ⟨v,2,none⟩ = false:=⟨hb.frozen 0,hb.frozen 1,hb.frozen 2⟩
theorem tk_put {w : World} {v : Nat} {T : TypeId} {A : Option Addr} {n c : Nat} {g r : Bool} (hb : Blk w v T (tkC A n c g r)) (A' : Option Addr) (n' c' : Nat) (g' r' : Bool) :
  (w.setCell ⟨v,0,none⟩ (.slice A' n' c')).cell? ⟨v,0,none⟩ = some (.slice A' n' c') ∧
  ((w.setCell ⟨v,0,none⟩ (.slice A' n' c')).setCell ⟨v,1,none⟩ (.bool g')).cell? ⟨v,1,none⟩ = some (.bool g') ∧
  (((w.setCell ⟨v,0,none⟩ (.slice A' n' c')).setCell ⟨v,1,none⟩ (.bool g')).setCell ⟨v,2,none⟩ (.bool r')).cell? ⟨v,2,none⟩ = some (.bool r') ∧
  Blk (((w.setCell ⟨v,0,none⟩ (.slice A' n' c')).setCell ⟨v,1,none⟩ (.bool g')).setCell ⟨v,2,none⟩ (.bool r')) v T (tkC A' n' c' g' r') ∧ Chg (fun k=>k = v) w (((w.setCell ⟨v,0,none⟩ (.slice A' n' c')).setCell ⟨v,1,none⟩ (.bool g')).setCell ⟨v,2,none⟩ (.bool r')):=by
 have h0:=(hb.set 0 (.slice A' n' c'))
 have r0:=h0.cell 0
 have h1:=((hb.set 0 (.slice A' n' c')).set 1 (.bool g'))
 have r1:=h1.cell 1
 have h2:=(((hb.set 0 (.slice A' n' c')).set 1 (.bool g')).set 2 (.bool r'))
 have r2:=h2.cell 2
 simp only [tkC,List.setIfInBounds_toArray,List.set_cons_succ,List.set_cons_zero,List.getElem?_toArray,List.getElem?_cons_zero,List.getElem?_cons_succ] at r0 r1 r2 h2
 exact ⟨r0,r1,r2,h2,((((Chg.refl (fun k=>k = v) w).put v 0 (fun _=>rfl) _).put v 1 (fun _=>rfl) _).put v 2 (fun _=>rfl) _)⟩
def tkS1 (x : SV) (l : LV) : SV:=if x.pe < l.mi then ⟨x.mi,l.mi,1,0, []⟩ else x
def tkS2 (x : SV) (l : LV) : SV:=if l.pe = x.mi then ackS (tkS1 x l) l.ac else tkS1 x l
def tkHit (x : SV) (l : LV) : Bool:=decide (l.pe = x.mi) && decide (l.se = (tkS1 x l).go + 1)
def tkOk (x : SV) (l : LV) : Bool:=ltR l.mi l.pe l.ac l.se l.b.length && decide (x.pe ≤ l.mi)
def tkE (x : SV) (l : LV) : Int:=if ltR l.mi l.pe l.ac l.se l.b.length = true then (if l.mi < x.pe then 7 else 0) else 1
def tkS (x : SV) (l : LV) : SV:=if tkOk x l = true then (if tkHit x l = true then { tkS2 x l with go:=l.se } else tkS2 x l) else x
def tkGot (x : SV) (l : LV) : Bool:=tkOk x l && tkHit x l
def tkRes (x : SV) (l : LV) : Bool:=tkOk x l && decide (x.pe < l.mi)
def tkB (x : SV) (l : LV) : List UInt8:=if tkGot x l = true then l.b else []
def SMq (p : Nat) (o : Option Nat) (G : Nat → Prop) (y : SV) (w w' : World) : Prop := ∃ o',(o' = o ∨ o' = none) ∧ SN w' p o' (GN G w o') y ∧ Mvd p o o' w w'
theorem SMq.sm {p : Nat} {o : Option Nat} {G : Nat → Prop} {y : SV} {w w' : World} (h : SMq p o G y w w') : SM p o G y w w':=by
 obtain ⟨o',_,h1,h2⟩:=h
 exact ⟨o',h1,h2⟩
def TkR (p : Nat) (o : Option Nat) (G : Nat → Prop) (y : SV) (b : List UInt8) (got res : Bool) (er : Int) (w : World) (e : Ending) (w' : World) : Prop :=
 ∃ A c,e = .returned (.tuple #[.agg (tkC A b.length c got res),int i64 er]) ∧ (A = none → c = 0) ∧ Rds w' (fun k=>w.heap.size ≤ k) A b.length (bcs b) ∧ SMq p o G y w w'
def TakeP (p : Nat) (o : Option Nat) (G : Nat → Prop) (x : SV) (l : LV) (w : World) : Ending → World → Prop:=TkR p o G (tkS x l) (tkB x l) (tkGot x l) (tkRes x l) (tkE x l) w
theorem SN.sm2 {w w' : World} {p : Nat} {o oy : Option Nat} {G : Nat → Prop} {x y : SV} (h : SN w p o G x) (h2 : SN w' p oy (fun k=>G k ∧ k < w.heap.size) y) (hm : Mvd p o oy w w') (ho : oy = o ∨ oy = none) : SMq p o G y w w':=by
 obtain ⟨g1,g2⟩:=GN.ok h hm
 exact ⟨oy,ho,h2.mono (fun k hk _ => .inl hk) g1 g2,hm⟩
theorem SN.raw {w : World} {p : Nat} {o : Option Nat} {G : Nat → Prop} {mi pe nx go : Int} {q : List (List UInt8)} (h : SN w p o G ⟨mi,pe,nx,go,q⟩) : ∃ A m c,Blk w p 104 (snC mi pe A m c nx go):=by
 obtain ⟨A,c,vs,hb,_⟩:=h
 exact ⟨A,_,c,hb⟩
theorem SN.got {w : World} {p : Nat} {o : Option Nat} {G : Nat → Prop} {mi pe nx go : Int} {q : List (List UInt8)} (h : SN w p o G ⟨mi,pe,nx,go,q⟩) (v : Int) : SN (w.setCell ⟨p,4,none⟩ (int i64 v)) p o G ⟨mi,pe,nx,v,q⟩:=by
 obtain ⟨A,c,vs,hb,hown,h1,h2,h3,h4,h5⟩:=h
 have hc:=(Chg.refl (fun k=>k = p) w).put p 4 (fun _=>rfl) (int i64 v)
 exact ⟨A,c,vs,hb.set 4 (int i64 v),own_chg hown hc (fun k hk e=>by subst e; exact h2 (by rw [← h1]; exact hk)),h1,h2,h3.chg hc (fun k hk e=>by subst e; exact h4 hk),h4,h5⟩
theorem SN.anew {w w' : World} {p : Nat} {o : Option Nat} {G : Nat → Prop} {x : SV} {mi pe : Int} (h : SN w p o G x) (hb : Blk w' p 104 (snC mi pe none 0 0 1 0)) : SN w' p none G ⟨mi,pe,1,0, []⟩:=by
 obtain ⟨A,c,vs,_,_,h1,h2,h3,h4,h5⟩:=h
 exact ⟨none,0, [],hb,World.ownsRow_nil _ _ _ _,rfl,by simp,BQ.nil _ _,h4,fun k hk=>by cases hk⟩
theorem Mvd.put {p v : Nat} {o o1 : Option Nat} {w w1 w2 : World} (h : Mvd p o o1 w w1) (hc : Chg (fun k=>k = v) w1 w2) (hv : w.heap.size ≤ v) : Mvd p o o1 w w2:=⟨h.1.trans hc (fun i hi e=>by subst e; omega),h.2⟩
section
variable {p : Nat} {o : Option Nat} {G : Nat → Prop} {x : SV} {l : LV} {w w' : World} {e : Ending}
theorem tk_bad (h : ltR l.mi l.pe l.ac l.se l.b.length = false) (hh : TkR p o G x [] false false 1 w e w') : TakeP p o G x l w e w':=by
 have h1 : tkOk x l = false:=by unfold tkOk; rw [h]; rfl
 have h2 : tkGot x l = false:=by unfold tkGot; rw [h1]; rfl
 unfold TakeP
 rw [show tkS x l = x from by unfold tkS; rw [h1]; rfl,show tkB x l = [] from by unfold tkB; rw [h2]; rfl,h2,show tkRes x l = false from by unfold tkRes; rw [h1]; rfl,show tkE x l = 1 from by unfold tkE; rw [h]; rfl]
 exact hh
theorem tk_stale (h : ltR l.mi l.pe l.ac l.se l.b.length = true) (hs : l.mi < x.pe) (hh : TkR p o G x [] false false 7 w e w') : TakeP p o G x l w e w':=by
 have h1 : tkOk x l = false:=by unfold tkOk; rw [h]; simp; omega
 have h2 : tkGot x l = false:=by unfold tkGot; rw [h1]; rfl
 unfold TakeP
 rw [show tkS x l = x from by unfold tkS; rw [h1]; rfl,show tkB x l = [] from by unfold tkB; rw [h2]; rfl,h2,show tkRes x l = false from by unfold tkRes; rw [h1]; rfl,show tkE x l = 7 from by unfold tkE; rw [if_pos h,if_pos hs]]
 exact hh
theorem tk_go (h : ltR l.mi l.pe l.ac l.se l.b.length = true) (hs : ¬ l.mi < x.pe) (y : SV) (b : List UInt8) (got res : Bool) (hy : (if tkHit x l = true then { tkS2 x l with go:=l.se } else tkS2 x l) = y) (hb : (if tkHit x l = true then l.b else []) = b) (hg : tkHit x l = got) (hr : decide (x.pe < l.mi) = res)
  (hh : TkR p o G y b got res 0 w e w') : TakeP p o G x l w e w':=by
 have h1 : tkOk x l = true:=by unfold tkOk; rw [h]; simp; omega
 have h2 : tkGot x l = tkHit x l:=by unfold tkGot; rw [h1]; rfl
 subst hy hb hg hr
 unfold TakeP
 rw [show tkS x l = _ from if_pos h1,show tkB x l = (if tkHit x l = true then l.b else []) from by unfold tkB; rw [h2],h2,show tkRes x l = decide (x.pe < l.mi) from by unfold tkRes; rw [h1]; rfl,show tkE x l = 0 from by unfold tkE; rw [if_pos h,if_neg hs]]
 exact hh
theorem tk_other (h : ltR l.mi l.pe l.ac l.se l.b.length = true) (hs : ¬ l.mi < x.pe) (hp : l.pe ≠ x.mi) {res : Bool} (hr : decide (x.pe < l.mi) = res) {y : SV} (hy : tkS1 x l = y) (hh : TkR p o G y [] false res 0 w e w') : TakeP p o G x l w e w':=by
 have h2 : tkHit x l = false:=by unfold tkHit; simp [hp]
 exact tk_go h hs y [] false res (by rw [h2]; simp only [Bool.false_eq_true,if_false]; unfold tkS2; rw [if_neg hp]; exact hy) (by rw [h2]; rfl) h2 hr hh
theorem tk_miss (h : ltR l.mi l.pe l.ac l.se l.b.length = true) (hs : ¬ l.mi < x.pe) (hp : l.pe = x.mi) {res : Bool} (hr : decide (x.pe < l.mi) = res) {y : SV} (hy : tkS1 x l = y) (hq : l.se ≠ y.go + 1) (hh : TkR p o G (ackS y l.ac) [] false res 0 w e w') : TakeP p o G x l w e w':=by
 subst hy
 have h2 : tkHit x l = false:=by unfold tkHit; simp [hq]
 exact tk_go h hs _ [] false res (by rw [h2]; simp only [Bool.false_eq_true,if_false]; unfold tkS2; rw [if_pos hp]) (by rw [h2]; rfl) h2 hr hh
theorem tk_hit (h : ltR l.mi l.pe l.ac l.se l.b.length = true) (hs : ¬ l.mi < x.pe) (hp : l.pe = x.mi) {res : Bool} (hr : decide (x.pe < l.mi) = res) {y : SV} (hy : tkS1 x l = y) (hq : l.se = y.go + 1) (hh : TkR p o G { ackS y l.ac with go:=l.se } l.b true res 0 w e w') : TakeP p o G x l w e w':=by
 subst hy
 have h2 : tkHit x l = true:=by unfold tkHit; simp [hq,hp]
 exact tk_go h hs _ l.b true res (by rw [h2]; simp only [if_true]; unfold tkS2; rw [if_pos hp]) (by rw [h2]; rfl) h2 hr hh
end
theorem stake_any (p : Nat) (o : Option Nat) (G : Nat → Prop) (x : SV) (l : LV) (B : Option Addr) (n d : Nat) (S : Nat → Prop) (w : World) (h : SN w p o G x) (hok : SOk x) (hn : n = l.b.length) (hr : Rds w S B n (bcs l.b)) (hz : 1 ≤ n → B = none → d = 0) (hmax : n ≤ 9223372036854775807) (hSp : ¬ S p) (hSo : ∀ k,o = some k → ¬ S k) : Calls Tryz.prog 27 #[.pointer (some ⟨p,0,none⟩), .agg (ltC l.mi l.pe l.ac l.se B n d)] w (TakeP p o G x l w):=by
 obtain ⟨mi,pe,nx,go,q⟩:=x
 obtain ⟨lm,lp,la,ls,b⟩:=l
 simp only at hn hr ⊢
 subst hn
 have hplt:=h.lt.1
 have HSN0:=hd_ h
 have HOO:=hd_ h.lt.2
 have HSP:=hd_ hSp
 have HSO:=hd_ hSo
 have HOK:=hd_ hok
 have hgo:=hok.go0
 have HC0:=hd_ (((Chg.refl (fun _=>False) w).alloc (.cells #[int i64 lm,int i64 lp,int i64 la,int i64 ls, .slice B b.length d] 85)).alloc (.cells #[.slice none 0 0, .bool false, .bool false] 89))
 have HQ : Hid (Blk ((w.alloc (.cells #[int i64 lm,int i64 lp,int i64 la,int i64 ls, .slice B b.length d] 85)).alloc (.cells #[.slice none 0 0, .bool false, .bool false] 89)) w.heap.size 85 (ltC lm lp la ls B b.length d)):=hd_ ((blk_new rfl).alloc _)
 have HR : Hid (Blk ((w.alloc (.cells #[int i64 lm,int i64 lp,int i64 la,int i64 ls, .slice B b.length d] 85)).alloc (.cells #[.slice none 0 0, .bool false, .bool false] 89)) (w.heap.size + 1) 89 (tkC none 0 0 false false)):=hd_ (blk_new (by simp))
 have HSN:=hd_ (h.old.new HC0.out)
 have HBB:=hd_ (hr.old.chg HC0.out (fun _ _=>id))
 have HM:=hd_ ((Mvd.refl p o w).post HC0.out)
 have hrt:=fun W=>right11_any lm lp la ls B b.length d W hmax
 generalize hlr : ltR lm lp la ls b.length = rb at *
 have HLR : Hid (ltR (LV.mk lm lp la ls b).mi (LV.mk lm lp la ls b).pe (LV.mk lm lp la ls b).ac (LV.mk lm lp la ls b).se (LV.mk lm lp la ls b).b.length = rb):=hd_ hlr
 have HLS5 : Hid (rb = true → ls ≠ 0 → 1 ≤ b.length):=hd_ (fun e h0=>by
  rw [e] at hlr
  exact (ltR_parts hlr).2.2.2.2.2.1 h0)
 have hls : rb = true → b.length ≤ 1000 ∧ (0 ≤ lm ∧ lm ≤ 4294967296) ∧ (0 ≤ lp ∧ lp ≤ 4294967296) ∧ (0 ≤ la ∧ la ≤ 1099511627776):=fun e=>by
  rw [e] at hlr
  have:=ltR_parts hlr
  omega
 have HRT:=hd_ hrt
 clear h hr hSp hSo hok hrt hlr HC0
 unfold ltC
 go_enter Tryz.func27,Tryz.ntmps27
 go_upto_region 1 with fail
 generalize (w.alloc (.cells #[int i64 lm,int i64 lp,int i64 la,int i64 ls, .slice B b.length d] 85)).alloc (.cells #[.slice none 0 0, .bool false, .bool false] 89) = w1 at *
 obtain ⟨q0,q1,q2,q3,q4⟩:=lt_cells HQ.out
 unfold ltC at HRT
 cases rb with
 | false =>
  have HOY:=HOO
  go_wp2_with fail
  refine (HRT.out _).mono ?_
  rintro e w2 ⟨rfl,hc⟩
  replace HQ:=hd_ (HQ.out.chg hc id)
  replace HR:=hd_ (HR.out.chg hc id)
  replace HSN:=hd_ (HSN.out.new hc)
  replace HBB:=hd_ (HBB.out.chg hc (fun _ _=>id))
  replace HM:=hd_ (HM.out.post hc)
  clear hc q0 q1 q2 q3 q4
  obtain ⟨u0,u1,u2⟩:=tk_free HR.out
  obtain ⟨x0,x1,x2⟩:=tk_cells HR.out
  obtain ⟨r0,r1,r2, -,hcs⟩:=tk_put HR.out none 0 0 false false
  have RR:=hd_ (And.intro r0 (And.intro r1 r2))
  have HCS:=hd_ hcs
  clear r0 r1 r2 hcs
  go_wp2_with fail
  obtain ⟨r0,r1,r2⟩:=RR.out
  exact bodyPost_ret (v := .tuple #[.agg (tkC none 0 0 false false),int i64 1]) (by simp [results,Tryz.results27,go_sem,tkC,r0,r1,r2]) rfl (tk_bad HLR.out ⟨none,0,rfl,fun _=>rfl,Rds.nil _ _ _,HSN0.out.sm2 (HSN.out.chg HCS.out (by omega) (fun k hk=>by have:=HOY.out k hk; omega) (fun k hk=>by have:=hk.2; omega)) (HM.out.put HCS.out (by omega)) (by first | exact .inl rfl | exact .inr rfl)⟩)
 | true =>
  obtain ⟨hl1,hl2,hl3,hl4⟩:=hls rfl
  go_wp2_with fail
  refine (HRT.out _).mono ?_
  rintro e w2 ⟨rfl,hc⟩
  replace HQ:=hd_ (HQ.out.chg hc id)
  replace HR:=hd_ (HR.out.chg hc id)
  replace HSN:=hd_ (HSN.out.new hc)
  replace HBB:=hd_ (HBB.out.chg hc (fun _ _=>id))
  replace HM:=hd_ (HM.out.post hc)
  clear hc q0 q1 q2 q3 q4
  obtain ⟨A9,m9,c9,hbp⟩:=SN.raw HSN.out
  obtain ⟨s0,s1,s2,s3,s4⟩:=sn_cells hbp
  obtain ⟨q0,q1,q2,q3,q4⟩:=lt_cells HQ.out
  clear hbp
  by_cases hst : lm < pe
  ·have HOY:=HOO
   have HST:=hd_ hst
   go_wp2_with fail
   go_region
   clear s0 s1 s2 s3 s4 q0 q1 q2 q3 q4
   replace HQ:=hd_ HQ.out.drew
   replace HR:=hd_ HR.out.drew
   replace HSN:=hd_ HSN.out.drew
   replace HBB:=hd_ HBB.out.drew
   replace HM:=hd_ (HM.out.post (Chg.refl _ w2).drew)
   generalize w2.drew = w3 at *
   obtain ⟨u0,u1,u2⟩:=tk_free HR.out
   obtain ⟨x0,x1,x2⟩:=tk_cells HR.out
   obtain ⟨r0,r1,r2, -,hcs⟩:=tk_put HR.out none 0 0 false false
   have RR:=hd_ (And.intro r0 (And.intro r1 r2))
   have HCS:=hd_ hcs
   clear r0 r1 r2 hcs
   go_wp2_with fail
   obtain ⟨r0,r1,r2⟩:=RR.out
   exact bodyPost_ret (v := .tuple #[.agg (tkC none 0 0 false false),int i64 7]) (by simp [results,Tryz.results27,go_sem,tkC,r0,r1,r2]) rfl (tk_stale HLR.out HST.out ⟨none,0,rfl,fun _=>rfl,Rds.nil _ _ _,HSN0.out.sm2 (HSN.out.chg HCS.out (by omega) (fun k hk=>by have:=HOY.out k hk; omega) (fun k hk=>by have:=hk.2; omega)) (HM.out.put HCS.out (by omega)) (by first | exact .inl rfl | exact .inr rfl)⟩)
  ·by_cases hres : pe < lm
   ·have HRES:=hd_ hres
    go_wp2_with fail
    have HST:=hd_ hst
    go_region
    clear s0 s1 s2 s3 s4 q0 q1 q2 q3 q4
    replace HQ:=hd_ HQ.out.drew
    replace HR:=hd_ HR.out.drew
    replace HSN:=hd_ HSN.out.drew
    replace HBB:=hd_ HBB.out.drew
    replace HM:=hd_ (HM.out.post (Chg.refl _ w2).drew)
    generalize w2.drew = w3 at *
    obtain ⟨A9,m9,c9,hbp⟩:=SN.raw HSN.out
    obtain ⟨s0,s1,s2,s3,s4⟩:=sn_cells hbp
    obtain ⟨q0,q1,q2,q3,q4⟩:=lt_cells HQ.out
    have hba : Blk (w3.alloc (.cells #[.slice none 0 0, .bool false, .bool false] 89)) p 104 (snC mi pe A9 m9 c9 nx go):=hbp.alloc _
    have hqa : Blk (w3.alloc (.cells #[.slice none 0 0, .bool false, .bool false] 89)) w.heap.size 85 (ltC lm lp la ls B b.length d):=HQ.out.alloc _
    obtain ⟨-,t1, -, -, -⟩:=sn_cells hba
    obtain ⟨k0, -, -, -, -⟩:=lt_cells hqa
    clear hbp hba hqa
    go_wp2_with fail
    go_region
    clear s0 s1 s2 s3 s4 q0 q1 q2 q3 q4 t1 k0
    have hhv : w.heap.size + 1 < w3.heap.size:=HR.out.lt
    have HV : Hid (Blk (w3.alloc (.cells #[.slice none 0 0, .bool false, .bool true] 89)) w3.heap.size 89 (tkC none 0 0 false true)):=hd_ (blk_new rfl)
    have hc:=(Chg.refl (fun _=>False) w3).alloc (.cells #[.slice none 0 0, .bool false, .bool true] 89)
    replace HQ:=hd_ (HQ.out.chg hc id)
    replace HR:=hd_ (HR.out.chg hc id)
    replace HSN:=hd_ (HSN.out.new hc)
    replace HBB:=hd_ (HBB.out.chg hc (fun _ _=>id))
    replace HM:=hd_ (HM.out.post hc)
    clear hc
    generalize w3.alloc (.cells #[.slice none 0 0, .bool false, .bool true] 89) = w34 at *
    generalize w3.heap.size = hv at *
    replace HQ:=hd_ HQ.out.drew
    replace HR:=hd_ HR.out.drew
    replace HSN:=hd_ HSN.out.drew
    replace HBB:=hd_ HBB.out.drew
    replace HV:=hd_ HV.out.drew
    replace HM:=hd_ (HM.out.post (Chg.refl _ w34).drew)
    generalize w34.drew = w35 at *
    obtain ⟨A9,m9,c9,hbp⟩:=SN.raw HSN.out
    obtain ⟨s0,s1,s2,s3,s4⟩:=sn_cells hbp
    have g0:=hbp.frozen 0
    have g1:=hbp.frozen 1
    have g2:=hbp.frozen 2
    have g3:=hbp.frozen 3
    have g4:=hbp.frozen 4
    obtain ⟨q0,q1,q2,q3,q4⟩:=lt_cells HQ.out
    obtain ⟨v0,v1,v2⟩:=tk_cells HV.out
    have hb5 : Blk (((((w35.setCell ⟨p,0,none⟩ (int i64 mi)).setCell ⟨p,1,none⟩ (int i64 lm)).setCell ⟨p,2,none⟩ (.slice none 0 0)).setCell ⟨p,3,none⟩ (int i64 1)).setCell ⟨p,4,none⟩ (int i64 0)) p 104 (snC mi lm none 0 0 1 0):=((((hbp.set 0 (int i64 mi)).set 1 (int i64 lm)).set 2 (.slice none 0 0)).set 3 (int i64 1)).set 4 (int i64 0)
    have hc : Chg (fun k=>k = p) w35 (((((w35.setCell ⟨p,0,none⟩ (int i64 mi)).setCell ⟨p,1,none⟩ (int i64 lm)).setCell ⟨p,2,none⟩ (.slice none 0 0)).setCell ⟨p,3,none⟩ (int i64 1)).setCell ⟨p,4,none⟩ (int i64 0)):=(((((Chg.refl (fun k=>k = p) w35).put p 0 (fun _=>rfl) _).put p 1 (fun _=>rfl) _).put p 2 (fun _=>rfl) _).put p 3 (fun _=>rfl) _).put p 4 (fun _=>rfl) _
    have HC5:=hd_ hc
    have HB5:=hd_ hb5
    clear hbp hb5 hc
    go_wp2_with fail
    go_region
    clear s0 s1 s2 s3 s4 q0 q1 q2 q3 q4 v0 v1 v2 g0 g1 g2 g3 g4
    have hc:=HC5.out
    replace HQ:=hd_ (HQ.out.chg hc (by omega))
    replace HR:=hd_ (HR.out.chg hc (by omega))
    replace HV:=hd_ (HV.out.chg hc (by omega))
    replace HBB:=hd_ (HBB.out.chg hc (fun k hk e=>by subst e; exact HSP.out hk.1))
    replace HM : Hid (Mvd p o none w _):=hd_ ⟨HM.out.1.trans hc (fun _ _ e => .inl e), .inr (.inl rfl)⟩
    replace HSN:=hd_ (HSN.out.anew HB5.out)
    clear HC5 HB5 hc
    generalize ((((w35.setCell ⟨p,0,none⟩ (int i64 mi)).setCell ⟨p,1,none⟩ (int i64 lm)).setCell ⟨p,2,none⟩ (.slice none 0 0)).setCell ⟨p,3,none⟩ (int i64 1)).setCell ⟨p,4,none⟩ (int i64 0) = w36 at *
    have HOY : Hid (∀ k,(none : Option Nat) = some k → k < w.heap.size):=hd_ (fun k hk=>by cases hk)
    have HSOK : Hid (SOk ⟨mi,lm,1,0, []⟩):=hd_ ⟨by simp,by simp,⟨by simp,by simp⟩,⟨by simp,by simp⟩⟩
    replace HSO : Hid (∀ k,(none : Option Nat) = some k → ¬ S k):=hd_ (fun k hk=>by cases hk)
    replace HQ:=hd_ HQ.out.drew
    replace HR:=hd_ HR.out.drew
    replace HSN:=hd_ HSN.out.drew
    replace HBB:=hd_ HBB.out.drew
    replace HV:=hd_ HV.out.drew
    replace HM:=hd_ (HM.out.post (Chg.refl _ w36).drew)
    generalize w36.drew = w4 at *
    go_wp2_with fail
    obtain ⟨A9,m9,c9,hbp⟩:=SN.raw HSN.out
    obtain ⟨s0,s1,s2,s3,s4⟩:=sn_cells hbp
    obtain ⟨q0,q1,q2,q3,q4⟩:=lt_cells HQ.out
    clear hbp
    by_cases hpm : lp = mi
    case neg =>
     have tp : (lp == mi) = false:=by simpa using hpm
     have tp2 : (lp != mi) = true:=by simpa using hpm
     have HPM:=hd_ hpm
     clear hpm
     go_region
     clear s0 s1 s2 s3 s4 q0 q1 q2 q3 q4
     replace HQ:=hd_ HQ.out.drew
     replace HR:=hd_ HR.out.drew
     replace HSN:=hd_ HSN.out.drew
     replace HBB:=hd_ HBB.out.drew
     replace HV:=hd_ HV.out.drew
     replace HM:=hd_ (HM.out.post (Chg.refl _ w4).drew)
     generalize w4.drew = w5 at *
     obtain ⟨u0,u1,u2⟩:=tk_free HR.out
     obtain ⟨x0,x1,x2⟩:=tk_cells HR.out
     obtain ⟨v0,v1,v2⟩:=tk_cells HV.out
     obtain ⟨r0,r1,r2, -,hcs⟩:=tk_put HR.out none 0 0 false true
     have RR:=hd_ (And.intro r0 (And.intro r1 r2))
     have HCS:=hd_ hcs
     clear r0 r1 r2 hcs
     go_wp2_with fail
     obtain ⟨r0,r1,r2⟩:=RR.out
     exact bodyPost_ret (v := .tuple #[.agg (tkC none 0 0 false true),int i64 0]) (by simp [results,Tryz.results27,go_sem,tkC,r0,r1,r2]) rfl (tk_other HLR.out (show ¬ lm < pe from by have:=HST.out; omega) HPM.out (decide_eq_true (show pe < lm from HRES.out)) (if_pos (show pe < lm from HRES.out)) ⟨none,0,rfl,fun _=>rfl,Rds.nil _ _ _,HSN0.out.sm2 (HSN.out.chg HCS.out (by omega) (fun k hk=>by have:=HOY.out k hk; omega) (fun k hk=>by have:=hk.2; omega)) (HM.out.put HCS.out (by omega)) (by first | exact .inl rfl | exact .inr rfl)⟩)
    have tp : (lp == mi) = true:=by simpa using hpm
    have tp2 : (lp != mi) = false:=by simpa using hpm
    have HPM:=hd_ hpm
    clear hpm
    go_region
    clear s0 s1 s2 s3 s4 q0 q1 q2 q3 q4
    replace HQ:=hd_ HQ.out.drew
    replace HR:=hd_ HR.out.drew
    replace HSN:=hd_ HSN.out.drew
    replace HBB:=hd_ HBB.out.drew
    replace HV:=hd_ HV.out.drew
    replace HM:=hd_ (HM.out.post (Chg.refl _ w4).drew)
    generalize w4.drew = w5 at *
    have HAC:=hd_ (sack_any p none _ ⟨mi,lm,1,0, []⟩ la w5 HSN.out HSOK.out)
    obtain ⟨q0,q1,q2,q3,q4⟩:=lt_cells HQ.out
    go_wp2_with fail
    refine HAC.out.mono ?_
    rintro e w6 ⟨rfl,hsn6,hc⟩
    replace HSN:=hd_ hsn6
    clear hsn6 HAC q0 q1 q2 q3 q4
    replace HQ:=hd_ (HQ.out.chg hc (fun e=>e.elim (fun e=>by omega) (fun e=>by have:=HOY.out _ e; omega)))
    replace HR:=hd_ (HR.out.chg hc (fun e=>e.elim (fun e=>by omega) (fun e=>by have:=HOY.out _ e; omega)))
    replace HV:=hd_ (HV.out.chg hc (fun e=>e.elim (fun e=>by omega) (fun e=>by have:=HOY.out _ e; omega)))
    replace HBB:=hd_ (HBB.out.chg hc (fun k hk e=>e.elim (fun e=>HSP.out (e ▸ hk.1)) (fun e=>HSO.out k e hk.1)))
    replace HM:=hd_ (HM.out.trans ⟨hc, .inl rfl⟩)
    clear hc
    have hack : ackS ⟨mi,lm,1,0, []⟩ la = ⟨mi,lm,(ackS ⟨mi,lm,1,0, []⟩ la).nx,0,(ackS ⟨mi,lm,1,0, []⟩ la).q⟩:=rfl
    generalize hnx2 : (ackS ⟨mi,lm,1,0, []⟩ la).nx = nx2 at *
    generalize hq2 : (ackS ⟨mi,lm,1,0, []⟩ la).q = q2 at *
    have HACK:=hd_ hack
    rw [hack] at HSN
    clear hack hnx2 hq2
    obtain ⟨A9,m9,c9,hbp⟩:=SN.raw HSN.out
    obtain ⟨s0,s1,s2,s3,s4⟩:=sn_cells hbp
    obtain ⟨q0,q1,q2,q3,q4⟩:=lt_cells HQ.out
    have hw1 : IntKind.i64.wrap (0 + 1) = 0 + 1:=IntWalk.i64_in _ (by omega)
    by_cases hse : ls = 0 + 1
    case neg =>
     have te : (ls == 0 + 1) = false:=by simpa using hse
     have HSE:=hd_ hse
     clear hse hbp
     go_wp2_with fail
     go_region
     clear s0 s1 s2 s3 s4 q0 q1 q2 q3 q4
     replace HQ:=hd_ HQ.out.drew
     replace HR:=hd_ HR.out.drew
     replace HSN:=hd_ HSN.out.drew
     replace HBB:=hd_ HBB.out.drew
     replace HV:=hd_ HV.out.drew
     replace HM:=hd_ (HM.out.post (Chg.refl _ w6).drew)
     generalize w6.drew = w7 at *
     obtain ⟨u0,u1,u2⟩:=tk_free HR.out
     obtain ⟨x0,x1,x2⟩:=tk_cells HR.out
     obtain ⟨v0,v1,v2⟩:=tk_cells HV.out
     obtain ⟨r0,r1,r2, -,hcs⟩:=tk_put HR.out none 0 0 false true
     have RR:=hd_ (And.intro r0 (And.intro r1 r2))
     have HCS:=hd_ hcs
     clear r0 r1 r2 hcs
     go_wp2_with fail
     obtain ⟨r0,r1,r2⟩:=RR.out
     exact bodyPost_ret (v := .tuple #[.agg (tkC none 0 0 false true),int i64 0]) (by simp [results,Tryz.results27,go_sem,tkC,r0,r1,r2]) rfl (tk_miss HLR.out (show ¬ lm < pe from by have:=HST.out; omega) HPM.out (decide_eq_true (show pe < lm from HRES.out)) (if_pos (show pe < lm from HRES.out)) HSE.out ⟨none,0,rfl,fun _=>rfl,Rds.nil _ _ _,HSN0.out.sm2 (by rw [HACK.out]; exact (HSN.out.chg HCS.out (by omega) (fun k hk=>by have:=HOY.out k hk; omega) (fun k hk=>by have:=hk.2; omega))) (HM.out.put HCS.out (by omega)) (by first | exact .inl rfl | exact .inr rfl)⟩)
    have te : (ls == 0 + 1) = true:=by simpa using hse
    have HL1 : Hid (1 ≤ b.length):=hd_ (HLS5.out (by first | trivial | rfl) (by omega))
    have HSE:=hd_ hse
    clear hse hbp
    go_wp2_with fail
    go_region
    clear s0 s1 s2 s3 s4 q0 q1 q2 q3 q4
    replace HQ:=hd_ HQ.out.drew
    replace HR:=hd_ HR.out.drew
    replace HSN:=hd_ HSN.out.drew
    replace HBB:=hd_ HBB.out.drew
    replace HV:=hd_ HV.out.drew
    replace HM:=hd_ (HM.out.post (Chg.refl _ w6).drew)
    generalize w6.drew = w7 at *
    obtain ⟨A9,m9,c9,hbp⟩:=SN.raw HSN.out
    obtain ⟨s0,s1,s2,s3,s4⟩:=sn_cells hbp
    have g4:=hbp.frozen 4
    obtain ⟨q0,q1,q2,q3,q4⟩:=lt_cells HQ.out
    replace HSN:=hd_ (HSN.out.got ls)
    have hc:=(Chg.refl (fun k=>k = p) w7).put p 4 (fun _=>rfl) (int i64 ls)
    replace HQ:=hd_ (HQ.out.chg hc (by omega))
    replace HR:=hd_ (HR.out.chg hc (by omega))
    replace HV:=hd_ (HV.out.chg hc (by omega))
    replace HBB:=hd_ (HBB.out.chg hc (fun k hk e=>by subst e; exact HSP.out hk.1))
    replace HM:=hd_ (HM.out.trans ⟨hc.mono (fun k _ e => .inl e), .inl rfl⟩)
    clear hc hbp
    go_upto_region 13 with fail
    generalize w7.setCell ⟨p,4,none⟩ (int i64 ls) = w8 at *
    clear s0 s1 s2 s3 s4 q0 q1 q2 q3 q4 g4
    obtain ⟨q0,q1,q2,q3,q4⟩:=lt_cells HQ.out
    have HCL:=hd_ (tclone_any B b.length d b _ w8 rfl HBB.out (hz HL1.out) (by omega))
    go_wp2_with fail
    refine HCL.out.mono ?_
    rintro e w9 ⟨E,ed,rfl,hown,hc⟩
    have HNIL:=hd_ (own_nil hown)
    have HRE:=hd_ ((own_rds2 hown).mono (S':=fun k=>hv + 1 ≤ k) (fun k hk=>by have h1:=HV.out.lt; have h2:=hk.1; omega))
    clear hown HCL q0 q1 q2 q3 q4
    replace HQ:=hd_ (HQ.out.chg hc id)
    replace HR:=hd_ (HR.out.chg hc id)
    replace HV:=hd_ (HV.out.chg hc id)
    replace HSN:=hd_ (HSN.out.new hc)
    replace HBB:=hd_ (HBB.out.chg hc (fun _ _=>id))
    replace HM:=hd_ (HM.out.post hc)
    clear hc
    obtain ⟨f0,f1,f2⟩:=tk_free HV.out
    obtain ⟨v0,v1,v2⟩:=tk_cells HV.out
    have hv10 : Blk ((w9.setCell ⟨hv,0,none⟩ (.slice E b.length ed)).setCell ⟨hv,1,none⟩ (.bool true)) hv 89 (tkC E b.length ed true true):=(HV.out.set 0 (.slice E b.length ed)).set 1 (.bool true)
    have hc:=(((Chg.refl (fun k=>k = hv) w9).put hv 0 (fun _=>rfl) (.slice E b.length ed)).put hv 1 (fun _=>rfl) (.bool true))
    replace HQ:=hd_ (HQ.out.chg hc (by omega))
    replace HR:=hd_ (HR.out.chg hc (by omega))
    replace HSN:=hd_ (HSN.out.chg hc (by omega) (fun k hk=>by have:=HOY.out k hk; omega) (fun k hk=>by have:=hk.2; omega))
    replace HM:=hd_ (HM.out.put hc (by omega))
    replace HRE:=hd_ (HRE.out.chg hc (fun k hk e=>by omega))
    replace HV:=hd_ hv10
    clear hc hv10 HBB
    go_upto_region 14 with fail
    generalize (w9.setCell ⟨hv,0,none⟩ (.slice E b.length ed)).setCell ⟨hv,1,none⟩ (.bool true) = w10 at *
    clear v0 v1 v2 f0 f1 f2
    obtain ⟨u0,u1,u2⟩:=tk_free HR.out
    obtain ⟨x0,x1,x2⟩:=tk_cells HR.out
    obtain ⟨v0,v1,v2⟩:=tk_cells HV.out
    obtain ⟨r0,r1,r2, -,hcs⟩:=tk_put HR.out E b.length ed true true
    have RR:=hd_ (And.intro r0 (And.intro r1 r2))
    have HCS:=hd_ hcs
    clear r0 r1 r2 hcs
    go_wp2_with fail
    obtain ⟨r0,r1,r2⟩:=RR.out
    exact bodyPost_ret (v := .tuple #[.agg (tkC E b.length ed true true),int i64 0]) (by simp [results,Tryz.results27,go_sem,tkC,r0,r1,r2]) rfl (tk_hit HLR.out (show ¬ lm < pe from by have:=HST.out; omega) HPM.out (decide_eq_true (show pe < lm from HRES.out)) (if_pos (show pe < lm from HRES.out)) HSE.out ⟨E,ed,rfl,HNIL.out,(HRE.out.chg HCS.out (fun k hk e=>by omega)).mono (fun k hk=>by omega),HSN0.out.sm2 (by rw [HACK.out]; exact (HSN.out.chg HCS.out (by omega) (fun k hk=>by have:=HOY.out k hk; omega) (fun k hk=>by have:=hk.2; omega))) (HM.out.put HCS.out (by omega)) (by first | exact .inl rfl | exact .inr rfl)⟩)
   ·have HRES:=hd_ hres
    have tres : decide (pe < lm) = false:=decide_eq_false hres
    go_wp2_with fail
    have HST:=hd_ hst
    go_region
    clear s0 s1 s2 s3 s4 q0 q1 q2 q3 q4
    replace HQ:=hd_ HQ.out.drew
    replace HR:=hd_ HR.out.drew
    replace HSN:=hd_ HSN.out.drew
    replace HBB:=hd_ HBB.out.drew
    replace HM:=hd_ (HM.out.post (Chg.refl _ w2).drew)
    generalize w2.drew = w3 at *
    obtain ⟨A9,m9,c9,hbp⟩:=SN.raw HSN.out
    obtain ⟨s0,s1,s2,s3,s4⟩:=sn_cells hbp
    obtain ⟨q0,q1,q2,q3,q4⟩:=lt_cells HQ.out
    have hba : Blk (w3.alloc (.cells #[.slice none 0 0, .bool false, .bool false] 89)) p 104 (snC mi pe A9 m9 c9 nx go):=hbp.alloc _
    have hqa : Blk (w3.alloc (.cells #[.slice none 0 0, .bool false, .bool false] 89)) w.heap.size 85 (ltC lm lp la ls B b.length d):=HQ.out.alloc _
    obtain ⟨-,t1, -, -, -⟩:=sn_cells hba
    obtain ⟨k0, -, -, -, -⟩:=lt_cells hqa
    clear hbp hba hqa
    go_wp2_with fail
    go_region
    clear s0 s1 s2 s3 s4 q0 q1 q2 q3 q4 t1 k0
    have hhv : w.heap.size + 1 < w3.heap.size:=HR.out.lt
    have HV : Hid (Blk (w3.alloc (.cells #[.slice none 0 0, .bool false, .bool false] 89)) w3.heap.size 89 (tkC none 0 0 false false)):=hd_ (blk_new rfl)
    have hc:=(Chg.refl (fun _=>False) w3).alloc (.cells #[.slice none 0 0, .bool false, .bool false] 89)
    replace HQ:=hd_ (HQ.out.chg hc id)
    replace HR:=hd_ (HR.out.chg hc id)
    replace HSN:=hd_ (HSN.out.new hc)
    replace HBB:=hd_ (HBB.out.chg hc (fun _ _=>id))
    replace HM:=hd_ (HM.out.post hc)
    clear hc
    generalize w3.alloc (.cells #[.slice none 0 0, .bool false, .bool false] 89) = w34 at *
    generalize w3.heap.size = hv at *
    replace HQ:=hd_ HQ.out.drew
    replace HR:=hd_ HR.out.drew
    replace HSN:=hd_ HSN.out.drew
    replace HBB:=hd_ HBB.out.drew
    replace HV:=hd_ HV.out.drew
    replace HM:=hd_ (HM.out.post (Chg.refl _ w34).drew)
    generalize w34.drew = w4 at *
    have HOY:=HOO
    have HSOK:=HOK
    obtain ⟨v0,v1,v2⟩:=tk_cells HV.out
    go_wp2_with fail
    clear v0 v1 v2
    obtain ⟨A9,m9,c9,hbp⟩:=SN.raw HSN.out
    obtain ⟨s0,s1,s2,s3,s4⟩:=sn_cells hbp
    obtain ⟨q0,q1,q2,q3,q4⟩:=lt_cells HQ.out
    clear hbp
    by_cases hpm : lp = mi
    case neg =>
     have tp : (lp == mi) = false:=by simpa using hpm
     have tp2 : (lp != mi) = true:=by simpa using hpm
     have HPM:=hd_ hpm
     clear hpm
     go_region
     clear s0 s1 s2 s3 s4 q0 q1 q2 q3 q4
     replace HQ:=hd_ HQ.out.drew
     replace HR:=hd_ HR.out.drew
     replace HSN:=hd_ HSN.out.drew
     replace HBB:=hd_ HBB.out.drew
     replace HV:=hd_ HV.out.drew
     replace HM:=hd_ (HM.out.post (Chg.refl _ w4).drew)
     generalize w4.drew = w5 at *
     obtain ⟨u0,u1,u2⟩:=tk_free HR.out
     obtain ⟨x0,x1,x2⟩:=tk_cells HR.out
     obtain ⟨v0,v1,v2⟩:=tk_cells HV.out
     obtain ⟨r0,r1,r2, -,hcs⟩:=tk_put HR.out none 0 0 false false
     have RR:=hd_ (And.intro r0 (And.intro r1 r2))
     have HCS:=hd_ hcs
     clear r0 r1 r2 hcs
     go_wp2_with fail
     obtain ⟨r0,r1,r2⟩:=RR.out
     exact bodyPost_ret (v := .tuple #[.agg (tkC none 0 0 false false),int i64 0]) (by simp [results,Tryz.results27,go_sem,tkC,r0,r1,r2]) rfl (tk_other HLR.out (show ¬ lm < pe from by have:=HST.out; omega) HPM.out (decide_eq_false (show ¬ pe < lm from by have:=HRES.out; omega)) (if_neg (show ¬ pe < lm from by have:=HRES.out; omega)) ⟨none,0,rfl,fun _=>rfl,Rds.nil _ _ _,HSN0.out.sm2 (HSN.out.chg HCS.out (by omega) (fun k hk=>by have:=HOY.out k hk; omega) (fun k hk=>by have:=hk.2; omega)) (HM.out.put HCS.out (by omega)) (by first | exact .inl rfl | exact .inr rfl)⟩)
    have tp : (lp == mi) = true:=by simpa using hpm
    have tp2 : (lp != mi) = false:=by simpa using hpm
    have HPM:=hd_ hpm
    clear hpm
    go_region
    clear s0 s1 s2 s3 s4 q0 q1 q2 q3 q4
    replace HQ:=hd_ HQ.out.drew
    replace HR:=hd_ HR.out.drew
    replace HSN:=hd_ HSN.out.drew
    replace HBB:=hd_ HBB.out.drew
    replace HV:=hd_ HV.out.drew
    replace HM:=hd_ (HM.out.post (Chg.refl _ w4).drew)
    generalize w4.drew = w5 at *
    have HAC:=hd_ (sack_any p o _ ⟨mi,pe,nx,go,q⟩ la w5 HSN.out HSOK.out)
    obtain ⟨q0,q1,q2,q3,q4⟩:=lt_cells HQ.out
    go_wp2_with fail
    refine HAC.out.mono ?_
    rintro e w6 ⟨rfl,hsn6,hc⟩
    replace HSN:=hd_ hsn6
    clear hsn6 HAC q0 q1 q2 q3 q4
    replace HQ:=hd_ (HQ.out.chg hc (fun e=>e.elim (fun e=>by omega) (fun e=>by have:=HOY.out _ e; omega)))
    replace HR:=hd_ (HR.out.chg hc (fun e=>e.elim (fun e=>by omega) (fun e=>by have:=HOY.out _ e; omega)))
    replace HV:=hd_ (HV.out.chg hc (fun e=>e.elim (fun e=>by omega) (fun e=>by have:=HOY.out _ e; omega)))
    replace HBB:=hd_ (HBB.out.chg hc (fun k hk e=>e.elim (fun e=>HSP.out (e ▸ hk.1)) (fun e=>HSO.out k e hk.1)))
    replace HM:=hd_ (HM.out.trans ⟨hc, .inl rfl⟩)
    clear hc
    have hack : ackS ⟨mi,pe,nx,go,q⟩ la = ⟨mi,pe,(ackS ⟨mi,pe,nx,go,q⟩ la).nx,go,(ackS ⟨mi,pe,nx,go,q⟩ la).q⟩:=rfl
    generalize hnx2 : (ackS ⟨mi,pe,nx,go,q⟩ la).nx = nx2 at *
    generalize hq2 : (ackS ⟨mi,pe,nx,go,q⟩ la).q = q2 at *
    have HACK:=hd_ hack
    rw [hack] at HSN
    clear hack hnx2 hq2
    obtain ⟨A9,m9,c9,hbp⟩:=SN.raw HSN.out
    obtain ⟨s0,s1,s2,s3,s4⟩:=sn_cells hbp
    obtain ⟨q0,q1,q2,q3,q4⟩:=lt_cells HQ.out
    have hw1 : IntKind.i64.wrap (go + 1) = go + 1:=IntWalk.i64_in _ (by omega)
    by_cases hse : ls = go + 1
    case neg =>
     have te : (ls == go + 1) = false:=by simpa using hse
     have HSE:=hd_ hse
     clear hse hbp
     go_wp2_with fail
     go_region
     clear s0 s1 s2 s3 s4 q0 q1 q2 q3 q4
     replace HQ:=hd_ HQ.out.drew
     replace HR:=hd_ HR.out.drew
     replace HSN:=hd_ HSN.out.drew
     replace HBB:=hd_ HBB.out.drew
     replace HV:=hd_ HV.out.drew
     replace HM:=hd_ (HM.out.post (Chg.refl _ w6).drew)
     generalize w6.drew = w7 at *
     obtain ⟨u0,u1,u2⟩:=tk_free HR.out
     obtain ⟨x0,x1,x2⟩:=tk_cells HR.out
     obtain ⟨v0,v1,v2⟩:=tk_cells HV.out
     obtain ⟨r0,r1,r2, -,hcs⟩:=tk_put HR.out none 0 0 false false
     have RR:=hd_ (And.intro r0 (And.intro r1 r2))
     have HCS:=hd_ hcs
     clear r0 r1 r2 hcs
     go_wp2_with fail
     obtain ⟨r0,r1,r2⟩:=RR.out
     exact bodyPost_ret (v := .tuple #[.agg (tkC none 0 0 false false),int i64 0]) (by simp [results,Tryz.results27,go_sem,tkC,r0,r1,r2]) rfl (tk_miss HLR.out (show ¬ lm < pe from by have:=HST.out; omega) HPM.out (decide_eq_false (show ¬ pe < lm from by have:=HRES.out; omega)) (if_neg (show ¬ pe < lm from by have:=HRES.out; omega)) HSE.out ⟨none,0,rfl,fun _=>rfl,Rds.nil _ _ _,HSN0.out.sm2 (by rw [HACK.out]; exact (HSN.out.chg HCS.out (by omega) (fun k hk=>by have:=HOY.out k hk; omega) (fun k hk=>by have:=hk.2; omega))) (HM.out.put HCS.out (by omega)) (by first | exact .inl rfl | exact .inr rfl)⟩)
    have te : (ls == go + 1) = true:=by simpa using hse
    have HL1 : Hid (1 ≤ b.length):=hd_ (HLS5.out (by first | trivial | rfl) (by have:=hgo.1; omega))
    have HSE:=hd_ hse
    clear hse hbp
    go_wp2_with fail
    go_region
    clear s0 s1 s2 s3 s4 q0 q1 q2 q3 q4
    replace HQ:=hd_ HQ.out.drew
    replace HR:=hd_ HR.out.drew
    replace HSN:=hd_ HSN.out.drew
    replace HBB:=hd_ HBB.out.drew
    replace HV:=hd_ HV.out.drew
    replace HM:=hd_ (HM.out.post (Chg.refl _ w6).drew)
    generalize w6.drew = w7 at *
    obtain ⟨A9,m9,c9,hbp⟩:=SN.raw HSN.out
    obtain ⟨s0,s1,s2,s3,s4⟩:=sn_cells hbp
    have g4:=hbp.frozen 4
    obtain ⟨q0,q1,q2,q3,q4⟩:=lt_cells HQ.out
    replace HSN:=hd_ (HSN.out.got ls)
    have hc:=(Chg.refl (fun k=>k = p) w7).put p 4 (fun _=>rfl) (int i64 ls)
    replace HQ:=hd_ (HQ.out.chg hc (by omega))
    replace HR:=hd_ (HR.out.chg hc (by omega))
    replace HV:=hd_ (HV.out.chg hc (by omega))
    replace HBB:=hd_ (HBB.out.chg hc (fun k hk e=>by subst e; exact HSP.out hk.1))
    replace HM:=hd_ (HM.out.trans ⟨hc.mono (fun k _ e => .inl e), .inl rfl⟩)
    clear hc hbp
    go_upto_region 13 with fail
    generalize w7.setCell ⟨p,4,none⟩ (int i64 ls) = w8 at *
    clear s0 s1 s2 s3 s4 q0 q1 q2 q3 q4 g4
    obtain ⟨q0,q1,q2,q3,q4⟩:=lt_cells HQ.out
    have HCL:=hd_ (tclone_any B b.length d b _ w8 rfl HBB.out (hz HL1.out) (by omega))
    go_wp2_with fail
    refine HCL.out.mono ?_
    rintro e w9 ⟨E,ed,rfl,hown,hc⟩
    have HNIL:=hd_ (own_nil hown)
    have HRE:=hd_ ((own_rds2 hown).mono (S':=fun k=>hv + 1 ≤ k) (fun k hk=>by have h1:=HV.out.lt; have h2:=hk.1; omega))
    clear hown HCL q0 q1 q2 q3 q4
    replace HQ:=hd_ (HQ.out.chg hc id)
    replace HR:=hd_ (HR.out.chg hc id)
    replace HV:=hd_ (HV.out.chg hc id)
    replace HSN:=hd_ (HSN.out.new hc)
    replace HBB:=hd_ (HBB.out.chg hc (fun _ _=>id))
    replace HM:=hd_ (HM.out.post hc)
    clear hc
    obtain ⟨f0,f1,f2⟩:=tk_free HV.out
    obtain ⟨v0,v1,v2⟩:=tk_cells HV.out
    have hv10 : Blk ((w9.setCell ⟨hv,0,none⟩ (.slice E b.length ed)).setCell ⟨hv,1,none⟩ (.bool true)) hv 89 (tkC E b.length ed true false):=(HV.out.set 0 (.slice E b.length ed)).set 1 (.bool true)
    have hc:=(((Chg.refl (fun k=>k = hv) w9).put hv 0 (fun _=>rfl) (.slice E b.length ed)).put hv 1 (fun _=>rfl) (.bool true))
    replace HQ:=hd_ (HQ.out.chg hc (by omega))
    replace HR:=hd_ (HR.out.chg hc (by omega))
    replace HSN:=hd_ (HSN.out.chg hc (by omega) (fun k hk=>by have:=HOY.out k hk; omega) (fun k hk=>by have:=hk.2; omega))
    replace HM:=hd_ (HM.out.put hc (by omega))
    replace HRE:=hd_ (HRE.out.chg hc (fun k hk e=>by omega))
    replace HV:=hd_ hv10
    clear hc hv10 HBB
    go_upto_region 14 with fail
    generalize (w9.setCell ⟨hv,0,none⟩ (.slice E b.length ed)).setCell ⟨hv,1,none⟩ (.bool true) = w10 at *
    clear v0 v1 v2 f0 f1 f2
    obtain ⟨u0,u1,u2⟩:=tk_free HR.out
    obtain ⟨x0,x1,x2⟩:=tk_cells HR.out
    obtain ⟨v0,v1,v2⟩:=tk_cells HV.out
    obtain ⟨r0,r1,r2, -,hcs⟩:=tk_put HR.out E b.length ed true false
    have RR:=hd_ (And.intro r0 (And.intro r1 r2))
    have HCS:=hd_ hcs
    clear r0 r1 r2 hcs
    go_wp2_with fail
    obtain ⟨r0,r1,r2⟩:=RR.out
    exact bodyPost_ret (v := .tuple #[.agg (tkC E b.length ed true false),int i64 0]) (by simp [results,Tryz.results27,go_sem,tkC,r0,r1,r2]) rfl (tk_hit HLR.out (show ¬ lm < pe from by have:=HST.out; omega) HPM.out (decide_eq_false (show ¬ pe < lm from by have:=HRES.out; omega)) (if_neg (show ¬ pe < lm from by have:=HRES.out; omega)) HSE.out ⟨E,ed,rfl,HNIL.out,(HRE.out.chg HCS.out (fun k hk e=>by omega)).mono (fun k hk=>by omega),HSN0.out.sm2 (by rw [HACK.out]; exact (HSN.out.chg HCS.out (by omega) (fun k hk=>by have:=HOY.out k hk; omega) (fun k hk=>by have:=hk.2; omega))) (HM.out.put HCS.out (by omega)) (by first | exact .inl rfl | exact .inr rfl)⟩)
def rlC (m p a s : Int) (b : ByteArray) : Array Value:=#[int i64 m,int i64 p,int i64 a,int i64 s, .string b]
theorem rl_cells {w : World} {r : Nat} {T : TypeId} {m p a s : Int} {b : ByteArray} (h : Blk w r T (rlC m p a s b)) :
  w.cell? ⟨r,0,none⟩ = some (int i64 m) ∧ w.cell? ⟨r,1,none⟩ = some (int i64 p) ∧ w.cell? ⟨r,2,none⟩ = some (int i64 a) ∧ w.cell? ⟨r,3,none⟩ = some (int i64 s) ∧ w.cell? ⟨r,4,none⟩ = some (.string b):=by
 have h0:=h.cell 0
 have h1:=h.cell 1
 have h2:=h.cell 2
 have h3:=h.cell 3
 have h4:=h.cell 4
 simp only [rlC,List.getElem?_toArray,List.getElem?_cons_zero,List.getElem?_cons_succ] at h0 h1 h2 h3 h4
 exact ⟨h0,h1,h2,h3,h4⟩
theorem rl_put {w : World} {r : Nat} {T : TypeId} {m p a s : Int} {b : ByteArray} (hb : Blk w r T (rlC m p a s b)) (m' p' a' s' : Int) (b' : ByteArray) :
  (w.setCell ⟨r,0,none⟩ (int i64 m')).cell? ⟨r,0,none⟩ = some (int i64 m') ∧
  ((w.setCell ⟨r,0,none⟩ (int i64 m')).setCell ⟨r,1,none⟩ (int i64 p')).cell? ⟨r,1,none⟩ = some (int i64 p') ∧
  (((w.setCell ⟨r,0,none⟩ (int i64 m')).setCell ⟨r,1,none⟩ (int i64 p')).setCell ⟨r,2,none⟩ (int i64 a')).cell? ⟨r,2,none⟩ = some (int i64 a') ∧
  ((((w.setCell ⟨r,0,none⟩ (int i64 m')).setCell ⟨r,1,none⟩ (int i64 p')).setCell ⟨r,2,none⟩ (int i64 a')).setCell ⟨r,3,none⟩ (int i64 s')).cell? ⟨r,3,none⟩ = some (int i64 s') ∧
  (((((w.setCell ⟨r,0,none⟩ (int i64 m')).setCell ⟨r,1,none⟩ (int i64 p')).setCell ⟨r,2,none⟩ (int i64 a')).setCell ⟨r,3,none⟩ (int i64 s')).setCell ⟨r,4,none⟩ (.string b')).cell? ⟨r,4,none⟩ = some (.string b') ∧
  Blk (((((w.setCell ⟨r,0,none⟩ (int i64 m')).setCell ⟨r,1,none⟩ (int i64 p')).setCell ⟨r,2,none⟩ (int i64 a')).setCell ⟨r,3,none⟩ (int i64 s')).setCell ⟨r,4,none⟩ (.string b')) r T (rlC m' p' a' s' b') ∧ Chg (fun k=>k = r) w (((((w.setCell ⟨r,0,none⟩ (int i64 m')).setCell ⟨r,1,none⟩ (int i64 p')).setCell ⟨r,2,none⟩ (int i64 a')).setCell ⟨r,3,none⟩ (int i64 s')).setCell ⟨r,4,none⟩ (.string b')):=by
 have h0:=(hb.set 0 (int i64 m'))
 have r0:=h0.cell 0
 have h1:=((hb.set 0 (int i64 m')).set 1 (int i64 p'))
 have r1:=h1.cell 1
 have h2:=(((hb.set 0 (int i64 m')).set 1 (int i64 p')).set 2 (int i64 a'))
 have r2:=h2.cell 2
 have h3:=((((hb.set 0 (int i64 m')).set 1 (int i64 p')).set 2 (int i64 a')).set 3 (int i64 s'))
 have r3:=h3.cell 3
 have h4:=(((((hb.set 0 (int i64 m')).set 1 (int i64 p')).set 2 (int i64 a')).set 3 (int i64 s')).set 4 (.string b'))
 have r4:=h4.cell 4
 simp only [rlC,List.setIfInBounds_toArray,List.set_cons_succ,List.set_cons_zero,List.getElem?_toArray,List.getElem?_cons_zero,List.getElem?_cons_succ] at r0 r1 r2 r3 r4 h4
 exact ⟨r0,r1,r2,r3,r4,h4,((((((Chg.refl (fun k=>k = r) w).put r 0 (fun _=>rfl) _).put r 1 (fun _=>rfl) _).put r 2 (fun _=>rfl) _).put r 3 (fun _=>rfl) _).put r 4 (fun _=>rfl) _)⟩
def numsB (m p a s : Int) : Bool:=inB m 1 4294967296 && (inB p 0 4294967296 && (inB a 0 1099511627776 && inB s 0 1099511627776))
def bodyB (s : Int) (n : Nat) : Bool:=(s == 0 && (n : Int) == 0) || (s != 0 && inB (n : Int) 1 1000)
theorem ltR_two (m p a s : Int) (n : Nat) : ltR m p a s n = (numsB m p a s && bodyB s n):=by
 have e1 : withinB 1 4294967296 [m] = (inB m 1 4294967296 && true):=rfl
 have e2 : withinB 0 4294967296 [p] = (inB p 0 4294967296 && true):=rfl
 have e3 : withinB 0 1099511627776 [a,s] = (inB a 0 1099511627776 && (inB s 0 1099511627776 && true)):=rfl
 have e4 : bodB s n = bodyB s n:=by
  unfold bodB bodyB
  by_cases hs : s = 0
  ·rw [if_pos hs]
   subst hs
   by_cases hn : n = 0 <;> simp [hn]
  ·rw [if_neg hs]
   have h1 : (s == 0) = false:=by simpa using hs
   have h2 : (s != 0) = true:=by simpa using hs
   rw [h1,h2]
   show (inB (n : Int) 1 1000 && true) = _
   simp
 unfold ltR
 rw [e1,e2,e3,e4]
 unfold numsB
 simp only [Bool.and_true]
 generalize inB m 1 4294967296 = x1
 generalize inB p 0 4294967296 = x2
 generalize inB a 0 1099511627776 = x3
 generalize inB s 0 1099511627776 = x4
 generalize bodyB s n = x5
 ac_rfl
theorem rright11_any (m p a s : Int) (sb : ByteArray) (n : Nat) (w : World) (hsb : sb.size = n) (hn : n ≤ 9223372036854775807) : Calls Tryz.prog 44 #[.agg (rlC m p a s sb)] w fun e w'=>e = .returned (.bool (ltR m p a s n)) ∧ Chg (fun _=>False) w w':=by
 have HQ : Hid (Blk (w.alloc (.cells #[int i64 m,int i64 p,int i64 a,int i64 s, .string sb] 77)) w.heap.size 77 (rlC m p a s sb)):=hd_ (blk_new rfl)
 have HC0:=hd_ ((Chg.refl (fun _=>False) w).alloc (.cells #[int i64 m,int i64 p,int i64 a,int i64 s, .string sb] 77))
 have h1:=fun W=>in_any m 1 4294967296 W
 have h2:=fun W=>in_any p 0 4294967296 W
 have h3:=fun W=>in_any a 0 1099511627776 W
 have h4:=fun W=>in_any s 0 1099511627776 W
 have h5:=fun W=>in_any (n : Int) 1 1000 W
 have hw1 : numsB m p a s = (inB m 1 4294967296 && (inB p 0 4294967296 && (inB a 0 1099511627776 && inB s 0 1099511627776))):=rfl
 have hw2 : bodyB s n = ((s == 0 && (n : Int) == 0) || (s != 0 && inB (n : Int) 1 1000)):=rfl
 generalize inB m 1 4294967296 = b1 at h1 hw1
 generalize inB p 0 4294967296 = b2 at h2 hw1
 generalize inB a 0 1099511627776 = b3 at h3 hw1
 generalize inB s 0 1099511627776 = b4 at h4 hw1
 generalize inB (n : Int) 1 1000 = b5 at h5 hw2
 rw [ltR_two]
 generalize numsB m p a s = v1 at *
 generalize bodyB s n = v2 at *
 have H1:=hd_ h1
 have H2:=hd_ h2
 have H3:=hd_ h3
 have H4:=hd_ h4
 have H5:=hd_ h5
 have HW1:=hd_ hw1
 have HW2:=hd_ hw2
 clear h1 h2 h3 h4 h5 hw1 hw2
 unfold rlC
 go_enter Tryz.func44,Tryz.ntmps44
 go_upto_region 1 with fail
 generalize w.alloc (.cells #[int i64 m,int i64 p,int i64 a,int i64 s, .string sb] 77) = w1 at *
 obtain ⟨q0,q1,q2,q3,q4⟩:=rl_cells HQ.out
 go_cut [3] (fun s3 wx=>s3 = .bool v1 ∧ wx = w1)
 case first =>
  cases b1 with
  | false =>
   go_wp2_with fail
   refine (H1.out _).mono ?_
   rintro e _ ⟨rfl,rfl⟩
   go_wp2_with fail
   go_meet
   exact ⟨by rw [HW1.out]; rfl,rfl⟩
  | true =>
   cases b2 with
   | false =>
    go_wp2_with fail
    refine (H1.out _).mono ?_
    rintro e _ ⟨rfl,rfl⟩
    go_wp2_with fail
    refine (H2.out _).mono ?_
    rintro e _ ⟨rfl,rfl⟩
    go_wp2_with fail
    go_meet
    exact ⟨by rw [HW1.out]; rfl,rfl⟩
   | true =>
    cases b3 with
    | false =>
     go_wp2_with fail
     refine (H1.out _).mono ?_
     rintro e _ ⟨rfl,rfl⟩
     go_wp2_with fail
     refine (H2.out _).mono ?_
     rintro e _ ⟨rfl,rfl⟩
     go_wp2_with fail
     refine (H3.out _).mono ?_
     rintro e _ ⟨rfl,rfl⟩
     go_wp2_with fail
     go_meet
     exact ⟨by rw [HW1.out]; rfl,rfl⟩
    | true =>
     cases b4 with
     | false =>
      go_wp2_with fail
      refine (H1.out _).mono ?_
      rintro e _ ⟨rfl,rfl⟩
      go_wp2_with fail
      refine (H2.out _).mono ?_
      rintro e _ ⟨rfl,rfl⟩
      go_wp2_with fail
      refine (H3.out _).mono ?_
      rintro e _ ⟨rfl,rfl⟩
      go_wp2_with fail
      refine (H4.out _).mono ?_
      rintro e _ ⟨rfl,rfl⟩
      go_wp2_with fail
      go_meet
      exact ⟨by rw [HW1.out]; rfl,rfl⟩
     | true =>
      go_wp2_with fail
      refine (H1.out _).mono ?_
      rintro e _ ⟨rfl,rfl⟩
      go_wp2_with fail
      refine (H2.out _).mono ?_
      rintro e _ ⟨rfl,rfl⟩
      go_wp2_with fail
      refine (H3.out _).mono ?_
      rintro e _ ⟨rfl,rfl⟩
      go_wp2_with fail
      refine (H4.out _).mono ?_
      rintro e _ ⟨rfl,rfl⟩
      go_wp2_with fail
      go_meet
      exact ⟨by rw [HW1.out]; rfl,rfl⟩
 obtain ⟨rfl,rfl⟩:=hcut
 clear H1 H2 H3 H4 HW1
 go_upto_region 2 with fail
 go_cut [4] (fun s4 wx=>s4 = .bool v2 ∧ wx = wc)
 case first =>
  by_cases hs : s = 0
  ·have e1 : (s == 0) = true:=by simp [hs]
   have e2 : (s != 0) = false:=by simp [hs]
   clear hs
   by_cases hn0 : n = 0
   ·have e3 : ((n : Int) == 0) = true:=by simp [hn0]
    have HV:=hd_ (show v2 = true from by rw [HW2.out,e1,e3]; rfl)
    clear hn0
    go_wp2_with fail
    go_meet
    exact ⟨by rw [HV.out],rfl⟩
   ·have e3 : ((n : Int) == 0) = false:=by simpa using hn0
    have HV:=hd_ (show v2 = false from by rw [HW2.out,e1,e2,e3]; rfl)
    clear hn0
    go_wp2_with fail
    go_meet
    exact ⟨by rw [HV.out],rfl⟩
  ·have e1 : (s == 0) = false:=by simpa using hs
   have e2 : (s != 0) = true:=by simpa using hs
   have HV:=hd_ (show v2 = b5 from by rw [HW2.out,e1,e2]; rfl)
   clear hs
   go_wp2_with fail
   refine (H5.out _).mono ?_
   rintro e _ ⟨rfl,rfl⟩
   go_wp2_with fail
   go_meet
   exact ⟨by rw [HV.out],rfl⟩
 obtain ⟨rfl,rfl⟩:=hcut
 cases v1 with
 | false =>
  go_wp2_with fail
  go_ret
  exact ⟨rfl,HC0.out⟩
 | true =>
  go_wp2_with fail
  go_ret
  exact ⟨rfl,HC0.out⟩
end Go.Proofs.YtfajcdobikjcdaaGreatDoor
end
