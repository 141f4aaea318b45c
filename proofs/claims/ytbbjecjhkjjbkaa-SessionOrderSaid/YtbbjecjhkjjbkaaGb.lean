/-
  A range over a function value that bears its receiver: what the caller owes. No condition.
-/
import Derived.Test.YtbbjecjhkjjbkaaGa
namespace Go.Proofs.Ytbbjecjhkjjbkaa
open Go.RowKit
set_option linter.unusedVariables false

/-- How a round may be left. -/
def post11 {α : Type} (n₀ B : Nat) (I : List α → World → Prop) (Ix : Code → List α → World → Prop) (xs : List α) (W : World) (e : Exit) (_ : Act) (W' : World) : Prop :=
  KeepsFrom B W W' ∧ Below n₀ W W' ∧ match e with
    | .normal => I xs W'
    | .ret => Ix .ret xs W'
    | .exit id => Ix (.exit id) xs W'
    | .goto t => Ix (.goto t) xs W'
    | .panic _ => False
    | .outgrown => False
theorem post11_out {α : Type} {n₀ B : Nat} {I : List α → World → Prop} {Ix : Code → List α → World → Prop} {xs : List α} {W : World} : ¬ LetsOut (post11 n₀ B I Ix xs W) := by
  rintro ⟨a, w, _, _, h⟩
  exact h
theorem abd_put {W : World} {l : Nat} {o o' : Obj} (h : W.heap[l]? = some o) (ho : o.isCells = false) : Abd W (W.putObj l o') :=
  Abd.of (grownBy_putObj' W l o') (fun r e => by cases e; exact ⟨o, h, ho⟩)
theorem abd_alloc (W : World) (o : Obj) : Abd W (W.alloc o) := Abd.of (World.grownBy_alloc W o none) (fun r e => by cases e)

/-- The iterator: for every way in which its rounds are met. -/
def Iter11 {α : Type} (n : Nat) (P : Program) (gf : Nat) (first : Array Value) (n₀ : Nat) (encs : α → Array Value) (xs : List α) (W : World) : Prop :=
  ∀ (l : Nat) (J Jx : List α → World → Prop),
    (∀ pre x W1, J pre W1 → pre.length < xs.length → YieldAt Fence.wide (n - 1) P l (encs x) W1 fun e W' => (e = .returned (.bool true) ∧ J (pre ++ [x]) W' ∧ Below n₀ W1 W') ∨ (e = .returned (.bool false) ∧ Jx (pre ++ [x]) W')) →
    J [] W → CallsIn Fence.wide n P gf (first ++ #[.func (.yield l) #[] #[]]) W fun e W' => (∃ v, e = .returned v) ∧ (J xs W' ∨ ∃ pre, pre <+: xs ∧ Jx pre W')

theorem loop11 {α : Type} {n : Nat} {P : Program} {g : Operand} {ps : Array Tmp} {assign body : Code} {Q : Exit → Act → World → Prop} {a : Act} {w : World} {gf : Nat} {first : Array Value}
    (hg : a.eval g = .func (.func gf) first #[]) (eg : ∀ args w, (callFunc gf args).run P w = .ok (.enter gf args) w) {encs : α → Array Value} {xs : List α} (n₀ : Nat) (hn₀ : n₀ ≤ w.heap.size)
    (hit : ∀ W, Below n₀ w W → Iter11 (n - 1) P gf first n₀ encs xs W) (hps : ∀ x, (encs x).size = ps.size)
    (I : List α → World → Prop) (Ix : Code → List α → World → Prop) (hI : ∀ s W W', I s W → Abd W W' → I s W') (hIx : ∀ c s W W', Ix c s W → Abd W W' → Ix c s W') (h0 : I [] w) (a₁ : α → Act)
    (hassign : ∀ (l : Nat) (x : α) (W : World) (K : Act → World → Prop), K (a₁ x) W →
      assign.wpIn (Fence.wide.inRound l) (n - 1 - 1) P (Exit.then K (fun _ _ _ => False)) { tmps := (ps.zip (encs x)).foldl (fun t (p, v) => t.setIfInBounds p v) a.tmps, defers := [] } W)
    (hbody : ∀ (l : Nat) (pre : List α) (x : α) (W : World), pre.length < xs.length → Below n₀ w W → I pre W → body.wpIn (Fence.wide.inRound l) (n - 1 - 1) P (post11 n₀ w.heap.size I Ix (pre ++ [x]) W) (a₁ x) W)
    (hdone : ∀ (D : Nat) (W : World), w.heap.size ≤ D → Below n₀ w W → I xs W → W.heap[D]? = some (.deferred (some [])) → Q .normal { a with defers := { target := .collected D, args := #[] } :: a.defers } W)
    (hstop : ∀ (D : Nat) (c : Code) (pre : List α) (W : World), w.heap.size ≤ D → Below n₀ w W → pre <+: xs → Ix c pre W → W.heap[D]? = some (.deferred (some [])) → c.wpIn Fence.wide n P Q { a with defers := { target := .collected D, args := #[] } :: a.defers } W) :
    (Code.rangeFunc g ps assign body).wpIn Fence.wide n P Q a w := by
  refine wpIn_rangeFunc fun fn _ => ?_
  generalize hB : w.heap.size = B at *
  have hrecs : ∃ rc : LoopState → Option Code → Obj, rc = fun st pe => .loop { state := st, pending := pe, fn, tmps := a.tmps, params := ps, assign, body, defers := B } := ⟨_, rfl⟩
  obtain ⟨rc, hrc⟩ := hrecs
  have hnc : ∀ st pe, (rc st pe).isCells = false := fun st pe => by rw [hrc]; rfl
  -- what the law keeps: the record's state, the deferred calls' block, what the caller keeps
  let Bk : Obj → World → Prop := fun o W => W.heap[B + 1]? = some o ∧ W.heap[B]? = some (.deferred (some [])) ∧ Below n₀ w W
  have hturn : ∀ (o o' : Obj) (W : World), Bk o W → Bk o' (W.putObj (B + 1) o') := fun o o' W ⟨h1, h2, h3⟩ =>
    ⟨World.putObj_heap_same (Array.getElem?_eq_some_iff.1 h1).1, (World.putObj_heap_other (by omega)).trans h2,
      h3.grown (grownBy_putObj' W (B + 1) o') (Nat.le_trans (by omega) h3.size) (fun k e => by cases e; omega)⟩
  have hbel : ∀ (o' : Obj) (W : World), n₀ ≤ W.heap.size → Below n₀ W (W.putObj (B + 1) o') := fun o' W hw =>
    (Below.refl n₀ W).grown (grownBy_putObj' W (B + 1) o') hw (fun k e => by cases e; omega)
  obtain ⟨W1, hW1⟩ : ∃ W1, (w.alloc (.deferred (some []))).alloc (rc .ready none) = W1 := ⟨_, rfl⟩
  have hbk1 : Bk (rc .ready none) W1 := by
    rw [← hW1]
    refine ⟨?_, (Below.heap_alloc _ _ _ (by simp; omega)).trans (by rw [← hB]; exact World.alloc_heap_new w _), ((Below.refl n₀ w).alloc (by omega) _).alloc (by simp; omega) _⟩
    have h := World.alloc_heap_new (w.alloc (.deferred (some []))) (rc .ready none)
    rwa [World.size_alloc, hB] at h
  have hI1 : I [] W1 := by
    rw [← hW1]
    exact hI _ _ _ (hI _ _ _ h0 (abd_alloc _ _)) (abd_alloc _ _)
  refine ⟨B + 1, [{ target := .collected B, args := #[] }], W1, { target := .fn (.func gf) #[], args := first ++ #[.func (.yield (B + 1)) #[] #[]] }, W1, gf, first ++ #[.func (.yield (B + 1)) #[] #[]], W1, ?_, ?_, fun _ _ => trivial, ?_, fun h => by simp [Fence.wide] at h, ?_⟩
  · have h := run_enterLoop_outer (P := P) (w := w) fn a.tmps ps assign body
    rw [hB] at h
    rw [← hW1, hrc]
    exact h
  · simp only [resolve, hg]
    simp [go_sem]
  · simp [invoke, go_sem, eg]
  refine (hit W1 hbk1.2.2 (B + 1) (fun pre W => I pre W ∧ Bk (rc .ready none) W) (fun pre W => ∃ c, Ix c pre W ∧ Bk (rc .done (some c)) W) ?_ ⟨hI1, hbk1⟩).mono ?_
  · -- one round
    rintro pre x W ⟨hi, hb⟩ hlen
    have hl : W.heap[B + 1]? = some (.loop { state := .ready, pending := none, fn, tmps := a.tmps, params := ps, assign, body, defers := B }) := by
      have := hb.1
      rwa [hrc] at this
    refine ⟨fn, _, assign, body, run_yield hl (hps x), roundIn_of_wpIn trivial (hassign _ x W _ ⟨_, run_beginRound hl rfl, ?_⟩)⟩
    have hb2 := hturn _ (rc .busy none) W hb
    have hi2 : I pre (W.putObj (B + 1) (rc .busy none)) := hI _ _ _ hi (abd_put hb.1 (hnc _ _))
    have hw2 := hbel (rc .busy none) W (Nat.le_trans (by omega) hb.2.2.size)
    have hrb : W.putObj (B + 1) (rc .busy none) = W.putObj (B + 1) (.loop { state := .busy, pending := none, fn, tmps := a.tmps, params := ps, assign, body, defers := B }) := by rw [hrc]
    rw [← hrb]
    clear hrb
    refine wpIn_mono (hbody _ pre x _ hlen hb2.2.2 hi2) ?_
    have fin : ∀ (jump : Option Code) (W3 : World), KeepsFrom B (W.putObj (B + 1) (rc .busy none)) W3 → Below n₀ (W.putObj (B + 1) (rc .busy none)) W3 →
        (Instr.endRound (B + 1) jump).run P W3 = .ok (.bool jump.isNone) (W3.putObj (B + 1) (rc (if jump.isNone then .ready else .done) jump)) ∧ Bk (rc .busy none) W3 := fun jump W3 hk hbw => by
      have h3 := hk.same _ _ (by omega) hb2.1 (hnc _ _)
      have h4 := hk.same _ _ (Nat.le_refl _) hb2.2.1 rfl
      refine ⟨?_, h3, h4, hb2.2.2.trans hbw⟩
      have h5 := h3
      rw [hrc] at h5 ⊢
      exact run_endRound (P := P) jump h5
    have jumped : ∀ (c : Code) (W3 : World), KeepsFrom B (W.putObj (B + 1) (rc .busy none)) W3 → Below n₀ (W.putObj (B + 1) (rc .busy none)) W3 → Ix c (pre ++ [x]) W3 →
        ∃ v w', (Instr.endRound (B + 1) (some c)).run P W3 = .ok v w' ∧
          ((Ending.returned v = .returned (.bool true) ∧ (I (pre ++ [x]) w' ∧ Bk (rc .ready none) w') ∧ Below n₀ W w') ∨ (Ending.returned v = .returned (.bool false) ∧ ∃ c, Ix c (pre ++ [x]) w' ∧ Bk (rc .done (some c)) w')) := fun c W3 hk hbw hx => by
      obtain ⟨hr, hb3⟩ := fin (some c) W3 hk hbw
      exact ⟨_, _, hr, .inr ⟨rfl, c, hIx _ _ _ _ hx (abd_put hb3.1 (hnc _ _)), hturn _ _ _ hb3⟩⟩
    rintro e a3 W3 ⟨hk, hbw, hp⟩
    cases e with
    | normal =>
      obtain ⟨hr, hb3⟩ := fin none W3 hk hbw
      exact ⟨_, _, hr, .inl ⟨rfl, ⟨hI _ _ _ hp (abd_put hb3.1 (hnc _ _)), hturn _ _ _ hb3⟩, (hw2.trans hbw).trans (hbel _ W3 (Nat.le_trans (by omega) hb3.2.2.size))⟩⟩
    | ret => exact jumped _ _ hk hbw hp
    | exit id => exact jumped _ _ hk hbw hp
    | goto t => exact jumped _ _ hk hbw hp
    | panic ch => exact hp.elim
    | outgrown => exact hp.elim
  · -- behind the iterator
    rintro e W2 ⟨⟨v, rfl⟩, (⟨hi, hb⟩ | ⟨pre, hp, c, hi, hb⟩)⟩
    · have h5 := hb.1
      have h6 := hb.2.1
      rw [hrc] at h5
      refine ⟨none, _, run_endLoop (P := P) h5 (by simp), hdone B _ (Nat.le_refl _) ?_ (hI _ _ _ hi (abd_put h5 rfl)) ((World.putObj_heap_other (by omega)).trans h6)⟩
      exact hb.2.2.trans (hbel _ W2 (Nat.le_trans (by omega) hb.2.2.size))
    · have h5 := hb.1
      have h6 := hb.2.1
      rw [hrc] at h5
      refine ⟨some c, _, run_endLoop (P := P) h5 (by simp), hstop B c pre _ (Nat.le_refl _) ?_ hp (hIx _ _ _ _ hi (abd_put h5 rfl)) ((World.putObj_heap_other (by omega)).trans h6)⟩
      exact hb.2.2.trans (hbel _ W2 (Nat.le_trans (by omega) hb.2.2.size))

end Go.Proofs.Ytbbjecjhkjjbkaa
