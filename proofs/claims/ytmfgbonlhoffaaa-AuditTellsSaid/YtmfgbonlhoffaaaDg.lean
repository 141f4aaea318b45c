/-
  Slices of events; what is wrong with an event behind others, as the document has it, plain. Walk: audit's Look. Condition: the events are read in memory, at most 80.
-/
import Derived.Test.YtmfgbonlhoffaaaDf
namespace Go.Proofs.Ytmfgbonlhoffaaa
open Go.RowKit
set_option linter.unusedVariables false
set_option linter.unusedSimpArgs false
set_option linter.unusedSectionVars false
/-- A slice of m events. -/
def EvR (w : World) (L : Option Addr) (m : Nat) (l : List Ev) : Prop :=
  m = l.length ∧ (0 < m → ∃ ad, L = some ad ∧ ad.block < w.heap.size ∧ ∀ (i : Nat) (x : Ev), l[i]? = some x → ∀ (j : Nat) (u : Value), x.cs[j]? = some u → w.cell? (ad.add (i * 13 + j)) = some u)
section
variable {w w' : World} {L : Option Addr} {m : Nat} {l : List Ev}
theorem EvR.chg (h : EvR w L m l) (hc : Chg (fun _ => False) w w') : EvR w' L m l := by
  refine ⟨h.1, fun hm => ?_⟩
  obtain ⟨ad, e, hb, hcell⟩ := h.2 hm
  refine ⟨ad, e, Nat.lt_of_lt_of_le hb hc.size, fun i x hi j u hu => ?_⟩
  rw [← hcell i x hi j u hu]
  exact World.cell?_of_block (by rw [block_add]; exact hc.block _ hb id)
theorem EvR.nil (w : World) (L : Option Addr) : EvR w L 0 [] := ⟨rfl, fun h => absurd h (by omega)⟩
theorem EvR.take (h : EvR w L m l) {k : Nat} (hk : k ≤ m) : EvR w L k (l.take k) := by
  refine ⟨by rw [List.length_take, ← h.1]; omega, fun hm => ?_⟩
  obtain ⟨ad, e, hb, hcell⟩ := h.2 (by omega)
  refine ⟨ad, e, hb, fun i x hi => hcell i x ?_⟩
  rw [List.getElem?_take] at hi
  split at hi
  · exact hi
  · cases hi
/-- The cells of an event, as the walk spells them. -/
theorem EvR.at {ad : Addr} {i : Nat} {x : Ev} (h : EvR w (some ad) m l) (hi : l[i]? = some x) :
    w.cell? (ad.add (i * 13)) = some (.int .i64 x.wh) ∧ w.cell? ⟨(ad.add (i * 13)).block, (ad.add (i * 13)).off + 1, none⟩ = some (.int .i64 x.ti) ∧ w.cell? ⟨(ad.add (i * 13)).block, (ad.add (i * 13)).off + 2, none⟩ = some (.int .i64 x.ch) ∧ w.cell? ⟨(ad.add (i * 13)).block, (ad.add (i * 13)).off + 3, none⟩ = some (.int .i64 x.po) ∧ w.cell? ⟨(ad.add (i * 13)).block, (ad.add (i * 13)).off + 4, none⟩ = some (.int .i64 x.ve) ∧ w.cell? ⟨(ad.add (i * 13)).block, (ad.add (i * 13)).off + 5, none⟩ = some (.int .i64 x.ki) ∧ w.cell? ⟨(ad.add (i * 13)).block, (ad.add (i * 13)).off + 6, none⟩ = some (.int .i64 x.id) ∧ w.cell? ⟨(ad.add (i * 13)).block, (ad.add (i * 13)).off + 7, none⟩ = some (.int .i64 x.og) ∧ w.cell? ⟨(ad.add (i * 13)).block, (ad.add (i * 13)).off + 8, none⟩ = some (.int .i64 x.fr) ∧ w.cell? ⟨(ad.add (i * 13)).block, (ad.add (i * 13)).off + 9, none⟩ = some (.int .i64 x.dn) ∧ w.cell? ⟨(ad.add (i * 13)).block, (ad.add (i * 13)).off + 10, none⟩ = some (.int .i64 x.tg) ∧ w.cell? ⟨(ad.add (i * 13)).block, (ad.add (i * 13)).off + 11, none⟩ = some (.int .i64 x.ge) ∧ w.cell? ⟨(ad.add (i * 13)).block, (ad.add (i * 13)).off + 12, none⟩ = some (.int .i64 x.sp) := by
  have hl : i < l.length := (List.getElem?_eq_some_iff.1 hi).1
  obtain ⟨ad', e, _, hc⟩ := h.2 (by have := h.1; omega)
  injection e with e
  subst e
  have k : ∀ j u, x.cs[j]? = some u → w.cell? ((ad.add (i * 13)).add j) = some u := fun j u hu => by rw [off_add]; exact hc i x hi j u hu
  exact ⟨k 0 _ rfl, k 1 _ rfl, k 2 _ rfl, k 3 _ rfl, k 4 _ rfl, k 5 _ rfl, k 6 _ rfl, k 7 _ rfl, k 8 _ rfl, k 9 _ rfl, k 10 _ rfl, k 11 _ rfl, k 12 _ rfl⟩
end
/-- Events as cells. -/
def evF (l : List Ev) : List Value := l.flatMap fun x => x.cs.toList
theorem evF_len : ∀ l : List Ev, (evF l).length = l.length * 13
  | [] => rfl
  | x :: l => by
    have := evF_len l
    unfold evF at *
    simp only [List.flatMap_cons, List.length_append, this, List.length_cons]
    simp [Ev.cs]
    omega
theorem evF_one (l : List Ev) : ∀ u ∈ evF l, u.oneCell' = true := by
  intro u hu
  simp only [evF, List.mem_flatMap] at hu
  obtain ⟨x, _, hx⟩ := hu
  simp only [Ev.cs, List.mem_cons, List.not_mem_nil, or_false] at hx
  rcases hx with rfl | rfl | rfl | rfl | rfl | rfl | rfl | rfl | rfl | rfl | rfl | rfl | rfl <;> rfl
theorem evF_at : ∀ (l : List Ev) (i : Nat) (x : Ev), l[i]? = some x → ∀ j, j < 13 → (evF l)[i * 13 + j]? = x.cs[j]?
  | [], i, x, h, _, _ => by simp at h
  | y :: l, 0, x, h, j, hj => by
    simp only [List.getElem?_cons_zero, Option.some.injEq] at h
    subst h
    simp only [evF, List.flatMap_cons]
    rw [List.getElem?_append_left (by simp [Ev.cs]; omega)]
    simp
  | y :: l, i + 1, x, h, j, hj => by
    simp only [List.getElem?_cons_succ] at h
    have ih := evF_at l i x h j hj
    simp only [evF, List.flatMap_cons] at *
    rw [List.getElem?_append_right (by simp [Ev.cs]; omega)]
    have e : (i + 1) * 13 + j - y.cs.toList.length = i * 13 + j := by simp [Ev.cs]; omega
    rw [e]
    exact ih
/-- What is owned reads as events. -/
theorem own_evr {w : World} {base : Nat} {e : TypeId} {n c : Nat} {A : Option Addr} {l : List Ev} (h : w.ownsRow base e 13 (.slice A n c) n (evF l)) (hn : n = l.length) : EvR w A n l := by
  refine ⟨hn, fun hp => ?_⟩
  have hlt := h.lt
  rcases h.2 with ⟨hv, rfl⟩ | ⟨g, cap, cur, hv, _⟩
  · omega
  · injection hv with hA hn hc
    subst hA
    have := hlt g rfl
    refine ⟨⟨g, 0, none⟩, rfl, this.2, fun i x hi j u hu => h.cells (g := g) rfl _ u ?_⟩
    have hj : j < 13 := (Array.getElem?_eq_some_iff.1 hu).1
    rw [evF_at l i x hi j hj]
    exact hu
/-! ### what is wrong, as the document has it -/
/-- How much more often are things of this ID delivered than doubled? -/
def tm21 (k : Int) : List Ev → Int
  | [] => 0
  | x :: r => (if gv21 x && x.id == k then 1 else 0) - (if x.wh == 3 && x.id == k then 1 else 0) + tm21 k r
theorem tm21_app (k : Int) (a b : List Ev) : tm21 k (a ++ b) = tm21 k a + tm21 k b := by
  induction a with
  | nil => simp [tm21]
  | cons x a ih => simp only [List.cons_append, tm21, ih]; omega
theorem tm21_one (k : Int) (x : Ev) : tm21 k [x] = (if gv21 x && x.id == k then 1 else 0) - (if x.wh == 3 && x.id == k then 1 else 0) := by simp [tm21]
theorem tm21_le (k : Int) (a : List Ev) : -(a.length : Int) ≤ tm21 k a ∧ tm21 k a ≤ a.length := by
  induction a with
  | nil => simp [tm21]
  | cons x a ih =>
    simp only [tm21, List.length_cons]
    split <;> split <;> omega
/-- Does y deliver at x's port and generation, at another chassis? -/
def ah21 (x y : Ev) : Bool := gv21 y && (y.po == x.po && (y.ge == x.ge && y.ch != x.ch))
def df21 (r : List Ev) (x : Ev) : Int := if gv21 x && r.any (ah21 x) then 1 else if gv21 x && decide (0 < tm21 x.id r) then 2 else if gv21 x && decide (x.ge < x.sp) then 3 else if rd21 x then 4 else if sn21 x && ag21 x then 5 else 0
/-- What holds of what the events ahead told. -/
structure In21 (r : List Ev) (fo : Int × Int → Option Int) (fl : Int → Option Int) : Prop where
  o1 : ∀ y ∈ r, gv21 y = true → fo (y.po, y.ge) = some y.ch
  o2 : ∀ k c, fo k = some c → ∃ y ∈ r, gv21 y = true ∧ (y.po, y.ge) = k ∧ y.ch = c
  li : ∀ k, tl21 fl k = - tm21 k r
theorem In21.nil : In21 [] (fun _ => none) (fun _ => none) := ⟨by simp, by simp, fun k => by simp [tl21, tm21]⟩
theorem In21.el {r : List Ev} {fo : Int × Int → Option Int} {fl : Int → Option Int} (h : In21 r fo fl) (x : Ev) : el21 fo x = r.any (ah21 x) := by
  unfold el21
  cases hf : fo (x.po, x.ge) with
  | none =>
    symm
    simp only [Option.isSome_none, Bool.false_and, List.any_eq_false]
    intro y hy hc
    simp only [ah21, Bool.and_eq_true, beq_iff_eq] at hc
    have := h.o1 y hy hc.1
    rw [hc.2.1, hc.2.2.1, hf] at this
    cases this
  | some c =>
    simp only [Option.isSome_some, Option.getD_some, Bool.true_and]
    rw [Bool.eq_iff_iff, List.any_eq_true]
    simp only [ah21, Bool.and_eq_true, beq_iff_eq, bne_iff_ne]
    constructor
    · intro hc
      obtain ⟨y, hy, hg, hk, rfl⟩ := h.o2 _ _ hf
      simp only [Prod.mk.injEq] at hk
      exact ⟨y, hy, hg, hk.1, hk.2, hc⟩
    · rintro ⟨y, hy, hg, hp, hq, hc⟩
      have := h.o1 y hy hg
      rw [hp, hq, hf] at this
      injection this with this
      rw [this]
      exact hc
theorem In21.ft {r : List Ev} {fo : Int × Int → Option Int} {fl : Int → Option Int} (h : In21 r fo fl) (x : Ev) : ft21 fo fl x = df21 r x := by
  unfold ft21 df21
  rw [h.el x, h.li, rd21_eq]
  have : decide (-tm21 x.id r < 0) = decide (0 < tm21 x.id r) := decide_eq_decide.2 (by omega)
  rw [this]
theorem up21_same {α : Type} [DecidableEq α] (f : α → Option Int) (k : α) (v : Int) : up21 f k v k = some v := if_pos rfl
theorem up21_ne {α : Type} [DecidableEq α] (f : α → Option Int) {k a : α} (v : Int) (h : a ≠ k) : up21 f k v a = f a := if_neg h
theorem tl21_nL (fl : Int → Option Int) (x : Ev) (k : Int) : tl21 (nL21 fl x) k = tl21 fl k - tm21 k [x] := by
  rw [tm21_one]
  unfold nL21 nM21 tl21
  by_cases hk : k = x.id
  · subst hk
    cases gv21 x <;> cases (x.wh == 3) <;> simp [up21_same] <;> omega
  · have : (x.id == k) = false := beq_eq_false_iff_ne.2 (Ne.symm hk)
    cases gv21 x <;> cases (x.wh == 3) <;> simp [this, up21_ne _ _ hk]
theorem In21.next {r : List Ev} {fo : Int × Int → Option Int} {fl : Int → Option Int} (h : In21 r fo fl) {x : Ev} (hx : df21 r x ≠ 1) : In21 (r ++ [x]) (nO21 fo x) (nL21 fl x) := by
  have hn : gv21 x = true → ∀ y ∈ r, gv21 y = true → y.po = x.po → y.ge = x.ge → y.ch = x.ch := by
    intro hg y hy hgy hp hq
    by_cases hc : y.ch = x.ch
    · exact hc
    · refine absurd (if_pos ?_) hx
      rw [hg, Bool.true_and, List.any_eq_true]
      exact ⟨y, hy, by simp [ah21, hgy, hp, hq, hc]⟩
  refine ⟨fun y hy hg => ?_, fun k c hk => ?_, fun k => ?_⟩
  · unfold nO21
    cases hgx : gv21 x with
    | false =>
      rcases List.mem_append.1 hy with hy | hy
      · simpa using h.o1 y hy hg
      · rw [List.mem_singleton] at hy; subst hy; rw [hgx] at hg; cases hg
    | true =>
      by_cases hk : (y.po, y.ge) = (x.po, x.ge)
      · rcases List.mem_append.1 hy with hy | hy
        · simp only [Prod.mk.injEq] at hk
          have := hn hgx y hy hg hk.1 hk.2
          simp [hk, up21_same, this]
        · rw [List.mem_singleton] at hy; subst hy; simp [up21_same]
      · rcases List.mem_append.1 hy with hy | hy
        · simp only [if_true]
          rw [up21_ne _ _ hk]
          exact h.o1 y hy hg
        · rw [List.mem_singleton] at hy; subst hy; exact absurd rfl hk
  · unfold nO21 at hk
    cases hgx : gv21 x with
    | false =>
      rw [hgx] at hk
      obtain ⟨y, hy, r⟩ := h.o2 k c (by simpa using hk)
      exact ⟨y, List.mem_append_left _ hy, r⟩
    | true =>
      rw [hgx] at hk
      by_cases hkk : k = (x.po, x.ge)
      · subst hkk
        simp only [if_true, up21_same, Option.some.injEq] at hk
        exact ⟨x, by simp, hgx, rfl, hk⟩
      · simp only [if_true, up21_ne _ _ hkk] at hk
        obtain ⟨y, hy, r⟩ := h.o2 k c hk
        exact ⟨y, List.mem_append_left _ hy, r⟩
  · rw [tl21_nL, tm21_app, h.li]
    omega
/-- What is wrong with the event at a place. -/
def dF21 (l : List Ev) (j : Nat) : Int := match l[j]? with | none => 0 | some x => df21 (l.take j) x
theorem dF21_at {l : List Ev} {j : Nat} {x : Ev} (h : l[j]? = some x) : dF21 l j = df21 (l.take j) x := by unfold dF21; rw [h]
/-- What a look tells: the place of the first event that is wrong, and how. -/
def Lk21 (l : List Ev) (i f : Int) : Prop := (∃ j : Nat, j < l.length ∧ i = (j : Int) ∧ f = dF21 l j ∧ f ≠ 0 ∧ ∀ k, k < j → dF21 l k = 0) ∨ (i = -1 ∧ f = 0 ∧ ∀ k, k < l.length → dF21 l k = 0)
theorem Lk21.one {l : List Ev} {i f i' f' : Int} (h : Lk21 l i f) (h' : Lk21 l i' f') : i = i' ∧ f = f' := by
  rcases h with ⟨j, hj, rfl, rfl, hf, ha⟩ | ⟨rfl, rfl, ha⟩ <;> rcases h' with ⟨j', hj', rfl, rfl, hf', ha'⟩ | ⟨rfl, rfl, ha'⟩
  · rcases Nat.lt_trichotomy j j' with h1 | rfl | h1
    · exact absurd (ha' j h1) hf
    · exact ⟨rfl, rfl⟩
    · exact absurd (ha j' h1) hf'
  · exact absurd (ha' j hj) hf
  · exact absurd (ha j' hj') hf'
  · exact ⟨rfl, rfl⟩
theorem fresh21 {w0 w w' : World} {a b : Nat} (h : Chg (fun _ => False) w0 w) (hc : Chg (fun k => k = a ∨ k = b) w w') (hq : w0.heap.size ≤ a ∧ w0.heap.size ≤ b) : Chg (fun _ => False) w0 w' :=
  ⟨hc.os.trans h.os, hc.tape.trans h.tape, hc.output.trans h.output, Nat.le_trans h.size hc.size, fun i hi hn => (hc.block i (Nat.lt_of_lt_of_le hi h.size) (fun e => by omega)).trans (h.block i hi hn)⟩
/-- What Look hands back. -/
def LkP21 (l : List Ev) (w : World) (e : Ending) (w' : World) : Prop := ∃ i f, e = .returned (.tuple #[.int .i64 i, .int .i64 f]) ∧ Lk21 l i f ∧ Chg (fun _ => False) w w'
theorem take21 {l : List Ev} {j : Nat} {x : Ev} (h : l[j]? = some x) : l.take (j + 1) = l.take j ++ [x] := by rw [List.take_add_one, h]; rfl
set_option maxRecDepth 100000 in
set_option maxHeartbeats 8000000 in
theorem look21_any {w : World} {L : Option Addr} {m lc : Nat} {l : List Ev} (h : EvR w L m l) (hm : m ≤ 80) : Calls Try.prog 6 #[.slice L m lc] w (LkP21 l w) := by
  have HH := Lib.hid h
  have HL := Lib.hid h.1
  have HM := Lib.hid hm
  clear h
  have HP0 : Hid (PA (((w.alloc (.map #[] 0)).alloc (.map #[] 0)).alloc (.cells #[.map (some w.heap.size), .map (some (w.heap.size + 1))] 43)) (w.heap.size + 1 + 1) w.heap.size (w.heap.size + 1) (fun _ => none) (fun _ => none)) := Lib.hid (by
    have c1 := (Chg.refl (fun _ => False) (w.alloc (.map #[] 0))).alloc (.map #[] 0)
    have c2 := c1.alloc (.cells #[.map (some w.heap.size), .map (some (w.heap.size + 1))] 43)
    have n1 := GM.new (key := pk21) w
    have n2 := GM.new (key := ik21) (w.alloc (.map #[] 0))
    have e : (w.alloc (.map #[] 0)).heap.size = w.heap.size + 1 := by simp
    rw [e] at n2
    exact ⟨blk_new (by simp), n1.chg c2 id, n2.chg ((Chg.refl (fun _ => False) ((w.alloc (.map #[] 0)).alloc (.map #[] 0))).alloc _) id, by omega⟩)
  have HX0 := Lib.hid ((((Chg.refl (fun _ => False) w).alloc (.map #[] 0)).alloc (.map #[] 0)).alloc (.cells #[.map (some w.heap.size), .map (some (w.heap.size + 1))] 43))
  have hmm := @run_makeMap Try.prog
  go_enter Try.func6, Try.ntmps6
  go_upto_region 2 with fail
  generalize ((w.alloc (.map #[] 0)).alloc (.map #[] 0)).alloc (.cells #[.map (some w.heap.size), .map (some (w.heap.size + 1))] 43) = w1 at *
  have HQ : Hid (w.heap.size ≤ w.heap.size ∧ w.heap.size ≤ w.heap.size + 1) := Lib.hid (by omega)
  generalize w.heap.size + 1 + 1 = qp at *
  generalize w.heap.size + 1 = ql at *
  generalize hqo : w.heap.size = qo at HP0 HQ ⊢
  replace HQ : Hid (w.heap.size ≤ qo ∧ w.heap.size ≤ ql) := Lib.hid ⟨by omega, by have := HQ.out; omega⟩
  clear hqo
  go_wp2_with fail
  go_loopg [13] m (fun g i wr => ∃ (j : Nat) (fo : Int × Int → Option Int) (fl : Int → Option Int), g = m - j ∧ j ≤ m ∧ i = .int .i64 (j : Int) ∧ Hid (PA wr qp qo ql fo fl) ∧ Hid (In21 (l.take j) fo fl) ∧ Hid (∀ k, k < j → dF21 l k = 0) ∧ Hid (Chg (fun _ => False) w wr))
  case atStart => exact ⟨0, _, _, rfl, Nat.zero_le _, rfl, HP0, Lib.hid In21.nil, Lib.hid (fun k h => absurd h (by omega)), HX0⟩
  case round =>
    clear HP0 HX0
    obtain ⟨j, fo, fl, rfl, hj, rfl, HP0, HI, HN, HX0⟩ := hrel
    by_cases hlt : j < m
    · have hh := HH.out.chg HX0.out
      obtain ⟨ad, rfl, -⟩ := hh.2 (by omega)
      have hjl : j < l.length := by have := HL.out; omega
      have hx : l[j]? = some l[j] := List.getElem?_eq_getElem hjl
      generalize l[j] = x at *
      obtain ⟨z0, z1, z2, z3, z4, z5, z6, z7, z8, z9, z10, z11, z12⟩ := hh.at hx
      have HJ := Lib.hid hx
      have HF := Lib.hid ((HI.out.ft x).trans (dF21_at hx).symm)
      clear hx hh hjl
      have hca := (Chg.refl (fun _ => False) wr).alloc (.cells #[.int .i64 x.wh, .int .i64 x.ti, .int .i64 x.ch, .int .i64 x.po, .int .i64 x.ve, .int .i64 x.ki, .int .i64 x.id, .int .i64 x.og, .int .i64 x.fr, .int .i64 x.dn, .int .i64 x.tg, .int .i64 x.ge, .int .i64 x.sp] 38)
      have HB : Hid (Blk (wr.alloc (.cells #[.int .i64 x.wh, .int .i64 x.ti, .int .i64 x.ch, .int .i64 x.po, .int .i64 x.ve, .int .i64 x.ki, .int .i64 x.id, .int .i64 x.og, .int .i64 x.fr, .int .i64 x.dn, .int .i64 x.tg, .int .i64 x.ge, .int .i64 x.sp] 38)) wr.heap.size 38 x.cs) := Lib.hid (blk_new rfl)
      have HXA := Lib.hid (HX0.out.trans hca (fun _ _ e => e))
      have HPA := Lib.hid (HP0.out.keep hca)
      have HQB := Lib.hid (show ¬ (wr.heap.size = qo ∨ wr.heap.size = ql) by have := HP0.out.om.lt; have := HP0.out.lm.lt; omega)
      clear hca
      go_upto_region 5 with fail
      generalize wr.alloc (.cells #[.int .i64 x.wh, .int .i64 x.ti, .int .i64 x.ch, .int .i64 x.po, .int .i64 x.ve, .int .i64 x.ki, .int .i64 x.id, .int .i64 x.og, .int .i64 x.fr, .int .i64 x.dn, .int .i64 x.tg, .int .i64 x.ge, .int .i64 x.sp] 38) = wa at *
      generalize wr.heap.size = q at *
      clear z0 z1 z2 z3 z4 z5 z6 z7 z8 z9 z10 z11 z12
      have HA := Lib.hid (fun (W : World) (hW : Blk W q 38 x.cs) => ev_cells21 hW)
      obtain ⟨y0, y1, y2, y3, y4, y5, y6, y7, y8, y9, y10, y11, y12⟩ := HA.out _ HB.out
      have HFC := Lib.hid (fault21_any HPA.out x)
      replace HFC : Hid (Calls _ _ #[_, .agg #[.int .i64 x.wh, .int .i64 x.ti, .int .i64 x.ch, .int .i64 x.po, .int .i64 x.ve, .int .i64 x.ki, .int .i64 x.id, .int .i64 x.og, .int .i64 x.fr, .int .i64 x.dn, .int .i64 x.tg, .int .i64 x.ge, .int .i64 x.sp]] _ (fun e w' => e = .returned (.int .i64 (ft21 fo fl x)) ∧ Chg (fun _ => False) wa w')) := HFC
      have hnc : ∀ W, PA W qp qo ql fo fl → Calls Try.prog 13 #[.pointer (some ⟨qp, 0, none⟩), .agg #[.int .i64 x.wh, .int .i64 x.ti, .int .i64 x.ch, .int .i64 x.po, .int .i64 x.ve, .int .i64 x.ki, .int .i64 x.id, .int .i64 x.og, .int .i64 x.fr, .int .i64 x.dn, .int .i64 x.tg, .int .i64 x.ge, .int .i64 x.sp]] W (NtP W qp qo ql (nO21 fo x) (nL21 fl x)) := fun W hW => note21_any hW x (by
        have h1 := HI.out.li x.id
        have h2 := tm21_le x.id (l.take j)
        have h3 : (l.take j).length ≤ 80 := by rw [List.length_take]; have := HM.out; omega
        omega)
      have HNC := Lib.hid hnc
      clear hnc
      rw [HF.out] at HFC
      obtain ⟨d, hd⟩ : ∃ d, dF21 l j = d := ⟨_, rfl⟩
      have HD := Lib.hid hd
      rw [hd] at HFC
      clear hd
      by_cases hd0 : d = 0
      · subst hd0
        go_wp2_with fail
        refine HFC.out.mono ?_
        rintro e w5 ⟨rfl, hc⟩
        have HP5 := Lib.hid (HPA.out.keep hc)
        have HB5 := Lib.hid (HB.out.chg hc id)
        have HX5 := Lib.hid (HXA.out.trans hc (fun _ _ e => e))
        clear hc y0 y1 y2 y3 y4 y5 y6 y7 y8 y9 y10 y11 y12
        obtain ⟨y0, y1, y2, y3, y4, y5, y6, y7, y8, y9, y10, y11, y12⟩ := HA.out _ HB5.out
        have HNT := Lib.hid (HNC.out _ HP5.out)
        go_wp2_with fail
        refine HNT.out.mono ?_
        rintro e w6 ⟨rfl, hp6, hc6⟩
        have HP6 := Lib.hid hp6
        have HX6 := Lib.hid (fresh21 HX5.out hc6 (by have := HQ.out; omega))
        clear hp6 hc6 y0 y1 y2 y3 y4 y5 y6 y7 y8 y9 y10 y11 y12
        go_wp2_with fail
        go_roundg (m - (j + 1))
        case measure => omega
        case rel => exact ⟨j + 1, _, _, rfl, by omega, by go_num, HP6, Lib.hid (by rw [take21 HJ.out]; exact HI.out.next (by rw [← dF21_at HJ.out, HD.out]; decide)), Lib.hid (fun k hk => by
          by_cases e : k = j
          · rw [e]; exact HD.out
          · exact HN.out k (by omega)), HX6⟩
      · have td : (d != 0) = true := by simpa using hd0
        have HD0 := Lib.hid hd0
        clear hd0
        go_wp2_with fail
        refine HFC.out.mono ?_
        rintro e w5 ⟨rfl, hc⟩
        have HX5 := Lib.hid (HXA.out.trans hc (fun _ _ e => e))
        clear hc
        go_wp2_with fail
        exact bodyPost_ret (v := .tuple #[.int .i64 (j : Int), .int .i64 d]) (by simp [results, Try.results6, go_sem]) rfl ⟨_, _, rfl, .inl ⟨j, by have := HL.out; omega, rfl, HD.out.symm, HD0.out, HN.out⟩, HX5.out⟩
    · have : j = m := by omega
      subst this
      go_wp2_with fail
      exact bodyPost_ret (v := .tuple #[.int .i64 (-1), .int .i64 0]) (by simp [results, Try.results6, go_sem]) rfl ⟨_, _, rfl, .inr ⟨rfl, rfl, fun k hk => HN.out k (by have := HL.out; omega)⟩, HX0.out⟩

end Go.Proofs.Ytmfgbonlhoffaaa
