/-
  Plain lemmas on memory for the proofs of this seat: bytes as cells, what has changed between two worlds, slices that read as a list, an object of a slice and a bool behind a pointer. No condition.
-/
import Derived.Below
import Derived.OneCell
import Derived.Laws.OwnMore
import Derived.Deep.Draws
import Derived.Deep.AppendLies
import Derived.Maps.AppendAt
import Derived.RegionTactic
import Derived.OwnWalk
import Derived.Laws.IdiomStrings
import Derived.Laws.BytesString
namespace Go.Proofs.Ytmfgbonlhoffaaa
open Go.RowKit

/-- Bytes as cells. -/
def bcs (l : List UInt8) : List Value := l.map fun b => Value.int .u8 (b.toNat : Int)
/-- Numbers as cells. -/
def ics (l : List Int) : List Value := l.map fun b => Value.int .i64 b
theorem bcs_len (l : List UInt8) : (bcs l).length = l.length := by simp [bcs]
theorem ics_len (l : List Int) : (ics l).length = l.length := by simp [ics]
theorem bcs_app (l r : List UInt8) : bcs (l ++ r) = bcs l ++ bcs r := by simp [bcs]
theorem bcs_one (l : List UInt8) : ∀ u ∈ bcs l, u.oneCell' = true := by
  intro u hu
  simp only [bcs, List.mem_map] at hu
  obtain ⟨b, _, rfl⟩ := hu
  rfl
theorem bcs_at (l : List UInt8) (j : Nat) (h : j < l.length) : (bcs l)[j]? = some (.int .u8 ((l[j]).toNat : Int)) := by simp [bcs, h]
theorem ics_at (l : List Int) (j : Nat) (h : j < l.length) : (ics l)[j]? = some (.int .i64 l[j]) := by simp [ics, h]
theorem bcs_inj {l r : List UInt8} (h : bcs l = bcs r) : l = r := by
  unfold bcs at h
  refine (List.map_inj_right (fun a b hab => ?_)).1 h
  injection hab with _ hab
  exact UInt8.toNat_inj.1 (by omega)

/-- Outside the blocks of S, what was there is as it was. -/
structure Chg (S : Nat → Prop) (w w' : World) : Prop where
  os : w'.os = w.os
  tape : w'.tape = w.tape
  output : w'.output = w.output
  size : w.heap.size ≤ w'.heap.size
  block : ∀ k, k < w.heap.size → ¬ S k → w'.heap[k]? = w.heap[k]?

section
variable {S S' : Nat → Prop} {a w w' : World}
theorem Chg.refl (S : Nat → Prop) (w : World) : Chg S w w := ⟨rfl, rfl, rfl, Nat.le_refl _, fun _ _ _ => rfl⟩
theorem Chg.mono (h : Chg S a w) (hs : ∀ k, k < a.heap.size → S k → S' k) : Chg S' a w := ⟨h.os, h.tape, h.output, h.size, fun k hk hn => h.block k hk (fun e => hn (hs k hk e))⟩
theorem Chg.trans (h : Chg S a w) (k : Chg S' w w') (hs : ∀ i, i < a.heap.size → S' i → S i) : Chg S a w' :=
  ⟨k.os.trans h.os, k.tape.trans h.tape, k.output.trans h.output, Nat.le_trans h.size k.size,
    fun i hi hn => (k.block i (Nat.lt_of_lt_of_le hi h.size) (fun e => hn (hs i hi e))).trans (h.block i hi hn)⟩
theorem Chg.drew (h : Chg S a w) : Chg S a w.drew := ⟨h.os, h.tape, h.output, h.size, h.block⟩
theorem Chg.drewN (h : Chg S a w) (n : Nat) : Chg S a (w.drewN n) := ⟨h.os, h.tape, h.output, h.size, h.block⟩
theorem Chg.alloc (h : Chg S a w) (o : Obj) : Chg S a (w.alloc o) :=
  ⟨h.os, h.tape, h.output, Nat.le_trans h.size (by simp), fun k hk hn => (Below.heap_alloc w o k (Nat.lt_of_lt_of_le hk h.size)).trans (h.block k hk hn)⟩
theorem Chg.setCell (h : Chg S a w) {p : Addr} (hp : p.block < a.heap.size → S p.block) (u : Value) : Chg S a (w.setCell p u) :=
  ⟨h.os, h.tape, h.output, by simpa [World.setCell] using h.size, fun k hk hn => (Below.heap_setCell w p u k (by rintro rfl; exact hn (hp hk))).trans (h.block k hk hn)⟩
theorem Chg.put (h : Chg S a w) (p i : Nat) (hp : p < a.heap.size → S p) (u : Value) : Chg S a (w.setCell ⟨p, i, none⟩ u) := h.setCell (p := ⟨p, i, none⟩) hp u
theorem Chg.grown (h : Chg S a w) {row : Option Nat} (hg : w.grownBy w' row) (hr : ∀ k, row = some k → k < a.heap.size → S k) : Chg S a w' :=
  ⟨hg.os.trans h.os, hg.tape.trans h.tape, hg.output.trans h.output, Nat.le_trans h.size hg.size,
    fun k hk hn => (hg.block k (Nat.lt_of_lt_of_le hk h.size) (fun e => hn (hr k e.symm hk))).trans (h.block k hk hn)⟩
theorem Chg.of_below {B : Nat} (h : Below B a w) (hB : a.heap.size ≤ B) (S : Nat → Prop) : Chg S a w :=
  ⟨h.os, h.tape, h.output, h.size, fun k hk _ => h.block k (by omega)⟩
theorem Chg.below {B : Nat} (h : Chg S a w) (hB : B ≤ a.heap.size) (hs : ∀ k, S k → B ≤ k) : Below B a w :=
  ⟨h.os, h.tape, h.output, h.size, fun k hk => h.block k (by omega) (fun e => by have := hs k e; omega)⟩
theorem Chg.cell (h : Chg S a w) {p : Addr} (hp : p.block < a.heap.size) (hn : ¬ S p.block) : w.cell? p = a.cell? p := World.cell?_of_block (h.block _ hp hn)
theorem Chg.frozen (h : Chg S a w) {p : Addr} (hp : p.block < a.heap.size) (hn : ¬ S p.block) : w.frozen? p = a.frozen? p := World.frozen?_of_block (h.block _ hp hn)
end

theorem block_add (a : Addr) (n : Nat) : (a.add n).block = a.block := by unfold Addr.add; split <;> rfl
theorem off_add (a : Addr) (i j : Nat) : (a.add i).add j = a.add (i + j) := by
  unfold Addr.add
  by_cases hi : i = 0 <;> by_cases hj : j = 0 <;> simp [hi, hj, Nat.add_assoc]

/-- A slice's n elements, of one cell each, are the cells xs; they lie in blocks of S. -/
def Rds (w : World) (S : Nat → Prop) (A : Option Addr) (n : Nat) (xs : List Value) : Prop :=
  xs.length = n ∧ (0 < n → ∃ ad, A = some ad ∧ S ad.block ∧ ad.block < w.heap.size ∧ ∀ j u, xs[j]? = some u → w.cell? (ad.add j) = some u)

section
variable {w w' : World} {S S' : Nat → Prop} {n : Nat} {A : Option Addr} {xs : List Value}
theorem Rds.nil (w : World) (S : Nat → Prop) (A : Option Addr) : Rds w S A 0 [] := ⟨rfl, fun h => absurd h (by omega)⟩
theorem Rds.keep (h : Rds w S A n xs) (hz : w.heap.size ≤ w'.heap.size) (hk : ∀ k, S k → k < w.heap.size → w'.heap[k]? = w.heap[k]?) : Rds w' S A n xs := by
  refine ⟨h.1, fun hn => ?_⟩
  obtain ⟨ad, e, hs, hb, hc⟩ := h.2 hn
  refine ⟨ad, e, hs, by omega, fun j u hu => ?_⟩
  rw [← hc j u hu]
  exact World.cell?_of_block (by rw [block_add]; exact hk _ hs hb)
theorem Rds.chg (h : Rds w S A n xs) (hc : Chg S' w w') (hd : ∀ k, S k → ¬ S' k) : Rds w' S A n xs := h.keep hc.size fun k hs hk => hc.block k hk (hd k hs)
theorem Rds.mono (h : Rds w S A n xs) (hs : ∀ k, S k → S' k) : Rds w S' A n xs :=
  ⟨h.1, fun hn => by obtain ⟨ad, e, h1, hb, hc⟩ := h.2 hn; exact ⟨ad, e, hs _ h1, hb, hc⟩⟩
theorem Rds.drew (h : Rds w S A n xs) : Rds w.drew S A n xs := h
theorem Rds.drewN (h : Rds w S A n xs) (k : Nat) : Rds (w.drewN k) S A n xs := h
theorem Rds.alloc (h : Rds w S A n xs) (o : Obj) : Rds (w.alloc o) S A n xs := h.chg ((Chg.refl (fun _ => False) w).alloc o) (fun _ _ => id)
theorem Rds.cellAt (h : Rds w S A n xs) {k : Nat} (hk : k < n) : ∃ ad, A = some ad ∧ S ad.block ∧ ad.block < w.heap.size ∧ w.cell? (ad.add k) = xs[k]? := by
  obtain ⟨ad, e, hs, hb, hc⟩ := h.2 (by omega)
  have hl : k < xs.length := by have := h.1; omega
  exact ⟨ad, e, hs, hb, by rw [List.getElem?_eq_getElem hl]; exact hc k _ (List.getElem?_eq_getElem hl)⟩
/-- s[:k] -/
theorem Rds.take (h : Rds w S A n xs) (k : Nat) (hk : k ≤ n) : Rds w S A k (xs.take k) := by
  refine ⟨by rw [List.length_take, h.1]; omega, fun hn => ?_⟩
  obtain ⟨ad, e, hs, hb, hc⟩ := h.2 (by omega)
  refine ⟨ad, e, hs, hb, fun j u hu => hc j u ?_⟩
  rw [List.getElem?_take] at hu
  split at hu
  · exact hu
  · cases hu
/-- s[k:] -/
theorem Rds.drop (h : Rds w S A n xs) (k cap : Nat) (hk : k ≤ n) (hc : n ≤ cap) : Rds w S (if cap = k then A else A.map (·.add k)) (n - k) (xs.drop k) := by
  refine ⟨by rw [List.length_drop, h.1], fun hn => ?_⟩
  obtain ⟨ad, rfl, hs, hb, hcell⟩ := h.2 (by omega)
  rw [if_neg (by omega)]
  refine ⟨ad.add k, rfl, by rw [block_add]; exact hs, by rw [block_add]; exact hb, fun j u hu => ?_⟩
  rw [off_add]
  exact hcell _ u (by rw [← hu, List.getElem?_drop])
end

/-- The object of a slice and a bool behind a pointer: block p; its slice's bytes bs lie at o. -/
structure Ob (T e : TypeId) (w : World) (p : Nat) (o : Option Nat) (bs : List UInt8) (f : Bool) (A : Option Addr) (c : Nat) : Prop where
  blk : w.heap[p]? = some (.cells #[.slice A bs.length c, .bool f] T (0, 0))
  own : w.ownsRow 0 e 1 (.slice A bs.length c) bs.length (bcs bs)
  at_ : A.map (·.block) = o
  ne : o ≠ some p
/-- A writer: block p, its bytes at o; its state: none, if something was wrong; no more than N bytes. -/
def Wr (T e : TypeId) (w : World) (p : Nat) (o : Option Nat) (st : Option (List UInt8)) (N : Nat) : Prop :=
  ∃ bs f A c, Ob T e w p o bs f A c ∧ bs.length ≤ N ∧ (match st with | none => f = true | some b => f = false ∧ b = bs)
/-- What a writer changes: its own block, its bytes' block; where its bytes lie behind it: where they lay, nowhere, or in new memory. -/
def Mvd (p : Nat) (o o' : Option Nat) (w w' : World) : Prop := Chg (fun k => k = p ∨ o = some k) w w' ∧ (o' = o ∨ o' = none ∨ ∃ k, o' = some k ∧ w.heap.size ≤ k)

/-- What is owned reads as its cells. -/
theorem own_form {w : World} {base : Nat} {e : TypeId} {size n : Nat} {v : Value} {xs : List Value} (h : w.ownsRow base e size v n xs) : ∃ A c, v = .slice A n c ∧ n ≤ c ∧ c ≤ maxLen := by
  rcases h.2 with ⟨rfl, rfl⟩ | ⟨g, cap, cur, rfl, _, _, h1, h2, _⟩
  · exact ⟨none, 0, rfl, Nat.le_refl _, Nat.zero_le _⟩
  · exact ⟨_, _, rfl, h1, h2⟩
theorem own_rds {w : World} {base : Nat} {e : TypeId} {n c : Nat} {A : Option Addr} {xs : List Value} (h : w.ownsRow base e 1 (.slice A n c) n xs) : Rds w (fun k => A.map (·.block) = some k) A n xs := by
  refine ⟨by simpa using h.1, fun hn => ?_⟩
  have hlt := h.lt
  rcases h.2 with ⟨hv, rfl⟩ | ⟨g, cap, cur, hv, _⟩
  · omega
  · injection hv with hA hn hc
    subst hA
    have := hlt g rfl
    exact ⟨⟨g, 0, none⟩, rfl, rfl, this.2, h.cells (g := g) rfl⟩

/-- append of any slice onto what is owned: nothing is asked of the slice's address where it is empty. -/
theorem own_append {P : Program} (w : World) (base : Nat) (t ty e : TypeId) (i : TypeInfo) (z : Value) (bytes : Nat) (ht : P.underlying t = some (.slice e)) (hi : P.info? e = some i) (hz : i.zero = some z)
    (hsize : i.size = 1) (hby : i.bytes = bytes) (hzs : z.cells.size = 1) (v : Value) (n : Nat) (xs : List Value) (hown : w.ownsRow base e 1 v n xs)
    (S : Nat → Prop) (A : Option Addr) (m c : Nat) (news : List Value) (hr : Rds w S A m news) (h1 : ∀ u ∈ news, u.oneCell' = true)
    (h63 : n + m ≤ maxLen) (hbytes : (n + m) * bytes ≤ 140737488355328) (hbase : base ≤ w.heap.size) :
    ∃ v' w', (Builtin.append_ #[t, t] ty #[v, .slice A m c]).run P w = .ok v' w' ∧ w'.ownsRow base e 1 v' (n + m) (xs ++ news) ∧ w.grownBy w' v.ownBlock ∧
      (v'.ownBlock = v.ownBlock ∨ v'.ownBlock = some w.heap.size) := by
  rcases A with _ | ad
  · have hm : m = 0 := by
      rcases Nat.eq_zero_or_pos m with h0 | h0
      · exact h0
      · obtain ⟨ad, h, _⟩ := hr.2 h0
        cases h
    subst hm
    have hn : news = [] := List.eq_nil_of_length_eq_zero hr.1
    subst hn
    refine ⟨v, w, ?_, by simpa using hown, ⟨rfl, rfl, rfl, Nat.le_refl _, fun _ _ _ => rfl⟩, .inl rfl⟩
    rcases hown.2 with ⟨rfl, rfl⟩ | ⟨g, cap, cur, rfl, _, _, hnc, _⟩
    · simp [Builtin.append_, run_underlying ht, sizeOf, typeInfo, hi, Builtin.lenOf, Builtin.firstCells]
    · simp [Builtin.append_, run_underlying ht, sizeOf, typeInfo, hi, Builtin.lenOf, Builtin.firstCells, hnc, storeCells]
  · have hcells : ∀ j u, news[j]? = some u → w.cell? (ad.add j) = some u := by
      intro j u hu
      have hj : j < news.length := (List.getElem?_eq_some_iff.1 hu).1
      obtain ⟨ad', h, _, _, hc⟩ := hr.2 (by have := hr.1; omega)
      injection h with h
      subst h
      exact hc j u hu
    obtain ⟨v', w', hrun, h2, h3, _, h5⟩ := run_append_own_at (P := P) w base t ty e i z 1 bytes ht hi hz hsize hby hzs (by decide) v n xs hown ad m c news (by rw [hr.1, Nat.mul_one]) hcells h1 h63 hbytes hbase
    exact ⟨v', w', hrun, h2, h3, h5⟩

section
variable {P : Program} (w : World)
theorem wp_own_append {o : Oper} {a : Act} {K : Act → World → Prop} {Q : Exit → Act → World → Prop} (s x : Operand) (t : TypeId)
    (ho : o.op = .call { callee := .builtin .append, args := #[s, x], argTypes := #[t, t] })
    (base : Nat) (e : TypeId) (i : TypeInfo) (z : Value) (bytes : Nat) (ht : P.underlying t = some (.slice e)) (hi : P.info? e = some i) (hz : i.zero = some z)
    (hsize : i.size = 1) (hby : i.bytes = bytes) (hzs : z.cells.size = 1)
    (v : Value) (n : Nat) (xs : List Value) (hs : a.eval s = v) (hown : w.ownsRow base e 1 v n xs)
    (S : Nat → Prop) (A : Option Addr) (m c : Nat) (news : List Value) (hx : a.eval x = .slice A m c) (hr : Rds w S A m news) (h1 : ∀ u ∈ news, u.oneCell' = true)
    (h63 : n + m ≤ maxLen) (hbytes : (n + m) * bytes ≤ 140737488355328) (hbase : base ≤ w.heap.size)
    (h : ∀ v' w', w'.ownsRow base e 1 v' (n + m) (xs ++ news) → w.grownBy w' v.ownBlock → (v'.ownBlock = v.ownBlock ∨ v'.ownBlock = some w.heap.size) → K (a.put o.dst v') w') : o.wp P a w K Q := by
  obtain ⟨v', w', hrun, h2, h3, h4⟩ := own_append (P := P) w base t o.type e i z bytes ht hi hz hsize hby hzs v n xs hown S A m c news hr h1 h63 hbytes hbase
  unfold Oper.wp execOp
  simp only [ho, resolve, invoke, builtin, Sem.run_bind, Sem.run_pure, Result.andThen_ok, List.map_toArray, List.map_cons, List.map_nil, hs, hx, hrun]
  exact h v' w' h2 h3 h4
theorem wpList_own_append {ops : Array Oper} {rest : List Oper} {o : Oper} {a : Act} {Q : Exit → Act → World → Prop} (hgd : o.guard = none) (s x : Operand) (t : TypeId)
    (ho : o.op = .call { callee := .builtin .append, args := #[s, x], argTypes := #[t, t] })
    (base : Nat) (e : TypeId) (i : TypeInfo) (z : Value) (bytes : Nat) (ht : P.underlying t = some (.slice e)) (hi : P.info? e = some i) (hz : i.zero = some z)
    (hsize : i.size = 1) (hby : i.bytes = bytes) (hzs : z.cells.size = 1)
    (v : Value) (n : Nat) (xs : List Value) (hs : a.eval s = v) (hown : w.ownsRow base e 1 v n xs)
    (S : Nat → Prop) (A : Option Addr) (m c : Nat) (news : List Value) (hx : a.eval x = .slice A m c) (hr : Rds w S A m news) (h1 : ∀ u ∈ news, u.oneCell' = true)
    (h63 : n + m ≤ maxLen) (hbytes : (n + m) * bytes ≤ 140737488355328) (hbase : base ≤ w.heap.size)
    (h : ∀ v' w', w'.ownsRow base e 1 v' (n + m) (xs ++ news) → w.grownBy w' v.ownBlock → (v'.ownBlock = v.ownBlock ∨ v'.ownBlock = some w.heap.size) → wpList P ops Q rest (a.put o.dst v') w') : wpList P ops Q (o :: rest) a w :=
  wpList_plain hgd fun _ hK => wp_own_append w s x t ho base e i z bytes ht hi hz hsize hby hzs v n xs hs hown S A m c news hx hr h1 h63 hbytes hbase fun v' w' h2 h3 h4 => hK _ _ (h v' w' h2 h3 h4)
end

/-- The same, as one step of a region that draws its order. -/
theorem step_own_append {P : Program} (w : World) {ops : Array Oper} {o : Oper} {a : Act} {K : Act → World → Prop} {Q : Exit → Act → World → Prop} {E : Prop} (hgd : o.guard = none) (s x : Operand) (t : TypeId)
    (ho : o.op = .call { callee := .builtin .append, args := #[s, x], argTypes := #[t, t] })
    (base : Nat) (e : TypeId) (i : TypeInfo) (z : Value) (bytes : Nat) (ht : P.underlying t = some (.slice e)) (hi : P.info? e = some i) (hz : i.zero = some z)
    (hsize : i.size = 1) (hby : i.bytes = bytes) (hzs : z.cells.size = 1)
    (v : Value) (n : Nat) (xs : List Value) (hs : a.eval s = v) (hown : w.ownsRow base e 1 v n xs)
    (S : Nat → Prop) (A : Option Addr) (m c : Nat) (news : List Value) (hx : a.eval x = .slice A m c) (hr : Rds w S A m news) (h1 : ∀ u ∈ news, u.oneCell' = true)
    (h63 : n + m ≤ maxLen) (hbytes : (n + m) * bytes ≤ 140737488355328) (hbase : base ≤ w.heap.size)
    (h : ∀ v' w', w'.ownsRow base e 1 v' (n + m) (xs ++ news) → w.grownBy w' v.ownBlock → (v'.ownBlock = v.ownBlock ∨ v'.ownBlock = some w.heap.size) → K (a.put o.dst v') w') :
    if Region.wanted o (yielded ops a.tmps) = true then Oper.wp P o a w K Q else E := by
  rw [if_pos (by simp [Region.wanted, hgd])]
  exact wp_own_append w s x t ho base e i z bytes ht hi hz hsize hby hzs v n xs hs hown S A m c news hx hr h1 h63 hbytes hbase h

/-- A block that is just these cells. -/
def Blk (w : World) (g : Nat) (t : TypeId) (cs : Array Value) : Prop := w.heap[g]? = some (.cells cs t (0, 0))
section
variable {w w' : World} {g : Nat} {t : TypeId} {cs : Array Value}
theorem Blk.lt (h : Blk w g t cs) : g < w.heap.size := lt_of_block h
theorem Blk.cell (h : Blk w g t cs) (i : Nat) : w.cell? ⟨g, i, none⟩ = cs[i]? := cell_of_row w g i cs t (0, 0) h
theorem Blk.frozen (h : Blk w g t cs) (i : Nat) : w.frozen? ⟨g, i, none⟩ = false := by unfold Blk at h; simp [World.frozen?, h]
theorem Blk.new (w : World) (t : TypeId) (cs : Array Value) : Blk (w.alloc (.cells cs t)) w.heap.size t cs := heap_alloc_new w _
theorem Blk.drew (h : Blk w g t cs) : Blk w.drew g t cs := h
theorem Blk.drewN (h : Blk w g t cs) (n : Nat) : Blk (w.drewN n) g t cs := h
theorem Blk.alloc (h : Blk w g t cs) (o : Obj) : Blk (w.alloc o) g t cs := (Below.heap_alloc w o g h.lt).trans h
theorem Blk.set (h : Blk w g t cs) (i : Nat) (u : Value) : Blk (w.setCell ⟨g, i, none⟩ u) g t (cs.setIfInBounds i u) := by
  unfold Blk at h ⊢
  simp [World.setCell, Array.getElem?_modify, h]
theorem Blk.chg {S : Nat → Prop} (h : Blk w g t cs) (hc : Chg S w w') (hn : ¬ S g) : Blk w' g t cs := (hc.block g h.lt hn).trans h
end
theorem Blk.rds {w : World} {g : Nat} {t : TypeId} {cs : Array Value} (h : Blk w g t cs) : Rds w (fun k => k = g) (some ⟨g, 0, none⟩) cs.size cs.toList := by
  refine ⟨by simp, fun _ => ⟨⟨g, 0, none⟩, rfl, rfl, h.lt, fun j u hu => ?_⟩⟩
  have e : (⟨g, 0, none⟩ : Addr).add j = ⟨g, j, none⟩ := by unfold Addr.add; split <;> simp_all
  rw [e, h.cell]
  simpa using hu
theorem blk_grown {w w' : World} {g : Nat} {t : TypeId} {cs : Array Value} {row : Option Nat} (h : Blk w g t cs) (hg : w.grownBy w' row) (hne : row ≠ some g) : Blk w' g t cs := (hg.block g h.lt (fun e => hne e.symm)).trans h
theorem own_block (A : Option Addr) (n c : Nat) : (Value.slice A n c).ownBlock = A.map (·.block) := by cases A <;> rfl
theorem own_chg {S : Nat → Prop} {w w' : World} {base : Nat} {e : TypeId} {size n c : Nat} {A : Option Addr} {xs : List Value} (h : w.ownsRow base e size (.slice A n c) n xs) (hc : Chg S w w')
    (hn : ∀ k, A.map (·.block) = some k → ¬ S k) : w'.ownsRow base e size (.slice A n c) n xs := by
  refine ⟨h.1, ?_⟩
  rcases h.2 with h2 | ⟨g, cap, cur, hv, hg, hh, r⟩
  · exact .inl h2
  · refine .inr ⟨g, cap, cur, hv, hg, ?_, r⟩
    injection hv with hA
    subst hA
    rw [hc.block g (lt_of_block hh) (hn g rfl)]
    exact hh

theorem Mvd.refl (p : Nat) (o : Option Nat) (w : World) : Mvd p o o w w := ⟨Chg.refl _ _, .inl rfl⟩
theorem Mvd.trans {p : Nat} {o o1 o2 : Option Nat} {w w1 w2 : World} (h : Mvd p o o1 w w1) (k : Mvd p o1 o2 w1 w2) : Mvd p o o2 w w2 := by
  obtain ⟨hc, ho⟩ := h
  obtain ⟨kc, ko⟩ := k
  refine ⟨hc.trans kc ?_, ?_⟩
  · rintro i hi (rfl | hi2)
    · exact .inl rfl
    · rcases ho with rfl | rfl | ⟨j, rfl, hj⟩
      · exact .inr hi2
      · cases hi2
      · injection hi2 with hi2
        omega
  · have := hc.size
    rcases ko with rfl | rfl | ⟨j, rfl, hj⟩
    · exact ho
    · exact .inr (.inl rfl)
    · exact .inr (.inr ⟨j, rfl, by omega⟩)
theorem Mvd.pre {p : Nat} {o o1 : Option Nat} {w w1 w2 : World} (h : Chg (fun _ => False) w w1) (k : Mvd p o o1 w1 w2) : Mvd p o o1 w w2 := by
  refine ⟨(h.mono (fun _ _ e => e.elim)).trans k.1 (fun _ _ e => e), ?_⟩
  have := h.size
  rcases k.2 with h2 | h2 | ⟨j, h2, h3⟩
  · exact .inl h2
  · exact .inr (.inl h2)
  · exact .inr (.inr ⟨j, h2, by omega⟩)
theorem Mvd.post {p : Nat} {o o1 : Option Nat} {w w1 w2 : World} (h : Mvd p o o1 w w1) (k : Chg (fun _ => False) w1 w2) : Mvd p o o1 w w2 := ⟨h.1.trans k (fun _ _ e => e.elim), h.2⟩
theorem Rds.old {w : World} {S : Nat → Prop} {n : Nat} {A : Option Addr} {xs : List Value} (h : Rds w S A n xs) : Rds w (fun k => S k ∧ k < w.heap.size) A n xs :=
  ⟨h.1, fun hn => by obtain ⟨ad, e, hs, hb, hc⟩ := h.2 hn; exact ⟨ad, e, ⟨hs, hb⟩, hb, hc⟩⟩
theorem Wr.more {T e : TypeId} {w : World} {p : Nat} {o : Option Nat} {st : Option (List UInt8)} {N N' : Nat} (h : Wr T e w p o st N) (hN : N ≤ N') : Wr T e w p o st N' := by
  obtain ⟨bs, f, A, c, h1, h2, h3⟩ := h
  exact ⟨bs, f, A, c, h1, by omega, h3⟩
theorem Wr.lt {T e : TypeId} {w : World} {p : Nat} {o : Option Nat} {st : Option (List UInt8)} {N : Nat} (h : Wr T e w p o st N) : p < w.heap.size ∧ ∀ k, o = some k → k < w.heap.size := by
  obtain ⟨bs, f, A, c, h1, h2, h3⟩ := h
  refine ⟨lt_of_block h1.blk, fun k hk => ?_⟩
  have ho := h1.at_
  rw [hk] at ho
  have := h1.own.lt k (by cases A <;> simp_all [Value.ownBlock])
  exact this.2
theorem Ob.chg {S : Nat → Prop} {T e : TypeId} {w w' : World} {p : Nat} {o : Option Nat} {bs : List UInt8} {f : Bool} {A : Option Addr} {c : Nat} (h : Ob T e w p o bs f A c) (hc : Chg S w w')
    (hp : ¬ S p) (ho : ∀ k, o = some k → ¬ S k) : Ob T e w' p o bs f A c :=
  ⟨(hc.block p (lt_of_block h.blk) hp).trans h.blk, own_chg h.own hc (by rw [h.at_]; exact ho), h.at_, h.ne⟩
theorem Wr.chg {S : Nat → Prop} {T e : TypeId} {w w' : World} {p : Nat} {o : Option Nat} {st : Option (List UInt8)} {N : Nat} (h : Wr T e w p o st N) (hc : Chg S w w')
    (hp : ¬ S p) (ho : ∀ k, o = some k → ¬ S k) : Wr T e w' p o st N := by
  obtain ⟨bs, f, A, c, h1, h2, h3⟩ := h
  exact ⟨bs, f, A, c, h1.chg hc hp ho, h2, h3⟩
/-- Behind an append onto a writer's bytes, and the store of what it gave. -/
theorem ob_grown {T e : TypeId} {w0 w1 w' : World} {p : Nat} {o : Option Nat} {bs : List UInt8} {f : Bool} {A A3 : Option Addr} {c c3 k : Nat} {xs : List Value} (hob : Ob T e w0 p o bs f A c)
    (hc : Chg (fun _ => False) w0 w1) (new : List UInt8) (hx : xs = bcs new) (hk : k = new.length) (hown : w'.ownsRow 0 e 1 (.slice A3 (bs.length + k) c3) (bs.length + k) (bcs bs ++ xs))
    (hg : w1.grownBy w' (Value.slice A bs.length c).ownBlock)
    (hat : (Value.slice A3 (bs.length + k) c3).ownBlock = (Value.slice A bs.length c).ownBlock ∨ (Value.slice A3 (bs.length + k) c3).ownBlock = some w1.heap.size) :
    Ob T e (w'.setCell ⟨p, 0, none⟩ (.slice A3 (bs.length + k) c3)) p (A3.map (·.block)) (bs ++ new) f A3 c3 ∧ Mvd p o (A3.map (·.block)) w0 (w'.setCell ⟨p, 0, none⟩ (.slice A3 (bs.length + k) c3)) := by
  subst hx
  subst hk
  rw [own_block, own_block, hob.at_] at hat
  rw [own_block, hob.at_] at hg
  have hb : Blk w0 p T _ := hob.blk
  have hb1 : Blk w1 p T _ := hb.chg hc id
  have hb2 := blk_grown hb1 hg hob.ne
  have hlt := hb.lt
  have hne : A3.map (·.block) ≠ some p := by
    rcases hat with h | h
    · rw [h]; exact hob.ne
    · rw [h]
      have := hc.size
      intro e
      injection e with e
      omega
  have hc2 : Chg (fun k => k = p ∨ o = some k) w0 (w'.setCell ⟨p, 0, none⟩ (.slice A3 (bs.length + new.length) c3)) :=
    ((hc.mono (fun _ _ h => h.elim)).grown hg (fun k hk _ => .inr hk)).put p 0 (fun _ => .inl rfl) _
  refine ⟨⟨?_, ?_, rfl, hne⟩, hc2, ?_⟩
  · have := hb2.set 0 (.slice A3 (bs.length + new.length) c3)
    rw [List.length_append]
    exact this
  · rw [List.length_append, bcs_app]
    exact own_chg hown ((Chg.refl (fun k => k = p) w').put p 0 (fun _ => rfl) _) (fun k hk e => by subst e; exact hne hk)
  · rcases hat with h | h
    · exact .inl h
    · refine .inr (.inr ⟨_, h, hc.size⟩)

def RSt (strict f : Bool) (A : Option Addr) (n c : Nat) (bs : List UInt8) : Option (List UInt8) → Prop
  | none => f = true ∧ (strict = true → A = none ∧ n = 0 ∧ c = 0)
  | some b => f = false ∧ b = bs
/-- A reader: block p; what is left, bytes bs, lies in blocks of S; its state: none, if it failed (strict: it then has nothing). -/
def Rd (T : TypeId) (strict : Bool) (w : World) (p : Nat) (S : Nat → Prop) (st : Option (List UInt8)) : Prop :=
  ¬ S p ∧ ∃ A n c f bs, w.heap[p]? = some (.cells #[.slice A n c, .bool f] T (0, 0)) ∧ n ≤ c ∧ c ≤ maxLen ∧ n = bs.length ∧ Rds w S A n (bcs bs) ∧ RSt strict f A n c bs st
theorem Rd.lt {T : TypeId} {s : Bool} {w : World} {p : Nat} {S : Nat → Prop} {st : Option (List UInt8)} (h : Rd T s w p S st) : p < w.heap.size := by
  obtain ⟨_, A, n, c, f, bs, h, _⟩ := h
  exact lt_of_block h
theorem Rd.chg {S' : Nat → Prop} {T : TypeId} {s : Bool} {w w' : World} {p : Nat} {S : Nat → Prop} {st : Option (List UInt8)} (h : Rd T s w p S st) (hc : Chg S' w w') (hp : ¬ S' p) (hs : ∀ k, S k → ¬ S' k) : Rd T s w' p S st := by
  obtain ⟨h0, A, n, c, f, bs, h1, h2, h3, h4, h5, h6⟩ := h
  exact ⟨h0, A, n, c, f, bs, (hc.block p (lt_of_block h1) hp).trans h1, h2, h3, h4, h5.chg hc hs, h6⟩

theorem rds_alloc (w : World) (t : TypeId) (cs : Array Value) (fr : Nat × Nat) : Rds (w.alloc (.cells cs t fr)) (fun k => k = w.heap.size) (some ⟨w.heap.size, 0, none⟩) cs.size cs.toList := by
  have h : (w.alloc (.cells cs t fr)).heap[w.heap.size]? = some (.cells cs t fr) := heap_alloc_new w _
  refine ⟨by simp, fun _ => ⟨⟨w.heap.size, 0, none⟩, rfl, rfl, by simp, fun j u hu => ?_⟩⟩
  have e : (⟨w.heap.size, 0, none⟩ : Addr).add j = ⟨w.heap.size, j, none⟩ := by unfold Addr.add; split <;> simp_all
  rw [e, cell_of_row _ _ _ _ _ _ h]
  simpa using hu
/-- string(b) -/
theorem conv_str {P : Program} {w : World} {S : Nat → Prop} {A : Option Addr} {n c : Nat} {l : List UInt8} (src dst e : TypeId) (hs : P.underlying src = some (.slice e)) (he : P.underlying e = some (.int .u8)) (hd : P.underlying dst = some .string)
    (h : Rds w S A n (bcs l)) : (convert src dst (.slice A n c)).run P w = .ok (.string ⟨l.toArray⟩) w := by
  have hn : l.length = n := by have := h.1; rwa [bcs_len] at this
  subst hn
  rcases A with _ | a
  · have h0 : l.length = 0 := by
      rcases Nat.eq_zero_or_pos l.length with h0 | h0
      · exact h0
      · obtain ⟨_, e, _⟩ := h.2 h0
        cases e
    have hl : l = [] := List.eq_nil_of_length_eq_zero h0
    subst hl
    rw [run_convert_bytes_string w src dst e none _ c hs he hd]
    simp [Conv.bytesToString]
    rfl
  · refine run_convert_bytes_back w src dst e a c l hs he hd (fun j hj => ?_)
    obtain ⟨ad, e, _, _, hc⟩ := h.2 (by omega)
    injection e with e
    subst e
    exact hc j _ (bcs_at l j hj)
theorem wr_new (T e : TypeId) (w : World) : Wr T e (w.alloc (.cells #[.slice none 0 0, .bool false] T)) w.heap.size none (some []) 0 :=
  ⟨[], false, none, 0, ⟨heap_alloc_new w _, World.ownsRow_nil _ 0 e 1, rfl, by simp⟩, Nat.le_refl _, rfl, rfl⟩
theorem own_rds2 {w : World} {base : Nat} {e : TypeId} {n c : Nat} {A : Option Addr} {xs : List Value} (h : w.ownsRow base e 1 (.slice A n c) n xs) : Rds w (fun k => base ≤ k ∧ k < w.heap.size) A n xs := by
  refine (own_rds h).mono fun k hk => ?_
  have hlt := h.lt
  rw [own_block] at hlt
  exact hlt k hk
theorem own_nil {w : World} {base : Nat} {e : TypeId} {n c : Nat} {A : Option Addr} {xs : List Value} (h : w.ownsRow base e 1 (.slice A n c) n xs) : A = none → c = 0 := by
  rintro rfl
  rcases h.2 with ⟨e, _⟩ | ⟨g, cap, cur, e, _⟩
  · injection e
  · injection e with e
    cases e

theorem fresh_mvd {p : Nat} {o o' : Option Nat} {w0 w w' : World} (h : Chg (fun _ => False) w0 w) (m : Mvd p o o' w w') (hp : w0.heap.size ≤ p) (ho : ∀ k, o = some k → w0.heap.size ≤ k) :
    Chg (fun _ => False) w0 w' ∧ (∀ k, o' = some k → w0.heap.size ≤ k) := by
  refine ⟨h.trans m.1 (fun i hi hs => ?_), fun k hk => ?_⟩
  · rcases hs with rfl | hs
    · omega
    · have := ho i hs
      omega
  · rcases m.2 with e | e | ⟨j, e, hj⟩
    · exact ho k (by rw [← e, hk])
    · rw [e] at hk; cases hk
    · rw [e] at hk
      injection hk with hk
      have := h.size
      omega
theorem fresh_set {p : Nat} {w0 w w' : World} (h : Chg (fun _ => False) w0 w) (m : Chg (fun k => k = p) w w') (hp : w0.heap.size ≤ p) : Chg (fun _ => False) w0 w' :=
  h.trans m (fun i hi hs => by subst hs; omega)

theorem own_cap {w : World} {base : Nat} {e : TypeId} {size n c : Nat} {A : Option Addr} {xs : List Value} (h : w.ownsRow base e size (.slice A n c) n xs) : n ≤ c ∧ c ≤ maxLen := by
  obtain ⟨_, _, hv, h1, h2⟩ := own_form h
  injection hv with _ _ hv
  subst hv
  exact ⟨h1, h2⟩

end Go.Proofs.Ytmfgbonlhoffaaa
