/-
  Plain lemmas on memory for the proofs of this seat: bytes as cells, what has changed between two worlds, slices that read as a list, an object of a slice and a bool behind a pointer. No condition.
  The plain functions that the writers compute, and lemmas on them. No condition.
  Plain lemmas on memory, second part. No condition.
  Walks: buf.wide, (*buf.Writer).fail. No condition but the memory that the receiver names.
  Walks: (*buf.Writer).Put. Conditions: the receiver is a writer in memory, its bytes and what is written are bounded.
  Walks: (*buf.Writer).Put, Bytes, Done on any writer, slices.Clone of bytes. Conditions: the receiver is a writer in memory or nil, its bytes and what is written are bounded.
  Walks: (*buf.Writer).Bytes on any writer. Conditions: the receiver is a writer in memory or nil, its bytes and what is written are bounded.
  Walks: (*buf.Reader).fail, take. Conditions: the receiver is a reader in memory.
  Walks: (*buf.Reader).Get. Conditions: the receiver is a reader in memory or nil.
  Walks: (*buf.Reader).Get on any number, Bytes, Rest, Done; buf.Read. Conditions: the receiver is a reader in memory or nil.
  Plain lemmas: what was written is read. No condition.
  Arguments that are slices of numbers, opened to what the walks ask. No condition.
  Walks: the document's reader: (*rutterref01.Reader).Get, Bytes, Rest, Done. Conditions: the receiver is such a reader in memory.
  Walks: the document's reader: (*rutterref01.Reader).Bytes, Rest, Done. Conditions: the receiver is such a reader in memory.
  Walks: the document's writer: rutterref01.Fits, One, (*rutterref01.Writer).Put, Puts, Bytes, Done. Conditions: the receiver is such a writer in memory, its bytes are bounded.
  Walks: ether.within, ether.Right, Many, MAC; rutterref02.Right. Conditions: the frame's numbers are of their kinds.
  Walks: ether.Right, Many, MAC; rutterref02.Right; rutterlaw02.Fits. Conditions: the frame's numbers are of their kinds.
  Walks: bytes.Equal, ether.Same, rutterref02.Same. Conditions: the bytes are read in memory.
  Walks: rutterref02.Bytes, Parse. Conditions: the frame may be; the bytes are read in memory.
  Plain lemmas: a frame's bytes, there and back. No condition.
  Walks: the closures of arp.announcers, rutterlaw03.Of, rutterref03.Right, and the plain functions of an arp. Conditions: what a closure captured is an arp in memory.
  Plain functions of an arp's bytes, and lemmas on them. No condition.
  Plain functions of a datagram: the check of bytes, and a flow's head; lemmas on them. No condition.
  Walks: inet.Check, rutterref04.Check. Conditions: the bytes are read in memory, not more than 100000.
  Walks: inet.port, inet.Right, inet.Back, rutterref04.Right, Back. Conditions: none.
-/
import Derived.Below
import Derived.OneCell
import Derived.Laws.OwnMore
import Derived.Deep.Draws
import Derived.Deep.AppendLies
import Derived.Maps.AppendAt
import Derived.RegionTactic
import Derived.OwnWalk
import Derived.Laws.IdiomStrings
import Derived.Laws.BytesString
import Derived.Laws.BitsAllLaws
import Derived.Test.YtimgnogacanifaaGreatRows
import Derived.WalkKit
import Derived.WalkSpells
import Derived.WalkLawsBesides
import Derived.Lib.Hide
import Derived.ChangeAlike
import Derived.Deep.RegionHeld3
import Derived.Deep.RegionLaw
import Derived.Deep.RegionWith
import Derived.Deep.LoopGhost
import Derived.Outline
import Derived.IntWalk
import Derived.Laws.ShiftsVar
import Derived.ProofKit
import Derived.OpenShut
import Derived.Deep.Slices
import Derived.Deep.Fields
import Derived.LoopTactic
section
namespace Go.Proofs.YtimgnogacanifaaGreat
open Go.RowKit

/-- Bytes as cells. -/
def bcs (l : List UInt8) : List Value := l.map fun b => Value.int .u8 (b.toNat : Int)
/-- Numbers as cells. -/
def ics (l : List Int) : List Value := l.map fun b => Value.int .i64 b
theorem bcs_len (l : List UInt8) : (bcs l).length = l.length := by simp [bcs]
theorem ics_len (l : List Int) : (ics l).length = l.length := by simp [ics]
theorem bcs_app (l r : List UInt8) : bcs (l ++ r) = bcs l ++ bcs r := by simp [bcs]
theorem bcs_one (l : List UInt8) : ∀ u ∈ bcs l, u.oneCell' = true := by
  intro u hu
  simp only [bcs, List.mem_map] at hu
  obtain ⟨b, _, rfl⟩ := hu
  rfl
theorem bcs_at (l : List UInt8) (j : Nat) (h : j < l.length) : (bcs l)[j]? = some (.int .u8 ((l[j]).toNat : Int)) := by simp [bcs, h]
theorem ics_at (l : List Int) (j : Nat) (h : j < l.length) : (ics l)[j]? = some (.int .i64 l[j]) := by simp [ics, h]
theorem bcs_inj {l r : List UInt8} (h : bcs l = bcs r) : l = r := by
  unfold bcs at h
  refine (List.map_inj_right (fun a b hab => ?_)).1 h
  injection hab with _ hab
  exact UInt8.toNat_inj.1 (by omega)

/-- Outside the blocks of S, what was there is as it was. -/
structure Chg (S : Nat → Prop) (w w' : World) : Prop where
  os : w'.os = w.os
  tape : w'.tape = w.tape
  output : w'.output = w.output
  size : w.heap.size ≤ w'.heap.size
  block : ∀ k, k < w.heap.size → ¬ S k → w'.heap[k]? = w.heap[k]?

section
variable {S S' : Nat → Prop} {a w w' : World}
theorem Chg.refl (S : Nat → Prop) (w : World) : Chg S w w := ⟨rfl, rfl, rfl, Nat.le_refl _, fun _ _ _ => rfl⟩
theorem Chg.mono (h : Chg S a w) (hs : ∀ k, k < a.heap.size → S k → S' k) : Chg S' a w := ⟨h.os, h.tape, h.output, h.size, fun k hk hn => h.block k hk (fun e => hn (hs k hk e))⟩
theorem Chg.trans (h : Chg S a w) (k : Chg S' w w') (hs : ∀ i, i < a.heap.size → S' i → S i) : Chg S a w' :=
  ⟨k.os.trans h.os, k.tape.trans h.tape, k.output.trans h.output, Nat.le_trans h.size k.size,
    fun i hi hn => (k.block i (Nat.lt_of_lt_of_le hi h.size) (fun e => hn (hs i hi e))).trans (h.block i hi hn)⟩
theorem Chg.drew (h : Chg S a w) : Chg S a w.drew := ⟨h.os, h.tape, h.output, h.size, h.block⟩
theorem Chg.drewN (h : Chg S a w) (n : Nat) : Chg S a (w.drewN n) := ⟨h.os, h.tape, h.output, h.size, h.block⟩
theorem Chg.alloc (h : Chg S a w) (o : Obj) : Chg S a (w.alloc o) :=
  ⟨h.os, h.tape, h.output, Nat.le_trans h.size (by simp), fun k hk hn => (Below.heap_alloc w o k (Nat.lt_of_lt_of_le hk h.size)).trans (h.block k hk hn)⟩
theorem Chg.setCell (h : Chg S a w) {p : Addr} (hp : p.block < a.heap.size → S p.block) (u : Value) : Chg S a (w.setCell p u) :=
  ⟨h.os, h.tape, h.output, by simpa [World.setCell] using h.size, fun k hk hn => (Below.heap_setCell w p u k (by rintro rfl; exact hn (hp hk))).trans (h.block k hk hn)⟩
theorem Chg.put (h : Chg S a w) (p i : Nat) (hp : p < a.heap.size → S p) (u : Value) : Chg S a (w.setCell ⟨p, i, none⟩ u) := h.setCell (p := ⟨p, i, none⟩) hp u
theorem Chg.grown (h : Chg S a w) {row : Option Nat} (hg : w.grownBy w' row) (hr : ∀ k, row = some k → k < a.heap.size → S k) : Chg S a w' :=
  ⟨hg.os.trans h.os, hg.tape.trans h.tape, hg.output.trans h.output, Nat.le_trans h.size hg.size,
    fun k hk hn => (hg.block k (Nat.lt_of_lt_of_le hk h.size) (fun e => hn (hr k e.symm hk))).trans (h.block k hk hn)⟩
theorem Chg.of_below {B : Nat} (h : Below B a w) (hB : a.heap.size ≤ B) (S : Nat → Prop) : Chg S a w :=
  ⟨h.os, h.tape, h.output, h.size, fun k hk _ => h.block k (by omega)⟩
theorem Chg.below {B : Nat} (h : Chg S a w) (hB : B ≤ a.heap.size) (hs : ∀ k, S k → B ≤ k) : Below B a w :=
  ⟨h.os, h.tape, h.output, h.size, fun k hk => h.block k (by omega) (fun e => by have := hs k e; omega)⟩
theorem Chg.cell (h : Chg S a w) {p : Addr} (hp : p.block < a.heap.size) (hn : ¬ S p.block) : w.cell? p = a.cell? p := World.cell?_of_block (h.block _ hp hn)
theorem Chg.frozen (h : Chg S a w) {p : Addr} (hp : p.block < a.heap.size) (hn : ¬ S p.block) : w.frozen? p = a.frozen? p := World.frozen?_of_block (h.block _ hp hn)
end

theorem block_add (a : Addr) (n : Nat) : (a.add n).block = a.block := by unfold Addr.add; split <;> rfl
theorem off_add (a : Addr) (i j : Nat) : (a.add i).add j = a.add (i + j) := by
  unfold Addr.add
  by_cases hi : i = 0 <;> by_cases hj : j = 0 <;> simp [hi, hj, Nat.add_assoc]

/-- A slice's n elements, of one cell each, are the cells xs; they lie in blocks of S. -/
def Rds (w : World) (S : Nat → Prop) (A : Option Addr) (n : Nat) (xs : List Value) : Prop :=
  xs.length = n ∧ (0 < n → ∃ ad, A = some ad ∧ S ad.block ∧ ad.block < w.heap.size ∧ ∀ j u, xs[j]? = some u → w.cell? (ad.add j) = some u)

section
variable {w w' : World} {S S' : Nat → Prop} {n : Nat} {A : Option Addr} {xs : List Value}
theorem Rds.nil (w : World) (S : Nat → Prop) (A : Option Addr) : Rds w S A 0 [] := ⟨rfl, fun h => absurd h (by omega)⟩
theorem Rds.keep (h : Rds w S A n xs) (hz : w.heap.size ≤ w'.heap.size) (hk : ∀ k, S k → k < w.heap.size → w'.heap[k]? = w.heap[k]?) : Rds w' S A n xs := by
  refine ⟨h.1, fun hn => ?_⟩
  obtain ⟨ad, e, hs, hb, hc⟩ := h.2 hn
  refine ⟨ad, e, hs, by omega, fun j u hu => ?_⟩
  rw [← hc j u hu]
  exact World.cell?_of_block (by rw [block_add]; exact hk _ hs hb)
theorem Rds.chg (h : Rds w S A n xs) (hc : Chg S' w w') (hd : ∀ k, S k → ¬ S' k) : Rds w' S A n xs := h.keep hc.size fun k hs hk => hc.block k hk (hd k hs)
theorem Rds.mono (h : Rds w S A n xs) (hs : ∀ k, S k → S' k) : Rds w S' A n xs :=
  ⟨h.1, fun hn => by obtain ⟨ad, e, h1, hb, hc⟩ := h.2 hn; exact ⟨ad, e, hs _ h1, hb, hc⟩⟩
theorem Rds.drew (h : Rds w S A n xs) : Rds w.drew S A n xs := h
theorem Rds.drewN (h : Rds w S A n xs) (k : Nat) : Rds (w.drewN k) S A n xs := h
theorem Rds.alloc (h : Rds w S A n xs) (o : Obj) : Rds (w.alloc o) S A n xs := h.chg ((Chg.refl (fun _ => False) w).alloc o) (fun _ _ => id)
theorem Rds.cellAt (h : Rds w S A n xs) {k : Nat} (hk : k < n) : ∃ ad, A = some ad ∧ S ad.block ∧ ad.block < w.heap.size ∧ w.cell? (ad.add k) = xs[k]? := by
  obtain ⟨ad, e, hs, hb, hc⟩ := h.2 (by omega)
  have hl : k < xs.length := by have := h.1; omega
  exact ⟨ad, e, hs, hb, by rw [List.getElem?_eq_getElem hl]; exact hc k _ (List.getElem?_eq_getElem hl)⟩
/-- s[:k] -/
theorem Rds.take (h : Rds w S A n xs) (k : Nat) (hk : k ≤ n) : Rds w S A k (xs.take k) := by
  refine ⟨by rw [List.length_take, h.1]; omega, fun hn => ?_⟩
  obtain ⟨ad, e, hs, hb, hc⟩ := h.2 (by omega)
  refine ⟨ad, e, hs, hb, fun j u hu => hc j u ?_⟩
  rw [List.getElem?_take] at hu
  split at hu
  · exact hu
  · cases hu
/-- s[k:] -/
theorem Rds.drop (h : Rds w S A n xs) (k cap : Nat) (hk : k ≤ n) (hc : n ≤ cap) : Rds w S (if cap = k then A else A.map (·.add k)) (n - k) (xs.drop k) := by
  refine ⟨by rw [List.length_drop, h.1], fun hn => ?_⟩
  obtain ⟨ad, rfl, hs, hb, hcell⟩ := h.2 (by omega)
  rw [if_neg (by omega)]
  refine ⟨ad.add k, rfl, by rw [block_add]; exact hs, by rw [block_add]; exact hb, fun j u hu => ?_⟩
  rw [off_add]
  exact hcell _ u (by rw [← hu, List.getElem?_drop])
end

/-- The object of a slice and a bool behind a pointer: block p; its slice's bytes bs lie at o. -/
structure Ob (T e : TypeId) (w : World) (p : Nat) (o : Option Nat) (bs : List UInt8) (f : Bool) (A : Option Addr) (c : Nat) : Prop where
  blk : w.heap[p]? = some (.cells #[.slice A bs.length c, .bool f] T (0, 0))
  own : w.ownsRow 0 e 1 (.slice A bs.length c) bs.length (bcs bs)
  at_ : A.map (·.block) = o
  ne : o ≠ some p
/-- A writer: block p, its bytes at o; its state: none, if something was wrong; no more than N bytes. -/
def Wr (T e : TypeId) (w : World) (p : Nat) (o : Option Nat) (st : Option (List UInt8)) (N : Nat) : Prop :=
  ∃ bs f A c, Ob T e w p o bs f A c ∧ bs.length ≤ N ∧ (match st with | none => f = true | some b => f = false ∧ b = bs)
/-- What a writer changes: its own block, its bytes' block; where its bytes lie behind it: where they lay, nowhere, or in new memory. -/
def Mvd (p : Nat) (o o' : Option Nat) (w w' : World) : Prop := Chg (fun k => k = p ∨ o = some k) w w' ∧ (o' = o ∨ o' = none ∨ ∃ k, o' = some k ∧ w.heap.size ≤ k)

/-- What is owned reads as its cells. -/
theorem own_form {w : World} {base : Nat} {e : TypeId} {size n : Nat} {v : Value} {xs : List Value} (h : w.ownsRow base e size v n xs) : ∃ A c, v = .slice A n c ∧ n ≤ c ∧ c ≤ maxLen := by
  rcases h.2 with ⟨rfl, rfl⟩ | ⟨g, cap, cur, rfl, _, _, h1, h2, _⟩
  · exact ⟨none, 0, rfl, Nat.le_refl _, Nat.zero_le _⟩
  · exact ⟨_, _, rfl, h1, h2⟩
theorem own_rds {w : World} {base : Nat} {e : TypeId} {n c : Nat} {A : Option Addr} {xs : List Value} (h : w.ownsRow base e 1 (.slice A n c) n xs) : Rds w (fun k => A.map (·.block) = some k) A n xs := by
  refine ⟨by simpa using h.1, fun hn => ?_⟩
  have hlt := h.lt
  rcases h.2 with ⟨hv, rfl⟩ | ⟨g, cap, cur, hv, _⟩
  · omega
  · injection hv with hA hn hc
    subst hA
    have := hlt g rfl
    exact ⟨⟨g, 0, none⟩, rfl, rfl, this.2, h.cells (g := g) rfl⟩

/-- append of any slice onto what is owned: nothing is asked of the slice's address where it is empty. -/
theorem own_append {P : Program} (w : World) (base : Nat) (t ty e : TypeId) (i : TypeInfo) (z : Value) (bytes : Nat) (ht : P.underlying t = some (.slice e)) (hi : P.info? e = some i) (hz : i.zero = some z)
    (hsize : i.size = 1) (hby : i.bytes = bytes) (hzs : z.cells.size = 1) (v : Value) (n : Nat) (xs : List Value) (hown : w.ownsRow base e 1 v n xs)
    (S : Nat → Prop) (A : Option Addr) (m c : Nat) (news : List Value) (hr : Rds w S A m news) (h1 : ∀ u ∈ news, u.oneCell' = true)
    (h63 : n + m ≤ maxLen) (hbytes : (n + m) * bytes ≤ 140737488355328) (hbase : base ≤ w.heap.size) :
    ∃ v' w', (Builtin.append_ #[t, t] ty #[v, .slice A m c]).run P w = .ok v' w' ∧ w'.ownsRow base e 1 v' (n + m) (xs ++ news) ∧ w.grownBy w' v.ownBlock ∧
      (v'.ownBlock = v.ownBlock ∨ v'.ownBlock = some w.heap.size) := by
  rcases A with _ | ad
  · have hm : m = 0 := by
      rcases Nat.eq_zero_or_pos m with h0 | h0
      · exact h0
      · obtain ⟨ad, h, _⟩ := hr.2 h0
        cases h
    subst hm
    have hn : news = [] := List.eq_nil_of_length_eq_zero hr.1
    subst hn
    refine ⟨v, w, ?_, by simpa using hown, ⟨rfl, rfl, rfl, Nat.le_refl _, fun _ _ _ => rfl⟩, .inl rfl⟩
    rcases hown.2 with ⟨rfl, rfl⟩ | ⟨g, cap, cur, rfl, _, _, hnc, _⟩
    · simp [Builtin.append_, run_underlying ht, sizeOf, typeInfo, hi, Builtin.lenOf, Builtin.firstCells]
    · simp [Builtin.append_, run_underlying ht, sizeOf, typeInfo, hi, Builtin.lenOf, Builtin.firstCells, hnc, storeCells]
  · have hcells : ∀ j u, news[j]? = some u → w.cell? (ad.add j) = some u := by
      intro j u hu
      have hj : j < news.length := (List.getElem?_eq_some_iff.1 hu).1
      obtain ⟨ad', h, _, _, hc⟩ := hr.2 (by have := hr.1; omega)
      injection h with h
      subst h
      exact hc j u hu
    obtain ⟨v', w', hrun, h2, h3, _, h5⟩ := run_append_own_at (P := P) w base t ty e i z 1 bytes ht hi hz hsize hby hzs (by decide) v n xs hown ad m c news (by rw [hr.1, Nat.mul_one]) hcells h1 h63 hbytes hbase
    exact ⟨v', w', hrun, h2, h3, h5⟩

section
variable {P : Program} (w : World)
theorem wp_own_append {o : Oper} {a : Act} {K : Act → World → Prop} {Q : Exit → Act → World → Prop} (s x : Operand) (t : TypeId)
    (ho : o.op = .call { callee := .builtin .append, args := #[s, x], argTypes := #[t, t] })
    (base : Nat) (e : TypeId) (i : TypeInfo) (z : Value) (bytes : Nat) (ht : P.underlying t = some (.slice e)) (hi : P.info? e = some i) (hz : i.zero = some z)
    (hsize : i.size = 1) (hby : i.bytes = bytes) (hzs : z.cells.size = 1)
    (v : Value) (n : Nat) (xs : List Value) (hs : a.eval s = v) (hown : w.ownsRow base e 1 v n xs)
    (S : Nat → Prop) (A : Option Addr) (m c : Nat) (news : List Value) (hx : a.eval x = .slice A m c) (hr : Rds w S A m news) (h1 : ∀ u ∈ news, u.oneCell' = true)
    (h63 : n + m ≤ maxLen) (hbytes : (n + m) * bytes ≤ 140737488355328) (hbase : base ≤ w.heap.size)
    (h : ∀ v' w', w'.ownsRow base e 1 v' (n + m) (xs ++ news) → w.grownBy w' v.ownBlock → (v'.ownBlock = v.ownBlock ∨ v'.ownBlock = some w.heap.size) → K (a.put o.dst v') w') : o.wp P a w K Q := by
  obtain ⟨v', w', hrun, h2, h3, h4⟩ := own_append (P := P) w base t o.type e i z bytes ht hi hz hsize hby hzs v n xs hown S A m c news hr h1 h63 hbytes hbase
  unfold Oper.wp execOp
  simp only [ho, resolve, invoke, builtin, Sem.run_bind, Sem.run_pure, Result.andThen_ok, List.map_toArray, List.map_cons, List.map_nil, hs, hx, hrun]
  exact h v' w' h2 h3 h4
theorem wpList_own_append {ops : Array Oper} {rest : List Oper} {o : Oper} {a : Act} {Q : Exit → Act → World → Prop} (hgd : o.guard = none) (s x : Operand) (t : TypeId)
    (ho : o.op = .call { callee := .builtin .append, args := #[s, x], argTypes := #[t, t] })
    (base : Nat) (e : TypeId) (i : TypeInfo) (z : Value) (bytes : Nat) (ht : P.underlying t = some (.slice e)) (hi : P.info? e = some i) (hz : i.zero = some z)
    (hsize : i.size = 1) (hby : i.bytes = bytes) (hzs : z.cells.size = 1)
    (v : Value) (n : Nat) (xs : List Value) (hs : a.eval s = v) (hown : w.ownsRow base e 1 v n xs)
    (S : Nat → Prop) (A : Option Addr) (m c : Nat) (news : List Value) (hx : a.eval x = .slice A m c) (hr : Rds w S A m news) (h1 : ∀ u ∈ news, u.oneCell' = true)
    (h63 : n + m ≤ maxLen) (hbytes : (n + m) * bytes ≤ 140737488355328) (hbase : base ≤ w.heap.size)
    (h : ∀ v' w', w'.ownsRow base e 1 v' (n + m) (xs ++ news) → w.grownBy w' v.ownBlock → (v'.ownBlock = v.ownBlock ∨ v'.ownBlock = some w.heap.size) → wpList P ops Q rest (a.put o.dst v') w') : wpList P ops Q (o :: rest) a w :=
  wpList_plain hgd fun _ hK => wp_own_append w s x t ho base e i z bytes ht hi hz hsize hby hzs v n xs hs hown S A m c news hx hr h1 h63 hbytes hbase fun v' w' h2 h3 h4 => hK _ _ (h v' w' h2 h3 h4)
end

/-- The same, as one step of a region that draws its order. -/
theorem step_own_append {P : Program} (w : World) {ops : Array Oper} {o : Oper} {a : Act} {K : Act → World → Prop} {Q : Exit → Act → World → Prop} {E : Prop} (hgd : o.guard = none) (s x : Operand) (t : TypeId)
    (ho : o.op = .call { callee := .builtin .append, args := #[s, x], argTypes := #[t, t] })
    (base : Nat) (e : TypeId) (i : TypeInfo) (z : Value) (bytes : Nat) (ht : P.underlying t = some (.slice e)) (hi : P.info? e = some i) (hz : i.zero = some z)
    (hsize : i.size = 1) (hby : i.bytes = bytes) (hzs : z.cells.size = 1)
    (v : Value) (n : Nat) (xs : List Value) (hs : a.eval s = v) (hown : w.ownsRow base e 1 v n xs)
    (S : Nat → Prop) (A : Option Addr) (m c : Nat) (news : List Value) (hx : a.eval x = .slice A m c) (hr : Rds w S A m news) (h1 : ∀ u ∈ news, u.oneCell' = true)
    (h63 : n + m ≤ maxLen) (hbytes : (n + m) * bytes ≤ 140737488355328) (hbase : base ≤ w.heap.size)
    (h : ∀ v' w', w'.ownsRow base e 1 v' (n + m) (xs ++ news) → w.grownBy w' v.ownBlock → (v'.ownBlock = v.ownBlock ∨ v'.ownBlock = some w.heap.size) → K (a.put o.dst v') w') :
    if Region.wanted o (yielded ops a.tmps) = true then Oper.wp P o a w K Q else E := by
  rw [if_pos (by simp [Region.wanted, hgd])]
  exact wp_own_append w s x t ho base e i z bytes ht hi hz hsize hby hzs v n xs hs hown S A m c news hx hr h1 h63 hbytes hbase h

/-- A block that is just these cells. -/
def Blk (w : World) (g : Nat) (t : TypeId) (cs : Array Value) : Prop := w.heap[g]? = some (.cells cs t (0, 0))
section
variable {w w' : World} {g : Nat} {t : TypeId} {cs : Array Value}
theorem Blk.lt (h : Blk w g t cs) : g < w.heap.size := lt_of_block h
theorem Blk.cell (h : Blk w g t cs) (i : Nat) : w.cell? ⟨g, i, none⟩ = cs[i]? := cell_of_row w g i cs t (0, 0) h
theorem Blk.frozen (h : Blk w g t cs) (i : Nat) : w.frozen? ⟨g, i, none⟩ = false := by unfold Blk at h; simp [World.frozen?, h]
theorem Blk.new (w : World) (t : TypeId) (cs : Array Value) : Blk (w.alloc (.cells cs t)) w.heap.size t cs := heap_alloc_new w _
theorem Blk.drew (h : Blk w g t cs) : Blk w.drew g t cs := h
theorem Blk.drewN (h : Blk w g t cs) (n : Nat) : Blk (w.drewN n) g t cs := h
theorem Blk.alloc (h : Blk w g t cs) (o : Obj) : Blk (w.alloc o) g t cs := (Below.heap_alloc w o g h.lt).trans h
theorem Blk.set (h : Blk w g t cs) (i : Nat) (u : Value) : Blk (w.setCell ⟨g, i, none⟩ u) g t (cs.setIfInBounds i u) := by
  unfold Blk at h ⊢
  simp [World.setCell, Array.getElem?_modify, h]
theorem Blk.chg {S : Nat → Prop} (h : Blk w g t cs) (hc : Chg S w w') (hn : ¬ S g) : Blk w' g t cs := (hc.block g h.lt hn).trans h
end
theorem Blk.rds {w : World} {g : Nat} {t : TypeId} {cs : Array Value} (h : Blk w g t cs) : Rds w (fun k => k = g) (some ⟨g, 0, none⟩) cs.size cs.toList := by
  refine ⟨by simp, fun _ => ⟨⟨g, 0, none⟩, rfl, rfl, h.lt, fun j u hu => ?_⟩⟩
  have e : (⟨g, 0, none⟩ : Addr).add j = ⟨g, j, none⟩ := by unfold Addr.add; split <;> simp_all
  rw [e, h.cell]
  simpa using hu
theorem blk_grown {w w' : World} {g : Nat} {t : TypeId} {cs : Array Value} {row : Option Nat} (h : Blk w g t cs) (hg : w.grownBy w' row) (hne : row ≠ some g) : Blk w' g t cs := (hg.block g h.lt (fun e => hne e.symm)).trans h
theorem own_block (A : Option Addr) (n c : Nat) : (Value.slice A n c).ownBlock = A.map (·.block) := by cases A <;> rfl
theorem own_chg {S : Nat → Prop} {w w' : World} {base : Nat} {e : TypeId} {size n c : Nat} {A : Option Addr} {xs : List Value} (h : w.ownsRow base e size (.slice A n c) n xs) (hc : Chg S w w')
    (hn : ∀ k, A.map (·.block) = some k → ¬ S k) : w'.ownsRow base e size (.slice A n c) n xs := by
  refine ⟨h.1, ?_⟩
  rcases h.2 with h2 | ⟨g, cap, cur, hv, hg, hh, r⟩
  · exact .inl h2
  · refine .inr ⟨g, cap, cur, hv, hg, ?_, r⟩
    injection hv with hA
    subst hA
    rw [hc.block g (lt_of_block hh) (hn g rfl)]
    exact hh

theorem Mvd.refl (p : Nat) (o : Option Nat) (w : World) : Mvd p o o w w := ⟨Chg.refl _ _, .inl rfl⟩
theorem Mvd.trans {p : Nat} {o o1 o2 : Option Nat} {w w1 w2 : World} (h : Mvd p o o1 w w1) (k : Mvd p o1 o2 w1 w2) : Mvd p o o2 w w2 := by
  obtain ⟨hc, ho⟩ := h
  obtain ⟨kc, ko⟩ := k
  refine ⟨hc.trans kc ?_, ?_⟩
  · rintro i hi (rfl | hi2)
    · exact .inl rfl
    · rcases ho with rfl | rfl | ⟨j, rfl, hj⟩
      · exact .inr hi2
      · cases hi2
      · injection hi2 with hi2
        omega
  · have := hc.size
    rcases ko with rfl | rfl | ⟨j, rfl, hj⟩
    · exact ho
    · exact .inr (.inl rfl)
    · exact .inr (.inr ⟨j, rfl, by omega⟩)
theorem Mvd.pre {p : Nat} {o o1 : Option Nat} {w w1 w2 : World} (h : Chg (fun _ => False) w w1) (k : Mvd p o o1 w1 w2) : Mvd p o o1 w w2 := by
  refine ⟨(h.mono (fun _ _ e => e.elim)).trans k.1 (fun _ _ e => e), ?_⟩
  have := h.size
  rcases k.2 with h2 | h2 | ⟨j, h2, h3⟩
  · exact .inl h2
  · exact .inr (.inl h2)
  · exact .inr (.inr ⟨j, h2, by omega⟩)
theorem Mvd.post {p : Nat} {o o1 : Option Nat} {w w1 w2 : World} (h : Mvd p o o1 w w1) (k : Chg (fun _ => False) w1 w2) : Mvd p o o1 w w2 := ⟨h.1.trans k (fun _ _ e => e.elim), h.2⟩
theorem Rds.old {w : World} {S : Nat → Prop} {n : Nat} {A : Option Addr} {xs : List Value} (h : Rds w S A n xs) : Rds w (fun k => S k ∧ k < w.heap.size) A n xs :=
  ⟨h.1, fun hn => by obtain ⟨ad, e, hs, hb, hc⟩ := h.2 hn; exact ⟨ad, e, ⟨hs, hb⟩, hb, hc⟩⟩
theorem Wr.more {T e : TypeId} {w : World} {p : Nat} {o : Option Nat} {st : Option (List UInt8)} {N N' : Nat} (h : Wr T e w p o st N) (hN : N ≤ N') : Wr T e w p o st N' := by
  obtain ⟨bs, f, A, c, h1, h2, h3⟩ := h
  exact ⟨bs, f, A, c, h1, by omega, h3⟩
theorem Wr.lt {T e : TypeId} {w : World} {p : Nat} {o : Option Nat} {st : Option (List UInt8)} {N : Nat} (h : Wr T e w p o st N) : p < w.heap.size ∧ ∀ k, o = some k → k < w.heap.size := by
  obtain ⟨bs, f, A, c, h1, h2, h3⟩ := h
  refine ⟨lt_of_block h1.blk, fun k hk => ?_⟩
  have ho := h1.at_
  rw [hk] at ho
  have := h1.own.lt k (by cases A <;> simp_all [Value.ownBlock])
  exact this.2
theorem Ob.chg {S : Nat → Prop} {T e : TypeId} {w w' : World} {p : Nat} {o : Option Nat} {bs : List UInt8} {f : Bool} {A : Option Addr} {c : Nat} (h : Ob T e w p o bs f A c) (hc : Chg S w w')
    (hp : ¬ S p) (ho : ∀ k, o = some k → ¬ S k) : Ob T e w' p o bs f A c :=
  ⟨(hc.block p (lt_of_block h.blk) hp).trans h.blk, own_chg h.own hc (by rw [h.at_]; exact ho), h.at_, h.ne⟩
theorem Wr.chg {S : Nat → Prop} {T e : TypeId} {w w' : World} {p : Nat} {o : Option Nat} {st : Option (List UInt8)} {N : Nat} (h : Wr T e w p o st N) (hc : Chg S w w')
    (hp : ¬ S p) (ho : ∀ k, o = some k → ¬ S k) : Wr T e w' p o st N := by
  obtain ⟨bs, f, A, c, h1, h2, h3⟩ := h
  exact ⟨bs, f, A, c, h1.chg hc hp ho, h2, h3⟩
/-- Behind an append onto a writer's bytes, and the store of what it gave. -/
theorem ob_grown {T e : TypeId} {w0 w1 w' : World} {p : Nat} {o : Option Nat} {bs : List UInt8} {f : Bool} {A A3 : Option Addr} {c c3 k : Nat} {xs : List Value} (hob : Ob T e w0 p o bs f A c)
    (hc : Chg (fun _ => False) w0 w1) (new : List UInt8) (hx : xs = bcs new) (hk : k = new.length) (hown : w'.ownsRow 0 e 1 (.slice A3 (bs.length + k) c3) (bs.length + k) (bcs bs ++ xs))
    (hg : w1.grownBy w' (Value.slice A bs.length c).ownBlock)
    (hat : (Value.slice A3 (bs.length + k) c3).ownBlock = (Value.slice A bs.length c).ownBlock ∨ (Value.slice A3 (bs.length + k) c3).ownBlock = some w1.heap.size) :
    Ob T e (w'.setCell ⟨p, 0, none⟩ (.slice A3 (bs.length + k) c3)) p (A3.map (·.block)) (bs ++ new) f A3 c3 ∧ Mvd p o (A3.map (·.block)) w0 (w'.setCell ⟨p, 0, none⟩ (.slice A3 (bs.length + k) c3)) := by
  subst hx
  subst hk
  rw [own_block, own_block, hob.at_] at hat
  rw [own_block, hob.at_] at hg
  have hb : Blk w0 p T _ := hob.blk
  have hb1 : Blk w1 p T _ := hb.chg hc id
  have hb2 := blk_grown hb1 hg hob.ne
  have hlt := hb.lt
  have hne : A3.map (·.block) ≠ some p := by
    rcases hat with h | h
    · rw [h]; exact hob.ne
    · rw [h]
      have := hc.size
      intro e
      injection e with e
      omega
  have hc2 : Chg (fun k => k = p ∨ o = some k) w0 (w'.setCell ⟨p, 0, none⟩ (.slice A3 (bs.length + new.length) c3)) :=
    ((hc.mono (fun _ _ h => h.elim)).grown hg (fun k hk _ => .inr hk)).put p 0 (fun _ => .inl rfl) _
  refine ⟨⟨?_, ?_, rfl, hne⟩, hc2, ?_⟩
  · have := hb2.set 0 (.slice A3 (bs.length + new.length) c3)
    rw [List.length_append]
    exact this
  · rw [List.length_append, bcs_app]
    exact own_chg hown ((Chg.refl (fun k => k = p) w').put p 0 (fun _ => rfl) _) (fun k hk e => by subst e; exact hne hk)
  · rcases hat with h | h
    · exact .inl h
    · refine .inr (.inr ⟨_, h, hc.size⟩)

def RSt (strict f : Bool) (A : Option Addr) (n c : Nat) (bs : List UInt8) : Option (List UInt8) → Prop
  | none => f = true ∧ (strict = true → A = none ∧ n = 0 ∧ c = 0)
  | some b => f = false ∧ b = bs
/-- A reader: block p; what is left, bytes bs, lies in blocks of S; its state: none, if it failed (strict: it then has nothing). -/
def Rd (T : TypeId) (strict : Bool) (w : World) (p : Nat) (S : Nat → Prop) (st : Option (List UInt8)) : Prop :=
  ¬ S p ∧ ∃ A n c f bs, w.heap[p]? = some (.cells #[.slice A n c, .bool f] T (0, 0)) ∧ n ≤ c ∧ c ≤ maxLen ∧ n = bs.length ∧ Rds w S A n (bcs bs) ∧ RSt strict f A n c bs st
theorem Rd.lt {T : TypeId} {s : Bool} {w : World} {p : Nat} {S : Nat → Prop} {st : Option (List UInt8)} (h : Rd T s w p S st) : p < w.heap.size := by
  obtain ⟨_, A, n, c, f, bs, h, _⟩ := h
  exact lt_of_block h
theorem Rd.chg {S' : Nat → Prop} {T : TypeId} {s : Bool} {w w' : World} {p : Nat} {S : Nat → Prop} {st : Option (List UInt8)} (h : Rd T s w p S st) (hc : Chg S' w w') (hp : ¬ S' p) (hs : ∀ k, S k → ¬ S' k) : Rd T s w' p S st := by
  obtain ⟨h0, A, n, c, f, bs, h1, h2, h3, h4, h5, h6⟩ := h
  exact ⟨h0, A, n, c, f, bs, (hc.block p (lt_of_block h1) hp).trans h1, h2, h3, h4, h5.chg hc hs, h6⟩

theorem rds_alloc (w : World) (t : TypeId) (cs : Array Value) (fr : Nat × Nat) : Rds (w.alloc (.cells cs t fr)) (fun k => k = w.heap.size) (some ⟨w.heap.size, 0, none⟩) cs.size cs.toList := by
  have h : (w.alloc (.cells cs t fr)).heap[w.heap.size]? = some (.cells cs t fr) := heap_alloc_new w _
  refine ⟨by simp, fun _ => ⟨⟨w.heap.size, 0, none⟩, rfl, rfl, by simp, fun j u hu => ?_⟩⟩
  have e : (⟨w.heap.size, 0, none⟩ : Addr).add j = ⟨w.heap.size, j, none⟩ := by unfold Addr.add; split <;> simp_all
  rw [e, cell_of_row _ _ _ _ _ _ h]
  simpa using hu
/-- string(b) -/
theorem conv_str {P : Program} {w : World} {S : Nat → Prop} {A : Option Addr} {n c : Nat} {l : List UInt8} (src dst e : TypeId) (hs : P.underlying src = some (.slice e)) (he : P.underlying e = some (.int .u8)) (hd : P.underlying dst = some .string)
    (h : Rds w S A n (bcs l)) : (convert src dst (.slice A n c)).run P w = .ok (.string ⟨l.toArray⟩) w := by
  have hn : l.length = n := by have := h.1; rwa [bcs_len] at this
  subst hn
  rcases A with _ | a
  · have h0 : l.length = 0 := by
      rcases Nat.eq_zero_or_pos l.length with h0 | h0
      · exact h0
      · obtain ⟨_, e, _⟩ := h.2 h0
        cases e
    have hl : l = [] := List.eq_nil_of_length_eq_zero h0
    subst hl
    rw [run_convert_bytes_string w src dst e none _ c hs he hd]
    simp [Conv.bytesToString]
    rfl
  · refine run_convert_bytes_back w src dst e a c l hs he hd (fun j hj => ?_)
    obtain ⟨ad, e, _, _, hc⟩ := h.2 (by omega)
    injection e with e
    subst e
    exact hc j _ (bcs_at l j hj)
theorem wr_new (T e : TypeId) (w : World) : Wr T e (w.alloc (.cells #[.slice none 0 0, .bool false] T)) w.heap.size none (some []) 0 :=
  ⟨[], false, none, 0, ⟨heap_alloc_new w _, World.ownsRow_nil _ 0 e 1, rfl, by simp⟩, Nat.le_refl _, rfl, rfl⟩
theorem own_rds2 {w : World} {base : Nat} {e : TypeId} {n c : Nat} {A : Option Addr} {xs : List Value} (h : w.ownsRow base e 1 (.slice A n c) n xs) : Rds w (fun k => base ≤ k ∧ k < w.heap.size) A n xs := by
  refine (own_rds h).mono fun k hk => ?_
  have hlt := h.lt
  rw [own_block] at hlt
  exact hlt k hk
theorem own_nil {w : World} {base : Nat} {e : TypeId} {n c : Nat} {A : Option Addr} {xs : List Value} (h : w.ownsRow base e 1 (.slice A n c) n xs) : A = none → c = 0 := by
  rintro rfl
  rcases h.2 with ⟨e, _⟩ | ⟨g, cap, cur, e, _⟩
  · injection e
  · injection e with e
    cases e

theorem fresh_mvd {p : Nat} {o o' : Option Nat} {w0 w w' : World} (h : Chg (fun _ => False) w0 w) (m : Mvd p o o' w w') (hp : w0.heap.size ≤ p) (ho : ∀ k, o = some k → w0.heap.size ≤ k) :
    Chg (fun _ => False) w0 w' ∧ (∀ k, o' = some k → w0.heap.size ≤ k) := by
  refine ⟨h.trans m.1 (fun i hi hs => ?_), fun k hk => ?_⟩
  · rcases hs with rfl | hs
    · omega
    · have := ho i hs
      omega
  · rcases m.2 with e | e | ⟨j, e, hj⟩
    · exact ho k (by rw [← e, hk])
    · rw [e] at hk; cases hk
    · rw [e] at hk
      injection hk with hk
      have := h.size
      omega
theorem fresh_set {p : Nat} {w0 w w' : World} (h : Chg (fun _ => False) w0 w) (m : Chg (fun k => k = p) w w') (hp : w0.heap.size ≤ p) : Chg (fun _ => False) w0 w' :=
  h.trans m (fun i hi hs => by subst hs; omega)

theorem own_cap {w : World} {base : Nat} {e : TypeId} {size n c : Nat} {A : Option Addr} {xs : List Value} (h : w.ownsRow base e size (.slice A n c) n xs) : n ≤ c ∧ c ≤ maxLen := by
  obtain ⟨_, _, hv, h1, h2⟩ := own_form h
  injection hv with _ _ hv
  subst hv
  exact ⟨h1, h2⟩

end Go.Proofs.YtimgnogacanifaaGreat
end

section
namespace Go.Proofs.YtimgnogacanifaaGreat

/-- A number of n bytes, the highest first. -/
def be (n x : Nat) : List UInt8 := (List.range n).map fun j => UInt8.ofNat (x / 2 ^ (8 * (n - 1 - j)))
theorem be_len (n x : Nat) : (be n x).length = n := by simp [be]
theorem be_take (n x j : Nat) (h : j < n) : (be n x).take (j + 1) = (be n x).take j ++ [UInt8.ofNat (x / 2 ^ (8 * (n - 1 - j)))] := by
  rw [List.take_succ_eq_append_getElem (by rw [be_len]; exact h)]
  simp [be]
/-- Does a number fit in n bytes? -/
def fits (n : Nat) (x : Int) : Bool := decide (0 ≤ x) && decide (x < 256 ^ n)
def put1 (n : Nat) (st : Option (List UInt8)) (x : Int) : Option (List UInt8) := st.bind fun b => if fits n x then some (b ++ be n x.toNat) else none
def puts (n : Nat) (l : List Int) (st : Option (List UInt8)) : Option (List UInt8) := l.foldl (put1 n) st
def putS (n : Int) (l : List Int) (st : Option (List UInt8)) : Option (List UInt8) := if 1 ≤ n ∧ n ≤ 8 then puts n.toNat l st else none
def bytesS (b : List UInt8) (st : Option (List UInt8)) : Option (List UInt8) := (putS 2 [(b.length : Int)] st).map (· ++ b)

theorem puts_none (n : Nat) (l : List Int) : puts n l none = none := by
  unfold puts
  induction l with
  | nil => rfl
  | cons x l ih => exact ih
theorem puts_take (n : Nat) (l : List Int) (st : Option (List UInt8)) (k : Nat) (h : k < l.length) : puts n (l.take (k + 1)) st = put1 n (puts n (l.take k) st) l[k] := by
  unfold puts
  rw [List.take_succ_eq_append_getElem h, List.foldl_append]
  rfl
theorem puts_fail (n : Nat) (l : List Int) (st : Option (List UInt8)) (k : Nat) (h : k < l.length) (hf : fits n l[k] = false) : puts n l st = none := by
  have e : puts n (l.take (k + 1)) st = none := by
    rw [puts_take n l st k h]
    unfold put1
    cases puts n (l.take k) st <;> simp [hf]
  have : puts n l st = puts n (l.drop (k + 1)) (puts n (l.take (k + 1)) st) := by
    unfold puts
    rw [← List.foldl_append, List.take_append_drop]
  rw [this, e, puts_none]
theorem puts_len (n : Nat) (l : List Int) (b c : List UInt8) (h : puts n l (some b) = some c) : c.length = b.length + n * l.length := by
  unfold puts at h
  induction l generalizing b with
  | nil => simp at h; subst h; simp
  | cons x l ih =>
    simp only [List.foldl_cons] at h
    by_cases hf : fits n x
    · have e : put1 n (some b) x = some (b ++ be n x.toNat) := by simp [put1, hf]
      rw [e] at h
      rw [ih _ h, List.length_append, be_len, List.length_cons, Nat.mul_succ]
      omega
    · have e : put1 n (some b) x = none := by simp [put1, hf]
      rw [e] at h
      have := puts_none n l
      unfold puts at this
      rw [this] at h
      cases h
/-- Go's test 'x>>(8*n) != 0'. -/
theorem shr_fits (n : Nat) (x : Int) (h8 : n ≤ 8) (hx : 0 ≤ x) : fits n x = (x / 2 ^ min (8 * (n : Int)).toNat 64 == 0) := by
  have e : min (8 * (n : Int)).toNat 64 = 8 * n := by omega
  rw [e]
  have e2 : (256 : Int) ^ n = 2 ^ (8 * n) := by
    rw [Int.pow_mul]
    rfl
  have hp : (0 : Int) < 2 ^ (8 * n) := Int.pow_pos (by decide)
  unfold fits
  rw [e2]
  have hd : decide (0 ≤ x) = true := by simpa using hx
  rw [hd, Bool.true_and]
  rw [Bool.eq_iff_iff]
  simp only [decide_eq_true_eq, beq_iff_eq]
  constructor
  · intro h
    exact Int.ediv_eq_zero_of_lt hx h
  · intro h
    by_cases h1 : x < 2 ^ (8 * n)
    · exact h1
    · exfalso
      have : 1 ≤ x / 2 ^ (8 * n) := Int.le_ediv_of_mul_le hp (by rw [Int.one_mul]; exact Int.not_lt.1 h1)
      omega
theorem byte_of (x : Int) (s : Nat) (hx : 0 ≤ x) : ((UInt8.ofNat (x.toNat / 2 ^ (8 * s))).toNat : Int) = IntKind.u8.wrap (x / 2 ^ (8 * s)) := by
  rw [IntKind.wrap_u8']
  obtain ⟨X, rfl⟩ := Int.eq_ofNat_of_zero_le hx
  rw [Int.toNat_natCast, UInt8.toNat_ofNat']
  simp

/-- What readers compute: what is told, and the state behind it. -/
def takeS (n : Nat) : Option (List UInt8) → List UInt8 × Option (List UInt8)
  | none => ([], none)
  | some b => if n ≤ b.length then (b.take n, some (b.drop n)) else ([], none)
def num (l : List UInt8) : Nat := l.foldl (fun x c => 256 * x + c.toNat) 0
def getS (n : Int) : Option (List UInt8) → Int × Option (List UInt8)
  | none => (0, none)
  | some b => if 1 ≤ n ∧ n ≤ 8 ∧ n.toNat ≤ b.length ∧ num (b.take n.toNat) < 9223372036854775808 then ((num (b.take n.toNat) : Int), some (b.drop n.toNat)) else (0, none)
def bytesR (most : Int) (st : Option (List UInt8)) : List UInt8 × Option (List UInt8) := if most < (getS 2 st).1 then ([], none) else takeS (getS 2 st).1.toNat (getS 2 st).2
def restS : Option (List UInt8) → List UInt8 × Option (List UInt8)
  | none => ([], none)
  | some b => (b, some [])
def doneS : Option (List UInt8) → Int
  | some [] => 0
  | _ => 2
theorem num_snoc (l : List UInt8) (c : UInt8) : num (l ++ [c]) = 256 * num l + c.toNat := by simp [num, List.foldl_append]
theorem num_lt (l : List UInt8) : num l < 256 ^ l.length := by
  suffices h : ∀ (l : List UInt8) (x : Nat), l.foldl (fun x c => 256 * x + c.toNat) x < 256 ^ l.length * (x + 1) by
    have := h l 0
    simpa [num] using this
  intro l
  induction l with
  | nil => intro x; simp
  | cons c l ih =>
    intro x
    have h1 := ih (256 * x + c.toNat)
    have h2 : c.toNat < 256 := c.toNat_lt
    have h3 : 256 ^ l.length * (256 * x + c.toNat + 1) ≤ 256 ^ l.length * (256 * (x + 1)) := Nat.mul_le_mul_left _ (by omega)
    simp only [List.foldl_cons, List.length_cons, Nat.pow_succ]
    rw [Nat.mul_assoc]
    omega
theorem num_take (l : List UInt8) (k : Nat) (h : k < l.length) : num (l.take (k + 1)) = 256 * num (l.take k) + (l[k]).toNat := by
  rw [List.take_succ_eq_append_getElem h, num_snoc]
theorem get_len (n : Int) (st : Option (List UInt8)) : 0 ≤ (getS n st).1 ∧ (getS n st).1 ≤ 9223372036854775807 := by
  unfold getS
  split
  · simp
  · split
    · rename_i h
      have := h.2.2.2
      constructor
      · exact Int.natCast_nonneg _
      · simp only; omega
    · simp

theorem take_len8 (n : Nat) (st : Option (List UInt8)) : (takeS n st).1.length ≤ n := by
  unfold takeS
  split
  · simp
  · split
    · simp only [List.length_take]; omega
    · simp
theorem get_take (n : Nat) (st : Option (List UInt8)) (h1 : 1 ≤ n) (h8 : n ≤ 8) :
    getS (n : Int) st = if num (takeS n st).1 < 9223372036854775808 then ((num (takeS n st).1 : Int), (takeS n st).2) else (0, none) := by
  unfold getS takeS
  rw [Int.toNat_natCast]
  split
  · rw [if_pos (by simp [num])]
    rfl
  · rename_i b
    by_cases hl : n ≤ b.length
    · rw [if_pos hl]
      by_cases hn : num (b.take n) < 9223372036854775808
      · rw [if_pos hn, if_pos ⟨by omega, by omega, hl, hn⟩]
      · rw [if_neg hn, if_neg (fun h => hn h.2.2.2)]
    · rw [if_neg hl, if_neg (fun h => hl h.2.2.1), if_pos (by simp [num])]
      rfl
theorem get_width (n : Int) (st : Option (List UInt8)) (h : n < 1 ∨ 8 < n) : getS n st = (0, none) := by
  unfold getS
  split
  · rfl
  · rw [if_neg (by omega)]

theorem or_byte (x c : Nat) (hx : x < 72057594037927936) (hc : c < 256) : bits .or .u64 ((x : Int) * 256) (c : Int) = ((256 * x + c : Nat) : Int) := by
  have e : ((x : Int) * 256) = ((256 * x : Nat) : Int) := by omega
  rw [e]
  have h := Nat.two_pow_add_eq_or_of_lt (i := 8) (b := c) (by omega) x
  have h2 : (256 * x) ||| c = 256 * x + c := h.symm
  show IntKind.u64.wrap ((BitVec.ofInt 64 ((256 * x : Nat) : Int) ||| BitVec.ofInt 64 ((c : Nat) : Int)).toNat : Int) = _
  rw [BitVec.toNat_or, BitVec.ofInt_natCast, BitVec.ofInt_natCast, BitVec.toNat_ofNat, BitVec.toNat_ofNat, Nat.mod_eq_of_lt (by omega), Nat.mod_eq_of_lt (by omega), h2, IntKind.wrap_u64]
  omega

end Go.Proofs.YtimgnogacanifaaGreat
end

section
namespace Go.Proofs.YtimgnogacanifaaGreat
open Go.RowKit

theorem Rd.mono {T : TypeId} {s : Bool} {w : World} {p : Nat} {S S' : Nat → Prop} {st : Option (List UInt8)} (h : Rd T s w p S st) (hs : ∀ k, S k → S' k) (hp : ¬ S' p) : Rd T s w p S' st := by
  obtain ⟨_, A, n, c, f, bs, h1, h2, h3, h4, h5, h6⟩ := h
  exact ⟨hp, A, n, c, f, bs, h1, h2, h3, h4, h5.mono hs, h6⟩

theorem rds_cut {w : World} {S : Nat → Prop} {A : Option Addr} {n : Nat} {l : List UInt8} (h : Rds w S A n (bcs l)) (hn : 1 ≤ n) : Rds w S A (n - 1) (bcs l.dropLast) := by
  have h2 := h.take (n - 1) (by omega)
  have hl : l.length = n := by have := h.1; rwa [bcs_len] at this
  have e : (bcs l).take (n - 1) = bcs l.dropLast := by
    unfold bcs
    rw [← List.map_take, List.dropLast_eq_take, hl]
  rwa [e] at h2

theorem rds_nil_ok {w : World} {S : Nat → Prop} {A : Option Addr} {n c : Nat} {xs : List Value} (h : Rds w S A n xs) (hn : 1 ≤ n) : A = none → c = 0 := by
  rintro rfl
  obtain ⟨_, e, _⟩ := h.2 (by omega)
  cases e

theorem grown_fresh {w0 w w' : World} {A : Option Addr} {n c base : Nat} {e : TypeId} {size m : Nat} {xs : List Value} (h : Chg (fun _ => False) w0 w) (hg : w.grownBy w' (Value.slice A n c).ownBlock)
    (hown : w.ownsRow base e size (.slice A m c) m xs) (hb : w0.heap.size ≤ base) : Chg (fun _ => False) w0 w' :=
  h.grown hg (fun k hk hlt => by
    rw [own_block] at hk
    have := (hown.lt k (by rw [own_block]; exact hk)).1
    omega)

/-- The bytes of a slice, as they stand in a world. -/
def strOf (w : World) (A : Option Addr) (n : Nat) : ByteArray :=
  ⟨((List.range n).map fun j => match A.bind (fun a => w.cell? (a.add j)) with
    | some (.int _ x) => UInt8.ofNat x.toNat
    | _ => 0).toArray⟩

theorem strOf_rds {w : World} {S : Nat → Prop} {A : Option Addr} {n : Nat} {s : List UInt8} (h : Rds w S A n (bcs s)) : strOf w A n = ⟨s.toArray⟩ := by
  have hl : s.length = n := by have := h.1; rwa [bcs_len] at this
  unfold strOf
  congr 1
  congr 1
  refine List.ext_getElem (by simp [hl]) (fun j h1 h2 => ?_)
  have hj : j < n := by simpa using h1
  obtain ⟨ad, rfl, _, _, hc⟩ := h.cellAt hj
  rw [bcs_at s j h2] at hc
  simp [hc]

theorem Rds.back {w0 w' : World} {S S' : Nat → Prop} {n : Nat} {A : Option Addr} {xs : List Value} (h : Rds w' S A n xs) (hc : Chg S' w0 w') (hS : ∀ k, S k → k < w0.heap.size ∧ ¬ S' k) : Rds w0 S A n xs := by
  refine ⟨h.1, fun hn => ?_⟩
  obtain ⟨ad, e, hs, hb, hcell⟩ := h.2 hn
  obtain ⟨h1, h2⟩ := hS _ hs
  refine ⟨ad, e, hs, h1, fun j u hu => ?_⟩
  rw [← hcell j u hu]
  exact (World.cell?_of_block (by rw [block_add]; exact hc.block _ h1 h2)).symm

theorem blk_new {w : World} {t : TypeId} {cs : Array Value} {g : Nat} (hg : g = w.heap.size) : Blk (w.alloc (.cells cs t)) g t cs := by
  subst hg
  exact Blk.new w t cs
theorem own_base {w : World} {b b' : Nat} {e : TypeId} {size n : Nat} {v : Value} {xs : List Value} (h : w.ownsRow b e size v n xs) (hb : b' ≤ b) : w.ownsRow b' e size v n xs := by
  refine ⟨h.1, ?_⟩
  rcases h.2 with h2 | ⟨g, cap, cur, hv, hg, r⟩
  · exact .inl h2
  · exact .inr ⟨g, cap, cur, hv, Nat.le_trans hb hg, r⟩

end Go.Proofs.YtimgnogacanifaaGreat
end

section
namespace Go.Proofs.YtimgnogacanifaaGreat
open Go.RowKit

def wideB (n : Int) : Bool := decide (1 ≤ n) && decide (n ≤ 8)

end Go.Proofs.YtimgnogacanifaaGreat
end

section
namespace Go.Proofs.YtimgnogacanifaaGreat
open Go.RowKit

theorem infoByte : (Tryz.prog.info? 5).map (fun i => (i.zero, i.size, i.bytes)) = some (some (.int .u8 0), 1, 1) := by kernel_rfl

theorem own_any {w : World} {o : Obj} {base : Nat} {e : TypeId} {size : Nat} {v : Value} {n : Nat} {xs : List Value} (h : w.ownsRow base e size v n xs) : (w.alloc o).drew.ownsRow base e size v n xs := h.alloc o
theorem rds_new (w : World) (t : TypeId) (u : Value) : Rds (w.alloc (.cells #[u] t)).drew (fun k => k = w.heap.size) (some ⟨w.heap.size, 0, none⟩) 1 [u] := (Blk.new w t #[u]).rds
theorem wr_none {T e : TypeId} {w : World} {p : Nat} (h : Blk w p T #[.slice none 0 0, .bool true]) (N : Nat) : Wr T e w p none none N :=
  ⟨[], true, none, 0, ⟨h, World.ownsRow_nil w 0 e 1, rfl, by simp⟩, Nat.zero_le _, rfl⟩
theorem wfail_mvd {p : Nat} {w w' : World} (h : Chg (fun k => k = p) w w') (o : Option Nat) : Mvd p o none w w' := ⟨h.mono fun _ _ e => .inl e, .inr (.inl rfl)⟩

end Go.Proofs.YtimgnogacanifaaGreat
end

section
namespace Go.Proofs.YtimgnogacanifaaGreat
open Go.RowKit

theorem rds_new1 (w : World) (t : TypeId) (cs : Array Value) (fr : Nat × Nat) (g : Nat) (hg : g = w.heap.size) (xs : List Value) (n : Nat) (hx : xs = cs.toList) (hn : n = cs.size) :
    Rds (w.alloc (.cells cs t fr)) (fun k => k = g) (some ⟨g, 0, none⟩) n xs := by
  subst hg
  subst hx
  subst hn
  exact rds_alloc w t cs fr

end Go.Proofs.YtimgnogacanifaaGreat
end

section
namespace Go.Proofs.YtimgnogacanifaaGreat
open Go.RowKit

theorem rds_one (w : World) (t : TypeId) (x : Int) : Rds (w.alloc (.cells #[.int .i64 x] t)) (fun k => k = w.heap.size) (some ⟨w.heap.size, 0, none⟩) 1 (ics [x]) := (Blk.new w t #[.int .i64 x]).rds

end Go.Proofs.YtimgnogacanifaaGreat
end

section
namespace Go.Proofs.YtimgnogacanifaaGreat
open Go.RowKit

theorem rd_none {T : TypeId} {s : Bool} {w : World} {p : Nat} {S : Nat → Prop} (hS : ¬ S p) (h : Blk w p T #[.slice none 0 0, .bool true]) : Rd T s w p S none :=
  ⟨hS, none, 0, 0, true, [], h, Nat.le_refl _, Nat.zero_le _, rfl, Rds.nil _ _ _, rfl, fun _ => ⟨rfl, rfl, rfl⟩⟩

theorem take_st {st : Option (List UInt8)} {bs : List UInt8} {f : Bool} {A A' : Option Addr} {m c n : Nat}
    (hst : RSt true f A m c bs st) (hm : m = bs.length) (hle : n ≤ m) (hA : A = none → A' = none) :
    (takeS n st).1 = bs.take n ∧ RSt true f A' (m - n) (c - n) (bs.drop n) (takeS n st).2 := by
  rcases st with _ | b
  · obtain ⟨hf, h2⟩ : f = true ∧ (true = true → A = none ∧ m = 0 ∧ c = 0) := hst
    obtain ⟨hn, h0, hc⟩ := h2 rfl
    have hb : bs = [] := List.eq_nil_of_length_eq_zero (by omega)
    subst hb
    exact ⟨by simp [takeS], hf, fun _ => ⟨hA hn, by omega, by omega⟩⟩
  · obtain ⟨hf, rfl⟩ : f = false ∧ b = bs := hst
    have e : takeS n (some b) = (b.take n, some (b.drop n)) := if_pos (by omega)
    rw [e]
    exact ⟨rfl, hf, rfl⟩

end Go.Proofs.YtimgnogacanifaaGreat
end

section
namespace Go.Proofs.YtimgnogacanifaaGreat
open Go.RowKit

theorem ret_num {a b : Int} (h : a = b) : Ending.returned (.int .i64 a) = .returned (.int .i64 b) := by rw [h]

end Go.Proofs.YtimgnogacanifaaGreat
end

section
namespace Go.Proofs.YtimgnogacanifaaGreat
open Go.RowKit

/-- What a call that hands back bytes leaves: the slice reads as them, the reader is in its state. -/
def Gave (T : TypeId) (strict : Bool) (w : World) (p : Nat) (S : Nat → Prop) (r : List UInt8 × Option (List UInt8)) (e : Ending) (w' : World) : Prop :=
  ∃ A k c, e = .returned (.slice A k c) ∧ k = r.1.length ∧ k ≤ c ∧ c ≤ maxLen ∧ Rds w' S A k (bcs r.1) ∧ Rd T strict w' p S r.2 ∧ Chg (fun k => k = p) w w'

end Go.Proofs.YtimgnogacanifaaGreat
end

section
namespace Go.Proofs.YtimgnogacanifaaGreat

theorem be_succ (k x : Nat) : be (k + 1) x = UInt8.ofNat (x / 256 ^ k) :: be k x := by
  have e : (2 : Nat) ^ (8 * k) = 256 ^ k := by rw [Nat.pow_mul]
  unfold be
  rw [List.range_succ_eq_map, List.map_cons, List.map_map]
  congr 1
  · rw [← e]
    rfl
  · refine List.map_congr_left (fun j _ => ?_)
    show UInt8.ofNat (x / 2 ^ (8 * (k + 1 - 1 - (j + 1)))) = _
    rw [show k + 1 - 1 - (j + 1) = k - 1 - j by omega]
theorem num_from (l : List UInt8) : ∀ a : Nat, l.foldl (fun x c => 256 * x + c.toNat) a = a * 256 ^ l.length + num l := by
  induction l with
  | nil => intro a; simp [num]
  | cons c l ih =>
    intro a
    have h1 := ih (256 * a + c.toNat)
    have h2 := ih c.toNat
    unfold num
    simp only [List.foldl_cons, List.length_cons, Nat.pow_succ]
    rw [h1, show 256 * 0 + c.toNat = c.toNat by omega, h2, Nat.add_mul, Nat.add_assoc, Nat.mul_comm 256 a, Nat.mul_assoc, Nat.mul_comm 256]
theorem num_cons (c : UInt8) (l : List UInt8) : num (c :: l) = c.toNat * 256 ^ l.length + num l := by
  have := num_from l c.toNat
  unfold num at this ⊢
  simp only [List.foldl_cons, Nat.mul_zero, Nat.zero_add]
  exact this
theorem num_be (k x : Nat) : num (be k x) = x % 256 ^ k := by
  induction k with
  | zero => simp [be, num, Nat.mod_one]
  | succ k ih =>
    have h : x % 256 ^ (k + 1) = x % 256 ^ k + 256 ^ k * (x / 256 ^ k % 256) := Nat.mod_pow_succ
    have e : (UInt8.ofNat (x / 256 ^ k)).toNat = x / 256 ^ k % 256 := UInt8.toNat_ofNat'
    rw [be_succ, num_cons, ih, be_len, h, e, Nat.mul_comm, Nat.add_comm]
theorem fits_iff (n : Nat) (x : Int) : fits n x = true ↔ 0 ≤ x ∧ x < 256 ^ n := by unfold fits; simp
theorem fits_nat (n : Nat) (x : Int) (h : fits n x = true) : x.toNat < 256 ^ n ∧ (x.toNat : Int) = x := by
  obtain ⟨h1, h2⟩ := (fits_iff n x).1 h
  obtain ⟨X, rfl⟩ := Int.eq_ofNat_of_zero_le h1
  have : ((256 : Int) ^ n) = ((256 ^ n : Nat) : Int) := by simp
  rw [this] at h2
  rw [Int.toNat_natCast]
  exact ⟨by omega, rfl⟩
/-- A number that was written is read. -/
theorem get_be (k : Nat) (x : Int) (r : List UInt8) (h1 : 1 ≤ k) (h8 : k ≤ 8) (hx : fits k x = true) (hm : x ≤ 9223372036854775807) : getS (k : Int) (some (be k x.toNat ++ r)) = (x, some r) := by
  obtain ⟨hlt, hX⟩ := fits_nat k x hx
  have ht : takeS k (some (be k x.toNat ++ r)) = (be k x.toNat, some r) := by
    have hl := be_len k x.toNat
    refine (if_pos (by rw [List.length_append]; omega)).trans ?_
    rw [List.take_append_of_le_length (by omega), List.take_of_length_le (by omega), List.drop_append_of_le_length (by omega), List.drop_of_length_le (by omega), List.nil_append]
  rw [get_take k _ h1 h8, ht]
  simp only
  rw [num_be, Nat.mod_eq_of_lt hlt, if_pos (by omega), hX]
def encS (k : Nat) (l : List Int) : List UInt8 := l.flatMap fun x => be k x.toNat
theorem encS_len (k : Nat) (l : List Int) : (encS k l).length = k * l.length := by
  induction l with
  | nil => rfl
  | cons x l ih =>
    unfold encS at ih ⊢
    rw [List.flatMap_cons, List.length_append, be_len, ih, List.length_cons, Nat.mul_succ]
    omega
theorem puts_enc (k : Nat) (l : List Int) (b : List UInt8) : puts k l (some b) = if l.all (fits k) then some (b ++ encS k l) else none := by
  induction l generalizing b with
  | nil => simp [puts, encS]
  | cons x l ih =>
    have e : puts k (x :: l) (some b) = puts k l (put1 k (some b) x) := rfl
    rw [e]
    by_cases hf : fits k x = true
    · have e1 : put1 k (some b) x = some (b ++ be k x.toNat) := by simp [put1, hf]
      rw [e1, ih]
      simp only [List.all_cons, hf, Bool.true_and]
      congr 2
      simp [encS]
    · have hf' : fits k x = false := by simpa using hf
      have e1 : put1 k (some b) x = none := by simp [put1, hf']
      rw [e1, puts_none]
      simp [hf']
theorem bytes_enc (b c : List UInt8) : bytesS b (some c) = if b.length < 65536 then some (c ++ be 2 b.length ++ b) else none := by
  have hp : putS 2 [(b.length : Int)] (some c) = puts 2 [(b.length : Int)] (some c) := by unfold putS; rw [if_pos ⟨by omega, by omega⟩]; rfl
  unfold bytesS
  rw [hp, puts_enc]
  have hf : fits 2 (b.length : Int) = decide (b.length < 65536) := by
    rw [Bool.eq_iff_iff, fits_iff]
    simp only [decide_eq_true_eq]
    constructor
    · intro h; have := h.2; omega
    · intro h; exact ⟨by omega, by omega⟩
  by_cases hb : b.length < 65536
  · rw [if_pos hb, if_pos (by simp [hf, hb])]
    simp [encS]
  · rw [if_neg hb, if_neg (by simp [hf, hb])]
    rfl
theorem bytesS_none (b : List UInt8) : bytesS b none = none := by
  unfold bytesS putS
  split
  · rw [puts_none]; rfl
  · rfl
/-- Bytes that were written are read. -/
theorem bytes_back (b r : List UInt8) (h : b.length < 65536) : bytesR (b.length : Int) (some (be 2 b.length ++ (b ++ r))) = (b, some r) := by
  have hg : getS 2 (some (be 2 b.length ++ (b ++ r))) = ((b.length : Int), some (b ++ r)) := get_be 2 (b.length : Int) (b ++ r) (by omega) (by omega) ((fits_iff _ _).2 ⟨by omega, by omega⟩) (by omega)
  unfold bytesR
  rw [hg]
  simp only [Int.lt_irrefl, if_false, Int.toNat_natCast]
  refine (if_pos (by rw [List.length_append]; omega)).trans ?_
  rw [List.take_append_of_le_length (by omega), List.take_of_length_le (by omega), List.drop_append_of_le_length (by omega), List.drop_of_length_le (by omega), List.nil_append]
theorem bytes_cut (b : List UInt8) (h : b.length < 65536) : bytesR (b.length : Int) (some ((be 2 b.length ++ b).dropLast)) = ([], none) := by
  rcases List.eq_nil_or_concat b with rfl | ⟨b', x, rfl⟩
  · decide
  · simp only [List.concat_eq_append] at h ⊢
    rw [← List.append_assoc, List.dropLast_concat]
    have hl : (b' ++ [x]).length = b'.length + 1 := by simp
    have hg : getS 2 (some (be 2 (b' ++ [x]).length ++ b')) = (((b' ++ [x]).length : Int), some b') := get_be 2 ((b' ++ [x]).length : Int) b' (by omega) (by omega) ((fits_iff _ _).2 ⟨by omega, by omega⟩) (by omega)
    unfold bytesR
    rw [hg]
    simp only [Int.lt_irrefl, if_false, Int.toNat_natCast]
    exact if_neg (by omega)
/-- What is left of what was written, behind j numbers. -/
def leftS (k : Nat) (l : List Int) (b : List UInt8) (j : Nat) : List UInt8 := encS k (l.drop j) ++ (be 2 b.length ++ b)
theorem leftS_step (k : Nat) (l : List Int) (b : List UInt8) (j : Nat) (h : j < l.length) : leftS k l b j = be k l[j].toNat ++ leftS k l b (j + 1) := by
  unfold leftS
  rw [List.drop_eq_getElem_cons h]
  unfold encS
  rw [List.flatMap_cons, List.append_assoc]
theorem leftS_end (k : Nat) (l : List Int) (b : List UInt8) : leftS k l b l.length = be 2 b.length ++ b := by
  unfold leftS
  rw [List.drop_length]
  rfl
theorem leftS_ne (k : Nat) (l : List Int) (b : List UInt8) (j : Nat) : leftS k l b j ≠ [] := by
  intro h
  have h2 := congrArg List.length h
  unfold leftS at h2
  rw [List.length_append, List.length_append, be_len, List.length_nil] at h2
  omega
theorem leftS_cut (k : Nat) (l : List Int) (b : List UInt8) (j : Nat) (h : j < l.length) : (leftS k l b j).dropLast = be k l[j].toNat ++ (leftS k l b (j + 1)).dropLast := by
  rw [leftS_step k l b j h, List.dropLast_append_of_ne_nil (leftS_ne k l b (j + 1))]

theorem back_some (k : Nat) (l : List Int) (b c : List UInt8) (h1 : 1 ≤ k) (h8 : k ≤ 8) (h : bytesS b (putS (k : Int) l (some [])) = some c) :
    c = leftS k l b 0 ∧ b.length < 65536 ∧ (∀ x ∈ l, fits k x = true) ∧ c.length = k * l.length + 2 + b.length := by
  have hp : putS (k : Int) l (some []) = puts k l (some []) := by unfold putS; rw [if_pos ⟨by omega, by omega⟩, Int.toNat_natCast]
  rw [hp, puts_enc] at h
  by_cases ha : l.all (fits k) = true
  · rw [if_pos ha, bytes_enc] at h
    by_cases hb : b.length < 65536
    · rw [if_pos hb] at h
      injection h with h
      subst h
      refine ⟨by simp [leftS], hb, fun x hx => List.all_eq_true.1 ha x hx, ?_⟩
      rw [List.length_append, List.length_append, be_len, List.nil_append, encS_len]
    · rw [if_neg hb] at h
      cases h
  · rw [if_neg ha, bytesS_none] at h
    cases h

end Go.Proofs.YtimgnogacanifaaGreat
end

section
namespace Go.Proofs.YtimgnogacanifaaGreat
open Go.RowKit Go.ChangeShapes

/-- A slice of integers that came in: nil; or at a row that holds the numbers zs, the first len of which are its elements. -/
def IsRow (k : IntKind) (w : World) (a : Option Addr) (len cap : Nat) (zs : List Int) : Prop :=
  (a = none ∧ len = 0 ∧ cap = 0 ∧ zs = []) ∨
  ∃ x, a = some x ∧ len ≤ cap ∧ cap ≤ maxLen ∧ len ≤ zs.length ∧ (∀ i, i < zs.length → w.cell? (x.add i) = some (.int k (zs.getD i 0))) ∧ ∀ n ∈ zs, (Lit.int k n).wf = true
theorem u8_range {n : Int} (h : (Lit.int .u8 n).wf = true) : 0 ≤ n ∧ n ≤ 255 := by
  have := bounds_u8 h
  omega
theorem i64_range {n : Int} (h : (Lit.int .i64 n).wf = true) : -9223372036854775808 ≤ n ∧ n ≤ 9223372036854775807 := by
  have := bounds_i64 h
  omega
theorem u8_nat {a : Int} (h : (Lit.int .u8 a).wf = true) : ∃ n : Nat, a = (n : Int) ∧ n ≤ 255 := by
  have := u8_range h
  exact ⟨a.toNat, by omega, by omega⟩
theorem row_len {k : IntKind} {w : World} {a : Option Addr} {len cap : Nat} {zs : List Int} (h : IsRow k w a len cap zs) : len ≤ 9223372036854775807 := by
  rcases h with ⟨_, rfl, _⟩ | ⟨x, _, h1, h2, _⟩
  · omega
  · unfold maxLen at h2
    omega
theorem row_nil {k : IntKind} {w : World} {a : Option Addr} {len cap : Nat} {zs : List Int} (h : IsRow k w a len cap zs) : a = none → cap = 0 := by
  rcases h with ⟨_, _, h, _⟩ | ⟨x, rfl, _⟩
  · exact fun _ => h
  · intro e
    cases e
theorem row_rds {k : IntKind} {w : World} {a : Option Addr} {len cap : Nat} {zs : List Int} (h : IsRow k w a len cap zs) :
    len = (zs.take len).length ∧ Rds w (fun _ => True) a len ((zs.take len).map (Value.int k)) ∧ ∀ n ∈ zs.take len, (Lit.int k n).wf = true := by
  rcases h with ⟨rfl, rfl, rfl, rfl⟩ | ⟨x, rfl, h1, h2, h3, h4, h5⟩
  · exact ⟨rfl, Rds.nil _ _ _, by simp⟩
  · have hl : (zs.take len).length = len := by rw [List.length_take]; omega
    refine ⟨hl.symm, ⟨by rw [List.length_map, hl], fun hn => ⟨x, rfl, trivial, ?_, fun j u hu => ?_⟩⟩, fun n hn => h5 n (List.mem_of_mem_take hn)⟩
    · have := World.block_lt_of_cell? w _ (h4 0 (by omega))
      rwa [block_add] at this
    · have hj : j < len := by
        have := (List.getElem?_eq_some_iff.1 hu).1
        rw [List.length_map, hl] at this
        exact this
      rw [h4 j (by omega)]
      have e : ((zs.take len).map (Value.int k))[j]? = some (.int k (zs.getD j 0)) := by simp [List.getD, hj, show j < zs.length by omega]
      rw [e] at hu
      exact hu
theorem row_nums {w : World} {a : Option Addr} {len cap : Nat} {zs : List Int} (h : IsRow .i64 w a len cap zs) :
    len = (zs.take len).length ∧ Rds w (fun _ => True) a len (ics (zs.take len)) ∧ ∀ n ∈ zs.take len, -9223372036854775808 ≤ n ∧ n ≤ 9223372036854775807 := by
  obtain ⟨h1, h2, h3⟩ := row_rds h
  exact ⟨h1, h2, fun n hn => i64_range (h3 n hn)⟩
theorem bytes_of (zs : List Int) (h : ∀ n ∈ zs, (Lit.int .u8 n).wf = true) : bcs (zs.map fun z => UInt8.ofNat z.toNat) = zs.map (Value.int .u8) := by
  unfold bcs
  rw [List.map_map]
  refine List.map_congr_left (fun z hz => ?_)
  have := u8_range (h z hz)
  show Value.int .u8 ((UInt8.ofNat z.toNat).toNat : Int) = _
  rw [UInt8.toNat_ofNat']
  congr 1
  omega
theorem row_bytes {w : World} {a : Option Addr} {len cap : Nat} {zs : List Int} (h : IsRow .u8 w a len cap zs) : ∃ b : List UInt8, len = b.length ∧ Rds w (fun _ => True) a len (bcs b) := by
  obtain ⟨h1, h2, h3⟩ := row_rds h
  refine ⟨(zs.take len).map fun z => UInt8.ofNat z.toNat, by rw [List.length_map]; exact h1, ?_⟩
  rw [bytes_of _ h3]
  exact h2

section
variable {H : Type} {enc : TypeId × Value → H} {P : Program} {w : World} {base : Nat} {spare : Nat → Bool} {held : Bool}
/-- A slice of structs, each field of one cell: every element's cells, and that each field reads. -/
theorem elems_open {t e : TypeId} {fs : Array Field} {fuel : Nat} {cs : List Value} {x : DataW H × List MemPlace} (ht : P.underlying t = some (.slice e)) (he : P.underlying e = some (.struct fs))
    (hone : Go.Deep.oneCellFields P fs = true) (hC : P.cellsOf e = fs.size) (h : DataW.trod enc P w base spare held fuel t cs = some x) :
    ∃ (A : Option Addr) (len cap : Nat), cs = [.slice A len cap] ∧ len ≤ cap ∧ cap ≤ maxLen ∧ (A = none → len = 0 ∧ cap = 0) ∧
      ∀ ad, A = some ad → ∀ i, i < len → ∃ (vs : List Value) (n : Nat), (∀ j, j < fs.size → w.cell? (ad.add (i * fs.size + j)) = vs[j]?) ∧
        ∀ (j : Nat) (f : Field), fs[j]? = some f → ∃ v y, vs[j]? = some v ∧ DataW.trod enc P w base spare held n f.type [v] = some y := by
  rcases Go.Deep.open_slice ht h with ⟨hcs, _⟩ | ⟨a, len, cap, m, n, D, Pl, hcs, _, hl, hm, hmm, _, hi⟩
  · exact ⟨none, 0, 0, hcs, Nat.le_refl _, Nat.zero_le _, (fun _ => ⟨rfl, rfl⟩), (fun ad e => by cases e)⟩
  · refine ⟨some a, len, cap, hcs, hl, hm, (fun e => by cases e), fun ad e i hil => ?_⟩
    injection e with e
    subst e
    have him : i < m := by
      rw [hmm]
      split <;> omega
    obtain ⟨vs, hc, hread⟩ := hi i him
    rw [hC] at hc
    obtain ⟨_, hvl, hat⟩ := World.cells?_some hc
    obtain ⟨ys, n', _, _, hlen, hyl, hf⟩ := DataW.trod_struct he hread
    refine ⟨vs, n', fun j hj => by rw [← off_add]; exact hat j hj, fun j f hj => ?_⟩
    obtain ⟨ho, hk⟩ := Go.Deep.hone_of hone j f hj
    have hjl : j < fs.size := (Array.getElem?_eq_some_iff.1 hj).1
    have hv : vs[j]? = some (vs[j]'(by omega)) := List.getElem?_eq_getElem (by omega)
    have hy : ys[j]? = some (ys[j]'(by omega)) := List.getElem?_eq_getElem (by omega)
    have h1 := hf j f hj
    rw [ho, hk, List.drop_eq_getElem_cons (by omega : j < vs.length)] at h1
    exact ⟨_, _, hv, h1.trans hy⟩
end
section
variable {H : Type} {enc : TypeId × Value → H} {P : Program} {w : World} {base : Nat} {spare : Nat → Bool} {held : Bool}
/-- A slice of integers, wherever it is read. -/
theorem ints_open {t e : TypeId} {k : IntKind} {fuel : Nat} {cs : List Value} {x : DataW H × List MemPlace} (ht : P.underlying t = some (.slice e)) (he : P.underlying e = some (.int k)) (hc : P.cellsOf e = 1)
    (h : DataW.trod enc P w base spare held fuel t cs = some x) : ∃ (A : Option Addr) (n c : Nat) (zs : List Int), cs = [.slice A n c] ∧ IsRow k w A n c zs := by
  rcases open_ints ht he hc h with ⟨hcs, _⟩ | ⟨x, l, c, zs, hcs, _, hl, hm, hz, _, hcell, hwz⟩
  · exact ⟨none, 0, 0, [], hcs, .inl ⟨rfl, rfl, rfl, rfl⟩⟩
  · exact ⟨some x, l, c, zs, hcs, .inr ⟨x, rfl, hl, hm, by rw [hz]; split <;> omega, hcell, hwz⟩⟩
end
/-- A list out of one answer for each number below n. -/
theorem list_of {α : Type} {P : Nat → α → Prop} : ∀ n : Nat, (∀ i, i < n → ∃ x, P i x) → ∃ l : List α, l.length = n ∧ ∀ (i : Nat) (x : α), l[i]? = some x → P i x
  | 0, _ => ⟨[], rfl, fun i x h => by simp at h⟩
  | n + 1, h => by
    obtain ⟨l, hl, hp⟩ := list_of n (fun i hi => h i (by omega))
    obtain ⟨x, hx⟩ := h n (by omega)
    refine ⟨l ++ [x], by simp [hl], fun i y hy => ?_⟩
    rcases Nat.lt_or_ge i n with hi | hi
    · rw [List.getElem?_append_left (by omega)] at hy
      exact hp i y hy
    · have hin : i < (l ++ [x]).length := (List.getElem?_eq_some_iff.1 hy).1
      have : i = n := by simp [hl] at hin; omega
      subst this
      rw [List.getElem?_append_right (by omega), hl] at hy
      simp at hy
      subst hy
      exact hx

end Go.Proofs.YtimgnogacanifaaGreat
end

section
namespace Go.Proofs.YtimgnogacanifaaGreat
open Go.RowKit

theorem rr_fail {T : TypeId} {w : World} {p : Nat} {S : Nat → Prop} {A : Option Addr} {n c : Nat} {f : Bool} {bs : List UInt8} (hS : ¬ S p) (hb : Blk w p T #[.slice A n c, .bool f]) (h2 : n ≤ c) (h3 : c ≤ maxLen) (h4 : n = bs.length) (h5 : Rds w S A n (bcs bs)) :
    Rd T false (w.setCell ⟨p, 1, none⟩ (.bool true)) p S none ∧ Chg (fun k => k = p) w (w.setCell ⟨p, 1, none⟩ (.bool true)) := by
  have hc := (Chg.refl (fun k => k = p) w).put p 1 (fun _ => rfl) (.bool true)
  exact ⟨⟨hS, A, n, c, true, bs, hb.set 1 _, h2, h3, h4, h5.chg hc (fun k hk e => by subst e; exact hS hk), rfl, fun h => by cases h⟩, hc⟩
theorem num8 (l : List UInt8) (h : l.length = 8) : (num l < 9223372036854775808) = ((l[0]'(by omega)).toNat ≤ 127) := by
  match l, h with
  | c :: r, h =>
    have hr : r.length = 7 := by simpa using h
    have h1 := num_lt r
    rw [hr] at h1
    have e7 : (256 : Nat) ^ 7 = 72057594037927936 := by decide
    rw [num_cons, hr, e7]
    rw [e7] at h1
    simp only [List.getElem_cons_zero]
    apply propext
    omega

theorem rr_close {w : World} {p : Nat} {S : Nat → Prop} {b : List UInt8} {A A' : Option Addr} {m c n : Nat} {T : TypeId} (hS : ¬ S p) (hb : Blk w p T #[.slice A m c, .bool false])
    (hmc : m ≤ c) (hcm : c ≤ maxLen) (hm : m = b.length) (hle : n ≤ m) (hd : Rds w S A' (m - n) ((bcs b).drop n)) (c2 : Nat) (hc2 : c2 = c - n) :
    Rd T false (w.setCell ⟨p, 0, none⟩ (.slice A' (m - n) c2)) p S (some (b.drop n)) ∧ Chg (fun k => k = p) w (w.setCell ⟨p, 0, none⟩ (.slice A' (m - n) c2)) := by
  subst hc2
  have hcc : Chg (fun k => k = p) w (w.setCell ⟨p, 0, none⟩ (.slice A' (m - n) (c - n))) := (Chg.refl (fun k => k = p) w).put p 0 (fun _ => rfl) _
  refine ⟨⟨hS, A', m - n, c - n, false, b.drop n, hb.set 0 _, by omega, by omega, by rw [List.length_drop]; omega, ?_, rfl, rfl⟩, hcc⟩
  unfold bcs at hd ⊢
  rw [← List.map_drop] at hd
  exact hd.chg hcc (fun k hk e => by subst e; exact hS hk)

theorem rr_close2 {w : World} {p : Nat} {S : Nat → Prop} {b : List UInt8} {A A' : Option Addr} {m c n : Nat} {T : TypeId} (hS : ¬ S p) (hb : Blk w p T #[.slice A m c, .bool false])
    (hmc : m ≤ c) (hcm : c ≤ maxLen) (hm : m = b.length) (hle : n ≤ m) (hd : Rds w S A' (m - n) ((bcs b).drop n)) (A2 : Option Addr) (m2 c2 : Nat) (hA2 : A2 = A') (hm2 : m2 = m - n) (hc2 : c2 = c - n) :
    Rd T false (w.setCell ⟨p, 0, none⟩ (.slice A2 m2 c2)) p S (some (b.drop n)) ∧ Chg (fun k => k = p) w (w.setCell ⟨p, 0, none⟩ (.slice A2 m2 c2)) := by
  subst hA2
  subst hm2
  exact rr_close hS hb hmc hcm hm hle hd c2 hc2

theorem num_mono (b : List UInt8) (j n : Nat) (h : j ≤ n) : num (b.take j) ≤ num (b.take n) := by
  induction n with
  | zero => rw [Nat.le_zero.1 h]; exact Nat.le_refl _
  | succ n ih =>
    rcases Nat.lt_or_ge j (n + 1) with h1 | h1
    · have h2 := ih (by omega)
      rcases Nat.lt_or_ge n b.length with h3 | h3
      · rw [num_take b n h3]
        omega
      · rw [List.take_of_length_le (by omega : b.length ≤ n + 1)]
        rwa [List.take_of_length_le (by omega : b.length ≤ n)] at h2
    · have : j = n + 1 := by omega
      rw [this]
      exact Nat.le_refl _

end Go.Proofs.YtimgnogacanifaaGreat
end

section
namespace Go.Proofs.YtimgnogacanifaaGreat
open Go.RowKit

/-- What a call leaves that hands back bytes in new memory. -/
def GaveN (T : TypeId) (w : World) (p : Nat) (S : Nat → Prop) (r : List UInt8 × Option (List UInt8)) (e : Ending) (w' : World) : Prop :=
  ∃ A k c, e = .returned (.slice A k c) ∧ k = r.1.length ∧ Rds w' (fun k => w.heap.size ≤ k) A k (bcs r.1) ∧ Rd T false w' p S r.2 ∧ Chg (fun k => k = p) w w'

end Go.Proofs.YtimgnogacanifaaGreat
end

section
namespace Go.Proofs.YtimgnogacanifaaGreat
open Go.RowKit

def fitsR (n x : Int) : Bool := decide (1 ≤ n ∧ n ≤ 8) && fits n.toNat x

theorem div_fits (n : Nat) (x : Int) (hx : 0 ≤ x) : fits n x = (x / 256 ^ n == 0) := by
  have hp : (0 : Int) < 256 ^ n := Int.pow_pos (by decide)
  unfold fits
  have hd : decide (0 ≤ x) = true := by simpa using hx
  rw [hd, Bool.true_and, Bool.eq_iff_iff]
  simp only [decide_eq_true_eq, beq_iff_eq]
  constructor
  · intro h
    exact Int.ediv_eq_zero_of_lt hx h
  · intro h
    by_cases h1 : x < 256 ^ n
    · exact h1
    · exfalso
      have : 1 ≤ x / 256 ^ n := Int.le_ediv_of_mul_le hp (by rw [Int.one_mul]; exact Int.not_lt.1 h1)
      omega
theorem ret_bool {a b : Bool} (h : a = b) : Ending.returned (.bool a) = .returned (.bool b) := by rw [h]

end Go.Proofs.YtimgnogacanifaaGreat
end

section
namespace Go.Proofs.YtimgnogacanifaaGreat
open Go.RowKit

def withinB (lo hi : Int) (l : List Int) : Bool := l.all fun x => decide (lo ≤ x) && decide (x ≤ hi)
theorem within_true {lo hi : Int} {l : List Int} (h : ∀ j (hj : j < l.length), lo ≤ l[j] ∧ l[j] ≤ hi) : withinB lo hi l = true := by
  unfold withinB
  rw [List.all_eq_true]
  intro x hx
  obtain ⟨j, hj, rfl⟩ := List.getElem_of_mem hx
  have := h j hj
  simp [this.1, this.2]
theorem within_false {lo hi : Int} {l : List Int} (j : Nat) (hj : j < l.length) (h : l[j] < lo ∨ hi < l[j]) : withinB lo hi l = false := by
  unfold withinB
  rw [List.all_eq_false]
  refine ⟨_, List.getElem_mem hj, ?_⟩
  rcases h with h | h
  · have : ¬ lo ≤ l[j] := by omega
    simp [this]
  · have : ¬ l[j] ≤ hi := by omega
    simp [this]
theorem ret_b {a b : Bool} (h : a = b) : Ending.returned (.bool a) = .returned (.bool b) := by rw [h]

end Go.Proofs.YtimgnogacanifaaGreat
end

section
namespace Go.Proofs.YtimgnogacanifaaGreat
open Go.RowKit
set_option linter.unusedVariables false

/-- May a frame be? -/
def rightB (d s t : Int) (n : Nat) : Bool := decide (d ≤ 281474976710655) && decide (s ≤ 281474976710655) && decide (0 ≤ t) && decide (t ≤ 65535) && decide (n ≤ 1500)
theorem right_parts (d s t : Int) (n : Nat) (hd : 0 ≤ d) (hs : 0 ≤ s) : rightB d s t n = (withinB 0 281474976710655 [d, s] && (withinB 0 65535 [t] && withinB 0 1500 [(n : Int)])) := by
  have e : decide ((n : Int) ≤ 1500) = decide (n ≤ 1500) := by rw [decide_eq_decide]; omega
  unfold rightB withinB
  simp [hd, hs, Bool.and_assoc, e]

theorem ics_u (l : List Int) : l.map (Value.int .i64) = ics l := rfl

theorem ret_i {k : IntKind} {a b : Int} (h : a = b) : Ending.returned (.int k a) = .returned (.int k b) := by rw [h]
def manyB (d : Int) : Bool := d / 1099511627776 % 2 == 1
theorem many_bit (d : Int) (hd : 0 ≤ d) (hm : d ≤ 18446744073709551615) : (bits BinOp.and IntKind.u64 d 1099511627776 != 0) = manyB d := by
  obtain ⟨x, rfl⟩ := Int.eq_ofNat_of_zero_le hd
  have e : bits BinOp.and IntKind.u64 (x : Int) 1099511627776 = ((x &&& 2 ^ 40 : Nat) : Int) := by
    show IntKind.u64.wrap ((BitVec.ofInt 64 ((x : Nat) : Int) &&& BitVec.ofInt 64 ((1099511627776 : Nat) : Int)).toNat : Int) = _
    rw [BitVec.toNat_and, BitVec.ofInt_natCast, BitVec.ofInt_natCast, BitVec.toNat_ofNat, BitVec.toNat_ofNat, Nat.mod_eq_of_lt (by omega), Nat.mod_eq_of_lt (by omega), IntKind.wrap_u64]
    have h : x &&& 1099511627776 ≤ 1099511627776 := Nat.and_le_right
    have h2 : x &&& 2 ^ 40 = x &&& 1099511627776 := rfl
    rw [h2]
    omega
  have h40 : (x &&& 2 ^ 40 = 0) ↔ Nat.testBit x 40 = false := by
    constructor
    · intro h
      have h2 : Nat.testBit (x &&& 2 ^ 40) 40 = false := by rw [h]; exact Nat.zero_testBit 40
      rw [Nat.testBit_and, Nat.testBit_two_pow_self, Bool.and_true] at h2
      exact h2
    · intro h
      refine Nat.eq_of_testBit_eq (fun i => ?_)
      rw [Nat.testBit_and, Nat.testBit_two_pow, Nat.zero_testBit]
      by_cases hi : 40 = i
      · subst hi
        rw [h, Bool.false_and]
      · simp [hi]
  rw [Nat.testBit_eq_decide_div_mod_eq] at h40
  unfold manyB
  have e2 : ((x : Int) / 1099511627776 % 2 == 1) = decide (x / 2 ^ 40 % 2 = 1) := by
    rw [Bool.eq_iff_iff]
    simp only [beq_iff_eq, decide_eq_true_eq]
    omega
  rw [e, e2]
  generalize x &&& 2 ^ 40 = y at h40
  rw [Bool.eq_iff_iff]
  simp only [bne_iff_ne, ne_eq, decide_eq_true_eq]
  simp only [decide_eq_false_iff_not] at h40
  omega
def macI (p : Int) : Int := if 0 ≤ p ∧ p ≤ 65535 then 2199023255552 + p else 0
end Go.Proofs.YtimgnogacanifaaGreat
end

section
namespace Go.Proofs.YtimgnogacanifaaGreat
open Go.RowKit
set_option linter.unusedVariables false

/-- Have two frames the same? -/
def sameB (d s t : Int) (l : List UInt8) (d2 s2 t2 : Int) (l2 : List UInt8) : Bool := d == d2 && (s == s2 && (t == t2 && l == l2))
end Go.Proofs.YtimgnogacanifaaGreat
end

section
namespace Go.Proofs.YtimgnogacanifaaGreat
open Go.RowKit
set_option linter.unusedVariables false

/-- A frame's bytes. -/
def frameB (d s t : Int) (l : List UInt8) : List UInt8 := be 6 d.toNat ++ (be 6 s.toNat ++ (be 2 t.toNat ++ l))

/-- The numbers of a frame's bytes. -/
def fD (b : List UInt8) : Int := (num (b.take 6) : Int)
def fS (b : List UInt8) : Int := (num ((b.drop 6).take 6) : Int)
def fT (b : List UInt8) : Int := (num ((b.drop 12).take 2) : Int)
theorem num_take_lt (b : List UInt8) (n : Nat) (h : n ≤ b.length) : num (b.take n) < 256 ^ n := by
  have := num_lt (b.take n)
  rwa [List.length_take, Nat.min_eq_left h] at this
theorem get_six (b : List UInt8) (h : 6 ≤ b.length) : getS 6 (some b) = ((num (b.take 6) : Int), some (b.drop 6)) := by
  have h2 := num_take_lt b 6 h
  exact if_pos ⟨by omega, by omega, h, by show num (b.take 6) < _; omega⟩
theorem get_two (b : List UInt8) (h : 2 ≤ b.length) : getS 2 (some b) = ((num (b.take 2) : Int), some (b.drop 2)) := by
  have h2 := num_take_lt b 2 h
  exact if_pos ⟨by omega, by omega, h, by show num (b.take 2) < _; omega⟩
theorem fD_lt (b : List UInt8) (h : 14 ≤ b.length) : 0 ≤ fD b ∧ fD b ≤ 281474976710655 := by
  have := num_take_lt b 6 (by omega)
  unfold fD
  omega
theorem fS_lt (b : List UInt8) (h : 14 ≤ b.length) : 0 ≤ fS b ∧ fS b ≤ 281474976710655 := by
  have := num_take_lt (b.drop 6) 6 (by rw [List.length_drop]; omega)
  unfold fS
  omega
theorem fT_lt (b : List UInt8) (h : 14 ≤ b.length) : 0 ≤ fT b ∧ fT b ≤ 65535 := by
  have := num_take_lt (b.drop 12) 2 (by rw [List.length_drop]; omega)
  unfold fT
  omega

def zeroF : Value := .agg #[.int .u64 0, .int .u64 0, .int .i64 0, .slice none 0 0]
/-- What a call that makes a frame of bytes hands back. -/
def Framed (b : List UInt8) (w : World) (e : Ending) (w' : World) : Prop :=
  ∃ D k dc, e = .returned (.tuple #[.agg #[.int .u64 (fD b), .int .u64 (fS b), .int .i64 (fT b), .slice D k dc], .int .i64 0]) ∧ k = (b.drop 14).length ∧ Rds w' (fun k => w.heap.size ≤ k) D k (bcs (b.drop 14)) ∧ Chg (fun _ => False) w w'

end Go.Proofs.YtimgnogacanifaaGreat
end

section
namespace Go.Proofs.YtimgnogacanifaaGreat
open Go.RowKit

theorem be_low (k c x : Nat) : be k (c * 256 ^ k + x) = be k x := by
  unfold be
  refine List.map_congr_left (fun j hj => ?_)
  have hjk : j < k := by simpa using hj
  refine UInt8.toNat_inj.1 ?_
  rw [UInt8.toNat_ofNat', UInt8.toNat_ofNat']
  have e : (2 : Nat) ^ (8 * (k - 1 - j)) = 256 ^ (k - 1 - j) := by rw [Nat.pow_mul]
  rw [e]
  have hp : 256 ^ k = 256 ^ (k - 1 - j) * (256 * 256 ^ j) := by
    rw [← Nat.pow_succ', ← Nat.pow_add]
    congr 1
    omega
  have hq : 0 < 256 ^ (k - 1 - j) := Nat.pow_pos (by decide)
  rw [hp]
  have e2 : c * (256 ^ (k - 1 - j) * (256 * 256 ^ j)) + x = x + 256 ^ (k - 1 - j) * (c * (256 * 256 ^ j)) := by
    rw [Nat.add_comm, Nat.mul_left_comm]
  rw [e2, Nat.add_mul_div_left _ _ hq]
  have e3 : c * (256 * 256 ^ j) = 256 * (c * 256 ^ j) := Nat.mul_left_comm ..
  rw [e3, Nat.add_mul_mod_self_left]
theorem be_num (l : List UInt8) : be l.length (num l) = l := by
  induction l with
  | nil => rfl
  | cons c l ih =>
    have hlt := num_lt l
    rw [List.length_cons, be_succ, num_cons, be_low, ih]
    have hq : 0 < 256 ^ l.length := Nat.pow_pos (by decide)
    have e : (c.toNat * 256 ^ l.length + num l) / 256 ^ l.length = c.toNat := by
      rw [Nat.add_comm, Nat.add_mul_div_right _ _ hq, Nat.div_eq_of_lt hlt, Nat.zero_add]
    rw [e]
    congr 1
    exact UInt8.toNat_inj.1 (by rw [UInt8.toNat_ofNat']; have := c.toNat_lt; omega)
theorem be_num_take (b : List UInt8) (n : Nat) (h : n ≤ b.length) : be n (num (b.take n)) = b.take n := by
  have h2 := be_num (b.take n)
  rwa [List.length_take, Nat.min_eq_left h] at h2
theorem num_be_lt (k x : Nat) (h : x < 256 ^ k) : num (be k x) = x := by rw [num_be, Nat.mod_eq_of_lt h]

theorem take_be (k x : Nat) (r : List UInt8) : (be k x ++ r).take k = be k x := List.take_left' (be_len k x)
theorem drop_be (k x : Nat) (r : List UInt8) : (be k x ++ r).drop k = r := List.drop_left' (be_len k x)
theorem frame_drop6 (d s t : Int) (l : List UInt8) : (frameB d s t l).drop 6 = be 6 s.toNat ++ (be 2 t.toNat ++ l) := drop_be ..
theorem frame_drop12 (d s t : Int) (l : List UInt8) : (frameB d s t l).drop 12 = be 2 t.toNat ++ l := by
  have h : (frameB d s t l).drop 12 = ((frameB d s t l).drop 6).drop 6 := by rw [List.drop_drop]
  rw [h, frame_drop6, drop_be]
theorem frame_drop14 (d s t : Int) (l : List UInt8) : (frameB d s t l).drop 14 = l := by
  have h : (frameB d s t l).drop 14 = ((frameB d s t l).drop 12).drop 2 := by rw [List.drop_drop]
  rw [h, frame_drop12, drop_be]
theorem frame_len (d s t : Int) (l : List UInt8) : (frameB d s t l).length = 14 + l.length := by
  unfold frameB
  simp only [List.length_append, be_len]
  omega
theorem frame_fD (d s t : Int) (l : List UInt8) (h : 0 ≤ d) (h2 : d ≤ 281474976710655) : fD (frameB d s t l) = d := by
  have e : (frameB d s t l).take 6 = be 6 d.toNat := take_be ..
  unfold fD
  rw [e, num_be_lt _ _ (by omega)]
  omega
theorem frame_fS (d s t : Int) (l : List UInt8) (h : 0 ≤ s) (h2 : s ≤ 281474976710655) : fS (frameB d s t l) = s := by
  unfold fS
  rw [frame_drop6, take_be, num_be_lt _ _ (by omega)]
  omega
theorem frame_fT (d s t : Int) (l : List UInt8) (h : 0 ≤ t) (h2 : t ≤ 65535) : fT (frameB d s t l) = t := by
  unfold fT
  rw [frame_drop12, take_be, num_be_lt _ _ (by omega)]
  omega
theorem frame_of (b : List UInt8) (h : 14 ≤ b.length) : frameB (fD b) (fS b) (fT b) (b.drop 14) = b := by
  unfold frameB fD fS fT
  simp only [Int.toNat_natCast]
  rw [be_num_take b 6 (by omega), be_num_take _ 6 (by rw [List.length_drop]; omega), be_num_take _ 2 (by rw [List.length_drop]; omega)]
  have e1 : (b.drop 12).take 2 ++ b.drop 14 = b.drop 12 := by
    have := List.take_append_drop 2 (b.drop 12)
    rwa [List.drop_drop] at this
  have e2 : (b.drop 6).take 6 ++ b.drop 12 = b.drop 6 := by
    have := List.take_append_drop 6 (b.drop 6)
    rwa [List.drop_drop] at this
  rw [e1, e2, List.take_append_drop]
theorem right_fr (b : List UInt8) (h : 14 ≤ b.length) (h2 : b.length ≤ 1514) : rightB (fD b) (fS b) (fT b) (b.drop 14).length = true := by
  have h1 := fD_lt b h
  have h3 := fS_lt b h
  have h4 := fT_lt b h
  unfold rightB
  simp only [Bool.and_eq_true, decide_eq_true_eq, List.length_drop]
  omega

end Go.Proofs.YtimgnogacanifaaGreat
end

section
namespace Go.Proofs.YtimgnogacanifaaGreat
open Go.RowKit
set_option linter.unusedVariables false

/-- An arp's cells. -/
def arpC (op sha tha spa tpa : Int) : Array Value := #[.int .i64 op, .int .u64 sha, .int .u64 tha, .int .u32 spa, .int .u32 tpa]
/-- May an arp be? -/
def arpR (op sha tha : Int) : Bool := decide (0 ≤ op) && (decide (op ≤ 65535) && (decide (sha ≤ 281474976710655) && decide (tha ≤ 281474976710655)))
/-- Does an arp announce in a frame of RARP; of ARP? -/
def saysR (op : Int) : Bool := op == 3
def saysA (op spa tpa : Int) : Bool := (op == 1 || op == 2) && spa == tpa

theorem arp_cells {w : World} {q : Nat} {op sha tha spa tpa : Int} {T : TypeId} (hb : Blk w q T (arpC op sha tha spa tpa)) :
    w.cell? ⟨q, 0, none⟩ = some (.int .i64 op) ∧ w.cell? ⟨q, 1, none⟩ = some (.int .u64 sha) ∧ w.cell? ⟨q, 2, none⟩ = some (.int .u64 tha) ∧ w.cell? ⟨q, 3, none⟩ = some (.int .u32 spa) ∧ w.cell? ⟨q, 4, none⟩ = some (.int .u32 tpa) := by
  have x0 := hb.cell 0
  have x1 := hb.cell 1
  have x2 := hb.cell 2
  have x3 := hb.cell 3
  have x4 := hb.cell 4
  simp only [arpC, List.getElem?_toArray, List.getElem?_cons_zero, List.getElem?_cons_succ] at x0 x1 x2 x3 x4
  exact ⟨x0, x1, x2, x3, x4⟩

end Go.Proofs.YtimgnogacanifaaGreat
end

section
namespace Go.Proofs.YtimgnogacanifaaGreat
open Go.RowKit

theorem bcs_take (l : List UInt8) (k : Nat) : bcs (l.take k) = (bcs l).take k := by simp [bcs, List.map_take]
theorem bcs_drop (l : List UInt8) (k : Nat) : bcs (l.drop k) = (bcs l).drop k := by simp [bcs, List.map_drop]

/-- The number of k bytes that stand at i. -/
def nAt (b : List UInt8) (i k : Nat) : Int := (num ((b.drop i).take k) : Int)
theorem nAt_nonneg (b : List UInt8) (i k : Nat) : 0 ≤ nAt b i k := by unfold nAt; omega
theorem nAt_lt (b : List UInt8) (i k : Nat) : nAt b i k < 256 ^ k := by
  have h := num_lt ((b.drop i).take k)
  have h2 : (256 : Nat) ^ ((b.drop i).take k).length ≤ 256 ^ k := Nat.pow_le_pow_right (by decide) (by rw [List.length_take]; omega)
  unfold nAt
  have h3 : ((256 : Int) ^ k) = ((256 ^ k : Nat) : Int) := by simp
  rw [h3]
  omega
theorem get_nat (l : List UInt8) (k : Nat) (h1 : 1 ≤ k) (h7 : k ≤ 7) (h : k ≤ l.length) : getS (k : Int) (some l) = ((num (l.take k) : Int), some (l.drop k)) := by
  have h2 := num_take_lt l k h
  have h3 : (256 : Nat) ^ k ≤ 256 ^ 7 := Nat.pow_le_pow_right (by decide) h7
  have h4 : (256 : Nat) ^ 7 = 72057594037927936 := by decide
  refine if_pos ⟨by omega, by omega, by rw [Int.toNat_natCast]; exact h, by rw [Int.toNat_natCast]; omega⟩
theorem get_upto (b : List UInt8) (m i k : Nat) (h1 : 1 ≤ k) (h7 : k ≤ 7) (h : i + k ≤ m) (hm : m ≤ b.length) : getS (k : Int) (some ((b.take m).drop i)) = (nAt b i k, some ((b.take m).drop (i + k))) := by
  rw [get_nat _ k h1 h7 (by rw [List.length_drop, List.length_take]; omega), List.drop_drop]
  unfold nAt
  rw [List.drop_take, List.take_take, Nat.min_eq_left (by omega)]
theorem get_from (b : List UInt8) (i k : Nat) (h1 : 1 ≤ k) (h7 : k ≤ 7) (h : i + k ≤ b.length) : getS (k : Int) (some (b.drop i)) = (nAt b i k, some (b.drop (i + k))) := by
  rw [get_nat _ k h1 h7 (by rw [List.length_drop]; omega), List.drop_drop]
  rfl
theorem be_at (b : List UInt8) (i k : Nat) (h : i + k ≤ b.length) : be k (nAt b i k).toNat = (b.drop i).take k := by
  unfold nAt
  rw [Int.toNat_natCast]
  exact be_num_take _ k (by rw [List.length_drop]; omega)
theorem nAt_be (x : Int) (k : Nat) (r : List UInt8) (h : 0 ≤ x) (h2 : x < 256 ^ k) : nAt (be k x.toNat ++ r) 0 k = x := by
  unfold nAt
  rw [List.drop_zero, take_be, num_be, Nat.mod_eq_of_lt]
  · omega
  · have h3 : ((256 : Int) ^ k) = ((256 ^ k : Nat) : Int) := by simp
    omega
theorem nAt_app (l r : List UInt8) (i k : Nat) (h : l.length = i) : nAt (l ++ r) i k = nAt r 0 k := by
  unfold nAt
  rw [← h, List.drop_left', List.drop_zero]
  rfl

/-- Are the first 6 bytes an arp's? -/
def headB (b : List UInt8) : Bool := nAt b 0 2 == 1 && (nAt b 2 2 == 2048 && (nAt b 4 1 == 6 && nAt b 5 1 == 4))
/-- Are the first 28? -/
def okA (b : List UInt8) : Bool := decide (28 ≤ b.length) && headB b
def head6 : List UInt8 := [0, 1, 8, 0, 6, 4]
theorem head_six (b : List UInt8) (h : 6 ≤ b.length) : b.take 6 = be 2 (nAt b 0 2).toNat ++ (be 2 (nAt b 2 2).toNat ++ (be 1 (nAt b 4 1).toNat ++ be 1 (nAt b 5 1).toNat)) := by
  rw [be_at b 0 2 (by omega), be_at b 2 2 (by omega), be_at b 4 1 (by omega), be_at b 5 1 (by omega)]
  match b, h with
  | a0 :: a1 :: a2 :: a3 :: a4 :: a5 :: r, _ => rfl
theorem head_iff (b : List UInt8) (h : 6 ≤ b.length) : headB b = (b.take 6 == head6) := by
  rw [Bool.eq_iff_iff]
  unfold headB
  simp only [Bool.and_eq_true, beq_iff_eq]
  constructor
  · rintro ⟨h1, h2, h3, h4⟩
    rw [head_six b h, h1, h2, h3, h4]
    decide
  · intro e
    have e2 : b = head6 ++ b.drop 6 := by rw [← e, List.take_append_drop]
    rw [e2]
    refine ⟨rfl, rfl, rfl, rfl⟩

/-- An arp's bytes. -/
def arpB (op sha tha spa tpa : Int) : List UInt8 := head6 ++ (be 2 op.toNat ++ (be 6 sha.toNat ++ (be 4 spa.toNat ++ (be 6 tha.toNat ++ be 4 tpa.toNat))))
theorem arpB_len (op sha tha spa tpa : Int) : (arpB op sha tha spa tpa).length = 28 := by
  unfold arpB
  simp only [List.length_append, be_len]
  rfl
/-- The arp of bytes. -/
def aO (b : List UInt8) : Int := nAt b 6 2
def aS (b : List UInt8) : Int := nAt b 8 6
def aP (b : List UInt8) : Int := nAt b 14 4
def aT (b : List UInt8) : Int := nAt b 18 6
def aQ (b : List UInt8) : Int := nAt b 24 4
theorem aO_lt (b : List UInt8) : 0 ≤ aO b ∧ aO b ≤ 65535 := by have := nAt_nonneg b 6 2; have := nAt_lt b 6 2; unfold aO; omega
theorem aS_lt (b : List UInt8) : 0 ≤ aS b ∧ aS b ≤ 281474976710655 := by have := nAt_nonneg b 8 6; have := nAt_lt b 8 6; unfold aS; omega
theorem aP_lt (b : List UInt8) : 0 ≤ aP b ∧ aP b ≤ 4294967295 := by have := nAt_nonneg b 14 4; have := nAt_lt b 14 4; unfold aP; omega
theorem aT_lt (b : List UInt8) : 0 ≤ aT b ∧ aT b ≤ 281474976710655 := by have := nAt_nonneg b 18 6; have := nAt_lt b 18 6; unfold aT; omega
theorem aQ_lt (b : List UInt8) : 0 ≤ aQ b ∧ aQ b ≤ 4294967295 := by have := nAt_nonneg b 24 4; have := nAt_lt b 24 4; unfold aQ; omega
theorem arp_right (b : List UInt8) : arpR (aO b) (aS b) (aT b) = true := by
  have h1 := aO_lt b
  have h2 := aS_lt b
  have h3 := aT_lt b
  unfold arpR
  simp only [Bool.and_eq_true, decide_eq_true_eq]
  omega
theorem arp_of (b : List UInt8) (h : okA b = true) : arpB (aO b) (aS b) (aT b) (aP b) (aQ b) = b.take 28 := by
  unfold okA at h
  simp only [Bool.and_eq_true, decide_eq_true_eq] at h
  obtain ⟨hl, hh⟩ := h
  rw [head_iff b (by omega), beq_iff_eq] at hh
  unfold arpB aO aS aT aP aQ
  rw [← hh, be_at b 6 2 (by omega), be_at b 8 6 (by omega), be_at b 14 4 (by omega), be_at b 18 6 (by omega), be_at b 24 4 (by omega)]
  have step : ∀ i k m : Nat, k ≤ m → (b.drop i).take k ++ (b.drop (i + k)).take (m - k) = (b.drop i).take m := by
    intro i k m hk
    have e := List.take_append_drop k ((b.drop i).take m)
    rw [List.take_take, Nat.min_eq_left hk, List.drop_take, List.drop_drop] at e
    exact e
  rw [step 18 6 10 (by omega), step 14 4 14 (by omega), step 8 6 20 (by omega), step 6 2 22 (by omega)]
  exact step 0 6 28 (by omega)
theorem arp_back (op sha tha spa tpa : Int) (r : List UInt8) (hr : arpR op sha tha = true) (hs : 0 ≤ sha) (ht : 0 ≤ tha) (hp : 0 ≤ spa ∧ spa ≤ 4294967295) (hq : 0 ≤ tpa ∧ tpa ≤ 4294967295) :
    let b := arpB op sha tha spa tpa ++ r
    okA b = true ∧ aO b = op ∧ aS b = sha ∧ aT b = tha ∧ aP b = spa ∧ aQ b = tpa := by
  intro b
  unfold arpR at hr
  simp only [Bool.and_eq_true, decide_eq_true_eq] at hr
  have hb : b = head6 ++ (be 2 op.toNat ++ (be 6 sha.toNat ++ (be 4 spa.toNat ++ (be 6 tha.toNat ++ (be 4 tpa.toNat ++ r))))) := by
    show arpB op sha tha spa tpa ++ r = _
    unfold arpB
    simp only [List.append_assoc]
  have hl : b.length = 28 + r.length := by
    show (arpB op sha tha spa tpa ++ r).length = _
    rw [List.length_append, arpB_len]
  have hh : headB b = true := by
    rw [head_iff b (by omega), hb]
    simp [head6]
  refine ⟨by unfold okA; simp [hh, hl], ?_, ?_, ?_, ?_, ?_⟩
  · unfold aO
    rw [hb, nAt_app _ _ 6 2 rfl, nAt_be _ _ _ (by omega) (by omega)]
  · unfold aS
    rw [hb, ← List.append_assoc, nAt_app _ _ 8 6 (by rw [List.length_append, be_len]; rfl), nAt_be _ _ _ (by omega) (by omega)]
  · unfold aT
    rw [hb, ← List.append_assoc, ← List.append_assoc, ← List.append_assoc, nAt_app _ _ 18 6 (by simp only [List.length_append, be_len]; rfl), nAt_be _ _ _ (by omega) (by omega)]
  · unfold aP
    rw [hb, ← List.append_assoc, ← List.append_assoc, nAt_app _ _ 14 4 (by simp only [List.length_append, be_len]; rfl), nAt_be _ _ _ (by omega) (by omega)]
  · unfold aQ
    rw [hb, ← List.append_assoc, ← List.append_assoc, ← List.append_assoc, ← List.append_assoc, nAt_app _ _ 24 4 (by simp only [List.length_append, be_len]; rfl), nAt_be _ _ _ (by omega) (by omega)]

end Go.Proofs.YtimgnogacanifaaGreat
end

section
namespace Go.Proofs.YtimgnogacanifaaGreat
open Go.RowKit

/-- The sum of bytes as numbers of 2 bytes (true: the next byte is the high one). -/
def csum : Bool → List UInt8 → Nat
  | _, [] => 0
  | true, c :: r => 256 * c.toNat + csum false r
  | false, c :: r => c.toNat + csum true r
/-- Which half comes behind n bytes. -/
def par (p : Bool) (n : Nat) : Bool := if n % 2 = 0 then p else !p
theorem par_succ (p : Bool) (n : Nat) : par p (n + 1) = par (!p) n := by
  unfold par
  by_cases h : n % 2 = 0
  · rw [if_neg (by omega), if_pos h]
  · rw [if_pos (by omega), if_neg h, Bool.not_not]
theorem csum_app : ∀ (p : Bool) (l r : List UInt8), csum p (l ++ r) = csum p l + csum (par p l.length) r
  | p, [], r => by cases p <;> simp [csum, par]
  | true, c :: l, r => by
    rw [List.cons_append, List.length_cons, par_succ]
    simp only [csum, Bool.not_true]
    rw [csum_app false l r]
    omega
  | false, c :: l, r => by
    rw [List.cons_append, List.length_cons, par_succ]
    simp only [csum, Bool.not_false]
    rw [csum_app true l r]
    omega
theorem csum_le : ∀ (p : Bool) (l : List UInt8), csum p l ≤ 65280 * l.length
  | p, [] => by cases p <;> simp [csum]
  | true, c :: l => by
    have := csum_le false l
    have := c.toNat_lt
    simp only [csum, List.length_cons]
    omega
  | false, c :: l => by
    have := csum_le true l
    have := c.toNat_lt
    simp only [csum, List.length_cons]
    omega
theorem csum_even (b : List UInt8) (k : Nat) (h : k < b.length) (h2 : k % 2 = 0) : csum true (b.take (k + 1)) = csum true (b.take k) + 256 * (b[k]).toNat := by
  rw [List.take_succ_eq_append_getElem h, csum_app]
  have e : par true (b.take k).length = true := by
    rw [List.length_take, Nat.min_eq_left (by omega)]
    unfold par
    rw [if_pos h2]
  rw [e]
  simp [csum]
theorem csum_odd (b : List UInt8) (k : Nat) (h : k < b.length) (h2 : k % 2 = 1) : csum true (b.take (k + 1)) = csum true (b.take k) + (b[k]).toNat := by
  rw [List.take_succ_eq_append_getElem h, csum_app]
  have e : par true (b.take k).length = false := by
    rw [List.length_take, Nat.min_eq_left (by omega)]
    unfold par
    rw [if_neg (by omega)]
    rfl
  rw [e]
  simp [csum]
/-- What is left of a sum, turned. -/
def chk (s : Nat) : Nat := if s = 0 then 65535 else 65534 - (s - 1) % 65535
theorem chk_fold (y : Nat) (h : 65535 < y) : chk (y / 65536 + y % 65536) = chk y := by
  unfold chk
  rw [if_neg (by omega), if_neg (by omega)]
  omega
theorem chk_small (y : Nat) (h : y ≤ 65535) : chk y = 65535 - y := by
  unfold chk
  by_cases h0 : y = 0
  · rw [if_pos h0]; omega
  · rw [if_neg h0]; omega
theorem chk_le (s : Nat) : chk s ≤ 65535 := by
  unfold chk
  split <;> omega
/-- A sum, with its own check in it, has the check 0. -/
theorem chk_own (s : Nat) (h : 0 < s) : chk (s + chk s) = 0 := by
  unfold chk
  rw [if_neg (by omega), if_neg (by omega)]
  omega
/-- The check of bytes. -/
def chkB (b : List UInt8) : Int := (chk (csum true b) : Int)
theorem chkB_le (b : List UInt8) : 0 ≤ chkB b ∧ chkB b ≤ 65535 := by
  have := chk_le (csum true b)
  unfold chkB
  omega

/-- The numbers' widths. -/
def wds : List Nat := [1, 1, 2, 2, 2, 1, 1, 2, 4, 4, 2, 2]
/-- A datagram's numbers. -/
def dgL (n pr ck src dst sp dp : Int) : List Int := [69, 0, n, 0, 0, 64, pr, ck, src, dst, sp, dp]
/-- The bytes of numbers, by widths. -/
def putW : List Nat → List Int → List UInt8
  | k :: ks, x :: xs => be k x.toNat ++ putW ks xs
  | _, _ => []
theorem putW_take (l : List Int) (h : l.length = 12) (k : Nat) (hk : k < 12) : putW (wds.take (k + 1)) (l.take (k + 1)) = putW (wds.take k) (l.take k) ++ be (wds.getD k 0) (l.getD k 0).toNat := by
  match l, h with
  | [a0, a1, a2, a3, a4, a5, a6, a7, a8, a9, a10, a11], _ =>
    have hk' : k = 0 ∨ k = 1 ∨ k = 2 ∨ k = 3 ∨ k = 4 ∨ k = 5 ∨ k = 6 ∨ k = 7 ∨ k = 8 ∨ k = 9 ∨ k = 10 ∨ k = 11 := by omega
    rcases hk' with rfl | rfl | rfl | rfl | rfl | rfl | rfl | rfl | rfl | rfl | rfl | rfl <;> simp [wds, putW]

/-- The first 20 bytes. -/
def hdB (n pr ck src dst : Int) : List UInt8 := [69, 0] ++ (be 2 n.toNat ++ ([0, 0, 0, 0, 64] ++ (be 1 pr.toNat ++ (be 2 ck.toNat ++ (be 4 src.toNat ++ be 4 dst.toNat)))))
theorem hdB_len (n pr ck src dst : Int) : (hdB n pr ck src dst).length = 20 := by
  unfold hdB
  simp [be_len]
/-- The 24 ahead of a body. -/
def ahB (n pr ck src dst sp dp : Int) : List UInt8 := hdB n pr ck src dst ++ (be 2 sp.toNat ++ be 2 dp.toNat)
theorem ahB_len (n pr ck src dst sp dp : Int) : (ahB n pr ck src dst sp dp).length = 24 := by
  unfold ahB
  simp [be_len, hdB_len]
theorem putW_dg (n pr ck src dst sp dp : Int) : putW wds (dgL n pr ck src dst sp dp) = ahB n pr ck src dst sp dp := by
  unfold ahB hdB wds dgL
  simp only [putW, List.append_assoc, List.append_nil]
  rfl
/-- A flow's datagram, with its check, and its bytes. -/
def ckOf (n pr src dst : Int) : Int := chkB (hdB n pr 0 src dst)
def dgB (pr src dst sp dp : Int) (l : List UInt8) : List UInt8 := ahB (24 + (l.length : Int)) pr (ckOf (24 + (l.length : Int)) pr src dst) src dst sp dp ++ l
theorem dgB_len (pr src dst sp dp : Int) (l : List UInt8) : (dgB pr src dst sp dp l).length = 24 + l.length := by
  unfold dgB
  rw [List.length_append, ahB_len]
theorem be_two (x : Nat) (h : x ≤ 65535) : csum true (be 2 x) = x := by
  have e : be 2 x = [UInt8.ofNat (x / 256), UInt8.ofNat x] := by
    unfold be
    simp [List.range_succ]
  rw [e]
  simp only [csum, UInt8.toNat_ofNat']
  omega
theorem csum_hd (n pr ck src dst : Int) (h0 : 0 ≤ ck) (h : ck ≤ 65535) : csum true (hdB n pr ck src dst) = csum true (hdB n pr 0 src dst) + ck.toNat := by
  have e : ∀ c : Int, csum true (hdB n pr c src dst) = csum true ([69, 0] ++ (be 2 n.toNat ++ ([0, 0, 0, 0, 64] ++ be 1 pr.toNat))) + (csum true (be 2 c.toNat) + csum true (be 4 src.toNat ++ be 4 dst.toNat)) := by
    intro c
    have e2 : hdB n pr c src dst = ([69, 0] ++ (be 2 n.toNat ++ ([0, 0, 0, 0, 64] ++ be 1 pr.toNat))) ++ (be 2 c.toNat ++ (be 4 src.toNat ++ be 4 dst.toNat)) := by
      unfold hdB
      simp only [List.append_assoc]
    rw [e2, csum_app, csum_app _ (be 2 c.toNat)]
    have p1 : par true ([69, 0] ++ (be 2 n.toNat ++ ([0, 0, 0, 0, 64] ++ be 1 pr.toNat)) : List UInt8).length = true := by simp [be_len, par]
    rw [p1]
    have p2 : par true (be 2 c.toNat).length = true := by rw [be_len]; rfl
    rw [p2]
  rw [e ck, e 0, be_two _ (by omega), be_two _ (by decide)]
  have : (0 : Int).toNat = 0 := rfl
  omega
theorem csum_pos (n pr ck src dst : Int) : 0 < csum true (hdB n pr ck src dst) := by
  unfold hdB
  simp only [List.cons_append, csum]
  have : (69 : UInt8).toNat = 69 := rfl
  omega
/-- The check of a head that has its check is 0. -/
theorem ck_zero (n pr src dst : Int) : chkB (hdB n pr (ckOf n pr src dst) src dst) = 0 := by
  have h := chkB_le (hdB n pr 0 src dst)
  unfold ckOf
  have e := csum_hd n pr (chkB (hdB n pr 0 src dst)) src dst h.1 h.2
  have e2 : (chkB (hdB n pr 0 src dst)).toNat = chk (csum true (hdB n pr 0 src dst)) := by unfold chkB; omega
  rw [e2] at e
  show ((chk (csum true (hdB n pr (chkB (hdB n pr 0 src dst)) src dst)) : Nat) : Int) = 0
  rw [e, chk_own _ (csum_pos n pr 0 src dst)]
  rfl

end Go.Proofs.YtimgnogacanifaaGreat
end

section
namespace Go.Proofs.YtimgnogacanifaaGreat
open Go.RowKit
set_option linter.unusedVariables false

theorem and_low (y : Nat) (h : y < 9223372036854775808) : bits .and .i64 (y : Int) 65535 = ((y % 65536 : Nat) : Int) := by
  show IntKind.i64.wrap ((BitVec.ofInt 64 (y : Int) &&& BitVec.ofInt 64 65535).toNat : Int) = _
  have e : (65535 : Int) = ((65535 : Nat) : Int) := rfl
  rw [e, BitVec.toNat_and, BitVec.ofInt_natCast, BitVec.ofInt_natCast, BitVec.toNat_ofNat, BitVec.toNat_ofNat, Nat.mod_eq_of_lt (by omega), Nat.mod_eq_of_lt (by decide)]
  have h2 : y &&& 65535 = y % 65536 := Nat.and_two_pow_sub_one_eq_mod y 16
  rw [h2]
  exact IntWalk.i64_in _ (by omega)
theorem xor_low (y : Nat) (h : y ≤ 65535) : bits .xor .i64 (y : Int) 65535 = ((65535 - y : Nat) : Int) := by
  show IntKind.i64.wrap ((BitVec.ofInt 64 (y : Int) ^^^ BitVec.ofInt 64 65535).toNat : Int) = _
  have e : (65535 : Int) = ((65535 : Nat) : Int) := rfl
  rw [e, BitVec.toNat_xor, BitVec.ofInt_natCast, BitVec.ofInt_natCast, BitVec.toNat_ofNat, BitVec.toNat_ofNat, Nat.mod_eq_of_lt (by omega), Nat.mod_eq_of_lt (by decide)]
  have h2 : y ^^^ 65535 = 65535 - y := by
    have h3 : (BitVec.ofNat 16 y ^^^ BitVec.allOnes 16).toNat = (~~~ (BitVec.ofNat 16 y)).toNat := by rw [BitVec.xor_allOnes]
    rw [BitVec.toNat_xor, BitVec.toNat_not, BitVec.toNat_allOnes, BitVec.toNat_ofNat, Nat.mod_eq_of_lt (by omega)] at h3
    have h4 : (2 ^ 16 - 1 : Nat) = 65535 := by decide
    rw [h4] at h3
    omega
  rw [h2]
  exact IntWalk.i64_in _ (by omega)

end Go.Proofs.YtimgnogacanifaaGreat
end

section
namespace Go.Proofs.YtimgnogacanifaaGreat
open Go.RowKit
set_option linter.unusedVariables false

/-- A flow's cells. -/
def flC (pr src dst sp dp : Int) : Array Value := #[.int .i64 pr, .int .u32 src, .int .u32 dst, .int .i64 sp, .int .i64 dp]
def portB (x : Int) : Bool := decide (0 ≤ x) && decide (x ≤ 65535)
/-- May a flow be? -/
def flR (pr sp dp : Int) : Bool := (pr == 6 || pr == 17) && (portB sp && portB dp)

theorem fl_cells {w : World} {q : Nat} {pr src dst sp dp : Int} {T : TypeId} (hb : Blk w q T (flC pr src dst sp dp)) :
    w.cell? ⟨q, 0, none⟩ = some (.int .i64 pr) ∧ w.cell? ⟨q, 1, none⟩ = some (.int .u32 src) ∧ w.cell? ⟨q, 2, none⟩ = some (.int .u32 dst) ∧ w.cell? ⟨q, 3, none⟩ = some (.int .i64 sp) ∧ w.cell? ⟨q, 4, none⟩ = some (.int .i64 dp) := by
  have x0 := hb.cell 0
  have x1 := hb.cell 1
  have x2 := hb.cell 2
  have x3 := hb.cell 3
  have x4 := hb.cell 4
  simp only [flC, List.getElem?_toArray, List.getElem?_cons_zero, List.getElem?_cons_succ] at x0 x1 x2 x3 x4
  exact ⟨x0, x1, x2, x3, x4⟩
theorem fl_kept {w w' : World} {q : Nat} {pr src dst sp dp : Int} {T : TypeId} (hb : Blk w q T (flC pr src dst sp dp)) (h : Chg (fun _ => False) w w') :
    w'.cell? ⟨q, 0, none⟩ = some (.int .i64 pr) ∧ w'.cell? ⟨q, 1, none⟩ = some (.int .u32 src) ∧ w'.cell? ⟨q, 2, none⟩ = some (.int .u32 dst) ∧ w'.cell? ⟨q, 3, none⟩ = some (.int .i64 sp) ∧ w'.cell? ⟨q, 4, none⟩ = some (.int .i64 dp) := fl_cells (hb.chg h id)

end Go.Proofs.YtimgnogacanifaaGreat
end
