/-
  Slices of structs, maps of whole numbers, in memory. No condition.
-/
import Derived.Test.YtimgnogacanifaaGreatM7
import Derived.Test.YtimgnogacanifaaGreatPs
import Derived.MapKept
import Derived.ChangeMaps4
import Derived.ChangeMaps5
import Derived.Maps.Keyed
namespace Go.Proofs.YtimgnogacanifaaGreat
open Go.RowKit
set_option linter.unusedVariables false

/-! ### slices of structs -/
/-- A slice of m structs, of k cells each. -/
def SR {α : Type} (k : Nat) (cs : α → Array Value) (w : World) (S : Nat → Prop) (L : Option Addr) (m : Nat) (l : List α) : Prop :=
  m = l.length ∧ (0 < m → ∃ ad, L = some ad ∧ S ad.block ∧ ad.block < w.heap.size ∧ ∀ (i : Nat) (x : α), l[i]? = some x → ∀ (j : Nat) (u : Value), (cs x)[j]? = some u → w.cell? (ad.add (i * k + j)) = some u)
section
variable {α : Type} {k : Nat} {cs : α → Array Value} {w w' : World} {S S' : Nat → Prop} {L : Option Addr} {m : Nat} {l : List α}
theorem SR.keep (h : SR k cs w S L m l) (hz : w.heap.size ≤ w'.heap.size) (hk : ∀ k, S k → k < w.heap.size → w'.heap[k]? = w.heap[k]?) : SR k cs w' S L m l := by
  refine ⟨h.1, fun hm => ?_⟩
  obtain ⟨ad, e, hs, hb, hc⟩ := h.2 hm
  refine ⟨ad, e, hs, Nat.lt_of_lt_of_le hb hz, fun i x hi j u hu => ?_⟩
  rw [← hc i x hi j u hu]
  exact World.cell?_of_block (by rw [block_add]; exact hk _ hs hb)
theorem SR.chg (h : SR k cs w S L m l) (hc : Chg S' w w') (hd : ∀ k, S k → ¬ S' k) : SR k cs w' S L m l := h.keep hc.size fun k hs hk => hc.block k hk (hd k hs)
theorem SR.alloc (h : SR k cs w S L m l) (o : Obj) : SR k cs (w.alloc o) S L m l := h.chg ((Chg.refl (fun _ => False) w).alloc o) (fun _ _ => id)
theorem SR.drew (h : SR k cs w S L m l) : SR k cs w.drew S L m l := h
theorem SR.mono (h : SR k cs w S L m l) (hs : ∀ k, S k → S' k) : SR k cs w S' L m l :=
  ⟨h.1, fun hm => by obtain ⟨ad, e, h1, h2⟩ := h.2 hm; exact ⟨ad, e, hs _ h1, h2⟩⟩
theorem SR.nil (w : World) (S : Nat → Prop) (L : Option Addr) : SR k cs w S L 0 [] := ⟨rfl, fun h => absurd h (by omega)⟩
theorem SR.old (h : SR k cs w S L m l) : SR k cs w (fun k => S k ∧ k < w.heap.size) L m l :=
  ⟨h.1, fun hm => by obtain ⟨ad, e, h1, h2, h3⟩ := h.2 hm; exact ⟨ad, e, ⟨h1, h2⟩, h2, h3⟩⟩
theorem SR.raw {ad : Addr} {i : Nat} {x : α} (h : SR k cs w S (some ad) m l) (hi : l[i]? = some x) (j : Nat) : ∀ u, (cs x)[j]? = some u → w.cell? ((ad.add (i * k)).add j) = some u := by
  intro u hu
  have hl : i < l.length := (List.getElem?_eq_some_iff.1 hi).1
  obtain ⟨ad', e, _, _, hc⟩ := h.2 (by have := h.1; omega)
  injection e with e
  subst e
  rw [off_add]
  exact hc i x hi j u hu
end
theorem flat_at {α : Type} {k : Nat} {cs : α → Array Value} (hk : ∀ x, (cs x).size = k) : ∀ (l : List α) (i : Nat) (x : α), l[i]? = some x → ∀ j, j < k → (l.flatMap fun x => (cs x).toList)[i * k + j]? = (cs x)[j]?
  | [], i, x, h, _, _ => by simp at h
  | y :: l, 0, x, h, j, hj => by
    simp only [List.getElem?_cons_zero, Option.some.injEq] at h
    subst h
    simp only [List.flatMap_cons]
    rw [List.getElem?_append_left (by simp [hk]; omega)]
    simp
  | y :: l, i + 1, x, h, j, hj => by
    simp only [List.getElem?_cons_succ] at h
    simp only [List.flatMap_cons]
    rw [List.getElem?_append_right (by simp [hk]; rw [Nat.succ_mul]; omega)]
    have e : (i + 1) * k + j - (cs y).toList.length = i * k + j := by simp [hk]; rw [Nat.succ_mul]; omega
    rw [e]
    exact flat_at hk l i x h j hj
theorem flat_len {α : Type} {k : Nat} {cs : α → Array Value} (hk : ∀ x, (cs x).size = k) (l : List α) : (l.flatMap fun x => (cs x).toList).length = l.length * k := by
  induction l with
  | nil => simp
  | cons y l ih => simp only [List.flatMap_cons, List.length_append, ih, List.length_cons, Array.length_toList, hk]; rw [Nat.succ_mul]; omega
/-- What is owned reads as structs. -/
theorem own_sr {α : Type} {k : Nat} {cs : α → Array Value} (hk : ∀ x, (cs x).size = k) {w : World} {base : Nat} {e : TypeId} {n c : Nat} {A : Option Addr} {l : List α} (h : w.ownsRow base e k (.slice A n c) n (l.flatMap fun x => (cs x).toList)) (hn : n = l.length) :
    SR k cs w (fun k => base ≤ k ∧ k < w.heap.size) A n l := by
  refine ⟨hn, fun hp => ?_⟩
  have hlt := h.lt
  rcases h.2 with ⟨hv, rfl⟩ | ⟨g, cap, cur, hv, _⟩
  · omega
  · injection hv with hA hn hc
    subst hA
    have := hlt g rfl
    refine ⟨⟨g, 0, none⟩, rfl, ⟨this.1, this.2⟩, this.2, fun i x hi j u hu => h.cells (g := g) rfl _ u ?_⟩
    have hj : j < k := by rw [← hk x]; exact (Array.getElem?_eq_some_iff.1 hu).1
    rw [flat_at hk l i x hi j hj]
    exact hu
theorem own_nilv {w : World} {base : Nat} {e : TypeId} {size : Nat} : w.ownsRow base e size (.slice none 0 0) 0 [] := World.ownsRow_nil _ base e size

/-! ### maps of whole numbers -/
/-- Block b of w is a map whose keys are whole numbers from 0 to 31: what it holds of each number. -/
def IM (w : World) (b : Nat) (f : Int → Option Value) : Prop :=
  ∃ es clock, w.heap[b]? = some (.map es clock) ∧ MapKept.Stamped es clock ∧ (∀ x ∈ es.toList, ∃ z : Int, x.key = .int .i64 z ∧ 0 ≤ z ∧ z < 32) ∧ ∀ (z : Int) (v : Value), f z = some v ↔ ∃ x ∈ es.toList, x.key = .int .i64 z ∧ x.val = v
section
variable {w w' : World} {b : Nat} {f : Int → Option Value}
theorem IM.lt (h : IM w b f) : b < w.heap.size := by
  obtain ⟨es, clock, hb, _⟩ := h
  exact (Array.getElem?_eq_some_iff.1 hb).1
theorem IM.chg {S : Nat → Prop} (h : IM w b f) (hc : Chg S w w') (hn : ¬ S b) : IM w' b f := by
  have hl := h.lt
  obtain ⟨es, clock, hb, r⟩ := h
  exact ⟨es, clock, (hc.block b hl hn).trans hb, r⟩
theorem IM.drew (h : IM w b f) : IM w.drew b f := h
theorem IM.alloc (h : IM w b f) (o : Obj) : IM (w.alloc o) b f := h.chg ((Chg.refl (fun _ => False) w).alloc o) id
theorem IM.new (w : World) : IM (w.alloc (.map #[] 0)) w.heap.size (fun _ => none) :=
  ⟨#[], 0, (MapKept.heap_alloc w _).1, MapKept.stamped_empty 0, by simp, by simp⟩
/-- A block of cells is no map. -/
theorem IM.ne (h : IM w b f) {q : Nat} {T : TypeId} {cs : Array Value} (hq : Blk w q T cs) : q ≠ b := by
  rintro rfl
  obtain ⟨es, clock, hb, _⟩ := h
  unfold Blk at hq
  rw [hb] at hq
  injection hq with hq
  cases hq
theorem im_key {es : Array MapEntry} {clock : Nat} (hs : MapKept.Stamped es clock) {x y : MapEntry} (hx : x ∈ es.toList) (hy : y ∈ es.toList) (h : x.key = y.key) : x = y := by
  have hp := ((MapKept.stamped_iff es clock).1 hs).2.2
  obtain ⟨i, hi, rfl⟩ := List.getElem_of_mem hx
  obtain ⟨j, hj, rfl⟩ := List.getElem_of_mem hy
  rcases Nat.lt_trichotomy i j with h1 | h1 | h1
  · exact absurd h (List.pairwise_iff_getElem.1 hp i j hi hj h1)
  · subst h1; rfl
  · exact absurd h.symm (List.pairwise_iff_getElem.1 hp j i hj hi h1)
theorem im_find {es : Array MapEntry} {clock : Nat} (hs : MapKept.Stamped es clock) (hk : ∀ x ∈ es.toList, ∃ z : Int, x.key = .int .i64 z ∧ 0 ≤ z ∧ z < 32) (hf : ∀ (z : Int) (v : Value), f z = some v ↔ ∃ x ∈ es.toList, x.key = .int .i64 z ∧ x.val = v) (z : Int) :
    (Instr.findNow (.int .i64) (.int .i64 z) es.toList 0 = some none ∧ f z = none ∧ ∀ x ∈ es.toList, x.key ≠ .int .i64 z) ∨
    ∃ j e, Instr.findNow (.int .i64) (.int .i64 z) es.toList 0 = some (some (j, e.val)) ∧ es.toList[j]? = some e ∧ e.key = .int .i64 z ∧ f z = some e.val := by
  rcases MapKept.findNow_spec (d := .int .i64) (k := .int .i64 z) (by simp [MapKept.IsKey]) es.toList 0 (fun x hx => by obtain ⟨y, e, _⟩ := hk x hx; rw [e]; simp [MapKept.IsKey]) with ⟨h1, h2⟩ | ⟨j, e, h1, h2, h3⟩
  · refine .inl ⟨h1, ?_, h2⟩
    cases hz : f z with
    | none => rfl
    | some v => obtain ⟨x, hx, e, _⟩ := (hf z v).1 hz; exact absurd e (h2 x hx)
  · exact .inr ⟨j, e, by simpa using h1, h2, h3, (hf z e.val).2 ⟨e, List.mem_of_getElem? h2, h3, rfl⟩⟩
variable {P : Program} {t kt et : TypeId}
theorem IM.look1 (h : IM w b f) (ht : P.underlying t = some (.map kt et)) (hk : P.underlying kt = some (.int .i64)) {zv : Value} (hz : (zeroValue et).run P w = .ok zv w) (z : Int) :
    (Instr.lookup t (.map (some b)) (.int .i64 z) true).run P w = .ok (.tuple #[(f z).getD zv, .bool (f z).isSome]) w := by
  obtain ⟨es, clock, hb, hs, hks, hf⟩ := h
  have hc : (Instr.checkKey es.isEmpty 10000 kt (.int .i64 z)).run P w = .ok () w := MapKept.run_checkKey (k := .int .i64 z) hk (by simp [MapKept.IsKey]) _ 9999
  rcases im_find hs hks hf z with ⟨h1, h2, h3⟩ | ⟨j, e, h1, h2, h3, h4⟩
  · simp [Instr.lookup, run_underlying ht, MapKept.run_getObj_map hb, hc, MapKept.run_findKey hk h1, Result.andThen, hz, h2]
  · simp [Instr.lookup, run_underlying ht, MapKept.run_getObj_map hb, hc, MapKept.run_findKey hk h1, Result.andThen, h4]
theorem IM.look0 (h : IM w b f) (ht : P.underlying t = some (.map kt et)) (hk : P.underlying kt = some (.int .i64)) {zv : Value} (hz : (zeroValue et).run P w = .ok zv w) (z : Int) :
    (Instr.lookup t (.map (some b)) (.int .i64 z) false).run P w = .ok ((f z).getD zv) w := by
  obtain ⟨es, clock, hb, hs, hks, hf⟩ := h
  have hc : (Instr.checkKey es.isEmpty 10000 kt (.int .i64 z)).run P w = .ok () w := MapKept.run_checkKey (k := .int .i64 z) hk (by simp [MapKept.IsKey]) _ 9999
  rcases im_find hs hks hf z with ⟨h1, h2, h3⟩ | ⟨j, e, h1, h2, h3, h4⟩
  · simp [Instr.lookup, run_underlying ht, MapKept.run_getObj_map hb, hc, MapKept.run_findKey hk h1, Result.andThen, hz, h2]
  · simp [Instr.lookup, run_underlying ht, MapKept.run_getObj_map hb, hc, MapKept.run_findKey hk h1, Result.andThen, h4]
theorem im_set {es es' : Array MapEntry} {clock clock' : Nat} {g : Int → Option Value} (hb : w.heap[b]? = some (.map es clock)) (hs : MapKept.Stamped es' clock')
    (hk : ∀ x ∈ es'.toList, ∃ z : Int, x.key = .int .i64 z ∧ 0 ≤ z ∧ z < 32) (hf : ∀ (z : Int) (v : Value), g z = some v ↔ ∃ x ∈ es'.toList, x.key = .int .i64 z ∧ x.val = v) :
    IM (ChangeMaps.setBlock w b (.map es' clock')) b g ∧ Chg (fun k => k = b) w (ChangeMaps.setBlock w b (.map es' clock')) :=
  ⟨⟨es', clock', (MapKept.heap_set hb).1, hs, hk, hf⟩, rfl, rfl, rfl, by simp [ChangeMaps.setBlock], fun k _ hn => (MapKept.heap_set hb).2 k hn⟩
/-- What a map holds behind a store, behind a removal. -/
def putF (f : Int → Option Value) (z : Int) (v : Value) : Int → Option Value := fun y => if y = z then some v else f y
def delF (f : Int → Option Value) (z : Int) : Int → Option Value := fun y => if y = z then none else f y
theorem IM.put (h : IM w b f) (ht : P.underlying t = some (.map kt et)) (hk : P.underlying kt = some (.int .i64)) (z : Int) (hz : 0 ≤ z ∧ z < 32) (v : Value) :
    ∃ w', (Instr.mapUpdate t (.map (some b)) (.int .i64 z) v).run P w = .ok () w' ∧ IM w' b (putF f z v) ∧ Chg (fun k => k = b) w w' := by
  obtain ⟨es, clock, hb, hs, hks, hf⟩ := h
  have hc : (Instr.checkKey false 10000 kt (.int .i64 z)).run P w = .ok () w := MapKept.run_checkKey (k := .int .i64 z) hk (by simp [MapKept.IsKey]) _ 9999
  rcases im_find hs hks hf z with ⟨h1, h2, h3⟩ | ⟨j, e, h1, h2, h3, h4⟩
  · refine ⟨ChangeMaps.setBlock w b (.map (es.push ⟨.int .i64 z, v, clock⟩) (clock + 1)), by simp [Instr.mapUpdate, run_underlying ht, MapKept.run_getObj_map hb, hc, MapKept.run_findKey hk h1, MapKept.run_setObj_map _ hb, Result.andThen, ChangeMaps.setBlock], im_set hb (MapKept.stamped_push hs h3) ?_ ?_⟩
    · intro x hx
      simp only [Array.toList_push, List.mem_append, List.mem_singleton] at hx
      rcases hx with hx | rfl
      · exact hks x hx
      · exact ⟨z, rfl, hz⟩
    · intro y u
      unfold putF
      simp only [Array.toList_push, List.mem_append, List.mem_singleton]
      by_cases hy : y = z
      · subst hy
        rw [if_pos rfl]
        constructor
        · intro e; injection e with e; exact ⟨_, .inr rfl, rfl, e⟩
        · rintro ⟨x, hx | rfl, e1, e2⟩
          · exact absurd e1 (h3 x hx)
          · rw [← e2]
      · rw [if_neg hy, hf y u]
        constructor
        · rintro ⟨x, hx, e1, e2⟩; exact ⟨x, .inl hx, e1, e2⟩
        · rintro ⟨x, hx | rfl, e1, e2⟩
          · exact ⟨x, hx, e1, e2⟩
          · injection e1 with _ e1; exact absurd e1.symm hy
  · have hj : es[j]? = some e := by simpa using h2
    have hkeyf : ∀ e', es[j]? = some e' → ({ e' with key := .int .i64 z, val := v } : MapEntry).key = e'.key := fun e' he' => by rw [hj] at he'; cases he'; exact h3.symm
    have hlist : (es.modify j (fun e' => { e' with key := .int .i64 z, val := v })).toList = es.toList.set j { e with key := .int .i64 z, val := v } := by rw [Array.toList_modify, ChangeMaps.modify_eq_set _ _ _ _ h2]
    have hst := MapKept.run_keyThatStays (P := P) (w := w) (d := .int .i64) (k := .int .i64 z) (by simp [MapKept.IsKey])
    have hjl : j < es.toList.length := (List.getElem?_eq_some_iff.1 h2).1
    have hmem : ∀ x, x ∈ es.toList.set j { e with key := .int .i64 z, val := v } → x = { e with key := .int .i64 z, val := v } ∨ (x ∈ es.toList ∧ x.key ≠ .int .i64 z) := by
      intro x hx
      obtain ⟨i, hi, ex⟩ := List.getElem_of_mem hx
      rw [List.getElem_set] at ex
      split at ex
      · exact .inl ex.symm
      · rename_i hne
        have hi' : i < es.toList.length := by simpa using hi
        refine .inr ⟨ex ▸ List.getElem_mem hi', fun he => hne ?_⟩
        have hp := ((MapKept.stamped_iff es clock).1 hs).2.2
        have he2 : es.toList[j] = e := by rw [List.getElem?_eq_getElem hjl] at h2; injection h2
        rcases Nat.lt_trichotomy i j with q | q | q
        · exact absurd (by rw [ex, he2, he, h3]) (List.pairwise_iff_getElem.1 hp i j hi' hjl q)
        · exact q.symm
        · exact absurd (by rw [ex, he2, he, h3]) (List.pairwise_iff_getElem.1 hp j i hjl hi' q)
    refine ⟨ChangeMaps.setBlock w b (.map (es.modify j (fun e' => { e' with key := .int .i64 z, val := v })) clock), by simp [Instr.mapUpdate, run_underlying ht, MapKept.run_getObj_map hb, hc, MapKept.run_findKey hk h1, hj, h3, hst, MapKept.run_setObj_map _ hb, Result.andThen, ChangeMaps.setBlock], im_set hb (MapKept.stamped_modify hs _ _ (fun _ _ => rfl) (fun e' _ he' => hkeyf e' he')) ?_ ?_⟩
    · intro x hx
      rw [hlist] at hx
      rcases hmem x hx with rfl | ⟨hx, _⟩
      · exact ⟨z, rfl, hz⟩
      · exact hks x hx
    · intro y u
      unfold putF
      rw [hlist]
      by_cases hy : y = z
      · subst hy
        rw [if_pos rfl]
        constructor
        · intro e1; injection e1 with e1; exact ⟨{ e with key := .int .i64 y, val := v }, List.mem_iff_getElem.2 ⟨j, by simpa using hjl, by simp⟩, rfl, e1⟩
        · rintro ⟨x, hx, e1, e2⟩
          rcases hmem x hx with rfl | ⟨_, hne⟩
          · rw [← e2]
          · exact absurd e1 hne
      · rw [if_neg hy, hf y u]
        constructor
        · rintro ⟨x, hx, e1, e2⟩
          obtain ⟨i, hi, ex⟩ := List.getElem_of_mem hx
          refine ⟨x, List.mem_iff_getElem.2 ⟨i, by simpa using hi, ?_⟩, e1, e2⟩
          rw [List.getElem_set]
          have hne : j ≠ i := by
            rintro rfl
            rw [List.getElem?_eq_getElem hi, ex] at h2
            injection h2 with h2
            rw [h2, h3] at e1
            injection e1 with _ e1
            exact hy e1.symm
          rw [if_neg hne]
          exact ex
        · rintro ⟨x, hx, e1, e2⟩
          rcases hmem x hx with rfl | ⟨hx, _⟩
          · injection e1 with _ e1; exact absurd e1.symm hy
          · exact ⟨x, hx, e1, e2⟩
theorem IM.del (h : IM w b f) (ht : P.underlying t = some (.map kt et)) (hk : P.underlying kt = some (.int .i64)) (z : Int) :
    ∃ w', (∀ ty, (Builtin.delete_ #[t, kt] ty #[.map (some b), .int .i64 z]).run P w = .ok (.tuple #[]) w') ∧ IM w' b (delF f z) ∧ Chg (fun k => k = b) w w' := by
  obtain ⟨es, clock, hb, hs, hks, hf⟩ := h
  have hc : ∀ em, (Instr.checkKey em 10000 kt (.int .i64 z)).run P w = .ok () w := fun em => MapKept.run_checkKey (k := .int .i64 z) hk (by simp [MapKept.IsKey]) _ 9999
  rcases im_find hs hks hf z with ⟨h1, h2, h3⟩ | ⟨j, e, h1, h2, h3, h4⟩
  · refine ⟨ChangeMaps.setBlock w b (.map es clock), fun ty => by simp [Builtin.delete_, run_underlying ht, MapKept.run_getObj_map hb, hc, MapKept.run_findKey hk h1, MapKept.run_setObj_map _ hb, Result.andThen, ChangeMaps.setBlock], im_set hb hs hks ?_⟩
    intro y u
    unfold delF
    by_cases hy : y = z
    · subst hy
      rw [if_pos rfl]
      exact ⟨(fun e => by cases e), (by rintro ⟨x, hx, e1, _⟩; exact absurd e1 (h3 x hx))⟩
    · rw [if_neg hy]; exact hf y u
  · have hjl : j < es.toList.length := (List.getElem?_eq_some_iff.1 h2).1
    have hjs : j < es.size := by simpa using hjl
    have hsub : (es.eraseIdxIfInBounds j).toList = es.toList.eraseIdx j := by
      unfold Array.eraseIdxIfInBounds
      rw [dif_pos hjs]
      simp
    refine ⟨ChangeMaps.setBlock w b (.map (es.eraseIdxIfInBounds j) clock), fun ty => by simp [Builtin.delete_, run_underlying ht, MapKept.run_getObj_map hb, hc, MapKept.run_findKey hk h1, MapKept.run_setObj_map _ hb, Result.andThen, ChangeMaps.setBlock], im_set hb (MapKept.stamped_erase hs j) ?_ ?_⟩
    · intro x hx
      rw [hsub] at hx
      exact hks x ((List.eraseIdx_sublist _ _).subset hx)
    · intro y u
      unfold delF
      rw [hsub]
      have hp := ((MapKept.stamped_iff es clock).1 hs).2.2
      have he2 : es.toList[j] = e := by rw [List.getElem?_eq_getElem hjl] at h2; injection h2
      by_cases hy : y = z
      · subst hy
        rw [if_pos rfl]
        refine ⟨(fun e => by cases e), ?_⟩
        rintro ⟨x, hx, e1, _⟩
        obtain ⟨i, hne, hi⟩ := List.mem_eraseIdx_iff_getElem?.1 hx
        have hi' : i < es.toList.length := (List.getElem?_eq_some_iff.1 hi).1
        have ex : es.toList[i] = x := by rw [List.getElem?_eq_getElem hi'] at hi; injection hi
        rcases Nat.lt_trichotomy i j with q | q | q
        · exact absurd (by rw [ex, he2, e1, h3]) (List.pairwise_iff_getElem.1 hp i j hi' hjl q)
        · exact absurd q hne
        · exact absurd (by rw [ex, he2, e1, h3]) (List.pairwise_iff_getElem.1 hp j i hjl hi' q)
      · rw [if_neg hy, hf y u]
        constructor
        · rintro ⟨x, hx, e1, e2⟩
          obtain ⟨i, hi⟩ := List.getElem?_of_mem hx
          refine ⟨x, List.mem_eraseIdx_iff_getElem?.2 ⟨i, ?_, hi⟩, e1, e2⟩
          rintro rfl
          rw [h2] at hi
          injection hi with hi
          rw [← hi, h3] at e1
          injection e1 with _ e1
          exact hy e1.symm
        · rintro ⟨x, hx, e1, e2⟩
          exact ⟨x, (List.eraseIdx_sublist _ _).subset hx, e1, e2⟩
theorem IM.clone {es : Array MapEntry} {clock : Nat} (h : IM w b f) (hb : w.heap[b]? = some (.map es clock)) : IM (w.alloc (.map es clock)) w.heap.size f := by
  obtain ⟨es', clock', hb', r⟩ := h
  rw [hb] at hb'
  injection hb' with hb'
  injection hb' with h1 h2
  subst h1
  subst h2
  exact ⟨es, clock, (MapKept.heap_alloc w _).1, r⟩
end

/-! ### a map's keys, sorted -/
theorem nodup_len {l : List Int} {n : Nat} (hn : l.Nodup) (h : ∀ z ∈ l, 0 ≤ z ∧ z < (n : Int)) : l.Perm (((List.range n).map Int.ofNat).filter (fun z => decide (z ∈ l))) ∧ l.length ≤ n := by
  have hp : l.Perm (((List.range n).map Int.ofNat).filter (fun z => decide (z ∈ l))) := by
    refine (List.perm_ext_iff_of_nodup hn ?_).2 (fun z => ?_)
    · refine List.Pairwise.filter _ ?_
      rw [List.pairwise_map]
      exact List.nodup_range.imp (fun h e => h (by injection e))
    · simp only [List.mem_filter, List.mem_map, List.mem_range, decide_eq_true_eq]
      constructor
      · intro hz
        have := h z hz
        exact ⟨⟨z.toNat, by omega, by simp; omega⟩, hz⟩
      · exact fun h => h.2
  refine ⟨hp, ?_⟩
  have h1 := hp.length_eq
  have h2 := List.length_filter_le (fun z => decide (z ∈ l)) ((List.range n).map Int.ofNat)
  rw [List.length_map, List.length_range] at h2
  omega
/-- The keys of what a map holds, rising. -/
def keysP (f : Int → Option Value) : List Int := ((List.range 32).map Int.ofNat).filter (fun z => (f z).isSome)
theorem keys_sorted (f : Int → Option Value) : (keysP f).mergeSort (fun x y => decide (x ≤ y)) = keysP f := by
  refine List.mergeSort_of_pairwise ?_
  unfold keysP
  refine List.Pairwise.filter _ ?_
  rw [List.pairwise_map]
  refine List.pairwise_lt_range.imp ?_
  intro a b h
  simp only [decide_eq_true_eq]
  exact Int.ofNat_le.2 (Nat.le_of_lt h)
/-- A map of ours in the library's words: it owns a datum; whatever order its keys come in, sorted they are ours. -/
theorem IM.owns {w : World} {b : Nat} {f : Int → Option Value} (h : IM w b f) {P : Program} {kt : TypeId} (hk : P.underlying kt = some (.int .i64)) :
    ∃ D0 : DataW Unit, w.ownsMap P kt (fun _ => some (DataW.nil, [])) b 32 D0 ∧ Maps.size D0 ≤ 32 ∧ ∀ ss : List Int, ss.Perm (intKeys D0) → ss.mergeSort (fun x y => decide (x ≤ y)) = keysP f ∧ ss.length = (keysP f).length := by
  obtain ⟨es, clock, hb, hs, hks, hf⟩ := h
  let R : Value → Option (DataW Unit × List MemPlace) := fun _ => some (DataW.nil, [])
  have hrd : ∀ x ∈ es.toList, ∃ z : Int, WideElems.rd P kt R x = some (.int .i64 z, DataW.nil) ∧ x.key = .int .i64 z ∧ 0 ≤ z ∧ z < 32 := by
    intro x hx
    obtain ⟨z, e, h1, h2⟩ := hks x hx
    refine ⟨z, ?_, e, h1, h2⟩
    have hw : (Lit.int .i64 z).wf = true := WalkArith.wf_i64 (by omega)
    have hk' : keyOf P kt x.key = some (.int .i64 z) := by rw [e]; exact Maps.keyOf_int_mk hk hw
    exact WideElems.rd_mk (R := R) (key := x.key) (val := x.val) (born := x.born) (yv := (DataW.nil, [])) hk' rfl
  have hkeys : (es.toList.map (fun x => Go.intOf (WideElems.rg P kt R x).1)).Nodup := by
    unfold List.Nodup
    rw [List.pairwise_map]
    refine List.Pairwise.imp_of_mem ?_ ((MapKept.stamped_iff es clock).1 hs).2.2
    intro x y hx hy hne e
    obtain ⟨a, ha, ea, _⟩ := hrd x hx
    obtain ⟨c, hc, ec, _⟩ := hrd y hy
    rw [WideElems.rg_of ha, WideElems.rg_of hc] at e
    simp only [Go.intOf] at e
    exact hne (by rw [ea, ec, e])
  have hmem : ∀ z : Int, z ∈ es.toList.map (fun x => Go.intOf (WideElems.rg P kt R x).1) ↔ (f z).isSome = true := by
    intro z
    rw [List.mem_map]
    constructor
    · rintro ⟨x, hx, e⟩
      obtain ⟨a, ha, ea, _⟩ := hrd x hx
      rw [WideElems.rg_of ha] at e
      simp only [Go.intOf] at e
      subst e
      rw [(hf a x.val).2 ⟨x, hx, ea, rfl⟩]
      rfl
    · intro hz
      obtain ⟨v, hv⟩ := Option.isSome_iff_exists.1 hz
      obtain ⟨x, hx, e, _⟩ := (hf z v).1 hv
      obtain ⟨a, ha, ea, _⟩ := hrd x hx
      refine ⟨x, hx, ?_⟩
      rw [WideElems.rg_of ha]
      rw [ea] at e
      injection e with _ e
  have hb2 : ∀ z ∈ es.toList.map (fun x => Go.intOf (WideElems.rg P kt R x).1), 0 ≤ z ∧ z < ((32 : Nat) : Int) := by
    intro z hz
    obtain ⟨x, hx, e⟩ := List.mem_map.1 hz
    obtain ⟨a, ha, ea, h1, h2⟩ := hrd x hx
    rw [WideElems.rg_of ha] at e
    simp only [Go.intOf] at e
    omega
  have hlen := (nodup_len hkeys hb2).2
  rw [List.length_map] at hlen
  have hperm : (intKeys (DataW.map ((es.toList.map (WideElems.rg P kt R)).foldr DataW.insert []))).Perm (es.toList.map (fun x => Go.intOf (WideElems.rg P kt R x).1)) := by
    unfold intKeys
    have := (WideShapes.sorted_perm (es.toList.map (WideElems.rg P kt R))).map (fun p : Lit × DataW Unit => Go.intOf p.1)
    rw [List.map_map] at this
    exact this
  refine ⟨_, ⟨es, clock, hb, ⟨by unfold maxLen; simp at hlen; omega, hs, fun x hx => by obtain ⟨z, h1, _⟩ := hrd x hx; exact ⟨_, h1⟩⟩, by simpa using hlen, rfl⟩, ?_, ?_⟩
  · have e1 : Maps.size (DataW.map ((es.toList.map (WideElems.rg P kt R)).foldr DataW.insert [])) = ((es.toList.map (WideElems.rg P kt R)).foldr DataW.insert []).length := rfl
    rw [e1, length_sorted, List.length_map]
    exact hlen
  · intro ss hss
    have hp2 := hss.trans hperm
    have h3 : ss.Perm (keysP f) := by
      refine (List.perm_ext_iff_of_nodup (hp2.symm.nodup hkeys) ?_).2 (fun z => ?_)
      · unfold keysP
        refine List.Pairwise.filter _ ?_
        rw [List.pairwise_map]
        exact List.nodup_range.imp (fun h e => h (by injection e))
      · rw [hp2.mem_iff, hmem z]
        unfold keysP
        simp only [List.mem_filter, List.mem_map, List.mem_range]
        refine ⟨fun hz => ⟨?_, hz⟩, fun h => h.2⟩
        have := hb2 z ((hmem z).2 hz)
        exact ⟨z.toNat, by omega, by simp; omega⟩
    exact ⟨(mergeSort_of_perm_i h3).trans (keys_sorted f), h3.length_eq⟩

end Go.Proofs.YtimgnogacanifaaGreat
