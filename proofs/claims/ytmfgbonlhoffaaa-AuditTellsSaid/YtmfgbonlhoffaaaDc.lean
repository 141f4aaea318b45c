/-
  Maps of numbers, whatever the keys are, in memory; keys that are a port and a generation, keys that are numbers. No condition.
-/
import Derived.Test.YtmfgbonlhoffaaaGen
import Derived.Test.YtmfgbonlhoffaaaRows
import Derived.MapKept
import Derived.ChangeMaps4
import Derived.ChangeMaps5
import Derived.Laws.StructEq
import Derived.WideKeyRuns
namespace Go.Proofs.Ytmfgbonlhoffaaa
open Go.RowKit
set_option linter.unusedVariables false
set_option linter.unusedSectionVars false

/-- How a map's keys behave. -/
structure KR21 (P : Program) (kt mt et : TypeId) {α : Type} [DecidableEq α] (key : α → Value) : Prop where
  un : P.underlying mt = some (.map kt et)
  inj : ∀ a b, key a = key b → a = b
  chk : ∀ w em a, (Instr.checkKey em 10000 kt (key a)).run P w = .ok () w
  stay : ∀ w a, (Instr.keyThatStays (key a) (key a)).run P w = .ok (key a) w
  find : ∀ w a (es : List MapEntry), (∀ e ∈ es, ∃ c, e.key = key c) →
    ((Instr.findKey kt (key a) es).run P w = .ok none w ∧ ∀ e ∈ es, e.key ≠ key a) ∨
    ∃ j e, (Instr.findKey kt (key a) es).run P w = .ok (some (j, e.val)) w ∧ es[j]? = some e ∧ e.key = key a
  zero : ∀ w, (zeroValue et).run P w = .ok (.int .i64 0) w
section
variable {α : Type} [DecidableEq α] {key : α → Value} {P : Program} {kt mt et : TypeId} {w w' : World} {b : Nat} {f : α → Option Int}
/-- What stands behind a store. -/
def up21 (f : α → Option Int) (k : α) (v : Int) : α → Option Int := fun a => if a = k then some v else f a
/-- Block b of w is a map: what it holds of each key. -/
def GM (key : α → Value) (w : World) (b : Nat) (f : α → Option Int) : Prop :=
  ∃ es clock, w.heap[b]? = some (.map es clock) ∧ MapKept.Stamped es clock ∧ (∀ x ∈ es.toList, ∃ k v, x.key = key k ∧ x.val = .int .i64 v) ∧ ∀ k v, f k = some v ↔ ∃ x ∈ es.toList, x.key = key k ∧ x.val = .int .i64 v
theorem GM.lt (h : GM key w b f) : b < w.heap.size := by
  obtain ⟨es, clock, hb, _⟩ := h
  exact (Array.getElem?_eq_some_iff.1 hb).1
theorem GM.chg {S : Nat → Prop} (h : GM key w b f) (hc : Chg S w w') (hn : ¬ S b) : GM key w' b f := by
  have hl := h.lt
  obtain ⟨es, clock, hb, r⟩ := h
  exact ⟨es, clock, (hc.block b hl hn).trans hb, r⟩
theorem GM.new (w : World) : GM key (w.alloc (.map #[] 0)) w.heap.size (fun _ => none) :=
  ⟨#[], 0, (MapKept.heap_alloc w _).1, MapKept.stamped_empty 0, by simp, by simp⟩
theorem GM.ne (h : GM key w b f) {q : Nat} {T : TypeId} {cs : Array Value} (hq : Blk w q T cs) : q ≠ b := by
  rintro rfl
  obtain ⟨es, clock, hb, _⟩ := h
  unfold Blk at hq
  rw [hb] at hq
  injection hq with hq
  cases hq
set_option maxRecDepth 100000 in
set_option maxHeartbeats 1000000 in
theorem GM.look (hr : KR21 P kt mt et key) (h : GM key w b f) (k : α) (ok : Bool) : (Instr.lookup mt (.map (some b)) (key k) ok).run P w = .ok (if ok then .tuple #[.int .i64 ((f k).getD 0), .bool (f k).isSome] else .int .i64 ((f k).getD 0)) w := by
  obtain ⟨es, clock, hb, hs, hks, hf⟩ := h
  have hz := hr.zero w
  have hc := hr.chk w es.isEmpty k
  rcases hr.find w k es.toList (fun x hx => by obtain ⟨c, v, e, _⟩ := hks x hx; exact ⟨c, e⟩) with ⟨h1, h2⟩ | ⟨j, e, h1, h2, h3⟩
  · have h4 : f k = none := by
      cases hz : f k with
      | none => rfl
      | some v => obtain ⟨x, hx, e, _⟩ := (hf k v).1 hz; exact absurd e (h2 x hx)
    cases ok <;> simp [Instr.lookup, run_underlying hr.un, MapKept.run_getObj_map hb, hc, h1, Result.andThen, hz, h4]
  · have hm := List.mem_of_getElem? h2
    obtain ⟨c, v, _, hv⟩ := hks e hm
    have h4 : f k = some v := (hf k v).2 ⟨e, hm, h3, hv⟩
    cases ok <;> simp [Instr.lookup, run_underlying hr.un, MapKept.run_getObj_map hb, hc, h1, Result.andThen, h4, hv]
set_option maxRecDepth 100000 in
set_option maxHeartbeats 1000000 in
theorem GM.put (hr : KR21 P kt mt et key) (h : GM key w b f) (k : α) (v : Int) :
    ∃ w', (Instr.mapUpdate mt (.map (some b)) (key k) (.int .i64 v)).run P w = .ok () w' ∧ GM key w' b (up21 f k v) ∧ Chg (fun k => k = b) w w' := by
  obtain ⟨es, clock, hb, hs, hks, hf⟩ := h
  have hc := hr.chk w false k
  have hset : ∀ (es' : Array MapEntry) (clock' : Nat), MapKept.Stamped es' clock' → (∀ x ∈ es'.toList, ∃ k v, x.key = key k ∧ x.val = .int .i64 v) → (∀ (k0 : α) (v0 : Int), up21 f k v k0 = some v0 ↔ ∃ x ∈ es'.toList, x.key = key k0 ∧ x.val = .int .i64 v0) →
      GM key (ChangeMaps.setBlock w b (.map es' clock')) b (up21 f k v) ∧ Chg (fun k => k = b) w (ChangeMaps.setBlock w b (.map es' clock')) := fun es' clock' h1 h2 h3 =>
    ⟨⟨es', clock', (MapKept.heap_set hb).1, h1, h2, h3⟩, rfl, rfl, rfl, by simp [ChangeMaps.setBlock], fun k _ hn => (MapKept.heap_set hb).2 k hn⟩
  rcases hr.find w k es.toList (fun x hx => by obtain ⟨c, v, e, _⟩ := hks x hx; exact ⟨c, e⟩) with ⟨h1, h2⟩ | ⟨j, e, h1, h2, h3⟩
  · refine ⟨ChangeMaps.setBlock w b (.map (es.push ⟨key k, .int .i64 v, clock⟩) (clock + 1)), by simp [Instr.mapUpdate, run_underlying hr.un, MapKept.run_getObj_map hb, hc, h1, MapKept.run_setObj_map _ hb, Result.andThen, ChangeMaps.setBlock], hset _ _ (MapKept.stamped_push hs h2) ?_ ?_⟩
    · intro x hx
      simp only [Array.toList_push, List.mem_append, List.mem_singleton] at hx
      rcases hx with hx | rfl
      · exact hks x hx
      · exact ⟨k, v, rfl, rfl⟩
    · intro k0 u
      unfold up21
      simp only [Array.toList_push, List.mem_append, List.mem_singleton]
      by_cases hy : k0 = k
      · subst hy
        rw [if_pos rfl]
        constructor
        · intro e; injection e with e; exact ⟨_, .inr rfl, rfl, by rw [e]⟩
        · rintro ⟨x, hx | rfl, e1, e2⟩
          · exact absurd e1 (h2 x hx)
          · injection e2 with _ e2; rw [e2]
      · rw [if_neg hy, hf k0 u]
        constructor
        · rintro ⟨x, hx, e1, e2⟩; exact ⟨x, .inl hx, e1, e2⟩
        · rintro ⟨x, hx | rfl, e1, e2⟩
          · exact ⟨x, hx, e1, e2⟩
          · exact absurd (hr.inj _ _ e1).symm hy
  · have hj : es[j]? = some e := by simpa using h2
    have hkeyf : ∀ e', es[j]? = some e' → ({ e' with key := key k, val := .int .i64 v } : MapEntry).key = e'.key := fun e' he' => by rw [hj] at he'; cases he'; exact h3.symm
    have hlist : (es.modify j (fun e' => { e' with key := key k, val := .int .i64 v })).toList = es.toList.set j { e with key := key k, val := .int .i64 v } := by rw [Array.toList_modify, ChangeMaps.modify_eq_set _ _ _ _ h2]
    have hst := hr.stay w k
    have hjl : j < es.toList.length := (List.getElem?_eq_some_iff.1 h2).1
    have hmem : ∀ x, x ∈ es.toList.set j { e with key := key k, val := .int .i64 v } → x = { e with key := key k, val := .int .i64 v } ∨ (x ∈ es.toList ∧ x.key ≠ key k) := by
      intro x hx
      obtain ⟨i, hi, ex⟩ := List.getElem_of_mem hx
      rw [List.getElem_set] at ex
      split at ex
      · exact .inl ex.symm
      · rename_i hne
        have hi' : i < es.toList.length := by simpa using hi
        refine .inr ⟨ex ▸ List.getElem_mem hi', fun he => hne ?_⟩
        have hp := ((MapKept.stamped_iff es clock).1 hs).2.2
        have he2 : es.toList[j] = e := by rw [List.getElem?_eq_getElem hjl] at h2; injection h2
        rcases Nat.lt_trichotomy i j with q | q | q
        · exact absurd (by rw [ex, he2, he, h3]) (List.pairwise_iff_getElem.1 hp i j hi' hjl q)
        · exact q.symm
        · exact absurd (by rw [ex, he2, he, h3]) (List.pairwise_iff_getElem.1 hp j i hjl hi' q)
    refine ⟨ChangeMaps.setBlock w b (.map (es.modify j (fun e' => { e' with key := key k, val := .int .i64 v })) clock), by simp [Instr.mapUpdate, run_underlying hr.un, MapKept.run_getObj_map hb, hc, h1, hj, h3, hst, MapKept.run_setObj_map _ hb, Result.andThen, ChangeMaps.setBlock], hset _ _ (MapKept.stamped_modify hs _ _ (fun _ _ => rfl) (fun e' _ he' => hkeyf e' he')) ?_ ?_⟩
    · intro x hx
      rw [hlist] at hx
      rcases hmem x hx with rfl | ⟨hx, _⟩
      · exact ⟨k, v, rfl, rfl⟩
      · exact hks x hx
    · intro k0 u
      unfold up21
      rw [hlist]
      by_cases hy : k0 = k
      · subst hy
        rw [if_pos rfl]
        constructor
        · intro e1; injection e1 with e1; exact ⟨{ e with key := key k0, val := .int .i64 v }, List.mem_iff_getElem.2 ⟨j, by simpa using hjl, by simp⟩, rfl, by rw [e1]⟩
        · rintro ⟨x, hx, e1, e2⟩
          rcases hmem x hx with rfl | ⟨_, hne⟩
          · injection e2 with _ e2; rw [e2]
          · exact absurd e1 hne
      · rw [if_neg hy, hf k0 u]
        constructor
        · rintro ⟨x, hx, e1, e2⟩
          obtain ⟨i, hi, ex⟩ := List.getElem_of_mem hx
          refine ⟨x, List.mem_iff_getElem.2 ⟨i, by simpa using hi, ?_⟩, e1, e2⟩
          rw [List.getElem_set]
          have hne : j ≠ i := by
            rintro rfl
            have he2 : es.toList[j] = e := by rw [List.getElem?_eq_getElem hjl] at h2; injection h2
            rw [← ex, he2, h3] at e1
            exact hy (hr.inj _ _ e1).symm
          rw [if_neg hne]
          exact ex
        · rintro ⟨x, hx, e1, e2⟩
          rcases hmem x hx with rfl | ⟨hx, _⟩
          · exact absurd (hr.inj _ _ e1).symm hy
          · exact ⟨x, hx, e1, e2⟩
end
/-! ### keys that are numbers -/
theorem kr21_int {P : Program} {kt mt et : TypeId} (hm : P.underlying mt = some (.map kt et)) (hk : P.underlying kt = some (.int .i64)) (hz : ∀ w, (zeroValue et).run P w = .ok (.int .i64 0) w) : KR21 P kt mt et (fun k : Int => Value.int .i64 k) where
  un := hm
  inj a b h := by injection h
  chk w em a := MapKept.run_checkKey (k := .int .i64 a) hk (by simp [MapKept.IsKey]) _ 9999
  stay w a := MapKept.run_keyThatStays (P := P) (w := w) (d := .int .i64) (k := .int .i64 a) (by simp [MapKept.IsKey])
  find w a es h := by
    rcases MapKept.findNow_spec (d := .int .i64) (k := .int .i64 a) (by simp [MapKept.IsKey]) es 0 (fun x hx => by obtain ⟨y, e⟩ := h x hx; rw [e]; simp [MapKept.IsKey]) with ⟨h1, h2⟩ | ⟨j, e, h1, h2, h3⟩
    · exact .inl ⟨MapKept.run_findKey hk h1, h2⟩
    · exact .inr ⟨j, e, by have := MapKept.run_findKey (P := P) (w := w) hk h1; simpa using this, h2, h3⟩
  zero := hz
/-! ### keys that are a port and a generation -/
theorem stP21 : Try.prog.underlying 52 = some (.struct (Try.prog.fieldsOf 52)) := by kernel_rfl
theorem hpP21 : Try.prog.stoodInHeld 52 = false := by kernel_rfl
def pk21 (k : Int × Int) : Value := .agg #[.int .i64 k.1, .int .i64 k.2]
theorem pk21_inj (a b : Int × Int) (h : pk21 a = pk21 b) : a = b := by
  obtain ⟨a, c⟩ := a
  obtain ⟨b, d⟩ := b
  unfold pk21 at h
  injection h with h
  simpa using h
theorem eqP21 (w : World) (a b : Int × Int) : (Op.equal 52 (pk21 a) (pk21 b)).run Try.prog w = .ok (a.1 == b.1 && a.2 == b.2) w := by
  obtain ⟨a, c⟩ := a
  obtain ⟨b, d⟩ := b
  unfold Op.equal Op.maxDepth pk21
  rw [show (10000 : Nat) = 9999 + 1 from rfl, run_equalIn_agg w 9999 52 _ _ stP21 hpP21]
  go_simp
  by_cases h : a = b
  · by_cases h2 : c = d
    · simp [h, h2]
    · simp [h, h2]
  · simp [h]
theorem find21 (w : World) (a : Int × Int) : ∀ (es : List MapEntry) (i : Nat), (∀ e ∈ es, ∃ c, e.key = pk21 c) →
    ((Instr.findAsking 52 (pk21 a) es i).run Try.prog w = .ok none w ∧ ∀ e ∈ es, e.key ≠ pk21 a) ∨
    ∃ j e, (Instr.findAsking 52 (pk21 a) es i).run Try.prog w = .ok (some (i + j, e.val)) w ∧ es[j]? = some e ∧ e.key = pk21 a
  | [], i, _ => Or.inl ⟨by simp [Instr.findAsking], by simp⟩
  | e :: es, i, hall => by
    obtain ⟨c, hl⟩ := hall e (by simp)
    have hr := eqP21 w a c
    rw [← hl] at hr
    cases hh : (a.1 == c.1 && a.2 == c.2) with
    | false =>
      rw [hh] at hr
      have hne : e.key ≠ pk21 a := fun h => by
        rw [hl] at h
        obtain rfl := pk21_inj _ _ h
        simp at hh
      rcases find21 w a es (i + 1) (fun y hy => hall y (by simp [hy])) with ⟨h1, h2⟩ | ⟨j, e', h1, h2, h3⟩
      · left
        refine ⟨by simp [Instr.findAsking, hr, h1], fun y hy => ?_⟩
        rcases List.mem_cons.1 hy with rfl | hy
        · exact hne
        · exact h2 y hy
      · right
        exact ⟨j + 1, e', by simp [Instr.findAsking, hr, h1, Nat.add_assoc, Nat.add_comm 1 j], by simpa using h2, h3⟩
    | true =>
      rw [hh] at hr
      right
      rw [Bool.and_eq_true] at hh
      have h1 : a.1 = c.1 := by simpa using hh.1
      have h2 : a.2 = c.2 := by simpa using hh.2
      exact ⟨0, e, by simp [Instr.findAsking, hr], rfl, by rw [hl, Prod.ext h1 h2]⟩
theorem kr21_owners : KR21 Try.prog 52 40 3 pk21 where
  un := by kernel_rfl
  inj := pk21_inj
  chk w em a := by kernel_rfl
  stay w a := by
    have hs : Instr.sameBits 10000 (pk21 a) (pk21 a) = true := by simp [pk21, Instr.sameBits]
    simp [Instr.keyThatStays, hs]
  find w a es h := by
    rw [run_findKey_eq w (by rw [stP21]) (pk21 a) es]
    have := find21 w a es 0 h
    simpa using this
  zero w := by kernel_rfl
theorem kr21_left : KR21 Try.prog 3 41 3 (fun k : Int => Value.int .i64 k) := kr21_int (by kernel_rfl) (by kernel_rfl) (fun w => by kernel_rfl)

end Go.Proofs.Ytmfgbonlhoffaaa
