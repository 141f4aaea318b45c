/-
  A map whose keys are a kind and a port, in memory. No condition.
-/
import Derived.Test.YtfajcdobikjcdaaGreatDoorOa
import Derived.MapKept
import Derived.ChangeMaps4
import Derived.ChangeMaps5
import Derived.Laws.StructEq
import Derived.WideKeyRuns
set_option maxRecDepth 100000
set_option maxHeartbeats 40000000
set_option linter.unusedVariables false
set_option linter.unusedSimpArgs false
namespace Go.Proofs.YtfajcdobikjcdaaGreatDoor
open Go.Value (int)
open Go.IntKind (i64)
open Go.RowKit
theorem stT16 : Tryz.prog.underlying 184 = some (.struct (Tryz.prog.fieldsOf 184)):=by kernel_rfl
theorem hpT16 : Tryz.prog.stoodInHeld 184 = false:=by kernel_rfl
theorem unM16 : Tryz.prog.underlying 60 = some (.map 184 3):=by kernel_rfl
def tkV (kd po : Int) : Value := .agg #[int i64 kd,int i64 po]
theorem tkV_inj {a b c d : Int} (h : tkV a b = tkV c d) : a = c ∧ b = d:=by
 unfold tkV at h
 injection h with h
 simpa using h
theorem eq16 (w : World) (a b c d : Int) : (Op.equal 184 (tkV a b) (tkV c d)).run Tryz.prog w = .ok (a == c && b == d) w:=by
 unfold Op.equal Op.maxDepth tkV
 rw [show (10000 : Nat) = 9999 + 1 from rfl,run_equalIn_agg w 9999 184 _ _ stT16 hpT16]
 go_simp
 by_cases h : a = c
 ·by_cases h2 : b = d
  ·simp [h,h2]
  ·simp [h,h2]
 ·simp [h]
theorem chk16 (w : World) (em : Bool) (a b : Int) : (Instr.checkKey em 10000 184 (tkV a b)).run Tryz.prog w = .ok () w:=by kernel_rfl
theorem stay16 (w : World) (a b : Int) : (Instr.keyThatStays (tkV a b) (tkV a b)).run Tryz.prog w = .ok (tkV a b) w:=by
 have hs : Instr.sameBits 10000 (tkV a b) (tkV a b) = true:=by simp [tkV,Instr.sameBits]
 simp [Instr.keyThatStays,hs]
theorem find16 (w : World) (a b : Int) : ∀ (es : List MapEntry) (i : Nat),(∀ e ∈ es, ∃ c d,e.key = tkV c d) →
  ((Instr.findAsking 184 (tkV a b) es i).run Tryz.prog w = .ok none w ∧ ∀ e ∈ es,e.key ≠ tkV a b) ∨
  ∃ j e,(Instr.findAsking 184 (tkV a b) es i).run Tryz.prog w = .ok (some (i + j,e.val)) w ∧ es[j]? = some e ∧ e.key = tkV a b
 | [],i,_=>Or.inl ⟨by simp [Instr.findAsking],by simp⟩
 | e :: es,i,hall=>by
  obtain ⟨c,d,hl⟩:=hall e (by simp)
  have hr:=eq16 w a b c d
  rw [← hl] at hr
  cases hh : (a == c && b == d) with
  | false =>
   rw [hh] at hr
   have hne : e.key ≠ tkV a b:=fun h=>by
    rw [hl] at h
    obtain ⟨rfl,rfl⟩:=tkV_inj h
    simp at hh
   rcases find16 w a b es (i + 1) (fun y hy=>hall y (by simp [hy])) with ⟨h1,h2⟩ | ⟨j,e',h1,h2,h3⟩
   ·left
    refine ⟨by simp [Instr.findAsking,hr,h1],fun y hy => ?_⟩
    rcases List.mem_cons.1 hy with rfl | hy
    ·exact hne
    ·exact h2 y hy
   ·right
    exact ⟨j + 1,e',by simp [Instr.findAsking,hr,h1,Nat.add_assoc,Nat.add_comm 1 j],by simpa using h2,h3⟩
  | true =>
   rw [hh] at hr
   right
   rw [Bool.and_eq_true] at hh
   have h1 : a = c:=by simpa using hh.1
   have h2 : b = d:=by simpa using hh.2
   exact ⟨0,e,by simp [Instr.findAsking,hr],rfl,by rw [hl,h1,h2]⟩
theorem findK16 (w : World) (a b : Int) (es : List MapEntry) (h : ∀ e ∈ es, ∃ c d,e.key = tkV c d) :
  ((Instr.findKey 184 (tkV a b) es).run Tryz.prog w = .ok none w ∧ ∀ e ∈ es,e.key ≠ tkV a b) ∨
  ∃ j e,(Instr.findKey 184 (tkV a b) es).run Tryz.prog w = .ok (some (j,e.val)) w ∧ es[j]? = some e ∧ e.key = tkV a b:=by
 rw [run_findKey_eq w (by rw [stT16]) (tkV a b) es]
 have:=find16 w a b es 0 h
 simpa using this
section
variable {w w' : World} {b : Nat} {f : Int → Int → Option Int}
def tdG (f : Int → Int → Option Int) (k p : Int) : Int:=(f k p).getD 0
def tdP (f : Int → Int → Option Int) (k p v : Int) : Int → Int → Option Int:=fun a b=>if a = k ∧ b = p then some v else f a b
def TM (w : World) (b : Nat) (f : Int → Int → Option Int) : Prop :=
 ∃ es clock,w.heap[b]? = some (.map es clock) ∧ MapKept.Stamped es clock ∧ (∀ x ∈ es.toList, ∃ k p v,x.key = tkV k p ∧ x.val = int i64 v) ∧ ∀ (k p v : Int),f k p = some v ↔ ∃ x ∈ es.toList,x.key = tkV k p ∧ x.val = int i64 v
theorem TM.lt (h : TM w b f) : b < w.heap.size:=by
 obtain ⟨es,clock,hb,_⟩:=h
 exact (Array.getElem?_eq_some_iff.1 hb).1
theorem TM.chg {S : Nat → Prop} (h : TM w b f) (hc : Chg S w w') (hn : ¬ S b) : TM w' b f:=by
 have hl:=h.lt
 obtain ⟨es,clock,hb,r⟩:=h
 exact ⟨es,clock,(hc.block b hl hn).trans hb,r⟩
theorem TM.new (w : World) : TM (w.alloc (.map #[] 0)) w.heap.size (fun _ _=>none) :=
 ⟨#[],0,(MapKept.heap_alloc w _).1,MapKept.stamped_empty 0,by simp,by simp⟩
theorem TM.ne (h : TM w b f) {q : Nat} {T : TypeId} {cs : Array Value} (hq : Blk w q T cs) : q ≠ b:=by
 rintro rfl
 obtain ⟨es,clock,hb,_⟩:=h
 unfold Blk at hq
 rw [hb] at hq
 injection hq with hq
 cases hq
theorem TM.look (h : TM w b f) (k p : Int) : (Instr.lookup 60 (.map (some b)) (tkV k p) false).run Tryz.prog w = .ok (.int .i64 (tdG f k p)) w := by
  obtain ⟨es, clock, hb, hs, hks, hf⟩ := h
  have hz : (zeroValue 3).run Tryz.prog w = .ok (.int .i64 0) w := by kernel_rfl
  have hc := chk16 w es.isEmpty k p
  rcases findK16 w k p es.toList (fun x hx => by obtain ⟨c, d, v, e, _⟩ := hks x hx; exact ⟨c, d, e⟩) with ⟨h1, h2⟩ | ⟨j, e, h1, h2, h3⟩
  · have h4 : f k p = none := by
      cases hz : f k p with
      | none => rfl
      | some v => obtain ⟨x, hx, e, _⟩ := (hf k p v).1 hz; exact absurd e (h2 x hx)
    simp [Instr.lookup, run_underlying unM16, MapKept.run_getObj_map hb, hc, h1, Result.andThen, hz, tdG, h4]
  · have hm := List.mem_of_getElem? h2
    obtain ⟨c, d, v, _, hv⟩ := hks e hm
    have h4 : f k p = some v := (hf k p v).2 ⟨e, hm, h3, hv⟩
    simp [Instr.lookup, run_underlying unM16, MapKept.run_getObj_map hb, hc, h1, Result.andThen, tdG, h4, hv]
theorem TM.put (h : TM w b f) (k p v : Int) :
    ∃ w', (Instr.mapUpdate 60 (.map (some b)) (tkV k p) (.int .i64 v)).run Tryz.prog w = .ok () w' ∧ TM w' b (tdP f k p v) ∧ Chg (fun k => k = b) w w' := by
  obtain ⟨es, clock, hb, hs, hks, hf⟩ := h
  have hc := chk16 w false k p
  have hset : ∀ (es' : Array MapEntry) (clock' : Nat), MapKept.Stamped es' clock' → (∀ x ∈ es'.toList, ∃ k p v, x.key = tkV k p ∧ x.val = .int .i64 v) → (∀ (k0 p0 v0 : Int), tdP f k p v k0 p0 = some v0 ↔ ∃ x ∈ es'.toList, x.key = tkV k0 p0 ∧ x.val = .int .i64 v0) →
      TM (ChangeMaps.setBlock w b (.map es' clock')) b (tdP f k p v) ∧ Chg (fun k => k = b) w (ChangeMaps.setBlock w b (.map es' clock')) := fun es' clock' h1 h2 h3 =>
    ⟨⟨es', clock', (MapKept.heap_set hb).1, h1, h2, h3⟩, rfl, rfl, rfl, by simp [ChangeMaps.setBlock], fun k _ hn => (MapKept.heap_set hb).2 k hn⟩
  rcases findK16 w k p es.toList (fun x hx => by obtain ⟨c, d, v, e, _⟩ := hks x hx; exact ⟨c, d, e⟩) with ⟨h1, h2⟩ | ⟨j, e, h1, h2, h3⟩
  · refine ⟨ChangeMaps.setBlock w b (.map (es.push ⟨tkV k p, .int .i64 v, clock⟩) (clock + 1)), by simp [Instr.mapUpdate, run_underlying unM16, MapKept.run_getObj_map hb, hc, h1, MapKept.run_setObj_map _ hb, Result.andThen, ChangeMaps.setBlock], hset _ _ (MapKept.stamped_push hs h2) ?_ ?_⟩
    · intro x hx
      simp only [Array.toList_push, List.mem_append, List.mem_singleton] at hx
      rcases hx with hx | rfl
      · exact hks x hx
      · exact ⟨k, p, v, rfl, rfl⟩
    · intro k0 p0 u
      unfold tdP
      simp only [Array.toList_push, List.mem_append, List.mem_singleton]
      by_cases hy : k0 = k ∧ p0 = p
      · obtain ⟨rfl, rfl⟩ := hy
        rw [if_pos ⟨rfl, rfl⟩]
        constructor
        · intro e; injection e with e; exact ⟨_, .inr rfl, rfl, by rw [e]⟩
        · rintro ⟨x, hx | rfl, e1, e2⟩
          · exact absurd e1 (h2 x hx)
          · injection e2 with _ e2; rw [e2]
      · rw [if_neg hy, hf k0 p0 u]
        constructor
        · rintro ⟨x, hx, e1, e2⟩; exact ⟨x, .inl hx, e1, e2⟩
        · rintro ⟨x, hx | rfl, e1, e2⟩
          · exact ⟨x, hx, e1, e2⟩
          · have := tkV_inj e1; exact absurd ⟨this.1.symm, this.2.symm⟩ hy
  · have hj : es[j]? = some e := by simpa using h2
    have hkeyf : ∀ e', es[j]? = some e' → ({ e' with key := tkV k p, val := .int .i64 v } : MapEntry).key = e'.key := fun e' he' => by rw [hj] at he'; cases he'; exact h3.symm
    have hlist : (es.modify j (fun e' => { e' with key := tkV k p, val := .int .i64 v })).toList = es.toList.set j { e with key := tkV k p, val := .int .i64 v } := by rw [Array.toList_modify, ChangeMaps.modify_eq_set _ _ _ _ h2]
    have hst := stay16 w k p
    have hjl : j < es.toList.length := (List.getElem?_eq_some_iff.1 h2).1
    have hmem : ∀ x, x ∈ es.toList.set j { e with key := tkV k p, val := .int .i64 v } → x = { e with key := tkV k p, val := .int .i64 v } ∨ (x ∈ es.toList ∧ x.key ≠ tkV k p) := by
      intro x hx
      obtain ⟨i, hi, ex⟩ := List.getElem_of_mem hx
      rw [List.getElem_set] at ex
      split at ex
      · exact .inl ex.symm
      · rename_i hne
        have hi' : i < es.toList.length := by simpa using hi
        refine .inr ⟨ex ▸ List.getElem_mem hi', fun he => hne ?_⟩
        have hp := ((MapKept.stamped_iff es clock).1 hs).2.2
        have he2 : es.toList[j] = e := by rw [List.getElem?_eq_getElem hjl] at h2; injection h2
        rcases Nat.lt_trichotomy i j with q | q | q
        · exact absurd (by rw [ex, he2, he, h3]) (List.pairwise_iff_getElem.1 hp i j hi' hjl q)
        · exact q.symm
        · exact absurd (by rw [ex, he2, he, h3]) (List.pairwise_iff_getElem.1 hp j i hjl hi' q)
    refine ⟨ChangeMaps.setBlock w b (.map (es.modify j (fun e' => { e' with key := tkV k p, val := .int .i64 v })) clock), by simp [Instr.mapUpdate, run_underlying unM16, MapKept.run_getObj_map hb, hc, h1, hj, h3, hst, MapKept.run_setObj_map _ hb, Result.andThen, ChangeMaps.setBlock], hset _ _ (MapKept.stamped_modify hs _ _ (fun _ _ => rfl) (fun e' _ he' => hkeyf e' he')) ?_ ?_⟩
    · intro x hx
      rw [hlist] at hx
      rcases hmem x hx with rfl | ⟨hx, _⟩
      · exact ⟨k, p, v, rfl, rfl⟩
      · exact hks x hx
    · intro k0 p0 u
      unfold tdP
      rw [hlist]
      by_cases hy : k0 = k ∧ p0 = p
      · obtain ⟨rfl, rfl⟩ := hy
        rw [if_pos ⟨rfl, rfl⟩]
        constructor
        · intro e1; injection e1 with e1; exact ⟨{ e with key := tkV k0 p0, val := .int .i64 v }, List.mem_iff_getElem.2 ⟨j, by simpa using hjl, by simp⟩, rfl, by rw [e1]⟩
        · rintro ⟨x, hx, e1, e2⟩
          rcases hmem x hx with rfl | ⟨_, hne⟩
          · injection e2 with _ e2; rw [e2]
          · exact absurd e1 hne
      · rw [if_neg hy, hf k0 p0 u]
        constructor
        · rintro ⟨x, hx, e1, e2⟩
          obtain ⟨i, hi, ex⟩ := List.getElem_of_mem hx
          refine ⟨x, List.mem_iff_getElem.2 ⟨i, by simpa using hi, ?_⟩, e1, e2⟩
          rw [List.getElem_set]
          have hne : j ≠ i := by
            rintro rfl
            rw [List.getElem?_eq_getElem hi, ex] at h2
            injection h2 with h2
            rw [h2, h3] at e1
            have := tkV_inj e1
            exact hy ⟨this.1.symm, this.2.symm⟩
          rw [if_neg hne]
          exact ex
        · rintro ⟨x, hx, e1, e2⟩
          rcases hmem x hx with rfl | ⟨hx, _⟩
          · have := tkV_inj e1; exact absurd ⟨this.1.symm, this.2.symm⟩ hy
          · exact ⟨x, hx, e1, e2⟩
theorem TM.clear (h : TM w b f) : ∃ w',(∀ ty,(Builtin.clear_ #[60] ty #[.map (some b)]).run Tryz.prog w = .ok (.tuple #[]) w') ∧ TM w' b (fun _ _=>none) ∧ Chg (fun k=>k = b) w w':=by
 obtain ⟨es,clock,hb,hs,hks,hf⟩:=h
 refine ⟨ChangeMaps.setBlock w b (.map #[] clock),fun ty=>by simp [Builtin.clear_,run_underlying unM16,MapKept.run_getObj_map hb,MapKept.run_setObj_map _ hb,Result.andThen,ChangeMaps.setBlock],⟨#[],clock,(MapKept.heap_set hb).1,MapKept.stamped_empty clock,by simp,by simp⟩,rfl,rfl,rfl,by simp [ChangeMaps.setBlock],fun k _ hn=>(MapKept.heap_set hb).2 k hn⟩
end
end Go.Proofs.YtfajcdobikjcdaaGreatDoor
