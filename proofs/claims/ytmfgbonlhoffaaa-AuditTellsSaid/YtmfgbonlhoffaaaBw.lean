/-
  The blocks that a walk has laid, as one fact; steps for a new box, a load, a store, a call, an end. No condition.
-/
import Derived.Test.YtmfgbonlhoffaaaGen
import Derived.Laws.Rows
import Derived.Laws.Tables
import Derived.Laws.IdiomCopy
import Derived.Lib.Hide
import Derived.Laws.NewFold
import Derived.Test.YtmfgbonlhoffaaaRows
namespace Go.Proofs.Ytmfgbonlhoffaaa
open Go.RowKit
set_option linter.unusedVariables false

/-- What a walk knows: what has changed since w0 is in S; blocks, and what is in them; they are new since w0, or in S; no two are the same. -/
structure St (S : Nat → Prop) (w0 w : World) (L : List (Nat × TypeId × Array Value)) : Prop where
  x : Chg S w0 w
  b : ∀ e ∈ L, (w0.heap.size ≤ e.1 ∨ S e.1) ∧ Blk w e.1 e.2.1 e.2.2
  d : L.Pairwise (fun e f => e.1 ≠ f.1)
theorem st_new (S : Nat → Prop) (w : World) : Hid (St S w w []) := Lib.hid ⟨Chg.refl _ _, by simp, .nil⟩
section
variable {S : Nat → Prop} {w0 w w' : World} {L pre post : List (Nat × TypeId × Array Value)} {q : Nat} {T : TypeId} {cs : Array Value}
/-- Behind a call that changes nothing. -/
theorem St.k (h : St S w0 w L) (hc : Chg (fun _ => False) w w') : St S w0 w' L := ⟨h.x.trans hc (fun _ _ e => e.elim), fun e he => ⟨(h.b e he).1, (h.b e he).2.chg hc id⟩, h.d⟩
theorem St.at (h : St S w0 w (pre ++ (q, T, cs) :: post)) : (w0.heap.size ≤ q ∨ S q) ∧ Blk w q T cs := h.b (q, T, cs) (by simp)
theorem St.put (h : St S w0 w (pre ++ (q, T, cs) :: post)) (hc : Chg (fun k => k = q) w w') {cs' : Array Value} (hb : Blk w' q T cs') : St S w0 w' (pre ++ (q, T, cs') :: post) := by
  have hd := List.pairwise_append.1 h.d
  refine ⟨h.x.trans hc (fun k hk e => ?_), fun e he => ?_, ?_⟩
  · subst e
    rcases h.at.1 with h1 | h1
    · omega
    · exact h1
  · rcases List.mem_append.1 he with h1 | h1
    · exact ⟨(h.b e (by simp [h1])).1, (h.b e (by simp [h1])).2.chg hc (hd.2.2 e h1 (q, T, cs) (by simp))⟩
    · rcases List.mem_cons.1 h1 with rfl | h1
      · exact ⟨h.at.1, hb⟩
      · exact ⟨(h.b e (by simp [h1])).1, (h.b e (by simp [h1])).2.chg hc (fun e2 => (List.pairwise_cons.1 hd.2.1).1 e h1 e2.symm)⟩
  · refine List.pairwise_append.2 ⟨hd.1, ?_, fun e he f hf => ?_⟩
    · exact List.pairwise_cons.2 ⟨fun f hf => (List.pairwise_cons.1 hd.2.1).1 f hf, (List.pairwise_cons.1 hd.2.1).2⟩
    · rcases List.mem_cons.1 hf with rfl | hf
      · exact hd.2.2 e he (q, T, cs) (by simp)
      · exact hd.2.2 e he f (by simp [hf])
theorem St.box (h : St S w0 w L) (T : TypeId) (cs : Array Value) : St S w0 (w.alloc (.cells cs T)) ((w.heap.size, T, cs) :: L) := by
  have hc := (Chg.refl (fun _ => False) w).alloc (.cells cs T)
  have h2 := h.k hc
  refine ⟨h2.x, fun e he => ?_, List.pairwise_cons.2 ⟨fun e he => ?_, h.d⟩⟩
  · rcases List.mem_cons.1 he with rfl | he
    · exact ⟨.inl h.x.size, blk_new rfl⟩
    · exact h2.b e he
  · have := (h.b e he).2.lt
    exact fun e2 => by have e2 : w.heap.size = e.1 := e2; omega
end
theorem run_stB {P : Program} {w : World} {q j : Nat} {T ty : TypeId} {cs : Array Value} {v : Value} (hb : Blk w q T cs) (hi : (P.info? ty).map (·.size) = some v.cells.size) (hj : j + v.cells.size ≤ cs.size) (h1 : v.cells.all (·.oneCell') = true) :
    (storeVar ty ⟨q, j, none⟩ v).run P w = .ok () (w.setCells q j v.cells.toList) := by
  have h2 := run_storeCells_cells (P := P) q j v.cells.toList 0 w (fun i hi => by
    rw [hb.cell]
    have h3 : j + 0 + i < cs.size := by simp at hi; omega
    rw [Array.getElem?_eq_getElem h3]; rfl) (fun i _ => hb.frozen _) (fun u hu => (Array.all_eq_true_iff_forall_mem.1 h1) u (by simpa using hu))
  cases hq : P.info? ty with
  | none => simp [hq] at hi
  | some i =>
    have hs : v.cells.size = i.size := by simp [hq] at hi; omega
    simp [storeVar, sizeOf, typeInfo, hq, hs, h2]
section
variable {P : Program} {ops : Array Oper} {rest : List Oper} {o : Oper} {a : Act} {Q : Exit → Act → World → Prop} {S : Nat → Prop} {w0 w : World} {L : List (Nat × TypeId × Array Value)} {q : Nat} {T : TypeId} {cs : Array Value}
theorem wl_id (h : wpList P ops Q (o :: rest) a w) : wpList P ops Q (o :: rest) a w := h
theorem wl_ld {d : Option Tmp} {ty : TypeId} {x : Operand} {k : TypeId} {ps : String} {af : Array Edge} {g : Option (Nat × Bool)} (h : wpList P ops Q (⟨d, .load ty x, k, ps, af, g⟩ :: rest) a w) : wpList P ops Q (⟨d, .load ty x, k, ps, af, g⟩ :: rest) a w := h
theorem wl_st {d : Option Tmp} {ty : TypeId} {x y : Operand} {k : TypeId} {ps : String} {af : Array Edge} {g : Option (Nat × Bool)} (h : wpList P ops Q (⟨d, .store ty x y, k, ps, af, g⟩ :: rest) a w) : wpList P ops Q (⟨d, .store ty x y, k, ps, af, g⟩ :: rest) a w := h
theorem wl_bx {d : Option Tmp} {ty : TypeId} {x : Operand} {k : TypeId} {ps : String} {af : Array Edge} {g : Option (Nat × Bool)} (h : wpList P ops Q (⟨d, .box ty x, k, ps, af, g⟩ :: rest) a w) : wpList P ops Q (⟨d, .box ty x, k, ps, af, g⟩ :: rest) a w := h
theorem wl_al {d : Option Tmp} {ty : TypeId} {k : TypeId} {ps : String} {af : Array Edge} {g : Option (Nat × Bool)} (h : wpList P ops Q (⟨d, .alloc ty, k, ps, af, g⟩ :: rest) a w) : wpList P ops Q (⟨d, .alloc ty, k, ps, af, g⟩ :: rest) a w := h
theorem cl_id {f : FuncId} {args : Array Value} {R : Ending → World → Prop} (h : Calls P f args w R) : Calls P f args w R := h
/-- A new box. -/
theorem st_bx {ty : TypeId} {x : Operand} (H : Hid (St S w0 w L)) (hgd : o.guard = none) (ho : o.op = .box ty x) {cells : Array Value} (hx : (a.eval x).cells = cells)
    (h : ∀ w' q, Hid (St S w0 w' ((q, ty, cells) :: L)) → wpList P ops Q rest (a.put o.dst (.pointer (some ⟨q, 0, none⟩))) w') : wpList P ops Q (o :: rest) a w := by
  subst hx
  refine wpList_plain hgd fun K hK => ?_
  unfold Oper.wp execOp
  simp only [ho, Sem.run_bind, Instr.box, newVar, newRow, run_newObj_alloc, Sem.run_pure, Result.andThen_ok]
  exact hK _ _ (h _ _ (Lib.hid (H.out.box _ _)))
theorem st_al {ty : TypeId} (H : Hid (St S w0 w L)) (hgd : o.guard = none) (ho : o.op = .alloc ty) {z : Value} (hz : (zeroValue ty).run P w = .ok z w) {cells : Array Value} (hx : z.cells = cells)
    (h : ∀ w' q, Hid (St S w0 w' ((q, ty, cells) :: L)) → wpList P ops Q rest (a.put o.dst (.pointer (some ⟨q, 0, none⟩))) w') : wpList P ops Q (o :: rest) a w := by
  subst hx
  refine wpList_plain hgd fun K hK => ?_
  unfold Oper.wp execOp
  simp only [ho, Sem.run_bind, Instr.alloc, hz, newVar, newRow, run_newObj_alloc, Sem.run_pure, Result.andThen_ok]
  exact hK _ _ (h _ _ (Lib.hid (H.out.box _ _)))
variable {pre post : List (Nat × TypeId × Array Value)}
/-- A cell of a box is stored. -/
theorem st_st {ty : TypeId} {x y : Operand} {j : Nat} {v : Value} (pre : List (Nat × TypeId × Array Value)) (H : Hid (St S w0 w (pre ++ (q, T, cs) :: post))) (hgd : o.guard = none) (ho : o.op = .store ty x y) (hx : a.eval x = .pointer (some ⟨q, j, none⟩)) (hy : a.eval y = v) (hv : v.cells = #[v]) (h1 : v.oneCell' = true) (hj : j < cs.size) (hi : (P.info? ty).map (·.size) = some 1)
    (h : ∀ w', Hid (St S w0 w' (pre ++ (q, T, cs.setIfInBounds j v) :: post)) → wpList P ops Q rest (a.put o.dst undef) w') : wpList P ops Q (o :: rest) a w := by
  refine wpList_plain hgd fun K hK => ?_
  have hr := run_stB (P := P) (ty := ty) (j := j) (v := v) H.out.at.2 (by rw [hv]; exact hi) (by rw [hv]; simp; omega) (by rw [hv]; simp [h1])
  rw [hv] at hr
  unfold Oper.wp execOp
  simp only [ho, hx, hy, Instr.storeAt, Instr.sureAddr, Sem.run_bind, Sem.run_pure, Result.andThen_ok, hr]
  exact hK _ _ (h _ (Lib.hid (H.out.put ((Chg.refl (fun k => k = q) w).put q j (fun _ => rfl) v) (H.out.at.2.set j v))))
/-- A struct in a box is read whole. -/
theorem st_ld {ty : TypeId} {x : Operand} {d : TypeDesc} (pre : List (Nat × TypeId × Array Value)) (H : Hid (St S w0 w (pre ++ (q, T, cs) :: post))) (hgd : o.guard = none) (ho : o.op = .load ty x) (hx : a.eval x = .pointer (some ⟨q, 0, none⟩)) (hu : P.underlying ty = some d) (hd : (match d with | .struct _ | .array _ _ => true | _ => false) = true) (hi : (P.info? ty).map (·.size) = some cs.size)
    (h : wpList P ops Q rest (a.put o.dst (.agg cs)) w) : wpList P ops Q (o :: rest) a w :=
  wpList_load_row hgd _ x ho _ hx _ cs (0, 0) _ H.out.at.2 hu hd hi h
/-- A cell of a box is read. -/
theorem st_lc {ty : TypeId} {x : Operand} {j : Nat} {v : Value} (pre : List (Nat × TypeId × Array Value)) (H : Hid (St S w0 w (pre ++ (q, T, cs) :: post))) (hgd : o.guard = none) (ho : o.op = .load ty x) (hx : a.eval x = .pointer (some ⟨q, j, none⟩)) (hv : cs[j]? = some v) (ht : ∀ w, (isAgg ty).run P w = .ok false w)
    (h : wpList P ops Q rest (a.put o.dst v) w) : wpList P ops Q (o :: rest) a w := by
  refine wpList_plain hgd fun K hK => ?_
  have hc := (H.out.at.2.cell j).trans hv
  unfold Oper.wp execOp
  simp only [ho, hx, Instr.loadAt, Instr.sureAddr, Sem.run_bind, Sem.run_pure, Result.andThen_ok, loadVar, ht]
  simp [hc]
  exact hK _ _ h
/-- The same, of an operation that is guarded, where it is carried out. -/
theorem st_lcg {ty : TypeId} {x : Operand} {j : Nat} {v : Value} (pre : List (Nat × TypeId × Array Value)) (H : Hid (St S w0 w (pre ++ (q, T, cs) :: post))) (hw : Region.wanted o (yielded ops a.tmps) = true) (ho : o.op = .load ty x) (hx : a.eval x = .pointer (some ⟨q, j, none⟩)) (hv : cs[j]? = some v) (ht : ∀ w, (isAgg ty).run P w = .ok false w)
    (h : wpList P ops Q rest (a.put o.dst v) w) : wpList P ops Q (o :: rest) a w := by
  refine wpList_step fun K hK => ?_
  rw [if_pos hw]
  have hc := (H.out.at.2.cell j).trans hv
  unfold Oper.wp execOp
  simp only [ho, hx, Instr.loadAt, Instr.sureAddr, Sem.run_bind, Sem.run_pure, Result.andThen_ok, loadVar, ht]
  simp [hc]
  exact hK _ _ h
/-- A struct is stored whole. -/
theorem st_sr {ty : TypeId} {x y : Operand} {vs : Array Value} (pre : List (Nat × TypeId × Array Value)) (H : Hid (St S w0 w (pre ++ (q, T, cs) :: post))) (hgd : o.guard = none) (ho : o.op = .store ty x y) (hx : a.eval x = .pointer (some ⟨q, 0, none⟩)) (hy : a.eval y = .agg vs) (hn : cs.size = vs.size) (h1 : vs.all (·.oneCell') = true) (hi : (P.info? ty).map (·.size) = some vs.size)
    (h : ∀ w', Hid (St S w0 w' (pre ++ (q, T, vs) :: post)) → wpList P ops Q rest (a.put o.dst undef) w') : wpList P ops Q (o :: rest) a w := by
  refine wpList_store_row hgd _ x y ho _ vs hx hy _ cs H.out.at.2 hi hn h1 (h _ (Lib.hid (H.out.put (q := q) ?_ ?_)))
  · exact ⟨rfl, rfl, rfl, by simp [World.setRow], fun k hk hn => by simp [World.setRow, Array.getElem?_modify, Ne.symm hn]⟩
  · have := H.out.at.2
    unfold Blk at this ⊢
    simp [World.setRow, Array.getElem?_modify, this]
/-- The end: a struct, and a value, are handed back. -/
theorem st_rt {fn : Func} {i j : Tmp} {ty : TypeId} {d : TypeDesc} {e : Value} {R : Ending → World → Prop} (pre : List (Nat × TypeId × Array Value)) (H : Hid (St S w0 w (pre ++ (q, T, cs) :: post))) (h : fn.results = #[.cell i ty, .tmp j]) (hp : a.tmps.getD i undef = .pointer (some ⟨q, 0, none⟩)) (he : a.tmps.getD j undef = e) (hd : a.defers = []) (hu : P.underlying ty = some d) (hm : (match d with | .struct _ | .array _ _ => true | _ => false) = true) (hi : (P.info? ty).map (·.size) = some cs.size) (hR : R (.returned (.tuple #[.agg cs, e])) w) : bodyPost P fn R .ret a w := by
  have hr : (results fn a.tmps).run P w = .ok (.tuple #[.agg cs, e]) w := by
    have hp' : a.tmps[i]?.getD undef = .pointer (some ⟨q, 0, none⟩) := by simpa using hp
    have he' : a.tmps[j]?.getD undef = e := by simpa using he
    have hl := run_loadVar_row (P := P) w q T ty cs (0, 0) _ H.out.at.2 hu hm hi
    simp [results, h, hp', he', asAddr, hl]
  exact bodyPost_ret hr hd hR
end

end Go.Proofs.Ytmfgbonlhoffaaa
