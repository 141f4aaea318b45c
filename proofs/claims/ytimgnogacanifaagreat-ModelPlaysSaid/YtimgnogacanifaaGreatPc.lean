/-
  The code's store in memory. Walks: store.New, Has, Row, each on nil too. Conditions: the store lies in memory.
-/
import Derived.Test.YtimgnogacanifaaGreatPb
import Derived.Deep.LoopGhost
namespace Go.Proofs.YtimgnogacanifaaGreat
open Go.RowKit
set_option linter.unusedVariables false
set_option linter.unusedSimpArgs false

def fC (C : Int → Bool) : Int → Option Value := fun z => if C z = true then some (.bool true) else none
def fR (R : Int → Option RV) : Int → Option Value := fun z => (R z).map fun x => Value.agg x.cs
/-- The store behind pointer p: its maps are blocks bc, br; all of them lie from block B on. -/
structure CS (B : Nat) (w : World) (p bc br : Nat) (C : Int → Bool) (R : Int → Option RV) : Prop where
  bp : B ≤ p
  bbc : B ≤ bc
  bbr : B ≤ br
  ne : bc ≠ br
  blk : Blk w p 87 #[.map (some bc), .map (some br)]
  ch : IM w bc (fC C)
  ro : IM w br (fR R)
section
variable {B : Nat} {w w' : World} {p bc br : Nat} {C : Int → Bool} {R : Int → Option RV}
theorem CS.chg {S : Nat → Prop} (h : CS B w p bc br C R) (hc : Chg S w w') (h1 : ¬ S p) (h2 : ¬ S bc) (h3 : ¬ S br) : CS B w' p bc br C R :=
  ⟨h.bp, h.bbc, h.bbr, h.ne, h.blk.chg hc h1, h.ch.chg hc h2, h.ro.chg hc h3⟩
theorem CS.keep (h : CS B w p bc br C R) (hc : Chg (fun _ => False) w w') : CS B w' p bc br C R := h.chg hc id id id
theorem CS.drew (h : CS B w p bc br C R) : CS B w.drew p bc br C R := ⟨h.bp, h.bbc, h.bbr, h.ne, h.blk.drew, h.ch.drew, h.ro.drew⟩
theorem CS.cells (h : CS B w p bc br C R) : w.cell? ⟨p, 0, none⟩ = some (.map (some bc)) ∧ w.cell? ⟨p, 1, none⟩ = some (.map (some br)) := by
  have x0 := h.blk.cell 0
  have x1 := h.blk.cell 1
  simp only [List.getElem?_toArray, List.getElem?_cons_zero, List.getElem?_cons_succ] at x0 x1
  exact ⟨x0, x1⟩
/-- A block of another type is none of the store's. -/
theorem CS.apart (h : CS B w p bc br C R) {q : Nat} {T : TypeId} {cs : Array Value} (hq : Blk w q T cs) (hT : T ≠ 87) : q ≠ p ∧ q ≠ bc ∧ q ≠ br := by
  refine ⟨?_, h.ch.ne hq, h.ro.ne hq⟩
  rintro rfl
  have hb := h.blk
  unfold Blk at hb hq
  rw [hb] at hq
  injection hq with hq
  injection hq with _ hq
  exact hT hq.symm
theorem CS.lookC (h : CS B w p bc br C R) (z : Int) : (Instr.lookup 84 (.map (some bc)) (.int .i64 z) false).run Tryz.prog w = .ok (.bool (C z)) w := by
  rw [h.ch.look0 Tryz.underlying84 Tryz.underlying3 (zv := .bool false) (by kernel_rfl) z]
  unfold fC
  cases C z <;> rfl
theorem CS.lookR (h : CS B w p bc br C R) (z : Int) : (Instr.lookup 85 (.map (some br)) (.int .i64 z) true).run Tryz.prog w = .ok (.tuple #[.agg ((R z).getD z9).cs, .bool (R z).isSome]) w := by
  rw [h.ro.look1 Tryz.underlying85 Tryz.underlying3 (zv := .agg z9.cs) (by kernel_rfl) z]
  unfold fR
  cases R z <;> rfl
end
theorem rv_letters (x : RV) : ∃ po ma ow ta ol ge ph ve si : Int, x = ⟨po, ma, ow, ta, ol, ge, ph, ve, si⟩ := by
  obtain ⟨po, ma, ow, ta, ol, ge, ph, ve, si⟩ := x
  exact ⟨_, _, _, _, _, _, _, _, _, rfl⟩

set_option maxRecDepth 100000 in
set_option maxHeartbeats 400000 in
theorem shas_any {B : Nat} {w : World} {p bc br : Nat} {C : Int → Bool} {R : Int → Option RV} (h : CS B w p bc br C R) (z : Int) :
    Calls Tryz.prog 76 #[.pointer (some ⟨p, 0, none⟩), .int .i64 z] w fun e w' => e = .returned (.bool (C z)) ∧ w = w' := by
  have hl := h.lookC z
  obtain ⟨c0, c1⟩ := h.cells
  clear h
  generalize C z = b at *
  go_enter Tryz.func76, Tryz.ntmps76
  go_wp2_with fail
  go_ret
  exact ⟨rfl, rfl⟩
set_option maxRecDepth 100000 in
set_option maxHeartbeats 400000 in
theorem shas_nil (z : Int) (w : World) :
    Calls Tryz.prog 76 #[.pointer none, .int .i64 z] w fun e w' => e = .returned (.bool false) ∧ w = w' := by
  go_enter Tryz.func76, Tryz.ntmps76
  go_wp2_with fail
  go_ret
  exact ⟨rfl, rfl⟩

set_option maxRecDepth 100000 in
set_option maxHeartbeats 800000 in
theorem snew_any (w : World) : Calls Tryz.prog 19 #[] w fun e w' => e = .returned (.pointer (some ⟨w.heap.size + 1 + 1, 0, none⟩)) ∧ CS w.heap.size w' (w.heap.size + 1 + 1) w.heap.size (w.heap.size + 1) (fun _ => false) (fun _ => none) ∧ Chg (fun _ => False) w w' := by
  have hmm := @run_makeMap Tryz.prog
  have HX := Lib.hid ((((Chg.refl (fun _ => False) w).alloc (.map #[] 0)).alloc (.map #[] 0)).alloc (.cells #[.map (some w.heap.size), .map (some (w.heap.size + 1))] 87))
  have H0 := Lib.hid (((IM.new w).alloc (.map #[] 0)).alloc (.cells #[.map (some w.heap.size), .map (some (w.heap.size + 1))] 87))
  have h1 : IM ((w.alloc (.map #[] 0)).alloc (.map #[] 0)) (w.heap.size + 1) (fun _ => none) := by simpa using IM.new (w.alloc (.map #[] 0))
  have H1 := Lib.hid (h1.alloc (.cells #[.map (some w.heap.size), .map (some (w.heap.size + 1))] 87))
  have hb : Blk (((w.alloc (.map #[] 0)).alloc (.map #[] 0)).alloc (.cells #[.map (some w.heap.size), .map (some (w.heap.size + 1))] 87)) (w.heap.size + 1 + 1) 87 #[.map (some w.heap.size), .map (some (w.heap.size + 1))] := by simpa using Blk.new ((w.alloc (.map #[] 0)).alloc (.map #[] 0)) 87 #[.map (some w.heap.size), .map (some (w.heap.size + 1))]
  have HB := Lib.hid hb
  clear h1 hb
  go_enter Tryz.func19, Tryz.ntmps19
  go_wp2_with fail
  go_ret
  refine ⟨by simp, ⟨by omega, by omega, by omega, by omega, ?_, ?_, ?_⟩, HX.out⟩
  · exact HB.out
  · exact H0.out
  · exact H1.out

/-- What Row and Find hand back. -/
def rowB10 (o : Option RV) : RV × Bool := (o.getD z9, o.isSome)
theorem wpList_own_appendN {P : Program} (w : World) {ops : Array Oper} {rest : List Oper} {o : Oper} {a : Act} {Q : Exit → Act → World → Prop} (hgd : o.guard = none) (s x : Operand) (t : TypeId)
    (ho : o.op = .call { callee := .builtin .append, args := #[s, x], argTypes := #[t, t] })
    (base : Nat) (e : TypeId) (i : TypeInfo) (z : Value) (size bytes : Nat) (ht : P.underlying t = some (.slice e)) (hi : P.info? e = some i) (hz : i.zero = some z)
    (hsize : i.size = size) (hby : i.bytes = bytes) (hzs : z.cells.size = size) (hpos : 0 < size)
    (v : Value) (n : Nat) (xs : List Value) (hs : a.eval s = v) (hown : w.ownsRow base e size v n xs)
    (ad : Addr) (m c : Nat) (news : List Value) (hx : a.eval x = .slice (some ad) m c) (hl : news.length = m * size) (hnews : ∀ j u, news[j]? = some u → w.cell? (ad.add j) = some u) (h1 : ∀ u ∈ news, u.oneCell' = true)
    (h63 : n + m ≤ maxLen) (hbytes : (n + m) * bytes ≤ 140737488355328) (hbase : base ≤ w.heap.size)
    (h : ∀ v' w', w'.ownsRow base e size v' (n + m) (xs ++ news) → w.grownBy w' v.ownBlock → (v'.ownBlock = v.ownBlock ∨ v'.ownBlock = some w.heap.size) → wpList P ops Q rest (a.put o.dst v') w') : wpList P ops Q (o :: rest) a w := by
  refine wpList_plain hgd fun K hK => ?_
  obtain ⟨v', w', hrun, h2, h3, _, h4⟩ := run_append_own_at (P := P) w base t o.type e i z size bytes ht hi hz hsize hby hzs hpos v n xs hown ad m c news hl hnews h1 h63 hbytes hbase
  unfold Oper.wp execOp
  simp only [ho, resolve, invoke, builtin, Sem.run_bind, Sem.run_pure, Result.andThen_ok, List.map_toArray, List.map_cons, List.map_nil, hs, hx, hrun]
  exact hK _ _ (h v' w' h2 h3 h4)
theorem step_own_appendN {P : Program} (w : World) {ops : Array Oper} {o : Oper} {a : Act} {K : Act → World → Prop} {Q : Exit → Act → World → Prop} {E : Prop} (hgd : o.guard = none) (s x : Operand) (t : TypeId)
    (ho : o.op = .call { callee := .builtin .append, args := #[s, x], argTypes := #[t, t] })
    (base : Nat) (e : TypeId) (i : TypeInfo) (z : Value) (size bytes : Nat) (ht : P.underlying t = some (.slice e)) (hi : P.info? e = some i) (hz : i.zero = some z)
    (hsize : i.size = size) (hby : i.bytes = bytes) (hzs : z.cells.size = size) (hpos : 0 < size)
    (v : Value) (n : Nat) (xs : List Value) (hs : a.eval s = v) (hown : w.ownsRow base e size v n xs)
    (ad : Addr) (m c : Nat) (news : List Value) (hx : a.eval x = .slice (some ad) m c) (hl : news.length = m * size) (hnews : ∀ j u, news[j]? = some u → w.cell? (ad.add j) = some u) (h1 : ∀ u ∈ news, u.oneCell' = true)
    (h63 : n + m ≤ maxLen) (hbytes : (n + m) * bytes ≤ 140737488355328) (hbase : base ≤ w.heap.size)
    (h : ∀ v' w', w'.ownsRow base e size v' (n + m) (xs ++ news) → w.grownBy w' v.ownBlock → (v'.ownBlock = v.ownBlock ∨ v'.ownBlock = some w.heap.size) → K (a.put o.dst v') w') :
    if Region.wanted o (yielded ops a.tmps) = true then Oper.wp P o a w K Q else E := by
  rw [if_pos (by simp [Region.wanted, hgd])]
  obtain ⟨v', w', hrun, h2, h3, _, h4⟩ := run_append_own_at (P := P) w base t o.type e i z size bytes ht hi hz hsize hby hzs hpos v n xs hown ad m c news hl hnews h1 h63 hbytes hbase
  unfold Oper.wp execOp
  simp only [ho, resolve, invoke, builtin, Sem.run_bind, Sem.run_pure, Result.andThen_ok, List.map_toArray, List.map_cons, List.map_nil, hs, hx, hrun]
  exact h v' w' h2 h3 h4
theorem new_cells {w W : World} {t : TypeId} {cs : Array Value} (hW : W = w.alloc (.cells cs t)) : ∀ (j : Nat) (u : Value), cs.toList[j]? = some u → W.cell? ((⟨w.heap.size, 0, none⟩ : Addr).add j) = some u := by
  subst hW
  intro j u hu
  have e : (⟨w.heap.size, 0, none⟩ : Addr).add j = ⟨w.heap.size, j, none⟩ := by unfold Addr.add; split <;> simp_all
  rw [e, (Blk.new w t cs).cell]
  simpa using hu
theorem infoRow10 : (Tryz.prog.info? 40).map (fun i => (i.zero, i.size, i.bytes)) = some (some (.agg #[.int .i64 0, .int .u64 0, .int .i64 0, .int .i64 0, .int .i64 0, .int .i64 0, .int .i64 0, .int .i64 0, .int .i64 0]), 9, 72) := by kernel_rfl
/-- What hands back structs in new memory. -/
def NewS {α : Type} (T : TypeId) (k : Nat) (cs : α → Array Value) (l : List α) (w : World) (e : Ending) (w' : World) : Prop :=
  ∃ A n c, e = .returned (.slice A n c) ∧ n = l.length ∧ w'.ownsRow w.heap.size T k (.slice A n c) n (l.flatMap fun x => (cs x).toList) ∧ Chg (fun _ => False) w w'
theorem grown_keep {S : Nat → Prop} {a w w' : World} {base : Nat} {e : TypeId} {size n : Nat} {v : Value} {xs : List Value} (h : Chg (fun _ => False) a w) (hg : w.grownBy w' v.ownBlock) (hown : w.ownsRow base e size v n xs) (hb : a.heap.size ≤ base) : Chg (fun _ => False) a w' :=
  h.grown hg (fun k hk hlt => by have := hown.lt k hk; omega)

end Go.Proofs.YtimgnogacanifaaGreat
