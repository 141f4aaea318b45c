/-
  Tables of flows in memory: a row of records that is owned, written in its place; a table is a block of a life and a slice. No condition.
-/
import Derived.Test.YtacbgelbffmngaaTa
import Derived.Test.YtacbgelbffmngaaM1
import Derived.Lib.SliceRun
namespace Go.Proofs.Ytacbgelbffmngaa
open Go.RowKit
set_option linter.unusedVariables false

/-- Records as cells. -/
def rcF (l : List Rc) : List Value := l.flatMap fun x => x.cs.toList
theorem rcF_len : ∀ l : List Rc, (rcF l).length = l.length * 6
  | [] => rfl
  | x :: l => by
    have := rcF_len l
    unfold rcF at *
    simp only [List.flatMap_cons, List.length_append, this, List.length_cons]
    simp [Rc.cs, rcC]
    omega
theorem rcF_app (l r : List Rc) : rcF (l ++ r) = rcF l ++ rcF r := by simp [rcF]
theorem rcF_one (l : List Rc) : ∀ u ∈ rcF l, u.oneCell' = true := by
  intro u hu
  simp only [rcF, List.mem_flatMap] at hu
  obtain ⟨x, _, hx⟩ := hu
  simp only [Rc.cs, rcC, List.mem_cons, List.not_mem_nil, or_false] at hx
  rcases hx with rfl | rfl | rfl | rfl | rfl | rfl <;> rfl
theorem rcF_at : ∀ (l : List Rc) (i : Nat) (x : Rc), l[i]? = some x → ∀ j, j < 6 → (rcF l)[i * 6 + j]? = x.cs[j]?
  | [], i, x, h, _, _ => by simp at h
  | y :: l, 0, x, h, j, hj => by
    simp only [List.getElem?_cons_zero, Option.some.injEq] at h
    subst h
    simp only [rcF, List.flatMap_cons]
    rw [List.getElem?_append_left (by simp [Rc.cs, rcC]; omega)]
    simp
  | y :: l, i + 1, x, h, j, hj => by
    simp only [List.getElem?_cons_succ] at h
    have ih := rcF_at l i x h j hj
    simp only [rcF, List.flatMap_cons] at *
    rw [List.getElem?_append_right (by simp [Rc.cs, rcC]; omega)]
    have e : (i + 1) * 6 + j - y.cs.toList.length = i * 6 + j := by simp [Rc.cs, rcC]; omega
    rw [e]
    exact ih
theorem rcF_set : ∀ (l : List Rc) (i : Nat) (x : Rc), i < l.length → rcF (l.set i x) = (((((((rcF l).set (i * 6) (.int .i64 x.pr)).set (i * 6 + 1) (.int .u32 x.sr)).set (i * 6 + 2) (.int .u32 x.ds)).set (i * 6 + 3) (.int .i64 x.sp)).set (i * 6 + 4) (.int .i64 x.dp)).set (i * 6 + 5) (.int .i64 x.un))
  | [], i, x, h => by simp at h
  | y :: l, 0, x, h => by simp [rcF, Rc.cs, rcC]
  | y :: l, i + 1, x, h => by
    have ih := rcF_set l i x (by simpa using h)
    simp only [rcF, List.set_cons_succ, List.flatMap_cons] at *
    rw [ih]
    have e0 : (i + 1) * 6 = i * 6 + 6 := by omega
    simp only [e0, Rc.cs, rcC, List.cons_append, List.nil_append, List.set_cons_succ]
theorem own_low {w : World} {base : Nat} {e : TypeId} {size n c : Nat} {A : Option Addr} {xs : List Value} (h : w.ownsRow base e size (.slice A n c) n xs) {k : Nat} (hk : A.map (·.block) = some k) : base ≤ k ∧ k < w.heap.size :=
  h.lt k (by rw [own_block]; exact hk)
/-- The first k of what is owned. -/
theorem own_cut12 {w : World} {base : Nat} {e : TypeId} {n c k : Nat} {A : Option Addr} {l : List Rc} (h : w.ownsRow base e 6 (.slice A n c) n (rcF l)) (hn : n = l.length) (hk : k ≤ n) : w.ownsRow base e 6 (.slice A k c) k (rcF (l.take k)) := by
  subst hn
  have hl : (l.take k).length = k := by simp; omega
  refine ⟨by rw [rcF_len, hl], ?_⟩
  rcases h.2 with ⟨hv, hm⟩ | ⟨g, cap, cur, hv, h1, hh, h2, h3, h4, h5⟩
  · injection hv with hA hn hc
    subst hA hc
    have hk0 : k = 0 := by omega
    subst hk0
    exact .inl ⟨rfl, rfl⟩
  · injection hv with hA hn hc
    subst hA hc
    refine .inr ⟨g, c, cur, rfl, h1, hh, by omega, h3, h4, ?_⟩
    have e : cur.toList.take (k * 6) = (cur.toList.take (l.length * 6)).take (k * 6) := by rw [List.take_take, Nat.min_eq_left (by omega)]
    rw [e, h5]
    conv => lhs; rw [← List.take_append_drop k l, rcF_app]
    rw [List.take_left' (by rw [rcF_len, hl])]
/-- A cell of what is owned is written. -/
theorem own_cell12 {w : World} {base : Nat} {e : TypeId} {size n c g : Nat} {xs : List Value} (h : w.ownsRow base e size (.slice (some ⟨g, 0, none⟩) n c) n xs) (j : Nat) (u : Value) :
    (w.setCell ⟨g, j, none⟩ u).ownsRow base e size (.slice (some ⟨g, 0, none⟩) n c) n (xs.set j u) := by
  refine ⟨by rw [List.length_set]; exact h.1, ?_⟩
  rcases h.2 with ⟨hv, hm⟩ | ⟨g', cap, cur, hv, h1, hh, h2, h3, h4, h5⟩
  · injection hv with hA
    cases hA
  · injection hv with hA hn hc
    injection hA with hA
    injection hA with hA
    subst hA hc
    have hb : Blk w g e cur := hh
    refine .inr ⟨g, c, cur.setIfInBounds j u, rfl, h1, hb.set j u, h2, h3, by simpa using h4, ?_⟩
    rw [Array.toList_setIfInBounds, List.take_set, h5]
/-- A record of what is owned is written. -/
theorem own_put12 {w : World} {base : Nat} {e : TypeId} {n c g : Nat} {l : List Rc} (h : w.ownsRow base e 6 (.slice (some ⟨g, 0, none⟩) n c) n (rcF l)) (i : Nat) (hi : i < l.length) (x : Rc) :
    ((((((w.setCell ⟨g, i * 6, none⟩ (.int .i64 x.pr)).setCell ⟨g, i * 6 + 1, none⟩ (.int .u32 x.sr)).setCell ⟨g, i * 6 + 2, none⟩ (.int .u32 x.ds)).setCell ⟨g, i * 6 + 3, none⟩ (.int .i64 x.sp)).setCell ⟨g, i * 6 + 4, none⟩ (.int .i64 x.dp)).setCell ⟨g, i * 6 + 5, none⟩ (.int .i64 x.un)).ownsRow base e 6 (.slice (some ⟨g, 0, none⟩) n c) n (rcF (l.set i x)) := by
  rw [rcF_set l i x hi]
  exact own_cell12 (own_cell12 (own_cell12 (own_cell12 (own_cell12 (own_cell12 h _ _) _ _) _ _) _ _) _ _) _ _
theorem mx12_set {l : List Rc} {i : Nat} {x : Rc} (r : Rc) (h : l[i]? = some x) : rcF (l.set i (mx12 x r)) = (rcF l).set (i * 6 + 5) (.int .i64 (max x.un r.un)) := by
  have hi : i < l.length := (List.getElem?_eq_some_iff.1 h).1
  rw [rcF_set l i _ hi]
  have k : ∀ j u, j < 6 → x.cs[j]? = some u → (rcF l).set (i * 6 + j) u = rcF l := by
    intro j u hj hu
    have e := rcF_at l i x h j hj
    rw [hu] at e
    obtain ⟨hb, he⟩ := List.getElem?_eq_some_iff.1 e
    rw [← he, List.set_getElem_self]
  have k0 := k 0 (.int .i64 x.pr) (by omega) rfl
  rw [Nat.add_zero] at k0
  simp only [mx12]
  rw [k0, k 1 (.int .u32 x.sr) (by omega) rfl, k 2 (.int .u32 x.ds) (by omega) rfl, k 3 (.int .i64 x.sp) (by omega) rfl, k 4 (.int .i64 x.dp) (by omega) rfl]

/-- A table's cells. -/
def tbC (life : Int) (A : Option Addr) (n c : Nat) : Array Value := #[.int .i64 life, .slice A n c]
theorem tb_cells {w : World} {p : Nat} {life : Int} {A : Option Addr} {n c : Nat} {T : TypeId} (h : Blk w p T (tbC life A n c)) :
    w.cell? ⟨p, 0, none⟩ = some (.int .i64 life) ∧ w.cell? ⟨p, 1, none⟩ = some (.slice A n c) ∧ w.frozen? ⟨p, 1, none⟩ = false := by
  have h0 := h.cell 0
  have h1 := h.cell 1
  simp only [tbC, List.getElem?_toArray, List.getElem?_cons_zero, List.getElem?_cons_succ] at h0 h1
  exact ⟨h0, h1, h.frozen 1⟩
section
variable {T : TypeId} {w w' : World} {p : Nat} {o : Option Nat} {life : Int} {l : List Rc}
end
/-- A stretch of a block is written: it stays a block of as many cells; what a row has of it ahead stays. -/
theorem own_tail12 {w : World} {base : Nat} {e : TypeId} {n c g k : Nat} {l : List Rc} (h : w.ownsRow base e 6 (.slice (some ⟨g, 0, none⟩) n c) n (rcF l)) (hn : n = l.length) (hk : k ≤ n) : ∀ (vs : List Value) (o : Nat), k * 6 ≤ o →
    (w.setCells g o vs).ownsRow base e 6 (.slice (some ⟨g, 0, none⟩) k c) k (rcF (l.take k))
  | vs, o, ho => by
    have h0 := own_cut12 h hn hk
    have hs : ∀ (vs : List Value) (o : Nat) (w : World), k * 6 ≤ o → w.ownsRow base e 6 (.slice (some ⟨g, 0, none⟩) k c) k (rcF (l.take k)) → (w.setCells g o vs).ownsRow base e 6 (.slice (some ⟨g, 0, none⟩) k c) k (rcF (l.take k)) := by
      intro vs
      induction vs with
      | nil => exact fun _ _ _ h => h
      | cons v vs ih =>
        intro o w ho h
        refine ih (o + 1) _ (by omega) ?_
        have h2 := own_cell12 h o v
        rwa [List.set_eq_of_length_le (by rw [rcF_len]; simp; omega)] at h2
    exact hs vs o w ho h0
theorem chg_cells12 {g : Nat} {a : World} {S : Nat → Prop} (hg : S g) : ∀ (vs : List Value) (o : Nat) (w : World), Chg S a w → Chg S a (w.setCells g o vs)
  | [], _, _, h => h
  | v :: r, o, w, h => chg_cells12 hg r (o + 1) _ (h.put g o (fun _ => hg) v)

/-- append of structs, as a step of a region that draws its order. -/
theorem step_app12 {P : Program} (w : World) {ops : Array Oper} {o : Oper} {a : Act} {K : Act → World → Prop} {Q : Exit → Act → World → Prop} {E : Prop} (hgd : o.guard = none) (s x : Operand) (t : TypeId)
    (ho : o.op = .call { callee := .builtin .append, args := #[s, x], argTypes := #[t, t] })
    (base : Nat) (e : TypeId) (i : TypeInfo) (z : Value) (size bytes : Nat) (ht : P.underlying t = some (.slice e)) (hi : P.info? e = some i) (hz : i.zero = some z)
    (hsize : i.size = size) (hby : i.bytes = bytes) (hzs : z.cells.size = size) (hpos : 0 < size)
    (v : Value) (n : Nat) (xs : List Value) (hs : a.eval s = v) (hown : w.ownsRow base e size v n xs)
    (ad : Addr) (m c : Nat) (news : List Value) (hx : a.eval x = .slice (some ad) m c) (hl : news.length = m * size) (hnews : ∀ j u, news[j]? = some u → w.cell? (ad.add j) = some u) (h1 : ∀ u ∈ news, u.oneCell' = true)
    (h63 : n + m ≤ maxLen) (hbytes : (n + m) * bytes ≤ 140737488355328) (hbase : base ≤ w.heap.size)
    (h : ∀ v' w', w'.ownsRow base e size v' (n + m) (xs ++ news) → w.grownBy w' v.ownBlock → (v'.ownBlock = v.ownBlock ∨ v'.ownBlock = some w.heap.size) → K (a.put o.dst v') w') :
    if Region.wanted o (yielded ops a.tmps) = true then Oper.wp P o a w K Q else E := by
  rw [if_pos (by simp [Region.wanted, hgd])]
  obtain ⟨v', w', hrun, h2, h3, _, h4⟩ := run_append_own_at (P := P) w base t o.type e i z size bytes ht hi hz hsize hby hzs hpos v n xs hown ad m c news hl hnews h1 h63 hbytes hbase
  unfold Oper.wp execOp
  simp only [ho, resolve, invoke, builtin, Sem.run_bind, Sem.run_pure, Result.andThen_ok, List.map_toArray, List.map_cons, List.map_nil, hs, hx, hrun]
  exact h v' w' h2 h3 h4

end Go.Proofs.Ytacbgelbffmngaa
