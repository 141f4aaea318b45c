/-
  Walks: rutterlaw18.Of; the document's Right, Put, At, Find. Conditions: the document's net lies in memory, its room is at most 4096.
-/
import Derived.Test.YthajmplheecepaaSh
import Derived.BigQuiet
namespace Go.Proofs.Ythajmplheecepaa
open Go.RowKit
set_option linter.unusedVariables false
set_option linter.unusedSimpArgs false
attribute [local go_sem] Oper.semAt_some

def IT18.cs (t : IT18) : List Value := [.int .i64 t.ki, .int .i64 t.ch, .string ⟨t.bs.toArray⟩]
def itF (l : List IT18) : List Value := l.flatMap IT18.cs
theorem itF_len : ∀ l : List IT18, (itF l).length = l.length * 3
  | [] => rfl
  | x :: l => by
    have := itF_len l
    unfold itF at *
    rw [List.flatMap_cons, List.length_append, this, List.length_cons]
    simp [IT18.cs]
    omega
theorem itF_app (l r : List IT18) : itF (l ++ r) = itF l ++ itF r := by simp [itF]
theorem itF_one (l : List IT18) : ∀ u ∈ itF l, u.oneCell' = true := by
  intro u hu
  simp only [itF, List.mem_flatMap] at hu
  obtain ⟨x, _, hx⟩ := hu
  simp only [IT18.cs, List.mem_cons, List.not_mem_nil, or_false] at hx
  rcases hx with rfl | rfl | rfl <;> rfl
theorem itF_at : ∀ (l : List IT18) (i : Nat) (x : IT18), l[i]? = some x → ∀ j, j < 3 → (itF l)[i * 3 + j]? = x.cs[j]?
  | [], i, x, h, _, _ => by simp at h
  | y :: l, 0, x, h, j, hj => by
    simp only [List.getElem?_cons_zero, Option.some.injEq] at h
    subst h
    simp only [itF, List.flatMap_cons]
    rw [List.getElem?_append_left (by simp [IT18.cs]; omega)]
    simp
  | y :: l, i + 1, x, h, j, hj => by
    simp only [List.getElem?_cons_succ] at h
    have ih := itF_at l i x h j hj
    simp only [itF, List.flatMap_cons] at *
    rw [List.getElem?_append_right (by simp [IT18.cs]; omega)]
    have e : (i + 1) * 3 + j - y.cs.length = i * 3 + j := by simp [IT18.cs]; omega
    rw [e]
    exact ih
theorem infoRi18 : (Try.prog.info? 49).map (fun i => (i.zero, i.size, i.bytes)) = some (some (.agg #[.int .i64 0, .int .i64 0, .string ⟨#[]⟩]), 3, 32) := by kernel_rfl
/-- Block q is the document's net; its items' row lies at o, all of it in blocks from b on. -/
def DN (w : World) (b q : Nat) (o : Option Nat) (x : NV18) : Prop :=
  ∃ A n c, Blk w q 32 #[.slice A n c, .int .i64 x.room, .int .i64 x.lost] ∧ w.ownsRow b 49 3 (.slice A n c) n (itF x.l) ∧ n = x.l.length ∧ A.map (·.block) = o ∧ b ≤ q
theorem rn_cells {w : World} {p : Nat} {r s : Int} {v : Value} {T : TypeId} (h : Blk w p T #[v, .int .i64 r, .int .i64 s]) :
    w.cell? ⟨p, 0, none⟩ = some v ∧ w.cell? ⟨p, 1, none⟩ = some (.int .i64 r) ∧ w.cell? ⟨p, 2, none⟩ = some (.int .i64 s) ∧ w.frozen? ⟨p, 0, none⟩ = false ∧ w.frozen? ⟨p, 2, none⟩ = false := by
  have h0 := h.cell 0
  have h1 := h.cell 1
  have h2 := h.cell 2
  simp only [List.getElem?_toArray, List.getElem?_cons_zero, List.getElem?_cons_succ] at h0 h1 h2
  exact ⟨h0, h1, h2, h.frozen 0, h.frozen 2⟩
theorem DN.ne {w : World} {b p : Nat} {o : Option Nat} {x : NV18} (h : DN w b p o x) {k : Nat} {cs : Array Value} {T : TypeId} {fr : Nat × Nat} (hk : w.heap[k]? = some (.cells cs T fr)) (h1 : T ≠ 32) (h2 : T ≠ 49) : ¬ (k = p ∨ o = some k) := by
  obtain ⟨A, n, c, hb, ho, _, hA, _⟩ := h
  rintro (rfl | e)
  · unfold Blk at hb
    rw [hk] at hb
    injection hb with hb
    injection hb with _ hb
    exact h1 hb
  · rw [e] at hA
    obtain ⟨cs', hh⟩ := own_ty18 ho hA
    rw [hk] at hh
    injection hh with hh
    injection hh with _ hh
    exact h2 hh
theorem DN.op {w : World} {b p : Nat} {o : Option Nat} {x : NV18} (h : DN w b p o x) : o ≠ some p := by
  obtain ⟨A, n, c, hb, ho, _, hA, _⟩ := h
  intro e
  rw [e] at hA
  obtain ⟨cs', hh⟩ := own_ty18 ho hA
  unfold Blk at hb
  rw [hh] at hb
  injection hb with hb
  injection hb with _ hb
  exact absurd hb (by decide)
theorem DN.lt {w : World} {b p : Nat} {o : Option Nat} {x : NV18} (h : DN w b p o x) : (b ≤ p ∧ p < w.heap.size) ∧ ∀ k, o = some k → b ≤ k ∧ k < w.heap.size := by
  obtain ⟨A, n, c, hb, ho, _, hA, hbp⟩ := h
  refine ⟨⟨hbp, hb.lt⟩, fun k hk => ?_⟩
  rw [hk] at hA
  exact ho.lt k (by rw [own_block]; exact hA)
theorem DN.chg {S : Nat → Prop} {w w' : World} {b p : Nat} {o : Option Nat} {x : NV18} (h : DN w b p o x) (hc : Chg S w w') (hp : ¬ S p) (ho : ∀ k, o = some k → ¬ S k) : DN w' b p o x := by
  obtain ⟨A, n, c, h1, h2, h3, h4, h5⟩ := h
  exact ⟨A, n, c, h1.chg hc hp, own_chg h2 hc (fun k hk => ho k (by rw [← h4]; exact hk)), h3, h4, h5⟩
theorem DN.new {w w' : World} {b p : Nat} {o : Option Nat} {x : NV18} (h : DN w b p o x) (hc : Chg (fun _ => False) w w') : DN w' b p o x := h.chg hc id (fun _ _ => id)
/-- An item's cells, of the document's row. -/
theorem itF_cells {w : World} {b m c : Nat} {L : Option Addr} {ts : List IT18} (h : w.ownsRow b 49 3 (.slice L m c) m (itF ts)) {j : Nat} {t : IT18} (ht : ts[j]? = some t) : ∃ g : Nat, L = some ⟨g, 0, none⟩ ∧
    w.cell? ⟨g, j * 3, none⟩ = some (.int .i64 t.ki) ∧ w.cell? ⟨g, j * 3 + 1, none⟩ = some (.int .i64 t.ch) ∧ w.cell? ⟨g, j * 3 + 2, none⟩ = some (.string ⟨t.bs.toArray⟩) := by
  have hj : j < ts.length := (List.getElem?_eq_some_iff.1 ht).1
  have hll : ts.length = m := by have := h.1; rw [itF_len] at this; omega
  rcases h.2 with ⟨hv, rfl⟩ | ⟨g, cap, cur, hv, -⟩
  · omega
  · injection hv with hA hn hc
    subst hA
    refine ⟨g, rfl, ?_⟩
    have e : ∀ t, (⟨g, 0, none⟩ : Addr).add t = ⟨g, t, none⟩ := fun t => by unfold Addr.add; split <;> simp_all
    have q : ∀ k u, k < 3 → t.cs[k]? = some u → w.cell? ⟨g, j * 3 + k, none⟩ = some u := fun k u hk hu => by
      rw [← e]
      exact h.cells (g := g) rfl _ u (by rw [itF_at ts j _ ht k hk, hu])
    exact ⟨q 0 _ (by omega) rfl, q 1 _ (by omega) rfl, q 2 _ (by omega) rfl⟩
theorem it_put3 {w : World} {r : Nat} {T : TypeId} {z : Value} (hb : Blk w r T #[.int .i64 0, .int .i64 0, z]) (a c : Int) (v : Value) :
    Blk (((w.setCell ⟨r, 0, none⟩ (.int .i64 a)).setCell ⟨r, 1, none⟩ (.int .i64 c)).setCell ⟨r, 2, none⟩ v) r T #[.int .i64 a, .int .i64 c, v] ∧ Chg (fun j => j = r) w (((w.setCell ⟨r, 0, none⟩ (.int .i64 a)).setCell ⟨r, 1, none⟩ (.int .i64 c)).setCell ⟨r, 2, none⟩ v) := by
  have h := ((hb.set 0 (.int .i64 a)).set 1 (.int .i64 c)).set 2 v
  simp only [List.setIfInBounds_toArray, List.set_cons_zero, List.set_cons_succ] at h
  exact ⟨h, (((Chg.refl (fun j => j = r) w).put r 0 (fun _ => rfl) _).put r 1 (fun _ => rfl) _).put r 2 (fun _ => rfl) _⟩
/-- append of structs, in a plain walk. -/
theorem wpList_app18 {P : Program} (w : World) {ops : Array Oper} {rest : List Oper} {o : Oper} {a : Act} {Q : Exit → Act → World → Prop} (hgd : o.guard = none) (s x : Operand) (t : TypeId)
    (ho : o.op = .call { callee := .builtin .append, args := #[s, x], argTypes := #[t, t] })
    (base : Nat) (e : TypeId) (i : TypeInfo) (z : Value) (size bytes : Nat) (ht : P.underlying t = some (.slice e)) (hi : P.info? e = some i) (hz : i.zero = some z)
    (hsize : i.size = size) (hby : i.bytes = bytes) (hzs : z.cells.size = size) (hpos : 0 < size)
    (v : Value) (n : Nat) (xs : List Value) (hs : a.eval s = v) (hown : w.ownsRow base e size v n xs)
    (A : Option Addr) (m c : Nat) (news : List Value) (hx : a.eval x = .slice A m c) (hl : news.length = m * size) (hA : A = none → m = 0) (hnews : ∀ ad, A = some ad → ∀ j u, news[j]? = some u → w.cell? (ad.add j) = some u) (h1 : ∀ u ∈ news, u.oneCell' = true)
    (h63 : n + m ≤ maxLen) (hbytes : (n + m) * bytes ≤ 140737488355328) (hbase : base ≤ w.heap.size)
    (h : ∀ v' w', w'.ownsRow base e size v' (n + m) (xs ++ news) → w.grownBy w' v.ownBlock → (v'.ownBlock = v.ownBlock ∨ v'.ownBlock = some w.heap.size) → wpList P ops Q rest (a.put o.dst v') w') : wpList P ops Q (o :: rest) a w := by
  rcases A with _ | ad
  · obtain rfl := hA rfl
    have hn : news = [] := List.eq_nil_of_length_eq_zero (by simpa using hl)
    subst hn
    have hrun : (Builtin.append_ #[t, t] o.type #[v, .slice none 0 c]).run P w = .ok v w := by
      rcases hown.2 with ⟨rfl, rfl⟩ | ⟨g, cap, cur, rfl, _, _, hnc, _⟩
      · simp [Builtin.append_, run_underlying ht, sizeOf, typeInfo, hi, Builtin.lenOf, Builtin.firstCells]
      · simp [Builtin.append_, run_underlying ht, sizeOf, typeInfo, hi, Builtin.lenOf, Builtin.firstCells, hnc, storeCells]
    refine wpList_plain hgd fun _ hK => ?_
    unfold Oper.wp execOp
    simp only [ho, resolve, invoke, builtin, Sem.run_bind, Sem.run_pure, Result.andThen_ok, List.map_toArray, List.map_cons, List.map_nil, hs, hx, hrun]
    exact hK _ _ (h v w (by simpa using hown) ⟨rfl, rfl, rfl, Nat.le_refl _, fun _ _ _ => rfl⟩ (.inl rfl))
  · refine wpList_plain hgd fun _ hK => ?_
    obtain ⟨v', w', hrun, h2, h3, _, h4⟩ := run_append_own_at (P := P) w base t o.type e i z size bytes ht hi hz hsize hby hzs hpos v n xs hown ad m c news hl (hnews ad rfl) h1 h63 hbytes hbase
    unfold Oper.wp execOp
    simp only [ho, resolve, invoke, builtin, Sem.run_bind, Sem.run_pure, Result.andThen_ok, List.map_toArray, List.map_cons, List.map_nil, hs, hx, hrun]
    exact hK _ _ (h v' w' h2 h3 h4)
/-- A row of nothing, just made. -/
theorem own_empty18 (w : World) (T : TypeId) (size : Nat) : (w.alloc (.cells #[] T)).ownsRow w.heap.size T size (.slice (some ⟨w.heap.size, 0, none⟩) 0 0) 0 [] :=
  ⟨by simp, .inr ⟨w.heap.size, 0, #[], rfl, Nat.le_refl _, heap_alloc_new w _, Nat.le_refl _, Nat.zero_le _, by simp, by simp⟩⟩
set_option maxRecDepth 100000 in
set_option maxHeartbeats 2000000 in
theorem of18 (ki ch : Int) (A : Option Addr) (n c : Nat) (bs : List UInt8) (S : Nat → Prop) (w : World) (hr : Rds w S A n (bcs bs)) : Calls Try.prog 16 #[.agg #[.int .i64 ki, .int .i64 ch, .slice A n c]] w fun e w' => e = .returned (.agg #[.int .i64 ki, .int .i64 ch, .string ⟨bs.toArray⟩]) ∧ Chg (fun _ => False) w w' := by
  have HX0 := Lib.hid (((Chg.refl (fun _ => False) w).alloc (.cells #[.int .i64 ki, .int .i64 ch, .slice A n c] 40)).alloc (.cells #[.int .i64 0, .int .i64 0, .string ⟨#[]⟩] 49))
  have HB0 : Blk ((w.alloc (.cells #[.int .i64 ki, .int .i64 ch, .slice A n c] 40)).alloc (.cells #[.int .i64 0, .int .i64 0, .string ⟨#[]⟩] 49)) w.heap.size 40 #[.int .i64 ki, .int .i64 ch, .slice A n c] := Blk.alloc (blk_new rfl) _
  have HB1 : Blk ((w.alloc (.cells #[.int .i64 ki, .int .i64 ch, .slice A n c] 40)).alloc (.cells #[.int .i64 0, .int .i64 0, .string ⟨#[]⟩] 49)) (w.heap.size + 1) 49 #[.int .i64 0, .int .i64 0, .string ⟨#[]⟩] := blk_new (by simp)
  have HR := Lib.hid (hr.chg HX0.out (fun _ _ => id))
  have HQ := Lib.hid (show w.heap.size ≤ w.heap.size + 1 by omega)
  replace HB0 := Lib.hid HB0
  replace HB1 := Lib.hid HB1
  clear hr
  go_enter Try.func16, Try.ntmps16
  go_upto_region 1 with fail
  generalize ((w.alloc (.cells #[.int .i64 ki, .int .i64 ch, .slice A n c] 40)).alloc (.cells #[.int .i64 0, .int .i64 0, .string ⟨#[]⟩] 49)) = w1 at *
  generalize w.heap.size + 1 = Q1 at *
  generalize w.heap.size = Q0 at HB0 ⊢
  obtain ⟨y0, y1, y2⟩ := it_cells HB0.out
  have hcv := conv_str (P := Try.prog) (c := c) 38 9 5 Try.underlying38 Try.underlying5 Try.underlying9 HR.out
  obtain ⟨hbr, hcs⟩ := it_put3 HB1.out ki ch (.string ⟨bs.toArray⟩)
  have HBR := Lib.hid hbr
  have HX := Lib.hid (fresh_set HX0.out hcs HQ.out)
  clear hbr hcs
  obtain ⟨x0, x1, x2⟩ := it_cells HB1.out
  have g0 := HB1.out.frozen 0
  have g1 := HB1.out.frozen 1
  have g2 := HB1.out.frozen 2
  go_wp2_with fail
  obtain ⟨r0, r1, r2⟩ := it_cells HBR.out
  refine bodyPost_ret (v := .agg #[.int .i64 ki, .int .i64 ch, .string ⟨bs.toArray⟩]) (by simp [results, Try.results16, go_sem, r0, r1, r2]) rfl ?_
  exact ⟨rfl, HX.out⟩
set_option maxRecDepth 100000 in
set_option maxHeartbeats 4000000 in
theorem rright18 (t : IT18) (w : World) : Calls Try.prog 17 #[.agg #[.int .i64 t.ki, .int .i64 t.ch, .string ⟨t.bs.toArray⟩]] w fun e w' => e = .returned (.bool (okI18 t)) ∧ Chg (fun _ => False) w w' := by
  have HX := Lib.hid ((Chg.refl (fun _ => False) w).alloc (.cells #[.int .i64 t.ki, .int .i64 t.ch, .string ⟨t.bs.toArray⟩] 49))
  have HB : Hid (Blk (w.alloc (.cells #[.int .i64 t.ki, .int .i64 t.ch, .string ⟨t.bs.toArray⟩] 49)) w.heap.size 49 #[.int .i64 t.ki, .int .i64 t.ch, .string ⟨t.bs.toArray⟩]) := Lib.hid (blk_new rfl)
  obtain ⟨ki, ch, bs⟩ := t
  obtain ⟨y0, y1, y2⟩ := it_cells HB.out
  simp only at *
  by_cases h0 : 0 ≤ ki
  case neg =>
    have HR := Lib.hid (show okI18 ⟨ki, ch, bs⟩ = false by unfold okI18; simp; omega)
    go_enter Try.func17, Try.ntmps17
    go_wp2_with fail
    go_ret
    exact ⟨by rw [HR.out]; rfl, HX.out⟩
  by_cases h1 : ki ≤ 2
  case neg =>
    have HR := Lib.hid (show okI18 ⟨ki, ch, bs⟩ = false by unfold okI18; simp; omega)
    go_enter Try.func17, Try.ntmps17
    go_wp2_with fail
    go_ret
    exact ⟨by rw [HR.out]; rfl, HX.out⟩
  by_cases h2 : 0 ≤ ch
  case neg =>
    have HR := Lib.hid (show okI18 ⟨ki, ch, bs⟩ = false by unfold okI18; simp; omega)
    go_enter Try.func17, Try.ntmps17
    go_wp2_with fail
    go_ret
    exact ⟨by rw [HR.out]; rfl, HX.out⟩
  by_cases h3 : ch ≤ 15
  case neg =>
    have HR := Lib.hid (show okI18 ⟨ki, ch, bs⟩ = false by unfold okI18; simp; omega)
    go_enter Try.func17, Try.ntmps17
    go_wp2_with fail
    go_ret
    exact ⟨by rw [HR.out]; rfl, HX.out⟩
  by_cases h4 : (bs.length : Int) ≤ 2000
  case neg =>
    have HR := Lib.hid (show okI18 ⟨ki, ch, bs⟩ = false by unfold okI18; simp; omega)
    go_enter Try.func17, Try.ntmps17
    go_wp2_with fail
    go_ret
    exact ⟨by rw [HR.out]; rfl, HX.out⟩
  have HR := Lib.hid (show okI18 ⟨ki, ch, bs⟩ = true by unfold okI18; simp; omega)
  go_enter Try.func17, Try.ntmps17
  go_wp2_with fail
  go_ret
  exact ⟨by rw [HR.out]; simp, HX.out⟩

end Go.Proofs.Ythajmplheecepaa
