/-
  Walks: rutterlaw13.Act, key, the document's May, slices.Clone of entries, flow.New, Entries. Conditions: the entries are read in memory; Entries: the table lies in memory; Clone: at most 256 of them.
-/
import Derived.Test.YtacbgelbffmngaaYb
namespace Go.Proofs.Ytacbgelbffmngaa
open Go.RowKit
set_option linter.unusedVariables false
set_option linter.unusedSimpArgs false

/-- append of structs, in a plain walk. -/
theorem wpList_app13 {P : Program} (w : World) {ops : Array Oper} {rest : List Oper} {o : Oper} {a : Act} {Q : Exit → Act → World → Prop} (hgd : o.guard = none) (s x : Operand) (t : TypeId)
    (ho : o.op = .call { callee := .builtin .append, args := #[s, x], argTypes := #[t, t] })
    (base : Nat) (e : TypeId) (i : TypeInfo) (z : Value) (size bytes : Nat) (ht : P.underlying t = some (.slice e)) (hi : P.info? e = some i) (hz : i.zero = some z)
    (hsize : i.size = size) (hby : i.bytes = bytes) (hzs : z.cells.size = size) (hpos : 0 < size)
    (v : Value) (n : Nat) (xs : List Value) (hs : a.eval s = v) (hown : w.ownsRow base e size v n xs)
    (A : Option Addr) (m c : Nat) (news : List Value) (hx : a.eval x = .slice A m c) (hl : news.length = m * size) (hA : A = none → m = 0) (hnews : ∀ ad, A = some ad → ∀ j u, news[j]? = some u → w.cell? (ad.add j) = some u) (h1 : ∀ u ∈ news, u.oneCell' = true)
    (h63 : n + m ≤ maxLen) (hbytes : (n + m) * bytes ≤ 140737488355328) (hbase : base ≤ w.heap.size)
    (h : ∀ v' w', w'.ownsRow base e size v' (n + m) (xs ++ news) → w.grownBy w' v.ownBlock → (v'.ownBlock = v.ownBlock ∨ v'.ownBlock = some w.heap.size) → wpList P ops Q rest (a.put o.dst v') w') : wpList P ops Q (o :: rest) a w := by
  rcases A with _ | ad
  · obtain rfl := hA rfl
    have hn : news = [] := List.eq_nil_of_length_eq_zero (by simpa using hl)
    subst hn
    have hrun : (Builtin.append_ #[t, t] o.type #[v, .slice none 0 c]).run P w = .ok v w := by
      rcases hown.2 with ⟨rfl, rfl⟩ | ⟨g, cap, cur, rfl, _, _, hnc, _⟩
      · simp [Builtin.append_, run_underlying ht, sizeOf, typeInfo, hi, Builtin.lenOf, Builtin.firstCells]
      · simp [Builtin.append_, run_underlying ht, sizeOf, typeInfo, hi, Builtin.lenOf, Builtin.firstCells, hnc, storeCells]
    refine wpList_plain hgd fun _ hK => ?_
    unfold Oper.wp execOp
    simp only [ho, resolve, invoke, builtin, Sem.run_bind, Sem.run_pure, Result.andThen_ok, List.map_toArray, List.map_cons, List.map_nil, hs, hx, hrun]
    exact hK _ _ (h v w (by simpa using hown) ⟨rfl, rfl, rfl, Nat.le_refl _, fun _ _ _ => rfl⟩ (.inl rfl))
  · refine wpList_plain hgd fun _ hK => ?_
    obtain ⟨v', w', hrun, h2, h3, _, h4⟩ := run_append_own_at (P := P) w base t o.type e i z size bytes ht hi hz hsize hby hzs hpos v n xs hown ad m c news hl (hnews ad rfl) h1 h63 hbytes hbase
    unfold Oper.wp execOp
    simp only [ho, resolve, invoke, builtin, Sem.run_bind, Sem.run_pure, Result.andThen_ok, List.map_toArray, List.map_cons, List.map_nil, hs, hx, hrun]
    exact hK _ _ (h v' w' h2 h3 h4)
theorem infoEn13 : (Try.prog.info? 70).map (fun i => (i.zero, i.size, i.bytes)) = some (some (.agg #[.int .i64 0, .int .i64 0, .int .u64 0, .int .i64 0, .int .i64 0, .int .i64 0, .int .i64 0, .int .i64 0, .int .i64 0, .int .i64 0, .int .i64 0]), 11, 88) := by kernel_rfl
/-- A row of nothing, just made. -/
theorem own_empty13 (w : World) (T : TypeId) (size : Nat) : (w.alloc (.cells #[] T)).ownsRow w.heap.size T size (.slice (some ⟨w.heap.size, 0, none⟩) 0 0) 0 [] :=
  ⟨by simp, .inr ⟨w.heap.size, 0, #[], rfl, Nat.le_refl _, heap_alloc_new w _, Nat.le_refl _, Nat.zero_le _, by simp, by simp⟩⟩
theorem own_nil13 {w : World} {base : Nat} {e : TypeId} {size n c : Nat} {A : Option Addr} {xs : List Value} (h : w.ownsRow base e size (.slice A n c) n xs) : A = none → c = 0 := by
  rintro rfl
  rcases h.2 with ⟨e, _⟩ | ⟨g, cap, cur, e, _⟩
  · injection e
  · injection e with e
    cases e
theorem ac_put13 {w : World} {r : Nat} {T : TypeId} {ak ap ao ag : Int} (hb : Blk w r T (acC ak ap ao ag)) (a b c d : Int) :
    (w.setCell ⟨r, 0, none⟩ (.int .i64 a)).cell? ⟨r, 0, none⟩ = some (.int .i64 a) ∧
    ((w.setCell ⟨r, 0, none⟩ (.int .i64 a)).setCell ⟨r, 1, none⟩ (.int .i64 b)).cell? ⟨r, 1, none⟩ = some (.int .i64 b) ∧
    (((w.setCell ⟨r, 0, none⟩ (.int .i64 a)).setCell ⟨r, 1, none⟩ (.int .i64 b)).setCell ⟨r, 2, none⟩ (.int .i64 c)).cell? ⟨r, 2, none⟩ = some (.int .i64 c) ∧
    ((((w.setCell ⟨r, 0, none⟩ (.int .i64 a)).setCell ⟨r, 1, none⟩ (.int .i64 b)).setCell ⟨r, 2, none⟩ (.int .i64 c)).setCell ⟨r, 3, none⟩ (.int .i64 d)).cell? ⟨r, 3, none⟩ = some (.int .i64 d) ∧
    Chg (fun k => k = r) w ((((w.setCell ⟨r, 0, none⟩ (.int .i64 a)).setCell ⟨r, 1, none⟩ (.int .i64 b)).setCell ⟨r, 2, none⟩ (.int .i64 c)).setCell ⟨r, 3, none⟩ (.int .i64 d)) := by
  have h0 := (hb.set 0 (.int .i64 a))
  have r0 := h0.cell 0
  have h1 := h0.set 1 (.int .i64 b)
  have r1 := h1.cell 1
  have h2 := h1.set 2 (.int .i64 c)
  have r2 := h2.cell 2
  have h3 := h2.set 3 (.int .i64 d)
  have r3 := h3.cell 3
  simp only [acC, List.setIfInBounds_toArray, List.set_cons_succ, List.set_cons_zero, List.getElem?_toArray, List.getElem?_cons_zero, List.getElem?_cons_succ] at r0 r1 r2 r3
  exact ⟨r0, r1, r2, r3, (((((Chg.refl (fun k => k = r) w).put r 0 (fun _ => rfl) _).put r 1 (fun _ => rfl) _).put r 2 (fun _ => rfl) _).put r 3 (fun _ => rfl) _)⟩
theorem ac_free13 {w : World} {r : Nat} {T : TypeId} {cs : Array Value} (h : Blk w r T cs) : w.frozen? ⟨r, 0, none⟩ = false ∧ w.frozen? ⟨r, 1, none⟩ = false ∧ w.frozen? ⟨r, 2, none⟩ = false ∧ w.frozen? ⟨r, 3, none⟩ = false := ⟨h.frozen 0, h.frozen 1, h.frozen 2, h.frozen 3⟩
set_option maxRecDepth 100000 in
set_option maxHeartbeats 800000 in
theorem lact13_any (ak ap ao ag : Int) (w : World) : Calls Try.prog 27 #[.agg (acC ak ap ao ag)] w fun e w' => e = .returned (.agg (acC ak ap ao ag)) ∧ Chg (fun _ => False) w w' := by
  unfold acC
  go_enter Try.func27, Try.ntmps27
  go_wp2_with fail
  have hb : Blk ((w.alloc (.cells #[.int .i64 ak, .int .i64 ap, .int .i64 ao, .int .i64 ag] 68)).alloc (.cells #[.int .i64 ak, .int .i64 ap, .int .i64 ao, .int .i64 ag] 82)) (w.heap.size + 1) 82 (acC ak ap ao ag) := blk_new (by simp)
  obtain ⟨r0, r1, r2, r3⟩ := ac_cells13 hb
  exact bodyPost_ret (v := .agg #[.int .i64 ak, .int .i64 ap, .int .i64 ao, .int .i64 ag]) (by simp [results, Try.results27, go_sem, r0, r1, r2, r3]) rfl ⟨rfl, ((Chg.refl (fun _ => False) w).alloc _).alloc _⟩
/-- May a table have so many? -/
def may13 (n : Nat) : Int := if 256 < n then 3 else 0
/-- Entries that are handed back in new memory. -/
def ClP13 (m : Nat) (l : List En) (w : World) (e : Ending) (w' : World) : Prop := ∃ E d, e = .returned (.slice E m d) ∧ EnR w' E m l ∧ m ≤ d ∧ d ≤ maxLen ∧ (E = none → d = 0) ∧ Chg (fun _ => False) w w'
set_option maxRecDepth 100000 in
set_option maxHeartbeats 400000 in
theorem fclone13_nil (w : World) : Calls Try.prog 21 #[.slice none 0 0] w fun e w' => e = .returned (.slice none 0 0) ∧ w = w' := by
  have he := fun W : World => Lib.run_eql_slice_nil (P := Try.prog) W 22 70 none 0 0 0 0 Try.underlying22
  go_enter Try.func21, Try.ntmps21
  go_wp2_with fail
  go_ret
  exact ⟨rfl, rfl⟩
set_option maxRecDepth 100000 in
set_option maxHeartbeats 2000000 in
theorem fclone13_any {w : World} {L : Option Addr} {m lc : Nat} {l : List En} (h : EnR w L m l) (hz : L = none → lc = 0) (hb : m ≤ 256) : Calls Try.prog 21 #[.slice L m lc] w (ClP13 m l w) := by
  rcases L with _ | a
  · obtain rfl := hz rfl
    obtain rfl := enr_none h rfl
    have hl : l = [] := List.eq_nil_of_length_eq_zero h.1.symm
    subst hl
    refine (fclone13_nil w).mono ?_
    rintro e w' ⟨rfl, rfl⟩
    exact ⟨none, 0, rfl, EnR.nil _ _, Nat.le_refl _, Nat.zero_le _, fun _ => rfl, Chg.refl _ _⟩
  · obtain ⟨i0, hi0, hz0, hz1, hz2⟩ := info_parts infoEn13
    have HH := Lib.hid h
    have HL := Lib.hid h.1
    clear h hz
    have he := fun W : World => Lib.run_eql_slice_nil (P := Try.prog) W 22 70 (some a) m lc 0 0 Try.underlying22
    have HSRC := Lib.hid (enr_flat (HH.out.alloc (.cells #[] 70)))
    go_enter Try.func21, Try.ntmps21
    go_wp2_with (at_builtin; refine wpList_app13 _ rfl (.tmp 5) (.tmp 6) 22 rfl w.heap.size 70 i0 _ 11 88 Try.underlying22 hi0 hz0 hz1 hz2 rfl (by decide) (.slice (some ⟨w.heap.size, 0, none⟩) 0 0) 0 [] rfl (own_empty13 w 70 11) (some a) m lc (enF l) rfl (by rw [enF_len, HL.out]) (fun e => by cases e) HSRC.out (enF_one l) (by unfold maxLen; omega) (by omega) (by simp) ?_; intro v5 w5 hown5 hg5 hat5; (simp only [Nat.zero_add, List.nil_append] at hown5 ⊢); obtain ⟨E, dd, rfl, -, -⟩ := own_form hown5; have HO5 := Lib.hid hown5; have HX5 := Lib.hid (grown_fresh ((Chg.refl (fun _ => False) w).alloc _) hg5 (own_empty13 w 70 11) (Nat.le_refl _)); clear hown5 hg5 hat5)
    go_ret
    exact ⟨E, dd, rfl, own_enr HO5.out HL.out, (own_cap HO5.out).1, (own_cap HO5.out).2, own_nil13 HO5.out, HX5.out⟩
set_option maxRecDepth 100000 in
set_option maxHeartbeats 400000 in
theorem fnew13_full {L : Option Addr} {m lc : Nat} (hm : 256 < m) (w : World) : Calls Try.prog 8 #[.slice L m lc] w fun e w' => e = .returned (.tuple #[.pointer none, .int .i64 3]) ∧ w = w' := by
  go_enter Try.func8, Try.ntmps8
  go_wp2_with fail
  go_ret2
  exact ⟨rfl, rfl⟩
def NwP13 (l : List En) (w : World) (e : Ending) (w' : World) : Prop := ∃ p : Nat, e = .returned (.tuple #[.pointer (some ⟨p, 0, none⟩), .int .i64 0]) ∧ TF w' p l ∧ Chg (fun _ => False) w w'
set_option maxRecDepth 100000 in
set_option maxHeartbeats 800000 in
theorem fnew13_any {w : World} {L : Option Addr} {m lc : Nat} {l : List En} (h : EnR w L m l) (hz : L = none → lc = 0) (hb : m ≤ 256) : Calls Try.prog 8 #[.slice L m lc] w (NwP13 l w) := by
  have HC := Lib.hid (fclone13_any h hz hb)
  have HM := Lib.hid h.1
  clear h hz
  have h256 : ¬ 256 < m := by omega
  go_enter Try.func8, Try.ntmps8
  go_wp2_with fail
  refine HC.out.mono ?_
  rintro e w1 ⟨E, d, rfl, hr, h1, h2, h3, hc⟩
  have HR := Lib.hid hr
  have HD := Lib.hid (And.intro h1 (And.intro h2 h3))
  have HX := Lib.hid hc
  clear hr h1 h2 h3 hc
  go_wp2_with fail
  go_ret2
  refine ⟨w1.heap.size, rfl, ⟨E, d, ?_, ?_, ?_, HD.out.2.1, HD.out.2.2⟩, HX.out.alloc _⟩
  · rw [← HM.out]
    exact blk_new rfl
  · rw [← HM.out]
    exact HR.out.alloc _
  · rw [← HM.out]
    exact HD.out.1
end Go.Proofs.Ytacbgelbffmngaa
