/-
  Walks: rutterlaw19.Event, rutterlaw21.of; an append of one. Condition: the events are read in memory, at most 80.
-/
import Derived.Test.YtmfgbonlhoffaaaDg
import Derived.Maps.AppendAt
namespace Go.Proofs.Ytmfgbonlhoffaaa
open Go.RowKit
set_option linter.unusedVariables false
set_option linter.unusedSimpArgs false
/-- append of structs, in a plain walk. -/
theorem wpList_app21 {P : Program} (w : World) {ops : Array Oper} {rest : List Oper} {o : Oper} {a : Act} {Q : Exit → Act → World → Prop} (hgd : o.guard = none) (s x : Operand) (t : TypeId)
    (ho : o.op = .call { callee := .builtin .append, args := #[s, x], argTypes := #[t, t] })
    (base : Nat) (e : TypeId) (i : TypeInfo) (z : Value) (size bytes : Nat) (ht : P.underlying t = some (.slice e)) (hi : P.info? e = some i) (hz : i.zero = some z)
    (hsize : i.size = size) (hby : i.bytes = bytes) (hzs : z.cells.size = size) (hpos : 0 < size)
    (v : Value) (n : Nat) (xs : List Value) (hs : a.eval s = v) (hown : w.ownsRow base e size v n xs)
    (A : Option Addr) (m c : Nat) (news : List Value) (hx : a.eval x = .slice A m c) (hl : news.length = m * size) (hA : A = none → m = 0) (hnews : ∀ ad, A = some ad → ∀ j u, news[j]? = some u → w.cell? (ad.add j) = some u) (h1 : ∀ u ∈ news, u.oneCell' = true)
    (h63 : n + m ≤ maxLen) (hbytes : (n + m) * bytes ≤ 140737488355328) (hbase : base ≤ w.heap.size)
    (h : ∀ v' w', w'.ownsRow base e size v' (n + m) (xs ++ news) → w.grownBy w' v.ownBlock → (v'.ownBlock = v.ownBlock ∨ v'.ownBlock = some w.heap.size) → wpList P ops Q rest (a.put o.dst v') w') : wpList P ops Q (o :: rest) a w := by
  rcases A with _ | ad
  · obtain rfl := hA rfl
    have hn : news = [] := List.eq_nil_of_length_eq_zero (by simpa using hl)
    subst hn
    have hrun : (Builtin.append_ #[t, t] o.type #[v, .slice none 0 c]).run P w = .ok v w := by
      rcases hown.2 with ⟨rfl, rfl⟩ | ⟨g, cap, cur, rfl, _, _, hnc, _⟩
      · simp [Builtin.append_, run_underlying ht, sizeOf, typeInfo, hi, Builtin.lenOf, Builtin.firstCells]
      · simp [Builtin.append_, run_underlying ht, sizeOf, typeInfo, hi, Builtin.lenOf, Builtin.firstCells, hnc, storeCells]
    refine wpList_plain hgd fun _ hK => ?_
    unfold Oper.wp execOp
    simp only [ho, resolve, invoke, builtin, Sem.run_bind, Sem.run_pure, Result.andThen_ok, List.map_toArray, List.map_cons, List.map_nil, hs, hx, hrun]
    exact hK _ _ (h v w (by simpa using hown) ⟨rfl, rfl, rfl, Nat.le_refl _, fun _ _ _ => rfl⟩ (.inl rfl))
  · refine wpList_plain hgd fun _ hK => ?_
    obtain ⟨v', w', hrun, h2, h3, _, h4⟩ := run_append_own_at (P := P) w base t o.type e i z size bytes ht hi hz hsize hby hzs hpos v n xs hown ad m c news hl (hnews ad rfl) h1 h63 hbytes hbase
    unfold Oper.wp execOp
    simp only [ho, resolve, invoke, builtin, Sem.run_bind, Sem.run_pure, Result.andThen_ok, List.map_toArray, List.map_cons, List.map_nil, hs, hx, hrun]
    exact hK _ _ (h v' w' h2 h3 h4)
theorem info21 {P : Program} {T : TypeId} {z : Option Value} {s b : Nat} (h : (P.info? T).map (fun i => (i.zero, i.size, i.bytes)) = some (z, s, b)) : ∃ i, P.info? T = some i ∧ i.zero = z ∧ i.size = s ∧ i.bytes = b := by
  cases hi : P.info? T with
  | none => simp [hi] at h
  | some i =>
    simp only [hi, Option.map_some, Option.some.injEq, Prod.mk.injEq] at h
    exact ⟨i, rfl, h.1, h.2.1, h.2.2⟩
/-- append of one thing that was just built, onto what is owned. -/
theorem wpList_one21 {P : Program} (w0 w : World) {ops : Array Oper} {rest : List Oper} {o : Oper} {a : Act} {Q : Exit → Act → World → Prop} (hgd : o.guard = none) (s x : Operand) (t : TypeId)
    (ho : o.op = .call { callee := .builtin .append, args := #[s, x], argTypes := #[t, t] })
    (base : Nat) (e : TypeId) (z : Value) (k bytes : Nat) (ht : P.underlying t = some (.slice e)) (hi : (P.info? e).map (fun i => (i.zero, i.size, i.bytes)) = some (some z, k, bytes)) (hzs : z.cells.size = k) (hpos : 0 < k)
    (A : Option Addr) (n c : Nat) (xs : List Value) (hs : a.eval s = .slice A n c) (hown : w.ownsRow base e k (.slice A n c) n xs)
    (q c2 : Nat) (T : TypeId) (cs : Array Value) (hx : a.eval x = .slice (some ⟨q, 0, none⟩) 1 c2) (hb : Blk w q T cs) (hk : cs.size = k) (h1 : ∀ u ∈ cs.toList, u.oneCell' = true)
    (hn : n ≤ 1000) (hby : bytes ≤ 1000) (hB : w0.heap.size ≤ base) (hbase : base ≤ w.heap.size) (hX : Chg (fun _ => False) w0 w)
    (h : ∀ A' c' w', w'.ownsRow base e k (.slice A' (n + 1) c') (n + 1) (xs ++ cs.toList) → Chg (fun _ => False) w0 w' → wpList P ops Q rest (a.put o.dst (.slice A' (n + 1) c')) w') : wpList P ops Q (o :: rest) a w := by
  obtain ⟨i, hi, hz, hsz, hbt⟩ := info21 hi
  refine wpList_app21 w hgd s x t ho base e i z k bytes ht hi hz hsz hbt hzs hpos _ n xs hs hown (some ⟨q, 0, none⟩) 1 c2 cs.toList hx (by simp [hk]) (fun e => by cases e) (fun ad e j u hu => ?_) h1 (by unfold maxLen; omega) (by
    have h2 : (n + 1) * bytes ≤ 1001 * 1000 := Nat.mul_le_mul (by omega) hby
    omega) hbase ?_
  · injection e with e
    subst e
    have h3 := hb.cell j
    have h4 : (⟨q, 0, none⟩ : Addr).add j = ⟨q, j, none⟩ := by unfold Addr.add; split <;> simp_all
    rw [h4, h3]
    simpa using hu
  · intro v' w' hown' hg _
    obtain ⟨A', c', rfl, -, -⟩ := own_form hown'
    exact h A' c' w' hown' (hX.grown hg (fun k hk hlt => by
      have := (hown.lt k hk).1
      omega))
theorem infoInt21 : (Try.prog.info? 3).map (fun i => (i.zero, i.size, i.bytes)) = some (some (.int .i64 0), 1, 8) := by kernel_rfl
theorem infoRE21 : (Try.prog.info? 47).map (fun i => (i.zero, i.size, i.bytes)) = some (some (.agg #[.int .i64 0, .int .i64 0, .int .i64 0, .int .i64 0, .int .i64 0, .int .i64 0, .int .i64 0, .int .i64 0, .int .i64 0, .int .i64 0, .int .i64 0, .int .i64 0, .int .i64 0]), 13, 104) := by kernel_rfl
theorem ev_one21 (x : Ev) : ∀ u ∈ x.cs.toList, u.oneCell' = true := by
  intro u hu
  have := evF_one [x] u (by simpa [evF] using hu)
  exact this
theorem evF_take {l : List Ev} {j : Nat} {x : Ev} (h : l[j]? = some x) : evF (l.take (j + 1)) = evF (l.take j) ++ x.cs.toList := by rw [take21 h]; simp [evF]
theorem own_chg21 {w w' : World} {base : Nat} {e : TypeId} {size n : Nat} {v : Value} {xs : List Value} (h : w.ownsRow base e size v n xs) (hc : Chg (fun _ => False) w w') : w'.ownsRow base e size v n xs := by
  refine ⟨h.1, ?_⟩
  rcases h.2 with h2 | ⟨g, cap, cur, hv, hg, hb, r⟩
  · exact .inl h2
  · exact .inr ⟨g, cap, cur, hv, hg, (hc.block g (Array.getElem?_eq_some_iff.1 hb).1 id).trans hb, r⟩
/-- The document has an event as the code has it. -/
def EvP (x : Ev) (w : World) (e : Ending) (w' : World) : Prop := e = .returned (.agg x.cs) ∧ Chg (fun _ => False) w w'
set_option maxRecDepth 100000 in
set_option maxHeartbeats 4000000 in
theorem lev21_any (x : Ev) (w : World) : Calls Try.prog 15 #[.agg x.cs] w (EvP x w) := by
  unfold Ev.cs
  go_enter Try.func15, Try.ntmps15
  go_wp2_with fail
  have hb : Blk ((w.alloc (.cells #[.int .i64 x.wh, .int .i64 x.ti, .int .i64 x.ch, .int .i64 x.po, .int .i64 x.ve, .int .i64 x.ki, .int .i64 x.id, .int .i64 x.og, .int .i64 x.fr, .int .i64 x.dn, .int .i64 x.tg, .int .i64 x.ge, .int .i64 x.sp] 38)).alloc (.cells #[.int .i64 x.wh, .int .i64 x.ti, .int .i64 x.ch, .int .i64 x.po, .int .i64 x.ve, .int .i64 x.ki, .int .i64 x.id, .int .i64 x.og, .int .i64 x.fr, .int .i64 x.dn, .int .i64 x.tg, .int .i64 x.ge, .int .i64 x.sp] 47)) (w.heap.size + 1) 47 x.cs := blk_new (by simp)
  obtain ⟨y0, y1, y2, y3, y4, y5, y6, y7, y8, y9, y10, y11, y12⟩ := ev_cells21 hb
  exact bodyPost_ret (v := .agg x.cs) (by simp [results, Try.results15, go_sem, Ev.cs, y0, y1, y2, y3, y4, y5, y6, y7, y8, y9, y10, y11, y12]) rfl ⟨rfl, ((Chg.refl (fun _ => False) w).alloc _).alloc _⟩
/-- Events that are handed back in new memory. -/
def OfP21 (m : Nat) (l : List Ev) (w : World) (e : Ending) (w' : World) : Prop := ∃ E d, e = .returned (.slice E m d) ∧ EvR w' E m l ∧ Chg (fun _ => False) w w'
set_option maxRecDepth 100000 in
set_option maxHeartbeats 4000000 in
theorem of21_any {w : World} {L : Option Addr} {m lc : Nat} {l : List Ev} (h : EvR w L m l) (hm : m ≤ 80) : Calls Try.prog 8 #[.slice L m lc] w (OfP21 m l w) := by
  have HH := Lib.hid h
  have HL := Lib.hid h.1
  have HM := Lib.hid hm
  clear h
  go_enter Try.func8, Try.ntmps8
  go_wp2_with fail
  go_loopg [3, 4] m (fun g s3 s4 wr => ∃ (j : Nat) (A : Option Addr) (d : Nat), g = m - j ∧ j ≤ m ∧ s4 = .int .i64 (j : Int) ∧ s3 = .slice A j d ∧ Hid (wr.ownsRow w.heap.size 47 13 (.slice A j d) j (evF (l.take j))) ∧ Hid (Chg (fun _ => False) w wr))
  case atStart => exact ⟨0, none, 0, rfl, Nat.zero_le _, rfl, rfl, Lib.hid (World.ownsRow_nil _ _ _ _), Lib.hid (Chg.refl _ _)⟩
  case round =>
    obtain ⟨j, A, d, rfl, hj, rfl, rfl, HO, HX0⟩ := hrel
    by_cases hlt : j < m
    · have hh := HH.out.chg HX0.out
      obtain ⟨ad, rfl, -⟩ := hh.2 (by omega)
      have hjl : j < l.length := by have := HL.out; omega
      have hx : l[j]? = some l[j] := List.getElem?_eq_getElem hjl
      generalize l[j] = x at *
      obtain ⟨z0, z1, z2, z3, z4, z5, z6, z7, z8, z9, z10, z11, z12⟩ := hh.at hx
      have HJ := Lib.hid hx
      clear hx hh hjl
      have HEV := Lib.hid (fun W => lev21_any x W)
      replace HEV : Hid (∀ W, Calls _ _ #[.agg #[.int .i64 x.wh, .int .i64 x.ti, .int .i64 x.ch, .int .i64 x.po, .int .i64 x.ve, .int .i64 x.ki, .int .i64 x.id, .int .i64 x.og, .int .i64 x.fr, .int .i64 x.dn, .int .i64 x.tg, .int .i64 x.ge, .int .i64 x.sp]] W (fun e w' => e = .returned (.agg #[.int .i64 x.wh, .int .i64 x.ti, .int .i64 x.ch, .int .i64 x.po, .int .i64 x.ve, .int .i64 x.ki, .int .i64 x.id, .int .i64 x.og, .int .i64 x.fr, .int .i64 x.dn, .int .i64 x.tg, .int .i64 x.ge, .int .i64 x.sp]) ∧ Chg (fun _ => False) W w')) := HEV
      go_wp2_with fail
      refine (HEV.out _).mono ?_
      rintro e w5 ⟨rfl, hc⟩
      have HO5 := Lib.hid (own_chg21 (HO.out) hc)
      have HX5 := Lib.hid (HX0.out.trans hc (fun _ _ e => e))
      clear hc z0 z1 z2 z3 z4 z5 z6 z7 z8 z9 z10 z11 z12
      have HB5 : Hid (Blk (w5.alloc (.cells #[.int .i64 x.wh, .int .i64 x.ti, .int .i64 x.ch, .int .i64 x.po, .int .i64 x.ve, .int .i64 x.ki, .int .i64 x.id, .int .i64 x.og, .int .i64 x.fr, .int .i64 x.dn, .int .i64 x.tg, .int .i64 x.ge, .int .i64 x.sp] 47)) w5.heap.size 47 x.cs) := Lib.hid (blk_new rfl)
      have HO6 := Lib.hid (own_chg21 HO5.out ((Chg.refl (fun _ => False) w5).alloc (.cells #[.int .i64 x.wh, .int .i64 x.ti, .int .i64 x.ch, .int .i64 x.po, .int .i64 x.ve, .int .i64 x.ki, .int .i64 x.id, .int .i64 x.og, .int .i64 x.fr, .int .i64 x.dn, .int .i64 x.tg, .int .i64 x.ge, .int .i64 x.sp] 47)))
      have HX6 := Lib.hid (HX5.out.alloc (.cells #[.int .i64 x.wh, .int .i64 x.ti, .int .i64 x.ch, .int .i64 x.po, .int .i64 x.ve, .int .i64 x.ki, .int .i64 x.id, .int .i64 x.og, .int .i64 x.fr, .int .i64 x.dn, .int .i64 x.tg, .int .i64 x.ge, .int .i64 x.sp] 47))
      go_wp2_with (at_builtin; refine wpList_one21 w _ rfl (.tmp 11) (.tmp 17) 29 rfl w.heap.size 47 _ 13 104 Try.underlying29 infoRE21 rfl (by decide) A j d (evF (l.take j)) rfl HO6.out w5.heap.size _ 47 x.cs rfl HB5.out rfl (ev_one21 x) (by have := HM.out; omega) (by decide) (Nat.le_refl _) HX6.out.size HX6.out ?_; intro A' d' w7 ho7 hx7)
      have HO7 := Lib.hid ho7
      have HX7 := Lib.hid hx7
      rw [← evF_take HJ.out] at HO7
      clear ho7 hx7
      go_roundg (m - (j + 1))
      case measure => omega
      case rel => exact ⟨j + 1, A', d', rfl, by omega, by go_num, rfl, HO7, HX7⟩
    · have : j = m := by omega
      subst this
      go_wp2_with fail
      go_ret
      have hl : l.take j = l := List.take_of_length_le (by have := HL.out; omega)
      have HO := HO.out
      rw [hl] at HO
      exact ⟨A, d, rfl, own_evr HO HL.out, HX0.out⟩

end Go.Proofs.Ytmfgbonlhoffaaa
