/-
  Walks: (*net.Net).Take, Double, At, each on nil too. Conditions: the net lies in memory, its room is at most 4096.
-/
import Derived.Test.YthajmplheecepaaSh
import Derived.Test.YthajmplheecepaaSi
namespace Go.Proofs.Ythajmplheecepaa
open Go.RowKit
set_option linter.unusedVariables false
set_option linter.unusedSimpArgs false
attribute [local go_sem] Oper.semAt_some

/-- What At hands back. -/
def AtP18 (b : Nat) (x : NV18) (i : Int) (w : World) (e : Ending) (w' : World) : Prop := ∃ k : IC18, e = .returned (.tuple #[.agg #[.int .i64 k.ki, .int .i64 k.ch, .slice k.A k.n k.c], .int .i64 (lackE x i)]) ∧ ItM w' b k (at18 x i) ∧ Chg (fun _ => False) w w'
/-- What Take hands back, and leaves. -/
def TakP18 (b p : Nat) (o : Option Nat) (x : NV18) (i : Int) (w : World) (e : Ending) (w' : World) : Prop := ∃ k : IC18, e = .returned (.tuple #[.agg #[.int .i64 k.ki, .int .i64 k.ch, .slice k.A k.n k.c], .int .i64 (lackE x i)]) ∧ ItM w' b k (at18 x i) ∧ ∃ o', NN w' b p o' (tak18 x i) ∧ Mvd p o o' w w'
def DblP18 (b p : Nat) (o : Option Nat) (x : NV18) (i : Int) (w : World) (e : Ending) (w' : World) : Prop := e = .returned (.int .i64 (dblE x i)) ∧ ∃ o', NN w' b p o' (dblS x i) ∧ Mvd p o o' w w'
theorem itm_zero (w : World) (b : Nat) : ItM w b ⟨0, 0, none, 0, 0⟩ ⟨0, 0, []⟩ := ⟨rfl, rfl, rfl, World.ownsRow_nil _ _ _ _⟩
/-- An item's cells, of a row. -/
theorem its_at {w : World} {b m c : Nat} {L : Option Addr} {l : List IC18} {ts : List IT18} (h : w.ownsRow b 40 3 (.slice L m c) m (icF l)) (hi : Its w b l ts) {j : Nat} {t : IT18} (ht : ts[j]? = some t) : ∃ (g : Nat) (k : IC18), L = some ⟨g, 0, none⟩ ∧ l[j]? = some k ∧ ItM w b k t ∧
    w.cell? ⟨g, j * 3, none⟩ = some (.int .i64 k.ki) ∧ w.cell? ⟨g, j * 3 + 1, none⟩ = some (.int .i64 k.ch) ∧ w.cell? ⟨g, j * 3 + 2, none⟩ = some (.slice k.A k.n k.c) := by
  have hl := hi.1
  have hj : j < ts.length := (List.getElem?_eq_some_iff.1 ht).1
  have hll : l.length = m := by have := h.1; rw [icF_len] at this; omega
  rcases h.2 with ⟨hv, rfl⟩ | ⟨g, cap, cur, hv, -⟩
  · omega
  · injection hv with hA hn hc
    subst hA
    have hx : l[j]? = some (l[j]'(by omega)) := List.getElem?_eq_getElem (by omega)
    refine ⟨g, l[j]'(by omega), rfl, hx, hi.2 j _ _ hx ht, ?_⟩
    have e : ∀ t, (⟨g, 0, none⟩ : Addr).add t = ⟨g, t, none⟩ := fun t => by unfold Addr.add; split <;> simp_all
    have q : ∀ t u, t < 3 → (l[j]'(by omega)).cs[t]? = some u → w.cell? ⟨g, j * 3 + t, none⟩ = some u := fun t u ht hu => by
      rw [← e]
      exact h.cells (g := g) rfl _ u (by rw [icF_at l j _ hx t ht, hu])
    exact ⟨q 0 _ (by omega) rfl, q 1 _ (by omega) rfl, q 2 _ (by omega) rfl⟩
theorem it_put {w : World} {r : Nat} (hb : Blk w r 40 #[.int .i64 0, .int .i64 0, .slice none 0 0]) (k : IC18) :
    Blk (((w.setCell ⟨r, 0, none⟩ (.int .i64 k.ki)).setCell ⟨r, 1, none⟩ (.int .i64 k.ch)).setCell ⟨r, 2, none⟩ (.slice k.A k.n k.c)) r 40 #[.int .i64 k.ki, .int .i64 k.ch, .slice k.A k.n k.c] ∧ Chg (fun j => j = r) w (((w.setCell ⟨r, 0, none⟩ (.int .i64 k.ki)).setCell ⟨r, 1, none⟩ (.int .i64 k.ch)).setCell ⟨r, 2, none⟩ (.slice k.A k.n k.c)) := by
  have h := ((hb.set 0 (.int .i64 k.ki)).set 1 (.int .i64 k.ch)).set 2 (.slice k.A k.n k.c)
  simp only [List.setIfInBounds_toArray, List.set_cons_zero, List.set_cons_succ] at h
  exact ⟨h, (((Chg.refl (fun j => j = r) w).put r 0 (fun _ => rfl) _).put r 1 (fun _ => rfl) _).put r 2 (fun _ => rfl) _⟩
/-- A box of an item holds no bytes. -/
theorem Blk.nobyte {w : World} {g : Nat} {T : TypeId} {cs : Array Value} (h : Blk w g T cs) (hT : T ≠ 5) : ∀ k cs fr, w.heap[k]? = some (.cells cs 5 fr) → ¬ k = g := fun k cs fr hk e => by
  subst e
  unfold Blk at h
  rw [h] at hk
  injection hk with hk
  injection hk with _ hk
  exact hT hk
theorem at18_ok {x : NV18} {j : Nat} {t : IT18} (ht : x.l[j]? = some t) : at18 x (j : Int) = t := by
  have h : j < x.l.length := (List.getElem?_eq_some_iff.1 ht).1
  unfold at18
  rw [if_pos (by omega), Int.toNat_natCast, ht]
  rfl
theorem at18_no {x : NV18} {i : Int} (h : ¬ (0 ≤ i ∧ i < (x.l.length : Int))) : at18 x i = ⟨0, 0, []⟩ := if_neg h
set_option maxRecDepth 100000 in
set_option maxHeartbeats 4000000 in
theorem nat18 {w : World} {b p : Nat} {o : Option Nat} {x : NV18} (h : NN w b p o x) (i : Int) : Calls Try.prog 11 #[.pointer (some ⟨p, 0, none⟩), .int .i64 i] w (AtP18 b x i w) := by
  have HX0 := Lib.hid ((Chg.refl (fun _ => False) w).alloc (.cells #[.int .i64 0, .int .i64 0, .slice none 0 0] 40))
  have HZ0 : Hid (Blk (w.alloc (.cells #[.int .i64 0, .int .i64 0, .slice none 0 0] 40)) w.heap.size 40 #[.int .i64 0, .int .i64 0, .slice none 0 0]) := Lib.hid (blk_new rfl)
  have HLT := Lib.hid h.lt
  have HN := Lib.hid (h.new HX0.out)
  have HQ := Lib.hid (show b ≤ w.heap.size from by have := h.lt.1; omega)
  clear h
  unfold AtP18
  by_cases hi : 0 ≤ i ∧ i < (x.l.length : Int)
  case neg =>
    rw [lackE, if_neg hi]
    have HLK := Lib.hid (lacks18 HN.out i)
    rw [lackE, if_neg hi] at HLK
    have HA := Lib.hid (at18_no hi)
    clear hi
    go_enter Try.func11, Try.ntmps11
    go_upto_region 1 with fail
    generalize w.alloc (.cells #[.int .i64 0, .int .i64 0, .slice none 0 0] 40) = w1 at *
    generalize hQ0 : w.heap.size = Q0 at *
    replace HQ := Lib.hid (And.intro (Nat.le_of_eq hQ0) HQ.out)
    clear hQ0
    go_wp2_with fail
    refine HLK.out.mono ?_
    rintro e _ ⟨rfl, rfl⟩
    obtain ⟨hbr, hcs⟩ := it_put HZ0.out ⟨0, 0, none, 0, 0⟩
    have HBR := Lib.hid hbr
    have HCS := Lib.hid hcs
    clear hbr hcs
    obtain ⟨x0, x1, x2⟩ := it_cells HZ0.out
    have g0 := HZ0.out.frozen 0
    have g1 := HZ0.out.frozen 1
    have g2 := HZ0.out.frozen 2
    go_wp2_with fail
    obtain ⟨r0, r1, r2⟩ := it_cells HBR.out
    refine bodyPost_ret (v := .tuple #[.agg #[.int .i64 0, .int .i64 0, .slice none 0 0], .int .i64 4]) (by simp [results, Try.results11, go_sem, r0, r1, r2]) rfl ?_
    refine ⟨⟨0, 0, none, 0, 0⟩, rfl, ?_, fresh_set HX0.out HCS.out HQ.out.1⟩
    rw [HA.out]
    exact itm_zero _ _
  obtain ⟨j, rfl⟩ : ∃ j : Nat, i = (j : Int) := ⟨i.toNat, by omega⟩
  have hjl : j < x.l.length := by omega
  rw [lackE, if_pos hi]
  have HLK := Lib.hid (lacks18 HN.out (j : Int))
  rw [lackE, if_pos hi] at HLK
  obtain ⟨tt, htt⟩ : ∃ tt, x.l[j]? = some tt := ⟨_, List.getElem?_eq_getElem hjl⟩
  have HA := Lib.hid (at18_ok htt)
  have HTT := Lib.hid htt
  clear hi htt
  go_enter Try.func11, Try.ntmps11
  go_upto_region 1 with fail
  generalize w.alloc (.cells #[.int .i64 0, .int .i64 0, .slice none 0 0] 40) = w1 at *
  generalize hQ0 : w.heap.size = Q0 at *
  replace HQ := Lib.hid (And.intro (Nat.le_of_eq hQ0) HQ.out)
  clear hQ0
  go_wp2_with fail
  refine HLK.out.mono ?_
  rintro e _ ⟨rfl, rfl⟩
  obtain ⟨L, m, lc, l, hb, ho, hn, -, hits, -, hsh⟩ := HN.out
  obtain ⟨g, k, rfl, -, hit, z0, z1, z2⟩ := its_at ho hits HTT.out
  obtain ⟨-, c1, -, -, -⟩ := nn_cells hb
  have HAN := Lib.hid (another18 k.ki k.ch k.A k.n k.c _ _ w1 hit.2.2.1 hit.rds hit.nil (by have := hsh _ (List.mem_of_getElem? HTT.out); have := hit.2.2.1; omega))
  have HKI := Lib.hid (And.intro hit.1 (And.intro hit.2.1 hit.2.2.1))
  have hjm : j < m := by omega
  have hcap := own_cap ho
  unfold maxLen at hcap
  clear hb ho hits hit hsh hn hjl HN
  go_wp2_with fail
  refine HAN.out.mono ?_
  rintro e w2 ⟨E, d, rfl, hown, hc⟩
  have HZ2 := Lib.hid (HZ0.out.chg hc id)
  have HX2 := Lib.hid (HX0.out.trans hc (fun _ _ e => e))
  have HO := Lib.hid (own_base hown (Nat.le_trans HQ.out.2 (Nat.le_of_lt HZ0.out.lt)))
  clear hc hown c1 z0 z1 z2
  obtain ⟨hbr, hcs⟩ := it_put HZ2.out ⟨k.ki, k.ch, E, k.n, d⟩
  have HBR := Lib.hid hbr
  have HCS := Lib.hid hcs
  clear hbr hcs
  obtain ⟨x0, x1, x2⟩ := it_cells HZ2.out
  have g0 := HZ2.out.frozen 0
  have g1 := HZ2.out.frozen 1
  have g2 := HZ2.out.frozen 2
  go_wp2_with fail
  obtain ⟨r0, r1, r2⟩ := it_cells HBR.out
  refine bodyPost_ret (v := .tuple #[.agg #[.int .i64 k.ki, .int .i64 k.ch, .slice E k.n d], .int .i64 0]) (by simp [results, Try.results11, go_sem, r0, r1, r2]) rfl ?_
  refine ⟨⟨k.ki, k.ch, E, k.n, d⟩, rfl, ?_, fresh_set HX2.out HCS.out HQ.out.1⟩
  rw [HA.out]
  exact ItM.chg (c := ⟨k.ki, k.ch, E, k.n, d⟩) ⟨HKI.out.1, HKI.out.2.1, HKI.out.2.2, HO.out⟩ HCS.out (HZ2.out.nobyte (by decide))
set_option maxRecDepth 100000 in
set_option maxHeartbeats 800000 in
theorem nat18_nil (i : Int) (w : World) : Calls Try.prog 11 #[.pointer none, .int .i64 i] w fun e w' => e = .returned (.tuple #[.agg #[.int .i64 0, .int .i64 0, .slice none 0 0], .int .i64 1]) ∧ Chg (fun _ => False) w w' := by
  have HX0 := Lib.hid ((Chg.refl (fun _ => False) w).alloc (.cells #[.int .i64 0, .int .i64 0, .slice none 0 0] 40))
  have HZ0 : Hid (Blk (w.alloc (.cells #[.int .i64 0, .int .i64 0, .slice none 0 0] 40)) w.heap.size 40 #[.int .i64 0, .int .i64 0, .slice none 0 0]) := Lib.hid (blk_new rfl)
  have HQ := Lib.hid True.intro
  have HLK := Lib.hid (lacks18_nil i)
  go_enter Try.func11, Try.ntmps11
  go_upto_region 1 with fail
  generalize w.alloc (.cells #[.int .i64 0, .int .i64 0, .slice none 0 0] 40) = w1 at *
  generalize hQ0 : w.heap.size = Q0 at *
  replace HQ := Lib.hid (And.intro (Nat.le_of_eq hQ0) HQ.out)
  clear hQ0
  go_wp2_with fail
  refine (HLK.out _).mono ?_
  rintro e _ ⟨rfl, rfl⟩
  obtain ⟨hbr, hcs⟩ := it_put HZ0.out ⟨0, 0, none, 0, 0⟩
  have HBR := Lib.hid hbr
  have HCS := Lib.hid hcs
  clear hbr hcs
  obtain ⟨x0, x1, x2⟩ := it_cells HZ0.out
  have g0 := HZ0.out.frozen 0
  have g1 := HZ0.out.frozen 1
  have g2 := HZ0.out.frozen 2
  go_wp2_with fail
  obtain ⟨r0, r1, r2⟩ := it_cells HBR.out
  refine bodyPost_ret (v := .tuple #[.agg #[.int .i64 0, .int .i64 0, .slice none 0 0], .int .i64 1]) (by simp [results, Try.results11, go_sem, r0, r1, r2]) rfl ?_
  exact ⟨rfl, fresh_set HX0.out HCS.out HQ.out.1⟩
set_option maxRecDepth 100000 in
set_option maxHeartbeats 800000 in
theorem ntake18_nil (i : Int) (w : World) : Calls Try.prog 12 #[.pointer none, .int .i64 i] w fun e w' => e = .returned (.tuple #[.agg #[.int .i64 0, .int .i64 0, .slice none 0 0], .int .i64 1]) ∧ Chg (fun _ => False) w w' := by
  have HX0 := Lib.hid ((Chg.refl (fun _ => False) w).alloc (.cells #[.int .i64 0, .int .i64 0, .slice none 0 0] 40))
  have HZ0 : Hid (Blk (w.alloc (.cells #[.int .i64 0, .int .i64 0, .slice none 0 0] 40)) w.heap.size 40 #[.int .i64 0, .int .i64 0, .slice none 0 0]) := Lib.hid (blk_new rfl)
  have HQ := Lib.hid True.intro
  have HLK := Lib.hid (lacks18_nil i)
  go_enter Try.func12, Try.ntmps12
  go_upto_region 1 with fail
  generalize w.alloc (.cells #[.int .i64 0, .int .i64 0, .slice none 0 0] 40) = w1 at *
  generalize hQ0 : w.heap.size = Q0 at *
  replace HQ := Lib.hid (And.intro (Nat.le_of_eq hQ0) HQ.out)
  clear hQ0
  go_wp2_with fail
  refine (HLK.out _).mono ?_
  rintro e _ ⟨rfl, rfl⟩
  obtain ⟨hbr, hcs⟩ := it_put HZ0.out ⟨0, 0, none, 0, 0⟩
  have HBR := Lib.hid hbr
  have HCS := Lib.hid hcs
  clear hbr hcs
  obtain ⟨x0, x1, x2⟩ := it_cells HZ0.out
  have g0 := HZ0.out.frozen 0
  have g1 := HZ0.out.frozen 1
  have g2 := HZ0.out.frozen 2
  go_wp2_with fail
  obtain ⟨r0, r1, r2⟩ := it_cells HBR.out
  refine bodyPost_ret (v := .tuple #[.agg #[.int .i64 0, .int .i64 0, .slice none 0 0], .int .i64 1]) (by simp [results, Try.results12, go_sem, r0, r1, r2]) rfl ?_
  exact ⟨rfl, fresh_set HX0.out HCS.out HQ.out.1⟩
theorem NN.gone {w w' : World} {b p g m c j : Nat} {x : NV18} {l : List IC18} (hb : Blk w p 60 #[.int .i64 x.room, .slice (some ⟨g, 0, none⟩) m c, .int .i64 x.lost]) (ho : w.ownsRow b 40 3 (.slice (some ⟨g, 0, none⟩) m c) m (icF l)) (hn : m = x.l.length) (hi : Its w b l x.l) (hbp : b ≤ p ∧ ∀ t ∈ x.l, t.bs.length ≤ 2000) (hj : j < m)
    (ho2 : w'.ownsRow b 40 3 (.slice (some ⟨g, 0, none⟩) (m - 1) c) (m - 1) (icF (l.take j ++ l.drop (j + 1)))) (hc : Chg (fun k => some g = some k) w w') :
    (NN (w'.setCell ⟨p, 1, none⟩ (.slice (some ⟨g, 0, none⟩) (m - 1) c)) b p (some g) ⟨x.room, x.lost, x.l.take j ++ x.l.drop (j + 1)⟩ ∧ Mvd p (some g) (some g) w (w'.setCell ⟨p, 1, none⟩ (.slice (some ⟨g, 0, none⟩) (m - 1) c))) ∧ Blk w' p 60 #[.int .i64 x.room, .slice (some ⟨g, 0, none⟩) m c, .int .i64 x.lost] ∧
      (∀ k t, ItM w b k t → ItM (w'.setCell ⟨p, 1, none⟩ (.slice (some ⟨g, 0, none⟩) (m - 1) c)) b k t) := by
  have hop := (show NN w b p (some g) x from ⟨_, m, c, l, hb, ho, hn, rfl, hi, hbp⟩).op
  have hb2 := hb.chg hc hop
  have hset : Chg (fun j => j = p) w' (w'.setCell ⟨p, 1, none⟩ (.slice (some ⟨g, 0, none⟩) (m - 1) c)) := (Chg.refl (fun j => j = p) w').put p 1 (fun _ => rfl) _
  have hll : l.length = m := by have := ho.1; rw [icF_len] at this; omega
  have hty : ∀ k cs fr, w.heap[k]? = some (.cells cs 5 fr) → ¬ (some g = some k) := fun k cs fr hk e => by
    obtain ⟨cs', hh⟩ := own_ty18 (k := k) ho e
    rw [hk] at hh
    injection hh with hh
    injection hh with _ hh
    exact absurd hh (by decide)
  have hnb := hb2.nobyte (by decide)
  have hb6 := hb2.set 1 (.slice (some ⟨g, 0, none⟩) (m - 1) c)
  simp only [List.setIfInBounds_toArray, List.set_cons_zero, List.set_cons_succ] at hb6
  refine ⟨⟨⟨_, m - 1, c, l.take j ++ l.drop (j + 1), hb6, own_chg ho2 hset (fun k hk e => ?_), ?_, rfl, ((hi.del j (by omega)).chg hc hty).chg hset hnb, hbp.1, ?_⟩, ?_, .inl rfl⟩, hb2, fun k t hk => (hk.chg hc hty).chg hset hnb⟩
  · subst e
    exact hop hk
  · simp
    omega
  · intro t ht
    rcases List.mem_append.1 ht with h | h
    · exact hbp.2 t (List.mem_of_mem_take h)
    · exact hbp.2 t (List.mem_of_mem_drop h)
  · exact (hc.mono (S' := fun k => k = p ∨ some g = some k) (fun _ _ e => .inr e)).put p 1 (fun _ => .inl rfl) _
theorem tak18_ok {x : NV18} {j : Nat} (h : j < x.l.length) : tak18 x (j : Int) = ⟨x.room, x.lost, x.l.take j ++ x.l.drop (j + 1)⟩ := by
  unfold tak18
  rw [if_pos (by omega), Int.toNat_natCast]
theorem tak18_no {x : NV18} {i : Int} (h : ¬ (0 ≤ i ∧ i < (x.l.length : Int))) : tak18 x i = x := if_neg h
set_option maxRecDepth 100000 in
set_option maxHeartbeats 4000000 in
theorem ntake18 {w : World} {b p : Nat} {o : Option Nat} {x : NV18} (h : NN w b p o x) (i : Int) : Calls Try.prog 12 #[.pointer (some ⟨p, 0, none⟩), .int .i64 i] w (TakP18 b p o x i w) := by
  have HX0 := Lib.hid ((Chg.refl (fun _ => False) w).alloc (.cells #[.int .i64 0, .int .i64 0, .slice none 0 0] 40))
  have HZ0 : Hid (Blk (w.alloc (.cells #[.int .i64 0, .int .i64 0, .slice none 0 0] 40)) w.heap.size 40 #[.int .i64 0, .int .i64 0, .slice none 0 0]) := Lib.hid (blk_new rfl)
  have HLT := Lib.hid h.lt
  have HN := Lib.hid (h.new HX0.out)
  have HQ := Lib.hid (show b ≤ w.heap.size from by have := h.lt.1; omega)
  clear h
  have HT : Hid (¬ (0 ≤ i ∧ i < (x.l.length : Int)) → tak18 x i = x) := Lib.hid tak18_no
  unfold TakP18
  by_cases hi : 0 ≤ i ∧ i < (x.l.length : Int)
  case neg =>
    replace HT := Lib.hid (HT.out hi)
    rw [lackE, if_neg hi]
    have HLK := Lib.hid (lacks18 HN.out i)
    rw [lackE, if_neg hi] at HLK
    have HA := Lib.hid (at18_no hi)
    clear hi
    go_enter Try.func12, Try.ntmps12
    go_upto_region 1 with fail
    generalize w.alloc (.cells #[.int .i64 0, .int .i64 0, .slice none 0 0] 40) = w1 at *
    generalize hQ0 : w.heap.size = Q0 at *
    replace HQ := Lib.hid (And.intro (Nat.le_of_eq hQ0) HQ.out)
    clear hQ0
    go_wp2_with fail
    refine HLK.out.mono ?_
    rintro e _ ⟨rfl, rfl⟩
    obtain ⟨hbr, hcs⟩ := it_put HZ0.out ⟨0, 0, none, 0, 0⟩
    have HBR := Lib.hid hbr
    have HCS := Lib.hid hcs
    clear hbr hcs
    obtain ⟨x0, x1, x2⟩ := it_cells HZ0.out
    have g0 := HZ0.out.frozen 0
    have g1 := HZ0.out.frozen 1
    have g2 := HZ0.out.frozen 2
    go_wp2_with fail
    obtain ⟨r0, r1, r2⟩ := it_cells HBR.out
    refine bodyPost_ret (v := .tuple #[.agg #[.int .i64 0, .int .i64 0, .slice none 0 0], .int .i64 4]) (by simp [results, Try.results12, go_sem, r0, r1, r2]) rfl ?_
    refine ⟨⟨0, 0, none, 0, 0⟩, rfl, ?_, o, ?_, ?_⟩
    · rw [HA.out]
      exact itm_zero _ _
    · rw [HT.out]
      exact HN.out.chg HCS.out (fun e => by have := HLT.out.1; have := HQ.out; omega) (fun k hk e => by have := HLT.out.2 k hk; have := HQ.out; omega) (HZ0.out.nobyte (by decide))
    · exact ⟨(fresh_set HX0.out HCS.out HQ.out.1).mono (fun _ _ e => e.elim), .inl rfl⟩
  obtain ⟨j, rfl⟩ : ∃ j : Nat, i = (j : Int) := ⟨i.toNat, by omega⟩
  have hjl : j < x.l.length := by omega
  rw [lackE, if_pos hi]
  have HLK := Lib.hid (lacks18 HN.out (j : Int))
  rw [lackE, if_pos hi] at HLK
  obtain ⟨tt, htt⟩ : ∃ tt, x.l[j]? = some tt := ⟨_, List.getElem?_eq_getElem hjl⟩
  have HA := Lib.hid (at18_ok htt)
  have HTT := Lib.hid htt
  clear hi htt
  replace HT := Lib.hid (tak18_ok hjl)
  go_enter Try.func12, Try.ntmps12
  go_upto_region 1 with fail
  generalize w.alloc (.cells #[.int .i64 0, .int .i64 0, .slice none 0 0] 40) = w1 at *
  generalize hQ0 : w.heap.size = Q0 at *
  replace HLT := Lib.hid (show p < Q0 ∧ ∀ k, o = some k → k < Q0 from ⟨by have := HLT.out.1; omega, fun k hk => by have := HLT.out.2 k hk; omega⟩)
  replace HQ := Lib.hid (And.intro (Nat.le_of_eq hQ0) hQ0)
  clear hQ0
  go_wp2_with fail
  refine HLK.out.mono ?_
  rintro e _ ⟨rfl, rfl⟩
  obtain ⟨L, m, lc, l, hb, ho, hn, hoo, hits, hbp⟩ := HN.out
  obtain ⟨g, k, rfl, -, hit, z0, z1, z2⟩ := its_at ho hits HTT.out
  subst hoo
  obtain ⟨-, c1, -, -, -⟩ := nn_cells hb
  have hjm : j < m := by omega
  have hm1 := own_cap ho
  unfold maxLen at hm1
  have HB := Lib.hid hb
  have HO := Lib.hid ho
  have HI := Lib.hid hits
  have HIT := Lib.hid hit
  have HBP := Lib.hid hbp
  have HNM := Lib.hid hn
  clear hb ho hits hit hbp hn hjl HN
  go_upto_region 5 with fail
  have HX1 := Lib.hid ((Chg.refl (fun _ => False) w1).alloc (.cells #[.int .i64 k.ki, .int .i64 k.ch, .slice k.A k.n k.c] 40))
  have HBK : Hid (Blk (w1.alloc (.cells #[.int .i64 k.ki, .int .i64 k.ch, .slice k.A k.n k.c] 40)) w1.heap.size 40 #[.int .i64 k.ki, .int .i64 k.ch, .slice k.A k.n k.c]) := Lib.hid (blk_new rfl)
  have hQ1 := HZ0.out.lt
  replace HZ0 := Lib.hid (HZ0.out.alloc (.cells #[.int .i64 k.ki, .int .i64 k.ch, .slice k.A k.n k.c] 40))
  replace HB := Lib.hid (HB.out.alloc (.cells #[.int .i64 k.ki, .int .i64 k.ch, .slice k.A k.n k.c] 40))
  replace HO := Lib.hid (HO.out.alloc (.cells #[.int .i64 k.ki, .int .i64 k.ch, .slice k.A k.n k.c] 40))
  replace HI := Lib.hid (HI.out.chg HX1.out (fun _ _ _ _ => id))
  replace HIT := Lib.hid (HIT.out.chg HX1.out (fun _ _ _ _ => id))
  replace HX0 := Lib.hid (HX0.out.trans HX1.out (fun _ _ e => e))
  clear HX1
  generalize w1.alloc (.cells #[.int .i64 k.ki, .int .i64 k.ch, .slice k.A k.n k.c] 40) = w2 at *
  generalize w1.heap.size = Q1 at *
  have HQ1 := Lib.hid hQ1
  clear hQ1 c1 z0 z1 z2
  obtain ⟨-, c1, -, -, -⟩ := nn_cells HB.out
  have HD := Lib.hid (delete18 HO.out hjm)
  go_wp2_with fail
  refine HD.out.mono ?_
  rintro e w3 ⟨rfl, ho3, hc3⟩
  have hc3 : Chg (fun k => some g = some k) w2 w3 := hc3
  obtain ⟨hnn, hb3, hkp⟩ := NN.gone HB.out HO.out HNM.out HI.out HBP.out hjm ho3 hc3
  have HNN := Lib.hid hnn
  have HIT3 := Lib.hid (hkp _ _ HIT.out)
  have hgz := HLT.out.2 g rfl
  have hset : Chg (fun j => j = p) w3 (w3.setCell ⟨p, 1, none⟩ (.slice (some ⟨g, 0, none⟩) (m - 1) lc)) := (Chg.refl (fun j => j = p) w3).put p 1 (fun _ => rfl) _
  have HZ3 := Lib.hid ((HZ0.out.chg hc3 (fun e => by injection e with e; omega)).chg hset (fun e => by have := HLT.out.1; omega))
  have HBK3 := Lib.hid ((HBK.out.chg hc3 (fun e => by injection e with e; have := HQ1.out; omega)).chg hset (fun e => by have := HLT.out.1; have := HQ1.out; omega))
  have c13 := (nn_cells hb3).2.1
  have f13 := hb3.frozen 1
  clear hnn hkp hset ho3 hc3 hb3 c1 HZ0 HBK
  go_upto_region 6 with fail
  generalize w3.setCell ⟨p, 1, none⟩ (.slice (some ⟨g, 0, none⟩) (m - 1) lc) = w4 at *
  obtain ⟨hbr, hcs⟩ := it_put HZ3.out k
  have HBR := Lib.hid hbr
  have HCS := Lib.hid hcs
  clear hbr hcs c13 f13
  obtain ⟨y0, y1, y2⟩ := it_cells HBK3.out
  obtain ⟨x0, x1, x2⟩ := it_cells HZ3.out
  have g0 := HZ3.out.frozen 0
  have g1 := HZ3.out.frozen 1
  have g2 := HZ3.out.frozen 2
  go_wp2_with fail
  obtain ⟨r0, r1, r2⟩ := it_cells HBR.out
  refine bodyPost_ret (v := .tuple #[.agg #[.int .i64 k.ki, .int .i64 k.ch, .slice k.A k.n k.c], .int .i64 0]) (by simp [results, Try.results12, go_sem, r0, r1, r2]) rfl ?_
  refine ⟨k, rfl, ?_, some g, ?_, ?_⟩
  · rw [HA.out]
    exact HIT3.out.chg HCS.out (HZ3.out.nobyte (by decide))
  · rw [HT.out]
    exact HNN.out.1.chg HCS.out (fun e => by have := HLT.out.1; omega) (fun k hk e => by have := HLT.out.2 k hk; omega) (HZ3.out.nobyte (by decide))
  · have h1 := Mvd.pre HX0.out HNN.out.2
    exact ⟨h1.1.trans HCS.out (fun i hi e => by have := HQ.out.2; omega), h1.2⟩

end Go.Proofs.Ythajmplheecepaa
