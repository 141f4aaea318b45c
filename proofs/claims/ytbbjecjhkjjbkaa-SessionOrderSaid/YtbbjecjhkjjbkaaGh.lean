/-
  Walk: session.Session's acknowledge. Condition: the session lies in memory, its queue has at most 64 bodies, of at most 1000 bytes.
-/
import Derived.Test.YtbbjecjhkjjbkaaGg
import Derived.Test.YtbbjecjhkjjbkaaGe
namespace Go.Proofs.Ytbbjecjhkjjbkaa
open Go.RowKit
set_option linter.unusedVariables false
set_option linter.unusedSimpArgs false
attribute [local go_sem] Oper.semAt_some

/-- How many of m bodies, numbered from nx on, are acknowledged. -/
def ackK (nx ack : Int) (m : Nat) : Nat := min m (ack + 1 - nx).toNat
def ackS (x : SV) (ack : Int) : SV := { x with q := x.q.drop (ackK x.nx ack x.q.length), nx := x.nx + (ackK x.nx ack x.q.length : Int) }
def AckP (p : Nat) (o : Option Nat) (G : Nat → Prop) (x : SV) (ack : Int) (w : World) (e : Ending) (w' : World) : Prop :=
  e = .returned (.tuple #[]) ∧ SN w' p o G (ackS x ack) ∧ Chg (fun k => k = p ∨ o = some k) w w'
def IA11 (w : World) (m : Nat) (nx ack : Int) (pre : List (Fin m)) (W : World) : Prop :=
  (∀ i ∈ pre, nx + (i.1 : Int) ≤ ack) ∧ Blk W w.heap.size 3 #[.int .i64 ack] ∧ Blk W (w.heap.size + 1) 3 #[.int .i64 (pre.length : Int)]
def IAX11 (w : World) (m : Nat) (nx ack : Int) (cd : Code) (pre : List (Fin m)) (W : World) : Prop :=
  cd = .exit 0 ∧ ∃ pre' i, pre = pre' ++ [i] ∧ ack < nx + (i.1 : Int) ∧ IA11 w m nx ack pre' W
theorem ia11_abd {w : World} {m : Nat} {nx ack : Int} {pre : List (Fin m)} {W W' : World} (h : IA11 w m nx ack pre W) (ha : Abd W W') : IA11 w m nx ack pre W' := ⟨h.1, h.2.1.abd ha, h.2.2.abd ha⟩
theorem iax11_abd {w : World} {m : Nat} {nx ack : Int} {cd : Code} {pre : List (Fin m)} {W W' : World} (h : IAX11 w m nx ack cd pre W) (ha : Abd W W') : IAX11 w m nx ack cd pre W' := by
  obtain ⟨h1, pre', i, h2, h3, h4⟩ := h
  exact ⟨h1, pre', i, h2, h3, ia11_abd h4 ha⟩
theorem ack_all {m : Nat} {nx ack : Int} (h : ∀ i ∈ List.finRange m, nx + (i.1 : Int) ≤ ack) : ackK nx ack m = m := by
  unfold ackK
  rcases Nat.eq_zero_or_pos m with h0 | h0
  · subst h0; simp
  · have := h ⟨m - 1, by omega⟩ (by simp)
    simp only at this
    omega
theorem ack_some {m : Nat} {nx ack : Int} {pre : List (Fin m)} {i : Fin m} (hp : pre ++ [i] <+: List.finRange m) (h : ∀ j ∈ pre, nx + (j.1 : Int) ≤ ack) (hi : ack < nx + (i.1 : Int)) : ackK nx ack m = pre.length := by
  have hl := hp.length_le
  simp only [List.length_append, List.length_cons, List.length_nil, List.length_finRange] at hl
  have hat : ∀ (j : Nat) (hj : j < pre.length + 1), (pre ++ [i])[j]'(by simpa using hj) = ⟨j, by omega⟩ := fun j hj => by
    have h1 := hp.getElem (i := j) (by simpa using hj)
    rw [h1]
    simp
  have h1 : i.1 = pre.length := by
    have h2 := hat pre.length (by omega)
    simp at h2
    rw [h2]
  unfold ackK
  rcases Nat.eq_zero_or_pos pre.length with h0 | h0
  · omega
  · have h2 := hat (pre.length - 1) (by omega)
    rw [List.getElem_append_left (by omega)] at h2
    have h3 := h _ (List.getElem_mem (l := pre) (n := pre.length - 1) (by omega))
    rw [h2] at h3
    simp only at h3
    omega
theorem bq_one {w : World} {S : Nat → Prop} {vs : List Value} {ls : List (List UInt8)} (h : BQ w S vs ls) : ∀ u ∈ vs, u.oneCell' = true := fun u hu => by
  obtain ⟨i, hi, rfl⟩ := List.getElem_of_mem hu
  have h1 := h.1
  obtain ⟨A, c, h2, _⟩ := h.2 i ls[i] (List.getElem?_eq_getElem (by omega))
  rw [List.getElem?_eq_getElem hi] at h2
  injection h2 with h2
  rw [h2]
  rfl

theorem ack_cells {W : World} {p : Nat} {o : Option Nat} {T : TypeId} {cs : Array Value} (hp : Blk W p T cs) (ho : ∀ (k : Nat) (o' : Obj), o = some k → W.heap[k]? = some o' → o'.isCells = true) {k : Nat} {o' : Obj} (hk : W.heap[k]? = some o') (e : k = p ∨ o = some k) : o'.isCells = true := by
  rcases e with rfl | e
  · rw [show W.heap[k]? = _ from hp] at hk
    injection hk with hk
    subst hk
    rfl
  · exact ho k o' e hk
theorem BQ.abd {w w' : World} {S : Nat → Prop} {vs : List Value} {ls : List (List UInt8)} (h : BQ w S vs ls) (ha : Abd w w') : BQ w' S vs ls :=
  ⟨h.1, fun i l hl => by obtain ⟨A, c, h1, h0, h2⟩ := h.2 i l hl; exact ⟨A, c, h1, h0, h2.abd ha⟩⟩
theorem SN.abd {w w' : World} {p : Nat} {o : Option Nat} {G : Nat → Prop} {x : SV} (h : SN w p o G x) (ha : Abd w w') : SN w' p o G x := by
  obtain ⟨A, c, vs, hb, hown, h1, h2, h3, h4, h5⟩ := h
  exact ⟨A, c, vs, hb.abd ha, own_abd hown ha, h1, h2, h3.abd ha, h4, h5⟩
theorem SN.drew {w : World} {p : Nat} {o : Option Nat} {G : Nat → Prop} {x : SV} (h : SN w p o G x) : SN w.drew p o G x := h
set_option maxRecDepth 100000 in
set_option maxHeartbeats 4000000 in
theorem sack_any (p : Nat) (o : Option Nat) (G : Nat → Prop) (x : SV) (ack : Int) (w : World) (h : SN w p o G x) (hok : SOk x) : Calls Try.prog 44 #[.pointer (some ⟨p, 0, none⟩), .int .i64 ack] w (AckP p o G x ack w) := by
  have HSN := Lib.hid h
  have HOK := Lib.hid hok
  have hgp : ¬ G p := by obtain ⟨_, _, _, _, _, _, _, _, h1, _⟩ := h; exact h1
  have hgo : ∀ k, o = some k → ¬ G k := by obtain ⟨_, _, _, _, _, _, _, _, _, h1⟩ := h; exact h1
  obtain ⟨A, c, vs, hb, hown, ho, hne, hbq, hG1, hG2⟩ := h.old
  have hplt := hb.lt
  have hcel := sn_cells hb
  have hrow := own_rds2 hown
  have hnx := hok.nx0
  have hq64 := hok.len
  generalize hm : x.q.length = m at *
  have HM := Lib.hid hm
  have HBQ := Lib.hid hbq
  obtain ⟨mi, pe, nx, go, q⟩ := x
  simp only at hcel hnx hm HM hq64
  obtain ⟨z0, z1, z2, z3, z4⟩ := hcel
  have hb0 : Blk ((w.alloc (.cells #[.int .i64 ack] 3)).alloc (.cells #[.int .i64 0] 3)) w.heap.size 3 #[.int .i64 ack] := (blk_new rfl).alloc _
  have hb1 : Blk ((w.alloc (.cells #[.int .i64 ack] 3)).alloc (.cells #[.int .i64 0] 3)) (w.heap.size + 1) 3 #[.int .i64 0] := blk_new (by simp)
  have hB2 : Below w.heap.size w ((w.alloc (.cells #[.int .i64 ack] 3)).alloc (.cells #[.int .i64 0] 3)) := ((Below.refl _ w).alloc (Nat.le_refl _) _).alloc (by simp) _
  have HIT := Lib.hid (fun W (hW : Below w.heap.size ((w.alloc (.cells #[.int .i64 ack] 3)).alloc (.cells #[.int .i64 0] 3)) W) => numbered_iter 2 p w.heap.size m c A nx vs W hq64 hnx hplt (((hB2.trans hW).cell (p := ⟨p, 2, none⟩) hplt).trans z2) (((hB2.trans hW).cell (p := ⟨p, 3, none⟩) hplt).trans z3) ((hrow.chg (below_chg (hB2.trans hW) (S := fun k => w.heap.size ≤ k) (fun _ h => h)) (fun k hk => by have := hk.2; omega)).mono (fun k hk => hk.2)))
  have HB0 := Lib.hid hb0
  have HB1 := Lib.hid hb1
  have HB2 := Lib.hid hB2
  have HSZ2 := Lib.hid (show w.heap.size ≤ ((w.alloc (.cells #[.int .i64 ack] 3)).alloc (.cells #[.int .i64 0] 3)).heap.size from by simp; omega)
  have HPLT := Lib.hid hplt
  clear hb hown hbq hrow hb0 hb1 hB2 z0 z1 z2 z3 z4 hm
  refine (callsIn_wide (n := 3)).1 ?_
  refine callsIn_of_wp_marks Try.func44 rfl trivial ?_ rfl
  simp only [Try.ntmps44, List.size_toArray, List.length_cons, List.length_nil, Nat.reduceAdd, Nat.reduceSub, Array.replicate_succ, Array.replicate_zero, List.push_toArray, List.append_toArray, List.nil_append, List.cons_append]
  gi_wp2
  refine loop11 (gf := 46) (first := #[.pointer (some ⟨p, 0, none⟩)]) rfl (enters_of Try.func46 (by kernel_rfl) rfl) (encs := fun i : Fin m => #[.int .i64 (nx + (i.1 : Int)), vs[i.1]?.getD undef]) (xs := List.finRange m) w.heap.size HSZ2.out HIT.out (fun _ => rfl)
    (IA11 w m nx ack) (IAX11 w m nx ack) (fun _ _ _ => ia11_abd) (fun _ _ _ _ => iax11_abd) ⟨by simp, HB0.out, HB1.out⟩ (fun i => { tmps := #[.pointer (some ⟨p, 0, none⟩), .int .i64 ack, undef, .pointer (some ⟨w.heap.size, 0, none⟩), .pointer (some ⟨w.heap.size + 1, 0, none⟩), .int .i64 (nx + (i.1 : Int)), .pointer (some ⟨p, 0, none⟩), .func (.func 46) #[.pointer (some ⟨p, 0, none⟩)] #[], .int .i64 (nx + (i.1 : Int)), vs[i.1]?.getD undef, undef, undef, undef, undef, undef, undef, undef, undef, undef, undef, undef, undef, undef, undef, undef, undef, undef, undef, undef, undef, undef, undef], defers := [] }) ?assign ?body ?done ?stop
  case assign =>
    intro l i W K hK
    gi_wp2
    exact hK
  case body =>
    rintro l pre i W hpl hBW ⟨hall, hb0, hb1⟩
    have hc0 := hb0.cell 0
    have hc1 := hb1.cell 0
    simp only [List.getElem?_toArray, List.getElem?_cons_zero] at hc0 hc1
    have hf1 := hb1.frozen 0
    have hlen : (pre.length : Int) ≤ 9223372036854775806 := by simp at hpl; omega
    by_cases hgt : ack < nx + (i.1 : Int)
    · gi_wp2
      exact ⟨KeepsFrom.refl _ _, Below.refl _ _, rfl, pre, i, rfl, hgt, hall, hb0, hb1⟩
    · have hw1 : IntKind.i64.wrap ((pre.length : Int) + 1) = (pre.length : Int) + 1 := IntWalk.i64_in _ (by omega)
      gi_wp2
      have hcs := (Chg.refl (fun k => k = w.heap.size + 1) W).put (w.heap.size + 1) 0 (fun _ => rfl) (.int .i64 ((pre.length : Int) + 1))
      refine ⟨hcs.keepsFrom _ (fun k o hk e => ?_), chg_below (hcs.mono (fun k _ e => by omega)) (Nat.le_trans (by simp; omega) hBW.size), ?_, hb0.chg hcs (by omega), ?_⟩
      · subst e
        rw [show W.heap[w.heap.size + 1]? = _ from hb1] at hk
        injection hk with hk
        subst hk
        rfl
      · intro j hj
        rcases List.mem_append.1 hj with hj | hj
        · exact hall j hj
        · rw [List.mem_singleton] at hj
          subst hj
          omega
      · have h := hb1.set 0 (.int .i64 ((pre.length : Int) + 1))
        simp only [List.length_append, List.length_cons, List.length_nil]
        exact h
  case done =>
    rintro D W hD hBW ⟨hall, hb0, hb1⟩ hK
    have hk := ack_all hall
    rw [List.length_finRange] at hb1
    obtain ⟨k, hkk⟩ : ∃ k : Nat, m = k := ⟨m, rfl⟩
    have hkm : k ≤ m := by omega
    rw [show (m : Int) = (k : Int) from by omega] at hb1
    have HK := Lib.hid (hk.trans hkk)
    clear hall hk hkk
    have HBW := Lib.hid (HB2.out.trans hBW)
    have HKD := Lib.hid hK
    have HD := Lib.hid (show w.heap.size ≤ D from Nat.le_trans HSZ2.out hD)
    obtain ⟨A2, c2, vs2, hbW, hownW, hoW, hneW, hbqW, -, -⟩ := HSN.out.below HBW.out
    rw [show (SV.mk mi pe nx go q).q.length = m from HM.out] at hbW hownW
    obtain ⟨y0, y1, y2, y3, y4⟩ := sn_cells hbW
    have hB1 := hb1
    have t1 := hb1.cell 0
    simp only [List.getElem?_toArray, List.getElem?_cons_zero] at t1
    have HOA := Lib.hid (show ∀ (k : Nat) (o' : Obj), o = some k → W.heap[k]? = some o' → o'.isCells = true from fun k o' e hk => row_cells hownW (by rw [hoW]; exact e) hk)
    have HB1 := Lib.hid hb1
    have HPB := Lib.hid hbW
    have HOW := Lib.hid (And.intro hoW hneW)
    have HBQW := Lib.hid hbqW
    have HDE := Lib.hid (delete11 A2 m c2 k vs2 W.drew hownW hkm (bq_one hbqW))
    have HWS := Lib.hid HBW.out.size
    have hop : ∀ j, A2.map (·.block) = some j → j < w.heap.size := fun j hj => by
      have h1 := HSN.out.lt.2 j (by rw [← hoW]; exact hj)
      exact h1
    have HOP := Lib.hid hop
    have hnk : nx + (k : Int) ≤ 2000000000000000 := by omega
    clear hb0 hb1 hBW hK hD hB1 hbW hownW hoW hneW hbqW hop
    gi_wp2
    refine wpIn_wide.2 ?_
    refine wp_region_noPanic ?_
    refine wp_region_held_drew (S := (fun w' => w'.cell? ⟨w.heap.size + 1, 0, none⟩ = some (.int .i64 (k : Int)))) (by kernel_rfl) t1 (fun hHeld => ?_)
    refine wpAnyH_take (i := 0) (v := ?_) rfl (by kernel_rfl) (by kernel_rfl) (by kernel_rfl) (fun _ _ _ h => h) (Or.inl ⟨by rfl, ?_⟩) (by assumption) ?_
    rotate_left
    · intro w' hSw
      try dsimp only at hSw
      go_simp
      first | done | (with_reducible rfl)
    try simp only [List.getElem_toArray, List.getElem_cons_succ, List.getElem_cons_zero, Act.put, List.setIfInBounds_toArray, List.set_cons_zero, List.set_cons_succ]
    refine wpAnyH_take (i := 1) (v := ?_) rfl (by kernel_rfl) (by kernel_rfl) (by kernel_rfl) (fun _ _ _ h => h) (Or.inl ⟨by rfl, ?_⟩) (by assumption) ?_
    rotate_left
    · intro w' hSw
      try dsimp only at hSw
      go_simp
      first | done | (with_reducible rfl)
    try simp only [List.getElem_toArray, List.getElem_cons_succ, List.getElem_cons_zero, Act.put, List.setIfInBounds_toArray, List.set_cons_zero, List.set_cons_succ]
    refine wpAnyH_take (i := 2) (v := ?_) rfl (by kernel_rfl) (by kernel_rfl) (by kernel_rfl) (fun _ _ _ h => h) (Or.inl ⟨by rfl, ?_⟩) (by assumption) ?_
    rotate_left
    · intro w' hSw
      try dsimp only at hSw
      go_simp
      first | done | (with_reducible rfl)
    try simp only [List.getElem_toArray, List.getElem_cons_succ, List.getElem_cons_zero, Act.put, List.setIfInBounds_toArray, List.set_cons_zero, List.set_cons_succ]
    refine wpAnyH_take (i := 3) (v := ?_) rfl (by kernel_rfl) (by kernel_rfl) (by kernel_rfl) (fun _ _ _ h => h) (Or.inl ⟨by rfl, ?_⟩) (by assumption) ?_
    rotate_left
    · intro w' hSw
      try dsimp only at hSw
      go_simp
      first | done | (with_reducible rfl)
    try simp only [List.getElem_toArray, List.getElem_cons_succ, List.getElem_cons_zero, Act.put, List.setIfInBounds_toArray, List.set_cons_zero, List.set_cons_succ]
    refine wpAnyH_take (i := 5) (v := ?_) rfl (by kernel_rfl) (by kernel_rfl) (by kernel_rfl) (fun _ _ _ h => h) (Or.inl ⟨by rfl, ?_⟩) (by assumption) ?_
    rotate_left
    · intro w' hSw
      try dsimp only at hSw
      go_simp
      first | done | (with_reducible rfl)
    try simp only [List.getElem_toArray, List.getElem_cons_succ, List.getElem_cons_zero, Act.put, List.setIfInBounds_toArray, List.set_cons_zero, List.set_cons_succ]
    refine wpAnyH_ready (rs := [4]) (by kernel_rfl) (by simp) ?_
    refine AllReadyH.cons rfl (fun K hK => ?_) AllReadyH.nil
    go_simp
    refine hK.out _ _ t1 (fun hHeld => ?_)
    clear hK K
    try simp only [List.getElem_toArray, List.getElem_cons_succ, List.getElem_cons_zero, Act.put, List.setIfInBounds_toArray, List.set_cons_zero, List.set_cons_succ]
    refine wpAnyH_ready (rs := [6]) (by kernel_rfl) (by simp) ?_
    refine AllReadyH.cons rfl (fun K hK => ?_) AllReadyH.nil
    go_simp
    refine HDE.out.mono ?_
    rintro e w3 ⟨rfl, hown3, hc3⟩
    have hb3 := HB1.out.drew.chg hc3 (fun e => by have := HOP.out _ e; omega)
    have t3 := hb3.cell 0
    simp only [List.getElem?_toArray, List.getElem?_cons_zero] at t3
    have hp3 := HPB.out.drew.chg hc3 (fun e => HOW.out.2 (by rw [← HOW.out.1]; exact e))
    have x2 := (sn_cells hp3).2.2.1
    have g2 := hp3.frozen 2
    have HB3 := Lib.hid hb3
    have HP3 := Lib.hid hp3
    have HO3 := Lib.hid hown3
    have HC3 := Lib.hid hc3
    clear hb3 hp3 hown3 hc3 HDE
    go_wp2_with fail
    refine hK.out _ _ t3 (fun hHeld => ?_)
    clear hK K
    try simp only [List.getElem_toArray, List.getElem_cons_succ, List.getElem_cons_zero, Act.put, List.setIfInBounds_toArray, List.set_cons_zero, List.set_cons_succ]
    have hb4 := HB3.out.chg ((Chg.refl (fun j => j = p) w3).put p 2 (fun _ => rfl) (.slice A2 (m - k) c2)) (by omega)
    have t4 := hb4.cell 0
    simp only [List.getElem?_toArray, List.getElem?_cons_zero] at t4
    have HB4 := Lib.hid hb4
    clear hb4
    refine wpAnyH_take (i := 7) (v := ?_) rfl (by kernel_rfl) (by kernel_rfl) (by kernel_rfl) (fun _ _ _ h => h) (Or.inl ⟨by rfl, ?_⟩) t3 ?_
    rotate_left
    · intro w' hSw
      try dsimp only at hSw
      go_simp
      first | done | (with_reducible rfl)
    try simp only [List.getElem_toArray, List.getElem_cons_succ, List.getElem_cons_zero, Act.put, List.setIfInBounds_toArray, List.set_cons_zero, List.set_cons_succ]
    refine wpAnyH_take (i := 8) (v := ?_) rfl (by kernel_rfl) (by kernel_rfl) (by kernel_rfl) (fun _ _ _ h => h) (Or.inl ⟨by rfl, ?_⟩) t3 ?_
    rotate_left
    · intro w' hSw
      try dsimp only at hSw
      go_simp
      first | done | (with_reducible rfl)
    try simp only [List.getElem_toArray, List.getElem_cons_succ, List.getElem_cons_zero, Act.put, List.setIfInBounds_toArray, List.set_cons_zero, List.set_cons_succ]
    refine wpAnyH_ready (rs := [9]) (by kernel_rfl) (by simp) ?_
    refine AllReadyH.cons rfl (fun K hK => ?_) AllReadyH.nil
    go_simp
    refine hK.out _ _ t4 (fun hHeld => ?_)
    clear hK K
    try simp only [List.getElem_toArray, List.getElem_cons_succ, List.getElem_cons_zero, Act.put, List.setIfInBounds_toArray, List.set_cons_zero, List.set_cons_succ]
    refine wpAnyH_done (by kernel_rfl) ?_ _
    refine NoPanic.normal ?_
    have hp4 : Blk (w3.setCell ⟨p, 2, none⟩ (.slice A2 (m - k) c2)) p 92 (snC mi pe A2 (m - k) c2 nx go) := HP3.out.set 2 (.slice A2 (m - k) c2)
    have hcs := (Chg.refl (fun j => j = p) w3).put p 2 (fun _ => rfl) (.slice A2 (m - k) c2)
    have HP4 := Lib.hid hp4
    have HC4 := Lib.hid hcs
    clear hHeld t1 t3 t4 y0 y1 y2 y3 y4 x2 g2 hp4 hcs
    generalize w3.setCell ⟨p, 2, none⟩ (.slice A2 (m - k) c2) = w4 at *
    obtain ⟨y0, y1, y2, y3, y4⟩ := sn_cells HP4.out
    have g3 := HP4.out.frozen 3
    have t5 := HB4.out.cell 0
    simp only [List.getElem?_toArray, List.getElem?_cons_zero] at t5
    have hw1 : IntKind.i64.wrap (nx + (k : Int)) = nx + (k : Int) := IntWalk.i64_in _ (by omega)
    gi_wp2
    refine wpIn_wide.2 ?_
    go_region
    have hp5 : Blk (w4.setCell ⟨p, 3, none⟩ (.int .i64 (nx + (k : Int)))) p 92 (snC mi pe A2 (m - k) c2 (nx + (k : Int)) go) := HP4.out.set 3 (.int .i64 (nx + (k : Int)))
    have hcs := (Chg.refl (fun j => j = p) w4).put p 3 (fun _ => rfl) (.int .i64 (nx + (k : Int)))
    have HP5 := Lib.hid hp5
    have HC5 := Lib.hid hcs
    clear hp5 hcs y0 y1 y2 y3 y4 g3 t5
    generalize w4.setCell ⟨p, 3, none⟩ (.int .i64 (nx + (k : Int))) = w5 at *
    have HCA := Lib.hid (show Chg (fun j => j = p ∨ o = some j) W w5 from
      ((((Chg.refl _ W).drew.trans (HC3.out.mono (fun j _ e => .inr (by rw [← HOW.out.1]; exact e))) (fun _ _ e => e)).trans (HC4.out.mono (fun j _ e => .inl e)) (fun _ _ e => e)).trans (HC5.out.mono (fun j _ e => .inl e)) (fun _ _ e => e)))
    gi_wp2
    have hke := (KeepsFrom.trans (HCA.out.keepsFrom w.heap.size (fun k o hk e => ack_cells HPB.out HOA.out hk e)) (KeepsOthers.from (KeepsOthers.drew w5) w.heap.size)).same D _ HD.out HKD.out rfl
    refine ⟨by simp, .inl ⟨_, _, rfl, run_takeDeferred hke, ?_⟩⟩
    refine ⟨_, results_none rfl _ _ _, rfl, SN.abd ?_ (abd_put hke rfl), ?_⟩
    · have e1 : ackS ⟨mi, pe, nx, go, q⟩ ack = ⟨mi, pe, nx + (k : Int), go, q.drop k⟩ := by
        unfold ackS
        simp only [HM.out, HK.out]
      have e2 : (q.drop k).length = m - k := by rw [List.length_drop, HM.out]
      have hc35 : Chg (fun j => j = p) w3 w5.drew := (HC4.out.trans HC5.out (fun _ _ e => e)).drew
      rw [e1]
      refine ⟨A2, c2, vs2.drop k, ?_, ?_, HOW.out.1, HOW.out.2, ?_, hgp, hgo⟩
      · show Blk _ _ _ (snC mi pe A2 (q.drop k).length c2 (nx + (k : Int)) go)
        rw [e2]
        exact HP5.out
      · show World.ownsRow _ _ _ _ (.slice A2 (q.drop k).length c2) (q.drop k).length _
        rw [e2]
        exact own_chg HO3.out hc35 (fun j hj e => by subst e; exact HOW.out.2 (by rw [← HOW.out.1]; exact hj))
      · exact (((HBQW.out.drop k).chg HCA.out.drew (fun j hj e => by
          rcases e with e | e
          · subst e; exact hgp hj.1
          · exact hgo j e hj.1)).mono (fun j hj => hj.1))
    · have hb : Below w.heap.size w5.drew (w5.drew.putObj D (.deferred none)) := (Below.refl _ w5.drew).grown (grownBy_putObj' w5.drew D _) (Nat.le_trans HWS.out HCA.out.size) (fun k e => by cases e; exact HD.out)
      exact ((Chg.of_below HBW.out (Nat.le_refl _) _).trans HCA.out.drew (fun _ _ e => e)).trans (below_chg hb (S := fun j => w.heap.size ≤ j) (fun _ h => h)) (fun j hj e => by omega)
  case stop =>
    rintro D cd pre W hD hBW hpre ⟨rfl, pre', i, rfl, hgt, hall, hb0, hb1⟩ hK
    have hk := ack_some hpre hall hgt
    generalize pre'.length = k at *
    have hkm : k ≤ m := by unfold ackK at hk; omega
    have HK := Lib.hid hk
    clear hall hk hpre hgt
    have HBW := Lib.hid (HB2.out.trans hBW)
    have HKD := Lib.hid hK
    have HD := Lib.hid (show w.heap.size ≤ D from Nat.le_trans HSZ2.out hD)
    obtain ⟨A2, c2, vs2, hbW, hownW, hoW, hneW, hbqW, -, -⟩ := HSN.out.below HBW.out
    rw [show (SV.mk mi pe nx go q).q.length = m from HM.out] at hbW hownW
    obtain ⟨y0, y1, y2, y3, y4⟩ := sn_cells hbW
    have hB1 := hb1
    have t1 := hb1.cell 0
    simp only [List.getElem?_toArray, List.getElem?_cons_zero] at t1
    have HOA := Lib.hid (show ∀ (k : Nat) (o' : Obj), o = some k → W.heap[k]? = some o' → o'.isCells = true from fun k o' e hk => row_cells hownW (by rw [hoW]; exact e) hk)
    have HB1 := Lib.hid hb1
    have HPB := Lib.hid hbW
    have HOW := Lib.hid (And.intro hoW hneW)
    have HBQW := Lib.hid hbqW
    have HDE := Lib.hid (delete11 A2 m c2 k vs2 W.drew hownW hkm (bq_one hbqW))
    have HWS := Lib.hid HBW.out.size
    have hop : ∀ j, A2.map (·.block) = some j → j < w.heap.size := fun j hj => by
      have h1 := HSN.out.lt.2 j (by rw [← hoW]; exact hj)
      exact h1
    have HOP := Lib.hid hop
    have hnk : nx + (k : Int) ≤ 2000000000000000 := by omega
    clear hb0 hb1 hBW hK hD hB1 hbW hownW hoW hneW hbqW hop
    gi_wp2
    refine wpIn_wide.2 ?_
    refine wp_region_noPanic ?_
    refine wp_region_held_drew (S := (fun w' => w'.cell? ⟨w.heap.size + 1, 0, none⟩ = some (.int .i64 (k : Int)))) (by kernel_rfl) t1 (fun hHeld => ?_)
    refine wpAnyH_take (i := 0) (v := ?_) rfl (by kernel_rfl) (by kernel_rfl) (by kernel_rfl) (fun _ _ _ h => h) (Or.inl ⟨by rfl, ?_⟩) (by assumption) ?_
    rotate_left
    · intro w' hSw
      try dsimp only at hSw
      go_simp
      first | done | (with_reducible rfl)
    try simp only [List.getElem_toArray, List.getElem_cons_succ, List.getElem_cons_zero, Act.put, List.setIfInBounds_toArray, List.set_cons_zero, List.set_cons_succ]
    refine wpAnyH_take (i := 1) (v := ?_) rfl (by kernel_rfl) (by kernel_rfl) (by kernel_rfl) (fun _ _ _ h => h) (Or.inl ⟨by rfl, ?_⟩) (by assumption) ?_
    rotate_left
    · intro w' hSw
      try dsimp only at hSw
      go_simp
      first | done | (with_reducible rfl)
    try simp only [List.getElem_toArray, List.getElem_cons_succ, List.getElem_cons_zero, Act.put, List.setIfInBounds_toArray, List.set_cons_zero, List.set_cons_succ]
    refine wpAnyH_take (i := 2) (v := ?_) rfl (by kernel_rfl) (by kernel_rfl) (by kernel_rfl) (fun _ _ _ h => h) (Or.inl ⟨by rfl, ?_⟩) (by assumption) ?_
    rotate_left
    · intro w' hSw
      try dsimp only at hSw
      go_simp
      first | done | (with_reducible rfl)
    try simp only [List.getElem_toArray, List.getElem_cons_succ, List.getElem_cons_zero, Act.put, List.setIfInBounds_toArray, List.set_cons_zero, List.set_cons_succ]
    refine wpAnyH_take (i := 3) (v := ?_) rfl (by kernel_rfl) (by kernel_rfl) (by kernel_rfl) (fun _ _ _ h => h) (Or.inl ⟨by rfl, ?_⟩) (by assumption) ?_
    rotate_left
    · intro w' hSw
      try dsimp only at hSw
      go_simp
      first | done | (with_reducible rfl)
    try simp only [List.getElem_toArray, List.getElem_cons_succ, List.getElem_cons_zero, Act.put, List.setIfInBounds_toArray, List.set_cons_zero, List.set_cons_succ]
    refine wpAnyH_take (i := 5) (v := ?_) rfl (by kernel_rfl) (by kernel_rfl) (by kernel_rfl) (fun _ _ _ h => h) (Or.inl ⟨by rfl, ?_⟩) (by assumption) ?_
    rotate_left
    · intro w' hSw
      try dsimp only at hSw
      go_simp
      first | done | (with_reducible rfl)
    try simp only [List.getElem_toArray, List.getElem_cons_succ, List.getElem_cons_zero, Act.put, List.setIfInBounds_toArray, List.set_cons_zero, List.set_cons_succ]
    refine wpAnyH_ready (rs := [4]) (by kernel_rfl) (by simp) ?_
    refine AllReadyH.cons rfl (fun K hK => ?_) AllReadyH.nil
    go_simp
    refine hK.out _ _ t1 (fun hHeld => ?_)
    clear hK K
    try simp only [List.getElem_toArray, List.getElem_cons_succ, List.getElem_cons_zero, Act.put, List.setIfInBounds_toArray, List.set_cons_zero, List.set_cons_succ]
    refine wpAnyH_ready (rs := [6]) (by kernel_rfl) (by simp) ?_
    refine AllReadyH.cons rfl (fun K hK => ?_) AllReadyH.nil
    go_simp
    refine HDE.out.mono ?_
    rintro e w3 ⟨rfl, hown3, hc3⟩
    have hb3 := HB1.out.drew.chg hc3 (fun e => by have := HOP.out _ e; omega)
    have t3 := hb3.cell 0
    simp only [List.getElem?_toArray, List.getElem?_cons_zero] at t3
    have hp3 := HPB.out.drew.chg hc3 (fun e => HOW.out.2 (by rw [← HOW.out.1]; exact e))
    have x2 := (sn_cells hp3).2.2.1
    have g2 := hp3.frozen 2
    have HB3 := Lib.hid hb3
    have HP3 := Lib.hid hp3
    have HO3 := Lib.hid hown3
    have HC3 := Lib.hid hc3
    clear hb3 hp3 hown3 hc3 HDE
    go_wp2_with fail
    refine hK.out _ _ t3 (fun hHeld => ?_)
    clear hK K
    try simp only [List.getElem_toArray, List.getElem_cons_succ, List.getElem_cons_zero, Act.put, List.setIfInBounds_toArray, List.set_cons_zero, List.set_cons_succ]
    have hb4 := HB3.out.chg ((Chg.refl (fun j => j = p) w3).put p 2 (fun _ => rfl) (.slice A2 (m - k) c2)) (by omega)
    have t4 := hb4.cell 0
    simp only [List.getElem?_toArray, List.getElem?_cons_zero] at t4
    have HB4 := Lib.hid hb4
    clear hb4
    refine wpAnyH_take (i := 7) (v := ?_) rfl (by kernel_rfl) (by kernel_rfl) (by kernel_rfl) (fun _ _ _ h => h) (Or.inl ⟨by rfl, ?_⟩) t3 ?_
    rotate_left
    · intro w' hSw
      try dsimp only at hSw
      go_simp
      first | done | (with_reducible rfl)
    try simp only [List.getElem_toArray, List.getElem_cons_succ, List.getElem_cons_zero, Act.put, List.setIfInBounds_toArray, List.set_cons_zero, List.set_cons_succ]
    refine wpAnyH_take (i := 8) (v := ?_) rfl (by kernel_rfl) (by kernel_rfl) (by kernel_rfl) (fun _ _ _ h => h) (Or.inl ⟨by rfl, ?_⟩) t3 ?_
    rotate_left
    · intro w' hSw
      try dsimp only at hSw
      go_simp
      first | done | (with_reducible rfl)
    try simp only [List.getElem_toArray, List.getElem_cons_succ, List.getElem_cons_zero, Act.put, List.setIfInBounds_toArray, List.set_cons_zero, List.set_cons_succ]
    refine wpAnyH_ready (rs := [9]) (by kernel_rfl) (by simp) ?_
    refine AllReadyH.cons rfl (fun K hK => ?_) AllReadyH.nil
    go_simp
    refine hK.out _ _ t4 (fun hHeld => ?_)
    clear hK K
    try simp only [List.getElem_toArray, List.getElem_cons_succ, List.getElem_cons_zero, Act.put, List.setIfInBounds_toArray, List.set_cons_zero, List.set_cons_succ]
    refine wpAnyH_done (by kernel_rfl) ?_ _
    refine NoPanic.normal ?_
    have hp4 : Blk (w3.setCell ⟨p, 2, none⟩ (.slice A2 (m - k) c2)) p 92 (snC mi pe A2 (m - k) c2 nx go) := HP3.out.set 2 (.slice A2 (m - k) c2)
    have hcs := (Chg.refl (fun j => j = p) w3).put p 2 (fun _ => rfl) (.slice A2 (m - k) c2)
    have HP4 := Lib.hid hp4
    have HC4 := Lib.hid hcs
    clear hHeld t1 t3 t4 y0 y1 y2 y3 y4 x2 g2 hp4 hcs
    generalize w3.setCell ⟨p, 2, none⟩ (.slice A2 (m - k) c2) = w4 at *
    obtain ⟨y0, y1, y2, y3, y4⟩ := sn_cells HP4.out
    have g3 := HP4.out.frozen 3
    have t5 := HB4.out.cell 0
    simp only [List.getElem?_toArray, List.getElem?_cons_zero] at t5
    have hw1 : IntKind.i64.wrap (nx + (k : Int)) = nx + (k : Int) := IntWalk.i64_in _ (by omega)
    gi_wp2
    refine wpIn_wide.2 ?_
    go_region
    have hp5 : Blk (w4.setCell ⟨p, 3, none⟩ (.int .i64 (nx + (k : Int)))) p 92 (snC mi pe A2 (m - k) c2 (nx + (k : Int)) go) := HP4.out.set 3 (.int .i64 (nx + (k : Int)))
    have hcs := (Chg.refl (fun j => j = p) w4).put p 3 (fun _ => rfl) (.int .i64 (nx + (k : Int)))
    have HP5 := Lib.hid hp5
    have HC5 := Lib.hid hcs
    clear hp5 hcs y0 y1 y2 y3 y4 g3 t5
    generalize w4.setCell ⟨p, 3, none⟩ (.int .i64 (nx + (k : Int))) = w5 at *
    have HCA := Lib.hid (show Chg (fun j => j = p ∨ o = some j) W w5 from
      ((((Chg.refl _ W).drew.trans (HC3.out.mono (fun j _ e => .inr (by rw [← HOW.out.1]; exact e))) (fun _ _ e => e)).trans (HC4.out.mono (fun j _ e => .inl e)) (fun _ _ e => e)).trans (HC5.out.mono (fun j _ e => .inl e)) (fun _ _ e => e)))
    gi_wp2
    have hke := (KeepsFrom.trans (HCA.out.keepsFrom w.heap.size (fun k o hk e => ack_cells HPB.out HOA.out hk e)) (KeepsOthers.from (KeepsOthers.drew w5) w.heap.size)).same D _ HD.out HKD.out rfl
    refine ⟨by simp, .inl ⟨_, _, rfl, run_takeDeferred hke, ?_⟩⟩
    refine ⟨_, results_none rfl _ _ _, rfl, SN.abd ?_ (abd_put hke rfl), ?_⟩
    · have e1 : ackS ⟨mi, pe, nx, go, q⟩ ack = ⟨mi, pe, nx + (k : Int), go, q.drop k⟩ := by
        unfold ackS
        simp only [HM.out, HK.out]
      have e2 : (q.drop k).length = m - k := by rw [List.length_drop, HM.out]
      have hc35 : Chg (fun j => j = p) w3 w5.drew := (HC4.out.trans HC5.out (fun _ _ e => e)).drew
      rw [e1]
      refine ⟨A2, c2, vs2.drop k, ?_, ?_, HOW.out.1, HOW.out.2, ?_, hgp, hgo⟩
      · show Blk _ _ _ (snC mi pe A2 (q.drop k).length c2 (nx + (k : Int)) go)
        rw [e2]
        exact HP5.out
      · show World.ownsRow _ _ _ _ (.slice A2 (q.drop k).length c2) (q.drop k).length _
        rw [e2]
        exact own_chg HO3.out hc35 (fun j hj e => by subst e; exact HOW.out.2 (by rw [← HOW.out.1]; exact hj))
      · exact (((HBQW.out.drop k).chg HCA.out.drew (fun j hj e => by
          rcases e with e | e
          · subst e; exact hgp hj.1
          · exact hgo j e hj.1)).mono (fun j hj => hj.1))
    · have hb : Below w.heap.size w5.drew (w5.drew.putObj D (.deferred none)) := (Below.refl _ w5.drew).grown (grownBy_putObj' w5.drew D _) (Nat.le_trans HWS.out HCA.out.size) (fun k e => by cases e; exact HD.out)
      exact ((Chg.of_below HBW.out (Nat.le_refl _) _).trans HCA.out.drew (fun _ _ e => e)).trans (below_chg hb (S := fun j => w.heap.size ≤ j) (fun _ h => h)) (fun j hj e => by omega)

end Go.Proofs.Ytbbjecjhkjjbkaa
