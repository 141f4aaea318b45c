/-
  Walk: session.Session's Out, on nil too. Condition: the session lies in memory, its queue has at most 64 bodies, of at most 1000 bytes.
-/
import Derived.Test.YtbbjecjhkjjbkaaGe
namespace Go.Proofs.Ytbbjecjhkjjbkaa
open Go.RowKit
set_option linter.unusedVariables false
attribute [local go_sem] Oper.semAt_some

set_option maxRecDepth 100000 in
set_option maxHeartbeats 400000 in
theorem sout_nil (w : World) : Calls Try.prog 22 #[.pointer none] w fun e w' => e = .returned (.slice none 0 0) ∧ Chg (fun _ => False) w w' := by
  go_enter Try.func22, Try.ntmps22
  go_wp2
  go_ret
  exact ⟨rfl, (Chg.refl _ w).alloc _⟩

/-- What Out keeps between two rounds. -/
def IO11 (w : World) (p m : Nat) (f : Fin m → LV) (pre : List (Fin m)) (W : World) : Prop :=
  pre.length ≤ 8 ∧ Blk W w.heap.size 42 #[.pointer (some ⟨p, 0, none⟩)] ∧ ∃ A n c ys, Box11 W w.heap.size (w.heap.size + 1) A n c ys (pre.map f)
def IX11 (w : World) (p m : Nat) (f : Fin m → LV) (cd : Code) (pre : List (Fin m)) (W : World) : Prop :=
  cd = .exit 0 ∧ ∃ pre' i, pre = pre' ++ [i] ∧ pre'.length = 8 ∧ IO11 w p m f pre' W
theorem io11_abd {w : World} {p m : Nat} {f : Fin m → LV} {pre : List (Fin m)} {W W' : World} (h : IO11 w p m f pre W) (ha : Abd W W') : IO11 w p m f pre W' := by
  obtain ⟨h8, hb0, A1, n1, c1, ys, hbx⟩ := h
  exact ⟨h8, hb0.abd ha, A1, n1, c1, ys, hbx.abd ha⟩
theorem ix11_abd {w : World} {p m : Nat} {f : Fin m → LV} {cd : Code} {pre : List (Fin m)} {W W' : World} (h : IX11 w p m f cd pre W) (ha : Abd W W') : IX11 w p m f cd pre W' := by
  obtain ⟨h1, pre', i, h2, h3, h4⟩ := h
  exact ⟨h1, pre', i, h2, h3, io11_abd h4 ha⟩
theorem outS_nil {x : SV} (h : x.q.length = 0) : outS x = [⟨x.mi, x.pe, x.go, 0, []⟩] := if_pos h
theorem outS_some {x : SV} {m : Nat} (h : x.q.length = m) (h0 : m ≠ 0) : outS x = (List.range (min m 8)).map (letS x) := by
  subst h
  exact if_neg h0
theorem rows_cells {W : World} {n₀ b1 : Nat} {A : Option Addr} {n c : Nat} {ys : List LA} {ls : List LV} (h : Box11 W n₀ b1 A n c ys ls) : ∀ (k : Nat) (o : Obj), W.heap[k]? = some o → (k = b1 ∨ A.map (·.block) = some k) → o.isCells = true := fun k o hk hor => by
  rcases hor with rfl | e
  · rw [show W.heap[k]? = _ from h.1] at hk
    injection hk with hk
    subst hk
    rfl
  · exact row_cells h.2.1 e hk
theorem box_other {W : World} {n₀ b1 g : Nat} {A : Option Addr} {n c : Nat} {ys : List LA} {ls : List LV} {cs : Array Value} (h : Box11 W n₀ b1 A n c ys ls) (hg : Blk W g 42 cs) (W3 : World) (hw : Chg (fun k => k = b1 ∨ A.map (·.block) = some k) W W3) : Blk W3 g 42 cs := by
  refine hg.chg hw ?_
  rintro (e | e)
  · subst e
    have h1 := hg.symm.trans h.1
    simp at h1
  · exact own_ne_blk h.2.1 hg (by decide) e
theorem box_below {w W : World} {A : Option Addr} {n c : Nat} {ys : List LA} {ls : List LV} (h : Box11 W w.heap.size (w.heap.size + 1) A n c ys ls) (hs : w.heap.size ≤ W.heap.size) (W3 : World) (hw : Chg (fun k => k = w.heap.size + 1 ∨ A.map (·.block) = some k) W W3) : Below w.heap.size W W3 :=
  chg_below (hw.mono (S' := fun k => w.heap.size ≤ k) (fun k _ e => by
    rcases e with e | e
    · omega
    · exact (h.2.1.lt k (by rw [own_block]; exact e)).1)) hs
/-- Out's end: the box's row is handed back. -/
theorem out_end {x : SV} {w W : World} {D : Nat} {A : Option Addr} {n c : Nat} {ys : List LA} {ls : List LV} (hls : outS x = ls) (hK : W.heap[D]? = some (.deferred (some []))) (hD : w.heap.size ≤ D) (hB : Below w.heap.size w W)
    (h : Box11 W w.heap.size (w.heap.size + 1) A n c ys ls) : OutP x w (.returned (.slice A n c)) (W.putObj D (.deferred none)) := by
  have ha : Abd W (W.putObj D (.deferred none)) := abd_put hK rfl
  have hB2 : Below w.heap.size W (W.putObj D (.deferred none)) := (Below.refl _ W).grown (grownBy_putObj' W D _) hB.size (fun k e => by cases e; exact hD)
  subst hls
  exact ⟨A, n, c, ys, rfl, h.2.2.2, own_abd h.2.1 ha, (h.2.2.1.abd ha).mono (fun k hk => ⟨hk.1, hk.2.2⟩), Chg.of_below (hB.trans hB2) (Nat.le_refl _) _⟩
set_option maxRecDepth 100000 in
set_option maxHeartbeats 4000000 in
theorem sout_any (p : Nat) (o : Option Nat) (G : Nat → Prop) (x : SV) (w : World) (h : SN w p o G x) (hok : SOk x) : Calls Try.prog 22 #[.pointer (some ⟨p, 0, none⟩)] w (OutP x w) := by
  obtain ⟨i0, hi0, hz0, hz1, hz2⟩ := info_parts infoLT11
  have HSN := Lib.hid h
  have HOK := Lib.hid hok
  obtain ⟨A, c, vs, hb, hown, ho, hne, hbq, hG1, hG2⟩ := h.old
  have hplt := hb.lt
  have hcel := sn_cells hb
  have hrow := own_rds2 hown
  have hnx := hok.nx0
  have hq64 := hok.len
  generalize hm : x.q.length = m at *
  have HM := Lib.hid hm
  have HBQ := Lib.hid hbq
  have HVS := Lib.hid (show vs.length = m from by have := hbq.1; omega)
  obtain ⟨f, hf⟩ : ∃ f : Fin m → LV, f = fun i => letS x i.1 := ⟨_, rfl⟩
  have HF := Lib.hid hf
  clear hf
  obtain ⟨mi, pe, nx, go, q⟩ := x
  simp only at hcel hnx hm HM hq64
  obtain ⟨z0, z1, z2, z3, z4⟩ := hcel
  have hb0 : Blk ((w.alloc (.cells #[.pointer (some ⟨p, 0, none⟩)] 42)).alloc (.cells #[.slice none 0 0] 59)) w.heap.size 42 #[.pointer (some ⟨p, 0, none⟩)] := (blk_new rfl).alloc _
  have hb1 : Blk ((w.alloc (.cells #[.pointer (some ⟨p, 0, none⟩)] 42)).alloc (.cells #[.slice none 0 0] 59)) (w.heap.size + 1) 59 #[.slice none 0 0] := blk_new (by simp)
  have hB2 : Below w.heap.size w ((w.alloc (.cells #[.pointer (some ⟨p, 0, none⟩)] 42)).alloc (.cells #[.slice none 0 0] 59)) := ((Below.refl _ w).alloc (Nat.le_refl _) _).alloc (by simp) _
  have HIT := Lib.hid (fun W (hW : Below w.heap.size ((w.alloc (.cells #[.pointer (some ⟨p, 0, none⟩)] 42)).alloc (.cells #[.slice none 0 0] 59)) W) => numbered_iter 2 p w.heap.size m c A nx vs W hq64 hnx hplt (((hB2.trans hW).cell (p := ⟨p, 2, none⟩) hplt).trans z2) (((hB2.trans hW).cell (p := ⟨p, 3, none⟩) hplt).trans z3) ((hrow.chg (below_chg (hB2.trans hW) (S := fun k => w.heap.size ≤ k) (fun _ h => h)) (fun k hk => by have := hk.2; omega)).mono (fun k hk => hk.2)))
  have HB0 := Lib.hid hb0
  have HB1 := Lib.hid hb1
  have HB2 := Lib.hid hB2
  have HSZ2 := Lib.hid (show w.heap.size ≤ ((w.alloc (.cells #[.pointer (some ⟨p, 0, none⟩)] 42)).alloc (.cells #[.slice none 0 0] 59)).heap.size from by simp; omega)
  have HPLT := Lib.hid hplt
  clear hb hown hbq hrow hb0 hb1 hB2 z0 z1 z2 z3 z4 hm
  refine (callsIn_wide (n := 3)).1 ?_
  refine callsIn_of_wp_marks Try.func22 rfl trivial ?_ rfl
  simp only [Try.ntmps22, List.size_toArray, List.length_cons, List.length_nil, Nat.reduceAdd, Nat.reduceSub, Array.replicate_succ, Array.replicate_zero, List.push_toArray, List.append_toArray, List.nil_append, List.cons_append]
  gi_wp2
  refine loop11 (gf := 46) (first := #[.pointer (some ⟨p, 0, none⟩)]) rfl (enters_of Try.func46 (by kernel_rfl) rfl) (encs := fun i : Fin m => #[.int .i64 (nx + (i.1 : Int)), vs[i.1]?.getD undef]) (xs := List.finRange m) w.heap.size HSZ2.out HIT.out (fun _ => rfl)
    (IO11 w p m f) (IX11 w p m f) (fun _ _ _ => io11_abd) (fun _ _ _ _ => ix11_abd) ?h0 (fun i => { tmps := #[.pointer (some ⟨p, 0, none⟩), .pointer (some ⟨w.heap.size, 0, none⟩), .slice none 0 0, .pointer (some ⟨w.heap.size + 1, 0, none⟩), .int .i64 (nx + (i.1 : Int)), vs[i.1]?.getD undef, .pointer (some ⟨p, 0, none⟩), .bool false, .pointer (some ⟨p, 0, none⟩), .func (.func 46) #[.pointer (some ⟨p, 0, none⟩)] #[], .int .i64 (nx + (i.1 : Int)), vs[i.1]?.getD undef, undef, undef, undef, undef, undef, undef, undef, undef, undef, undef, undef, undef, undef, undef, undef, undef, undef, undef, undef], defers := [] }) ?assign ?body ?done ?stop
  case h0 => exact ⟨by simp, HB0.out, none, 0, 0, [], HB1.out, World.ownsRow_nil _ _ _ _, LB.nil _ _, rfl⟩
  case assign =>
    intro l i W K hK
    gi_wp2
    exact hK
  case body =>
    rintro l pre i W - hBW ⟨h8, hb0, A1, n1, c1, ys, hbx⟩
    have hbel := HB2.out.trans hBW
    have hsnW := HSN.out.below hbel
    have hln : n1 = pre.length := by have := hbx.2.2.2; simpa using this
    obtain ⟨hc1, hf1⟩ := box_cell hbx
    have hc0 := hb0.cell 0
    simp only [List.getElem?_toArray, List.getElem?_cons_zero] at hc0
    by_cases h88 : n1 = 8
    · subst h88
      gi_wp2
      exact ⟨KeepsFrom.refl _ _, Below.refl _ _, rfl, pre, i, rfl, hln.symm, h8, hb0, A1, 8, c1, ys, hbx⟩
    · have hiq : i.1 < q.length := by have := HM.out; have := i.2; omega
      obtain ⟨B, d, hv, hzB, hrB⟩ := HBQ.out.2 i.1 q[i.1] (by simp [hiq])
      have hv2 : vs[i.1]?.getD undef = .slice B (q[i.1]).length d := by rw [hv]; rfl
      have hbd := HOK.out.bod q[i.1] (by simp)
      have HFI : Hid (f i = ⟨mi, pe, go, nx + (i.1 : Int), q[i.1]⟩) := Lib.hid (by rw [HF.out]; simp [letS, List.getD, hiq])
      generalize q[i.1] = bb at *
      have HLE := Lib.hid (fun W3 (hw : Chg (fun _ => False) W W3) => letter_any p o _ ⟨mi, pe, nx, go, q⟩ (nx + (i.1 : Int)) B bb.length d bb _ W3 (hsnW.new hw) rfl ((hrB.chg (below_chg hbel (S := fun k => w.heap.size ≤ k) (fun _ h => h)) (fun k hk => by have := hk.2; omega)).chg hw (fun _ _ => id)) hzB hbd.2)
      simp only [hv2]
      have hn8 : n1 < 8 := by omega
      have HLN := Lib.hid hln
      clear hln
      gi_wp2
      have HB1 := Lib.hid hbx
      have HBS := Lib.hid hbel.size
      have HX := Lib.hid (Chg.refl (fun _ => False) W).drew
      have HROW := Lib.hid (show ∀ (k : Nat) (o : Obj), W.heap[k]? = some o → (k = w.heap.size + 1 ∨ A1.map (·.block) = some k) → o.isCells = true from fun k o hk hor => by
        rcases hor with rfl | e
        · rw [show W.heap[w.heap.size + 1]? = _ from hbx.1] at hk
          injection hk with hk
          subst hk
          rfl
        · exact row_cells hbx.2.1 e hk)
      have HKB := Lib.hid (fun W3 (hw : Chg (fun k => k = w.heap.size + 1 ∨ A1.map (·.block) = some k) W W3) => hb0.chg hw (by
        rintro (e | e)
        · omega
        · exact own_ne_blk hbx.2.1 hb0 (by decide) e))
      have HBEL := Lib.hid (fun W3 (hw : Chg (fun k => k = w.heap.size + 1 ∨ A1.map (·.block) = some k) W W3) => chg_below (hw.mono (S' := fun k => w.heap.size ≤ k) (fun k _ e => by
        rcases e with e | e
        · omega
        · exact (hbx.2.1.lt k (by rw [own_block]; exact e)).1)) hbel.size)
      have HKEEP := Lib.hid (fun W3 (hw : Chg (fun _ => False) W W3) => (show W3.cell? ⟨w.heap.size, 0, none⟩ = some (.pointer (some ⟨p, 0, none⟩)) from by
        have h0 := (hb0.chg hw id).cell 0
        simpa using h0))
      have HKEEPB := Lib.hid (fun W3 (hw : Chg (fun k => k = w.heap.size + 1 ∨ A1.map (·.block) = some k) W W3) => (show W3.cell? ⟨w.heap.size, 0, none⟩ = some (.pointer (some ⟨p, 0, none⟩)) from by
        have h0 := (HKB.out _ hw).cell 0
        simpa using h0))
      have s2 := HKEEP.out _ HX.out
      clear hbx hbel hsnW hBW hrB hv hv2 hbd hzB
      refine round_region (S := (fun w' => w'.cell? ⟨w.heap.size, 0, none⟩ = some (.pointer (some ⟨p, 0, none⟩)))) (by kernel_rfl) (by kernel_rfl) (fun ⟨_, _, h⟩ => (show False from (h : KeepsFrom _ _ _ ∧ Below _ _ _ ∧ False).2.2)) s2 (fun hHeld => ?_)
      refine wpAnyH_take (i := 1) (v := ?_) rfl (by kernel_rfl) (by kernel_rfl) (by kernel_rfl) (fun _ _ _ h => h) (Or.inl ⟨by rfl, ?_⟩) (by assumption) ?_
      rotate_left
      · intro w' hSw
        try dsimp only at hSw
        go_simp
        first | done | (with_reducible rfl)
      try simp only [List.getElem_toArray, List.getElem_cons_succ, List.getElem_cons_zero, Act.put, List.setIfInBounds_toArray, List.set_cons_zero, List.set_cons_succ]
      refine wpAnyH_take (i := 2) (v := ?_) rfl (by kernel_rfl) (by kernel_rfl) (by kernel_rfl) (fun _ _ _ h => h) (Or.inl ⟨by rfl, ?_⟩) (by assumption) ?_
      rotate_left
      · intro w' hSw
        try dsimp only at hSw
        go_simp
        first | done | (with_reducible rfl)
      try simp only [List.getElem_toArray, List.getElem_cons_succ, List.getElem_cons_zero, Act.put, List.setIfInBounds_toArray, List.set_cons_zero, List.set_cons_succ]
      refine wpAnyH_take (i := 3) (v := ?_) rfl (by kernel_rfl) (by kernel_rfl) (by kernel_rfl) (fun _ _ _ h => h) (Or.inl ⟨by rfl, ?_⟩) (by assumption) ?_
      rotate_left
      · intro w' hSw
        try dsimp only at hSw
        go_simp
        first | done | (with_reducible rfl)
      try simp only [List.getElem_toArray, List.getElem_cons_succ, List.getElem_cons_zero, Act.put, List.setIfInBounds_toArray, List.set_cons_zero, List.set_cons_succ]
      refine wpAnyH_ready (rs := [0, 4]) (by kernel_rfl) (by simp) ?_
      refine AllReadyH.cons rfl (fun K hK => ?_) (AllReadyH.cons rfl (fun K hK => ?_) AllReadyH.nil)
      · go_simp
        refine hK.out _ _ s2 (fun hHeld => ?_)
        clear hK K
        try simp only [List.getElem_toArray, List.getElem_cons_succ, List.getElem_cons_zero, Act.put, List.setIfInBounds_toArray, List.set_cons_zero, List.set_cons_succ]
        refine wpAnyH_ready (rs := [4]) (by kernel_rfl) (by simp) ?_
        refine AllReadyH.cons rfl (fun K hK => ?_) AllReadyH.nil
        go_simp
        refine (HLE.out _ HX.out).mono ?_
        rintro e w3 ⟨E, d3, rfl, hz3, hr3, hc3⟩
        have HX := Lib.hid (HX.out.trans hc3 (fun _ _ e => e))
        have HZ3 := Lib.hid hz3
        have HR3 := Lib.hid hr3
        clear hz3 hr3 hc3
        have s3 := HKEEP.out _ HX.out
        unfold ltC
        go_wp2_with fail
        refine hK.out _ _ s3 (fun hHeld => ?_)
        clear hK K
        try simp only [List.getElem_toArray, List.getElem_cons_succ, List.getElem_cons_zero, Act.put, List.setIfInBounds_toArray, List.set_cons_zero, List.set_cons_succ]
        have s3a := HKEEP.out _ (HX.out.alloc (.cells #[.int .i64 mi, .int .i64 pe, .int .i64 go, .int .i64 (nx + (i.1 : Int)), .slice E bb.length d3] 24))
        refine wpAnyH_ready (rs := [5]) (by kernel_rfl) (by simp) ?_
        refine AllReadyH.cons rfl (fun K hK => ?_) AllReadyH.nil
        go_simp
        refine hK.out _ _ s3a (fun hHeld => ?_)
        clear hK K
        try simp only [List.getElem_toArray, List.getElem_cons_succ, List.getElem_cons_zero, Act.put, List.setIfInBounds_toArray, List.set_cons_zero, List.set_cons_succ]
        refine wpAnyH_ready (rs := [6]) (by kernel_rfl) (by simp) ?_
        refine AllReadyH.cons rfl (fun K hK => ?_) AllReadyH.nil
        refine step_app11 _ rfl (.tmp 15) (.tmp 20) 59 rfl w.heap.size 24 i0 _ 5 56 Try.underlying59 hi0 hz0 hz1 hz2 rfl (by decide) (.slice A1 n1 c1) n1 _ rfl ((own_chg HB1.out.2.1 HX.out (fun _ _ => id)).alloc _) ⟨w3.heap.size, 0, none⟩ 1 1 [.int .i64 mi, .int .i64 pe, .int .i64 go, .int .i64 (nx + (i.1 : Int)), .slice E bb.length d3] rfl rfl (fun j u hu => by rw [show (⟨w3.heap.size, 0, none⟩ : Addr).add j = ⟨w3.heap.size, j, none⟩ from by unfold Addr.add; split <;> simp_all, (Blk.new w3 24 #[.int .i64 mi, .int .i64 pe, .int .i64 go, .int .i64 (nx + (i.1 : Int)), .slice E bb.length d3]).cell j]; simpa using hu) (by simp [Value.oneCell']) (by unfold maxLen; omega) (by omega) (by have := HX.out.size; have := HBS.out; simp; omega) ?_
        intro v5 w5 hown5 hg5 hat5
        obtain ⟨A5, c5, rfl, _, _⟩ := own_form hown5
        obtain ⟨hbox, hch, hc1, hf1⟩ := HB1.out.app HX.out ⟨mi, pe, go, (nx + (i.1 : Int)), bb⟩ HZ3.out rfl HR3.out HBS.out hown5 hg5 hat5
        have HBOX := Lib.hid hbox
        have HCH := Lib.hid hch
        have s5 := HKEEPB.out _ (((HX.out.alloc _).mono (fun _ _ h => h.elim)).grown hg5 (fun k hk _ => .inr (by rw [own_block] at hk; exact hk)))
        have s6 := HKEEPB.out _ HCH.out
        clear hbox hch hown5 hg5 hat5
        refine hK.out _ _ s5 (fun hHeld => ?_)
        clear hK K
        try simp only [List.getElem_toArray, List.getElem_cons_succ, List.getElem_cons_zero, Act.put, List.setIfInBounds_toArray, List.set_cons_zero, List.set_cons_succ]
        refine wpAnyH_ready (rs := [7]) (by kernel_rfl) (by simp) ?_
        refine AllReadyH.cons rfl (fun K hK => ?_) AllReadyH.nil
        go_simp
        refine hK.out _ _ s6 (fun hHeld => ?_)
        clear hK K
        refine wpAnyH_done (by kernel_rfl) ?_ _
        have HBF := Lib.hid (show Box11 _ _ _ A5 (n1 + 1) c5 _ ((pre ++ [i]).map f) from by rw [List.map_append, List.map_cons, List.map_nil, HFI.out]; exact HBOX.out)
        exact ⟨Chg.keepsFrom HCH.out _ HROW.out, HBEL.out _ HCH.out, by have := HLN.out; simp; omega, HKB.out _ HCH.out, A5, n1 + 1, c5, _, HBF.out⟩
      · go_simp
        refine (HLE.out _ HX.out).mono ?_
        rintro e w3 ⟨E, d3, rfl, hz3, hr3, hc3⟩
        have HX := Lib.hid (HX.out.trans hc3 (fun _ _ e => e))
        have HZ3 := Lib.hid hz3
        have HR3 := Lib.hid hr3
        clear hz3 hr3 hc3
        have s3 := HKEEP.out _ HX.out
        unfold ltC
        go_wp2_with fail
        refine hK.out _ _ s3 (fun hHeld => ?_)
        clear hK K
        try simp only [List.getElem_toArray, List.getElem_cons_succ, List.getElem_cons_zero, Act.put, List.setIfInBounds_toArray, List.set_cons_zero, List.set_cons_succ]
        have s3a := HKEEP.out _ (HX.out.alloc (.cells #[.int .i64 mi, .int .i64 pe, .int .i64 go, .int .i64 (nx + (i.1 : Int)), .slice E bb.length d3] 24))
        have z3 := (box_cell (HB1.out.new HX.out)).1
        have z4 := (box_cell (HB1.out.new (HX.out.alloc (.cells #[.int .i64 mi, .int .i64 pe, .int .i64 go, .int .i64 (nx + (i.1 : Int)), .slice E bb.length d3] 24)))).1
        refine wpAnyH_ready (rs := [0, 5]) (by kernel_rfl) (by simp) ?_
        refine AllReadyH.cons rfl (fun K hK => ?_) (AllReadyH.cons rfl (fun K hK => ?_) AllReadyH.nil)
        · go_simp
          refine hK.out _ _ s3 (fun hHeld => ?_)
          clear hK K
          try simp only [List.getElem_toArray, List.getElem_cons_succ, List.getElem_cons_zero, Act.put, List.setIfInBounds_toArray, List.set_cons_zero, List.set_cons_succ]
          refine wpAnyH_ready (rs := [5]) (by kernel_rfl) (by simp) ?_
          refine AllReadyH.cons rfl (fun K hK => ?_) AllReadyH.nil
          go_simp
          refine hK.out _ _ s3a (fun hHeld => ?_)
          clear hK K
          try simp only [List.getElem_toArray, List.getElem_cons_succ, List.getElem_cons_zero, Act.put, List.setIfInBounds_toArray, List.set_cons_zero, List.set_cons_succ]
          refine wpAnyH_ready (rs := [6]) (by kernel_rfl) (by simp) ?_
          refine AllReadyH.cons rfl (fun K hK => ?_) AllReadyH.nil
          refine step_app11 _ rfl (.tmp 15) (.tmp 20) 59 rfl w.heap.size 24 i0 _ 5 56 Try.underlying59 hi0 hz0 hz1 hz2 rfl (by decide) (.slice A1 n1 c1) n1 _ rfl ((own_chg HB1.out.2.1 HX.out (fun _ _ => id)).alloc _) ⟨w3.heap.size, 0, none⟩ 1 1 [.int .i64 mi, .int .i64 pe, .int .i64 go, .int .i64 (nx + (i.1 : Int)), .slice E bb.length d3] rfl rfl (fun j u hu => by rw [show (⟨w3.heap.size, 0, none⟩ : Addr).add j = ⟨w3.heap.size, j, none⟩ from by unfold Addr.add; split <;> simp_all, (Blk.new w3 24 #[.int .i64 mi, .int .i64 pe, .int .i64 go, .int .i64 (nx + (i.1 : Int)), .slice E bb.length d3]).cell j]; simpa using hu) (by simp [Value.oneCell']) (by unfold maxLen; omega) (by omega) (by have := HX.out.size; have := HBS.out; simp; omega) ?_
          intro v5 w5 hown5 hg5 hat5
          obtain ⟨A5, c5, rfl, _, _⟩ := own_form hown5
          obtain ⟨hbox, hch, hc1, hf1⟩ := HB1.out.app HX.out ⟨mi, pe, go, (nx + (i.1 : Int)), bb⟩ HZ3.out rfl HR3.out HBS.out hown5 hg5 hat5
          have HBOX := Lib.hid hbox
          have HCH := Lib.hid hch
          have s5 := HKEEPB.out _ (((HX.out.alloc _).mono (fun _ _ h => h.elim)).grown hg5 (fun k hk _ => .inr (by rw [own_block] at hk; exact hk)))
          have s6 := HKEEPB.out _ HCH.out
          clear hbox hch hown5 hg5 hat5
          refine hK.out _ _ s5 (fun hHeld => ?_)
          clear hK K
          try simp only [List.getElem_toArray, List.getElem_cons_succ, List.getElem_cons_zero, Act.put, List.setIfInBounds_toArray, List.set_cons_zero, List.set_cons_succ]
          refine wpAnyH_ready (rs := [7]) (by kernel_rfl) (by simp) ?_
          refine AllReadyH.cons rfl (fun K hK => ?_) AllReadyH.nil
          go_simp
          refine hK.out _ _ s6 (fun hHeld => ?_)
          clear hK K
          refine wpAnyH_done (by kernel_rfl) ?_ _
          have HBF := Lib.hid (show Box11 _ _ _ A5 (n1 + 1) c5 _ ((pre ++ [i]).map f) from by rw [List.map_append, List.map_cons, List.map_nil, HFI.out]; exact HBOX.out)
          exact ⟨Chg.keepsFrom HCH.out _ HROW.out, HBEL.out _ HCH.out, by have := HLN.out; simp; omega, HKB.out _ HCH.out, A5, n1 + 1, c5, _, HBF.out⟩
        · go_simp
          refine hK.out _ _ s3a (fun hHeld => ?_)
          clear hK K
          try simp only [List.getElem_toArray, List.getElem_cons_succ, List.getElem_cons_zero, Act.put, List.setIfInBounds_toArray, List.set_cons_zero, List.set_cons_succ]
          refine wpAnyH_ready (rs := [0]) (by kernel_rfl) (by simp) ?_
          refine AllReadyH.cons rfl (fun K hK => ?_) AllReadyH.nil
          go_simp
          refine hK.out _ _ s3a (fun hHeld => ?_)
          clear hK K
          try simp only [List.getElem_toArray, List.getElem_cons_succ, List.getElem_cons_zero, Act.put, List.setIfInBounds_toArray, List.set_cons_zero, List.set_cons_succ]
          refine wpAnyH_ready (rs := [6]) (by kernel_rfl) (by simp) ?_
          refine AllReadyH.cons rfl (fun K hK => ?_) AllReadyH.nil
          refine step_app11 _ rfl (.tmp 15) (.tmp 20) 59 rfl w.heap.size 24 i0 _ 5 56 Try.underlying59 hi0 hz0 hz1 hz2 rfl (by decide) (.slice A1 n1 c1) n1 _ rfl ((own_chg HB1.out.2.1 HX.out (fun _ _ => id)).alloc _) ⟨w3.heap.size, 0, none⟩ 1 1 [.int .i64 mi, .int .i64 pe, .int .i64 go, .int .i64 (nx + (i.1 : Int)), .slice E bb.length d3] rfl rfl (fun j u hu => by rw [show (⟨w3.heap.size, 0, none⟩ : Addr).add j = ⟨w3.heap.size, j, none⟩ from by unfold Addr.add; split <;> simp_all, (Blk.new w3 24 #[.int .i64 mi, .int .i64 pe, .int .i64 go, .int .i64 (nx + (i.1 : Int)), .slice E bb.length d3]).cell j]; simpa using hu) (by simp [Value.oneCell']) (by unfold maxLen; omega) (by omega) (by have := HX.out.size; have := HBS.out; simp; omega) ?_
          intro v5 w5 hown5 hg5 hat5
          obtain ⟨A5, c5, rfl, _, _⟩ := own_form hown5
          obtain ⟨hbox, hch, hc1, hf1⟩ := HB1.out.app HX.out ⟨mi, pe, go, (nx + (i.1 : Int)), bb⟩ HZ3.out rfl HR3.out HBS.out hown5 hg5 hat5
          have HBOX := Lib.hid hbox
          have HCH := Lib.hid hch
          have s5 := HKEEPB.out _ (((HX.out.alloc _).mono (fun _ _ h => h.elim)).grown hg5 (fun k hk _ => .inr (by rw [own_block] at hk; exact hk)))
          have s6 := HKEEPB.out _ HCH.out
          clear hbox hch hown5 hg5 hat5
          refine hK.out _ _ s5 (fun hHeld => ?_)
          clear hK K
          try simp only [List.getElem_toArray, List.getElem_cons_succ, List.getElem_cons_zero, Act.put, List.setIfInBounds_toArray, List.set_cons_zero, List.set_cons_succ]
          refine wpAnyH_ready (rs := [7]) (by kernel_rfl) (by simp) ?_
          refine AllReadyH.cons rfl (fun K hK => ?_) AllReadyH.nil
          go_simp
          refine hK.out _ _ s6 (fun hHeld => ?_)
          clear hK K
          refine wpAnyH_done (by kernel_rfl) ?_ _
          have HBF := Lib.hid (show Box11 _ _ _ A5 (n1 + 1) c5 _ ((pre ++ [i]).map f) from by rw [List.map_append, List.map_cons, List.map_nil, HFI.out]; exact HBOX.out)
          exact ⟨Chg.keepsFrom HCH.out _ HROW.out, HBEL.out _ HCH.out, by have := HLN.out; simp; omega, HKB.out _ HCH.out, A5, n1 + 1, c5, _, HBF.out⟩
  case done =>
    rintro D W hD hBW ⟨h8, hb0, A1, n1, c1, ys, hbx⟩ hK
    have hln : n1 = m := by have := hbx.2.2.2; simpa using this
    have hm8 : m ≤ 8 := by simpa using h8
    have HD := Lib.hid (show w.heap.size ≤ D from Nat.le_trans HSZ2.out hD)
    have HBW := Lib.hid (HB2.out.trans hBW)
    have HKD := Lib.hid hK
    obtain ⟨hc1, hf1⟩ := box_cell hbx
    have hc0 := hb0.cell 0
    simp only [List.getElem?_toArray, List.getElem?_cons_zero] at hc0
    by_cases hn0 : n1 = 0
    · have HOE := Lib.hid (outS_nil (x := ⟨mi, pe, nx, go, q⟩) (by have := HM.out; change q.length = 0; omega))
      have t0 : ((n1 : Int) == 0) = true := by simp [hn0]
      have HLN := Lib.hid (And.intro hn0 hln)
      have HB1 := Lib.hid hbx
      have HBS := Lib.hid HBW.out.size
      have HSW := Lib.hid (HSN.out.below HBW.out)
      have hn8 : n1 < 8 := by omega
      clear hD hBW hK h8 hln hn0
      gi_wp2
      refine wpIn_wide.2 ?_
      have HLE := Lib.hid (fun W3 (hw : Chg (fun _ => False) W W3) => letter_any p o _ ⟨mi, pe, nx, go, q⟩ 0 none 0 0 [] (fun _ => False) W3 (HSW.out.new hw) rfl (Rds.nil _ _ _) (fun _ => rfl) (by decide))
      have HX := Lib.hid (Chg.refl (fun _ => False) W).drew
      have HROW := Lib.hid (rows_cells hbx)
      have HBEL := Lib.hid (fun W3 hw => box_below hbx HBS.out W3 hw)
      have HKEEP := Lib.hid (fun W3 (hw : Chg (fun _ => False) W W3) => (show W3.cell? ⟨w.heap.size, 0, none⟩ = some (.pointer (some ⟨p, 0, none⟩)) from by
        have h0 := (hb0.chg hw id).cell 0
        simpa using h0))
      have HKEEPB := Lib.hid (fun W3 (hw : Chg (fun k => k = w.heap.size + 1 ∨ A1.map (·.block) = some k) W W3) => (show W3.cell? ⟨w.heap.size, 0, none⟩ = some (.pointer (some ⟨p, 0, none⟩)) from by
        have h0 := (box_other hbx hb0 W3 hw).cell 0
        simpa using h0))
      have s2 := HKEEP.out _ HX.out
      clear hbx hb0 t0
      refine wp_region_noPanic ?_
      refine wp_region_held_drew (S := (fun w' => w'.cell? ⟨w.heap.size, 0, none⟩ = some (.pointer (some ⟨p, 0, none⟩)))) (by kernel_rfl) s2 (fun hHeld => ?_)
      refine wpAnyH_take (i := 1) (v := ?_) rfl (by kernel_rfl) (by kernel_rfl) (by kernel_rfl) (fun _ _ _ h => h) (Or.inl ⟨by rfl, ?_⟩) (by assumption) ?_
      rotate_left
      · intro w' hSw
        try dsimp only at hSw
        go_simp
        first | done | (with_reducible rfl)
      try simp only [List.getElem_toArray, List.getElem_cons_succ, List.getElem_cons_zero, Act.put, List.setIfInBounds_toArray, List.set_cons_zero, List.set_cons_succ]
      refine wpAnyH_ready (rs := [0, 2]) (by kernel_rfl) (by simp) ?_
      refine AllReadyH.cons rfl (fun K hK => ?_) (AllReadyH.cons rfl (fun K hK => ?_) AllReadyH.nil)
      · go_simp
        refine hK.out _ _ s2 (fun hHeld => ?_)
        clear hK K
        try simp only [List.getElem_toArray, List.getElem_cons_succ, List.getElem_cons_zero, Act.put, List.setIfInBounds_toArray, List.set_cons_zero, List.set_cons_succ]
        refine wpAnyH_ready (rs := [2]) (by kernel_rfl) (by simp) ?_
        refine AllReadyH.cons rfl (fun K hK => ?_) AllReadyH.nil
        go_simp
        refine (HLE.out _ HX.out).mono ?_
        rintro e w3 ⟨E, d3, rfl, hz3, hr3, hc3⟩
        have HX := Lib.hid (HX.out.trans hc3 (fun _ _ e => e))
        have HZ3 := Lib.hid hz3
        have HR3 := Lib.hid hr3
        clear hz3 hr3 hc3
        have s3 := HKEEP.out _ HX.out
        unfold ltC
        go_wp2_with fail
        refine hK.out _ _ s3 (fun hHeld => ?_)
        clear hK K
        try simp only [List.getElem_toArray, List.getElem_cons_succ, List.getElem_cons_zero, Act.put, List.setIfInBounds_toArray, List.set_cons_zero, List.set_cons_succ]
        have s3a := HKEEP.out _ (HX.out.alloc (.cells #[.int .i64 mi, .int .i64 pe, .int .i64 go, .int .i64 0, .slice E 0 d3] 24))
        refine wpAnyH_ready (rs := [3]) (by kernel_rfl) (by simp) ?_
        refine AllReadyH.cons rfl (fun K hK => ?_) AllReadyH.nil
        go_simp
        refine hK.out _ _ s3a (fun hHeld => ?_)
        clear hK K
        try simp only [List.getElem_toArray, List.getElem_cons_succ, List.getElem_cons_zero, Act.put, List.setIfInBounds_toArray, List.set_cons_zero, List.set_cons_succ]
        refine wpAnyH_ready (rs := [4]) (by kernel_rfl) (by simp) ?_
        refine AllReadyH.cons rfl (fun K hK => ?_) AllReadyH.nil
        refine step_app11 _ rfl (.tmp 25) (.tmp 28) 59 rfl w.heap.size 24 i0 _ 5 56 Try.underlying59 hi0 hz0 hz1 hz2 rfl (by decide) (.slice A1 n1 c1) n1 _ rfl ((own_chg HB1.out.2.1 HX.out (fun _ _ => id)).alloc _) ⟨w3.heap.size, 0, none⟩ 1 1 [.int .i64 mi, .int .i64 pe, .int .i64 go, .int .i64 0, .slice E 0 d3] rfl rfl (fun j u hu => by rw [show (⟨w3.heap.size, 0, none⟩ : Addr).add j = ⟨w3.heap.size, j, none⟩ from by unfold Addr.add; split <;> simp_all, (Blk.new w3 24 #[.int .i64 mi, .int .i64 pe, .int .i64 go, .int .i64 0, .slice E 0 d3]).cell j]; simpa using hu) (by simp [Value.oneCell']) (by unfold maxLen; omega) (by omega) (by have := HX.out.size; have := HBS.out; simp; omega) ?_
        intro v5 w5 hown5 hg5 hat5
        obtain ⟨A5, c5, rfl, _, _⟩ := own_form hown5
        obtain ⟨hbox, hch, hc1, hf1⟩ := HB1.out.app HX.out ⟨mi, pe, go, 0, []⟩ HZ3.out rfl HR3.out HBS.out hown5 hg5 hat5
        have HBOX := Lib.hid hbox
        have HCH := Lib.hid hch
        have s5 := HKEEPB.out _ (((HX.out.alloc _).mono (fun _ _ h => h.elim)).grown hg5 (fun k hk _ => .inr (by rw [own_block] at hk; exact hk)))
        have s6 := HKEEPB.out _ HCH.out
        clear hbox hch hown5 hg5 hat5
        refine hK.out _ _ s5 (fun hHeld => ?_)
        clear hK K
        try simp only [List.getElem_toArray, List.getElem_cons_succ, List.getElem_cons_zero, Act.put, List.setIfInBounds_toArray, List.set_cons_zero, List.set_cons_succ]
        refine wpAnyH_ready (rs := [5]) (by kernel_rfl) (by simp) ?_
        refine AllReadyH.cons rfl (fun K hK => ?_) AllReadyH.nil
        go_simp
        refine hK.out _ _ s6 (fun hHeld => ?_)
        clear hK K
        refine wpAnyH_done (by kernel_rfl) ?_ _
        refine NoPanic.normal ?_
        have HKD := Lib.hid ((Chg.keepsFrom HCH.out w.heap.size HROW.out).same D _ HD.out HKD.out rfl)
        clear hHeld s2 s3 s3a s5 s6
        try clear z3 z4
        gi_wp2
        refine ⟨by simp, .inl ⟨_, _, rfl, run_takeDeferred HKD.out, ?_⟩⟩
        refine ⟨_, results_tmp rfl _ _ _, out_end ?_ HKD.out HD.out (HBW.out.trans (HBEL.out _ HCH.out)) HBOX.out⟩
        rw [HOE.out, show (List.finRange m).map f = [] from List.eq_nil_of_length_eq_zero (by have := HLN.out; simp; omega)]
        rfl
      · go_simp
        refine (HLE.out _ HX.out).mono ?_
        rintro e w3 ⟨E, d3, rfl, hz3, hr3, hc3⟩
        have HX := Lib.hid (HX.out.trans hc3 (fun _ _ e => e))
        have HZ3 := Lib.hid hz3
        have HR3 := Lib.hid hr3
        clear hz3 hr3 hc3
        have s3 := HKEEP.out _ HX.out
        unfold ltC
        go_wp2_with fail
        refine hK.out _ _ s3 (fun hHeld => ?_)
        clear hK K
        try simp only [List.getElem_toArray, List.getElem_cons_succ, List.getElem_cons_zero, Act.put, List.setIfInBounds_toArray, List.set_cons_zero, List.set_cons_succ]
        have s3a := HKEEP.out _ (HX.out.alloc (.cells #[.int .i64 mi, .int .i64 pe, .int .i64 go, .int .i64 0, .slice E 0 d3] 24))
        have z3 := (box_cell (HB1.out.new HX.out)).1
        have z4 := (box_cell (HB1.out.new (HX.out.alloc (.cells #[.int .i64 mi, .int .i64 pe, .int .i64 go, .int .i64 0, .slice E 0 d3] 24)))).1
        refine wpAnyH_ready (rs := [0, 3]) (by kernel_rfl) (by simp) ?_
        refine AllReadyH.cons rfl (fun K hK => ?_) (AllReadyH.cons rfl (fun K hK => ?_) AllReadyH.nil)
        · go_simp
          refine hK.out _ _ s3 (fun hHeld => ?_)
          clear hK K
          try simp only [List.getElem_toArray, List.getElem_cons_succ, List.getElem_cons_zero, Act.put, List.setIfInBounds_toArray, List.set_cons_zero, List.set_cons_succ]
          refine wpAnyH_ready (rs := [3]) (by kernel_rfl) (by simp) ?_
          refine AllReadyH.cons rfl (fun K hK => ?_) AllReadyH.nil
          go_simp
          refine hK.out _ _ s3a (fun hHeld => ?_)
          clear hK K
          try simp only [List.getElem_toArray, List.getElem_cons_succ, List.getElem_cons_zero, Act.put, List.setIfInBounds_toArray, List.set_cons_zero, List.set_cons_succ]
          refine wpAnyH_ready (rs := [4]) (by kernel_rfl) (by simp) ?_
          refine AllReadyH.cons rfl (fun K hK => ?_) AllReadyH.nil
          refine step_app11 _ rfl (.tmp 25) (.tmp 28) 59 rfl w.heap.size 24 i0 _ 5 56 Try.underlying59 hi0 hz0 hz1 hz2 rfl (by decide) (.slice A1 n1 c1) n1 _ rfl ((own_chg HB1.out.2.1 HX.out (fun _ _ => id)).alloc _) ⟨w3.heap.size, 0, none⟩ 1 1 [.int .i64 mi, .int .i64 pe, .int .i64 go, .int .i64 0, .slice E 0 d3] rfl rfl (fun j u hu => by rw [show (⟨w3.heap.size, 0, none⟩ : Addr).add j = ⟨w3.heap.size, j, none⟩ from by unfold Addr.add; split <;> simp_all, (Blk.new w3 24 #[.int .i64 mi, .int .i64 pe, .int .i64 go, .int .i64 0, .slice E 0 d3]).cell j]; simpa using hu) (by simp [Value.oneCell']) (by unfold maxLen; omega) (by omega) (by have := HX.out.size; have := HBS.out; simp; omega) ?_
          intro v5 w5 hown5 hg5 hat5
          obtain ⟨A5, c5, rfl, _, _⟩ := own_form hown5
          obtain ⟨hbox, hch, hc1, hf1⟩ := HB1.out.app HX.out ⟨mi, pe, go, 0, []⟩ HZ3.out rfl HR3.out HBS.out hown5 hg5 hat5
          have HBOX := Lib.hid hbox
          have HCH := Lib.hid hch
          have s5 := HKEEPB.out _ (((HX.out.alloc _).mono (fun _ _ h => h.elim)).grown hg5 (fun k hk _ => .inr (by rw [own_block] at hk; exact hk)))
          have s6 := HKEEPB.out _ HCH.out
          clear hbox hch hown5 hg5 hat5
          refine hK.out _ _ s5 (fun hHeld => ?_)
          clear hK K
          try simp only [List.getElem_toArray, List.getElem_cons_succ, List.getElem_cons_zero, Act.put, List.setIfInBounds_toArray, List.set_cons_zero, List.set_cons_succ]
          refine wpAnyH_ready (rs := [5]) (by kernel_rfl) (by simp) ?_
          refine AllReadyH.cons rfl (fun K hK => ?_) AllReadyH.nil
          go_simp
          refine hK.out _ _ s6 (fun hHeld => ?_)
          clear hK K
          refine wpAnyH_done (by kernel_rfl) ?_ _
          refine NoPanic.normal ?_
          have HKD := Lib.hid ((Chg.keepsFrom HCH.out w.heap.size HROW.out).same D _ HD.out HKD.out rfl)
          clear hHeld s2 s3 s3a s5 s6
          try clear z3 z4
          gi_wp2
          refine ⟨by simp, .inl ⟨_, _, rfl, run_takeDeferred HKD.out, ?_⟩⟩
          refine ⟨_, results_tmp rfl _ _ _, out_end ?_ HKD.out HD.out (HBW.out.trans (HBEL.out _ HCH.out)) HBOX.out⟩
          rw [HOE.out, show (List.finRange m).map f = [] from List.eq_nil_of_length_eq_zero (by have := HLN.out; simp; omega)]
          rfl
        · go_simp
          refine hK.out _ _ s3a (fun hHeld => ?_)
          clear hK K
          try simp only [List.getElem_toArray, List.getElem_cons_succ, List.getElem_cons_zero, Act.put, List.setIfInBounds_toArray, List.set_cons_zero, List.set_cons_succ]
          refine wpAnyH_ready (rs := [0]) (by kernel_rfl) (by simp) ?_
          refine AllReadyH.cons rfl (fun K hK => ?_) AllReadyH.nil
          go_simp
          refine hK.out _ _ s3a (fun hHeld => ?_)
          clear hK K
          try simp only [List.getElem_toArray, List.getElem_cons_succ, List.getElem_cons_zero, Act.put, List.setIfInBounds_toArray, List.set_cons_zero, List.set_cons_succ]
          refine wpAnyH_ready (rs := [4]) (by kernel_rfl) (by simp) ?_
          refine AllReadyH.cons rfl (fun K hK => ?_) AllReadyH.nil
          refine step_app11 _ rfl (.tmp 25) (.tmp 28) 59 rfl w.heap.size 24 i0 _ 5 56 Try.underlying59 hi0 hz0 hz1 hz2 rfl (by decide) (.slice A1 n1 c1) n1 _ rfl ((own_chg HB1.out.2.1 HX.out (fun _ _ => id)).alloc _) ⟨w3.heap.size, 0, none⟩ 1 1 [.int .i64 mi, .int .i64 pe, .int .i64 go, .int .i64 0, .slice E 0 d3] rfl rfl (fun j u hu => by rw [show (⟨w3.heap.size, 0, none⟩ : Addr).add j = ⟨w3.heap.size, j, none⟩ from by unfold Addr.add; split <;> simp_all, (Blk.new w3 24 #[.int .i64 mi, .int .i64 pe, .int .i64 go, .int .i64 0, .slice E 0 d3]).cell j]; simpa using hu) (by simp [Value.oneCell']) (by unfold maxLen; omega) (by omega) (by have := HX.out.size; have := HBS.out; simp; omega) ?_
          intro v5 w5 hown5 hg5 hat5
          obtain ⟨A5, c5, rfl, _, _⟩ := own_form hown5
          obtain ⟨hbox, hch, hc1, hf1⟩ := HB1.out.app HX.out ⟨mi, pe, go, 0, []⟩ HZ3.out rfl HR3.out HBS.out hown5 hg5 hat5
          have HBOX := Lib.hid hbox
          have HCH := Lib.hid hch
          have s5 := HKEEPB.out _ (((HX.out.alloc _).mono (fun _ _ h => h.elim)).grown hg5 (fun k hk _ => .inr (by rw [own_block] at hk; exact hk)))
          have s6 := HKEEPB.out _ HCH.out
          clear hbox hch hown5 hg5 hat5
          refine hK.out _ _ s5 (fun hHeld => ?_)
          clear hK K
          try simp only [List.getElem_toArray, List.getElem_cons_succ, List.getElem_cons_zero, Act.put, List.setIfInBounds_toArray, List.set_cons_zero, List.set_cons_succ]
          refine wpAnyH_ready (rs := [5]) (by kernel_rfl) (by simp) ?_
          refine AllReadyH.cons rfl (fun K hK => ?_) AllReadyH.nil
          go_simp
          refine hK.out _ _ s6 (fun hHeld => ?_)
          clear hK K
          refine wpAnyH_done (by kernel_rfl) ?_ _
          refine NoPanic.normal ?_
          have HKD := Lib.hid ((Chg.keepsFrom HCH.out w.heap.size HROW.out).same D _ HD.out HKD.out rfl)
          clear hHeld s2 s3 s3a s5 s6
          try clear z3 z4
          gi_wp2
          refine ⟨by simp, .inl ⟨_, _, rfl, run_takeDeferred HKD.out, ?_⟩⟩
          refine ⟨_, results_tmp rfl _ _ _, out_end ?_ HKD.out HD.out (HBW.out.trans (HBEL.out _ HCH.out)) HBOX.out⟩
          rw [HOE.out, show (List.finRange m).map f = [] from List.eq_nil_of_length_eq_zero (by have := HLN.out; simp; omega)]
          rfl
    · have HOE := Lib.hid (outS_some (x := ⟨mi, pe, nx, go, q⟩) (m := m) (by exact HM.out) (by omega))
      rw [show min m 8 = m from by omega] at HOE
      clear hBW hK h8
      have HLN := Lib.hid hln
      clear hln
      gi_wp2
      refine ⟨by simp, .inl ⟨_, _, rfl, run_takeDeferred HKD.out, ?_⟩⟩
      refine ⟨_, results_tmp rfl _ _ _, out_end ?_ HKD.out HD.out HBW.out hbx⟩
      rw [HOE.out, HF.out]
      exact (finR_map m _).symm
  case stop =>
    rintro D cd pre W hD hBW hpre ⟨rfl, pre', i, rfl, h8, h88, hb0, A1, n1, c1, ys, hbx⟩ hK
    have hln : n1 = 8 := by have := hbx.2.2.2; simp at this; omega
    have hpl := hpre.length_le
    simp only [List.length_append, List.length_cons, List.length_nil, List.length_finRange] at hpl
    have hpe : pre' = (List.finRange m).take 8 := by
      have h1 : pre' <+: List.finRange m := (List.prefix_append _ _).trans hpre
      rw [List.prefix_iff_eq_take] at h1
      rwa [h8] at h1
    have HOE := Lib.hid (outS_some (x := ⟨mi, pe, nx, go, q⟩) (m := m) (by exact HM.out) (by omega))
    rw [show min m 8 = 8 from by omega] at HOE
    have HD := Lib.hid (show w.heap.size ≤ D from Nat.le_trans HSZ2.out hD)
    have HBW := Lib.hid (HB2.out.trans hBW)
    have HKD := Lib.hid hK
    have HPE := Lib.hid hpe
    obtain ⟨hc1, hf1⟩ := box_cell hbx
    subst hln
    have hm9 : 9 ≤ m := by omega
    clear hBW hK h8 h88 hpe hpl hpre
    gi_wp2
    refine ⟨by simp, .inl ⟨_, _, rfl, run_takeDeferred HKD.out, ?_⟩⟩
    refine ⟨_, results_tmp rfl _ _ _, out_end ?_ HKD.out HD.out HBW.out hbx⟩
    rw [HOE.out, HPE.out, HF.out, List.map_take, finR_map m (letS ⟨mi, pe, nx, go, q⟩), ← List.map_take, List.take_range]
    congr 2
    omega

end Go.Proofs.Ytbbjecjhkjjbkaa
