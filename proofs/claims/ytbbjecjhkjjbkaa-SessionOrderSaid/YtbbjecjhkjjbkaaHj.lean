/-
  Walk: act, of two ends. Conditions: both lie in memory.
-/
import Derived.Test.YtbbjecjhkjjbkaaHi
namespace Go.Proofs.Ytbbjecjhkjjbkaa
open Go.RowKit
set_option linter.unusedVariables false
set_option linter.unusedSimpArgs false

/-- What an act leaves. -/
def ActP (B j L M e d : Nat) (w : World) (E : Ending) (w' : World) : Prop := E = .returned (.bool true) ∧ ∃ f' x' y', EN11 B w' f' L e x' ∧ EN11 B w' f' M d y' ∧ FR B w' f' ∧ Two11 (j + 1) x' y' ∧ Chg (fun k => B ≤ k) w w'
theorem byte_of11 {n : Int} (h : 0 ≤ n ∧ n ≤ 255) : ∃ c : UInt8, IntKind.u8.wrap n = (c.toNat : Int) := ⟨UInt8.ofNat n.toNat, by
  rw [IntKind.wrap_u8', UInt8.toNat_ofNat', Nat.mod_eq_of_lt (by omega)]
  omega⟩
theorem mv_cells {w : World} {g : Nat} {T : TypeId} {sec : Bool} {wh at_ : Int} (h : Blk w g T #[.bool sec, .int .u8 wh, .int .u8 at_]) : w.cell? ⟨g, 0, none⟩ = some (.bool sec) ∧ w.cell? ⟨g, 1, none⟩ = some (.int .u8 wh) ∧ w.cell? ⟨g, 2, none⟩ = some (.int .u8 at_) := by
  have h0 := h.cell 0
  have h1 := h.cell 1
  have h2 := h.cell 2
  simp only [List.getElem?_toArray, List.getElem?_cons_zero, List.getElem?_cons_succ] at h0 h1 h2
  exact ⟨h0, h1, h2⟩
set_option maxRecDepth 100000 in
set_option maxHeartbeats 4000000 in
theorem act_push (B j L M e d : Nat) (f : Nat → Option Nat) (x y : EV) (sec : Bool) (wh at_ n : Int) (w : World) (hf : FR B w f) (hx : EN11 B w f L e x) (hy : EN11 B w f M d y) (hT : Two11 j x y) (hj : j ≤ 120) (hL : L ≤ 90) (hM : M ≤ 90) (hLM : L + 5 < M ∨ M + 5 < L) (hn : 0 ≤ n ∧ n ≤ 255) (hwh : 0 ≤ wh ∧ wh ≤ 255) (hat : 0 ≤ at_ ∧ at_ ≤ 255) (h3 : wh % 10 < 3) : Calls Try.prog 24 #[.pointer (some ⟨e, 0, none⟩), .pointer (some ⟨d, 0, none⟩), .agg #[.bool sec, .int .u8 wh, .int .u8 at_], .int .i64 n] w (ActP B j L M e d w) := by
  have hc0 := (Chg.refl (fun _ => False) w).alloc (.cells #[.bool sec, .int .u8 wh, .int .u8 at_] 68)
  have HF := Lib.hid (hf.size hc0.size)
  have HX := Lib.hid (hx.new hf hc0)
  have HY := Lib.hid (hy.new hf hc0)
  have HC := Lib.hid (hc0.mono (S' := fun k => B ≤ k) (fun _ _ h => h.elim))
  have HBX : Hid (KB B (w.alloc (.cells #[.bool sec, .int .u8 wh, .int .u8 at_] 68)) f w.heap.size 68 #[.bool sec, .int .u8 wh, .int .u8 at_]) := Lib.hid (KB.mk hf 68 _)
  have HT := Lib.hid hT
  clear hc0 hx hy hf hT
  obtain ⟨m0, m1, m2⟩ := mv_cells HBX.out.2
  obtain ⟨c, hcw⟩ := byte_of11 hn
  obtain ⟨i0, hi0, hz0, hz1, hz2⟩ := info_parts infoByte
  go_enter Try.func24, Try.ntmps24
  go_upto_region 1 with fail
  generalize w.alloc (.cells #[.bool sec, .int .u8 wh, .int .u8 at_] 68) = w1 at *
  generalize hb0 : w.heap.size = b0 at *
  clear hb0
  obtain ⟨p, I, ni, ic, O, m, oc, T, t, tc, ys, hx⟩ := HX.out
  have HEP := Lib.hid hx
  clear hx HX
  obtain ⟨z0, z1, z2, z3, z4, z5⟩ := en_cells HEP.out.blk
  have hca := (Chg.refl (fun _ => False) w1).alloc (.cells #[.int .u8 (c.toNat : Int)] 5)
  have HRW := Lib.hid (rds_new1 w1 5 #[.int .u8 (c.toNat : Int)] (0, 0) w1.heap.size rfl (bcs [c]) 1 rfl rfl)
  have HPU := Lib.hid (en_push (HEP.out.new HF.out hca) (HF.out.size hca.size) HT.out.a.q64 (b := [c]) (A := some ⟨w1.heap.size, 0, none⟩) (k := 1) (c := 1) rfl HRW.out (fun h => nomatch h) (by decide))
  have HPV := Lib.hid (show pushV x c = { x with sv := pushS x.sv [c], inp := if pushE x.sv [c] = 0 then x.inp ++ [c] else x.inp } from rfl)
  have HK1 := Lib.hid (Keeps.new (L := L) HF.out hca)
  generalize pushE x.sv [c] = pe at *
  clear hca
  go_wp2_with fail
  refine HPU.out.mono ?_
  rintro E w3 ⟨f3, rfl, hep, hkp⟩
  have HEP3 := Lib.hid hep
  have HK3 := Lib.hid (HK1.out.trans hkp)
  clear hep hkp HPU m0 m1 m2 z0 z1 z2 z3 z4 z5
  by_cases hp0 : pe = 0
  case neg =>
    have HE := Lib.hid hp0
    have tp : (pe == 0) = false := by simpa using hp0
    clear hp0
    obtain ⟨m0, m1, m2⟩ := mv_cells (HK3.out.blk _ _ _ HBX.out).2
    go_wp2_with fail
    go_ret
    refine ⟨rfl, f3, pushV x c, y, ?_, HK3.out.oth M hM (by omega) d y HY.out, HK3.out.fr, HT.out.push c, HC.out.trans HK3.out.chg (fun _ _ e => e)⟩
    rw [HPV.out, if_neg HE.out]
    exact ⟨_, _, _, _, _, _, _, _, _, _, _, HEP3.out⟩
  case pos =>
    subst hp0
    obtain ⟨z0, z1, z2, z3, z4, z5⟩ := en_cells HEP3.out.blk
    have hca := (Chg.refl (fun _ => False) w3).alloc (.cells #[.int .u8 (c.toNat : Int)] 5)
    have HEP4 := Lib.hid (HEP3.out.new HK3.out.fr hca)
    have HF4 := Lib.hid (HK3.out.fr.size hca.size)
    have HK4 := Lib.hid (HK3.out.trans (Keeps.new (L := L) HK3.out.fr hca))
    have HRW4 := Lib.hid (rds_new1 w3 5 #[.int .u8 (c.toNat : Int)] (0, 0) w3.heap.size rfl (bcs [c]) 1 rfl rfl)
    have hni : ni ≤ 1000 := by have h1 := HEP4.out.ino; have h2 := HT.out.a.il; simp only at h1; omega
    clear hca
    go_wp2_with (at_builtin; refine wpList_own_append _ rfl (.tmp 27) (.tmp 30) 22 rfl 0 5 i0 (.int .u8 0) 1 Try.underlying22 hi0 hz0 hz1 hz2 rfl (.slice I ni ic) ni _ rfl HEP4.out.inn _ (some ⟨w3.heap.size, 0, none⟩) 1 1 (bcs [c]) rfl HRW4.out (bcs_one _) (by unfold maxLen; omega) (by omega) (Nat.zero_le _) ?_; intro v' w5 hown hg hat5; obtain ⟨I', ic', rfl, _, _⟩ := own_form hown; obtain ⟨hr5, hc5, _⟩ := app_ren (D := fun a => a = L + 3) HF4.out HEP4.out.il hown hg hat5 rfl; have HB5 := Lib.hid (HEP4.out.blk.chg hc5 (Tn.not HF4.out HEP4.out.le (by omega))); obtain ⟨f6, hen6, hr6, hc6⟩ := HEP4.out.pushed HF4.out (b := [c]) (by rw [HEP4.out.ino]; rfl) hown hg hat5 rfl; have HEN6 := Lib.hid hen6; have HK6 := Lib.hid (HK4.out.trans (Keeps.of HF4.out hr6 hc6 (fun a ha => by omega))); have q2 := (en_cells HB5.out).2.2.1; have u2 := HB5.out.frozen 2; clear hen6 hr6 hc6 hr5 hc5 hown hg hat5)
    go_ret
    refine ⟨rfl, f6, pushV x c, y, ?_, HK6.out.oth M hM (by omega) d y HY.out, HK6.out.fr, HT.out.push c, HC.out.trans HK6.out.chg (fun _ _ e => e)⟩
    rw [HPV.out, if_pos trivial]
    exact HEN6.out.en
theorem s7_of {B : Nat} {w : World} {f : Nat → Option Nat} {L e : Nat} {x : EV} {g t tc b0 jn : Nat} {ys : List LA} {yl : LA} {sec : Bool} {wh at_ : Int} (h : EN11T B w f L e x (some ⟨g, 0, none⟩) t tc ys) (hb : KB B w f b0 68 #[.bool sec, .int .u8 wh, .int .u8 at_]) (hy : ys[jn]? = some yl) :
    w.cell? ⟨e, 5, none⟩ = some (.slice (some ⟨g, 0, none⟩) t tc) ∧ w.cell? ⟨b0, 2, none⟩ = some (.int .u8 at_) ∧ w.cell? ⟨g, jn * 5, none⟩ = some (.int .i64 yl.mi) ∧ w.cell? ⟨g, jn * 5 + 1, none⟩ = some (.int .i64 yl.pe) ∧ w.cell? ⟨g, jn * 5 + 2, none⟩ = some (.int .i64 yl.ac) ∧ w.cell? ⟨g, jn * 5 + 3, none⟩ = some (.int .i64 yl.se) ∧ w.cell? ⟨g, jn * 5 + 4, none⟩ = some (.slice yl.A yl.n yl.c) := by
  obtain ⟨p, I, n, ic, O, m, oc, h⟩ := h
  exact ⟨(en_cells h.blk).2.2.2.2.2, (mv_cells hb.2).2.2, lrow_at h.row hy⟩
theorem tkE_of {x : SV} {l : LV} (h : ltR l.mi l.pe l.ac l.se l.b.length = true) : tkE x l = 0 ∨ tkE x l = 7 := by
  unfold tkE
  rw [if_pos h]
  split
  · exact .inr rfl
  · exact .inl rfl
set_option maxRecDepth 100000 in
set_option maxHeartbeats 4000000 in
theorem act_take (B j L M e d : Nat) (f : Nat → Option Nat) (x y : EV) (sec : Bool) (wh at_ n : Int) (w : World) (hf : FR B w f) (hx : EN11 B w f L e x) (hy : EN11 B w f M d y) (hT : Two11 j x y) (hj : j ≤ 120) (hL : L ≤ 90) (hM : M ≤ 90) (hLM : L + 5 < M ∨ M + 5 < L) (hn : 0 ≤ n ∧ n ≤ 255) (hwh : 0 ≤ wh ∧ wh ≤ 255) (hat : 0 ≤ at_ ∧ at_ ≤ 255) (h5 : ¬ wh % 10 < 5) : Calls Try.prog 24 #[.pointer (some ⟨e, 0, none⟩), .pointer (some ⟨d, 0, none⟩), .agg #[.bool sec, .int .u8 wh, .int .u8 at_], .int .i64 n] w (ActP B j L M e d w) := by
  have hc0 := (Chg.refl (fun _ => False) w).alloc (.cells #[.bool sec, .int .u8 wh, .int .u8 at_] 68)
  have HF := Lib.hid (hf.size hc0.size)
  have HX := Lib.hid (hx.new hf hc0)
  have HY := Lib.hid (hy.new hf hc0)
  have HC := Lib.hid (hc0.mono (S' := fun k => B ≤ k) (fun _ _ h => h.elim))
  have HBX : Hid (KB B (w.alloc (.cells #[.bool sec, .int .u8 wh, .int .u8 at_] 68)) f w.heap.size 68 #[.bool sec, .int .u8 wh, .int .u8 at_]) := Lib.hid (KB.mk hf 68 _)
  have HT := Lib.hid hT
  clear hc0 hx hy hf hT
  obtain ⟨m0, m1, m2⟩ := mv_cells HBX.out.2
  have h3 : ¬ wh % 10 < 3 := by omega
  go_enter Try.func24, Try.ntmps24
  go_upto_region 1 with fail
  generalize w.alloc (.cells #[.bool sec, .int .u8 wh, .int .u8 at_] 68) = w1 at *
  generalize hb0 : w.heap.size = b0 at *
  clear hb0
  obtain ⟨p, I, ni, ic, O, m, oc, T, t, tc, ys, hx⟩ := HX.out
  have HEP := Lib.hid hx
  clear hx HX
  obtain ⟨z0, z1, z2, z3, z4, z5⟩ := en_cells HEP.out.blk
  by_cases h0 : t = 0
  case pos =>
    subst h0
    go_wp2_with fail
    go_ret
    exact ⟨rfl, f, x, y, ⟨_, _, _, _, _, _, _, _, _, _, _, HEP.out⟩, HY.out, HF.out, HT.out.le (by omega), HC.out⟩
  case neg =>
    have ht0 : (0 : Int) < (t : Int) := by omega
    obtain ⟨jn, hjn, hjt⟩ : ∃ jn : Nat, at_ % (t : Int) = (jn : Int) ∧ jn < t := ⟨(at_ % (t : Int)).toNat, by rw [Int.toNat_of_nonneg (Int.emod_nonneg _ (by omega))], by
      have h1 := Int.emod_lt_of_pos at_ ht0
      have h2 := Int.emod_nonneg at_ (show (t : Int) ≠ 0 by omega)
      omega⟩
    have hjm : at_.tmod (t : Int) = (jn : Int) := by rw [Int.tmod_eq_emod_of_nonneg hat.1]; exact hjn
    obtain ⟨g, yl, l, rfl, hyl, hll, hmem, hla, -⟩ := HEP.out.letter hjt
    obtain ⟨q0, q1, q2, q3, q4, q5, q6⟩ := hla
    obtain ⟨lm, lp, la, ls, lA, ln, lc⟩ := yl
    obtain ⟨l0, l1, l2, l3, lb⟩ := l
    simp only at q0 q1 q2 q3 q4 q5 q6
    subst q0 q1 q2 q3
    obtain ⟨o1, o2, o3⟩ := HT.out.ba.ok _ hmem
    simp only at o1 o2 o3
    have HMM := Lib.hid hmem
    have hcd := (Chg.refl (fun _ => False) w1).drew
    have HKD := Lib.hid (Keeps.new (L := L) HF.out hcd)
    have HET := Lib.hid (etake11_any B f L e x lm lp la ls lb lA ln lc w1.drew (HF.out.size hcd.size) (some ⟨g, 0, none⟩) t tc ys ⟨p, I, ni, ic, O, m, oc, HEP.out.new HF.out hcd⟩ (HT.out.a.ok (by omega)) q4 (HKD.out.rds _ _ _ q6) q5 (by have := (ltR_parts o1).2.2.2.2.1; omega) (tkE_of o1) o3 (by have := HT.out.a.ol; omega) hL)
    have s2 := s7_of (yl := ⟨lm, lp, la, ls, lA, ln, lc⟩) ⟨p, I, ni, ic, O, m, oc, HEP.out.new HF.out hcd⟩ (HKD.out.blk _ _ _ HBX.out) hyl
    simp only at s2
    have HYL := Lib.hid hyl
    have c1 : (jn : Int) < (t : Int) := by omega
    have c2 : ((t : Int) == 0) = false := by rw [beq_eq_false_iff_ne]; omega
    unfold ltC at HET
    have hwp : IntKind.i64.wrap at_ = at_ := IntWalk.i64_in _ (by omega)
    clear hyl hll hmem q4 q5 q6 o1 o2 o3 hcd HEP
    go_upto_region 7 with fail
    clear z0 z1 z2 z3 z4 z5 m0 m1 m2
    refine wp_region_noPanic ?_
    refine wp_region_held_drew (S := (fun w' => w'.cell? ⟨e, 5, none⟩ = some (.slice (some ⟨g, 0, none⟩) t tc) ∧ w'.cell? ⟨b0, 2, none⟩ = some (.int .u8 at_) ∧ w'.cell? ⟨g, jn * 5, none⟩ = some (.int .i64 lm) ∧ w'.cell? ⟨g, jn * 5 + 1, none⟩ = some (.int .i64 lp) ∧ w'.cell? ⟨g, jn * 5 + 2, none⟩ = some (.int .i64 la) ∧ w'.cell? ⟨g, jn * 5 + 3, none⟩ = some (.int .i64 ls) ∧ w'.cell? ⟨g, jn * 5 + 4, none⟩ = some (.slice lA ln lc))) (by kernel_rfl) s2 (fun hHeld => ?_)
    refine wpAnyH_take (i := 0) (v := ?_) rfl (by kernel_rfl) (by kernel_rfl) (by kernel_rfl) (fun _ _ _ h => h) (Or.inl ⟨by rfl, ?_⟩) (by assumption) ?_
    rotate_left
    · intro w' hSw
      try dsimp only at hSw
      go_simp
      first | done | (with_reducible rfl)
    try simp only [List.getElem_toArray, List.getElem_cons_succ, List.getElem_cons_zero, Act.put, List.setIfInBounds_toArray, List.set_cons_zero, List.set_cons_succ]
    refine wpAnyH_take (i := 1) (v := ?_) rfl (by kernel_rfl) (by kernel_rfl) (by kernel_rfl) (fun _ _ _ h => h) (Or.inl ⟨by rfl, ?_⟩) (by assumption) ?_
    rotate_left
    · intro w' hSw
      try dsimp only at hSw
      go_simp
      first | done | (with_reducible rfl)
    try simp only [List.getElem_toArray, List.getElem_cons_succ, List.getElem_cons_zero, Act.put, List.setIfInBounds_toArray, List.set_cons_zero, List.set_cons_succ]
    refine wpAnyH_take (i := 2) (v := ?_) rfl (by kernel_rfl) (by kernel_rfl) (by kernel_rfl) (fun _ _ _ h => h) (Or.inl ⟨by rfl, ?_⟩) (by assumption) ?_
    rotate_left
    · intro w' hSw
      try dsimp only at hSw
      go_simp
      first | done | (with_reducible rfl)
    try simp only [List.getElem_toArray, List.getElem_cons_succ, List.getElem_cons_zero, Act.put, List.setIfInBounds_toArray, List.set_cons_zero, List.set_cons_succ]
    refine wpAnyH_take (i := 3) (v := ?_) rfl (by kernel_rfl) (by kernel_rfl) (by kernel_rfl) (fun _ _ _ h => h) (Or.inl ⟨by rfl, ?_⟩) (by assumption) ?_
    rotate_left
    · intro w' hSw
      try dsimp only at hSw
      go_simp
      first | done | (with_reducible rfl)
    try simp only [List.getElem_toArray, List.getElem_cons_succ, List.getElem_cons_zero, Act.put, List.setIfInBounds_toArray, List.set_cons_zero, List.set_cons_succ]
    refine wpAnyH_take (i := 4) (v := ?_) rfl (by kernel_rfl) (by kernel_rfl) (by kernel_rfl) (fun _ _ _ h => h) (Or.inl ⟨by rfl, ?_⟩) (by assumption) ?_
    rotate_left
    · intro w' hSw
      try dsimp only at hSw
      go_simp
      first | done | (with_reducible rfl)
    try simp only [List.getElem_toArray, List.getElem_cons_succ, List.getElem_cons_zero, Act.put, List.setIfInBounds_toArray, List.set_cons_zero, List.set_cons_succ]
    refine wpAnyH_take (i := 5) (v := ?_) rfl (by kernel_rfl) (by kernel_rfl) (by kernel_rfl) (fun _ _ _ h => h) (Or.inl ⟨by rfl, ?_⟩) (by assumption) ?_
    rotate_left
    · intro w' hSw
      try dsimp only at hSw
      go_simp
      first | done | (with_reducible rfl)
    try simp only [List.getElem_toArray, List.getElem_cons_succ, List.getElem_cons_zero, Act.put, List.setIfInBounds_toArray, List.set_cons_zero, List.set_cons_succ]
    refine wpAnyH_take (i := 6) (v := ?_) rfl (by kernel_rfl) (by kernel_rfl) (by kernel_rfl) (fun _ _ _ h => h) (Or.inl ⟨by rfl, ?_⟩) (by assumption) ?_
    rotate_left
    · intro w' hSw
      try dsimp only at hSw
      go_simp
      first | done | (with_reducible rfl)
    try simp only [List.getElem_toArray, List.getElem_cons_succ, List.getElem_cons_zero, Act.put, List.setIfInBounds_toArray, List.set_cons_zero, List.set_cons_succ]
    refine wpAnyH_take (i := 7) (v := ?_) rfl (by kernel_rfl) (by kernel_rfl) (by kernel_rfl) (fun _ _ _ h => h) (Or.inl ⟨by rfl, ?_⟩) (by assumption) ?_
    rotate_left
    · intro w' hSw
      try dsimp only at hSw
      go_simp
      first | done | (with_reducible rfl)
    try simp only [List.getElem_toArray, List.getElem_cons_succ, List.getElem_cons_zero, Act.put, List.setIfInBounds_toArray, List.set_cons_zero, List.set_cons_succ]
    refine wpAnyH_take (i := 8) (v := ?_) rfl (by kernel_rfl) (by kernel_rfl) (by kernel_rfl) (fun _ _ _ h => h) (Or.inl ⟨by rfl, ?_⟩) (by assumption) ?_
    rotate_left
    · intro w' hSw
      try dsimp only at hSw
      go_simp
      first | done | (with_reducible rfl)
    try simp only [List.getElem_toArray, List.getElem_cons_succ, List.getElem_cons_zero, Act.put, List.setIfInBounds_toArray, List.set_cons_zero, List.set_cons_succ]
    refine wpAnyH_take (i := 9) (v := ?_) rfl (by kernel_rfl) (by kernel_rfl) (by kernel_rfl) (fun _ _ _ h => h) (Or.inl ⟨by rfl, ?_⟩) (by assumption) ?_
    rotate_left
    · intro w' hSw
      try dsimp only at hSw
      go_simp
      first | done | (with_reducible rfl)
    try simp only [List.getElem_toArray, List.getElem_cons_succ, List.getElem_cons_zero, Act.put, List.setIfInBounds_toArray, List.set_cons_zero, List.set_cons_succ]
    refine wpAnyH_take (i := 10) (v := ?_) rfl (by kernel_rfl) (by kernel_rfl) (by kernel_rfl) (fun _ _ _ h => h) (Or.inl ⟨by rfl, ?_⟩) (by assumption) ?_
    rotate_left
    · intro w' hSw
      try dsimp only at hSw
      go_simp
      first | done | (with_reducible rfl)
    try simp only [List.getElem_toArray, List.getElem_cons_succ, List.getElem_cons_zero, Act.put, List.setIfInBounds_toArray, List.set_cons_zero, List.set_cons_succ]
    refine wpAnyH_take (i := 11) (v := ?_) rfl (by kernel_rfl) (by kernel_rfl) (by kernel_rfl) (fun _ _ _ h => h) (Or.inl ⟨by rfl, ?_⟩) (by assumption) ?_
    rotate_left
    · intro w' hSw
      try dsimp only at hSw
      go_simp
      first | done | (with_reducible rfl)
    try simp only [List.getElem_toArray, List.getElem_cons_succ, List.getElem_cons_zero, Act.put, List.setIfInBounds_toArray, List.set_cons_zero, List.set_cons_succ]
    refine wpAnyH_take (i := 12) (v := ?_) rfl (by kernel_rfl) (by kernel_rfl) (by kernel_rfl) (fun _ _ _ h => h) (Or.inl ⟨by rfl, ?_⟩) (by assumption) ?_
    rotate_left
    · intro w' hSw
      try dsimp only at hSw
      go_simp
      first | done | (with_reducible rfl)
    try simp only [List.getElem_toArray, List.getElem_cons_succ, List.getElem_cons_zero, Act.put, List.setIfInBounds_toArray, List.set_cons_zero, List.set_cons_succ]
    refine wpAnyH_take (i := 13) (v := ?_) rfl (by kernel_rfl) (by kernel_rfl) (by kernel_rfl) (fun _ _ _ h => h) (Or.inl ⟨by rfl, ?_⟩) (by assumption) ?_
    rotate_left
    · intro w' hSw
      try dsimp only at hSw
      go_simp
      first | done | (with_reducible rfl)
    try simp only [List.getElem_toArray, List.getElem_cons_succ, List.getElem_cons_zero, Act.put, List.setIfInBounds_toArray, List.set_cons_zero, List.set_cons_succ]
    refine wpAnyH_take (i := 14) (v := ?_) rfl (by kernel_rfl) (by kernel_rfl) (by kernel_rfl) (fun _ _ _ h => h) (Or.inl ⟨by rfl, ?_⟩) (by assumption) ?_
    rotate_left
    · intro w' hSw
      try dsimp only at hSw
      go_simp
      first | done | (with_reducible rfl)
    try simp only [List.getElem_toArray, List.getElem_cons_succ, List.getElem_cons_zero, Act.put, List.setIfInBounds_toArray, List.set_cons_zero, List.set_cons_succ]
    refine wpAnyH_take (i := 15) (v := ?_) rfl (by kernel_rfl) (by kernel_rfl) (by kernel_rfl) (fun _ _ _ h => h) (Or.inl ⟨by rfl, ?_⟩) (by assumption) ?_
    rotate_left
    · intro w' hSw
      try dsimp only at hSw
      go_simp
      first | done | (with_reducible rfl)
    try simp only [List.getElem_toArray, List.getElem_cons_succ, List.getElem_cons_zero, Act.put, List.setIfInBounds_toArray, List.set_cons_zero, List.set_cons_succ]
    refine wpAnyH_ready (rs := [16]) (by kernel_rfl) (by simp) ?_
    refine AllReadyH.cons rfl (fun K hK => ?_) AllReadyH.nil
    go_simp
    refine HET.out.mono ?_
    rintro E wz ⟨rfl, f2, hen, hkp⟩
    have s3 := s7_of (yl := ⟨lm, lp, la, ls, lA, ln, lc⟩) hen (hkp.blk _ _ _ (HKD.out.blk _ _ _ HBX.out)) HYL.out
    simp only at s3
    have HEN := Lib.hid hen
    have HK2 := Lib.hid (HKD.out.trans hkp)
    clear hen hkp
    go_wp2_with fail
    refine hK.out _ _ s3 (fun hHeld => ?_)
    clear hK K
    try simp only [List.getElem_toArray, List.getElem_cons_succ, List.getElem_cons_zero, Act.put, List.setIfInBounds_toArray, List.set_cons_zero, List.set_cons_succ]
    refine wpAnyH_take (i := 17) (v := ?_) rfl (by kernel_rfl) (by kernel_rfl) (by kernel_rfl) (fun _ _ _ h => h) (Or.inl ⟨by rfl, ?_⟩) (by assumption) ?_
    rotate_left
    · intro w' hSw
      try dsimp only at hSw
      go_simp
      first | done | (with_reducible rfl)
    try simp only [List.getElem_toArray, List.getElem_cons_succ, List.getElem_cons_zero, Act.put, List.setIfInBounds_toArray, List.set_cons_zero, List.set_cons_succ]
    refine wpAnyH_done (by kernel_rfl) ?_ _
    refine NoPanic.normal ?_
    clear hHeld s2 s3
    go_wp2_with fail
    go_ret
    exact ⟨rfl, f2, _, y, HEN.out.en, HK2.out.oth M hM (by omega) d y HY.out, HK2.out.fr, HT.out.take HMM.out, HC.out.trans HK2.out.chg (fun _ _ e => e)⟩

end Go.Proofs.Ytbbjecjhkjjbkaa
