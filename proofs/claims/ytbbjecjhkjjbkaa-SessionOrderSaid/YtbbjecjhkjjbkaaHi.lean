/-
  Walk: end.take. Conditions: the end lies in memory; the letter may be.
-/
import Derived.Test.YtbbjecjhkjjbkaaHh
import Derived.Deep.RegionHeld3
namespace Go.Proofs.Ytbbjecjhkjjbkaa
open Go.RowKit
set_option linter.unusedVariables false
set_option linter.unusedSimpArgs false

theorem en_first {w : World} {e p : Nat} {boot known : Int} {I O T : Option Addr} {n ic m oc t tc : Nat} {TY : TypeId} (h : Blk w e TY (endC p boot I n ic O m oc known T t tc)) : w.cell? ⟨e, 0, none⟩ = some (.pointer (some ⟨p, 0, none⟩)) := (en_cells h).1
theorem got_one {x : SV} {l : LV} (hlen : l.se ≠ 0 → l.b.length = 1) (hgo : 0 ≤ x.go) (h : tkGot x l = true) : ∃ c, tkB x l = [c] := by
  have h1 := h
  unfold tkGot tkHit at h1
  simp only [Bool.and_eq_true, decide_eq_true_eq] at h1
  have h2 : 0 ≤ (tkS1 x l).go := by
    unfold tkS1
    split
    · show (0 : Int) ≤ 0; omega
    · exact hgo
  have h3 := hlen (by omega)
  unfold tkB
  rw [if_pos h]
  match hb : l.b, h3 with
  | [c], _ => exact ⟨c, rfl⟩
theorem got_none {x : SV} {l : LV} (h : tkGot x l = false) : tkB x l = [] := by
  unfold tkB
  rw [h]
  rfl
theorem one_byte {w : World} {S : Nat → Prop} {A : Option Addr} {b : List UInt8} {c : UInt8} (h : Rds w S A 1 (bcs b)) (hb : b = [c]) : ∃ a, A = some a ∧ (a.block < w.heap.size ∧ w.cell? a = some (.int .u8 (c.toNat : Int)) ∧ S a.block) := by
  subst hb
  obtain ⟨ad, rfl, hs, hlt, hc⟩ := h.2 (by omega)
  have := hc 0 _ rfl
  exact ⟨ad, rfl, hlt, this, hs⟩
theorem stale_none {x : SV} {l : LV} (h : tkE x l = 7) : tkRes x l = false ∧ tkGot x l = false := by
  have ho : tkOk x l = false := by
    unfold tkE at h
    unfold tkOk
    split at h
    · split at h
      · have : decide (x.pe ≤ l.mi) = false := by simp; omega
        rw [this, Bool.and_false]
      · omega
    · omega
  obtain ⟨_, h2, h3, _⟩ := tk_off ho
  exact ⟨h2, h3⟩
set_option maxRecDepth 100000 in
set_option maxHeartbeats 8000000 in
theorem etake11_any (B : Nat) (f : Nat → Option Nat) (L e : Nat) (x : EV) (lm lp la ls : Int) (lb : List UInt8) (A : Option Addr) (k c : Nat) (w : World) (hf : FR B w f) (T : Option Addr) (t tc : Nat) (ys : List LA) (h : EN11T B w f L e x T t tc ys) (hok : SOk x.sv) (hk : k = lb.length) (hr : Rds w (fun k => Gf B f k ∧ k < w.heap.size) A k (bcs lb)) (hz : A = none → c = 0) (hm : k ≤ 1000) (hte : tkE x.sv ⟨lm, lp, la, ls, lb⟩ = 0 ∨ tkE x.sv ⟨lm, lp, la, ls, lb⟩ = 7) (hlen : ls ≠ 0 → lb.length = 1) (hol : x.out.length ≤ 1000) (hL : L ≤ 90) : Calls Try.prog 48 #[.pointer (some ⟨e, 0, none⟩), .agg (ltC lm lp la ls A k c)] w fun E w' => E = .returned (.bool true) ∧ ∃ f', EN11T B w' f' L e (takeV x ⟨lm, lp, la, ls, lb⟩) T t tc ys ∧ Keeps B w w' f f' L := by
  obtain ⟨p, I, n, ic, O, m, oc, h⟩ := h
  have hc0 := (Chg.refl (fun _ => False) w).alloc (.cells #[.int .i64 lm, .int .i64 lp, .int .i64 la, .int .i64 ls, .slice A k c] 24)
  have HF := Lib.hid (hf.size hc0.size)
  have HEP := Lib.hid (h.new hf hc0)
  have HKP := Lib.hid (Keeps.new (L := L) hf hc0)
  have HBX : Hid (KB B (w.alloc (.cells #[.int .i64 lm, .int .i64 lp, .int .i64 la, .int .i64 ls, .slice A k c] 24)) f w.heap.size 24 (ltC lm lp la ls A k c)) := Lib.hid (KB.mk hf 24 (ltC lm lp la ls A k c))
  have HRB := Lib.hid (HKP.out.rds _ _ _ hr)
  have HTV := Lib.hid (show takeV x ⟨lm, lp, la, ls, lb⟩ = { x with sv := tkS x.sv ⟨lm, lp, la, ls, lb⟩, known := if tkRes x.sv ⟨lm, lp, la, ls, lb⟩ = true then lm else x.known, inp := if tkRes x.sv ⟨lm, lp, la, ls, lb⟩ = true then [] else x.inp, out := (if tkRes x.sv ⟨lm, lp, la, ls, lb⟩ = true then [] else x.out) ++ tkB x.sv ⟨lm, lp, la, ls, lb⟩ } from rfl)
  have HG1 := Lib.hid (got_one (x := x.sv) (l := ⟨lm, lp, la, ls, lb⟩) hlen hok.go0.1)
  have HG0 := Lib.hid (got_none (x := x.sv) (l := ⟨lm, lp, la, ls, lb⟩))
  have HST := Lib.hid (stale_none (x := x.sv) (l := ⟨lm, lp, la, ls, lb⟩))
  have HTE := Lib.hid hte
  have HTK := Lib.hid (fun (W : World) (g : Nat → Option Nat) (h1 : FR B W g) (h2 : ENP B W g L e x p I n ic O m oc T t tc ys) (h3 : Rds W (fun k => Gf B g k ∧ k < W.heap.size) A k (bcs lb)) => en_take h2 h1 hok (l := ⟨lm, lp, la, ls, lb⟩) hk h3 hz (by omega) hL)
  unfold ltC TkE tkC at HTK
  have HOL := Lib.hid hol
  clear hc0 h hr hlen hte hok hz hol hk
  generalize tkE x.sv ⟨lm, lp, la, ls, lb⟩ = te at *
  generalize tkB x.sv ⟨lm, lp, la, ls, lb⟩ = tb at *
  generalize tkGot x.sv ⟨lm, lp, la, ls, lb⟩ = tg at *
  generalize tkRes x.sv ⟨lm, lp, la, ls, lb⟩ = tr at *
  generalize tkS x.sv ⟨lm, lp, la, ls, lb⟩ = sv2 at *
  generalize htl : tb.length = tl at *
  have HTL := Lib.hid htl
  clear htl
  unfold ltC
  go_enter Try.func48, Try.ntmps48
  go_upto_region 1 with fail
  generalize w.alloc (.cells #[.int .i64 lm, .int .i64 lp, .int .i64 la, .int .i64 ls, .slice A k c] 24) = w1 at *
  generalize hb0 : w.heap.size = b0 at *
  have HK1 : Hid (∀ W : World, Chg (fun _ => False) w1 W → (W.cell? ⟨e, 0, none⟩ = some (.pointer (some ⟨p, 0, none⟩)) ∧ W.cell? ⟨b0, 0, none⟩ = some (.int .i64 lm) ∧ W.cell? ⟨b0, 1, none⟩ = some (.int .i64 lp) ∧ W.cell? ⟨b0, 2, none⟩ = some (.int .i64 la) ∧ W.cell? ⟨b0, 3, none⟩ = some (.int .i64 ls) ∧ W.cell? ⟨b0, 4, none⟩ = some (.slice A k c))) := Lib.hid (fun W hw => ⟨en_first (HEP.out.new HF.out hw).blk, lt_cells (HBX.out.2.chg hw id)⟩)
  clear hb0
  go_cut [5, 6] (fun s5 s6 wx => ∃ (v : Nat) (f2 : Nat → Option Nat) (A2 : Option Addr) (c2 : Nat), s5 = .pointer (some ⟨v, 0, none⟩) ∧ s6 = .int .i64 te ∧ Hid (f2 100 = some v) ∧ Hid (Blk wx v 55 (tkC A2 tl c2 tg tr)) ∧ Hid (KB B wx f2 b0 24 (ltC lm lp la ls A k c)) ∧ Hid (Rds wx (fun k => Gf B f2 k ∧ k < wx.heap.size) A2 tl (bcs tb)) ∧ Hid (ENP B wx f2 L e { x with sv := sv2 } p I n ic O m oc T t tc ys) ∧ Hid (Keeps B w1 wx f f2 L))
  case first =>
    have s2 := HK1.out _ (Chg.refl _ _).drew
    refine wp_region_noPanic ?_
    refine wp_region_held_drew (S := (fun w' => w'.cell? ⟨e, 0, none⟩ = some (.pointer (some ⟨p, 0, none⟩)) ∧ w'.cell? ⟨b0, 0, none⟩ = some (.int .i64 lm) ∧ w'.cell? ⟨b0, 1, none⟩ = some (.int .i64 lp) ∧ w'.cell? ⟨b0, 2, none⟩ = some (.int .i64 la) ∧ w'.cell? ⟨b0, 3, none⟩ = some (.int .i64 ls) ∧ w'.cell? ⟨b0, 4, none⟩ = some (.slice A k c))) (by kernel_rfl) s2 (fun hHeld => ?_)
    refine wpAnyH_take (i := 0) (v := ?_) rfl (by kernel_rfl) (by kernel_rfl) (by kernel_rfl) (fun _ _ _ h => h) (Or.inl ⟨by rfl, ?_⟩) (by assumption) ?_
    rotate_left
    · intro w' hSw
      try dsimp only at hSw
      go_simp
      first | done | (with_reducible rfl)
    try simp only [List.getElem_toArray, List.getElem_cons_succ, List.getElem_cons_zero, Act.put, List.setIfInBounds_toArray, List.set_cons_zero, List.set_cons_succ]
    refine wpAnyH_take (i := 1) (v := ?_) rfl (by kernel_rfl) (by kernel_rfl) (by kernel_rfl) (fun _ _ _ h => h) (Or.inl ⟨by rfl, ?_⟩) (by assumption) ?_
    rotate_left
    · intro w' hSw
      try dsimp only at hSw
      go_simp
      first | done | (with_reducible rfl)
    try simp only [List.getElem_toArray, List.getElem_cons_succ, List.getElem_cons_zero, Act.put, List.setIfInBounds_toArray, List.set_cons_zero, List.set_cons_succ]
    refine wpAnyH_take (i := 2) (v := ?_) rfl (by kernel_rfl) (by kernel_rfl) (by kernel_rfl) (fun _ _ _ h => h) (Or.inl ⟨by rfl, ?_⟩) (by assumption) ?_
    rotate_left
    · intro w' hSw
      try dsimp only at hSw
      go_simp
      first | done | (with_reducible rfl)
    try simp only [List.getElem_toArray, List.getElem_cons_succ, List.getElem_cons_zero, Act.put, List.setIfInBounds_toArray, List.set_cons_zero, List.set_cons_succ]
    refine wpAnyH_take (i := 3) (v := ?_) rfl (by kernel_rfl) (by kernel_rfl) (by kernel_rfl) (fun _ _ _ h => h) (Or.inl ⟨by rfl, ?_⟩) (by assumption) ?_
    rotate_left
    · intro w' hSw
      try dsimp only at hSw
      go_simp
      first | done | (with_reducible rfl)
    try simp only [List.getElem_toArray, List.getElem_cons_succ, List.getElem_cons_zero, Act.put, List.setIfInBounds_toArray, List.set_cons_zero, List.set_cons_succ]
    refine wpAnyH_take (i := 4) (v := ?_) rfl (by kernel_rfl) (by kernel_rfl) (by kernel_rfl) (fun _ _ _ h => h) (Or.inl ⟨by rfl, ?_⟩) (by assumption) ?_
    rotate_left
    · intro w' hSw
      try dsimp only at hSw
      go_simp
      first | done | (with_reducible rfl)
    try simp only [List.getElem_toArray, List.getElem_cons_succ, List.getElem_cons_zero, Act.put, List.setIfInBounds_toArray, List.set_cons_zero, List.set_cons_succ]
    clear s2
    refine wpAnyH_ready (rs := [5, 9]) (by kernel_rfl) (by simp) ?_
    refine AllReadyH.cons rfl (fun K hK => ?_) (AllReadyH.cons rfl (fun K hK => ?_) AllReadyH.nil)
    · go_simp
      have hcd := (Chg.refl (fun _ => False) w1).drew
      refine (HTK.out _ f (HF.out.size hcd.size) (HEP.out.new HF.out hcd) ((Keeps.new (L := L) HF.out hcd).rds _ _ _ HRB.out)).mono ?_
      rintro E wz ⟨f2, A2, c2, rfl, hrd, hep, hkp, -⟩
      have HRD2 := Lib.hid hrd
      have HEP2 := Lib.hid hep
      have HKP2 := Lib.hid ((Keeps.new (L := L) HF.out hcd).trans hkp)
      have HBX2 := Lib.hid (HKP2.out.blk _ _ _ HBX.out)
      have s3 := Lib.hid (And.intro (en_first HEP2.out.blk) (lt_cells HBX2.out.2))
      clear hrd hep hkp hcd
      go_wp2_with fail
      refine hK.out _ _ s3.out (fun hHeld => ?_)
      clear hK K
      try simp only [List.getElem_toArray, List.getElem_cons_succ, List.getElem_cons_zero, Act.put, List.setIfInBounds_toArray, List.set_cons_zero, List.set_cons_succ]
      refine wpAnyH_take (i := 6) (v := ?_) rfl (by kernel_rfl) (by kernel_rfl) (by kernel_rfl) (fun _ _ _ h => h) (Or.inl ⟨by rfl, ?_⟩) (by assumption) ?_
      rotate_left
      · intro w' hSw
        try dsimp only at hSw
        go_simp
        first | done | (with_reducible rfl)
      try simp only [List.getElem_toArray, List.getElem_cons_succ, List.getElem_cons_zero, Act.put, List.setIfInBounds_toArray, List.set_cons_zero, List.set_cons_succ]
      refine wpAnyH_take (i := 7) (v := ?_) rfl (by kernel_rfl) (by kernel_rfl) (by kernel_rfl) (fun _ _ _ h => h) (Or.inl ⟨by rfl, ?_⟩) (by assumption) ?_
      rotate_left
      · intro w' hSw
        try dsimp only at hSw
        go_simp
        first | done | (with_reducible rfl)
      try simp only [List.getElem_toArray, List.getElem_cons_succ, List.getElem_cons_zero, Act.put, List.setIfInBounds_toArray, List.set_cons_zero, List.set_cons_succ]
      refine wpAnyH_take (i := 8) (v := ?_) rfl (by kernel_rfl) (by kernel_rfl) (by kernel_rfl) (fun _ _ _ h => h) (Or.inl ⟨by rfl, ?_⟩) (by assumption) ?_
      rotate_left
      · intro w' hSw
        try dsimp only at hSw
        go_simp
        first | done | (with_reducible rfl)
      try simp only [List.getElem_toArray, List.getElem_cons_succ, List.getElem_cons_zero, Act.put, List.setIfInBounds_toArray, List.set_cons_zero, List.set_cons_succ]
      have hca := (Chg.refl (fun _ => False) wz).alloc (.cells #[.slice none 0 0, .bool false, .bool false] 55)
      obtain ⟨f3, hs3, hep3, hkp3⟩ := en_scratch (v := wz.heap.size) HEP2.out HKP2.out.fr hL hca (Nat.le_refl _) (blk_new (t := 55) (cs := #[.slice none 0 0, .bool false, .bool false]) rfl).lt
      have HS3 := Lib.hid hs3
      have HEP3 := Lib.hid hep3
      have HKP3 := Lib.hid (HKP2.out.trans hkp3)
      have HBX3 := Lib.hid (hkp3.blk _ _ _ HBX2.out)
      have HRD3 := Lib.hid (hkp3.rds _ _ _ HRD2.out)
      have HV3 : Hid (Blk (wz.alloc (.cells #[.slice none 0 0, .bool false, .bool false] 55)) wz.heap.size 55 (tkC none 0 0 false false)) := Lib.hid (blk_new rfl)
      have s4 := Lib.hid (And.intro (en_first HEP3.out.blk) (lt_cells HBX3.out.2))
      clear hs3 hep3 hkp3 hca
      refine wpAnyH_ready (rs := [9]) (by kernel_rfl) (by simp) ?_
      refine AllReadyH.cons rfl (fun K hK => ?_) AllReadyH.nil
      go_simp
      refine hK.out _ _ s4.out (fun hHeld => ?_)
      clear hK K
      try simp only [List.getElem_toArray, List.getElem_cons_succ, List.getElem_cons_zero, Act.put, List.setIfInBounds_toArray, List.set_cons_zero, List.set_cons_succ]
      generalize wz.alloc (.cells #[.slice none 0 0, .bool false, .bool false] 55) = wv at *
      generalize wz.heap.size = v at *
      clear s4 s3
      have hx9 := tk_cells HV3.out
      have hu9 := tk_free HV3.out
      obtain ⟨x0, x1, x2⟩ := hx9
      obtain ⟨u0, u1, u2⟩ := hu9
      obtain ⟨r0, r1, r2, hb4, hcs⟩ := tk_put HV3.out A2 tl c2 tg tr
      obtain ⟨hep4, hkp4⟩ := en_store HEP3.out HKP3.out.fr hL HS3.out hcs
      have HV4 := Lib.hid hb4
      have HEP4 := Lib.hid hep4
      have HKP4 := Lib.hid (HKP3.out.trans hkp4)
      have HBX4 := Lib.hid (hkp4.blk _ _ _ HBX3.out)
      have HRD4 := Lib.hid (hkp4.rds _ _ _ HRD3.out)
      have s4 := Lib.hid (And.intro (en_first HEP4.out.blk) (lt_cells HBX4.out.2))
      clear hb4 hep4 hkp4 hcs
      refine wpAnyH_ready (rs := [10]) (by kernel_rfl) (by simp) ?_
      refine AllReadyH.cons rfl (fun K hK => ?_) AllReadyH.nil
      go_simp
      refine hK.out _ _ s4.out (fun hHeld => ?_)
      clear hK K
      try simp only [List.getElem_toArray, List.getElem_cons_succ, List.getElem_cons_zero, Act.put, List.setIfInBounds_toArray, List.set_cons_zero, List.set_cons_succ]
      clear r0 r1 r2 x0 x1 x2 u0 u1 u2
      refine wpAnyH_take (i := 11) (v := ?_) rfl (by kernel_rfl) (by kernel_rfl) (by kernel_rfl) (fun _ _ _ h => h) (Or.inl ⟨by rfl, ?_⟩) (by assumption) ?_
      rotate_left
      · intro w' hSw
        try dsimp only at hSw
        go_simp
        first | done | (with_reducible rfl)
      try simp only [List.getElem_toArray, List.getElem_cons_succ, List.getElem_cons_zero, Act.put, List.setIfInBounds_toArray, List.set_cons_zero, List.set_cons_succ]
      refine wpAnyH_done (by kernel_rfl) ?_ _
      refine NoPanic.normal ?_
      clear hHeld
      go_wp2_with fail
      go_meet
      exact ⟨v, f3, A2, c2, rfl, rfl, HS3, HV4, HBX4, HRD4, HEP4, HKP4⟩
    · go_simp
      have hca := ((Chg.refl (fun _ => False) w1).alloc (.cells #[.slice none 0 0, .bool false, .bool false] 55)).drew
      obtain ⟨f1, hs1, hep1, hkp1⟩ := en_scratch (v := w1.heap.size) HEP.out HF.out hL hca (Nat.le_refl _) (blk_new (t := 55) (cs := #[.slice none 0 0, .bool false, .bool false]) rfl).drew.lt
      have HS1 := Lib.hid hs1
      have HEP1 := Lib.hid hep1
      have HKP1 := Lib.hid hkp1
      have HBX1 := Lib.hid (hkp1.blk _ _ _ HBX.out)
      have HRB1 := Lib.hid (hkp1.rds _ _ _ HRB.out)
      have HV1 : Hid (Blk (w1.alloc (.cells #[.slice none 0 0, .bool false, .bool false] 55)).drew w1.heap.size 55 (tkC none 0 0 false false)) := Lib.hid (blk_new rfl).drew
      have s3 := Lib.hid (And.intro (en_first HEP1.out.blk) (lt_cells HBX1.out.2))
      clear hs1 hep1 hkp1 hca
      refine hK.out _ _ s3.out (fun hHeld => ?_)
      clear hK K
      try simp only [List.getElem_toArray, List.getElem_cons_succ, List.getElem_cons_zero, Act.put, List.setIfInBounds_toArray, List.set_cons_zero, List.set_cons_succ]
      generalize (w1.alloc (.cells #[.slice none 0 0, .bool false, .bool false] 55)).drew = wa at *
      generalize w1.heap.size = v at *
      refine wpAnyH_ready (rs := [5]) (by kernel_rfl) (by simp) ?_
      refine AllReadyH.cons rfl (fun K hK => ?_) AllReadyH.nil
      go_simp
      refine (HTK.out _ f1 HKP1.out.fr HEP1.out HRB1.out).mono ?_
      rintro E wv ⟨f3, A2, c2, rfl, hrd, hep, hkp, hsc⟩
      obtain ⟨hs3, hv3⟩ := hsc _ _ _ HS1.out HV1.out
      have HS3 := Lib.hid hs3
      have HV3 := Lib.hid hv3
      have HRD3 := Lib.hid hrd
      have HEP3 := Lib.hid hep
      have HKP3 := Lib.hid (HKP1.out.trans hkp)
      have HBX3 := Lib.hid (hkp.blk _ _ _ HBX1.out)
      have s4 := Lib.hid (And.intro (en_first HEP3.out.blk) (lt_cells HBX3.out.2))
      clear hrd hep hkp hs3 hv3 hsc s3
      go_wp2_with fail
      refine hK.out _ _ s4.out (fun hHeld => ?_)
      clear hK K
      try simp only [List.getElem_toArray, List.getElem_cons_succ, List.getElem_cons_zero, Act.put, List.setIfInBounds_toArray, List.set_cons_zero, List.set_cons_succ]
      refine wpAnyH_take (i := 6) (v := ?_) rfl (by kernel_rfl) (by kernel_rfl) (by kernel_rfl) (fun _ _ _ h => h) (Or.inl ⟨by rfl, ?_⟩) (by assumption) ?_
      rotate_left
      · intro w' hSw
        try dsimp only at hSw
        go_simp
        first | done | (with_reducible rfl)
      try simp only [List.getElem_toArray, List.getElem_cons_succ, List.getElem_cons_zero, Act.put, List.setIfInBounds_toArray, List.set_cons_zero, List.set_cons_succ]
      refine wpAnyH_take (i := 7) (v := ?_) rfl (by kernel_rfl) (by kernel_rfl) (by kernel_rfl) (fun _ _ _ h => h) (Or.inl ⟨by rfl, ?_⟩) (by assumption) ?_
      rotate_left
      · intro w' hSw
        try dsimp only at hSw
        go_simp
        first | done | (with_reducible rfl)
      try simp only [List.getElem_toArray, List.getElem_cons_succ, List.getElem_cons_zero, Act.put, List.setIfInBounds_toArray, List.set_cons_zero, List.set_cons_succ]
      refine wpAnyH_take (i := 8) (v := ?_) rfl (by kernel_rfl) (by kernel_rfl) (by kernel_rfl) (fun _ _ _ h => h) (Or.inl ⟨by rfl, ?_⟩) (by assumption) ?_
      rotate_left
      · intro w' hSw
        try dsimp only at hSw
        go_simp
        first | done | (with_reducible rfl)
      try simp only [List.getElem_toArray, List.getElem_cons_succ, List.getElem_cons_zero, Act.put, List.setIfInBounds_toArray, List.set_cons_zero, List.set_cons_succ]
      clear s4
      have hx9 := tk_cells HV3.out
      have hu9 := tk_free HV3.out
      obtain ⟨x0, x1, x2⟩ := hx9
      obtain ⟨u0, u1, u2⟩ := hu9
      obtain ⟨r0, r1, r2, hb4, hcs⟩ := tk_put HV3.out A2 tl c2 tg tr
      obtain ⟨hep4, hkp4⟩ := en_store HEP3.out HKP3.out.fr hL HS3.out hcs
      have HV4 := Lib.hid hb4
      have HEP4 := Lib.hid hep4
      have HKP4 := Lib.hid (HKP3.out.trans hkp4)
      have HBX4 := Lib.hid (hkp4.blk _ _ _ HBX3.out)
      have HRD4 := Lib.hid (hkp4.rds _ _ _ HRD3.out)
      have s4 := Lib.hid (And.intro (en_first HEP4.out.blk) (lt_cells HBX4.out.2))
      clear hb4 hep4 hkp4 hcs
      refine wpAnyH_ready (rs := [10]) (by kernel_rfl) (by simp) ?_
      refine AllReadyH.cons rfl (fun K hK => ?_) AllReadyH.nil
      go_simp
      refine hK.out _ _ s4.out (fun hHeld => ?_)
      clear hK K
      try simp only [List.getElem_toArray, List.getElem_cons_succ, List.getElem_cons_zero, Act.put, List.setIfInBounds_toArray, List.set_cons_zero, List.set_cons_succ]
      clear r0 r1 r2 x0 x1 x2 u0 u1 u2
      refine wpAnyH_take (i := 11) (v := ?_) rfl (by kernel_rfl) (by kernel_rfl) (by kernel_rfl) (fun _ _ _ h => h) (Or.inl ⟨by rfl, ?_⟩) (by assumption) ?_
      rotate_left
      · intro w' hSw
        try dsimp only at hSw
        go_simp
        first | done | (with_reducible rfl)
      try simp only [List.getElem_toArray, List.getElem_cons_succ, List.getElem_cons_zero, Act.put, List.setIfInBounds_toArray, List.set_cons_zero, List.set_cons_succ]
      refine wpAnyH_done (by kernel_rfl) ?_ _
      refine NoPanic.normal ?_
      clear hHeld
      go_wp2_with fail
      go_meet
      exact ⟨v, f3, A2, c2, rfl, rfl, HS3, HV4, HBX4, HRD4, HEP4, HKP4⟩

  case rest =>
    obtain ⟨v, f2, A2, c2, rfl, rfl, HS, HV, HBX2, HRD, HEP2, HKP2⟩ := hcut
    clear HK1 HTK HEP HBX HRB HF
    rcases HTE.out with rfl | rfl
    case inr =>
      obtain ⟨rfl, rfl⟩ := HST.out rfl
      have htb := HG0.out rfl
      go_wp2_with fail
      go_ret
      refine ⟨rfl, f2, ?_, HKP.out.trans HKP2.out⟩
      rw [HTV.out, htb]
      simp only [Bool.false_eq_true, if_false, List.append_nil]
      exact ⟨_, _, _, _, _, _, _, HEP2.out⟩
    case inl =>
      obtain ⟨x0, x1, x2⟩ := tk_cells HV.out
      cases tr with
      | true =>
        obtain ⟨z0, z1, z2, z3, z4, z5⟩ := en_cells HEP2.out.blk
        have u2 := HEP2.out.blk.frozen 2
        have hb2 := HEP2.out.blk.set 2 (.slice none 0 0)
        have z3' := (hb2.cell 3)
        have u3 := hb2.frozen 3
        have hb3 := hb2.set 3 (.slice none 0 0)
        have z4' := (hb3.cell 4)
        have u4 := hb3.frozen 4
        obtain ⟨f3, hep3, hr3, hc3⟩ := HEP2.out.reset HKP2.out.fr lm rfl
        have y3 := (lt_cells (HBX2.out.2.chg (((Chg.refl (fun k => k = e) wc).put e 2 (fun _ => rfl) (.slice none 0 0)).put e 3 (fun _ => rfl) (.slice none 0 0)) (fun h => HBX2.out.1.2 L (by rw [h]; exact HEP2.out.le)))).1
        have HS3 := Lib.hid (show f3 100 = some v from (hr3.eq 100 (by omega)).trans HS.out)
        have HV3 := Lib.hid (HV.out.chg hc3 (Tn.not HKP2.out.fr HS.out (by omega)))
        have hk3 := Keeps.of HKP2.out.fr hr3 hc3 (L := L) (fun a ha => by omega)
        have HRD3 := Lib.hid (hk3.rds _ _ _ HRD.out)
        have HKP3 := Lib.hid (HKP2.out.trans hk3)
        have HEP3 := Lib.hid hep3
        simp only [endC, List.setIfInBounds_toArray, List.set_cons_succ, List.set_cons_zero, List.getElem?_toArray, List.getElem?_cons_zero, List.getElem?_cons_succ] at z3' z4'
        clear hb2 hb3 hep3 hr3 hc3 hk3
        go_upto_region 8 with fail
        clear z0 z1 z2 z3 z4 z5 u2 u3 u4 z3' z4' y3 x0 x1 x2 HS HV HRD HKP2 HEP2
        have HS := HS3
        have HV := HV3
        have HRD := HRD3
        have HKP2 := HKP3
        have HEP2 := HEP3
        clear HS3 HV3 HRD3 HKP3 HEP3 HBX2
        generalize ((wc.setCell ⟨e, 2, none⟩ (.slice none 0 0)).setCell ⟨e, 3, none⟩ (.slice none 0 0)).setCell ⟨e, 4, none⟩ (.int .i64 lm) = wy at *
        obtain ⟨x0, x1, x2⟩ := tk_cells HV.out
        cases tg with
        | false =>
          have htb := HG0.out rfl
          go_wp2_with fail
          go_ret
          refine ⟨rfl, f3, ?_, HKP.out.trans HKP2.out⟩
          rw [HTV.out, htb]
          simp only [Bool.false_eq_true, if_false, if_true, List.append_nil]
          exact ⟨_, _, _, _, _, _, _, HEP2.out⟩
        | true =>
          obtain ⟨cc, htb⟩ := HG1.out rfl
          obtain rfl : tl = 1 := by have := HTL.out; rw [htb] at this; exact this.symm
          obtain ⟨a0, rfl, ha⟩ := one_byte HRD.out htb
          have HA := Lib.hid ha
          have HTB := Lib.hid htb
          clear ha htb
          go_upto_region 11 with fail
          obtain ⟨i0, hi0, hz0, hz1, hz2⟩ := info_parts infoByte
          have hmm : 0 ≤ 1000 := by have h1 := HEP2.out.ono; have h2 := HOL.out; simp only at h1; first | omega | (rw [h1]; exact h2) | (rw [h1]; simp)
          have HCA := Lib.hid ((Chg.refl (fun _ => False) wy).alloc (.cells #[.int .u8 (cc.toNat : Int)] 5)).drew
          have HK3 : Hid (∀ W : World, Chg (fun _ => False) wy W → (W.cell? ⟨v, 0, none⟩ = some (.slice (some a0) 1 c2) ∧ W.cell? a0 = some (.int .u8 (cc.toNat : Int)))) := Lib.hid (fun W hw => ⟨(tk_cells (HV.out.chg hw id)).1, (hw.cell HA.out.1 id).trans HA.out.2.1⟩)
          have s2 := HK3.out _ (Chg.refl _ _).drew
          have s3 := HK3.out _ HCA.out
          have e3 := (en_cells (HEP2.out.new HKP2.out.fr (Chg.refl _ _).drew).blk).2.2.2.1
          have e5 := (en_cells (HEP2.out.new HKP2.out.fr HCA.out).blk).2.2.2.1
          have HEP5 := Lib.hid (HEP2.out.new HKP2.out.fr HCA.out)
          have HF5 := Lib.hid (HKP2.out.fr.size HCA.out.size)
          have HKP5 := Lib.hid (HKP2.out.trans (Keeps.new (L := L) HKP2.out.fr HCA.out))
          have HV5 := Lib.hid (HV.out.chg HCA.out id)
          have HA5 := Lib.hid (show a0.block < ((wy.alloc (.cells #[.int .u8 (cc.toNat : Int)] 5)).drew).heap.size ∧ ((wy.alloc (.cells #[.int .u8 (cc.toNat : Int)] 5)).drew).cell? a0 = some (.int .u8 (cc.toNat : Int)) from ⟨Nat.lt_of_lt_of_le HA.out.1 HCA.out.size, (HCA.out.cell HA.out.1 id).trans HA.out.2.1⟩)
          have HRW := Lib.hid (rds_new1 wy 5 #[.int .u8 (cc.toNat : Int)] (0, 0) wy.heap.size rfl (bcs [cc]) 1 rfl rfl).drew
          clear x0 x1 x2
          refine wp_region_noPanic ?_
          refine wp_region_held_drew (S := (fun w' => w'.cell? ⟨v, 0, none⟩ = some (.slice (some a0) 1 c2) ∧ w'.cell? a0 = some (.int .u8 (cc.toNat : Int)))) (by kernel_rfl) s2 (fun hHeld => ?_)
          refine wpAnyH_take (i := 0) (v := ?_) rfl (by kernel_rfl) (by kernel_rfl) (by kernel_rfl) (fun _ _ _ h => h) (Or.inl ⟨by rfl, ?_⟩) (by assumption) ?_
          rotate_left
          · intro w' hSw
            try dsimp only at hSw
            go_simp
            first | done | (with_reducible rfl)
          try simp only [List.getElem_toArray, List.getElem_cons_succ, List.getElem_cons_zero, Act.put, List.setIfInBounds_toArray, List.set_cons_zero, List.set_cons_succ]
          refine wpAnyH_take (i := 1) (v := ?_) rfl (by kernel_rfl) (by kernel_rfl) (by kernel_rfl) (fun _ _ _ h => h) (Or.inl ⟨by rfl, ?_⟩) (by assumption) ?_
          rotate_left
          · intro w' hSw
            try dsimp only at hSw
            go_simp
            first | done | (with_reducible rfl)
          try simp only [List.getElem_toArray, List.getElem_cons_succ, List.getElem_cons_zero, Act.put, List.setIfInBounds_toArray, List.set_cons_zero, List.set_cons_succ]
          refine wpAnyH_take (i := 2) (v := ?_) rfl (by kernel_rfl) (by kernel_rfl) (by kernel_rfl) (fun _ _ _ h => h) (Or.inl ⟨by rfl, ?_⟩) (by assumption) ?_
          rotate_left
          · intro w' hSw
            try dsimp only at hSw
            go_simp
            first | done | (with_reducible rfl)
          try simp only [List.getElem_toArray, List.getElem_cons_succ, List.getElem_cons_zero, Act.put, List.setIfInBounds_toArray, List.set_cons_zero, List.set_cons_succ]
          refine wpAnyH_take (i := 3) (v := ?_) rfl (by kernel_rfl) (by kernel_rfl) (by kernel_rfl) (fun _ _ _ h => h) (Or.inl ⟨by rfl, ?_⟩) (by assumption) ?_
          rotate_left
          · intro w' hSw
            try dsimp only at hSw
            go_simp
            first | done | (with_reducible rfl)
          try simp only [List.getElem_toArray, List.getElem_cons_succ, List.getElem_cons_zero, Act.put, List.setIfInBounds_toArray, List.set_cons_zero, List.set_cons_succ]
          refine wpAnyH_take (i := 5) (v := ?_) rfl (by kernel_rfl) (by kernel_rfl) (by kernel_rfl) (fun _ _ _ h => h) (Or.inl ⟨by rfl, ?_⟩) (by assumption) ?_
          rotate_left
          · intro w' hSw
            try dsimp only at hSw
            go_simp
            first | done | (with_reducible rfl)
          try simp only [List.getElem_toArray, List.getElem_cons_succ, List.getElem_cons_zero, Act.put, List.setIfInBounds_toArray, List.set_cons_zero, List.set_cons_succ]
          refine wpAnyH_take (i := 6) (v := ?_) rfl (by kernel_rfl) (by kernel_rfl) (by kernel_rfl) (fun _ _ _ h => h) (Or.inl ⟨by rfl, ?_⟩) (by assumption) ?_
          rotate_left
          · intro w' hSw
            try dsimp only at hSw
            go_simp
            first | done | (with_reducible rfl)
          try simp only [List.getElem_toArray, List.getElem_cons_succ, List.getElem_cons_zero, Act.put, List.setIfInBounds_toArray, List.set_cons_zero, List.set_cons_succ]
          refine wpAnyH_take (i := 7) (v := ?_) rfl (by kernel_rfl) (by kernel_rfl) (by kernel_rfl) (fun _ _ _ h => h) (Or.inl ⟨by rfl, ?_⟩) (by assumption) ?_
          rotate_left
          · intro w' hSw
            try dsimp only at hSw
            go_simp
            first | done | (with_reducible rfl)
          try simp only [List.getElem_toArray, List.getElem_cons_succ, List.getElem_cons_zero, Act.put, List.setIfInBounds_toArray, List.set_cons_zero, List.set_cons_succ]
          refine wpAnyH_take (i := 8) (v := ?_) rfl (by kernel_rfl) (by kernel_rfl) (by kernel_rfl) (fun _ _ _ h => h) (Or.inl ⟨by rfl, ?_⟩) (by assumption) ?_
          rotate_left
          · intro w' hSw
            try dsimp only at hSw
            go_simp
            first | done | (with_reducible rfl)
          try simp only [List.getElem_toArray, List.getElem_cons_succ, List.getElem_cons_zero, Act.put, List.setIfInBounds_toArray, List.set_cons_zero, List.set_cons_succ]
          refine wpAnyH_ready (rs := [4, 9]) (by kernel_rfl) (by simp) ?_
          refine AllReadyH.cons rfl (fun K hK => ?_) (AllReadyH.cons rfl (fun K hK => ?_) AllReadyH.nil)
          · go_simp
            refine hK.out _ _ s2 (fun hHeld => ?_)
            clear hK K
            try simp only [List.getElem_toArray, List.getElem_cons_succ, List.getElem_cons_zero, Act.put, List.setIfInBounds_toArray, List.set_cons_zero, List.set_cons_succ]
            refine wpAnyH_ready (rs := [9]) (by kernel_rfl) (by simp) ?_
            refine AllReadyH.cons rfl (fun K hK => ?_) AllReadyH.nil
            go_simp
            refine hK.out _ _ s3 (fun hHeld => ?_)
            clear hK K
            try simp only [List.getElem_toArray, List.getElem_cons_succ, List.getElem_cons_zero, Act.put, List.setIfInBounds_toArray, List.set_cons_zero, List.set_cons_succ]
            clear e3 s2
            generalize (wy.alloc (.cells #[.int .u8 (cc.toNat : Int)] 5)).drew = w5 at *
            generalize wy.heap.size = r9 at *
            clear s3
            refine wpAnyH_ready (rs := [10]) (by kernel_rfl) (by simp) ?_
            refine AllReadyH.cons rfl (fun K hK => ?_) AllReadyH.nil
            refine step_own_append _ rfl (.tmp 43) (.tmp 48) 22 rfl 0 5 i0 (.int .u8 0) 1 Try.underlying22 hi0 hz0 hz1 hz2 rfl (.slice none 0 0) 0 _ rfl HEP5.out.out (fun k => k = r9) (some ⟨r9, 0, none⟩) 1 1 (bcs [cc]) rfl HRW.out (bcs_one _) (by unfold maxLen; omega) (by omega) (Nat.zero_le _) ?_
            intro v' w6 hown hg hat
            obtain ⟨O', oc', rfl, _, _⟩ := own_form hown
            obtain ⟨hr6, hc6, hl6⟩ := app_ren (D := fun a => a = L + 4) HF5.out HEP5.out.ol hown hg hat rfl
            have hb6 := HEP5.out.blk.chg hc6 (Tn.not HF5.out HEP5.out.le (by omega))
            have s4 := And.intro ((tk_cells (HV5.out.chg hc6 (Tn.not HF5.out HS.out (by omega)))).1) ((hc6.cell HA5.out.1 (Tn.gf HA.out.2.2.1)).trans HA5.out.2)
            have HB6 := Lib.hid hb6
            obtain ⟨f7, hen7, hr7, hc7⟩ := HEP5.out.handed HF5.out (b := [cc]) (by rw [HEP5.out.ono]; rfl) hown hg hat rfl
            have s5 := And.intro ((tk_cells (HV5.out.chg hc7 (Tn.not HF5.out HS.out (by omega)))).1) ((hc7.cell HA5.out.1 (Tn.gf HA.out.2.2.1)).trans HA5.out.2)
            have HEN7 := Lib.hid hen7
            have HKP7 := Lib.hid (HKP5.out.trans (Keeps.of HF5.out hr7 hc7 (fun a ha => by omega)))
            have e6 := (en_cells HB6.out).2.2.2.1
            have u6 := HB6.out.frozen 3
            clear hen7 hr7 hc7 hr6 hc6 hl6 hb6 hown hg hat
            refine hK.out _ _ s4 (fun hHeld => ?_)
            clear hK K e5
            try simp only [List.getElem_toArray, List.getElem_cons_succ, List.getElem_cons_zero, Act.put, List.setIfInBounds_toArray, List.set_cons_zero, List.set_cons_succ]
            refine wpAnyH_take (i := 11) (v := ?_) rfl (by kernel_rfl) (by kernel_rfl) (by kernel_rfl) (fun _ _ _ h => h) (Or.inl ⟨by rfl, ?_⟩) (by assumption) ?_
            rotate_left
            · intro w' hSw
              try dsimp only at hSw
              go_simp
              first | done | (with_reducible rfl)
            try simp only [List.getElem_toArray, List.getElem_cons_succ, List.getElem_cons_zero, Act.put, List.setIfInBounds_toArray, List.set_cons_zero, List.set_cons_succ]
            refine wpAnyH_take (i := 12) (v := ?_) rfl (by kernel_rfl) (by kernel_rfl) (by kernel_rfl) (fun _ _ _ h => h) (Or.inl ⟨by rfl, ?_⟩) (by assumption) ?_
            rotate_left
            · intro w' hSw
              try dsimp only at hSw
              go_simp
              first | done | (with_reducible rfl)
            try simp only [List.getElem_toArray, List.getElem_cons_succ, List.getElem_cons_zero, Act.put, List.setIfInBounds_toArray, List.set_cons_zero, List.set_cons_succ]
            refine wpAnyH_ready (rs := [13]) (by kernel_rfl) (by simp) ?_
            refine AllReadyH.cons rfl (fun K hK => ?_) AllReadyH.nil
            go_simp
            refine hK.out _ _ s5 (fun hHeld => ?_)
            clear hK K
            try simp only [List.getElem_toArray, List.getElem_cons_succ, List.getElem_cons_zero, Act.put, List.setIfInBounds_toArray, List.set_cons_zero, List.set_cons_succ]
            clear e6 u6 s5 s4
            refine wpAnyH_done (by kernel_rfl) ?_ _
            refine NoPanic.normal ?_
            clear hHeld
            go_wp2_with fail
            go_ret
            refine ⟨rfl, f7, ?_, HKP.out.trans HKP7.out⟩
            rw [HTV.out, HTB.out]
            simpa only [Bool.false_eq_true, if_false, if_true] using HEN7.out
          · go_simp
            refine hK.out _ _ s3 (fun hHeld => ?_)
            clear hK K
            try simp only [List.getElem_toArray, List.getElem_cons_succ, List.getElem_cons_zero, Act.put, List.setIfInBounds_toArray, List.set_cons_zero, List.set_cons_succ]
            refine wpAnyH_ready (rs := [4]) (by kernel_rfl) (by simp) ?_
            refine AllReadyH.cons rfl (fun K hK => ?_) AllReadyH.nil
            go_simp
            refine hK.out _ _ s3 (fun hHeld => ?_)
            clear hK K
            try simp only [List.getElem_toArray, List.getElem_cons_succ, List.getElem_cons_zero, Act.put, List.setIfInBounds_toArray, List.set_cons_zero, List.set_cons_succ]
            clear e3 s2
            generalize (wy.alloc (.cells #[.int .u8 (cc.toNat : Int)] 5)).drew = w5 at *
            generalize wy.heap.size = r9 at *
            clear s3
            refine wpAnyH_ready (rs := [10]) (by kernel_rfl) (by simp) ?_
            refine AllReadyH.cons rfl (fun K hK => ?_) AllReadyH.nil
            refine step_own_append _ rfl (.tmp 43) (.tmp 48) 22 rfl 0 5 i0 (.int .u8 0) 1 Try.underlying22 hi0 hz0 hz1 hz2 rfl (.slice none 0 0) 0 _ rfl HEP5.out.out (fun k => k = r9) (some ⟨r9, 0, none⟩) 1 1 (bcs [cc]) rfl HRW.out (bcs_one _) (by unfold maxLen; omega) (by omega) (Nat.zero_le _) ?_
            intro v' w6 hown hg hat
            obtain ⟨O', oc', rfl, _, _⟩ := own_form hown
            obtain ⟨hr6, hc6, hl6⟩ := app_ren (D := fun a => a = L + 4) HF5.out HEP5.out.ol hown hg hat rfl
            have hb6 := HEP5.out.blk.chg hc6 (Tn.not HF5.out HEP5.out.le (by omega))
            have s4 := And.intro ((tk_cells (HV5.out.chg hc6 (Tn.not HF5.out HS.out (by omega)))).1) ((hc6.cell HA5.out.1 (Tn.gf HA.out.2.2.1)).trans HA5.out.2)
            have HB6 := Lib.hid hb6
            obtain ⟨f7, hen7, hr7, hc7⟩ := HEP5.out.handed HF5.out (b := [cc]) (by rw [HEP5.out.ono]; rfl) hown hg hat rfl
            have s5 := And.intro ((tk_cells (HV5.out.chg hc7 (Tn.not HF5.out HS.out (by omega)))).1) ((hc7.cell HA5.out.1 (Tn.gf HA.out.2.2.1)).trans HA5.out.2)
            have HEN7 := Lib.hid hen7
            have HKP7 := Lib.hid (HKP5.out.trans (Keeps.of HF5.out hr7 hc7 (fun a ha => by omega)))
            have e6 := (en_cells HB6.out).2.2.2.1
            have u6 := HB6.out.frozen 3
            clear hen7 hr7 hc7 hr6 hc6 hl6 hb6 hown hg hat
            refine hK.out _ _ s4 (fun hHeld => ?_)
            clear hK K e5
            try simp only [List.getElem_toArray, List.getElem_cons_succ, List.getElem_cons_zero, Act.put, List.setIfInBounds_toArray, List.set_cons_zero, List.set_cons_succ]
            refine wpAnyH_take (i := 11) (v := ?_) rfl (by kernel_rfl) (by kernel_rfl) (by kernel_rfl) (fun _ _ _ h => h) (Or.inl ⟨by rfl, ?_⟩) (by assumption) ?_
            rotate_left
            · intro w' hSw
              try dsimp only at hSw
              go_simp
              first | done | (with_reducible rfl)
            try simp only [List.getElem_toArray, List.getElem_cons_succ, List.getElem_cons_zero, Act.put, List.setIfInBounds_toArray, List.set_cons_zero, List.set_cons_succ]
            refine wpAnyH_take (i := 12) (v := ?_) rfl (by kernel_rfl) (by kernel_rfl) (by kernel_rfl) (fun _ _ _ h => h) (Or.inl ⟨by rfl, ?_⟩) (by assumption) ?_
            rotate_left
            · intro w' hSw
              try dsimp only at hSw
              go_simp
              first | done | (with_reducible rfl)
            try simp only [List.getElem_toArray, List.getElem_cons_succ, List.getElem_cons_zero, Act.put, List.setIfInBounds_toArray, List.set_cons_zero, List.set_cons_succ]
            refine wpAnyH_ready (rs := [13]) (by kernel_rfl) (by simp) ?_
            refine AllReadyH.cons rfl (fun K hK => ?_) AllReadyH.nil
            go_simp
            refine hK.out _ _ s5 (fun hHeld => ?_)
            clear hK K
            try simp only [List.getElem_toArray, List.getElem_cons_succ, List.getElem_cons_zero, Act.put, List.setIfInBounds_toArray, List.set_cons_zero, List.set_cons_succ]
            clear e6 u6 s5 s4
            refine wpAnyH_done (by kernel_rfl) ?_ _
            refine NoPanic.normal ?_
            clear hHeld
            go_wp2_with fail
            go_ret
            refine ⟨rfl, f7, ?_, HKP.out.trans HKP7.out⟩
            rw [HTV.out, HTB.out]
            simpa only [Bool.false_eq_true, if_false, if_true] using HEN7.out
      | false =>
        clear x0 x1 x2
        obtain ⟨x0, x1, x2⟩ := tk_cells HV.out
        cases tg with
        | false =>
          have htb := HG0.out rfl
          go_wp2_with fail
          go_ret
          refine ⟨rfl, f2, ?_, HKP.out.trans HKP2.out⟩
          rw [HTV.out, htb]
          simp only [Bool.false_eq_true, if_false, if_true, List.append_nil]
          exact ⟨_, _, _, _, _, _, _, HEP2.out⟩
        | true =>
          obtain ⟨cc, htb⟩ := HG1.out rfl
          obtain rfl : tl = 1 := by have := HTL.out; rw [htb] at this; exact this.symm
          obtain ⟨a0, rfl, ha⟩ := one_byte HRD.out htb
          have HA := Lib.hid ha
          have HTB := Lib.hid htb
          clear ha htb
          go_upto_region 11 with fail
          obtain ⟨i0, hi0, hz0, hz1, hz2⟩ := info_parts infoByte
          have hmm : m ≤ 1000 := by have h1 := HEP2.out.ono; have h2 := HOL.out; simp only at h1; first | omega | (rw [h1]; exact h2) | (rw [h1]; simp)
          have HCA := Lib.hid ((Chg.refl (fun _ => False) wc).alloc (.cells #[.int .u8 (cc.toNat : Int)] 5)).drew
          have HK3 : Hid (∀ W : World, Chg (fun _ => False) wc W → (W.cell? ⟨v, 0, none⟩ = some (.slice (some a0) 1 c2) ∧ W.cell? a0 = some (.int .u8 (cc.toNat : Int)))) := Lib.hid (fun W hw => ⟨(tk_cells (HV.out.chg hw id)).1, (hw.cell HA.out.1 id).trans HA.out.2.1⟩)
          have s2 := HK3.out _ (Chg.refl _ _).drew
          have s3 := HK3.out _ HCA.out
          have e3 := (en_cells (HEP2.out.new HKP2.out.fr (Chg.refl _ _).drew).blk).2.2.2.1
          have e5 := (en_cells (HEP2.out.new HKP2.out.fr HCA.out).blk).2.2.2.1
          have HEP5 := Lib.hid (HEP2.out.new HKP2.out.fr HCA.out)
          have HF5 := Lib.hid (HKP2.out.fr.size HCA.out.size)
          have HKP5 := Lib.hid (HKP2.out.trans (Keeps.new (L := L) HKP2.out.fr HCA.out))
          have HV5 := Lib.hid (HV.out.chg HCA.out id)
          have HA5 := Lib.hid (show a0.block < ((wc.alloc (.cells #[.int .u8 (cc.toNat : Int)] 5)).drew).heap.size ∧ ((wc.alloc (.cells #[.int .u8 (cc.toNat : Int)] 5)).drew).cell? a0 = some (.int .u8 (cc.toNat : Int)) from ⟨Nat.lt_of_lt_of_le HA.out.1 HCA.out.size, (HCA.out.cell HA.out.1 id).trans HA.out.2.1⟩)
          have HRW := Lib.hid (rds_new1 wc 5 #[.int .u8 (cc.toNat : Int)] (0, 0) wc.heap.size rfl (bcs [cc]) 1 rfl rfl).drew
          clear x0 x1 x2
          refine wp_region_noPanic ?_
          refine wp_region_held_drew (S := (fun w' => w'.cell? ⟨v, 0, none⟩ = some (.slice (some a0) 1 c2) ∧ w'.cell? a0 = some (.int .u8 (cc.toNat : Int)))) (by kernel_rfl) s2 (fun hHeld => ?_)
          refine wpAnyH_take (i := 0) (v := ?_) rfl (by kernel_rfl) (by kernel_rfl) (by kernel_rfl) (fun _ _ _ h => h) (Or.inl ⟨by rfl, ?_⟩) (by assumption) ?_
          rotate_left
          · intro w' hSw
            try dsimp only at hSw
            go_simp
            first | done | (with_reducible rfl)
          try simp only [List.getElem_toArray, List.getElem_cons_succ, List.getElem_cons_zero, Act.put, List.setIfInBounds_toArray, List.set_cons_zero, List.set_cons_succ]
          refine wpAnyH_take (i := 1) (v := ?_) rfl (by kernel_rfl) (by kernel_rfl) (by kernel_rfl) (fun _ _ _ h => h) (Or.inl ⟨by rfl, ?_⟩) (by assumption) ?_
          rotate_left
          · intro w' hSw
            try dsimp only at hSw
            go_simp
            first | done | (with_reducible rfl)
          try simp only [List.getElem_toArray, List.getElem_cons_succ, List.getElem_cons_zero, Act.put, List.setIfInBounds_toArray, List.set_cons_zero, List.set_cons_succ]
          refine wpAnyH_take (i := 2) (v := ?_) rfl (by kernel_rfl) (by kernel_rfl) (by kernel_rfl) (fun _ _ _ h => h) (Or.inl ⟨by rfl, ?_⟩) (by assumption) ?_
          rotate_left
          · intro w' hSw
            try dsimp only at hSw
            go_simp
            first | done | (with_reducible rfl)
          try simp only [List.getElem_toArray, List.getElem_cons_succ, List.getElem_cons_zero, Act.put, List.setIfInBounds_toArray, List.set_cons_zero, List.set_cons_succ]
          refine wpAnyH_take (i := 3) (v := ?_) rfl (by kernel_rfl) (by kernel_rfl) (by kernel_rfl) (fun _ _ _ h => h) (Or.inl ⟨by rfl, ?_⟩) (by assumption) ?_
          rotate_left
          · intro w' hSw
            try dsimp only at hSw
            go_simp
            first | done | (with_reducible rfl)
          try simp only [List.getElem_toArray, List.getElem_cons_succ, List.getElem_cons_zero, Act.put, List.setIfInBounds_toArray, List.set_cons_zero, List.set_cons_succ]
          refine wpAnyH_take (i := 5) (v := ?_) rfl (by kernel_rfl) (by kernel_rfl) (by kernel_rfl) (fun _ _ _ h => h) (Or.inl ⟨by rfl, ?_⟩) (by assumption) ?_
          rotate_left
          · intro w' hSw
            try dsimp only at hSw
            go_simp
            first | done | (with_reducible rfl)
          try simp only [List.getElem_toArray, List.getElem_cons_succ, List.getElem_cons_zero, Act.put, List.setIfInBounds_toArray, List.set_cons_zero, List.set_cons_succ]
          refine wpAnyH_take (i := 6) (v := ?_) rfl (by kernel_rfl) (by kernel_rfl) (by kernel_rfl) (fun _ _ _ h => h) (Or.inl ⟨by rfl, ?_⟩) (by assumption) ?_
          rotate_left
          · intro w' hSw
            try dsimp only at hSw
            go_simp
            first | done | (with_reducible rfl)
          try simp only [List.getElem_toArray, List.getElem_cons_succ, List.getElem_cons_zero, Act.put, List.setIfInBounds_toArray, List.set_cons_zero, List.set_cons_succ]
          refine wpAnyH_take (i := 7) (v := ?_) rfl (by kernel_rfl) (by kernel_rfl) (by kernel_rfl) (fun _ _ _ h => h) (Or.inl ⟨by rfl, ?_⟩) (by assumption) ?_
          rotate_left
          · intro w' hSw
            try dsimp only at hSw
            go_simp
            first | done | (with_reducible rfl)
          try simp only [List.getElem_toArray, List.getElem_cons_succ, List.getElem_cons_zero, Act.put, List.setIfInBounds_toArray, List.set_cons_zero, List.set_cons_succ]
          refine wpAnyH_take (i := 8) (v := ?_) rfl (by kernel_rfl) (by kernel_rfl) (by kernel_rfl) (fun _ _ _ h => h) (Or.inl ⟨by rfl, ?_⟩) (by assumption) ?_
          rotate_left
          · intro w' hSw
            try dsimp only at hSw
            go_simp
            first | done | (with_reducible rfl)
          try simp only [List.getElem_toArray, List.getElem_cons_succ, List.getElem_cons_zero, Act.put, List.setIfInBounds_toArray, List.set_cons_zero, List.set_cons_succ]
          refine wpAnyH_ready (rs := [4, 9]) (by kernel_rfl) (by simp) ?_
          refine AllReadyH.cons rfl (fun K hK => ?_) (AllReadyH.cons rfl (fun K hK => ?_) AllReadyH.nil)
          · go_simp
            refine hK.out _ _ s2 (fun hHeld => ?_)
            clear hK K
            try simp only [List.getElem_toArray, List.getElem_cons_succ, List.getElem_cons_zero, Act.put, List.setIfInBounds_toArray, List.set_cons_zero, List.set_cons_succ]
            refine wpAnyH_ready (rs := [9]) (by kernel_rfl) (by simp) ?_
            refine AllReadyH.cons rfl (fun K hK => ?_) AllReadyH.nil
            go_simp
            refine hK.out _ _ s3 (fun hHeld => ?_)
            clear hK K
            try simp only [List.getElem_toArray, List.getElem_cons_succ, List.getElem_cons_zero, Act.put, List.setIfInBounds_toArray, List.set_cons_zero, List.set_cons_succ]
            clear e3 s2
            generalize (wc.alloc (.cells #[.int .u8 (cc.toNat : Int)] 5)).drew = w5 at *
            generalize wc.heap.size = r9 at *
            clear s3
            refine wpAnyH_ready (rs := [10]) (by kernel_rfl) (by simp) ?_
            refine AllReadyH.cons rfl (fun K hK => ?_) AllReadyH.nil
            refine step_own_append _ rfl (.tmp 43) (.tmp 48) 22 rfl 0 5 i0 (.int .u8 0) 1 Try.underlying22 hi0 hz0 hz1 hz2 rfl (.slice O m oc) m _ rfl HEP5.out.out (fun k => k = r9) (some ⟨r9, 0, none⟩) 1 1 (bcs [cc]) rfl HRW.out (bcs_one _) (by unfold maxLen; omega) (by omega) (Nat.zero_le _) ?_
            intro v' w6 hown hg hat
            obtain ⟨O', oc', rfl, _, _⟩ := own_form hown
            obtain ⟨hr6, hc6, hl6⟩ := app_ren (D := fun a => a = L + 4) HF5.out HEP5.out.ol hown hg hat rfl
            have hb6 := HEP5.out.blk.chg hc6 (Tn.not HF5.out HEP5.out.le (by omega))
            have s4 := And.intro ((tk_cells (HV5.out.chg hc6 (Tn.not HF5.out HS.out (by omega)))).1) ((hc6.cell HA5.out.1 (Tn.gf HA.out.2.2.1)).trans HA5.out.2)
            have HB6 := Lib.hid hb6
            obtain ⟨f7, hen7, hr7, hc7⟩ := HEP5.out.handed HF5.out (b := [cc]) (by rw [HEP5.out.ono]; rfl) hown hg hat rfl
            have s5 := And.intro ((tk_cells (HV5.out.chg hc7 (Tn.not HF5.out HS.out (by omega)))).1) ((hc7.cell HA5.out.1 (Tn.gf HA.out.2.2.1)).trans HA5.out.2)
            have HEN7 := Lib.hid hen7
            have HKP7 := Lib.hid (HKP5.out.trans (Keeps.of HF5.out hr7 hc7 (fun a ha => by omega)))
            have e6 := (en_cells HB6.out).2.2.2.1
            have u6 := HB6.out.frozen 3
            clear hen7 hr7 hc7 hr6 hc6 hl6 hb6 hown hg hat
            refine hK.out _ _ s4 (fun hHeld => ?_)
            clear hK K e5
            try simp only [List.getElem_toArray, List.getElem_cons_succ, List.getElem_cons_zero, Act.put, List.setIfInBounds_toArray, List.set_cons_zero, List.set_cons_succ]
            refine wpAnyH_take (i := 11) (v := ?_) rfl (by kernel_rfl) (by kernel_rfl) (by kernel_rfl) (fun _ _ _ h => h) (Or.inl ⟨by rfl, ?_⟩) (by assumption) ?_
            rotate_left
            · intro w' hSw
              try dsimp only at hSw
              go_simp
              first | done | (with_reducible rfl)
            try simp only [List.getElem_toArray, List.getElem_cons_succ, List.getElem_cons_zero, Act.put, List.setIfInBounds_toArray, List.set_cons_zero, List.set_cons_succ]
            refine wpAnyH_take (i := 12) (v := ?_) rfl (by kernel_rfl) (by kernel_rfl) (by kernel_rfl) (fun _ _ _ h => h) (Or.inl ⟨by rfl, ?_⟩) (by assumption) ?_
            rotate_left
            · intro w' hSw
              try dsimp only at hSw
              go_simp
              first | done | (with_reducible rfl)
            try simp only [List.getElem_toArray, List.getElem_cons_succ, List.getElem_cons_zero, Act.put, List.setIfInBounds_toArray, List.set_cons_zero, List.set_cons_succ]
            refine wpAnyH_ready (rs := [13]) (by kernel_rfl) (by simp) ?_
            refine AllReadyH.cons rfl (fun K hK => ?_) AllReadyH.nil
            go_simp
            refine hK.out _ _ s5 (fun hHeld => ?_)
            clear hK K
            try simp only [List.getElem_toArray, List.getElem_cons_succ, List.getElem_cons_zero, Act.put, List.setIfInBounds_toArray, List.set_cons_zero, List.set_cons_succ]
            clear e6 u6 s5 s4
            refine wpAnyH_done (by kernel_rfl) ?_ _
            refine NoPanic.normal ?_
            clear hHeld
            go_wp2_with fail
            go_ret
            refine ⟨rfl, f7, ?_, HKP.out.trans HKP7.out⟩
            rw [HTV.out, HTB.out]
            simpa only [Bool.false_eq_true, if_false, if_true] using HEN7.out
          · go_simp
            refine hK.out _ _ s3 (fun hHeld => ?_)
            clear hK K
            try simp only [List.getElem_toArray, List.getElem_cons_succ, List.getElem_cons_zero, Act.put, List.setIfInBounds_toArray, List.set_cons_zero, List.set_cons_succ]
            refine wpAnyH_ready (rs := [4]) (by kernel_rfl) (by simp) ?_
            refine AllReadyH.cons rfl (fun K hK => ?_) AllReadyH.nil
            go_simp
            refine hK.out _ _ s3 (fun hHeld => ?_)
            clear hK K
            try simp only [List.getElem_toArray, List.getElem_cons_succ, List.getElem_cons_zero, Act.put, List.setIfInBounds_toArray, List.set_cons_zero, List.set_cons_succ]
            clear e3 s2
            generalize (wc.alloc (.cells #[.int .u8 (cc.toNat : Int)] 5)).drew = w5 at *
            generalize wc.heap.size = r9 at *
            clear s3
            refine wpAnyH_ready (rs := [10]) (by kernel_rfl) (by simp) ?_
            refine AllReadyH.cons rfl (fun K hK => ?_) AllReadyH.nil
            refine step_own_append _ rfl (.tmp 43) (.tmp 48) 22 rfl 0 5 i0 (.int .u8 0) 1 Try.underlying22 hi0 hz0 hz1 hz2 rfl (.slice O m oc) m _ rfl HEP5.out.out (fun k => k = r9) (some ⟨r9, 0, none⟩) 1 1 (bcs [cc]) rfl HRW.out (bcs_one _) (by unfold maxLen; omega) (by omega) (Nat.zero_le _) ?_
            intro v' w6 hown hg hat
            obtain ⟨O', oc', rfl, _, _⟩ := own_form hown
            obtain ⟨hr6, hc6, hl6⟩ := app_ren (D := fun a => a = L + 4) HF5.out HEP5.out.ol hown hg hat rfl
            have hb6 := HEP5.out.blk.chg hc6 (Tn.not HF5.out HEP5.out.le (by omega))
            have s4 := And.intro ((tk_cells (HV5.out.chg hc6 (Tn.not HF5.out HS.out (by omega)))).1) ((hc6.cell HA5.out.1 (Tn.gf HA.out.2.2.1)).trans HA5.out.2)
            have HB6 := Lib.hid hb6
            obtain ⟨f7, hen7, hr7, hc7⟩ := HEP5.out.handed HF5.out (b := [cc]) (by rw [HEP5.out.ono]; rfl) hown hg hat rfl
            have s5 := And.intro ((tk_cells (HV5.out.chg hc7 (Tn.not HF5.out HS.out (by omega)))).1) ((hc7.cell HA5.out.1 (Tn.gf HA.out.2.2.1)).trans HA5.out.2)
            have HEN7 := Lib.hid hen7
            have HKP7 := Lib.hid (HKP5.out.trans (Keeps.of HF5.out hr7 hc7 (fun a ha => by omega)))
            have e6 := (en_cells HB6.out).2.2.2.1
            have u6 := HB6.out.frozen 3
            clear hen7 hr7 hc7 hr6 hc6 hl6 hb6 hown hg hat
            refine hK.out _ _ s4 (fun hHeld => ?_)
            clear hK K e5
            try simp only [List.getElem_toArray, List.getElem_cons_succ, List.getElem_cons_zero, Act.put, List.setIfInBounds_toArray, List.set_cons_zero, List.set_cons_succ]
            refine wpAnyH_take (i := 11) (v := ?_) rfl (by kernel_rfl) (by kernel_rfl) (by kernel_rfl) (fun _ _ _ h => h) (Or.inl ⟨by rfl, ?_⟩) (by assumption) ?_
            rotate_left
            · intro w' hSw
              try dsimp only at hSw
              go_simp
              first | done | (with_reducible rfl)
            try simp only [List.getElem_toArray, List.getElem_cons_succ, List.getElem_cons_zero, Act.put, List.setIfInBounds_toArray, List.set_cons_zero, List.set_cons_succ]
            refine wpAnyH_take (i := 12) (v := ?_) rfl (by kernel_rfl) (by kernel_rfl) (by kernel_rfl) (fun _ _ _ h => h) (Or.inl ⟨by rfl, ?_⟩) (by assumption) ?_
            rotate_left
            · intro w' hSw
              try dsimp only at hSw
              go_simp
              first | done | (with_reducible rfl)
            try simp only [List.getElem_toArray, List.getElem_cons_succ, List.getElem_cons_zero, Act.put, List.setIfInBounds_toArray, List.set_cons_zero, List.set_cons_succ]
            refine wpAnyH_ready (rs := [13]) (by kernel_rfl) (by simp) ?_
            refine AllReadyH.cons rfl (fun K hK => ?_) AllReadyH.nil
            go_simp
            refine hK.out _ _ s5 (fun hHeld => ?_)
            clear hK K
            try simp only [List.getElem_toArray, List.getElem_cons_succ, List.getElem_cons_zero, Act.put, List.setIfInBounds_toArray, List.set_cons_zero, List.set_cons_succ]
            clear e6 u6 s5 s4
            refine wpAnyH_done (by kernel_rfl) ?_ _
            refine NoPanic.normal ?_
            clear hHeld
            go_wp2_with fail
            go_ret
            refine ⟨rfl, f7, ?_, HKP.out.trans HKP7.out⟩
            rw [HTV.out, HTB.out]
            simpa only [Bool.false_eq_true, if_false, if_true] using HEN7.out

end Go.Proofs.Ytbbjecjhkjjbkaa
