/-
  Walk: rutterlaw13.FlowRank. Condition: the entries are read in memory.
-/
import Derived.Test.YtkhlhebeedemjaaYg
import Derived.Test.YtkhlhebeedemjaaYh
namespace Go.Proofs.Ytkhlhebeedemjaa
open Go.RowKit
set_option linter.unusedVariables false
set_option linter.unusedSimpArgs false

/-- Two rows, apart. -/
def AP13 (A B : Option Addr) : Prop := ∀ k, A.map (·.block) = some k → B.map (·.block) ≠ some k
theorem AP13.symm {A B : Option Addr} (h : AP13 A B) : AP13 B A := fun k h1 h2 => h k h2 h1
theorem own_len13 {w : World} {b : Nat} {e : TypeId} {v : Value} {n : Nat} {l : List En} (h : w.ownsRow b e 11 v n (enF l)) : n = l.length := by
  have h1 := h.1
  rw [enF_len] at h1
  omega
/-- An append onto one of two rows. -/
theorem push13 {w0 wa w5 : World} {b : Nat} {e : TypeId} {A A2 A5 : Option Addr} {k d k2 d2 k5 d5 : Nat} {xs ys : List Value} (h1 : wa.ownsRow b e 11 (.slice A k d) k xs) (h2 : wa.ownsRow b e 11 (.slice A2 k2 d2) k2 ys) (hap : AP13 A A2)
    (hg : wa.grownBy w5 (Value.slice A k d).ownBlock) (hat : (Value.slice A5 k5 d5).ownBlock = (Value.slice A k d).ownBlock ∨ (Value.slice A5 k5 d5).ownBlock = some wa.heap.size) (hc : Chg (fun _ => False) w0 wa) (hb : w0.heap.size ≤ b) :
    w5.ownsRow b e 11 (.slice A2 k2 d2) k2 ys ∧ AP13 A5 A2 ∧ Chg (fun _ => False) w0 w5 := by
  have hcg : Chg (fun k => A.map (·.block) = some k) wa w5 := (Chg.refl _ wa).grown hg (fun k hk _ => by rw [own_block] at hk; exact hk)
  refine ⟨own_chg h2 hcg (fun k hk e => hap k e hk), ?_, grown_fresh hc hg h1 hb⟩
  rw [own_block, own_block] at hat
  rcases hat with e | e
  · intro k hk
    exact hap k (by rw [← e]; exact hk)
  · intro k hk hk2
    have := (own_low h2 hk2).2
    rw [e] at hk
    injection hk with hk
    omega
set_option maxRecDepth 100000 in
set_option maxHeartbeats 8000000 in
theorem rank13_big {w : World} {L : Option Addr} {m lc : Nat} {l : List En} (h : EnR w L m l) (hz : L = none → lc = 0) (hmc : m ≤ 9223372036854775807) (hb : 256 < m) (ki km kp ks ko : Int) : Calls Try.prog 4 #[.slice L m lc, .agg (kyC ki km kp ks ko)] w fun e w' => e = .returned (.bool true) ∧ Chg (fun _ => False) w w' := by
  have HN := Lib.hid (fun W => fnew13_full (L := L) (lc := lc) hb W)
  have HK : Hid (Blk (w.alloc (.cells #[.int .i64 ki, .int .u64 km, .int .i64 kp, .int .i64 ks, .int .i64 ko] 25)) w.heap.size 25 (kyC ki km kp ks ko)) := Lib.hid (blk_new rfl)
  have HX := Lib.hid ((Chg.refl (fun _ => False) w).alloc (.cells #[.int .i64 ki, .int .u64 km, .int .i64 kp, .int .i64 ks, .int .i64 ko] 25))
  have HR := Lib.hid (h.alloc (.cells #[.int .i64 ki, .int .u64 km, .int .i64 kp, .int .i64 ks, .int .i64 ko] 25))
  have HZ := Lib.hid hz
  have HAL := Lib.hid (fun W => alive13_any W)
  clear h hz
  unfold kyC
  go_enter Try.func4, Try.ntmps4
  go_upto_region 1 with fail
  generalize w.alloc (.cells #[.int .i64 ki, .int .u64 km, .int .i64 kp, .int .i64 ks, .int .i64 ko] 25) = w1 at *
  generalize w.heap.size = QK at *
  go_wp2_with fail
  refine (HN.out _).mono ?_
  rintro e w2 ⟨rfl, rfl⟩
  go_wp2_with fail
  refine (HAL.out _).mono ?_
  rintro e wa ⟨rfl, hc⟩
  replace HX := Lib.hid (HX.out.trans hc (fun _ _ e => e))
  clear hc
  go_wp2_with fail
  go_ret
  exact ⟨ret_b13 (by simp; omega), HX.out⟩
set_option maxRecDepth 100000 in
set_option maxHeartbeats 16000000 in
theorem rank13_any {w : World} {L : Option Addr} {m lc : Nat} {l : List En} (h : EnR w L m l) (hz : L = none → lc = 0) (hb : m ≤ 256) (ki km kp ks ko : Int) : Calls Try.prog 4 #[.slice L m lc, .agg (kyC ki km kp ks ko)] w fun e w' => e = .returned (.bool true) ∧ Chg (fun _ => False) w w' := by
  obtain ⟨i0, hi0, hz0, hz1, hz2⟩ := info_parts infoEn13
  have HL := Lib.hid h.1
  have HB256 := Lib.hid (show l.length ≤ 256 by have := HL.out; omega)
  obtain ⟨a0, a1, a2, a3, hac, -, -, -, -⟩ := bx13_ac (lk13 ⟨ki, km, kp, ks, ko⟩ l)
  generalize hbb : (lk13 ⟨ki, km, kp, ks, ko⟩ l).isSome = bb at *
  have HLK0 := Lib.hid (show ∀ (W : World) (p : Nat) (l2 : List En), TF W p l2 → l2.length ≤ 256 → lk13 ⟨ki, km, kp, ks, ko⟩ l2 = lk13 ⟨ki, km, kp, ks, ko⟩ l → Calls Try.prog 9 #[.pointer (some ⟨p, 0, none⟩), .agg #[.int .i64 ki, .int .u64 km, .int .i64 kp, .int .i64 ks, .int .i64 ko]] W (fun e w' => e = .returned (.tuple #[.agg #[.int .i64 a0, .int .i64 a1, .int .i64 a2, .int .i64 a3], .bool bb]) ∧ Chg (fun _ => False) W w') from fun W p l2 hT hl2 he => by
    have h2 := flook13_any hT hl2 ki km kp ks ko
    unfold LkP13 at h2
    rw [he, hac, hbb] at h2
    exact h2)
  have HBB := Lib.hid hbb
  clear hac hbb
  have HK : Hid (Blk (w.alloc (.cells #[.int .i64 ki, .int .u64 km, .int .i64 kp, .int .i64 ks, .int .i64 ko] 25)) w.heap.size 25 (kyC ki km kp ks ko)) := Lib.hid (blk_new rfl)
  have HX := Lib.hid ((Chg.refl (fun _ => False) w).alloc (.cells #[.int .i64 ki, .int .u64 km, .int .i64 kp, .int .i64 ks, .int .i64 ko] 25))
  have HR := Lib.hid (h.alloc (.cells #[.int .i64 ki, .int .u64 km, .int .i64 kp, .int .i64 ks, .int .i64 ko] 25))
  have HZ := Lib.hid hz
  have HAL := Lib.hid (fun W => alive13_any W)
  clear h hz
  unfold kyC
  go_enter Try.func4, Try.ntmps4
  go_upto_region 1 with fail
  generalize w.alloc (.cells #[.int .i64 ki, .int .u64 km, .int .i64 kp, .int .i64 ks, .int .i64 ko] 25) = w1 at *
  generalize w.heap.size = QK at *
  have HN := Lib.hid (fnew13_any HR.out HZ.out hb)
  go_wp2_with fail
  refine HN.out.mono ?_
  rintro e w2 ⟨p, rfl, hT, hc⟩
  have HT := Lib.hid hT
  replace HK := Lib.hid (HK.out.chg hc id)
  replace HR := Lib.hid (HR.out.chg hc)
  replace HX := Lib.hid (HX.out.trans hc (fun _ _ e => e))
  clear hT hc HN
  obtain ⟨u0, u1, u2, u3, u4⟩ := ky_cells13 HK.out
  go_wp2_with fail
  refine (HLK0.out _ p l HT.out HB256.out rfl).mono ?_
  rintro e w3 ⟨rfl, hc⟩
  have hca := hc.alloc (.cells #[.int .i64 a0, .int .i64 a1, .int .i64 a2, .int .i64 a3] 35)
  have HA : Hid (Blk (w3.alloc (.cells #[.int .i64 a0, .int .i64 a1, .int .i64 a2, .int .i64 a3] 35)) w3.heap.size 35 (acC a0 a1 a2 a3)) := Lib.hid (blk_new rfl)
  replace HK := Lib.hid (HK.out.chg hca id)
  replace HR := Lib.hid (HR.out.chg hca)
  replace HX := Lib.hid (HX.out.trans hca (fun _ _ e => e))
  clear hc hca HT u0 u1 u2 u3 u4
  go_upto_region 5 with fail
  generalize w3.alloc (.cells #[.int .i64 a0, .int .i64 a1, .int .i64 a2, .int .i64 a3] 35) = v3 at *
  generalize w3.heap.size = X7 at *
  go_wp2_with fail
  go_loopg [9, 10, 11] m (fun g s9 s10 i wr => ∃ (j : Nat) (b : Option En), g = m - j ∧ j ≤ m ∧ s9 = .int .i64 ((b.map En.pr).getD 0) ∧ s10 = .bool b.isSome ∧ i = .int .i64 (j : Int) ∧ Hid (lk13 ⟨ki, km, kp, ks, ko⟩ (l.take j) = b) ∧ Hid (Chg (fun _ => False) v3 wr))
  case atStart => exact ⟨0, none, rfl, Nat.zero_le _, rfl, rfl, rfl, Lib.hid rfl, Lib.hid (Chg.refl _ _)⟩
  case round =>
    obtain ⟨j, b, rfl, hj, rfl, rfl, rfl, HLK, HY⟩ := hrel
    by_cases hlt : j < m
    · have hh := HR.out.chg HY.out
      obtain ⟨aL, rfl, -⟩ := hh.2 (by omega)
      have hjl : j < l.length := by have := HL.out; omega
      have hx : l[j]? = some l[j] := List.getElem?_eq_getElem hjl
      generalize l[j] = x at *
      have HJ := Lib.hid (lk13_take (k := ⟨ki, km, kp, ks, ko⟩) hx)
      have HKEEP : Hid (∀ W : World, Chg (fun _ => False) wr W → (W.cell? ⟨QK, 0, none⟩ = some (.int .i64 ki) ∧ W.cell? ⟨QK, 1, none⟩ = some (.int .u64 km) ∧ W.cell? ⟨QK, 2, none⟩ = some (.int .i64 kp) ∧ W.cell? ⟨QK, 3, none⟩ = some (.int .i64 ks) ∧ W.cell? ⟨QK, 4, none⟩ = some (.int .i64 ko) ∧ W.cell? (aL.add (j * 11)) = some (.int .i64 x.pr) ∧ W.cell? ⟨(aL.add (j * 11)).block, (aL.add (j * 11)).off + 1, none⟩ = some (.int .i64 x.ins) ∧ W.cell? ⟨(aL.add (j * 11)).block, (aL.add (j * 11)).off + 2, none⟩ = some (.int .u64 x.ma) ∧ W.cell? ⟨(aL.add (j * 11)).block, (aL.add (j * 11)).off + 3, none⟩ = some (.int .i64 x.po) ∧ W.cell? ⟨(aL.add (j * 11)).block, (aL.add (j * 11)).off + 4, none⟩ = some (.int .i64 x.fr) ∧ W.cell? ⟨(aL.add (j * 11)).block, (aL.add (j * 11)).off + 5, none⟩ = some (.int .i64 x.up) ∧ W.cell? ⟨(aL.add (j * 11)).block, (aL.add (j * 11)).off + 6, none⟩ = some (.int .i64 x.no) ∧ W.cell? ⟨(aL.add (j * 11)).block, (aL.add (j * 11)).off + 7, none⟩ = some (.int .i64 x.ak) ∧ W.cell? ⟨(aL.add (j * 11)).block, (aL.add (j * 11)).off + 8, none⟩ = some (.int .i64 x.ap) ∧ W.cell? ⟨(aL.add (j * 11)).block, (aL.add (j * 11)).off + 9, none⟩ = some (.int .i64 x.ao) ∧ W.cell? ⟨(aL.add (j * 11)).block, (aL.add (j * 11)).off + 10, none⟩ = some (.int .i64 x.ag))) := Lib.hid (fun W hw => by
        obtain ⟨u0, u1, u2, u3, u4⟩ := ky_cells13 (HK.out.chg (HY.out.trans hw (fun _ _ e => e)) id)
        obtain ⟨p0, p1, p2, p3, p4, p5, p6, p7, p8, p9, p10⟩ := (hh.chg hw).at hx
        exact ⟨u0, u1, u2, u3, u4, p0, p1, p2, p3, p4, p5, p6, p7, p8, p9, p10⟩)
      clear hx hh hjl
      have hf1 := fun W => ffits13_any x.pr x.ins x.ma x.po x.fr x.up x.no x.ak x.ap x.ao x.ag ki km kp ks ko W
      replace hf1 : ∀ W, Calls _ _ _ W (fun e w' => e = .returned (.bool (fit13 x ⟨ki, km, kp, ks, ko⟩)) ∧ Chg (fun _ => False) W w') := hf1
      unfold enC kyC at hf1
      have HYA := Lib.hid ((Chg.refl (fun _ => False) wr).drew)
      obtain ⟨u0, u1, u2, u3, u4, p0, p1, p2, p3, p4, p5, p6, p7, p8, p9, p10⟩ := HKEEP.out _ HYA.out
      cases b with
      | none =>
        cases hf : fit13 x ⟨ki, km, kp, ks, ko⟩ with
        | false =>
          rw [hf] at hf1
          have HF1 := Lib.hid hf1
          have HFF := Lib.hid hf
          clear hf1 hf
          go_wp2_with fail
          have s2 := HKEEP.out _ HYA.out
          refine wp_region_noPanic ?_
          refine wp_region_held_drew (S := fun w' => w'.cell? ⟨QK, 0, none⟩ = some (.int .i64 ki) ∧ w'.cell? ⟨QK, 1, none⟩ = some (.int .u64 km) ∧ w'.cell? ⟨QK, 2, none⟩ = some (.int .i64 kp) ∧ w'.cell? ⟨QK, 3, none⟩ = some (.int .i64 ks) ∧ w'.cell? ⟨QK, 4, none⟩ = some (.int .i64 ko) ∧ w'.cell? (aL.add (j * 11)) = some (.int .i64 x.pr) ∧ w'.cell? ⟨(aL.add (j * 11)).block, (aL.add (j * 11)).off + 1, none⟩ = some (.int .i64 x.ins) ∧ w'.cell? ⟨(aL.add (j * 11)).block, (aL.add (j * 11)).off + 2, none⟩ = some (.int .u64 x.ma) ∧ w'.cell? ⟨(aL.add (j * 11)).block, (aL.add (j * 11)).off + 3, none⟩ = some (.int .i64 x.po) ∧ w'.cell? ⟨(aL.add (j * 11)).block, (aL.add (j * 11)).off + 4, none⟩ = some (.int .i64 x.fr) ∧ w'.cell? ⟨(aL.add (j * 11)).block, (aL.add (j * 11)).off + 5, none⟩ = some (.int .i64 x.up) ∧ w'.cell? ⟨(aL.add (j * 11)).block, (aL.add (j * 11)).off + 6, none⟩ = some (.int .i64 x.no) ∧ w'.cell? ⟨(aL.add (j * 11)).block, (aL.add (j * 11)).off + 7, none⟩ = some (.int .i64 x.ak) ∧ w'.cell? ⟨(aL.add (j * 11)).block, (aL.add (j * 11)).off + 8, none⟩ = some (.int .i64 x.ap) ∧ w'.cell? ⟨(aL.add (j * 11)).block, (aL.add (j * 11)).off + 9, none⟩ = some (.int .i64 x.ao) ∧ w'.cell? ⟨(aL.add (j * 11)).block, (aL.add (j * 11)).off + 10, none⟩ = some (.int .i64 x.ag)) (by kernel_rfl) s2 (fun hHeld => ?_)
          refine wpAnyH_take (i := 0) (v := ?_) rfl (by kernel_rfl) (by kernel_rfl) (by kernel_rfl) (fun _ _ _ h => h) (Or.inl ⟨by rfl, ?_⟩) (by assumption) ?_
          rotate_left
          · intro w' hSw
            try dsimp only at hSw
            go_simp
            first | done | (with_reducible rfl)
          try simp only [List.getElem_toArray, List.getElem_cons_succ, List.getElem_cons_zero, Act.put, List.setIfInBounds_toArray, List.set_cons_zero, List.set_cons_succ]
          refine wpAnyH_take (i := 1) (v := ?_) rfl (by kernel_rfl) (by kernel_rfl) (by kernel_rfl) (fun _ _ _ h => h) (Or.inl ⟨by rfl, ?_⟩) (by assumption) ?_
          rotate_left
          · intro w' hSw
            try dsimp only at hSw
            go_simp
            first | done | (with_reducible rfl)
          try simp only [List.getElem_toArray, List.getElem_cons_succ, List.getElem_cons_zero, Act.put, List.setIfInBounds_toArray, List.set_cons_zero, List.set_cons_succ]
          refine wpAnyH_take (i := 2) (v := ?_) rfl (by kernel_rfl) (by kernel_rfl) (by kernel_rfl) (fun _ _ _ h => h) (Or.inl ⟨by rfl, ?_⟩) (by assumption) ?_
          rotate_left
          · intro w' hSw
            try dsimp only at hSw
            go_simp
            first | done | (with_reducible rfl)
          try simp only [List.getElem_toArray, List.getElem_cons_succ, List.getElem_cons_zero, Act.put, List.setIfInBounds_toArray, List.set_cons_zero, List.set_cons_succ]
          refine wpAnyH_take (i := 3) (v := ?_) rfl (by kernel_rfl) (by kernel_rfl) (by kernel_rfl) (fun _ _ _ h => h) (Or.inl ⟨by rfl, ?_⟩) (by assumption) ?_
          rotate_left
          · intro w' hSw
            try dsimp only at hSw
            go_simp
            first | done | (with_reducible rfl)
          try simp only [List.getElem_toArray, List.getElem_cons_succ, List.getElem_cons_zero, Act.put, List.setIfInBounds_toArray, List.set_cons_zero, List.set_cons_succ]
          refine wpAnyH_take (i := 4) (v := ?_) rfl (by kernel_rfl) (by kernel_rfl) (by kernel_rfl) (fun _ _ _ h => h) (Or.inl ⟨by rfl, ?_⟩) (by assumption) ?_
          rotate_left
          · intro w' hSw
            try dsimp only at hSw
            go_simp
            first | done | (with_reducible rfl)
          try simp only [List.getElem_toArray, List.getElem_cons_succ, List.getElem_cons_zero, Act.put, List.setIfInBounds_toArray, List.set_cons_zero, List.set_cons_succ]
          refine wpAnyH_ready (rs := [5]) (by kernel_rfl) (by simp) ?_
          refine AllReadyH.cons rfl (fun K hK => ?_) AllReadyH.nil
          go_simp
          refine (HF1.out _).mono ?_
          rintro e wb ⟨rfl, hc⟩
          have HYB := Lib.hid (HYA.out.trans hc (fun _ _ e => e))
          have s2 := HKEEP.out _ HYB.out
          clear hc
          go_wp2_with fail
          refine hK.out _ _ s2 (fun hHeld => ?_)
          clear hK K
          try simp only [List.getElem_toArray, List.getElem_cons_succ, List.getElem_cons_zero, Act.put, List.setIfInBounds_toArray, List.set_cons_zero, List.set_cons_succ]
          refine wpAnyH_take (i := 6) (v := ?_) rfl (by kernel_rfl) (by kernel_rfl) (by kernel_rfl) (fun _ _ _ h => h) (Or.inl ⟨by rfl, ?_⟩) (by assumption) ?_
          rotate_left
          · intro w' hSw
            try dsimp only at hSw
            go_simp
            first | done | (with_reducible rfl)
          try simp only [List.getElem_toArray, List.getElem_cons_succ, List.getElem_cons_zero, Act.put, List.setIfInBounds_toArray, List.set_cons_zero, List.set_cons_succ]
          refine wpAnyH_take (i := 7) (v := _) rfl (by kernel_rfl) (by kernel_rfl) (by kernel_rfl) (fun _ _ _ h => h) (Or.inr ⟨by rfl, rfl⟩) (by assumption) ?_
          try simp only [List.getElem_toArray, List.getElem_cons_succ, List.getElem_cons_zero, Act.put, List.setIfInBounds_toArray, List.set_cons_zero, List.set_cons_succ]
          refine wpAnyH_take (i := 8) (v := _) rfl (by kernel_rfl) (by kernel_rfl) (by kernel_rfl) (fun _ _ _ h => h) (Or.inr ⟨by rfl, rfl⟩) (by assumption) ?_
          try simp only [List.getElem_toArray, List.getElem_cons_succ, List.getElem_cons_zero, Act.put, List.setIfInBounds_toArray, List.set_cons_zero, List.set_cons_succ]
          refine wpAnyH_take (i := 9) (v := _) rfl (by kernel_rfl) (by kernel_rfl) (by kernel_rfl) (fun _ _ _ h => h) (Or.inr ⟨by rfl, rfl⟩) (by assumption) ?_
          try simp only [List.getElem_toArray, List.getElem_cons_succ, List.getElem_cons_zero, Act.put, List.setIfInBounds_toArray, List.set_cons_zero, List.set_cons_succ]
          refine wpAnyH_take (i := 10) (v := _) rfl (by kernel_rfl) (by kernel_rfl) (by kernel_rfl) (fun _ _ _ h => h) (Or.inr ⟨by rfl, rfl⟩) (by assumption) ?_
          try simp only [List.getElem_toArray, List.getElem_cons_succ, List.getElem_cons_zero, Act.put, List.setIfInBounds_toArray, List.set_cons_zero, List.set_cons_succ]
          refine wpAnyH_take (i := 11) (v := _) rfl (by kernel_rfl) (by kernel_rfl) (by kernel_rfl) (fun _ _ _ h => h) (Or.inr ⟨by rfl, rfl⟩) (by assumption) ?_
          try simp only [List.getElem_toArray, List.getElem_cons_succ, List.getElem_cons_zero, Act.put, List.setIfInBounds_toArray, List.set_cons_zero, List.set_cons_succ]
          refine wpAnyH_take (i := 12) (v := _) rfl (by kernel_rfl) (by kernel_rfl) (by kernel_rfl) (fun _ _ _ h => h) (Or.inr ⟨by rfl, rfl⟩) (by assumption) ?_
          try simp only [List.getElem_toArray, List.getElem_cons_succ, List.getElem_cons_zero, Act.put, List.setIfInBounds_toArray, List.set_cons_zero, List.set_cons_succ]
          refine wpAnyH_take (i := 13) (v := _) rfl (by kernel_rfl) (by kernel_rfl) (by kernel_rfl) (fun _ _ _ h => h) (Or.inr ⟨by rfl, rfl⟩) (by assumption) ?_
          try simp only [List.getElem_toArray, List.getElem_cons_succ, List.getElem_cons_zero, Act.put, List.setIfInBounds_toArray, List.set_cons_zero, List.set_cons_succ]
          refine wpAnyH_take (i := 14) (v := _) rfl (by kernel_rfl) (by kernel_rfl) (by kernel_rfl) (fun _ _ _ h => h) (Or.inr ⟨by rfl, rfl⟩) (by assumption) ?_
          try simp only [List.getElem_toArray, List.getElem_cons_succ, List.getElem_cons_zero, Act.put, List.setIfInBounds_toArray, List.set_cons_zero, List.set_cons_succ]
          refine wpAnyH_take (i := 15) (v := _) rfl (by kernel_rfl) (by kernel_rfl) (by kernel_rfl) (fun _ _ _ h => h) (Or.inr ⟨by rfl, rfl⟩) (by assumption) ?_
          try simp only [List.getElem_toArray, List.getElem_cons_succ, List.getElem_cons_zero, Act.put, List.setIfInBounds_toArray, List.set_cons_zero, List.set_cons_succ]
          refine wpAnyH_take (i := 16) (v := _) rfl (by kernel_rfl) (by kernel_rfl) (by kernel_rfl) (fun _ _ _ h => h) (Or.inr ⟨by rfl, rfl⟩) (by assumption) ?_
          try simp only [List.getElem_toArray, List.getElem_cons_succ, List.getElem_cons_zero, Act.put, List.setIfInBounds_toArray, List.set_cons_zero, List.set_cons_succ]
          refine wpAnyH_take (i := 17) (v := _) rfl (by kernel_rfl) (by kernel_rfl) (by kernel_rfl) (fun _ _ _ h => h) (Or.inr ⟨by rfl, rfl⟩) (by assumption) ?_
          try simp only [List.getElem_toArray, List.getElem_cons_succ, List.getElem_cons_zero, Act.put, List.setIfInBounds_toArray, List.set_cons_zero, List.set_cons_succ]
          refine wpAnyH_take (i := 18) (v := ?_) rfl (by kernel_rfl) (by kernel_rfl) (by kernel_rfl) (fun _ _ _ h => h) (Or.inl ⟨by rfl, ?_⟩) (by assumption) ?_
          rotate_left
          · intro w' hSw
            try dsimp only at hSw
            go_simp
            first | done | (with_reducible rfl)
          try simp only [List.getElem_toArray, List.getElem_cons_succ, List.getElem_cons_zero, Act.put, List.setIfInBounds_toArray, List.set_cons_zero, List.set_cons_succ]
          refine wpAnyH_done (by kernel_rfl) ?_ _
          refine NoPanic.normal ?_
          all_goals
            go_wp2_with fail
            go_roundg (m - (j + 1))
            case measure => omega
            case rel => exact ⟨j + 1, none, rfl, by omega, rfl, rfl, by go_num, Lib.hid (by rw [HJ.out, HLK.out]; exact up13_no HFF.out), Lib.hid (HY.out.trans HYB.out (fun _ _ e => e))⟩
        | true =>
          rw [hf] at hf1
          have HF1 := Lib.hid hf1
          have HFF := Lib.hid hf
          clear hf1 hf
          go_wp2_with fail
          have s2 := HKEEP.out _ HYA.out
          refine wp_region_noPanic ?_
          refine wp_region_held_drew (S := fun w' => w'.cell? ⟨QK, 0, none⟩ = some (.int .i64 ki) ∧ w'.cell? ⟨QK, 1, none⟩ = some (.int .u64 km) ∧ w'.cell? ⟨QK, 2, none⟩ = some (.int .i64 kp) ∧ w'.cell? ⟨QK, 3, none⟩ = some (.int .i64 ks) ∧ w'.cell? ⟨QK, 4, none⟩ = some (.int .i64 ko) ∧ w'.cell? (aL.add (j * 11)) = some (.int .i64 x.pr) ∧ w'.cell? ⟨(aL.add (j * 11)).block, (aL.add (j * 11)).off + 1, none⟩ = some (.int .i64 x.ins) ∧ w'.cell? ⟨(aL.add (j * 11)).block, (aL.add (j * 11)).off + 2, none⟩ = some (.int .u64 x.ma) ∧ w'.cell? ⟨(aL.add (j * 11)).block, (aL.add (j * 11)).off + 3, none⟩ = some (.int .i64 x.po) ∧ w'.cell? ⟨(aL.add (j * 11)).block, (aL.add (j * 11)).off + 4, none⟩ = some (.int .i64 x.fr) ∧ w'.cell? ⟨(aL.add (j * 11)).block, (aL.add (j * 11)).off + 5, none⟩ = some (.int .i64 x.up) ∧ w'.cell? ⟨(aL.add (j * 11)).block, (aL.add (j * 11)).off + 6, none⟩ = some (.int .i64 x.no) ∧ w'.cell? ⟨(aL.add (j * 11)).block, (aL.add (j * 11)).off + 7, none⟩ = some (.int .i64 x.ak) ∧ w'.cell? ⟨(aL.add (j * 11)).block, (aL.add (j * 11)).off + 8, none⟩ = some (.int .i64 x.ap) ∧ w'.cell? ⟨(aL.add (j * 11)).block, (aL.add (j * 11)).off + 9, none⟩ = some (.int .i64 x.ao) ∧ w'.cell? ⟨(aL.add (j * 11)).block, (aL.add (j * 11)).off + 10, none⟩ = some (.int .i64 x.ag)) (by kernel_rfl) s2 (fun hHeld => ?_)
          refine wpAnyH_take (i := 0) (v := ?_) rfl (by kernel_rfl) (by kernel_rfl) (by kernel_rfl) (fun _ _ _ h => h) (Or.inl ⟨by rfl, ?_⟩) (by assumption) ?_
          rotate_left
          · intro w' hSw
            try dsimp only at hSw
            go_simp
            first | done | (with_reducible rfl)
          try simp only [List.getElem_toArray, List.getElem_cons_succ, List.getElem_cons_zero, Act.put, List.setIfInBounds_toArray, List.set_cons_zero, List.set_cons_succ]
          refine wpAnyH_take (i := 1) (v := ?_) rfl (by kernel_rfl) (by kernel_rfl) (by kernel_rfl) (fun _ _ _ h => h) (Or.inl ⟨by rfl, ?_⟩) (by assumption) ?_
          rotate_left
          · intro w' hSw
            try dsimp only at hSw
            go_simp
            first | done | (with_reducible rfl)
          try simp only [List.getElem_toArray, List.getElem_cons_succ, List.getElem_cons_zero, Act.put, List.setIfInBounds_toArray, List.set_cons_zero, List.set_cons_succ]
          refine wpAnyH_take (i := 2) (v := ?_) rfl (by kernel_rfl) (by kernel_rfl) (by kernel_rfl) (fun _ _ _ h => h) (Or.inl ⟨by rfl, ?_⟩) (by assumption) ?_
          rotate_left
          · intro w' hSw
            try dsimp only at hSw
            go_simp
            first | done | (with_reducible rfl)
          try simp only [List.getElem_toArray, List.getElem_cons_succ, List.getElem_cons_zero, Act.put, List.setIfInBounds_toArray, List.set_cons_zero, List.set_cons_succ]
          refine wpAnyH_take (i := 3) (v := ?_) rfl (by kernel_rfl) (by kernel_rfl) (by kernel_rfl) (fun _ _ _ h => h) (Or.inl ⟨by rfl, ?_⟩) (by assumption) ?_
          rotate_left
          · intro w' hSw
            try dsimp only at hSw
            go_simp
            first | done | (with_reducible rfl)
          try simp only [List.getElem_toArray, List.getElem_cons_succ, List.getElem_cons_zero, Act.put, List.setIfInBounds_toArray, List.set_cons_zero, List.set_cons_succ]
          refine wpAnyH_take (i := 4) (v := ?_) rfl (by kernel_rfl) (by kernel_rfl) (by kernel_rfl) (fun _ _ _ h => h) (Or.inl ⟨by rfl, ?_⟩) (by assumption) ?_
          rotate_left
          · intro w' hSw
            try dsimp only at hSw
            go_simp
            first | done | (with_reducible rfl)
          try simp only [List.getElem_toArray, List.getElem_cons_succ, List.getElem_cons_zero, Act.put, List.setIfInBounds_toArray, List.set_cons_zero, List.set_cons_succ]
          refine wpAnyH_ready (rs := [5]) (by kernel_rfl) (by simp) ?_
          refine AllReadyH.cons rfl (fun K hK => ?_) AllReadyH.nil
          go_simp
          refine (HF1.out _).mono ?_
          rintro e wb ⟨rfl, hc⟩
          have HYB := Lib.hid (HYA.out.trans hc (fun _ _ e => e))
          have s2 := HKEEP.out _ HYB.out
          clear hc
          go_wp2_with fail
          refine hK.out _ _ s2 (fun hHeld => ?_)
          clear hK K
          try simp only [List.getElem_toArray, List.getElem_cons_succ, List.getElem_cons_zero, Act.put, List.setIfInBounds_toArray, List.set_cons_zero, List.set_cons_succ]
          refine wpAnyH_take (i := 6) (v := ?_) rfl (by kernel_rfl) (by kernel_rfl) (by kernel_rfl) (fun _ _ _ h => h) (Or.inl ⟨by rfl, ?_⟩) (by assumption) ?_
          rotate_left
          · intro w' hSw
            try dsimp only at hSw
            go_simp
            first | done | (with_reducible rfl)
          try simp only [List.getElem_toArray, List.getElem_cons_succ, List.getElem_cons_zero, Act.put, List.setIfInBounds_toArray, List.set_cons_zero, List.set_cons_succ]
          refine wpAnyH_take (i := 7) (v := ?_) rfl (by kernel_rfl) (by kernel_rfl) (by kernel_rfl) (fun _ _ _ h => h) (Or.inl ⟨by rfl, ?_⟩) (by assumption) ?_
          rotate_left
          · intro w' hSw
            try dsimp only at hSw
            go_simp
            first | done | (with_reducible rfl)
          try simp only [List.getElem_toArray, List.getElem_cons_succ, List.getElem_cons_zero, Act.put, List.setIfInBounds_toArray, List.set_cons_zero, List.set_cons_succ]
          refine wpAnyH_take (i := 8) (v := ?_) rfl (by kernel_rfl) (by kernel_rfl) (by kernel_rfl) (fun _ _ _ h => h) (Or.inl ⟨by rfl, ?_⟩) (by assumption) ?_
          rotate_left
          · intro w' hSw
            try dsimp only at hSw
            go_simp
            first | done | (with_reducible rfl)
          try simp only [List.getElem_toArray, List.getElem_cons_succ, List.getElem_cons_zero, Act.put, List.setIfInBounds_toArray, List.set_cons_zero, List.set_cons_succ]
          refine wpAnyH_take (i := 9) (v := ?_) rfl (by kernel_rfl) (by kernel_rfl) (by kernel_rfl) (fun _ _ _ h => h) (Or.inl ⟨by rfl, ?_⟩) (by assumption) ?_
          rotate_left
          · intro w' hSw
            try dsimp only at hSw
            go_simp
            first | done | (with_reducible rfl)
          try simp only [List.getElem_toArray, List.getElem_cons_succ, List.getElem_cons_zero, Act.put, List.setIfInBounds_toArray, List.set_cons_zero, List.set_cons_succ]
          refine wpAnyH_take (i := 10) (v := _) rfl (by kernel_rfl) (by kernel_rfl) (by kernel_rfl) (fun _ _ _ h => h) (Or.inr ⟨by rfl, rfl⟩) (by assumption) ?_
          try simp only [List.getElem_toArray, List.getElem_cons_succ, List.getElem_cons_zero, Act.put, List.setIfInBounds_toArray, List.set_cons_zero, List.set_cons_succ]
          refine wpAnyH_take (i := 11) (v := _) rfl (by kernel_rfl) (by kernel_rfl) (by kernel_rfl) (fun _ _ _ h => h) (Or.inr ⟨by rfl, rfl⟩) (by assumption) ?_
          try simp only [List.getElem_toArray, List.getElem_cons_succ, List.getElem_cons_zero, Act.put, List.setIfInBounds_toArray, List.set_cons_zero, List.set_cons_succ]
          refine wpAnyH_take (i := 12) (v := _) rfl (by kernel_rfl) (by kernel_rfl) (by kernel_rfl) (fun _ _ _ h => h) (Or.inr ⟨by rfl, rfl⟩) (by assumption) ?_
          try simp only [List.getElem_toArray, List.getElem_cons_succ, List.getElem_cons_zero, Act.put, List.setIfInBounds_toArray, List.set_cons_zero, List.set_cons_succ]
          refine wpAnyH_take (i := 13) (v := _) rfl (by kernel_rfl) (by kernel_rfl) (by kernel_rfl) (fun _ _ _ h => h) (Or.inr ⟨by rfl, rfl⟩) (by assumption) ?_
          try simp only [List.getElem_toArray, List.getElem_cons_succ, List.getElem_cons_zero, Act.put, List.setIfInBounds_toArray, List.set_cons_zero, List.set_cons_succ]
          refine wpAnyH_take (i := 14) (v := _) rfl (by kernel_rfl) (by kernel_rfl) (by kernel_rfl) (fun _ _ _ h => h) (Or.inr ⟨by rfl, rfl⟩) (by assumption) ?_
          try simp only [List.getElem_toArray, List.getElem_cons_succ, List.getElem_cons_zero, Act.put, List.setIfInBounds_toArray, List.set_cons_zero, List.set_cons_succ]
          refine wpAnyH_take (i := 15) (v := _) rfl (by kernel_rfl) (by kernel_rfl) (by kernel_rfl) (fun _ _ _ h => h) (Or.inr ⟨by rfl, rfl⟩) (by assumption) ?_
          try simp only [List.getElem_toArray, List.getElem_cons_succ, List.getElem_cons_zero, Act.put, List.setIfInBounds_toArray, List.set_cons_zero, List.set_cons_succ]
          refine wpAnyH_take (i := 16) (v := _) rfl (by kernel_rfl) (by kernel_rfl) (by kernel_rfl) (fun _ _ _ h => h) (Or.inr ⟨by rfl, rfl⟩) (by assumption) ?_
          try simp only [List.getElem_toArray, List.getElem_cons_succ, List.getElem_cons_zero, Act.put, List.setIfInBounds_toArray, List.set_cons_zero, List.set_cons_succ]
          refine wpAnyH_take (i := 17) (v := ?_) rfl (by kernel_rfl) (by kernel_rfl) (by kernel_rfl) (fun _ _ _ h => h) (Or.inl ⟨by rfl, ?_⟩) (by assumption) ?_
          rotate_left
          · intro w' hSw
            try dsimp only at hSw
            go_simp
            first | done | (with_reducible rfl)
          try simp only [List.getElem_toArray, List.getElem_cons_succ, List.getElem_cons_zero, Act.put, List.setIfInBounds_toArray, List.set_cons_zero, List.set_cons_succ]
          refine wpAnyH_take (i := 18) (v := ?_) rfl (by kernel_rfl) (by kernel_rfl) (by kernel_rfl) (fun _ _ _ h => h) (Or.inl ⟨by rfl, ?_⟩) (by assumption) ?_
          rotate_left
          · intro w' hSw
            try dsimp only at hSw
            go_simp
            first | done | (with_reducible rfl)
          try simp only [List.getElem_toArray, List.getElem_cons_succ, List.getElem_cons_zero, Act.put, List.setIfInBounds_toArray, List.set_cons_zero, List.set_cons_succ]
          refine wpAnyH_done (by kernel_rfl) ?_ _
          refine NoPanic.normal ?_
          all_goals
            go_wp2_with fail
            go_roundg (m - (j + 1))
            case measure => omega
            case rel => exact ⟨j + 1, some x, rfl, by omega, rfl, rfl, by go_num, Lib.hid (by rw [HJ.out, HLK.out]; exact up13_none HFF.out), Lib.hid (HY.out.trans HYB.out (fun _ _ e => e))⟩
      | some y =>
        cases hf : fit13 x ⟨ki, km, kp, ks, ko⟩ with
        | false =>
          rw [hf] at hf1
          have HF1 := Lib.hid hf1
          have HFF := Lib.hid hf
          clear hf1 hf
          go_wp2_with fail
          have s2 := HKEEP.out _ HYA.out
          refine wp_region_noPanic ?_
          refine wp_region_held_drew (S := fun w' => w'.cell? ⟨QK, 0, none⟩ = some (.int .i64 ki) ∧ w'.cell? ⟨QK, 1, none⟩ = some (.int .u64 km) ∧ w'.cell? ⟨QK, 2, none⟩ = some (.int .i64 kp) ∧ w'.cell? ⟨QK, 3, none⟩ = some (.int .i64 ks) ∧ w'.cell? ⟨QK, 4, none⟩ = some (.int .i64 ko) ∧ w'.cell? (aL.add (j * 11)) = some (.int .i64 x.pr) ∧ w'.cell? ⟨(aL.add (j * 11)).block, (aL.add (j * 11)).off + 1, none⟩ = some (.int .i64 x.ins) ∧ w'.cell? ⟨(aL.add (j * 11)).block, (aL.add (j * 11)).off + 2, none⟩ = some (.int .u64 x.ma) ∧ w'.cell? ⟨(aL.add (j * 11)).block, (aL.add (j * 11)).off + 3, none⟩ = some (.int .i64 x.po) ∧ w'.cell? ⟨(aL.add (j * 11)).block, (aL.add (j * 11)).off + 4, none⟩ = some (.int .i64 x.fr) ∧ w'.cell? ⟨(aL.add (j * 11)).block, (aL.add (j * 11)).off + 5, none⟩ = some (.int .i64 x.up) ∧ w'.cell? ⟨(aL.add (j * 11)).block, (aL.add (j * 11)).off + 6, none⟩ = some (.int .i64 x.no) ∧ w'.cell? ⟨(aL.add (j * 11)).block, (aL.add (j * 11)).off + 7, none⟩ = some (.int .i64 x.ak) ∧ w'.cell? ⟨(aL.add (j * 11)).block, (aL.add (j * 11)).off + 8, none⟩ = some (.int .i64 x.ap) ∧ w'.cell? ⟨(aL.add (j * 11)).block, (aL.add (j * 11)).off + 9, none⟩ = some (.int .i64 x.ao) ∧ w'.cell? ⟨(aL.add (j * 11)).block, (aL.add (j * 11)).off + 10, none⟩ = some (.int .i64 x.ag)) (by kernel_rfl) s2 (fun hHeld => ?_)
          refine wpAnyH_take (i := 0) (v := ?_) rfl (by kernel_rfl) (by kernel_rfl) (by kernel_rfl) (fun _ _ _ h => h) (Or.inl ⟨by rfl, ?_⟩) (by assumption) ?_
          rotate_left
          · intro w' hSw
            try dsimp only at hSw
            go_simp
            first | done | (with_reducible rfl)
          try simp only [List.getElem_toArray, List.getElem_cons_succ, List.getElem_cons_zero, Act.put, List.setIfInBounds_toArray, List.set_cons_zero, List.set_cons_succ]
          refine wpAnyH_take (i := 1) (v := ?_) rfl (by kernel_rfl) (by kernel_rfl) (by kernel_rfl) (fun _ _ _ h => h) (Or.inl ⟨by rfl, ?_⟩) (by assumption) ?_
          rotate_left
          · intro w' hSw
            try dsimp only at hSw
            go_simp
            first | done | (with_reducible rfl)
          try simp only [List.getElem_toArray, List.getElem_cons_succ, List.getElem_cons_zero, Act.put, List.setIfInBounds_toArray, List.set_cons_zero, List.set_cons_succ]
          refine wpAnyH_take (i := 2) (v := ?_) rfl (by kernel_rfl) (by kernel_rfl) (by kernel_rfl) (fun _ _ _ h => h) (Or.inl ⟨by rfl, ?_⟩) (by assumption) ?_
          rotate_left
          · intro w' hSw
            try dsimp only at hSw
            go_simp
            first | done | (with_reducible rfl)
          try simp only [List.getElem_toArray, List.getElem_cons_succ, List.getElem_cons_zero, Act.put, List.setIfInBounds_toArray, List.set_cons_zero, List.set_cons_succ]
          refine wpAnyH_take (i := 3) (v := ?_) rfl (by kernel_rfl) (by kernel_rfl) (by kernel_rfl) (fun _ _ _ h => h) (Or.inl ⟨by rfl, ?_⟩) (by assumption) ?_
          rotate_left
          · intro w' hSw
            try dsimp only at hSw
            go_simp
            first | done | (with_reducible rfl)
          try simp only [List.getElem_toArray, List.getElem_cons_succ, List.getElem_cons_zero, Act.put, List.setIfInBounds_toArray, List.set_cons_zero, List.set_cons_succ]
          refine wpAnyH_take (i := 4) (v := ?_) rfl (by kernel_rfl) (by kernel_rfl) (by kernel_rfl) (fun _ _ _ h => h) (Or.inl ⟨by rfl, ?_⟩) (by assumption) ?_
          rotate_left
          · intro w' hSw
            try dsimp only at hSw
            go_simp
            first | done | (with_reducible rfl)
          try simp only [List.getElem_toArray, List.getElem_cons_succ, List.getElem_cons_zero, Act.put, List.setIfInBounds_toArray, List.set_cons_zero, List.set_cons_succ]
          refine wpAnyH_ready (rs := [5]) (by kernel_rfl) (by simp) ?_
          refine AllReadyH.cons rfl (fun K hK => ?_) AllReadyH.nil
          go_simp
          refine (HF1.out _).mono ?_
          rintro e wb ⟨rfl, hc⟩
          have HYB := Lib.hid (HYA.out.trans hc (fun _ _ e => e))
          have s2 := HKEEP.out _ HYB.out
          clear hc
          go_wp2_with fail
          refine hK.out _ _ s2 (fun hHeld => ?_)
          clear hK K
          try simp only [List.getElem_toArray, List.getElem_cons_succ, List.getElem_cons_zero, Act.put, List.setIfInBounds_toArray, List.set_cons_zero, List.set_cons_succ]
          refine wpAnyH_take (i := 6) (v := ?_) rfl (by kernel_rfl) (by kernel_rfl) (by kernel_rfl) (fun _ _ _ h => h) (Or.inl ⟨by rfl, ?_⟩) (by assumption) ?_
          rotate_left
          · intro w' hSw
            try dsimp only at hSw
            go_simp
            first | done | (with_reducible rfl)
          try simp only [List.getElem_toArray, List.getElem_cons_succ, List.getElem_cons_zero, Act.put, List.setIfInBounds_toArray, List.set_cons_zero, List.set_cons_succ]
          refine wpAnyH_take (i := 7) (v := _) rfl (by kernel_rfl) (by kernel_rfl) (by kernel_rfl) (fun _ _ _ h => h) (Or.inr ⟨by rfl, rfl⟩) (by assumption) ?_
          try simp only [List.getElem_toArray, List.getElem_cons_succ, List.getElem_cons_zero, Act.put, List.setIfInBounds_toArray, List.set_cons_zero, List.set_cons_succ]
          refine wpAnyH_take (i := 8) (v := _) rfl (by kernel_rfl) (by kernel_rfl) (by kernel_rfl) (fun _ _ _ h => h) (Or.inr ⟨by rfl, rfl⟩) (by assumption) ?_
          try simp only [List.getElem_toArray, List.getElem_cons_succ, List.getElem_cons_zero, Act.put, List.setIfInBounds_toArray, List.set_cons_zero, List.set_cons_succ]
          refine wpAnyH_take (i := 9) (v := _) rfl (by kernel_rfl) (by kernel_rfl) (by kernel_rfl) (fun _ _ _ h => h) (Or.inr ⟨by rfl, rfl⟩) (by assumption) ?_
          try simp only [List.getElem_toArray, List.getElem_cons_succ, List.getElem_cons_zero, Act.put, List.setIfInBounds_toArray, List.set_cons_zero, List.set_cons_succ]
          refine wpAnyH_take (i := 10) (v := _) rfl (by kernel_rfl) (by kernel_rfl) (by kernel_rfl) (fun _ _ _ h => h) (Or.inr ⟨by rfl, rfl⟩) (by assumption) ?_
          try simp only [List.getElem_toArray, List.getElem_cons_succ, List.getElem_cons_zero, Act.put, List.setIfInBounds_toArray, List.set_cons_zero, List.set_cons_succ]
          refine wpAnyH_take (i := 11) (v := _) rfl (by kernel_rfl) (by kernel_rfl) (by kernel_rfl) (fun _ _ _ h => h) (Or.inr ⟨by rfl, rfl⟩) (by assumption) ?_
          try simp only [List.getElem_toArray, List.getElem_cons_succ, List.getElem_cons_zero, Act.put, List.setIfInBounds_toArray, List.set_cons_zero, List.set_cons_succ]
          refine wpAnyH_take (i := 12) (v := _) rfl (by kernel_rfl) (by kernel_rfl) (by kernel_rfl) (fun _ _ _ h => h) (Or.inr ⟨by rfl, rfl⟩) (by assumption) ?_
          try simp only [List.getElem_toArray, List.getElem_cons_succ, List.getElem_cons_zero, Act.put, List.setIfInBounds_toArray, List.set_cons_zero, List.set_cons_succ]
          refine wpAnyH_take (i := 13) (v := _) rfl (by kernel_rfl) (by kernel_rfl) (by kernel_rfl) (fun _ _ _ h => h) (Or.inr ⟨by rfl, rfl⟩) (by assumption) ?_
          try simp only [List.getElem_toArray, List.getElem_cons_succ, List.getElem_cons_zero, Act.put, List.setIfInBounds_toArray, List.set_cons_zero, List.set_cons_succ]
          refine wpAnyH_take (i := 14) (v := _) rfl (by kernel_rfl) (by kernel_rfl) (by kernel_rfl) (fun _ _ _ h => h) (Or.inr ⟨by rfl, rfl⟩) (by assumption) ?_
          try simp only [List.getElem_toArray, List.getElem_cons_succ, List.getElem_cons_zero, Act.put, List.setIfInBounds_toArray, List.set_cons_zero, List.set_cons_succ]
          refine wpAnyH_take (i := 15) (v := _) rfl (by kernel_rfl) (by kernel_rfl) (by kernel_rfl) (fun _ _ _ h => h) (Or.inr ⟨by rfl, rfl⟩) (by assumption) ?_
          try simp only [List.getElem_toArray, List.getElem_cons_succ, List.getElem_cons_zero, Act.put, List.setIfInBounds_toArray, List.set_cons_zero, List.set_cons_succ]
          refine wpAnyH_take (i := 16) (v := _) rfl (by kernel_rfl) (by kernel_rfl) (by kernel_rfl) (fun _ _ _ h => h) (Or.inr ⟨by rfl, rfl⟩) (by assumption) ?_
          try simp only [List.getElem_toArray, List.getElem_cons_succ, List.getElem_cons_zero, Act.put, List.setIfInBounds_toArray, List.set_cons_zero, List.set_cons_succ]
          refine wpAnyH_take (i := 17) (v := _) rfl (by kernel_rfl) (by kernel_rfl) (by kernel_rfl) (fun _ _ _ h => h) (Or.inr ⟨by rfl, rfl⟩) (by assumption) ?_
          try simp only [List.getElem_toArray, List.getElem_cons_succ, List.getElem_cons_zero, Act.put, List.setIfInBounds_toArray, List.set_cons_zero, List.set_cons_succ]
          refine wpAnyH_take (i := 18) (v := ?_) rfl (by kernel_rfl) (by kernel_rfl) (by kernel_rfl) (fun _ _ _ h => h) (Or.inl ⟨by rfl, ?_⟩) (by assumption) ?_
          rotate_left
          · intro w' hSw
            try dsimp only at hSw
            go_simp
            first | done | (with_reducible rfl)
          try simp only [List.getElem_toArray, List.getElem_cons_succ, List.getElem_cons_zero, Act.put, List.setIfInBounds_toArray, List.set_cons_zero, List.set_cons_succ]
          refine wpAnyH_done (by kernel_rfl) ?_ _
          refine NoPanic.normal ?_
          all_goals
            go_wp2_with fail
            go_roundg (m - (j + 1))
            case measure => omega
            case rel => exact ⟨j + 1, some y, rfl, by omega, rfl, rfl, by go_num, Lib.hid (by rw [HJ.out, HLK.out]; exact up13_no HFF.out), Lib.hid (HY.out.trans HYB.out (fun _ _ e => e))⟩
        | true =>
          rw [hf] at hf1
          have HF1 := Lib.hid hf1
          have HFF := Lib.hid hf
          clear hf1 hf
          by_cases hpr : y.pr < x.pr
          · have HPR := Lib.hid hpr
            go_wp2_with fail
            go_region_held3 (fun w' => w'.cell? ⟨QK, 0, none⟩ = some (.int .i64 ki) ∧ w'.cell? ⟨QK, 1, none⟩ = some (.int .u64 km) ∧ w'.cell? ⟨QK, 2, none⟩ = some (.int .i64 kp) ∧ w'.cell? ⟨QK, 3, none⟩ = some (.int .i64 ks) ∧ w'.cell? ⟨QK, 4, none⟩ = some (.int .i64 ko) ∧ w'.cell? (aL.add (j * 11)) = some (.int .i64 x.pr) ∧ w'.cell? ⟨(aL.add (j * 11)).block, (aL.add (j * 11)).off + 1, none⟩ = some (.int .i64 x.ins) ∧ w'.cell? ⟨(aL.add (j * 11)).block, (aL.add (j * 11)).off + 2, none⟩ = some (.int .u64 x.ma) ∧ w'.cell? ⟨(aL.add (j * 11)).block, (aL.add (j * 11)).off + 3, none⟩ = some (.int .i64 x.po) ∧ w'.cell? ⟨(aL.add (j * 11)).block, (aL.add (j * 11)).off + 4, none⟩ = some (.int .i64 x.fr) ∧ w'.cell? ⟨(aL.add (j * 11)).block, (aL.add (j * 11)).off + 5, none⟩ = some (.int .i64 x.up) ∧ w'.cell? ⟨(aL.add (j * 11)).block, (aL.add (j * 11)).off + 6, none⟩ = some (.int .i64 x.no) ∧ w'.cell? ⟨(aL.add (j * 11)).block, (aL.add (j * 11)).off + 7, none⟩ = some (.int .i64 x.ak) ∧ w'.cell? ⟨(aL.add (j * 11)).block, (aL.add (j * 11)).off + 8, none⟩ = some (.int .i64 x.ap) ∧ w'.cell? ⟨(aL.add (j * 11)).block, (aL.add (j * 11)).off + 9, none⟩ = some (.int .i64 x.ao) ∧ w'.cell? ⟨(aL.add (j * 11)).block, (aL.add (j * 11)).off + 10, none⟩ = some (.int .i64 x.ag))
              (first | with_reducible exact HKEEP.out _ HYA.out | with_reducible exact HKEEP.out _ HYB.out | fail)
              (first
                | (go_at_call 14; (with_reducible refine (HF1.out _).mono ?_); rintro e wb ⟨rfl, hc⟩; have HYB := Lib.hid (HYA.out.trans hc (fun _ _ e => e)); clear hc)
                | fail)
            all_goals
              go_wp2_with fail
              go_roundg (m - (j + 1))
              case measure => omega
              case rel => exact ⟨j + 1, some x, rfl, by omega, rfl, rfl, by go_num, Lib.hid (by rw [HJ.out, HLK.out]; exact up13_lt HFF.out HPR.out), Lib.hid (HY.out.trans HYB.out (fun _ _ e => e))⟩
          · have HPR := Lib.hid hpr
            go_wp2_with fail
            go_region_held3 (fun w' => w'.cell? ⟨QK, 0, none⟩ = some (.int .i64 ki) ∧ w'.cell? ⟨QK, 1, none⟩ = some (.int .u64 km) ∧ w'.cell? ⟨QK, 2, none⟩ = some (.int .i64 kp) ∧ w'.cell? ⟨QK, 3, none⟩ = some (.int .i64 ks) ∧ w'.cell? ⟨QK, 4, none⟩ = some (.int .i64 ko) ∧ w'.cell? (aL.add (j * 11)) = some (.int .i64 x.pr) ∧ w'.cell? ⟨(aL.add (j * 11)).block, (aL.add (j * 11)).off + 1, none⟩ = some (.int .i64 x.ins) ∧ w'.cell? ⟨(aL.add (j * 11)).block, (aL.add (j * 11)).off + 2, none⟩ = some (.int .u64 x.ma) ∧ w'.cell? ⟨(aL.add (j * 11)).block, (aL.add (j * 11)).off + 3, none⟩ = some (.int .i64 x.po) ∧ w'.cell? ⟨(aL.add (j * 11)).block, (aL.add (j * 11)).off + 4, none⟩ = some (.int .i64 x.fr) ∧ w'.cell? ⟨(aL.add (j * 11)).block, (aL.add (j * 11)).off + 5, none⟩ = some (.int .i64 x.up) ∧ w'.cell? ⟨(aL.add (j * 11)).block, (aL.add (j * 11)).off + 6, none⟩ = some (.int .i64 x.no) ∧ w'.cell? ⟨(aL.add (j * 11)).block, (aL.add (j * 11)).off + 7, none⟩ = some (.int .i64 x.ak) ∧ w'.cell? ⟨(aL.add (j * 11)).block, (aL.add (j * 11)).off + 8, none⟩ = some (.int .i64 x.ap) ∧ w'.cell? ⟨(aL.add (j * 11)).block, (aL.add (j * 11)).off + 9, none⟩ = some (.int .i64 x.ao) ∧ w'.cell? ⟨(aL.add (j * 11)).block, (aL.add (j * 11)).off + 10, none⟩ = some (.int .i64 x.ag))
              (first | with_reducible exact HKEEP.out _ HYA.out | with_reducible exact HKEEP.out _ HYB.out | fail)
              (first
                | (go_at_call 14; (with_reducible refine (HF1.out _).mono ?_); rintro e wb ⟨rfl, hc⟩; have HYB := Lib.hid (HYA.out.trans hc (fun _ _ e => e)); clear hc)
                | fail)
            all_goals
              go_wp2_with fail
              go_roundg (m - (j + 1))
              case measure => omega
              case rel => exact ⟨j + 1, some y, rfl, by omega, rfl, rfl, by go_num, Lib.hid (by rw [HJ.out, HLK.out]; exact up13_le (by have := HPR.out; omega)), Lib.hid (HY.out.trans HYB.out (fun _ _ e => e))⟩
    · have hjm : j = m := by omega
      subst hjm
      replace HK := Lib.hid (HK.out.chg HY.out id)
      replace HR := Lib.hid (HR.out.chg HY.out)
      replace HA := Lib.hid (HA.out.chg HY.out id)
      replace HX := Lib.hid (HX.out.trans HY.out (fun _ _ e => e))
      have HBL := Lib.hid (show lk13 ⟨ki, km, kp, ks, ko⟩ l = b from by rw [← HLK.out, List.take_of_length_le (by have := HL.out; omega)])
      clear HLK HY
      cases b with
      | none =>
        obtain rfl : bb = false := by rw [← HBB.out, HBL.out]; rfl
        go_wp2_with fail
        refine (HAL.out _).mono ?_
        rintro e wa ⟨rfl, hc⟩
        replace HX := Lib.hid (HX.out.trans hc (fun _ _ e => e))
        clear hc
        go_wp2_with fail
        go_ret
        exact ⟨rfl, HX.out⟩
      | some y =>
        obtain rfl : bb = true := by rw [← HBB.out, HBL.out]; rfl
        have HXW := Lib.hid HX.out
        go_wp2_with fail
        generalize wr = wz at *
        go_loopg [12, 13, 14] j (fun g s12 s13 i wr => ∃ (j1 k1 d1 k2 d2 : Nat) (A1 A2 : Option Addr), g = j - j1 ∧ j1 ≤ j ∧ s12 = .slice A1 k1 d1 ∧ s13 = .slice A2 k2 d2 ∧ i = .int .i64 (j1 : Int) ∧ k1 ≤ j1 ∧ k2 ≤ j1 ∧ Hid (wr.ownsRow wz.heap.size 49 11 (.slice A1 k1 d1) k1 (enF (low13 y.pr (l.take j1)))) ∧ Hid (wr.ownsRow wz.heap.size 49 11 (.slice A2 k2 d2) k2 (enF (high13 y.pr (l.take j1)))) ∧ Hid (AP13 A1 A2) ∧ Hid (Chg (fun _ => False) wz wr))
        case atStart => exact ⟨0, 0, 0, 0, 0, none, none, rfl, Nat.zero_le _, rfl, rfl, rfl, Nat.le_refl _, Nat.le_refl _, Lib.hid (World.ownsRow_nil _ _ _ _), Lib.hid (World.ownsRow_nil _ _ _ _), Lib.hid (fun k hk => by cases hk), Lib.hid (Chg.refl _ _)⟩
        case round =>
          obtain ⟨j1, k1, d1, k2, d2, A1, A2, rfl, hj1, rfl, rfl, rfl, hk1, hk2, HO1, HO2, HAP1, HXR⟩ := hrel
          by_cases hlt : j1 < j
          · have hh := HR.out.chg HXR.out
            obtain ⟨aL, rfl, -⟩ := hh.2 (by omega)
            have hjl : j1 < l.length := by have := HL.out; omega
            have hx : l[j1]? = some l[j1] := List.getElem?_eq_getElem hjl
            generalize l[j1] = x at *
            obtain ⟨z0, z1, z2, z3, z4, z5, z6, z7, z8, z9, z10⟩ := hh.at hx
            have hca := (Chg.refl (fun _ => False) wr).alloc (.cells #[.int .i64 x.pr, .int .i64 x.ins, .int .u64 x.ma, .int .i64 x.po, .int .i64 x.fr, .int .i64 x.up, .int .i64 x.no, .int .i64 x.ak, .int .i64 x.ap, .int .i64 x.ao, .int .i64 x.ag] 49)
            have HNEW : Hid (∀ ad, some (⟨wr.heap.size, 0, none⟩ : Addr) = some ad → ∀ (j : Nat) (u : Value), ([.int .i64 x.pr, .int .i64 x.ins, .int .u64 x.ma, .int .i64 x.po, .int .i64 x.fr, .int .i64 x.up, .int .i64 x.no, .int .i64 x.ak, .int .i64 x.ap, .int .i64 x.ao, .int .i64 x.ag] : List Value)[j]? = some u → (wr.alloc (.cells #[.int .i64 x.pr, .int .i64 x.ins, .int .u64 x.ma, .int .i64 x.po, .int .i64 x.fr, .int .i64 x.up, .int .i64 x.no, .int .i64 x.ak, .int .i64 x.ap, .int .i64 x.ao, .int .i64 x.ag] 49)).cell? (ad.add j) = some u) := Lib.hid (fun ad e => by
              injection e with e
              subst e
              exact new_cells13 wr 49 [.int .i64 x.pr, .int .i64 x.ins, .int .u64 x.ma, .int .i64 x.po, .int .i64 x.fr, .int .i64 x.up, .int .i64 x.no, .int .i64 x.ak, .int .i64 x.ap, .int .i64 x.ao, .int .i64 x.ag])
            have HONE := Lib.hid (show ∀ u ∈ ([.int .i64 x.pr, .int .i64 x.ins, .int .u64 x.ma, .int .i64 x.po, .int .i64 x.fr, .int .i64 x.up, .int .i64 x.no, .int .i64 x.ak, .int .i64 x.ap, .int .i64 x.ao, .int .i64 x.ag] : List Value), u.oneCell' = true by simp [Value.oneCell'])
            replace HO1 := Lib.hid (own_chg HO1.out hca (fun _ _ => id))
            replace HO2 := Lib.hid (own_chg HO2.out hca (fun _ _ => id))
            replace HXR := Lib.hid (HXR.out.trans hca (fun _ _ e => e))
            have HAP2 := Lib.hid HAP1.out.symm
            have HSZ := Lib.hid HXR.out.size
            clear hca hh hjl
            by_cases hpr : x.pr < y.pr
            · have HE1 := Lib.hid (show enF (low13 y.pr (l.take (j1 + 1))) = enF (low13 y.pr (l.take j1)) ++ [.int .i64 x.pr, .int .i64 x.ins, .int .u64 x.ma, .int .i64 x.po, .int .i64 x.fr, .int .i64 x.up, .int .i64 x.no, .int .i64 x.ak, .int .i64 x.ap, .int .i64 x.ao, .int .i64 x.ag] from by rw [low13_take hx, if_pos hpr, enF_app, enF_sing]; rfl)
              have HE2 := Lib.hid (show enF (high13 y.pr (l.take (j1 + 1))) = enF (high13 y.pr (l.take j1)) from by rw [high13_take hx, if_pos hpr, List.append_nil])
              clear hx
              generalize enF (low13 y.pr (l.take j1)) = xs1 at *
              generalize enF (high13 y.pr (l.take j1)) = xs2 at *
              go_wp2_with (at_builtin; refine wpList_app13 _ rfl (.tmp 98) (.tmp 103) 22 rfl wz.heap.size 49 i0 _ 11 88 Try.underlying22 hi0 hz0 hz1 hz2 rfl (by decide) (.slice A1 k1 d1) k1 xs1 rfl HO1.out (some ⟨wr.heap.size, 0, none⟩) 1 1 [.int .i64 x.pr, .int .i64 x.ins, .int .u64 x.ma, .int .i64 x.po, .int .i64 x.fr, .int .i64 x.up, .int .i64 x.no, .int .i64 x.ak, .int .i64 x.ap, .int .i64 x.ao, .int .i64 x.ag] rfl rfl (fun e => by cases e) HNEW.out HONE.out (by unfold maxLen; omega) (by omega) HSZ.out ?_; intro v5 w5 hown5 hg5 hat5; obtain ⟨A5, d5, rfl, -, -⟩ := own_form hown5; have HO5 := Lib.hid hown5; have HP5 := Lib.hid (push13 HO1.out HO2.out HAP1.out hg5 hat5 HXR.out (Nat.le_refl _)); clear hown5 hg5 hat5)
              go_roundg (j - (j1 + 1))
              case measure => omega
              case rel => exact ⟨j1 + 1, k1 + 1, d5, k2, d2, A5, A2, rfl, by omega, rfl, rfl, by go_num, by omega, by omega, Lib.hid (by rw [HE1.out]; exact HO5.out), Lib.hid (by rw [HE2.out]; exact HP5.out.1), Lib.hid HP5.out.2.1, Lib.hid HP5.out.2.2⟩
            · have HE1 := Lib.hid (show enF (low13 y.pr (l.take (j1 + 1))) = enF (low13 y.pr (l.take j1)) from by rw [low13_take hx, if_neg hpr, List.append_nil])
              have HE2 := Lib.hid (show enF (high13 y.pr (l.take (j1 + 1))) = enF (high13 y.pr (l.take j1)) ++ [.int .i64 x.pr, .int .i64 x.ins, .int .u64 x.ma, .int .i64 x.po, .int .i64 x.fr, .int .i64 x.up, .int .i64 x.no, .int .i64 x.ak, .int .i64 x.ap, .int .i64 x.ao, .int .i64 x.ag] from by rw [high13_take hx, if_neg hpr, enF_app, enF_sing]; rfl)
              clear hx
              generalize enF (low13 y.pr (l.take j1)) = xs1 at *
              generalize enF (high13 y.pr (l.take j1)) = xs2 at *
              go_wp2_with (at_builtin; refine wpList_app13 _ rfl (.tmp 105) (.tmp 110) 22 rfl wz.heap.size 49 i0 _ 11 88 Try.underlying22 hi0 hz0 hz1 hz2 rfl (by decide) (.slice A2 k2 d2) k2 xs2 rfl HO2.out (some ⟨wr.heap.size, 0, none⟩) 1 1 [.int .i64 x.pr, .int .i64 x.ins, .int .u64 x.ma, .int .i64 x.po, .int .i64 x.fr, .int .i64 x.up, .int .i64 x.no, .int .i64 x.ak, .int .i64 x.ap, .int .i64 x.ao, .int .i64 x.ag] rfl rfl (fun e => by cases e) HNEW.out HONE.out (by unfold maxLen; omega) (by omega) HSZ.out ?_; intro v5 w5 hown5 hg5 hat5; obtain ⟨A5, d5, rfl, -, -⟩ := own_form hown5; have HO5 := Lib.hid hown5; have HP5 := Lib.hid (push13 HO2.out HO1.out HAP2.out hg5 hat5 HXR.out (Nat.le_refl _)); clear hown5 hg5 hat5)
              go_roundg (j - (j1 + 1))
              case measure => omega
              case rel => exact ⟨j1 + 1, k1, d1, k2 + 1, d5, A1, A5, rfl, by omega, rfl, rfl, by go_num, by omega, by omega, Lib.hid (by rw [HE1.out]; exact HP5.out.1), Lib.hid (by rw [HE2.out]; exact HO5.out), Lib.hid HP5.out.2.1.symm, Lib.hid HP5.out.2.2⟩
          · have hjm : j1 = j := by omega
            subst hjm
            have HTK := Lib.hid (show l.take j1 = l from List.take_of_length_le (by have := HL.out; omega))
            have ho1 := HO1.out
            have ho2 := HO2.out
            rw [HTK.out] at ho1 ho2
            have HN1 := Lib.hid (own_len13 ho1)
            have HN2 := Lib.hid (own_len13 ho2)
            have HLOW := Lib.hid (own_enr ho1 HN1.out)
            have HHIGH := Lib.hid (own_enr ho2 HN2.out)
            have HZ1 := Lib.hid (own_nil13 ho1)
            have HZ2 := Lib.hid (own_nil13 ho2)
            have HRH := Lib.hid (show lk13 ⟨ki, km, kp, ks, ko⟩ (high13 y.pr l) = lk13 ⟨ki, km, kp, ks, ko⟩ l from by rw [rank13_high HBL.out, HBL.out])
            have HRB := Lib.hid (show lk13 ⟨ki, km, kp, ks, ko⟩ (low13 y.pr l ++ high13 y.pr l) = lk13 ⟨ki, km, kp, ks, ko⟩ l from by rw [rank13_both HBL.out, HBL.out])
            have hsum : k1 + k2 ≤ 256 := by have := sum13 y.pr l; have := HN1.out; have := HN2.out; have := HL.out; omega
            replace HK := Lib.hid (HK.out.chg HXR.out id)
            replace HA := Lib.hid (HA.out.chg HXR.out id)
            replace HX := Lib.hid (HX.out.trans HXR.out (fun _ _ e => e))
            clear HO1 HO2 HAP1 HXR HTK ho1 ho2
            generalize low13 y.pr l = ll at *
            generalize high13 y.pr l = lh at *
            have HN := Lib.hid (fnew13_any HHIGH.out HZ2.out (by omega))
            go_wp2_with fail
            refine HN.out.mono ?_
            rintro e w4 ⟨pu, rfl, hT, hc⟩
            have HTU := Lib.hid hT
            replace HK := Lib.hid (HK.out.chg hc id)
            replace HA := Lib.hid (HA.out.chg hc id)
            replace HLOW := Lib.hid (HLOW.out.chg hc)
            replace HHIGH := Lib.hid (HHIGH.out.chg hc)
            replace HX := Lib.hid (HX.out.trans hc (fun _ _ e => e))
            clear hT hc HN
            have HSRC1 := Lib.hid (enr_flat (HLOW.out.alloc (.cells #[] 49)))
            have HS1 := Lib.hid (enF_len ll)
            have HS2 := Lib.hid (enF_len lh)
            have HX4 := Lib.hid ((Chg.refl (fun _ => False) w4).alloc (.cells #[] 49))
            go_wp2_with (first
              | (at_builtin; refine wpList_app13 _ rfl (.tmp 118) (.tmp 119) 22 rfl w4.heap.size 49 i0 _ 11 88 Try.underlying22 hi0 hz0 hz1 hz2 rfl (by decide) (.slice (some ⟨w4.heap.size, 0, none⟩) 0 0) 0 [] rfl (own_empty13 w4 49 11) A1 k1 d1 (enF ll) rfl (by rw [HS1.out, HN1.out]) (enr_none HLOW.out) HSRC1.out (enF_one ll) (by unfold maxLen; omega) (by omega) HX4.out.size ?_; intro v5 w5 hown5 hg5 hat5; (simp only [Nat.zero_add, List.nil_append] at hown5 ⊢); obtain ⟨E5, e5, rfl, -, -⟩ := own_form hown5; have HO5 := Lib.hid hown5; have HX5 := Lib.hid (grown_fresh HX4.out hg5 (own_empty13 w4 49 11) (Nat.le_refl _)); have HSRC2 := Lib.hid (enr_flat (HHIGH.out.chg HX5.out)); clear hown5 hg5 hat5)
              | (at_builtin; refine wpList_app13 _ rfl (.tmp 120) (.tmp 121) 22 rfl w4.heap.size 49 i0 _ 11 88 Try.underlying22 hi0 hz0 hz1 hz2 rfl (by decide) (.slice E5 k1 e5) k1 (enF ll) rfl HO5.out A2 k2 d2 (enF lh) rfl (by rw [HS2.out, HN2.out]) (enr_none HHIGH.out) HSRC2.out (enF_one lh) (by unfold maxLen; omega) (by omega) HX5.out.size ?_; intro v6 w6 hown6 hg6 hat6; obtain ⟨E6, e6, rfl, -, -⟩ := own_form hown6; have HO6 := Lib.hid hown6; have HX6 := Lib.hid (grown_fresh HX5.out hg6 HO5.out (Nat.le_refl _)); clear hown6 hg6 hat6))
            have HN := Lib.hid (fnew13_any (own_enr (l := ll ++ lh) (by rw [enF_app]; exact HO6.out) (by rw [List.length_append, ← HN1.out, ← HN2.out])) (own_nil13 HO6.out) hsum)
            refine HN.out.mono ?_
            rintro e w7 ⟨pv, rfl, hT, hc⟩
            have HTV := Lib.hid hT
            replace HX6 := Lib.hid (HX6.out.trans hc (fun _ _ e => e))
            replace HK := Lib.hid (HK.out.chg HX6.out id)
            replace HA := Lib.hid (HA.out.chg HX6.out id)
            replace HTU := Lib.hid (HTU.out.chg HX6.out)
            replace HX := Lib.hid (HX.out.trans HX6.out (fun _ _ e => e))
            clear hT hc HN HX6 HX5 HO6 HO5 HX4
            obtain ⟨u0, u1, u2, u3, u4⟩ := ky_cells13 HK.out
            go_wp2_with fail
            refine (HLK0.out _ pu lh HTU.out (by have := HN2.out; omega) HRH.out).mono ?_
            rintro e w8 ⟨rfl, hc⟩
            have hca := hc.alloc (.cells #[.int .i64 a0, .int .i64 a1, .int .i64 a2, .int .i64 a3] 35)
            have HB : Hid (Blk (w8.alloc (.cells #[.int .i64 a0, .int .i64 a1, .int .i64 a2, .int .i64 a3] 35)) w8.heap.size 35 (acC a0 a1 a2 a3)) := Lib.hid (blk_new rfl)
            replace HK := Lib.hid (HK.out.chg hca id)
            replace HA := Lib.hid (HA.out.chg hca id)
            replace HTV := Lib.hid (HTV.out.chg hca)
            replace HX := Lib.hid (HX.out.trans hca (fun _ _ e => e))
            clear hc hca u0 u1 u2 u3 u4
            go_upto_region 25 with fail
            generalize w8.alloc (.cells #[.int .i64 a0, .int .i64 a1, .int .i64 a2, .int .i64 a3] 35) = v8 at *
            generalize w8.heap.size = X19 at *
            obtain ⟨u0, u1, u2, u3, u4⟩ := ky_cells13 HK.out
            go_wp2_with fail
            refine (HLK0.out _ pv (ll ++ lh) HTV.out (by rw [List.length_append, ← HN1.out, ← HN2.out]; exact hsum) HRB.out).mono ?_
            rintro e w9 ⟨rfl, hc⟩
            have hca := hc.alloc (.cells #[.int .i64 a0, .int .i64 a1, .int .i64 a2, .int .i64 a3] 35)
            have HC : Hid (Blk (w9.alloc (.cells #[.int .i64 a0, .int .i64 a1, .int .i64 a2, .int .i64 a3] 35)) w9.heap.size 35 (acC a0 a1 a2 a3)) := Lib.hid (blk_new rfl)
            replace HA := Lib.hid (HA.out.chg hca id)
            replace HB := Lib.hid (HB.out.chg hca id)
            replace HX := Lib.hid (HX.out.trans hca (fun _ _ e => e))
            clear hc hca u0 u1 u2 u3 u4
            go_upto_region 26 with fail
            generalize w9.alloc (.cells #[.int .i64 a0, .int .i64 a1, .int .i64 a2, .int .i64 a3] 35) = v9 at *
            generalize w9.heap.size = X21 at *
            go_wp2_with fail
            refine (HAL.out _).mono ?_
            rintro e wa ⟨rfl, hc⟩
            replace HA := Lib.hid (HA.out.chg hc id)
            replace HB := Lib.hid (HB.out.chg hc id)
            replace HC := Lib.hid (HC.out.chg hc id)
            replace HX := Lib.hid (HX.out.trans hc (fun _ _ e => e))
            clear hc
            obtain ⟨x0, x1, x2, x3⟩ := ac_cells13 HA.out
            obtain ⟨y0, y1, y2, y3⟩ := ac_cells13 HB.out
            obtain ⟨z0, z1, z2, z3⟩ := ac_cells13 HC.out
            have he := fun W => eqAc13 W a0 a1 a2 a3 a0 a1 a2 a3
            rw [acE13_refl] at he
            go_wp2_with fail
            go_ret
            exact ⟨rfl, HX.out⟩
theorem rank13_all {w : World} {L : Option Addr} {m lc : Nat} {l : List En} (h : EnR w L m l) (hz : L = none → lc = 0) (hmc : m ≤ 9223372036854775807) (k : Ky) : Calls Try.prog 4 #[.slice L m lc, .agg (kyC k.ki k.km k.kp k.ks k.ko)] w fun e w' => e = .returned (.bool true) ∧ Chg (fun _ => False) w w' := by
  by_cases hb : 256 < m
  · exact rank13_big h hz hmc hb _ _ _ _ _
  · exact rank13_any h hz (by omega) _ _ _ _ _

end Go.Proofs.Ytkhlhebeedemjaa
