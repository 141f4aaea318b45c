/-
  Walks: the document's file: (*rutterref07.File).Add, Sync, Cut, Crash. Conditions: the receiver is a file in memory; its bytes are no more than its room, which is at most 2^24.
-/
import Derived.Test.YthljmebhbjeeiaaLc
namespace Go.Proofs.Ythljmebhbjeeiaa
open Go.RowKit
set_option linter.unusedVariables false

/-- Behind the store of new bytes. -/
theorem fl_new {T : TypeId} {w0 w' : World} {p : Nat} {o : Option Nat} {bs new : List UInt8} {s r : Nat} {A A3 : Option Addr} {c c3 k base : Nat} (hob : Fl T w0 p o bs s r A c)
    (hc : Chg (fun _ => False) w0 w') (hk : k = new.length) (hown : w'.ownsRow base 5 1 (.slice A3 k c3) k (bcs new)) (hb : w0.heap.size ≤ base) :
    Fl T (w'.setCell ⟨p, 0, none⟩ (.slice A3 k c3)) p (A3.map (·.block)) new s r A3 c3 ∧ Mvd p o (A3.map (·.block)) w0 (w'.setCell ⟨p, 0, none⟩ (.slice A3 k c3)) := by
  subst hk
  have hlt := hob.blk.lt
  have hat : ∀ j, A3.map (·.block) = some j → w0.heap.size ≤ j := fun j hj => by
    have := (hown.lt j (by rw [own_block]; exact hj)).1
    omega
  have hne : A3.map (·.block) ≠ some p := fun e => by
    have := hat p e
    omega
  have hc2 : Chg (fun k => k = p ∨ o = some k) w0 (w'.setCell ⟨p, 0, none⟩ (.slice A3 new.length c3)) := (hc.mono (fun _ _ h => h.elim)).put p 0 (fun _ => .inl rfl) _
  refine ⟨⟨(hob.blk.chg hc id).set 0 (.slice A3 new.length c3), own_chg (own_base hown (Nat.zero_le _)) ((Chg.refl (fun k => k = p) w').put p 0 (fun _ => rfl) _) (fun k hk e => by subst e; exact hne hk), rfl, hne⟩, hc2, ?_⟩
  rcases hA : A3.map (·.block) with _ | j
  · exact .inr (.inl hA)
  · exact .inr (.inr ⟨j, hA, hat j hA⟩)

set_option maxHeartbeats 400000 in
theorem rsync_any (p : Nat) (o : Option Nat) (bs : List UInt8) (s r : Nat) (w : World) (h : Fi 37 w p o bs s r) :
    Calls Try.prog 12 #[.pointer (some ⟨p, 0, none⟩)] w fun e w' => e = .returned (.int .i64 (bs.length : Int)) ∧ Fi 37 w' p o bs bs.length r ∧ Mvd p o o w w' := by
  obtain ⟨A, c, h⟩ := h
  obtain ⟨x0, x1, x2, f0, f1, f2⟩ := h.cells
  have HH := Lib.hid h
  clear h
  go_enter Try.func12, Try.ntmps12
  go_wp2
  go_ret
  obtain ⟨h1, h2⟩ := fl_sync (k := bs.length) HH.out
  exact ⟨rfl, ⟨A, c, h1⟩, mvd_set h2⟩

set_option maxHeartbeats 400000 in
theorem rcut_any (p : Nat) (o : Option Nat) (bs : List UInt8) (s r : Nat) (n : Int) (w : World) (h : Fi 37 w p o bs s r) (hbr : bs.length ≤ r) (hr24 : r ≤ 16777216) :
    Calls Try.prog 28 #[.pointer (some ⟨p, 0, none⟩), .int .i64 n] w fun e w' => e = .returned (.int .i64 (cutE bs n)) ∧ Fi 37 w' p o (cutB bs n) (cutS bs s n) r ∧ Mvd p o o w w' := by
  unfold cutE cutB cutS
  have hcases : n < 0 ∨ (¬ n < 0 ∧ (bs.length : Int) < n) ∨ ∃ k : Nat, n = (k : Int) ∧ k ≤ bs.length := by
    by_cases hn : n < 0
    · exact .inl hn
    · by_cases hb : (bs.length : Int) < n
      · exact .inr (.inl ⟨hn, hb⟩)
      · exact .inr (.inr ⟨n.toNat, by omega, by omega⟩)
  have HF := Lib.hid h
  obtain ⟨A, c, h⟩ := h
  obtain ⟨x0, x1, x2, f0, f1, f2⟩ := h.cells
  have HH := Lib.hid h
  have hcap := own_cap h.own
  have hm := hcap.2
  unfold maxLen at hm
  clear h
  rcases hcases with hn | ⟨hn, hb⟩ | ⟨k, rfl, hk⟩
  · have hor : n < 0 ∨ (bs.length : Int) < n := .inl hn
    rw [if_pos hor, if_pos hor, if_pos hor]
    clear hor
    go_enter Try.func28, Try.ntmps28
    go_wp2_with fail
    go_ret
    exact ⟨rfl, HF.out, Mvd.refl _ _ _⟩
  · have hor : n < 0 ∨ (bs.length : Int) < n := .inr hb
    rw [if_pos hor, if_pos hor, if_pos hor]
    clear hor
    go_enter Try.func28, Try.ntmps28
    go_wp2_with fail
    go_ret
    exact ⟨rfl, HF.out, Mvd.refl _ _ _⟩
  · rw [if_neg (by omega), if_neg (by omega), if_neg (by omega)]
    go_enter Try.func28, Try.ntmps28
    go_wp2_with fail
    go_ret
    obtain ⟨h1, h2⟩ := fl_cut HH.out hk
    exact ⟨rfl, ⟨A, c, h1⟩, mvd_set h2⟩

set_option maxHeartbeats 800000 in
theorem rcrash_any (p : Nat) (o : Option Nat) (bs : List UInt8) (s r : Nat) (keep : Int) (w : World) (h : Fi 37 w p o bs s r) (hs : s ≤ bs.length) (hbr : bs.length ≤ r) (hr24 : r ≤ 16777216) :
    Calls Try.prog 14 #[.pointer (some ⟨p, 0, none⟩), .int .i64 keep] w fun e w' => e = .returned (.int .i64 ((bs.length : Int) - (crN bs s keep : Int))) ∧
      Fi 37 w' p o (bs.take (crN bs s keep)) (crN bs s keep) r ∧ Mvd p o o w w' := by
  have hcr : crN bs s keep = s + min keep.toNat (bs.length - s) := rfl
  have HCR := Lib.hid hcr
  clear hcr
  generalize crN bs s keep = N at *
  have hcut := rcut_any p o bs s r (N : Int) w h hbr hr24
  have hN : N ≤ bs.length := by have := HCR.out; omega
  unfold cutE cutB cutS at hcut
  rw [if_neg (by omega), if_neg (by omega), if_neg (by omega), Int.toNat_natCast] at hcut
  have HCUT := Lib.hid hcut
  obtain ⟨A, c, h⟩ := h
  obtain ⟨x0, x1, x2, f0, f1, f2⟩ := h.cells
  clear h hcut
  go_enter Try.func14, Try.ntmps14
  go_wp2_with fail
  go_loopg [6, 7] (bs.length - s) (fun g t i wr => ∃ j : Nat, g = bs.length - s - j ∧ j ≤ bs.length - s ∧ j ≤ keep.toNat ∧ t = .int .i64 ((s : Int) + (j : Int)) ∧ i = .int .i64 (j : Int) ∧ w = wr)
  case atStart => exact ⟨0, by omega, Nat.zero_le _, Nat.zero_le _, by simp, rfl, rfl⟩
  case round =>
    obtain ⟨j, rfl, hj, hjk, rfl, rfl, rfl⟩ := hrel
    by_cases h1 : (j : Int) < keep
    · by_cases h2 : (s : Int) + (j : Int) < (bs.length : Int)
      · go_wp2_with fail
        go_roundg (bs.length - s - (j + 1))
        case measure => omega
        case rel => exact ⟨j + 1, rfl, by omega, by omega, by (congr 1 <;> omega), by go_num, rfl⟩
      · have hNj : (N : Int) = (s : Int) + (j : Int) := by have := HCR.out; omega
        rw [hNj] at HCUT
        have HE := Lib.hid hNj
        clear hNj
        go_wp2_with fail
        refine HCUT.out.mono ?_
        rintro e w1 ⟨rfl, hf, hm⟩
        go_wp2_with fail
        go_ret
        exact ⟨by rw [HE.out]; rfl, hf, hm⟩
    · have hNj : (N : Int) = (s : Int) + (j : Int) := by have := HCR.out; omega
      rw [hNj] at HCUT
      have HE := Lib.hid hNj
      clear hNj
      go_wp2_with fail
      refine HCUT.out.mono ?_
      rintro e w1 ⟨rfl, hf, hm⟩
      go_wp2_with fail
      go_ret
      exact ⟨by rw [HE.out]; rfl, hf, hm⟩

set_option maxHeartbeats 800000 in
theorem radd_any (p : Nat) (o : Option Nat) (bs b : List UInt8) (s r q c' : Nat) (B : Option Addr) (S : Nat → Prop) (w : World) (h : Fi 37 w p o bs s r) (hq : q = b.length) (hr : Rds w S B q (bcs b))
    (hS : ∀ k, S k → k ≠ p) (hbr : bs.length ≤ r) (hr24 : r ≤ 16777216) (hqm : q ≤ 1000000000000) :
    Calls Try.prog 32 #[.pointer (some ⟨p, 0, none⟩), .slice B q c'] w fun e w' => e = .returned (.int .i64 (addE r bs b)) ∧ ∃ o', Fi 37 w' p o' (addB r bs b) s r ∧ Mvd p o o' w w' := by
  obtain ⟨i0, hi0, hz0, hz1, hz2⟩ := info_parts infoByte7
  obtain ⟨A, c, h⟩ := h
  obtain ⟨x0, x1, x2, f0, f1, f2⟩ := h.cells
  have HH := Lib.hid h
  have HN := Lib.hid hq
  have HRD := Lib.hid h.rds
  have HRB := Lib.hid hr
  unfold addE addB
  by_cases hf : r < bs.length + b.length
  · rw [if_pos hf, if_pos hf]
    have hf' : (r : Int) < (bs.length : Int) + (q : Int) := by omega
    clear h hq hf hr
    go_enter Try.func32, Try.ntmps32
    go_wp2_with fail
    go_region
    all_goals
      go_wp2_with fail
      go_ret
      exact ⟨rfl, o, ⟨A, c, HH.out.chg (Chg.refl (fun _ => False) w).drew id (fun _ _ => id)⟩, mvd_set ((Chg.refl _ w).drew)⟩
  · rw [if_neg hf, if_neg hf]
    have hf' : ¬ (r : Int) < (bs.length : Int) + (q : Int) := by omega
    have hq24 : q ≤ 16777216 := by omega
    obtain ⟨wa, hwa⟩ : ∃ wa, wa = (w.alloc (.cells #[] 5)).drew := ⟨_, rfl⟩
    have hca : Chg (fun _ => False) w wa := by rw [hwa]; exact ((Chg.refl _ w).alloc _).drew
    have hmade : wa.ownsRow w.heap.size 5 1 (.slice (some ⟨w.heap.size, 0, none⟩) 0 0) 0 [] := by rw [hwa]; exact World.ownsRow_made (e := 5) (size := 1) w #[] 0 (Nat.le_refl _) (by decide) rfl
    have hza : w.heap.size ≤ wa.heap.size := hca.size
    have hbq : bs.length + q ≤ 16777216 := by omega
    have HFA := Lib.hid (h.chg hca id (fun _ _ => id))
    obtain ⟨y0, y1, y2, e0, e1, e2⟩ := (HH.out.chg ((Chg.refl (fun _ => False) w).alloc (.cells #[] 5)) id (fun _ _ => id)).cells
    have ha := HFA.out.rds
    clear h hq hf hr
    go_enter Try.func32, Try.ntmps32
    go_wp2_with fail
    go_region
    all_goals
      go_wp2_with (first
        | (at_builtin; rw [← hwa]; refine wpList_own_append _ rfl (.tmp 19) (.tmp 23) 35 rfl w.heap.size 5 i0 (.int .u8 0) 1 Try.underlying35 hi0 hz0 hz1 hz2 rfl (.slice (some ⟨w.heap.size, 0, none⟩) 0 0) 0 [] rfl hmade _ A bs.length c (bcs bs) rfl ha (bcs_one bs) (by unfold maxLen; omega) (by omega) hza ?_; intro v1 w1 hown1 hg1 hat1; obtain ⟨A1, c1, rfl, _, _⟩ := own_form hown1; (simp only [Nat.zero_add, List.nil_append] at hown1 ⊢); have hC1 := grown_fresh hca hg1 hmade (Nat.le_refl _); have hr1 := HRB.out.mono (S' := fun _ => True) (fun _ _ => trivial); have hq1 : bs.length + q ≤ 16777216 := hbq)
        | (at_builtin; refine wpList_own_append _ rfl (.tmp 25) (.tmp 26) 35 rfl w.heap.size 5 i0 (.int .u8 0) 1 Try.underlying35 hi0 hz0 hz1 hz2 rfl (.slice A1 bs.length c1) bs.length (bcs bs) rfl hown1 _ B q c' (bcs b) rfl (HRB.out.old.chg hC1 (fun _ _ => id)) (bcs_one b) (by unfold maxLen; omega) (by omega) (Nat.le_trans hza (by have := hg1.size; omega)) ?_; intro v2 w2 hown2 hg2 hat2; obtain ⟨A2, c2, rfl, _, _⟩ := own_form hown2; have hC2 := grown_fresh hC1 hg2 hown1 (Nat.le_refl _); have HG := Lib.hid (HH.out.chg hC2 id (fun _ _ => id)); obtain ⟨z0, z1, z2, g0, g1, g2⟩ := HG.out.cells))
      go_ret
      obtain ⟨h3, m3⟩ := fl_new HH.out hC2 (new := bs ++ b) (by rw [List.length_append, ← HN.out]) (by rw [bcs_app]; exact hown2) (Nat.le_refl _)
      exact ⟨rfl, _, ⟨A2, c2, h3⟩, m3⟩

end Go.Proofs.Ythljmebhbjeeiaa
