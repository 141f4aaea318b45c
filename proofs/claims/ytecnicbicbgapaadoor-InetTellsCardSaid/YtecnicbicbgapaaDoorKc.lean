/-
  Walks: bytes.Clone, inet.head. Conditions: the bytes and the row are read in memory; the table of widths reads as its initialiser lays it.
-/
import Derived.Test.YtecnicbicbgapaaDoorKb
import Derived.Test.YtecnicbicbgapaaDoorRc
import Derived.LoopTactic
namespace Go.Proofs.YtecnicbicbgapaaDoor
open Go.RowKit
set_option linter.unusedVariables false

/-- The table of widths reads as the program's text lays it. -/
def Gw (w : World) : Prop := 0 < w.heap.size ∧ ∀ k, k < 12 → w.cell? ⟨0, k, none⟩ = some (.int .i64 ((wds.getD k 0 : Nat) : Int))
theorem Gw.chg {S : Nat → Prop} {w w' : World} (h : Gw w) (hc : Chg S w w') (hs : ¬ S 0) : Gw w' :=
  ⟨Nat.lt_of_lt_of_le h.1 hc.size, fun k hk => (hc.cell (p := ⟨0, k, none⟩) h.1 hs).trans (h.2 k hk)⟩
theorem wd_le (k : Nat) (h : k < 12) : 1 ≤ wds.getD k 0 ∧ wds.getD k 0 ≤ 4 := by
  have hk' : k = 0 ∨ k = 1 ∨ k = 2 ∨ k = 3 ∨ k = 4 ∨ k = 5 ∨ k = 6 ∨ k = 7 ∨ k = 8 ∨ k = 9 ∨ k = 10 ∨ k = 11 := by omega
  rcases hk' with rfl | rfl | rfl | rfl | rfl | rfl | rfl | rfl | rfl | rfl | rfl | rfl <;> decide

set_option maxHeartbeats 400000 in
theorem bclone_nil (w : World) : Calls Tryd.prog 22 #[.slice none 0 0] w fun e w' => e = .returned (.slice none 0 0) ∧ w = w' := by
  have he := fun W : World => Lib.run_eql_slice_nil (P := Tryd.prog) W 25 5 none 0 0 0 0 Tryd.underlying25
  go_enter Tryd.func22, Tryd.ntmps22
  go_wp2
  go_ret
  exact ⟨rfl, rfl⟩

set_option maxHeartbeats 400000 in
theorem bclone_some (a : Addr) (n c : Nat) (bs : List UInt8) (S : Nat → Prop) (w : World) (hn : n = bs.length) (h : Rds w S (some a) n (bcs bs)) (hbig : n ≤ 140737488355328) :
    Calls Tryd.prog 22 #[.slice (some a) n c] w fun e w' => ∃ A' c', e = .returned (.slice A' n c') ∧
      w'.ownsRow w.heap.size 5 1 (.slice A' n c') n (bcs bs) ∧ Chg (fun _ => False) w w' := by
  obtain ⟨i0, hi0, hz0, hz1, hz2⟩ := info_parts infoByte
  have HN := Lib.hid hn
  clear hn
  have he := fun W : World => Lib.run_eql_slice_nil (P := Tryd.prog) W 25 5 (some a) n c 0 0 Tryd.underlying25
  go_enter Tryd.func22, Tryd.ntmps22
  have hmade := World.ownsRow_made (e := 5) (size := 1) w #[] 0 (Nat.le_refl _) (by decide) rfl
  go_wp2_with (at_builtin; refine wpList_own_append _ rfl (.tmp 5) (.tmp 6) 25 rfl w.heap.size 5 i0 (.int .u8 0) 1 Tryd.underlying25 hi0 hz0 hz1 hz2 rfl (.slice (some ⟨w.heap.size, 0, none⟩) 0 0) 0 [] rfl hmade S (some a) n c (bcs bs) rfl (h.alloc _) (bcs_one bs) (by unfold maxLen; omega) (by omega) (by simp) ?_; intro v' w' hown' hg hat; obtain ⟨A3, c3, rfl, _, _⟩ := own_form hown')
  go_ret
  refine ⟨A3, c3, by simp, by simpa using hown', ?_⟩
  exact ((Chg.refl _ w).alloc _).grown hg (fun k hk hlt => by simp only [Value.ownBlock, Option.some.injEq] at hk; subst hk; exact absurd hlt (Nat.lt_irrefl _))

theorem bclone_any (A : Option Addr) (n c : Nat) (bs : List UInt8) (S : Nat → Prop) (w : World) (hn : n = bs.length) (h : Rds w S A n (bcs bs)) (hz : A = none → c = 0) (hbig : n ≤ 140737488355328) :
    Calls Tryd.prog 22 #[.slice A n c] w fun e w' => ∃ A' c', e = .returned (.slice A' n c') ∧
      w'.ownsRow w.heap.size 5 1 (.slice A' n c') n (bcs bs) ∧ Chg (fun _ => False) w w' := by
  rcases A with _ | a
  · have h0 : n = 0 := by
      rcases Nat.eq_zero_or_pos n with h0 | h0
      · exact h0
      · obtain ⟨ad, e, _⟩ := h.2 h0
        cases e
    have hc := hz rfl
    subst hc
    subst h0
    have hb : bs = [] := List.eq_nil_of_length_eq_zero hn.symm
    subst hb
    refine (bclone_nil w).mono ?_
    rintro e w' ⟨rfl, rfl⟩
    exact ⟨none, 0, rfl, World.ownsRow_nil w _ _ _, Chg.refl _ _⟩
  · exact bclone_some a n c bs S w hn h hbig

theorem putS_one (k : Nat) (h1 : 1 ≤ k) (h8 : k ≤ 8) (x : Int) (b : List UInt8) (hf : fits k x = true) : putS (k : Int) [x] (some b) = some (b ++ be k x.toNat) := by
  unfold putS
  rw [if_pos (by omega), Int.toNat_natCast]
  simp [puts, put1, hf]

set_option maxHeartbeats 1000000 in
theorem head_any (L : Option Addr) (c : Nat) (l : List Int) (S : Nat → Prop) (w : World) (hg : Gw w) (hr : Rds w S L 12 (ics l)) (hl : l.length = 12) (hf : ∀ k, k < 12 → fits (wds.getD k 0) (l.getD k 0) = true)
    (hi : ∀ x ∈ l, -9223372036854775808 ≤ x ∧ x ≤ 9223372036854775807) :
    Calls Tryd.prog 17 #[.slice L 12 c] w fun e w' => ∃ A k c', e = .returned (.slice A k c') ∧ k = (putW wds l).length ∧
      w'.ownsRow w.heap.size 5 1 (.slice A k c') k (bcs (putW wds l)) ∧ Chg (fun _ => False) w w' := by
  have HL := Lib.hid hl
  have HF := Lib.hid hf
  have HI := Lib.hid hi
  have HR := Lib.hid hr.old
  have HG := Lib.hid hg
  have hfull : Hid (putW (wds.take 12) (l.take 12) = putW wds l) := by
    unfold Hid
    rw [List.take_of_length_le (by decide), List.take_of_length_le (by omega)]
  clear hl hf hi hr hg
  go_enter Tryd.func17, Tryd.ntmps17
  go_wp2_with fail
  go_loopg [12] 12 (fun g i wr => ∃ (k : Nat) (o : Option Nat), g = 12 - k ∧ k ≤ 12 ∧ i = .int .i64 (k : Int) ∧ Hid (Wr 54 5 wr w.heap.size o (some (putW (wds.take k) (l.take k))) (8 * k)) ∧ Hid (∀ j, o = some j → w.heap.size ≤ j) ∧ Hid (Chg (fun _ => False) w wr))
  case atStart => exact ⟨0, none, rfl, Nat.zero_le _, rfl, wr_new _ _ w, fun j h => by (cases h), (Chg.refl _ w).alloc _⟩
  case round =>
    obtain ⟨k, o, rfl, hk, rfl, HW, HO, HC⟩ := hrel
    by_cases hlt : k < 12
    · obtain ⟨ad, rfl, hs, hbk, hcl⟩ := (HR.out.chg HC.out (fun _ _ => id)).cellAt hlt
      have hkl : k < l.length := by have := HL.out; omega
      rw [ics_at l k hkl] at hcl
      have hgc := (HG.out.chg HC.out id).2 k hlt
      have hwd := wd_le k hlt
      have hfk := HF.out k hlt
      have hgd : l.getD k 0 = l[k] := by simp [hkl]
      have hT := putW_take l HL.out k hlt
      rw [hgd] at hfk hT
      have hir := HI.out _ (List.getElem_mem hkl)
      generalize l[k] = x at *
      generalize wds.getD k 0 = d at *
      have HT := Lib.hid hT
      have HFK := Lib.hid hfk
      have HIR := Lib.hid hir
      clear hT hfk hgd hs hbk hir hkl
      go_wp2_with fail
      have hW := HW.out
      have hC := HC.out
      have hsz := hC.size
      have hlt' := hW.lt
      have hcc := (Chg.refl (fun _ => False) wr).alloc (.cells #[.int .i64 x] 3)
      have hq : Blk (wr.alloc (.cells #[.int .i64 x] 3)) wr.heap.size 3 #[.int .i64 x] := blk_new rfl
      have hput := put_any w.heap.size o _ (8 * k) (d : Int) [x] (some ⟨wr.heap.size, 0, none⟩) 1 1 _ (fun j => j = wr.heap.size) (hW.chg hcc id (fun _ _ => id)) rfl hq.rds
        (fun j hj => by subst hj; exact ⟨by omega, fun e => by have := hlt'.2 _ e; omega⟩) (by simpa using HIR.out) (by omega)
      rw [putS_one d hwd.1 (by omega) x _ HFK.out, ← HT.out] at hput
      refine hput.mono ?_
      rintro e w2 ⟨rfl, o2, hw2, hm2⟩
      obtain ⟨hC2, hO2⟩ := fresh_mvd (hC.trans hcc (fun _ _ e => e)) hm2 (Nat.le_refl _) HO.out
      have HW2 := Lib.hid hw2
      have HC2 := Lib.hid hC2
      have HO2 := Lib.hid hO2
      clear hput hw2 hm2 hC2 hO2 hq hcc hlt' hsz hC hW
      go_wp2_with fail
      go_roundg (12 - (k + 1))
      case measure => omega
      case rel => exact ⟨k + 1, o2, rfl, by omega, by go_num, HW2.out.more (by omega), HO2.out, HC2.out⟩
    · obtain rfl : k = 12 := by omega
      have hW := HW.out
      rw [hfull.out] at hW
      have HD := Lib.hid (wdone_some w.heap.size o (putW wds l) _ wr hW (by decide))
      clear hW
      go_wp2_with fail
      refine HD.out.mono ?_
      rintro e w2 ⟨A, m, c', rfl, hm, hown, hc2⟩
      have HF2 := Lib.hid (And.intro hm (And.intro (own_base hown HC.out.size) (HC.out.trans hc2 (fun _ _ e => e))))
      clear hm hown hc2
      go_wp2_with fail
      go_ret
      exact ⟨A, m, c', rfl, HF2.out⟩

end Go.Proofs.YtecnicbicbgapaaDoor
