/-
  Slices of slices of bytes. Walk: journal.Scan. Condition: the bytes are read in memory.
-/
import Derived.Test.YthljmebhbjeeiaaNc
import Derived.Test.YthljmebhbjeeiaaRc
namespace Go.Proofs.Ythljmebhbjeeiaa
open Go.RowKit
set_option linter.unusedVariables false
set_option linter.unusedSimpArgs false

theorem infoSl8 : (Try.prog.info? 35).map (fun i => (i.zero, i.size, i.bytes)) = some (some (.slice none 0 0), 1, 24) := by kernel_rfl
/-- Slices as cells: each one reads as its bytes, in blocks of S. -/
def BL (w : World) (S : Nat → Prop) (vs : List Value) (ls : List (List UInt8)) : Prop :=
  vs.length = ls.length ∧ ∀ (i : Nat) (l : List UInt8), ls[i]? = some l → ∃ A c, vs[i]? = some (.slice A l.length c) ∧ Rds w S A l.length (bcs l)
section
variable {w w' : World} {S S' : Nat → Prop} {vs : List Value} {ls : List (List UInt8)}
theorem BL.nil (w : World) (S : Nat → Prop) : BL w S [] [] := ⟨rfl, fun i l h => by simp at h⟩
theorem BL.mono (h : BL w S vs ls) (hs : ∀ k, S k → S' k) : BL w S' vs ls :=
  ⟨h.1, fun i l hl => by obtain ⟨A, c, h1, h2⟩ := h.2 i l hl; exact ⟨A, c, h1, h2.mono hs⟩⟩
theorem BL.chg (h : BL w S vs ls) (hc : Chg S' w w') (hd : ∀ k, S k → ¬ S' k) : BL w' S vs ls :=
  ⟨h.1, fun i l hl => by obtain ⟨A, c, h1, h2⟩ := h.2 i l hl; exact ⟨A, c, h1, h2.chg hc hd⟩⟩
theorem BL.keep (h : BL w S vs ls) (hz : w.heap.size ≤ w'.heap.size) (hk : ∀ k, S k → k < w.heap.size → w'.heap[k]? = w.heap[k]?) : BL w' S vs ls :=
  ⟨h.1, fun i l hl => by obtain ⟨A, c, h1, h2⟩ := h.2 i l hl; exact ⟨A, c, h1, h2.keep hz hk⟩⟩
theorem BL.old (h : BL w S vs ls) : BL w (fun k => S k ∧ k < w.heap.size) vs ls :=
  ⟨h.1, fun i l hl => by obtain ⟨A, c, h1, h2⟩ := h.2 i l hl; exact ⟨A, c, h1, h2.old⟩⟩
theorem BL.snoc (h : BL w S vs ls) {A : Option Addr} {l : List UInt8} {n c : Nat} (hn : n = l.length) (hr : Rds w S A n (bcs l)) : BL w S (vs ++ [.slice A n c]) (ls ++ [l]) := by
  subst hn
  have h1 := h.1
  refine ⟨by simp [h1], fun i x hx => ?_⟩
  by_cases hi : i < ls.length
  · rw [List.getElem?_append_left hi] at hx
    obtain ⟨A', c', h2, h3⟩ := h.2 i x hx
    exact ⟨A', c', by rw [List.getElem?_append_left (by omega)]; exact h2, h3⟩
  · have hi2 : i < (ls ++ [l]).length := (List.getElem?_eq_some_iff.1 hx).1
    rw [List.length_append, List.length_singleton] at hi2
    have hij : i = ls.length := by omega
    subst hij
    rw [List.getElem?_append_right (Nat.le_refl _), Nat.sub_self, List.getElem?_cons_zero, Option.some.injEq] at hx
    subst hx
    exact ⟨A, c, by rw [List.getElem?_append_right (by omega), h1, Nat.sub_self]; rfl, hr⟩
theorem BL.take (h : BL w S vs ls) (k : Nat) : BL w S (vs.take k) (ls.take k) := by
  refine ⟨by rw [List.length_take, List.length_take, h.1], fun i l hl => ?_⟩
  rw [List.getElem?_take] at hl
  split at hl
  · rename_i hik
    obtain ⟨A, c, h1, h2⟩ := h.2 i l hl
    exact ⟨A, c, by rw [List.getElem?_take, if_pos hik]; exact h1, h2⟩
  · cases hl
end
/-- How many bytes the records of bytes have. -/
def used8 (b : List UInt8) : Nat := (recs8 (scan8 b)).length
/-- What Scan hands back: the bodies, how many bytes their records have; all in new memory. -/
def ScanP (b : List UInt8) (w : World) (e : Ending) (w' : World) : Prop :=
  ∃ A m c vs, e = .returned (.tuple #[.slice A m c, .int .i64 (used8 b : Int)]) ∧ m = (scan8 b).length ∧ w'.ownsRow w.heap.size 35 1 (.slice A m c) m vs ∧ BL w' (fun k => w.heap.size ≤ k) vs (scan8 b) ∧ Chg (fun _ => False) w w'
theorem scan_step {b : List UInt8} {ls : List (List UInt8)} {x : List UInt8} (h : scan8 b = ls ++ scan8 (b.drop (recs8 ls).length)) (hh : head8 (b.drop (recs8 ls).length) = some x) :
    scan8 b = (ls ++ [x]) ++ scan8 (b.drop (recs8 (ls ++ [x])).length) ∧ (recs8 (ls ++ [x])).length = (recs8 ls).length + x.length + 6 := by
  have e : (recs8 (ls ++ [x])).length = (recs8 ls).length + x.length + 6 := by rw [recs_snoc, List.length_append, recB_len]; omega
  refine ⟨?_, e⟩
  rw [e, h, scan_some hh, List.drop_drop, List.append_assoc, Nat.add_assoc]
  rfl
theorem scan_end {b : List UInt8} {ls : List (List UInt8)} (h : scan8 b = ls ++ scan8 (b.drop (recs8 ls).length)) (hh : head8 (b.drop (recs8 ls).length) = none) : ls = scan8 b ∧ (recs8 ls).length = used8 b := by
  rw [scan_none hh, List.append_nil] at h
  unfold used8
  rw [h]
  exact ⟨rfl, rfl⟩

theorem beq0_no {n : Nat} (h : 1 ≤ n) : ((n : Int) == 0) = false := by simp; omega

set_option maxHeartbeats 4000000 in
theorem jscan_any (A : Option Addr) (n c : Nat) (b : List UInt8) (S : Nat → Prop) (w : World) (hn : n = b.length) (h : Rds w S A n (bcs b)) (hz : A = none → c = 0) (hbig : n ≤ 16777216) :
    Calls Try.prog 21 #[.slice A n c] w (ScanP b w) := by
  obtain ⟨i0, hi0, hz0, hz1, hz2⟩ := info_parts infoSl8
  have HN := Lib.hid hn
  have HRD := Lib.hid (read_any A n c b S w hn h hz (by omega))
  clear hn h hz
  go_enter Try.func21, Try.ntmps21
  go_wp2_with fail
  refine HRD.out.mono ?_
  rintro e w1 ⟨p, rfl, hp, hrd, hc1⟩
  have HR1 := Lib.hid hrd
  have HC1 := Lib.hid hc1
  have hp1 := hrd.lt
  clear hrd hc1 HRD
  go_wp2_with fail
  go_loopg [4, 5] b.length (fun g v i wr => ∃ (ls : List (List UInt8)) (at_ m c' : Nat) (D : Option Addr) (vs : List Value), g = b.length - at_ ∧ at_ ≤ n ∧ m ≤ at_ ∧ i = .int .i64 (at_ : Int) ∧ v = .slice D m c' ∧
    Hid (m = ls.length ∧ at_ = (recs8 ls).length ∧ scan8 b = ls ++ scan8 (b.drop (recs8 ls).length)) ∧ Hid (wr.ownsRow w1.heap.size 35 1 (.slice D m c') m vs) ∧
    Hid (BL wr (fun k => w.heap.size ≤ k ∧ k < p) vs ls) ∧ Hid (Rd 79 true wr p (fun k => w.heap.size ≤ k ∧ k < p) (some (b.drop at_))) ∧ Hid (Chg (fun k => k = p) w1 wr))
  case atStart => exact ⟨[], 0, 0, 0, none, [], rfl, Nat.zero_le _, Nat.zero_le _, rfl, rfl, ⟨rfl, rfl, rfl⟩, World.ownsRow_nil _ _ _ _, BL.nil _ _, HR1.out, Chg.refl _ _⟩
  case round =>
    obtain ⟨ls, at_, m, c', D, vs, rfl, hat, hma, rfl, rfl, HLS, HOWN, HBL, HR, HC⟩ := hrel
    have HB := Lib.hid (rbytes_any p _ _ 200 wr HR.out)
    have hlen : (b.drop at_).length = n - at_ := by rw [List.length_drop, ← HN.out]
    rcases sc_read (b.drop at_) with ⟨hh, st, hbr⟩ | ⟨x, y, hbr, hbok, hy, hl2, hrest⟩
    · rw [hbr] at HB
      have HH := Lib.hid hh
      clear hh hbr hlen
      go_wp2_with fail
      refine HB.out.mono ?_
      rintro e w2 ⟨X, k, xc, rfl, hk, _, _, _, _, hc2⟩
      have hk0 : k = 0 := hk
      subst hk0
      clear hk
      replace HC := Lib.hid (HC.out.trans hc2 (fun _ _ e => e))
      have HO2 := Lib.hid (own_chg HOWN.out hc2 (fun k hk e => by
        have := (HOWN.out.lt k (by rw [own_block]; exact hk)).1
        omega))
      have HBL2 := Lib.hid (HBL.out.chg hc2 (fun k hk => by have := hk.2; omega))
      clear hc2 HB HOWN HBL
      go_wp2_with fail
      go_ret2
      obtain ⟨q1, q2, q3⟩ := HLS.out
      subst q2
      obtain ⟨q4, q5⟩ := scan_end q3 HH.out
      rw [q5]
      subst q4
      exact ⟨D, m, c', vs, rfl, q1, own_base HO2.out HC1.out.size, HBL2.out.mono (fun k hk => hk.1), fresh_set HC1.out HC.out hp⟩
    · rw [hbr] at HB
      have HXO := Lib.hid hbok
      have hx0 : ((x.length : Int) == 0) = false := beq0_no hbok.1
      have hx200 := hbok.2
      clear hbr
      go_wp2_with fail
      refine HB.out.mono ?_
      rintro e w2 ⟨X, k, xc, rfl, hk, hkc, hcm, hxr, hrd2, hc2⟩
      have hk0 : k = x.length := hk
      subst hk0
      clear hk
      have hrd2 : Rd 79 true w2 p _ (some y) := hrd2
      have hxr : Rds w2 (fun k => w.heap.size ≤ k ∧ k < p) X x.length (bcs x) := hxr
      have hat2 : at_ + x.length + 2 ≤ n := by omega
      replace HC := Lib.hid (HC.out.trans hc2 (fun _ _ e => e))
      have HO2 := Lib.hid (own_chg HOWN.out hc2 (fun k hk e => by
        have := (HOWN.out.lt k (by rw [own_block]; exact hk)).1
        omega))
      have HBL2 := Lib.hid (HBL.out.chg hc2 (fun k hk => by have := hk.2; omega))
      have HXR := Lib.hid hxr
      have HR2 := Lib.hid hrd2
      have HY := Lib.hid hy
      clear hc2 HB HOWN HBL hrd2 hxr hy hl2
      rcases hrest with ⟨hl6, hh⟩ | ⟨hl6, z, hgz, hcmp⟩
      · have hgt : (n : Int) < (at_ : Int) + (x.length : Int) + 6 := by omega
        have HH := Lib.hid hh
        clear hh hl6 hlen
        go_wp2_with fail
        go_ret2
        obtain ⟨q1, q2, q3⟩ := HLS.out
        subst q2
        obtain ⟨q4, q5⟩ := scan_end q3 HH.out
        rw [q5]
        subst q4
        exact ⟨D, m, c', vs, rfl, q1, own_base HO2.out HC1.out.size, HBL2.out.mono (fun k hk => hk.1), fresh_set HC1.out HC.out hp⟩
      · have hgt : ¬ (n : Int) < (at_ : Int) + (x.length : Int) + 6 := by omega
        have hg := get_any p _ (some y) 4 w2 HR2.out
        rw [hgz] at hg
        have HG := Lib.hid hg
        clear hg hgz hlen
        go_wp2_with fail
        refine HG.out.mono ?_
        rintro e w3 ⟨rfl, hrd3, hc3⟩
        have hrd3 : Rd 79 true w3 p _ (some ((b.drop at_).drop (x.length + 6))) := hrd3
        replace HC := Lib.hid (HC.out.trans hc3 (fun _ _ e => e))
        replace HO2 := Lib.hid (own_chg HO2.out hc3 (fun k hk e => by
          have := (HO2.out.lt k (by rw [own_block]; exact hk)).1
          omega))
        replace HBL2 := Lib.hid (HBL2.out.chg hc3 (fun k hk => by have := hk.2; omega))
        replace HXR := Lib.hid (HXR.out.chg hc3 (fun k hk => by have := hk.2; omega))
        have HS := Lib.hid (sum_any X x.length xc x _ w3 rfl HXR.out (by omega))
        have HR3 := Lib.hid hrd3
        clear hc3 hrd3 HG HR2
        go_wp2_with fail
        refine HS.out.mono ?_
        rintro e w4 ⟨rfl, rfl⟩
        clear HS
        rcases hcmp with ⟨hne, hh⟩ | ⟨heq, hh⟩
        · have hb : ((z : Int) != (sumN x : Int)) = true := by simp; omega
          have HH := Lib.hid hh
          clear hh hl6 hne
          go_wp2_with fail
          go_ret2
          obtain ⟨q1, q2, q3⟩ := HLS.out
          subst q2
          obtain ⟨q4, q5⟩ := scan_end q3 HH.out
          rw [q5]
          subst q4
          exact ⟨D, m, c', vs, rfl, q1, own_base HO2.out HC1.out.size, HBL2.out.mono (fun k hk => hk.1), fresh_set HC1.out HC.out hp⟩
        · have HH := Lib.hid hh
          obtain ⟨q1, q2, q3⟩ := HLS.out
          subst heq
          have hmx : m + 1 ≤ 16777217 := by omega
          have HQ1 := Lib.hid q1
          have HQ2 := Lib.hid q2
          have HQ3 := Lib.hid q3
          clear hh q1 q2 q3 HLS
          have hown3 := HO2.out.alloc (.cells #[.slice X x.length xc] 35)
          have hbase : w1.heap.size ≤ (w3.alloc (.cells #[.slice X x.length xc] 35)).heap.size := Nat.le_trans HC.out.size (by simp)
          go_wp2_with (at_builtin; refine wpList_own_append _ rfl (.tmp 36) (.tmp 38) 31 rfl w1.heap.size 35 i0 (.slice none 0 0) 24 Try.underlying31 hi0 hz0 hz1 hz2 rfl (.slice D m c') m vs rfl hown3 _ (some ⟨w3.heap.size, 0, none⟩) 1 1 [.slice X x.length xc] rfl (rds_alloc w3 35 #[.slice X x.length xc] (0, 0)) (by simp [Value.oneCell']) (by unfold maxLen; omega) (by omega) hbase ?_; intro v5 w5 hown5 hg5 hat5; obtain ⟨D5, c5, rfl, _, _⟩ := own_form hown5)
          have hcg : Chg (fun k => w1.heap.size ≤ k) w3 w5 := ((Chg.refl (fun k => w1.heap.size ≤ k) w3).alloc _).grown hg5 (fun k hk _ => (hown3.lt k hk).1)
          have HG5 := Lib.hid hcg
          have HO5 := Lib.hid hown5
          clear hcg hown5 hown3 hg5 hat5
          go_roundg (b.length - (at_ + x.length + 6))
          case measure => have := HN.out; omega
          case rel =>
            have hst := HQ3.out
            have hh := HH.out
            rw [HQ2.out] at hh
            obtain ⟨s1, s2⟩ := scan_step hst hh
            have q1 := HQ1.out
            have q2 := HQ2.out
            refine ⟨ls ++ [x], at_ + x.length + 6, m + 1, c5, D5, vs ++ [.slice X x.length xc], rfl, by omega, by omega, by go_num, rfl, ⟨by rw [List.length_append, q1]; rfl, by rw [s2, q2], s1⟩, HO5, ?_, ?_, ?_⟩
            · exact (HBL2.out.snoc rfl HXR.out).chg HG5.out (fun k hk => by have := hk.2; omega)
            · have hrd := HR3.out.chg HG5.out (by omega) (fun k hk => by have := hk.2; omega)
              rw [List.drop_drop] at hrd
              exact hrd
            · exact HC.out.trans HG5.out (fun i hi hs => by omega)

end Go.Proofs.Ythljmebhbjeeiaa
