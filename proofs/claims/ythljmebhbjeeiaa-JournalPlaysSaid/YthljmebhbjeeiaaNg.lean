/-
  Walks: journal.Journal's Sync, Put, Len, each on nil; the document's Put. Conditions: the receiver is a journal in memory, or nil, of a file in memory; its bytes are no more than its room, which is at most 2^24; the body is read in memory.
-/
import Derived.Test.YthljmebhbjeeiaaNf
namespace Go.Proofs.Ythljmebhbjeeiaa
open Go.RowKit
set_option linter.unusedVariables false
set_option linter.unusedSimpArgs false

/-- A block of another type is no file's, nor its bytes'. -/
theorem fi_apart {T t : TypeId} {w : World} {p g : Nat} {o : Option Nat} {bs : List UInt8} {s r : Nat} {cs : Array Value} (h : Fi T w p o bs s r) (hb : Blk w g t cs) (ht : t ≠ T) (hu : t ≠ 5) : g ≠ p ∧ o ≠ some g := by
  obtain ⟨A, c, hf⟩ := h
  refine ⟨?_, ?_⟩
  · rintro rfl
    have h := hf.blk.symm.trans hb
    simp at h
    exact ht h.2.symm
  · rintro rfl
    have ha := hf.at_
    rcases hf.own.2 with ⟨e, _⟩ | ⟨k, cap, cur, e, _, hh, _⟩
    · injection e with e
      subst e
      cases ha
    · injection e with e
      subst e
      injection ha with ha
      have ha : k = g := ha
      subst ha
      have h := hh.symm.trans hb
      simp at h
      exact hu h.2.symm
theorem fi_keep {T t : TypeId} {w w' : World} {p g : Nat} {o o' : Option Nat} {bs : List UInt8} {s r : Nat} {cs : Array Value} (h : Fi T w p o bs s r) (hm : Mvd p o o' w w') (hb : Blk w g t cs) (ht : t ≠ T) (hu : t ≠ 5) : Blk w' g t cs := by
  obtain ⟨h1, h2⟩ := fi_apart h hb ht hu
  refine hb.chg hm.1 ?_
  rintro (e | e)
  · exact h1 e
  · exact h2 e

/-- What Put tells, and leaves. -/
def putE (r : Nat) (bs b : List UInt8) : Int := if b.length = 0 ∨ 200 < b.length then 1 else addE r bs (recB b)
def putB (r : Nat) (bs b : List UInt8) : List UInt8 := if b.length = 0 ∨ 200 < b.length then bs else addB r bs (recB b)
def putN (r : Nat) (bs b : List UInt8) (N : Nat) : Nat := if b.length = 0 ∨ 200 < b.length then N else if r < bs.length + (recB b).length then N else N + 1

set_option maxHeartbeats 400000 in
theorem jsync_nil (w : World) : Calls Try.prog 11 #[.pointer none] w fun e w' => e = .returned (.tuple #[]) ∧ w = w' := by
  go_enter Try.func11, Try.ntmps11
  go_wp2
  go_end0
  exact ⟨rfl, rfl⟩
theorem jput_nil (A : Option Addr) (n c : Nat) (w : World) : Calls Try.prog 16 #[.pointer none, .slice A n c] w fun e w' => e = .returned (.int .i64 1) ∧ w = w' := by
  go_enter Try.func16, Try.ntmps16
  go_wp2
  go_ret
  exact ⟨rfl, rfl⟩
theorem jlen_nil (w : World) : Calls Try.prog 18 #[.pointer none] w fun e w' => e = .returned (.int .i64 0) ∧ w = w' := by
  go_enter Try.func18, Try.ntmps18
  go_wp2
  go_ret
  exact ⟨rfl, rfl⟩

theorem jb_cell {w : World} {j : Nat} {v : Value} (h : Blk w j 62 #[v]) : w.cell? ⟨j, 0, none⟩ = some v := by
  have := h.cell 0
  simpa using this

set_option maxHeartbeats 400000 in
theorem jsync_any (j p : Nat) (o : Option Nat) (bs : List UInt8) (s r : Nat) (w : World) (hj : Blk w j 62 #[.pointer (some ⟨p, 0, none⟩)]) (h : Fi 59 w p o bs s r) :
    Calls Try.prog 11 #[.pointer (some ⟨j, 0, none⟩)] w fun e w' => e = .returned (.tuple #[]) ∧ Fi 59 w' p o bs bs.length r ∧ Mvd p o o w w' := by
  have HS := Lib.hid (dsync_any p o bs s r w h)
  have c0 := jb_cell hj
  clear h hj
  go_enter Try.func11, Try.ntmps11
  go_wp2_with fail
  refine HS.out.mono ?_
  rintro e w1 ⟨rfl, hf, hm⟩
  go_wp2_with fail
  go_end0
  exact ⟨rfl, hf, hm⟩

set_option maxHeartbeats 1000000 in
theorem jput_any (j p : Nat) (o : Option Nat) (bs b : List UInt8) (s r n c : Nat) (A : Option Addr) (S : Nat → Prop) (w : World) (hj : Blk w j 62 #[.pointer (some ⟨p, 0, none⟩)]) (h : Fi 59 w p o bs s r)
    (hn : n = b.length) (hr : Rds w S A n (bcs b)) (hbr : bs.length ≤ r) (hr24 : r ≤ 16777216) (hm : n ≤ 9223372036854775807) :
    Calls Try.prog 16 #[.pointer (some ⟨j, 0, none⟩), .slice A n c] w fun e w' => e = .returned (.int .i64 (putE r bs b)) ∧ ∃ o', Fi 59 w' p o' (putB r bs b) s r ∧ Mvd p o o' w w' := by
  unfold putE putB
  by_cases hb : b.length = 0 ∨ 200 < b.length
  · rw [if_pos hb, if_pos hb]
    have HE := Lib.hid (jenc_bad A n c w (by omega) hm)
    have HF := Lib.hid h
    clear h hj hb hn hr
    go_enter Try.func16, Try.ntmps16
    go_wp2_with fail
    refine HE.out.mono ?_
    rintro e w1 ⟨rfl, rfl⟩
    go_wp2_with fail
    go_ret
    exact ⟨rfl, o, HF.out, Mvd.refl _ _ _⟩
  · rw [if_neg hb, if_neg hb]
    have HE := Lib.hid (jenc_ok A n c b S w hn hr ⟨by omega, by omega⟩)
    have HF := Lib.hid h
    have HJ := Lib.hid hj
    have hrl : (recB b).length ≤ 1000 := by rw [recB_len]; omega
    clear h hj hn hr
    go_enter Try.func16, Try.ntmps16
    go_wp2_with fail
    refine HE.out.mono ?_
    rintro e w1 ⟨D, dc, rfl, hown, hc⟩
    have c0 := jb_cell (HJ.out.chg hc id)
    have HA := Lib.hid (dadd_any p o bs (recB b) s r (recB b).length dc D _ w1 (HF.out.chg hc id (fun _ _ => id)) rfl (own_rds hown) hbr hr24 (by omega))
    have HC := Lib.hid hc
    clear hown hc HE
    go_wp2_with fail
    refine HA.out.mono ?_
    rintro e w2 ⟨rfl, o', hf, hm2⟩
    go_wp2_with fail
    go_ret
    exact ⟨rfl, o', hf, Mvd.pre HC.out hm2⟩

set_option maxHeartbeats 400000 in
theorem jlen_any (j p : Nat) (o : Option Nat) (bs : List UInt8) (s r : Nat) (w : World) (hj : Blk w j 62 #[.pointer (some ⟨p, 0, none⟩)]) (h : Fi 59 w p o bs s r) (hbr : bs.length ≤ r) (hr24 : r ≤ 16777216) :
    Calls Try.prog 18 #[.pointer (some ⟨j, 0, none⟩)] w fun e w' => e = .returned (.int .i64 ((scan8 bs).length : Int)) ∧ Chg (fun _ => False) w w' := by
  have HB := Lib.hid (dbytes_any p o bs s r w h hbr hr24)
  have c0 := jb_cell hj
  clear h hj
  go_enter Try.func18, Try.ntmps18
  go_wp2_with fail
  refine HB.out.mono ?_
  rintro e w1 ⟨A1, c1, rfl, hown1, hc1⟩
  have HS := Lib.hid (jscan_any A1 bs.length c1 bs _ w1 rfl (own_rds hown1) (own_nil hown1) (by omega))
  have HC1 := Lib.hid hc1
  clear HB hown1 hc1 c0
  go_wp2_with fail
  refine HS.out.mono ?_
  rintro e w2 ⟨A2, m, c2, vs, rfl, hm, hown2, hbl, hc2⟩
  have HM := Lib.hid hm
  clear hm hown2 hbl
  go_wp2_with fail
  go_ret
  exact ⟨by rw [HM.out]; rfl, HC1.out.trans hc2 (fun _ _ e => e)⟩

theorem nb_cells {w : World} {g : Nat} {u v : Value} (h : Blk w g 48 #[u, v]) : w.cell? ⟨g, 0, none⟩ = some u ∧ w.cell? ⟨g, 1, none⟩ = some v ∧ w.frozen? ⟨g, 1, none⟩ = false := by
  have h0 := h.cell 0
  have h1 := h.cell 1
  simp only [List.getElem?_toArray, List.getElem?_cons_zero, List.getElem?_cons_succ] at h0 h1
  exact ⟨h0, h1, h.frozen 1⟩
/-- What the document's Put leaves: the file's turn ends in w3, behind it the number of records turns alone. -/
def PutR (q g N r s : Nat) (o : Option Nat) (bs b : List UInt8) (w w' : World) : Prop :=
  ∃ o' w3, Fi 37 w3 q o' (putB r bs b) s r ∧ Mvd q o o' w w3 ∧ Blk w3 g 48 #[.pointer (some ⟨q, 0, none⟩), .int .i64 (N : Int)] ∧
    Blk w' g 48 #[.pointer (some ⟨q, 0, none⟩), .int .i64 (putN r bs b N : Int)] ∧ Chg (fun k => k = g) w3 w'

set_option maxHeartbeats 2000000 in
theorem rjput_any (g q : Nat) (o : Option Nat) (bs b : List UInt8) (s r n c N : Nat) (A : Option Addr) (S : Nat → Prop) (w : World) (hg : Blk w g 48 #[.pointer (some ⟨q, 0, none⟩), .int .i64 (N : Int)]) (h : Fi 37 w q o bs s r)
    (hn : n = b.length) (hr : Rds w S A n (bcs b)) (hbr : bs.length ≤ r) (hr24 : r ≤ 16777216) (hm : n ≤ 9223372036854775807) (hN : N ≤ 1000000000000) :
    Calls Try.prog 17 #[.pointer (some ⟨g, 0, none⟩), .slice A n c] w fun e w' => e = .returned (.int .i64 (putE r bs b)) ∧ PutR q g N r s o bs b w w' := by
  have HF := Lib.hid h
  have HG := Lib.hid hg
  unfold PutR
  by_cases hb : b.length = 0 ∨ 200 < b.length
  · have e1 : putE r bs b = 1 := if_pos hb
    have e2 : putB r bs b = bs := if_pos hb
    have e3 : putN r bs b N = N := if_pos hb
    rw [e1, e2, e3]
    have HE := Lib.hid (renc_bad A n c w (by omega) hm)
    clear h hg hb hn hr e1 e2 e3
    go_enter Try.func17, Try.ntmps17
    go_wp2_with fail
    refine HE.out.mono ?_
    rintro e w1 ⟨rfl, rfl⟩
    go_wp2_with fail
    go_ret
    exact ⟨rfl, o, w, HF.out, Mvd.refl _ _ _, HG.out, HG.out, Chg.refl _ _⟩
  · have e1 : putE r bs b = addE r bs (recB b) := if_neg hb
    have e2 : putB r bs b = addB r bs (recB b) := if_neg hb
    have e3 : putN r bs b N = if r < bs.length + (recB b).length then N else N + 1 := if_neg hb
    have HE := Lib.hid (renc_ok A n c b S w hn hr ⟨by omega, by omega⟩)
    have hqlt := h.lt.1
    have hrl : (recB b).length ≤ 1000 := by rw [recB_len]; omega
    by_cases hf : r < bs.length + (recB b).length
    · have e4 : addE r bs (recB b) = 3 := if_pos hf
      rw [e1, e2, e3, e4, if_pos hf]
      clear h hg hn hr e1 e2 e3 hf
      have HE4 := Lib.hid e4
      clear e4
      go_enter Try.func17, Try.ntmps17
      go_wp2_with fail
      refine HE.out.mono ?_
      rintro e w1 ⟨D, dc, rfl, hown, hc⟩
      have HG1 := Lib.hid (HG.out.chg hc id)
      obtain ⟨x0, x1, x2⟩ := nb_cells HG1.out
      have HF1 := Lib.hid (HF.out.chg hc id (fun _ _ => id))
      have HA := Lib.hid (radd_any q o bs (recB b) s r (recB b).length dc D _ w1 HF1.out rfl (own_rds2 hown) (fun k hk => by have := hk.1; omega) hbr hr24 (by omega))
      have HC := Lib.hid hc
      clear hown hc HE
      rw [HE4.out] at HA
      go_wp2_with fail
      refine HA.out.mono ?_
      rintro e w2 ⟨rfl, o', hf, hm2⟩
      go_wp2_with fail
      go_ret
      have hg2 := fi_keep HF1.out hm2 HG1.out (by decide) (by decide)
      exact ⟨rfl, o', w2, hf, Mvd.pre HC.out hm2, hg2, hg2, Chg.refl _ _⟩
    · have e4 : addE r bs (recB b) = 0 := if_neg hf
      rw [e1, e2, e3, e4, if_neg hf]
      clear h hg hn hr e1 e2 e3 hf
      have HE4 := Lib.hid e4
      clear e4
      go_enter Try.func17, Try.ntmps17
      go_wp2_with fail
      refine HE.out.mono ?_
      rintro e w1 ⟨D, dc, rfl, hown, hc⟩
      have HG1 := Lib.hid (HG.out.chg hc id)
      obtain ⟨x0, x1, x2⟩ := nb_cells HG1.out
      have HF1 := Lib.hid (HF.out.chg hc id (fun _ _ => id))
      have HA := Lib.hid (radd_any q o bs (recB b) s r (recB b).length dc D _ w1 HF1.out rfl (own_rds2 hown) (fun k hk => by have := hk.1; omega) hbr hr24 (by omega))
      have HC := Lib.hid hc
      clear hown hc HE
      rw [HE4.out] at HA
      go_wp2_with fail
      refine HA.out.mono ?_
      rintro e w2 ⟨rfl, o', hf, hm2⟩
      have HG2 := Lib.hid (fi_keep HF1.out hm2 HG1.out (by decide) (by decide))
      clear x0 x1 x2
      obtain ⟨x0, x1, x2⟩ := nb_cells HG2.out
      have HF2 := Lib.hid hf
      have HM2 := Lib.hid hm2
      clear hf hm2 HA
      go_wp2_with fail
      go_ret
      refine ⟨rfl, o', w2, HF2.out, Mvd.pre HC.out HM2.out, HG2.out, ?_, (Chg.refl (fun k => k = g) w2).put g 1 (fun _ => rfl) _⟩
      exact HG2.out.set 1 (.int .i64 ((N + 1 : Nat) : Int))

end Go.Proofs.Ythljmebhbjeeiaa
