/-
  Walks: disk.File's Add, Sync, Cut, Crash, Bytes, Safe. Conditions: the receiver is a file in memory, or nil; its bytes are no more than its room, which is at most 2^24.
-/
import Derived.Test.YthljmebhbjeeiaaLa
namespace Go.Proofs.Ythljmebhbjeeiaa
open Go.RowKit
set_option linter.unusedVariables false

/-- What Add tells, and leaves. -/
def addE (r : Nat) (bs b : List UInt8) : Int := if r < bs.length + b.length then 3 else 0
def addB (r : Nat) (bs b : List UInt8) : List UInt8 := if r < bs.length + b.length then bs else bs ++ b
/-- What Cut tells, and leaves. -/
def cutE (bs : List UInt8) (n : Int) : Int := if n < 0 ∨ (bs.length : Int) < n then 1 else 0
def cutB (bs : List UInt8) (n : Int) : List UInt8 := if n < 0 ∨ (bs.length : Int) < n then bs else bs.take n.toNat
def cutS (bs : List UInt8) (s : Nat) (n : Int) : Nat := if n < 0 ∨ (bs.length : Int) < n then s else n.toNat
/-- How many stay behind a crash. -/
def crN (bs : List UInt8) (s : Nat) (keep : Int) : Nat := s + min keep.toNat (bs.length - s)

set_option maxHeartbeats 400000 in
theorem dadd_any (p : Nat) (o : Option Nat) (bs b : List UInt8) (s r q c' : Nat) (B : Option Addr) (S : Nat → Prop) (w : World) (h : Fi 59 w p o bs s r) (hq : q = b.length) (hr : Rds w S B q (bcs b))
    (hbr : bs.length ≤ r) (hr24 : r ≤ 16777216) (hqm : q ≤ 9223372036854775807) :
    Calls Try.prog 31 #[.pointer (some ⟨p, 0, none⟩), .slice B q c'] w fun e w' => e = .returned (.int .i64 (addE r bs b)) ∧ ∃ o', Fi 59 w' p o' (addB r bs b) s r ∧ Mvd p o o' w w' := by
  obtain ⟨i0, hi0, hz0, hz1, hz2⟩ := info_parts infoByte7
  obtain ⟨A, c, h⟩ := h
  obtain ⟨x0, x1, x2, f0, f1, f2⟩ := h.cells
  have hown := h.own
  have hne2 : (Value.slice A bs.length c).ownBlock ≠ some p := by rw [own_block, h.at_]; exact h.ne
  have hb1 := h.blk
  have HH := Lib.hid h
  have HN := Lib.hid hq
  unfold addE addB
  by_cases hf : r < bs.length + b.length
  · rw [if_pos hf, if_pos hf]
    have hf' : (r : Int) - (bs.length : Int) < (q : Int) := by omega
    clear h hq hown hne2 hb1 hf
    go_enter Try.func31, Try.ntmps31
    go_wp2_with fail
    go_region
    all_goals
      go_wp2_with fail
      go_ret
      exact ⟨rfl, o, ⟨A, c, HH.out.chg (Chg.refl (fun _ => False) w).drew id (fun _ _ => id)⟩, mvd_set ((Chg.refl _ w).drew)⟩
  · rw [if_neg hf, if_neg hf]
    have hf' : ¬ (r : Int) - (bs.length : Int) < (q : Int) := by omega
    have hq24 : q ≤ 16777216 := by omega
    have hownd : w.drew.ownsRow 0 5 1 (.slice A bs.length c) bs.length (bcs bs) := hown
    clear h hq hf
    go_enter Try.func31, Try.ntmps31
    go_wp2_with fail
    go_region
    all_goals
      go_wp2_with (at_builtin; refine wpList_own_append _ rfl (.tmp 24) (.tmp 25) 35 rfl 0 5 i0 (.int .u8 0) 1 Try.underlying35 hi0 hz0 hz1 hz2 rfl (.slice A bs.length c) bs.length (bcs bs) rfl hownd S B q c' (bcs b) rfl hr.drew (bcs_one b) (by unfold maxLen; omega) (by omega) (Nat.zero_le _) ?_; intro v' w' hown' hgrow hat; obtain ⟨A3, c3, rfl, _, _⟩ := own_form hown'; have hb3 := blk_grown hb1.drew hgrow hne2; have z0 := hb3.cell 0; have z1 := hb3.frozen 0; simp only [List.getElem?_toArray, List.getElem?_cons_zero] at z0)
      go_ret
      obtain ⟨h3, m3⟩ := fl_grown HH.out (Chg.refl _ w).drew b rfl HN.out hown' hgrow hat
      exact ⟨rfl, _, ⟨A3, c3, h3⟩, m3⟩

end Go.Proofs.Ythljmebhbjeeiaa
