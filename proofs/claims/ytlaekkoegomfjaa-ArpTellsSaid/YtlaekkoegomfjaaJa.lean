/-
  Walks: the closures of arp.announcers, rutterlaw03.Of, rutterref03.Right, and the plain functions of an arp. Conditions: what a closure captured is an arp in memory.
-/
import Derived.Test.YtlaekkoegomfjaaFb
import Derived.Test.YtlaekkoegomfjaaGen
import Derived.Test.YtlaekkoegomfjaaSpb
namespace Go.Proofs.Ytlaekkoegomfjaa
open Go.RowKit
set_option linter.unusedVariables false

/-- An arp's cells. -/
def arpC (op sha tha spa tpa : Int) : Array Value := #[.int .i64 op, .int .u64 sha, .int .u64 tha, .int .u32 spa, .int .u32 tpa]
/-- May an arp be? -/
def arpR (op sha tha : Int) : Bool := decide (0 ≤ op) && (decide (op ≤ 65535) && (decide (sha ≤ 281474976710655) && decide (tha ≤ 281474976710655)))
/-- Does an arp announce in a frame of RARP; of ARP? -/
def saysR (op : Int) : Bool := op == 3
def saysA (op spa tpa : Int) : Bool := (op == 1 || op == 2) && spa == tpa

theorem arp_cells {w : World} {q : Nat} {op sha tha spa tpa : Int} {T : TypeId} (hb : Blk w q T (arpC op sha tha spa tpa)) :
    w.cell? ⟨q, 0, none⟩ = some (.int .i64 op) ∧ w.cell? ⟨q, 1, none⟩ = some (.int .u64 sha) ∧ w.cell? ⟨q, 2, none⟩ = some (.int .u64 tha) ∧ w.cell? ⟨q, 3, none⟩ = some (.int .u32 spa) ∧ w.cell? ⟨q, 4, none⟩ = some (.int .u32 tpa) := by
  have x0 := hb.cell 0
  have x1 := hb.cell 1
  have x2 := hb.cell 2
  have x3 := hb.cell 3
  have x4 := hb.cell 4
  simp only [arpC, List.getElem?_toArray, List.getElem?_cons_zero, List.getElem?_cons_succ] at x0 x1 x2 x3 x4
  exact ⟨x0, x1, x2, x3, x4⟩

set_option maxHeartbeats 400000 in
theorem says_r (q : Nat) (op sha tha spa tpa : Int) (w : World) (hb : Blk w q 25 (arpC op sha tha spa tpa)) :
    Calls Try.prog 29 #[.pointer (some ⟨q, 0, none⟩)] w fun e w' => e = .returned (.bool (saysR op)) ∧ w = w' := by
  obtain ⟨x0, _, _, _, _⟩ := arp_cells hb
  go_enter Try.func29, Try.ntmps29
  go_wp2_with fail
  go_ret
  exact ⟨rfl, rfl⟩

set_option maxHeartbeats 400000 in
theorem says_a (q : Nat) (op sha tha spa tpa : Int) (w : World) (hb : Blk w q 25 (arpC op sha tha spa tpa)) :
    Calls Try.prog 30 #[.pointer (some ⟨q, 0, none⟩)] w fun e w' => e = .returned (.bool (saysA op spa tpa)) ∧ w = w' := by
  obtain ⟨x0, _, _, x3, x4⟩ := arp_cells hb
  by_cases h1 : op = 1
  · subst h1
    go_enter Try.func30, Try.ntmps30
    go_wp2_with fail
    go_ret
    exact ⟨ret_b (by simp [saysA]), rfl⟩
  · have t1 : (op == 1) = false := by simpa using h1
    by_cases h2 : op = 2
    · subst h2
      go_enter Try.func30, Try.ntmps30
      go_wp2_with fail
      go_ret
      exact ⟨ret_b (by simp [saysA]), rfl⟩
    · have t2 : (op == 2) = false := by simpa using h2
      have hR := Lib.hid (show saysA op spa tpa = false by simp [saysA, h1, h2])
      clear h1 h2
      go_enter Try.func30, Try.ntmps30
      go_wp2_with fail
      go_ret
      exact ⟨ret_b hR.out.symm, rfl⟩

set_option maxHeartbeats 400000 in
theorem of_any (op sha tha spa tpa : Int) (w : World) :
    Calls Try.prog 14 #[.agg (arpC op sha tha spa tpa)] w fun e w' => e = .returned (.agg (arpC op sha tha spa tpa)) ∧ Chg (fun _ => False) w w' := by
  unfold arpC
  go_enter Try.func14, Try.ntmps14
  go_wp2_with fail
  have hb : Blk ((w.alloc (.cells #[.int .i64 op, .int .u64 sha, .int .u64 tha, .int .u32 spa, .int .u32 tpa] 25)).alloc (.cells #[.int .i64 op, .int .u64 sha, .int .u64 tha, .int .u32 spa, .int .u32 tpa] 40)) (w.heap.size + 1) 40 (arpC op sha tha spa tpa) := blk_new (by simp)
  obtain ⟨r0, r1, r2, r3, r4⟩ := arp_cells hb
  exact bodyPost_ret (v := .agg #[.int .i64 op, .int .u64 sha, .int .u64 tha, .int .u32 spa, .int .u32 tpa]) (by simp [results, Try.results14, go_sem, r0, r1, r2, r3, r4]) rfl ⟨rfl, ((Chg.refl (fun _ => False) w).alloc _).alloc _⟩

set_option maxHeartbeats 400000 in
theorem rright3_any (op sha tha spa tpa : Int) (w : World) (hs : 0 ≤ sha) (ht : 0 ≤ tha) :
    Calls Try.prog 13 #[.agg (arpC op sha tha spa tpa)] w fun e w' => e = .returned (.bool (arpR op sha tha)) ∧ Chg (fun _ => False) w w' := by
  unfold arpC
  have hC := (Chg.refl (fun _ => False) w).alloc (.cells #[.int .i64 op, .int .u64 sha, .int .u64 tha, .int .u32 spa, .int .u32 tpa] 40)
  by_cases h1 : 0 ≤ op
  · by_cases h2 : op ≤ 65535
    · by_cases h3 : sha ≤ 281474976710655
      · have hR := Lib.hid (show arpR op sha tha = decide (tha ≤ 281474976710655) by unfold arpR; simp [h1, h2, h3])
        go_enter Try.func13, Try.ntmps13
        go_wp2_with fail
        go_ret
        exact ⟨ret_b (by rw [hR.out]), hC⟩
      · have hR := Lib.hid (show arpR op sha tha = false by unfold arpR; simp [h3])
        go_enter Try.func13, Try.ntmps13
        go_wp2_with fail
        go_ret
        exact ⟨ret_b hR.out.symm, hC⟩
    · have hR := Lib.hid (show arpR op sha tha = false by unfold arpR; simp [h2])
      go_enter Try.func13, Try.ntmps13
      go_wp2_with fail
      go_ret
      exact ⟨ret_b hR.out.symm, hC⟩
  · have hR := Lib.hid (show arpR op sha tha = false by unfold arpR; simp [h1])
    go_enter Try.func13, Try.ntmps13
    go_wp2_with fail
    go_ret
    exact ⟨ret_b hR.out.symm, hC⟩

end Go.Proofs.Ytlaekkoegomfjaa
