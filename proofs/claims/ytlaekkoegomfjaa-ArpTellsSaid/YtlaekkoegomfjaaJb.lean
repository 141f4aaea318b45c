/-
  Walk: arp.announcers. Conditions: none.
-/
import Derived.Test.YtlaekkoegomfjaaJa
import Derived.Test.YtlaekkoegomfjaaMa
namespace Go.Proofs.Ytlaekkoegomfjaa
open Go.RowKit
set_option linter.unusedVariables false

/-- The map of those that announce, by an arp at block q. -/
def sayers (q : Nat) : Array MapEntry := #[⟨.int .i64 32821, .func (.func 29) #[] #[.pointer (some ⟨q, 0, none⟩)], 0⟩, ⟨.int .i64 2054, .func (.func 30) #[] #[.pointer (some ⟨q, 0, none⟩)], 1⟩]

set_option maxHeartbeats 400000 in
theorem sayers_any (op sha tha spa tpa : Int) (w : World) :
    Calls Try.prog 19 #[.agg (arpC op sha tha spa tpa)] w fun e w' => ∃ q m, e = .returned (.map (some m)) ∧ Blk w' q 25 (arpC op sha tha spa tpa) ∧ Mp w' m (sayers q) 2 ∧ Chg (fun _ => False) w w' := by
  unfold arpC
  have hmm := @run_makeMap Try.prog
  have hmf : ∀ (fn : Fn) (first cap : Array Value) (w : World), (Instr.makeFunc fn first cap).run Try.prog w = .ok (.func fn first cap) w := fun _ _ _ _ => rfl
  generalize hq : w.heap.size = q at *
  have hb0 : Blk (w.alloc (.cells #[.int .i64 op, .int .u64 sha, .int .u64 tha, .int .u32 spa, .int .u32 tpa] 25)) q 25 (arpC op sha tha spa tpa) := blk_new hq.symm
  have hb1 := hb0.alloc (.map #[] 0)
  have hz : (w.alloc (.cells #[.int .i64 op, .int .u64 sha, .int .u64 tha, .int .u32 spa, .int .u32 tpa] 25)).heap.size = q + 1 := by simp [hq]
  have hm0 := Mp.new (w.alloc (.cells #[.int .i64 op, .int .u64 sha, .int .u64 tha, .int .u32 spa, .int .u32 tpa] 25))
  rw [hz] at hm0
  have hu1 := hm0.add (P := Try.prog) (x := 32821) Try.underlying50 Try.underlying3 rfl (.func (.func 29) #[] #[.pointer (some ⟨q, 0, none⟩)])
  have hm1 := hm0.set (es' := #[⟨.int .i64 32821, .func (.func 29) #[] #[.pointer (some ⟨q, 0, none⟩)], 0⟩]) (clock' := 1)
  have hu2 := hm1.add (P := Try.prog) (x := 2054) Try.underlying50 Try.underlying3 rfl (.func (.func 30) #[] #[.pointer (some ⟨q, 0, none⟩)])
  have hm2 : Mp _ (q + 1) (sayers q) 2 := hm1.set (es' := sayers q) (clock' := 2)
  have hc := ((((Chg.refl (fun _ => False) w).alloc (.cells #[.int .i64 op, .int .u64 sha, .int .u64 tha, .int .u32 spa, .int .u32 tpa] 25)).alloc (.map #[] 0)).setBlock (q + 1) (.map #[⟨.int .i64 32821, .func (.func 29) #[] #[.pointer (some ⟨q, 0, none⟩)], 0⟩] 1) (fun h => by omega)).setBlock (q + 1) (.map (sayers q) 2) (fun h => by omega)
  have hbc := (((Chg.refl (fun k => k = q + 1) ((w.alloc (.cells #[.int .i64 op, .int .u64 sha, .int .u64 tha, .int .u32 spa, .int .u32 tpa] 25)).alloc (.map #[] 0))).setBlock (q + 1) (.map #[⟨.int .i64 32821, .func (.func 29) #[] #[.pointer (some ⟨q, 0, none⟩)], 0⟩] 1) (fun _ => rfl)).setBlock (q + 1) (.map (sayers q) 2) (fun _ => rfl))
  have hb2 := hb1.chg hbc (by omega)
  have HH := Lib.hid (And.intro hb2 (And.intro hm2 hc))
  clear hb0 hb1 hm0 hm1 hm2 hc hbc hb2
  simp only [List.push_toArray, List.nil_append, List.cons_append, Nat.zero_add] at hu1 hu2
  go_enter Try.func19, Try.ntmps19
  go_wp2_with fail
  go_ret
  exact ⟨q, q + 1, rfl, HH.out.1, HH.out.2.1, HH.out.2.2⟩

end Go.Proofs.Ytlaekkoegomfjaa
