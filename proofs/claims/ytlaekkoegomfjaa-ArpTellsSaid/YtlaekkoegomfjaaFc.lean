/-
  Walks: bytes.Equal, ether.Same, rutterref02.Same. Conditions: the bytes are read in memory.
-/
import Derived.Test.YtlaekkoegomfjaaFb
namespace Go.Proofs.Ytlaekkoegomfjaa
open Go.RowKit
set_option linter.unusedVariables false

theorem conv_any {w : World} {S : Nat → Prop} {A : Option Addr} {n c : Nat} {l : List UInt8} (h : Rds w S A n (bcs l)) : (convert 26 9 (.slice A n c)).run Try.prog w = .ok (.string ⟨l.toArray⟩) w :=
  conv_str 26 9 5 Try.underlying26 Try.underlying5 Try.underlying9 h

/-- Have two frames the same? -/
def sameB (d s t : Int) (l : List UInt8) (d2 s2 t2 : Int) (l2 : List UInt8) : Bool := d == d2 && (s == s2 && (t == t2 && l == l2))
set_option maxHeartbeats 400000 in
theorem rsame_any (d s t d2 s2 t2 : Int) (A A2 : Option Addr) (n n2 c c2 : Nat) (l l2 : List UInt8) (S S2 : Nat → Prop) (w : World) (h : Rds w S A n (bcs l)) (h2 : Rds w S2 A2 n2 (bcs l2)) :
    Calls Try.prog 11 #[.agg #[.int .u64 d, .int .u64 s, .int .i64 t, .slice A n c], .agg #[.int .u64 d2, .int .u64 s2, .int .i64 t2, .slice A2 n2 c2]] w fun e w' =>
      e = .returned (.bool (sameB d s t l d2 s2 t2 l2)) ∧ Chg (fun _ => False) w w' := by
  have hC := ((Chg.refl (fun _ => False) w).alloc (.cells #[.int .u64 d, .int .u64 s, .int .i64 t, .slice A n c] 28)).alloc (.cells #[.int .u64 d2, .int .u64 s2, .int .i64 t2, .slice A2 n2 c2] 28)
  have k1 := conv_any (c := c) ((h.alloc (.cells #[.int .u64 d, .int .u64 s, .int .i64 t, .slice A n c] 28)).alloc (.cells #[.int .u64 d2, .int .u64 s2, .int .i64 t2, .slice A2 n2 c2] 28))
  have k2 := conv_any (c := c2) ((h2.alloc (.cells #[.int .u64 d, .int .u64 s, .int .i64 t, .slice A n c] 28)).alloc (.cells #[.int .u64 d2, .int .u64 s2, .int .i64 t2, .slice A2 n2 c2] 28))
  clear h h2
  by_cases h1 : d = d2
  · subst h1
    by_cases h1 : s = s2
    · subst h1
      by_cases h1 : t = t2
      · subst h1
        have hR := Lib.hid (show sameB d s t l d s t l2 = (l == l2) by simp [sameB])
        go_enter Try.func11, Try.ntmps11
        go_wp2_with fail
        go_ret
        exact ⟨ret_b hR.out.symm, hC⟩
      · have hR := Lib.hid (show sameB d s t l d s t2 l2 = false by simp [sameB, h1])
        have t1 : (t == t2) = false := by simpa using h1
        clear h1
        go_enter Try.func11, Try.ntmps11
        go_wp2_with fail
        go_ret
        exact ⟨ret_b hR.out.symm, hC⟩
    · have hR := Lib.hid (show sameB d s t l d s2 t2 l2 = false by simp [sameB, h1])
      have t1 : (s == s2) = false := by simpa using h1
      clear h1
      go_enter Try.func11, Try.ntmps11
      go_wp2_with fail
      go_ret
      exact ⟨ret_b hR.out.symm, hC⟩
  · have hR := Lib.hid (show sameB d s t l d2 s2 t2 l2 = false by simp [sameB, h1])
    have t1 : (d == d2) = false := by simpa using h1
    clear h1
    go_enter Try.func11, Try.ntmps11
    go_wp2_with fail
    go_ret
    exact ⟨ret_b hR.out.symm, hC⟩

end Go.Proofs.Ytlaekkoegomfjaa
