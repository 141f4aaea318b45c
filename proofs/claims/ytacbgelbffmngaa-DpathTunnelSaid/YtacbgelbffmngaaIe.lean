/-
  The code's answer and the document's, of a frame and of a packet: one outcome, one error. Conditions: the entries, and the bytes, are read in memory.
-/
import Derived.Test.YtacbgelbffmngaaId
import Derived.Test.YtacbgelbffmngaaIb
import Derived.Test.YtacbgelbffmngaaIc
import Derived.Test.YtacbgelbffmngaaYf
namespace Go.Proofs.Ytacbgelbffmngaa
open Go.RowKit
set_option linter.unusedVariables false
set_option linter.unusedSimpArgs false

theorem gboth15 (d s t ch nu : Int) (A : Option Addr) (n c : Nat) (b : List UInt8) (hd : 0 ≤ d) (hs : 0 ≤ s) (hn : n ≤ 9223372036854775807) (le : List En) : ∃ (v : OV) (x : Int),
    (∀ (W : World) (p : Nat), TF W p le → le.length ≤ 256 → BsM15 W A n c b → Calls Try.prog 9 #[.pointer (some ⟨p, 0, none⟩), .int .i64 ch, .agg #[.int .u64 d, .int .u64 s, .int .i64 t, .slice A n c], .int .i64 nu] W (HE15 v x W)) ∧
    (∀ (W : World) (E : Option Addr) (m k : Nat), EnR W E m le → m ≤ 9223372036854775807 → BsM15 W A n c b → Calls Try.prog 10 #[.slice E m k, .int .i64 ch, .agg #[.int .u64 d, .int .u64 s, .int .i64 t, .slice A n c], .int .i64 nu] W (RE15 v x W)) := by
  cases hr : rightB d s t n with
  | false => exact ⟨zOV, 1, fun W p _ _ _ => guest15_bad _ d s t ch nu A n c W hd hs hn hr, fun W E m k _ _ _ => rguest15_bad _ d s t ch nu A n c W hd hs hn hr⟩
  | true =>
    by_cases hx : ch < 0 ∨ 15 < ch ∨ nu < 0 ∨ 1099511627776 < nu
    · exact ⟨zOV, 1, fun W p _ _ hb => guest15_rng _ d s t ch nu A n c W hd hs hn b hb hr hx, fun W E m k _ _ _ => rguest15_rng _ d s t ch nu A n c W hd hs hn hr hx⟩
    · obtain ⟨a0, a1, a2, a3, hac, -⟩ := bx13_ac (lk13 ⟨0, d, 0, 0, -1⟩ le)
      exact ⟨gu15 ch (frameB d s t b) nu a0 a1 a2 a3, 0, fun W p hT hl hb => guest15_ok _ _ a0 a1 a2 a3 hac d s t ch nu A n c W hd hs hn b hb (look15 hT hl 0 d 0 0 (-1)) hr (by omega) (by omega) (by omega) (by omega),
        fun W E m k hE hm hb => rguest15_ok _ _ a0 a1 a2 a3 hac d s t ch nu A n c W hd hs hn b hb (fun W2 h2 => rlook13_any (hE.chg h2) hm 0 d 0 0 (-1)) hr (by omega) (by omega) (by omega) (by omega)⟩
theorem tboth15 (k o f t p g i ch : Int) (A : Option Addr) (n c : Nat) (b : List UInt8) (hn : n ≤ 9223372036854775807) (le : List En) : ∃ (v : OV) (x : Int),
    (∀ (W : World) (q : Nat), TF W q le → le.length ≤ 256 → BsM15 W A n c b → Calls Try.prog 15 #[.pointer (some ⟨q, 0, none⟩), .int .i64 ch, .agg #[.int .i64 k, .int .i64 o, .int .i64 f, .int .i64 t, .int .i64 p, .int .i64 g, .int .i64 i, .slice A n c]] W (HE15 v x W)) ∧
    (∀ (W : World) (E : Option Addr) (m j : Nat), EnR W E m le → m ≤ 9223372036854775807 → BsM15 W A n c b → Calls Try.prog 16 #[.slice E m j, .int .i64 ch, .agg #[.int .i64 k, .int .i64 o, .int .i64 f, .int .i64 t, .int .i64 p, .int .i64 g, .int .i64 i, .slice A n c]] W (RE15 v x W)) ∧
    (∀ (W : World), BsM15 W A n c b → Calls Try.prog 15 #[.pointer none, .int .i64 ch, .agg #[.int .i64 k, .int .i64 o, .int .i64 f, .int .i64 t, .int .i64 p, .int .i64 g, .int .i64 i, .slice A n c]] W (HE15 zOV x W)) := by
  cases hr : pkR k o f t p g i n with
  | false => exact ⟨zOV, 1, fun W q _ _ _ => tunnel15_bad _ k o f t p g i ch A n c W hn hr, fun W E m j _ _ _ => rtunnel15_bad _ k o f t p g i ch A n c W hn hr, fun W _ => tunnel15_bad _ k o f t p g i ch A n c W hn hr⟩
  | true =>
    by_cases ht : t = ch
    · subst ht
      obtain ⟨a0, a1, a2, a3, hac, -⟩ := bx13_ac (lk13 ⟨k, 0, p, g, o⟩ le)
      refine ⟨tu15 k o f t p g i b a0 a1 a2 a3, 0, fun W q hT hl hb => tunnel15_ok _ _ a0 a1 a2 a3 hac k o f t p g i A n c W b hb (look15 hT hl k 0 p g o) hr,
        fun W E m j hE hm hb => rtunnel15_ok _ _ a0 a1 a2 a3 hac k o f t p g i A n c W b hb (fun W2 h2 => rlook13_any (hE.chg h2) hm k 0 p g o) hr, fun W hb => ?_⟩
      have h2 := tunnel15_ok (.pointer none) none 0 0 0 0 rfl k o f t p g i A n c W b hb (look15_nil W k 0 p g o) hr
      rw [tu15_no (by decide) (by decide)] at h2
      exact h2
    · exact ⟨zOV, 1, fun W q _ _ _ => tunnel15_to _ k o f t p g i ch A n c W hn hr ht, fun W E m j _ _ _ => rtunnel15_to _ k o f t p g i ch A n c W hn hr ht, fun W _ => tunnel15_to _ k o f t p g i ch A n c W hn hr ht⟩

end Go.Proofs.Ytacbgelbffmngaa
