/-
  Walk: rutterlaw03.alive. Conditions: none.
-/
import Derived.Test.YtlaekkoegomfjaaJh
namespace Go.Proofs.Ytlaekkoegomfjaa
open Go.RowKit
set_option linter.unusedVariables false

theorem ann_arp (d s t op sha tha spa tpa : Int) (hr : rightB d s t 28 = true) (ha : arpR op sha tha = true) (hs : 0 ≤ sha) (ht : 0 ≤ tha) (hp : 0 ≤ spa ∧ spa ≤ 4294967295) (hq : 0 ≤ tpa ∧ tpa ≤ 4294967295) :
    annV d s t 28 (arpB op sha tha spa tpa) = if saysB t op spa tpa then .tuple #[.int .u64 sha, .bool true] else .tuple #[.int .u64 0, .bool false] := by
  obtain ⟨h1, h2, h3, h4, h5, h6⟩ := arp_back op sha tha spa tpa [] ha hs ht hp hq
  rw [List.append_nil] at h1 h2 h3 h4 h5 h6
  unfold annV
  rw [hr, h1, h2, h3, h5, h6]
  rfl
theorem right_max (s t : Int) (h0 : 0 ≤ s) (hs : s ≤ 281474976710655) (ht : 0 ≤ t) (ht2 : t ≤ 65535) : rightB 281474976710655 s t 28 = true := by
  unfold rightB
  simp only [Bool.and_eq_true, decide_eq_true_eq]
  omega
theorem ann_rarp (mac : Int) (h0 : 0 ≤ mac) (hm : mac ≤ 281474976710655) : annV 281474976710655 mac 32821 28 (arpB 3 mac mac 0 0) = .tuple #[.int .u64 mac, .bool true] := by
  rw [ann_arp _ _ _ _ _ _ _ _ (right_max mac 32821 h0 hm (by omega) (by omega)) (by unfold arpR; simp; omega) h0 h0 (by omega) (by omega)]
  rfl

/-- Announces of a frame whose load the call owns. -/
theorem ann_own (d s t : Int) (A : Option Addr) (c base : Nat) (l : List UInt8) (w0 w : World) (hl : l.length = 28) (h : w0.ownsRow base 5 1 (.slice A 28 c) 28 (bcs l)) (hc : Chg (fun _ => False) w0 w) (hd : 0 ≤ d) (hs : 0 ≤ s) :
    Calls Try.prog 7 #[.agg #[.int .u64 d, .int .u64 s, .int .i64 t, .slice A 28 c]] w fun e w' => e = .returned (annV d s t 28 l) ∧ Chg (fun _ => False) w w' := by
  obtain ⟨h1, h2⟩ := own_cap h
  exact ann_any d s t A 28 c l _ w hl.symm ((own_rds2 h).chg hc (fun _ _ => id)) h1 h2 hd hs

set_option maxHeartbeats 2000000 in
theorem alive3_any (w : World) : Calls Try.prog 6 #[] w fun e w' => e = .returned (.bool true) ∧ Chg (fun _ => False) w w' := by
  go_enter Try.func6, Try.ntmps6
  go_wp2_with fail
  refine (rarp_yes 258 _ (by decide) (by decide)).mono ?_
  rintro e w1 ⟨A, c, rfl, hown, hc1⟩
  have hb : Blk (w1.alloc (.cells #[.int .u64 281474976710655, .int .u64 258, .int .i64 32821, .slice A 28 c] 28)) w1.heap.size 28 _ := Blk.new _ _ _
  have hC1 := hc1.alloc (.cells #[.int .u64 281474976710655, .int .u64 258, .int .i64 32821, .slice A 28 c] 28)
  obtain ⟨x0, x1, x2, x3⟩ := frame_kept hb (Chg.refl _ _)
  have HA := Lib.hid (ann_own 281474976710655 258 32821 A c _ _ w1 _ (arpB_len _ _ _ _ _) hown ((Chg.refl _ w1).alloc (.cells #[.int .u64 281474976710655, .int .u64 258, .int .i64 32821, .slice A 28 c] 28)) (by decide) (by decide))
  have HB := Lib.hid hb
  have HC1 := Lib.hid hC1
  clear hown hc1 hb hC1
  go_wp2_with fail
  refine HA.out.mono ?_
  rw [ann_rarp 258 (by decide) (by decide)]
  rintro e w2 ⟨rfl, hc2⟩
  have HB2 := Lib.hid (HB.out.chg hc2 id)
  have HC2 := Lib.hid (HC1.out.trans hc2 (fun _ _ e => e))
  clear HA HB HC1 hc2 x0 x1 x2 x3
  go_wp2_with fail
  refine (aenc_yes 2 7 0 9 9 _ (by decide) (by decide) (by decide) (by decide) (by decide) (by decide)).mono ?_
  rintro e w3 ⟨A2, k2, c2, rfl, rfl, hown, hc3⟩
  have HB3 := Lib.hid (HB2.out.chg hc3 id)
  have HC3 := Lib.hid (HC2.out.trans hc3 (fun _ _ e => e))
  have HO := Lib.hid hown
  clear HB2 HC2 hc3 hown
  go_wp2_with fail
  refine (ann_own 0 0 2054 A2 c2 _ _ w3 _ (arpB_len _ _ _ _ _) HO.out (Chg.refl _ w3) (by decide) (by decide)).mono ?_
  rw [ann_arp 0 0 2054 2 7 0 9 9 (by decide) (by decide) (by decide) (by decide) (by decide) (by decide)]
  rintro e w4 ⟨rfl, hc4⟩
  rw [show saysB 2054 2 9 9 = true from rfl]
  have HB4 := Lib.hid (HB3.out.chg hc4 id)
  have HC4 := Lib.hid (HC3.out.trans hc4 (fun _ _ e => e))
  have H34 := Lib.hid hc4
  clear HB3 HC3 hc4
  go_wp2_with fail
  refine (ann_own 0 0 32821 A2 c2 _ _ w3 _ (arpB_len _ _ _ _ _) HO.out H34.out (by decide) (by decide)).mono ?_
  rw [ann_arp 0 0 32821 2 7 0 9 9 (by decide) (by decide) (by decide) (by decide) (by decide) (by decide)]
  rintro e w5 ⟨rfl, hc5⟩
  rw [show saysB 32821 2 9 9 = false from rfl]
  obtain ⟨x0, x1, x2, x3⟩ := frame_kept HB4.out hc5
  have HC5 := Lib.hid (HC4.out.trans hc5 (fun _ _ e => e))
  clear HB4 HC4 hc5 H34 HO
  go_wp2_with fail
  go_ret
  exact ⟨rfl, HC5.out⟩

end Go.Proofs.Ytlaekkoegomfjaa
