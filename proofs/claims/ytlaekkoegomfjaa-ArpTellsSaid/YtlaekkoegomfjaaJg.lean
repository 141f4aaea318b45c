/-
  Walk: rutterref03.Parse. Conditions: the bytes are read in memory, no more of them than there is room.
-/
import Derived.Test.YtlaekkoegomfjaaJd
import Derived.Test.YtlaekkoegomfjaaRr
import Derived.Test.YtlaekkoegomfjaaFc
import Derived.Deep.RegionHeld3
namespace Go.Proofs.Ytlaekkoegomfjaa
open Go.RowKit
set_option linter.unusedVariables false

theorem rget_step (p : Nat) (S : Nat → Prop) (b : List UInt8) (i k : Nat) (w : World) (h : Rd 63 false w p S (some (b.drop i))) (h1 : 1 ≤ k) (h7 : k ≤ 7) (hik : i + k ≤ b.length) :
    Calls Try.prog 26 #[.pointer (some ⟨p, 0, none⟩), .int .i64 (k : Int)] w fun e w' => e = .returned (.int .i64 (nAt b i k)) ∧ Rd 63 false w' p S (some (b.drop (i + k))) ∧ Chg (fun k => k = p) w w' := by
  have hg := rget_any p S _ (k : Int) w h
  rw [get_from b i k h1 h7 hik] at hg
  exact hg

set_option maxHeartbeats 1000000 in
theorem rparse_short (A : Option Addr) (n c : Nat) (w : World) (hn : n < 28) :
    Calls Try.prog 17 #[.slice A n c] w fun e w' => e = .returned (.tuple #[zeroA, .int .i64 2]) ∧ Chg (fun _ => False) w w' := by
  have hd : decide ((n : Int) < 28) = true := by simp; omega
  go_enter Try.func17, Try.ntmps17
  go_wp2_with fail
  go_region
  go_wp2_with fail
  exact bodyPost_ret (v := .tuple #[zeroA, .int .i64 2]) (by simp [results, Try.results17, go_sem, zeroA]) rfl ⟨rfl, ((Chg.refl _ w).alloc _).drew⟩

theorem conv_new {w : World} {l : List UInt8} {g : Nat} (hg : g = w.heap.size) (cs : Array Value) (hcs : cs = (bcs l).toArray) (n c : Nat) (hn : n = l.length) :
    (convert 26 9 (.slice (some ⟨g, 0, none⟩) n c)).run Try.prog (w.alloc (.cells cs 5)).drew = .ok (.string ⟨l.toArray⟩) (w.alloc (.cells cs 5)).drew := by
  subst hg
  subst hn
  have h : Blk (w.alloc (.cells cs 5)) w.heap.size 5 cs := Blk.new w _ cs
  subst hcs
  have h2 := h.rds
  have e1 : (bcs l).toArray.size = l.length := by rw [List.size_toArray, bcs_len]
  have e2 : (bcs l).toArray.toList = bcs l := by simp
  rw [e1, e2] at h2
  exact conv_any h2.drew

set_option maxHeartbeats 2000000 in
theorem rparse_long (A : Option Addr) (n c : Nat) (b : List UInt8) (S : Nat → Prop) (w : World) (hn : n = b.length) (h : Rds w S A n (bcs b)) (h28 : 28 ≤ n) (hc : n ≤ c) (hcm : c ≤ maxLen) :
    Calls Try.prog 17 #[.slice A n c] w fun e w' => e = .returned (decV b) ∧ Chg (fun _ => False) w w' := by
  have hlen : 28 ≤ b.length := by omega
  obtain ⟨a, rfl, _⟩ := h.2 (by omega)
  have h6 := (h.take 6 (by omega)).alloc (.cells #[.int .i64 0, .int .u64 0, .int .u64 0, .int .u32 0, .int .u32 0] 40)
  rw [← bcs_take] at h6
  have k1 := conv_any (c := c) h6.drew
  have k2 := conv_any (c := c) (h6.alloc (.cells #[.int .u8 0, .int .u8 1, .int .u8 8, .int .u8 0, .int .u8 6, .int .u8 4] 5)).drew
  have k3 := conv_new (w := (w.alloc (.cells #[.int .i64 0, .int .u64 0, .int .u64 0, .int .u32 0, .int .u32 0] 40))) (l := head6) (g := w.heap.size + 1) (by simp) #[.int .u8 0, .int .u8 1, .int .u8 8, .int .u8 0, .int .u8 6, .int .u8 4] rfl 6 6 rfl
  have hcm' : (c : Int) ≤ 9223372036854775807 := by unfold maxLen at hcm; omega
  have hd : decide ((n : Int) < 28) = false := by simp; omega
  have hn6 : (6 : Int) ≤ (n : Int) := by omega
  have hc6 : (6 : Int) ≤ (c : Int) := by omega
  have hd6 := (h.drop 6 c (by omega) hc).old
  rw [if_neg (by omega), ← bcs_drop] at hd6
  have hR0 : Blk (w.alloc (.cells #[.int .i64 0, .int .u64 0, .int .u64 0, .int .u32 0, .int .u32 0] 40)) w.heap.size 40 (arpC 0 0 0 0 0) := blk_new rfl
  have hR := ((hR0.alloc (.cells #[.int .u8 0, .int .u8 1, .int .u8 8, .int .u8 0, .int .u8 6, .int .u8 4] 5)).drew).alloc (.cells #[.slice (some (a.add 6)) (n - 6) (c - 6), .bool false] 63)
  have hC := ((((Chg.refl (fun _ => False) w).alloc (.cells #[.int .i64 0, .int .u64 0, .int .u64 0, .int .u32 0, .int .u32 0] 40)).alloc (.cells #[.int .u8 0, .int .u8 1, .int .u8 8, .int .u8 0, .int .u8 6, .int .u8 4] 5)).drew).alloc (.cells #[.slice (some (a.add 6)) (n - 6) (c - 6), .bool false] 63)
  have hrd : Rd 63 false (((w.alloc (.cells #[.int .i64 0, .int .u64 0, .int .u64 0, .int .u32 0, .int .u32 0] 40)).alloc (.cells #[.int .u8 0, .int .u8 1, .int .u8 8, .int .u8 0, .int .u8 6, .int .u8 4] 5)).drew.alloc (.cells #[.slice (some (a.add 6)) (n - 6) (c - 6), .bool false] 63)) (w.heap.size + 2) (fun k => S k ∧ k < w.heap.size) (some (b.drop 6)) :=
    ⟨fun h => by have := h.2; omega, some (a.add 6), n - 6, c - 6, false, b.drop 6, by simpa using heap_alloc_new (((w.alloc (.cells #[.int .i64 0, .int .u64 0, .int .u64 0, .int .u32 0, .int .u32 0] 40)).alloc (.cells #[.int .u8 0, .int .u8 1, .int .u8 8, .int .u8 0, .int .u8 6, .int .u8 4] 5)).drew) (.cells #[.slice (some (a.add 6)) (n - 6) (c - 6), .bool false] 63), by omega, by omega, by rw [List.length_drop, hn], (((hd6.alloc _).alloc _).drew).alloc _, rfl, rfl⟩
  have HV : Hid (arpV b = .agg #[.int .i64 (nAt b 6 2), .int .u64 (nAt b 8 6), .int .u64 (nAt b 18 6), .int .u32 (nAt b 14 4), .int .u32 (nAt b 24 4)]) := rfl
  have hHead := Lib.hid (head_iff b (by omega))
  have hC2 := Lib.hid ((((Chg.refl (fun _ => False) w).alloc (.cells #[.int .i64 0, .int .u64 0, .int .u64 0, .int .u32 0, .int .u32 0] 40)).alloc (.cells #[.int .u8 0, .int .u8 1, .int .u8 8, .int .u8 0, .int .u8 6, .int .u8 4] 5)))
  have hRR := Lib.hid (hR0.alloc (.cells #[.int .u8 0, .int .u8 1, .int .u8 8, .int .u8 0, .int .u8 6, .int .u8 4] 5))
  have g1 := nAt_nonneg b 8 6
  have g1' : nAt b 8 6 ≤ 281474976710655 := (aS_lt b).2
  have g2 := nAt_nonneg b 14 4
  have g2' : nAt b 14 4 ≤ 4294967295 := (aP_lt b).2
  have g3 := nAt_nonneg b 18 6
  have g3' : nAt b 18 6 ≤ 281474976710655 := (aT_lt b).2
  have g4 := nAt_nonneg b 24 4
  have g4' : nAt b 24 4 ≤ 4294967295 := (aQ_lt b).2
  have HN := Lib.hid hn
  have HG := Lib.hid (rget_step (w.heap.size + 2) _ b 6 2 _ hrd (by decide) (by decide) (by omega))
  have HR := Lib.hid hR
  have HC := Lib.hid hC
  have HLEN := Lib.hid hlen
  clear hn hrd hR hC hlen hd6 hR0 h h6 hcm
  by_cases hh : (b.take 6 == head6) = true
  case neg =>
    have t1 : (b.take 6 == head6) = false := by simpa using hh
    have HE : Hid (headB b = false) := by unfold Hid; rw [hHead.out]; exact t1
    obtain ⟨x0, x1, x2, x3, x4⟩ := arp_cells hRR.out
    obtain ⟨u0, u1, u2, u3, u4⟩ := arp_free hRR.out
    clear HG HR HC
    go_enter Try.func17, Try.ntmps17
    go_wp2_with fail
    go_region
    go_wp2_with fail
    exact bodyPost_ret (v := .tuple #[zeroA, .int .i64 2]) (by simp [results, Try.results17, go_sem, zeroA]) rfl ⟨by rw [decV_no HE.out], hC2.out.drew⟩
  have HE : Hid (headB b = true) := by unfold Hid; rw [hHead.out]; exact hh
  clear hRR hC2
  go_enter Try.func17, Try.ntmps17
  go_wp2_with fail
  go_region
  go_wp2_with fail
  refine HG.out.mono ?_
  rintro e w6 ⟨rfl, hrd, hc'⟩
  have hC := fresh_set HC.out hc' (by omega)
  have hR := HR.out.chg hc' (by omega)
  have hlen := HLEN.out
  clear HG HR HC HLEN hc' k1 k2 k3
  have hA : Blk (w6.alloc (.cells #[.int .i64 (nAt b 6 2), .int .u64 0, .int .u64 0, .int .u32 0, .int .u32 0] 40)) w6.heap.size 40 (arpC (nAt b 6 2) 0 0 0 0) := blk_new rfl
  have hpq := hrd.lt
  have hz6 : w.heap.size < w6.heap.size := by omega
  have hR := hR.alloc (.cells #[.int .i64 (nAt b 6 2), .int .u64 0, .int .u64 0, .int .u32 0, .int .u32 0] 40)
  have hC := hC.alloc (.cells #[.int .i64 (nAt b 6 2), .int .u64 0, .int .u64 0, .int .u32 0, .int .u32 0] 40)
  have hrd := hrd.chg ((Chg.refl (fun _ => False) w6).alloc (.cells #[.int .i64 (nAt b 6 2), .int .u64 0, .int .u64 0, .int .u32 0, .int .u32 0] 40)) id (fun _ _ => id)
  have HG := Lib.hid (rget_step (w.heap.size + 2) _ b 8 6 _ hrd (by decide) (by decide) (by omega))
  have HR := Lib.hid hR
  have HA := Lib.hid hA
  have HC := Lib.hid hC
  have HLEN := Lib.hid hlen
  clear hrd hR hC hlen hA
  go_wp2_with fail
  refine HG.out.mono ?_
  rintro e w7 ⟨rfl, hrd, hc'⟩
  have hC := fresh_set HC.out hc' (by omega)
  have hR := HR.out.chg hc' (by omega)
  have hlen := HLEN.out
  have hA := HA.out.chg hc' (by omega)
  clear HG HR HC HLEN HA hc'
  obtain ⟨y0, y1, y2, y3, y4⟩ := arp_cells hA
  obtain ⟨f0, f1, f2, f3, f4⟩ := arp_free hA
  have hcs := (Chg.refl (fun k => k = w6.heap.size) w7).put w6.heap.size 1 (fun _ => rfl) (.int .u64 (nAt b 8 6))
  have hC := fresh_set hC hcs (by omega)
  have hR := hR.chg hcs (by omega)
  have hA := hA.set 1 (.int .u64 (nAt b 8 6))
  have hrd := hrd.chg hcs (by omega) (fun k hk => by have := hk.2; omega)
  simp only [arpC, List.setIfInBounds_toArray, List.set_cons_succ, List.set_cons_zero] at hA
  have hA : Blk _ _ 40 (arpC (nAt b 6 2) (nAt b 8 6) 0 0 0) := hA
  clear hcs
  have HG := Lib.hid (rget_step (w.heap.size + 2) _ b 14 4 _ hrd (by decide) (by decide) (by omega))
  have HR := Lib.hid hR
  have HA := Lib.hid hA
  have HC := Lib.hid hC
  have HLEN := Lib.hid hlen
  clear hrd hR hC hlen hA
  go_wp2_with fail
  clear y0 y1 y2 y3 y4 f0 f1 f2 f3 f4
  refine HG.out.mono ?_
  rintro e w8 ⟨rfl, hrd, hc'⟩
  have hC := fresh_set HC.out hc' (by omega)
  have hR := HR.out.chg hc' (by omega)
  have hlen := HLEN.out
  have hA := HA.out.chg hc' (by omega)
  clear HG HR HC HLEN HA hc'
  obtain ⟨y0, y1, y2, y3, y4⟩ := arp_cells hA
  obtain ⟨f0, f1, f2, f3, f4⟩ := arp_free hA
  have hcs := (Chg.refl (fun k => k = w6.heap.size) w8).put w6.heap.size 3 (fun _ => rfl) (.int .u32 (nAt b 14 4))
  have hC := fresh_set hC hcs (by omega)
  have hR := hR.chg hcs (by omega)
  have hA := hA.set 3 (.int .u32 (nAt b 14 4))
  have hrd := hrd.chg hcs (by omega) (fun k hk => by have := hk.2; omega)
  simp only [arpC, List.setIfInBounds_toArray, List.set_cons_succ, List.set_cons_zero] at hA
  have hA : Blk _ _ 40 (arpC (nAt b 6 2) (nAt b 8 6) 0 (nAt b 14 4) 0) := hA
  clear hcs
  have HG := Lib.hid (rget_step (w.heap.size + 2) _ b 18 6 _ hrd (by decide) (by decide) (by omega))
  have HR := Lib.hid hR
  have HA := Lib.hid hA
  have HC := Lib.hid hC
  have HLEN := Lib.hid hlen
  clear hrd hR hC hlen hA
  go_wp2_with fail
  clear y0 y1 y2 y3 y4 f0 f1 f2 f3 f4
  refine HG.out.mono ?_
  rintro e w9 ⟨rfl, hrd, hc'⟩
  have hC := fresh_set HC.out hc' (by omega)
  have hR := HR.out.chg hc' (by omega)
  have hlen := HLEN.out
  have hA := HA.out.chg hc' (by omega)
  clear HG HR HC HLEN HA hc'
  obtain ⟨y0, y1, y2, y3, y4⟩ := arp_cells hA
  obtain ⟨f0, f1, f2, f3, f4⟩ := arp_free hA
  have hcs := (Chg.refl (fun k => k = w6.heap.size) w9).put w6.heap.size 2 (fun _ => rfl) (.int .u64 (nAt b 18 6))
  have hC := fresh_set hC hcs (by omega)
  have hR := hR.chg hcs (by omega)
  have hA := hA.set 2 (.int .u64 (nAt b 18 6))
  have hrd := hrd.chg hcs (by omega) (fun k hk => by have := hk.2; omega)
  simp only [arpC, List.setIfInBounds_toArray, List.set_cons_succ, List.set_cons_zero] at hA
  have hA : Blk _ _ 40 (arpC (nAt b 6 2) (nAt b 8 6) (nAt b 18 6) (nAt b 14 4) 0) := hA
  clear hcs
  have HG := Lib.hid (rget_step (w.heap.size + 2) _ b 24 4 _ hrd (by decide) (by decide) (by omega))
  have HR := Lib.hid hR
  have HA := Lib.hid hA
  have HC := Lib.hid hC
  have HLEN := Lib.hid hlen
  clear hrd hR hC hlen hA
  go_wp2_with fail
  clear y0 y1 y2 y3 y4 f0 f1 f2 f3 f4
  refine HG.out.mono ?_
  rintro e w10 ⟨rfl, hrd, hc'⟩
  have hC := fresh_set HC.out hc' (by omega)
  have hR := HR.out.chg hc' (by omega)
  have hlen := HLEN.out
  have hA := HA.out.chg hc' (by omega)
  clear HG HR HC HLEN HA hc'
  obtain ⟨y0, y1, y2, y3, y4⟩ := arp_cells hA
  obtain ⟨f0, f1, f2, f3, f4⟩ := arp_free hA
  have hcs := (Chg.refl (fun k => k = w6.heap.size) w10).put w6.heap.size 4 (fun _ => rfl) (.int .u32 (nAt b 24 4))
  have hC := fresh_set hC hcs (by omega)
  have hR := hR.chg hcs (by omega)
  have hA := hA.set 4 (.int .u32 (nAt b 24 4))
  have hrd := hrd.chg hcs (by omega) (fun k hk => by have := hk.2; omega)
  simp only [arpC, List.setIfInBounds_toArray, List.set_cons_succ, List.set_cons_zero] at hA
  have hA : Blk _ _ 40 (arpC (nAt b 6 2) (nAt b 8 6) (nAt b 18 6) (nAt b 14 4) (nAt b 24 4)) := hA
  clear hcs
  obtain ⟨z0, z1, z2, z3, z4⟩ := arp_cells hA
  obtain ⟨x0, x1, x2, x3, x4⟩ := arp_cells hR
  obtain ⟨u0, u1, u2, u3, u4⟩ := arp_free hR
  obtain ⟨r0, r1, r2, r3, r4, hR', hcs⟩ := arp_put hR (nAt b 6 2) (nAt b 8 6) (nAt b 18 6) (nAt b 14 4) (nAt b 24 4)
  have HF := Lib.hid (fresh_set hC hcs (Nat.le_refl _))
  have RR := Lib.hid (And.intro r0 (And.intro r1 (And.intro r2 (And.intro r3 r4))))
  clear r0 r1 r2 r3 r4 hR' hcs hR hC hrd hlen hA
  go_wp2_with fail
  obtain ⟨r0, r1, r2, r3, r4⟩ := RR.out
  exact bodyPost_ret (v := .tuple #[.agg #[.int .i64 (nAt b 6 2), .int .u64 (nAt b 8 6), .int .u64 (nAt b 18 6), .int .u32 (nAt b 14 4), .int .u32 (nAt b 24 4)], .int .i64 0]) (by simp [results, Try.results17, go_sem, r0, r1, r2, r3, r4]) rfl ⟨by rw [decV_yes HE.out, HV.out], HF.out⟩

end Go.Proofs.Ytlaekkoegomfjaa
