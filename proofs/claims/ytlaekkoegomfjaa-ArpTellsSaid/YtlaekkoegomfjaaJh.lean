/-
  Walks: rutterref03.Bytes, RARP, Announces. Conditions: the arp may be; the frame's load is read in memory, no more of it than there is room.
-/
import Derived.Test.YtlaekkoegomfjaaJf
import Derived.Test.YtlaekkoegomfjaaJg
import Derived.Test.YtlaekkoegomfjaaJe
import Derived.Test.YtlaekkoegomfjaaVa
namespace Go.Proofs.Ytlaekkoegomfjaa
open Go.RowKit
set_option linter.unusedVariables false

set_option maxHeartbeats 2000000 in
theorem rbytes3_any (op sha tha spa tpa : Int) (w : World) (ho : 0 ≤ op) (ho2 : op ≤ 65535) (hs : 0 ≤ sha) (hs2 : sha ≤ 281474976710655) (ht : 0 ≤ tha) (ht2 : tha ≤ 281474976710655) (hp : 0 ≤ spa) (hp2 : spa ≤ 4294967295) (hq : 0 ≤ tpa) (hq2 : tpa ≤ 4294967295) :
    Calls Try.prog 16 #[.agg (arpC op sha tha spa tpa)] w fun e w' => ∃ A c, e = .returned (.slice A 28 c) ∧ w'.ownsRow w.heap.size 5 1 (.slice A 28 c) 28 (bcs (arpB op sha tha spa tpa)) ∧ Chg (fun _ => False) w w' := by
  obtain ⟨i0, hi0, hz0, hz1, hz2⟩ := info_parts infoByte
  unfold arpC
  have hb0 : Blk (w.alloc (.cells #[.int .i64 op, .int .u64 sha, .int .u64 tha, .int .u32 spa, .int .u32 tpa] 40)) w.heap.size 40 (arpC op sha tha spa tpa) := blk_new rfl
  have hC := ((Chg.refl (fun _ => False) w).alloc (.cells #[.int .i64 op, .int .u64 sha, .int .u64 tha, .int .u32 spa, .int .u32 tpa] 40)).alloc (.cells #[.int .u8 0, .int .u8 1, .int .u8 8, .int .u8 0, .int .u8 6, .int .u8 4] 5)
  have hCb := (Chg.refl (fun _ => False) (w.alloc (.cells #[.int .i64 op, .int .u64 sha, .int .u64 tha, .int .u32 spa, .int .u32 tpa] 40))).alloc (.cells #[.int .u8 0, .int .u8 1, .int .u8 8, .int .u8 0, .int .u8 6, .int .u8 4] 5)
  have hown : ((w.alloc (.cells #[.int .i64 op, .int .u64 sha, .int .u64 tha, .int .u32 spa, .int .u32 tpa] 40)).alloc (.cells #[.int .u8 0, .int .u8 1, .int .u8 8, .int .u8 0, .int .u8 6, .int .u8 4] 5)).ownsRow (w.heap.size + 1) 5 1 (.slice (some ⟨w.heap.size + 1, 0, none⟩) 6 6) 6 (bcs head6) :=
    ⟨rfl, .inr ⟨w.heap.size + 1, 6, #[.int .u8 0, .int .u8 1, .int .u8 8, .int .u8 0, .int .u8 6, .int .u8 4], rfl, Nat.le_refl _, by simpa using heap_alloc_new (w.alloc (.cells #[.int .i64 op, .int .u64 sha, .int .u64 tha, .int .u32 spa, .int .u32 tpa] 40)) (.cells #[.int .u8 0, .int .u8 1, .int .u8 8, .int .u8 0, .int .u8 6, .int .u8 4] 5), by decide, by decide, rfl, rfl⟩⟩
  have hz : (w.alloc (.cells #[.int .i64 op, .int .u64 sha, .int .u64 tha, .int .u32 spa, .int .u32 tpa] 40)).heap.size = w.heap.size + 1 := by simp
  have HB := Lib.hid hb0
  obtain ⟨y0, y1, y2, y3, y4⟩ := arp_kept hb0 hCb
  have HC := Lib.hid hC
  have HCb := Lib.hid hCb
  have HO := Lib.hid hown
  clear hb0 hC hCb hown
  go_enter Try.func16, Try.ntmps16
  go_wp2_with fail
  refine (one_any 2 op _ (by decide) (by decide) (by omega)).mono ?_
  rintro e v0 ⟨A0, k0, c0, rfl, rfl, hown0, hc0⟩
  have hC := HC.out.trans hc0 (fun _ _ e => e)
  have hCb := HCb.out.trans hc0 (fun _ _ e => e)
  have hown := own_chg HO.out hc0 (fun _ _ => id)
  have hsz := hCb.size
  rw [hz] at hsz
  have hr := own_rds2 hown0
  clear hc0 hown0 HC HCb HO
  clear y0 y1 y2 y3 y4
  go_wp2_with (at_builtin; refine wpList_own_append _ rfl (.tmp 5) (.tmp 8) 26 rfl _ 5 i0 (.int .u8 0) 1 Try.underlying26 hi0 hz0 hz1 hz2 rfl (.slice (some ⟨w.heap.size + 1, 0, none⟩) 6 6) 6 _ rfl hown _ A0 2 c0 _ rfl hr (bcs_one _) (by decide) (by decide) hsz ?_; intro vv u0 hown' hg hat; obtain ⟨D0, dc0, rfl, _, _⟩ := own_form hown'; have hC' := grown_fresh hC hg hown (Nat.le_succ _); have hCb' := grown_fresh hCb hg hown (by rw [hz]; exact Nat.le_refl _); have HO := Lib.hid hown'; have HC := Lib.hid hC'; have HCb := Lib.hid hCb'; obtain ⟨y0, y1, y2, y3, y4⟩ := arp_kept HB.out hCb'; clear hown' hC' hCb' hg hat hown hr hC hCb hsz)
  refine (one_any 6 sha _ (by decide) (by decide) (by omega)).mono ?_
  rintro e v1 ⟨A1, k1, c1, rfl, rfl, hown1, hc1⟩
  have hC := HC.out.trans hc1 (fun _ _ e => e)
  have hCb := HCb.out.trans hc1 (fun _ _ e => e)
  have hown := own_chg HO.out hc1 (fun _ _ => id)
  have hsz := hCb.size
  rw [hz] at hsz
  have hr := own_rds2 hown1
  clear hc1 hown1 HC HCb HO
  clear y0 y1 y2 y3 y4
  go_wp2_with (at_builtin; refine wpList_own_append _ rfl (.tmp 10) (.tmp 14) 26 rfl _ 5 i0 (.int .u8 0) 1 Try.underlying26 hi0 hz0 hz1 hz2 rfl (.slice D0 8 dc0) 8 _ rfl hown _ A1 6 c1 _ rfl hr (bcs_one _) (by decide) (by decide) hsz ?_; intro vv u1 hown' hg hat; obtain ⟨D1, dc1, rfl, _, _⟩ := own_form hown'; have hC' := grown_fresh hC hg hown (Nat.le_succ _); have hCb' := grown_fresh hCb hg hown (by rw [hz]; exact Nat.le_refl _); have HO := Lib.hid hown'; have HC := Lib.hid hC'; have HCb := Lib.hid hCb'; obtain ⟨y0, y1, y2, y3, y4⟩ := arp_kept HB.out hCb'; clear hown' hC' hCb' hg hat hown hr hC hCb hsz)
  refine (one_any 4 spa _ (by decide) (by decide) (by omega)).mono ?_
  rintro e v2 ⟨A2, k2, c2, rfl, rfl, hown2, hc2⟩
  have hC := HC.out.trans hc2 (fun _ _ e => e)
  have hCb := HCb.out.trans hc2 (fun _ _ e => e)
  have hown := own_chg HO.out hc2 (fun _ _ => id)
  have hsz := hCb.size
  rw [hz] at hsz
  have hr := own_rds2 hown2
  clear hc2 hown2 HC HCb HO
  clear y0 y1 y2 y3 y4
  go_wp2_with (at_builtin; refine wpList_own_append _ rfl (.tmp 16) (.tmp 20) 26 rfl _ 5 i0 (.int .u8 0) 1 Try.underlying26 hi0 hz0 hz1 hz2 rfl (.slice D1 14 dc1) 14 _ rfl hown _ A2 4 c2 _ rfl hr (bcs_one _) (by decide) (by decide) hsz ?_; intro vv u2 hown' hg hat; obtain ⟨D2, dc2, rfl, _, _⟩ := own_form hown'; have hC' := grown_fresh hC hg hown (Nat.le_succ _); have hCb' := grown_fresh hCb hg hown (by rw [hz]; exact Nat.le_refl _); have HO := Lib.hid hown'; have HC := Lib.hid hC'; have HCb := Lib.hid hCb'; obtain ⟨y0, y1, y2, y3, y4⟩ := arp_kept HB.out hCb'; clear hown' hC' hCb' hg hat hown hr hC hCb hsz)
  refine (one_any 6 tha _ (by decide) (by decide) (by omega)).mono ?_
  rintro e v3 ⟨A3, k3, c3, rfl, rfl, hown3, hc3⟩
  have hC := HC.out.trans hc3 (fun _ _ e => e)
  have hCb := HCb.out.trans hc3 (fun _ _ e => e)
  have hown := own_chg HO.out hc3 (fun _ _ => id)
  have hsz := hCb.size
  rw [hz] at hsz
  have hr := own_rds2 hown3
  clear hc3 hown3 HC HCb HO
  clear y0 y1 y2 y3 y4
  go_wp2_with (at_builtin; refine wpList_own_append _ rfl (.tmp 22) (.tmp 26) 26 rfl _ 5 i0 (.int .u8 0) 1 Try.underlying26 hi0 hz0 hz1 hz2 rfl (.slice D2 18 dc2) 18 _ rfl hown _ A3 6 c3 _ rfl hr (bcs_one _) (by decide) (by decide) hsz ?_; intro vv u3 hown' hg hat; obtain ⟨D3, dc3, rfl, _, _⟩ := own_form hown'; have hC' := grown_fresh hC hg hown (Nat.le_succ _); have hCb' := grown_fresh hCb hg hown (by rw [hz]; exact Nat.le_refl _); have HO := Lib.hid hown'; have HC := Lib.hid hC'; have HCb := Lib.hid hCb'; obtain ⟨y0, y1, y2, y3, y4⟩ := arp_kept HB.out hCb'; clear hown' hC' hCb' hg hat hown hr hC hCb hsz)
  refine (one_any 4 tpa _ (by decide) (by decide) (by omega)).mono ?_
  rintro e v4 ⟨A4, k4, c4, rfl, rfl, hown4, hc4⟩
  have hC := HC.out.trans hc4 (fun _ _ e => e)
  have hCb := HCb.out.trans hc4 (fun _ _ e => e)
  have hown := own_chg HO.out hc4 (fun _ _ => id)
  have hsz := hCb.size
  rw [hz] at hsz
  have hr := own_rds2 hown4
  clear hc4 hown4 HC HCb HO
  clear y0 y1 y2 y3 y4
  go_wp2_with (at_builtin; refine wpList_own_append _ rfl (.tmp 28) (.tmp 32) 26 rfl _ 5 i0 (.int .u8 0) 1 Try.underlying26 hi0 hz0 hz1 hz2 rfl (.slice D3 24 dc3) 24 _ rfl hown _ A4 4 c4 _ rfl hr (bcs_one _) (by decide) (by decide) hsz ?_; intro vv u4 hown' hg hat; obtain ⟨D4, dc4, rfl, _, _⟩ := own_form hown'; have hC' := grown_fresh hC hg hown (Nat.le_succ _); have hCb' := grown_fresh hCb hg hown (by rw [hz]; exact Nat.le_refl _); have HO := Lib.hid hown'; have HC := Lib.hid hC'; have HCb := Lib.hid hCb'; obtain ⟨y0, y1, y2, y3, y4⟩ := arp_kept HB.out hCb'; clear hown' hC' hCb' hg hat hown hr hC hCb hsz)
  go_ret
  refine ⟨D4, dc4, rfl, ?_, HC.out⟩
  have e : bcs (arpB op sha tha spa tpa) = bcs head6 ++ bcs (be 2 op.toNat) ++ bcs (be 6 sha.toNat) ++ bcs (be 4 spa.toNat) ++ bcs (be 6 tha.toNat) ++ bcs (be 4 tpa.toNat) := by
    unfold arpB
    simp only [bcs_app, List.append_assoc]
  rw [e]
  exact own_base HO.out (Nat.le_succ _)

set_option maxHeartbeats 1000000 in
theorem rrarp_no (mac : Int) (w : World) (hm : 281474976710655 < mac) (hm2 : mac ≤ 18446744073709551615) :
    Calls Try.prog 10 #[.int .u64 mac] w fun e w' => e = .returned (.tuple #[zeroF, .int .i64 1]) ∧ Chg (fun _ => False) w w' := by
  have hE := fun W => rright3_any 3 mac mac 0 0 W (by omega) (by omega)
  rw [show arpR 3 mac mac = false by unfold arpR; simp; omega] at hE
  have HE := Lib.hid hE
  have hR0 : Blk (w.alloc (.cells #[.int .u64 0, .int .u64 0, .int .i64 0, .slice none 0 0] 28)) w.heap.size 28 _ := Blk.new _ _ _
  have hR1 := hR0.alloc (.cells #[.int .i64 3, .int .u64 mac, .int .u64 mac, .int .u32 0, .int .u32 0] 40)
  have hC0 := ((Chg.refl (fun _ => False) w).alloc (.cells #[.int .u64 0, .int .u64 0, .int .i64 0, .slice none 0 0] 28)).alloc (.cells #[.int .i64 3, .int .u64 mac, .int .u64 mac, .int .u32 0, .int .u32 0] 40)
  have hA0 : Blk ((w.alloc (.cells #[.int .u64 0, .int .u64 0, .int .i64 0, .slice none 0 0] 28)).alloc (.cells #[.int .i64 3, .int .u64 mac, .int .u64 mac, .int .u32 0, .int .u32 0] 40)) (w.heap.size + 1) 40 (arpC 3 mac mac 0 0) := blk_new (by simp)
  have HR0 := Lib.hid hR1
  have HC0 := Lib.hid hC0
  obtain ⟨a0, a1, a2, a3, a4⟩ := arp_cells hA0
  clear hE hR0 hR1 hC0 hA0
  go_enter Try.func10, Try.ntmps10
  go_wp2_with fail
  refine (HE.out _).mono ?_
  rintro e w1 ⟨rfl, hc1⟩
  have hC := HC0.out.trans hc1 (fun _ _ e => e)
  have hR := HR0.out.chg hc1 id
  obtain ⟨⟨x0, x1, x2, x3⟩, u0, u1, u2, u3⟩ := fr_cells hR
  obtain ⟨r0, r1, r2, r3, _, hcs⟩ := fr_put hR 0 0 0 (.slice none 0 0)
  have HF := Lib.hid (fresh_set hC hcs (Nat.le_refl _))
  have RR := Lib.hid (And.intro r0 (And.intro r1 (And.intro r2 r3)))
  clear r0 r1 r2 r3 hcs hC hR hc1 HE HR0 HC0 a0 a1 a2 a3 a4
  go_wp2_with fail
  obtain ⟨r0, r1, r2, r3⟩ := RR.out
  exact bodyPost_ret (v := .tuple #[zeroF, .int .i64 1]) (by simp [results, Try.results10, go_sem, zeroF, r0, r1, r2, r3]) rfl ⟨rfl, HF.out⟩

set_option maxHeartbeats 1000000 in
theorem rrarp_yes (mac : Int) (w : World) (h0 : 0 ≤ mac) (hm : mac ≤ 281474976710655) :
    Calls Try.prog 10 #[.int .u64 mac] w (Rarped mac w) := by
  have hE := fun W => rright3_any 3 mac mac 0 0 W (by omega) (by omega)
  rw [show arpR 3 mac mac = true by unfold arpR; simp; omega] at hE
  have hB := fun W => rbytes3_any 3 mac mac 0 0 W (by omega) (by omega) h0 hm h0 hm (by omega) (by omega) (by omega) (by omega)
  have HE := Lib.hid hE
  have HBY := Lib.hid hB
  have hR0 : Blk (w.alloc (.cells #[.int .u64 0, .int .u64 0, .int .i64 0, .slice none 0 0] 28)) w.heap.size 28 _ := Blk.new _ _ _
  have hR1 := hR0.alloc (.cells #[.int .i64 3, .int .u64 mac, .int .u64 mac, .int .u32 0, .int .u32 0] 40)
  have hC0 := ((Chg.refl (fun _ => False) w).alloc (.cells #[.int .u64 0, .int .u64 0, .int .i64 0, .slice none 0 0] 28)).alloc (.cells #[.int .i64 3, .int .u64 mac, .int .u64 mac, .int .u32 0, .int .u32 0] 40)
  have hA0 : Blk ((w.alloc (.cells #[.int .u64 0, .int .u64 0, .int .i64 0, .slice none 0 0] 28)).alloc (.cells #[.int .i64 3, .int .u64 mac, .int .u64 mac, .int .u32 0, .int .u32 0] 40)) (w.heap.size + 1) 40 (arpC 3 mac mac 0 0) := blk_new (by simp)
  have HR0 := Lib.hid hR1
  have HC0 := Lib.hid hC0
  have HA0 := Lib.hid hA0
  have HZ : Hid (((w.alloc (.cells #[.int .u64 0, .int .u64 0, .int .i64 0, .slice none 0 0] 28)).alloc (.cells #[.int .i64 3, .int .u64 mac, .int .u64 mac, .int .u32 0, .int .u32 0] 40)).heap.size = w.heap.size + 2) := by unfold Hid; simp
  obtain ⟨a0, a1, a2, a3, a4⟩ := arp_cells hA0
  clear hE hB hR0 hR1 hC0 hA0
  go_enter Try.func10, Try.ntmps10
  go_wp2_with fail
  refine (HE.out _).mono ?_
  rintro e w1 ⟨rfl, hc1⟩
  clear a0 a1 a2 a3 a4
  obtain ⟨a0, a1, a2, a3, a4⟩ := arp_kept HA0.out hc1
  have HC1 := Lib.hid hc1
  clear hc1
  go_wp2_with fail
  refine (HBY.out _).mono ?_
  rintro e w2 ⟨A, c, rfl, hown, hc2⟩
  have hc1 := HC1.out
  have hC := (HC0.out.trans hc1 (fun _ _ e => e)).trans hc2 (fun _ _ e => e)
  have hR := (HR0.out.chg hc1 id).chg hc2 id
  have hz := HZ.out
  have hz1 := hc1.size
  obtain ⟨⟨x0, x1, x2, x3⟩, u0, u1, u2, u3⟩ := fr_cells hR
  obtain ⟨r0, r1, r2, r3, _, hcs⟩ := fr_put hR 281474976710655 mac 32821 (.slice A 28 c)
  have hown2 := own_base (own_chg hown hcs (fun k hk e => by have := (hown.lt k (by rw [own_block]; exact hk)).1; omega)) (b' := w.heap.size) (by omega)
  have HF := Lib.hid (And.intro hown2 (fresh_set hC hcs (Nat.le_refl _)))
  have RR := Lib.hid (And.intro r0 (And.intro r1 (And.intro r2 r3)))
  clear r0 r1 r2 r3 hcs hC hR hc1 hc2 HE HR0 HC0 hown hown2 hz HZ hz1 HBY a0 a1 a2 a3 a4 HA0 HC1
  go_wp2_with fail
  obtain ⟨r0, r1, r2, r3⟩ := RR.out
  exact bodyPost_ret (v := .tuple #[.agg #[.int .u64 281474976710655, .int .u64 mac, .int .i64 32821, .slice A 28 c], .int .i64 0]) (by simp [results, Try.results10, go_sem, r0, r1, r2, r3]) rfl ⟨A, c, rfl, HF.out.1, HF.out.2⟩

theorem rparse_any (A : Option Addr) (n c : Nat) (b : List UInt8) (S : Nat → Prop) (w : World) (hn : n = b.length) (h : Rds w S A n (bcs b)) (hc : n ≤ c) (hcm : c ≤ maxLen) :
    Calls Try.prog 17 #[.slice A n c] w fun e w' => e = .returned (decR b) ∧ Chg (fun _ => False) w w' := by
  by_cases h28 : n < 28
  · rw [decR_short (by omega)]
    exact rparse_short A n c w h28
  · rw [decR_long (by omega)]
    exact rparse_long A n c b S w hn h (by omega) hc hcm

theorem right_hold (d s t : Int) (A : Option Addr) (n c : Nat) (hd : 0 ≤ d) (hs : 0 ≤ s) (hn : n ≤ 9223372036854775807) : ∀ w : World,
    Calls Try.prog 20 #[.agg #[.int .u64 d, .int .u64 s, .int .i64 t, .slice A n c]] w fun e w' => e = .returned (.bool (rightB d s t n)) ∧ Chg (fun _ => False) w w' := fun w => rright_any d s t A n c w hd hs hn

set_option maxHeartbeats 1000000 in
theorem rann_none (d s t : Int) (A : Option Addr) (n c : Nat) (l : List UInt8) (S : Nat → Prop) (w : World) (hn : n = l.length) (h : Rds w S A n (bcs l)) (hc : n ≤ c) (hcm : c ≤ maxLen) (hd : 0 ≤ d) (hs : 0 ≤ s) (ho : (rightB d s t n && okA l) = false) :
    Calls Try.prog 8 #[.agg #[.int .u64 d, .int .u64 s, .int .i64 t, .slice A n c]] w fun e w' => e = .returned (annV d s t n l) ∧ Chg (fun _ => False) w w' := by
  have HV := Lib.hid (annV_no (d := d) (s := s) (t := t) (n := n) (l := l) (by rw [← Bool.and_assoc, ho]; rfl))
  have hn2 : n ≤ 9223372036854775807 := by unfold maxLen at hcm; omega
  have hb0 : Blk (w.alloc (.cells #[.int .u64 d, .int .u64 s, .int .i64 t, .slice A n c] 28)) w.heap.size _ _ := Blk.new _ _ _
  have hC0 := (Chg.refl (fun _ => False) w).alloc (.cells #[.int .u64 d, .int .u64 s, .int .i64 t, .slice A n c] 28)
  have h0 := h.alloc (.cells #[.int .u64 d, .int .u64 s, .int .i64 t, .slice A n c] 28)
  have HB0 := Lib.hid hb0
  have HC0 := Lib.hid hC0
  have H0 := Lib.hid h0
  have HN := Lib.hid hn
  have HRT := Lib.hid (right_hold d s t A n c hd hs hn2)
  generalize annV d s t n l = V at *
  generalize hr : rightB d s t n = r at *
  generalize hk : okA l = k at *
  have HK := Lib.hid hk
  clear hb0 hC0 h0 h hn hr hk
  go_enter Try.func8, Try.ntmps8
  go_wp2_with fail
  refine (HRT.out _).mono ?_
  rintro e w1 ⟨rfl, hc1⟩
  obtain ⟨x0, x1, x2, x3⟩ := frame_kept HB0.out hc1
  have HD := Lib.hid (rparse_any A n c l _ w1 HN.out (H0.out.chg hc1 (fun _ _ => id)) hc hcm)
  go_wp2_with fail
  refine HD.out.mono ?_
  rintro e w2 ⟨rfl, hc2⟩
  have hC := Lib.hid ((HC0.out.trans hc1 (fun _ _ e => e)).trans hc2 (fun _ _ e => e))
  clear hc1 hc2 x0 x1 x2 x3 HD HRT HB0 HC0 H0 HN
  cases r with
  | false =>
    cases k with
    | false =>
      rw [decR_no HK.out]
      unfold zeroA
      go_wp2_with fail
      go_ret2
      exact ⟨by rw [HV.out]; rfl, hC.out.alloc _⟩
    | true =>
      rw [decR_yes HK.out]
      unfold arpV
      go_wp2_with fail
      go_ret2
      exact ⟨by rw [HV.out]; rfl, hC.out.alloc _⟩
  | true =>
    have hk : k = false := by simpa using ho
    subst hk
    rw [decR_no HK.out]
    unfold zeroA
    go_wp2_with fail
    go_ret2
    exact ⟨by rw [HV.out]; rfl, hC.out.alloc _⟩

set_option maxHeartbeats 2000000 in
theorem rann_some (d s t : Int) (A : Option Addr) (n c : Nat) (l : List UInt8) (S : Nat → Prop) (w : World) (hn : n = l.length) (h : Rds w S A n (bcs l)) (hc : n ≤ c) (hcm : c ≤ maxLen) (hd : 0 ≤ d) (hs : 0 ≤ s) (hr : rightB d s t n = true) (ho : okA l = true) :
    Calls Try.prog 8 #[.agg #[.int .u64 d, .int .u64 s, .int .i64 t, .slice A n c]] w fun e w' => e = .returned (annV d s t n l) ∧ Chg (fun _ => False) w w' := by
  have hn2 : n ≤ 9223372036854775807 := by unfold maxLen at hcm; omega
  have hb0 : Blk (w.alloc (.cells #[.int .u64 d, .int .u64 s, .int .i64 t, .slice A n c] 28)) w.heap.size _ _ := Blk.new _ _ _
  have hC0 := (Chg.refl (fun _ => False) w).alloc (.cells #[.int .u64 d, .int .u64 s, .int .i64 t, .slice A n c] 28)
  have h0 := h.alloc (.cells #[.int .u64 d, .int .u64 s, .int .i64 t, .slice A n c] 28)
  have HB0 := Lib.hid hb0
  have HC0 := Lib.hid hC0
  have H0 := Lib.hid h0
  have HN := Lib.hid hn
  have HRT := Lib.hid (right_hold d s t A n c hd hs hn2)
  rw [hr] at HRT
  have HV0 : Hid (saysB t (aO l) (aP l) (aQ l) = false → annV d s t n l = .tuple #[.int .u64 0, .bool false]) := fun hf => annV_no (by rw [hf]; simp)
  have HV1 : Hid (saysB t (aO l) (aP l) (aQ l) = true → annV d s t n l = .tuple #[.int .u64 (aS l), .bool true]) := fun hf => annV_yes (by rw [hf, hr, ho]; rfl)
  have HAV : Hid (decR l = .tuple #[.agg #[.int .i64 (aO l), .int .u64 (aS l), .int .u64 (aT l), .int .u32 (aP l), .int .u32 (aQ l)], .int .i64 0]) := decR_yes ho
  generalize annV d s t n l = V at *
  generalize aO l = op at *
  generalize aS l = sha at *
  generalize aT l = tha at *
  generalize aP l = spa at *
  generalize aQ l = tpa at *
  clear hr ho hb0 hC0 h0 h hn
  go_enter Try.func8, Try.ntmps8
  go_wp2_with fail
  refine (HRT.out _).mono ?_
  rintro e w1 ⟨rfl, hc1⟩
  obtain ⟨x0, x1, x2, x3⟩ := frame_kept HB0.out hc1
  have HD := Lib.hid (rparse_any A n c l _ w1 HN.out (H0.out.chg hc1 (fun _ _ => id)) hc hcm)
  go_wp2_with fail
  refine HD.out.mono ?_
  rw [HAV.out]
  rintro e w2 ⟨rfl, hc2⟩
  have hC := (HC0.out.trans hc1 (fun _ _ e => e)).trans hc2 (fun _ _ e => e)
  have hF := HB0.out.chg (hc1.trans hc2 (fun _ _ e => e)) id
  clear hc1 hc2 x0 x1 x2 x3 HB0 HC0 H0 HN HD HAV HRT
  have hq0 : Blk (w2.alloc (.cells #[.int .i64 op, .int .u64 sha, .int .u64 tha, .int .u32 spa, .int .u32 tpa] 40)) w2.heap.size 40 (arpC op sha tha spa tpa) := blk_new rfl
  have hC := Lib.hid (hC.alloc (.cells #[.int .i64 op, .int .u64 sha, .int .u64 tha, .int .u32 spa, .int .u32 tpa] 40))
  obtain ⟨x0, x1, x2, x3⟩ := frame_kept hF ((Chg.refl _ _).alloc (.cells #[.int .i64 op, .int .u64 sha, .int .u64 tha, .int .u32 spa, .int .u32 tpa] 40))
  obtain ⟨y0, y1, y2, y3, y4⟩ := arp_cells hq0
  clear hF hq0
  by_cases t1 : t = 32821
  · subst t1
    by_cases o3 : op = 3
    · subst o3
      have HS : Hid (saysB 32821 3 spa tpa = true) := rfl
      go_wp2_with fail
      go_ret2
      exact ⟨by rw [HV1.out HS.out]; rfl, hC.out⟩
    · have HS := Lib.hid (show saysB 32821 op spa tpa = false by simp [saysB, saysR, o3])
      have e3 : (op == 3) = false := by simpa using o3
      clear o3
      go_wp2_with fail
      go_ret2
      exact ⟨by rw [HV0.out HS.out]; rfl, hC.out⟩
  · by_cases t2 : t = 2054
    · subst t2
      by_cases o1 : op = 1
      · subst o1
        by_cases e : spa = tpa
        · subst e
          have HS := Lib.hid (show saysB 2054 1 spa spa = true by simp [saysB, saysA])
          clear t1
          go_wp2_with fail
          go_ret2
          exact ⟨by rw [HV1.out HS.out]; rfl, hC.out⟩
        · have HS := Lib.hid (show saysB 2054 1 spa tpa = false by simp [saysB, saysA, e])
          have e3 : (spa == tpa) = false := by simpa using e
          clear t1 e
          go_wp2_with fail
          go_ret2
          exact ⟨by rw [HV0.out HS.out]; rfl, hC.out⟩
      · have e1 : (op == 1) = false := by simpa using o1
        by_cases o2 : op = 2
        · subst o2
          by_cases e : spa = tpa
          · subst e
            have HS := Lib.hid (show saysB 2054 2 spa spa = true by simp [saysB, saysA])
            clear t1 o1 e1
            go_wp2_with fail
            go_ret2
            exact ⟨by rw [HV1.out HS.out]; rfl, hC.out⟩
          · have HS := Lib.hid (show saysB 2054 2 spa tpa = false by simp [saysB, saysA, e])
            have e3 : (spa == tpa) = false := by simpa using e
            clear t1 o1 e1 e
            go_wp2_with fail
            go_ret2
            exact ⟨by rw [HV0.out HS.out]; rfl, hC.out⟩
        · have HS := Lib.hid (show saysB 2054 op spa tpa = false by simp [saysB, saysA, o1, o2])
          have e2 : (op == 2) = false := by simpa using o2
          clear t1 o1 o2
          go_wp2_with fail
          go_ret2
          exact ⟨by rw [HV0.out HS.out]; rfl, hC.out⟩
    · have HS := Lib.hid (show saysB t op spa tpa = false by simp [saysB, t1, t2])
      have e1 : (t == 32821) = false := by simpa using t1
      have e2 : (t == 2054) = false := by simpa using t2
      clear t1 t2
      go_wp2_with fail
      go_ret2
      exact ⟨by rw [HV0.out HS.out]; rfl, hC.out⟩

theorem rann_any (d s t : Int) (A : Option Addr) (n c : Nat) (l : List UInt8) (S : Nat → Prop) (w : World) (hn : n = l.length) (h : Rds w S A n (bcs l)) (hc : n ≤ c) (hcm : c ≤ maxLen) (hd : 0 ≤ d) (hs : 0 ≤ s) :
    Calls Try.prog 8 #[.agg #[.int .u64 d, .int .u64 s, .int .i64 t, .slice A n c]] w fun e w' => e = .returned (annV d s t n l) ∧ Chg (fun _ => False) w w' := by
  by_cases hr : (rightB d s t n && okA l) = true
  · rw [Bool.and_eq_true] at hr
    exact rann_some d s t A n c l S w hn h hc hcm hd hs hr.1 hr.2
  · exact rann_none d s t A n c l S w hn h hc hcm hd hs (by simpa using hr)

end Go.Proofs.Ytlaekkoegomfjaa
