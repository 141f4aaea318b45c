/-
  Walk: rutterlaw03.ArpTells. Conditions: the numbers are of their types; the frame's load is read in memory, no more of it than there is room.
-/
import Derived.Test.YtlaekkoegomfjaaJj
import Derived.Deep.RegionHeld3
namespace Go.Proofs.Ytlaekkoegomfjaa
open Go.RowKit
set_option linter.unusedVariables false

theorem annV_form (d s t : Int) (n : Nat) (l : List UInt8) : ∃ x b, annV d s t n l = .tuple #[.int .u64 x, .bool b] := by
  unfold annV
  split
  · exact ⟨_, _, rfl⟩
  · exact ⟨_, _, rfl⟩

/-- RARP's frame, or nothing. -/
structure RF (mac D M T : Int) (l : List UInt8) (x y : Int) (b : Bool) : Prop where
  ann : annV D M T l.length l = .tuple #[.int .u64 y, .bool b]
  nn : 0 ≤ D ∧ 0 ≤ M
  cas : (x = 0 ∧ y = mac ∧ b = true) ∨ (x = 1 ∧ b = false)
def Rg (D M T : Int) (l : List UInt8) (x : Int) (w : World) (e : Ending) (w' : World) : Prop :=
  ∃ A c, e = .returned (.tuple #[.agg #[.int .u64 D, .int .u64 M, .int .i64 T, .slice A l.length c], .int .i64 x]) ∧ Rds w' (fun k => w.heap.size ≤ k) A l.length (bcs l) ∧ l.length ≤ c ∧ c ≤ maxLen ∧ Chg (fun _ => False) w w'
theorem rg_of {mac : Int} {w : World} {e : Ending} {w' : World} (h : Rarped mac w e w') : Rg 281474976710655 mac 32821 (arpB 3 mac mac 0 0) 0 w e w' := by
  obtain ⟨A, c, he, hown, hc⟩ := h
  obtain ⟨h1, h2⟩ := own_cap hown
  refine ⟨A, c, ?_, ?_, ?_, h2, hc⟩
  · rw [arpB_len]; exact he
  · rw [arpB_len]; exact (own_rds2 hown).mono (fun k hk => hk.1)
  · rw [arpB_len]; exact h1
theorem rg_no {w : World} {e : Ending} {w' : World} (h : e = .returned (.tuple #[zeroF, .int .i64 1]) ∧ Chg (fun _ => False) w w') : Rg 0 0 0 [] 1 w e w' := by
  obtain ⟨rfl, hc⟩ := h
  exact ⟨none, 0, rfl, Rds.nil _ _ _, Nat.le_refl _, Nat.zero_le _, hc⟩
theorem rarps (mac : Int) (h0 : 0 ≤ mac) (hm : mac ≤ 18446744073709551615) : ∃ D M T l x y b, RF mac D M T l x y b ∧ l.length ≤ 28 ∧
    (∀ w, Calls Try.prog 9 #[.int .u64 mac] w (Rg D M T l x w)) ∧ (∀ w, Calls Try.prog 10 #[.int .u64 mac] w (Rg D M T l x w)) := by
  by_cases h : mac ≤ 281474976710655
  · refine ⟨281474976710655, mac, 32821, arpB 3 mac mac 0 0, 0, mac, true, ⟨?_, ⟨by omega, h0⟩, .inl ⟨rfl, rfl, rfl⟩⟩, by rw [arpB_len]; exact Nat.le_refl _, fun w => (rarp_yes mac w h0 h).mono (fun e w' he => rg_of he), fun w => (rrarp_yes mac w h0 h).mono (fun e w' he => rg_of he)⟩
    rw [arpB_len]
    exact ann_rarp mac h0 h
  · exact ⟨0, 0, 0, [], 1, 0, false, ⟨rfl, ⟨by omega, by omega⟩, .inr ⟨rfl, rfl⟩⟩, by decide, fun w => (rarp_no mac w (by omega) hm).mono (fun e w' he => rg_no he), fun w => (rrarp_no mac w (by omega) hm).mono (fun e w' he => rg_no he)⟩

set_option maxHeartbeats 400000 in
theorem atells_big (op sha tha spa tpa d s t mac : Int) (A : Option Addr) (n c : Nat) (w : World) (hn : n ≤ 9223372036854775807) (h3 : 3000 < n) :
    Calls Try.prog 3 #[.agg #[.int .i64 op, .int .u64 sha, .int .u64 tha, .int .u32 spa, .int .u32 tpa], .agg #[.int .u64 d, .int .u64 s, .int .i64 t, .slice A n c], .int .u64 mac] w fun e w' => e = .returned (.bool true) ∧ Chg (fun _ => False) w w' := by
  have hf0 : Blk ((w.alloc (.cells #[.int .i64 op, .int .u64 sha, .int .u64 tha, .int .u32 spa, .int .u32 tpa] 25)).alloc (.cells #[.int .u64 d, .int .u64 s, .int .i64 t, .slice A n c] 28)) (w.heap.size + 1) 28 _ := blk_new (by simp)
  have hC0 := ((Chg.refl (fun _ => False) w).alloc (.cells #[.int .i64 op, .int .u64 sha, .int .u64 tha, .int .u32 spa, .int .u32 tpa] 25)).alloc (.cells #[.int .u64 d, .int .u64 s, .int .i64 t, .slice A n c] 28)
  obtain ⟨x0, x1, x2, x3⟩ := frame_kept hf0 (Chg.refl _ _)
  have HC0 := Lib.hid hC0
  have HB1 := Lib.hid (show decide (n ≤ 3000) = false by simpa using h3)
  clear hf0 hC0
  go_enter Try.func3, Try.ntmps3
  go_wp2_with fail
  refine (ffits_any d s t A n c _ hn).mono ?_
  rw [HB1.out]
  rintro e w1 ⟨rfl, hc1⟩
  have HC1 := Lib.hid (HC0.out.trans hc1 (fun _ _ e => e))
  clear hc1 x0 x1 x2 x3
  go_wp2_with fail
  refine (alive3_any w1).mono ?_
  rintro e w2 ⟨rfl, hc2⟩
  go_wp2_with fail
  go_ret
  exact ⟨rfl, HC1.out.trans hc2 (fun _ _ e => e)⟩

set_option maxRecDepth 100000 in
set_option maxHeartbeats 8000000 in
theorem atells_any (op sha tha spa tpa d s t mac : Int) (A : Option Addr) (n c : Nat) (l : List UInt8) (w : World) (hn : n = l.length) (h : Rds w (fun _ => True) A n (bcs l)) (hnc : n ≤ c) (hcm : c ≤ maxLen) (h3 : n ≤ 3000)
    (hd : 0 ≤ d) (hs : 0 ≤ s) (hm : 0 ≤ mac ∧ mac ≤ 18446744073709551615)
    (ho : -9223372036854775808 ≤ op ∧ op ≤ 9223372036854775807) (hsh : 0 ≤ sha ∧ sha ≤ 18446744073709551615) (hth : 0 ≤ tha ∧ tha ≤ 18446744073709551615) (hsp : 0 ≤ spa ∧ spa ≤ 4294967295) (htp : 0 ≤ tpa ∧ tpa ≤ 4294967295) :
    Calls Try.prog 3 #[.agg #[.int .i64 op, .int .u64 sha, .int .u64 tha, .int .u32 spa, .int .u32 tpa], .agg #[.int .u64 d, .int .u64 s, .int .i64 t, .slice A n c], .int .u64 mac] w fun e w' => e = .returned (.bool true) ∧ Chg (fun _ => False) w w' := by
  have ha0 : Blk ((w.alloc (.cells #[.int .i64 op, .int .u64 sha, .int .u64 tha, .int .u32 spa, .int .u32 tpa] 25)).alloc (.cells #[.int .u64 d, .int .u64 s, .int .i64 t, .slice A n c] 28)) w.heap.size 25 (arpC op sha tha spa tpa) := (Blk.new _ _ _).alloc _
  have hf0 : Blk ((w.alloc (.cells #[.int .i64 op, .int .u64 sha, .int .u64 tha, .int .u32 spa, .int .u32 tpa] 25)).alloc (.cells #[.int .u64 d, .int .u64 s, .int .i64 t, .slice A n c] 28)) (w.heap.size + 1) 28 #[.int .u64 d, .int .u64 s, .int .i64 t, .slice A n c] := blk_new (by simp)
  have hC0 := ((Chg.refl (fun _ => False) w).alloc (.cells #[.int .i64 op, .int .u64 sha, .int .u64 tha, .int .u32 spa, .int .u32 tpa] 25)).alloc (.cells #[.int .u64 d, .int .u64 s, .int .i64 t, .slice A n c] 28)
  obtain ⟨xa, ba, hann⟩ := annV_form d s t n l
  obtain ⟨D, M, TT, L, xr, yr, br, hrf, hL, hr1, hr2⟩ := rarps mac hm.1 hm.2
  have HAN := Lib.hid (fun (W : World) (hw : Chg (fun _ => False) w W) => ann_any d s t A n c l _ W hn (h.chg hw (fun _ _ => id)) hnc hcm hd hs)
  have HBN := Lib.hid (fun (W : World) (hw : Chg (fun _ => False) w W) => rann_any d s t A n c l _ W hn (h.chg hw (fun _ _ => id)) hnc hcm hd hs)
  rw [hann] at HAN HBN
  have HR1 := Lib.hid hr1
  have HR2 := Lib.hid hr2
  have HRF := Lib.hid hrf
  have HL := Lib.hid hL
  obtain ⟨x0, x1, x2, x3⟩ := frame_kept hf0 (Chg.refl _ _)
  have HA0 := Lib.hid ha0
  have HF0 := Lib.hid hf0
  have HC0 := Lib.hid hC0
  have HB1 := Lib.hid (show decide (n ≤ 3000) = true by simpa using h3)
  have hn2 : n ≤ 9223372036854775807 := by omega
  clear ha0 hf0 hC0 hann hrf hr1 hr2 hL hn h hcm h3 hnc
  go_enter Try.func3, Try.ntmps3
  go_wp2_with fail
  refine (ffits_any d s t A n c _ hn2).mono ?_
  rw [HB1.out]
  rintro e w1 ⟨rfl, hc1⟩
  clear x0 x1 x2 x3
  obtain ⟨x0, x1, x2, x3⟩ := frame_kept HF0.out hc1
  have HC1 := Lib.hid hc1
  have HX := Lib.hid (HAN.out w1 (HC0.out.trans hc1 (fun _ _ e => e)))
  clear hc1 HAN
  go_wp2_with fail
  refine HX.out.mono ?_
  rintro e w2 ⟨rfl, hc2⟩
  have hc2 := HC1.out.trans hc2 (fun _ _ e => e)
  clear x0 x1 x2 x3 HX HC1
  obtain ⟨x0, x1, x2, x3⟩ := frame_kept HF0.out hc2
  have HC2 := Lib.hid hc2
  have HX := Lib.hid (HBN.out w2 (HC0.out.trans hc2 (fun _ _ e => e)))
  clear hc2 HBN
  go_wp2_with fail
  refine HX.out.mono ?_
  rintro e w3 ⟨rfl, hc3⟩
  have HC3 := Lib.hid (HC2.out.trans hc3 (fun _ _ e => e))
  clear x0 x1 x2 x3 HX HC2 hc3
  go_wp2_with fail
  refine (HR1.out w3).mono ?_
  rintro e w4 ⟨A2, c2, rfl, hg4, hgc, hgm, hc4⟩
  generalize hk2 : L.length = k2 at *
  have hC4 := (HC3.out.trans hc4 (fun _ _ e => e)).alloc (.cells #[.int .u64 D, .int .u64 M, .int .i64 TT, .slice A2 k2 c2] 28)
  have hb4 : Blk (w4.alloc (.cells #[.int .u64 D, .int .u64 M, .int .i64 TT, .slice A2 k2 c2] 28)) w4.heap.size 28 _ := Blk.new _ _ _
  have HC4 := Lib.hid hC4
  have HG4 := Lib.hid (hg4.alloc (.cells #[.int .u64 D, .int .u64 M, .int .i64 TT, .slice A2 k2 c2] 28))
  have HB4 := Lib.hid hb4
  have HK2 := Lib.hid hk2
  have HGC := Lib.hid (And.intro hgc hgm)
  clear hC4 hb4 hg4 hgc hgm hk2 hc4 HC3 HR1
  go_wp2_with fail
  refine (HR2.out _).mono ?_
  rintro e w5 ⟨A3, c3, he5, hg5, hgc, hgm, hc5⟩
  rw [HK2.out] at he5 hg5 hgc
  subst he5
  have hC5 := (HC4.out.trans hc5 (fun _ _ e => e)).alloc (.cells #[.int .u64 D, .int .u64 M, .int .i64 TT, .slice A3 k2 c3] 28)
  have hb5 := (HB4.out.chg hc5 id).alloc (.cells #[.int .u64 D, .int .u64 M, .int .i64 TT, .slice A3 k2 c3] 28)
  have hg4 := (HG4.out.chg hc5 (fun _ _ => id)).alloc (.cells #[.int .u64 D, .int .u64 M, .int .i64 TT, .slice A3 k2 c3] 28)
  have hh5 : Blk (w5.alloc (.cells #[.int .u64 D, .int .u64 M, .int .i64 TT, .slice A3 k2 c3] 28)) w5.heap.size 28 _ := Blk.new _ _ _
  have hg5 := hg5.alloc (.cells #[.int .u64 D, .int .u64 M, .int .i64 TT, .slice A3 k2 c3] 28)
  obtain ⟨x0, x1, x2, x3⟩ := frame_kept hb5 (Chg.refl _ _)
  obtain ⟨y0, y1, y2, y3⟩ := frame_kept hh5 (Chg.refl _ _)
  have hsa := rsame_any D M TT D M TT A2 A3 k2 k2 c2 c3 L L _ _ _ hg4 hg5
  rw [show sameB D M TT L D M TT L = true by simp [sameB]] at hsa
  have HSA := Lib.hid hsa
  have HC5 := Lib.hid hC5
  have HB5 := Lib.hid hb5
  have HG5 := Lib.hid hg4
  clear hC5 hb5 hg4 hh5 hg5 hsa hgc hgm hc5 HC4 HG4 HB4 HR2
  go_wp2_with fail
  refine HSA.out.mono ?_
  rintro e w6 ⟨rfl, hc6⟩
  have hC6 := HC5.out.trans hc6 (fun _ _ e => e)
  clear x0 x1 x2 x3 y0 y1 y2 y3
  obtain ⟨x0, x1, x2, x3⟩ := frame_kept HB5.out hc6
  have hk2' := HK2.out
  have hgc := HGC.out
  have hg6 := HG5.out.chg hc6 (fun _ _ => id)
  obtain ⟨hrA, hrN, hrC⟩ := HRF.out
  have hX := ann_any D M TT A2 k2 c2 L _ w6 hk2'.symm hg6 hgc.1 hgc.2 hrN.1 hrN.2
  rw [← hk2', hrA] at hX
  rw [hk2'] at hX
  have HX := Lib.hid hX
  have HC6 := Lib.hid hC6
  have HRC := Lib.hid hrC
  clear hC6 hX hg6 hgc hrA hrN hrC hc6 HSA HC5 HB5 HG5 hk2'
  go_wp2_with fail
  refine HX.out.mono ?_
  rintro e w7 ⟨rfl, hc7⟩
  have hC7 := HC6.out.trans hc7 (fun _ _ e => e)
  clear x0 x1 x2 x3 HX HC6 hc7
  obtain ⟨a0, a1, a2, a3, a4⟩ := arp_kept HA0.out hC7
  have HC7 := Lib.hid hC7
  clear hC7
  have heA := eqA
  have HEA := Lib.hid heA
  clear heA
  rcases HRC.out with ⟨rfl, rfl, rfl⟩ | ⟨rfl, rfl⟩
  all_goals
    clear HRF HRC
    by_cases har : arpR op sha tha = true
    case neg =>
      have har : arpR op sha tha = false := by simpa using har
      have HAR := Lib.hid har
      have HEN := Lib.hid (fun W => aenc_no op sha tha spa tpa W ho hsh hth hsp htp har)
      clear har
      go_wp2_with fail
      refine (HEN.out _).mono ?_
      rintro e w8 ⟨rfl, hc8⟩
      have hC8 := HC7.out.trans hc8 (fun _ _ e => e)
      clear a0 a1 a2 a3 a4
      obtain ⟨a0, a1, a2, a3, a4⟩ := arp_kept HA0.out hC8
      have HC8 := Lib.hid hC8
      clear hC8 hc8 HEN HC7
      go_wp2_with fail
      refine (of_any op sha tha spa tpa _).mono ?_
      unfold arpC
      rintro e w9 ⟨rfl, hc9⟩
      have HC9 := Lib.hid (HC8.out.trans hc9 (fun _ _ e => e))
      clear hc9 HC8 a0 a1 a2 a3 a4
      go_wp2_with fail
      refine (rright3_any op sha tha spa tpa _ hsh.1 hth.1).mono ?_
      rw [HAR.out]
      rintro e w10 ⟨rfl, hc10⟩
      have HC10 := Lib.hid (HC9.out.trans hc10 (fun _ _ e => e))
      clear hc10 HC9
      go_wp2_with fail
      refine (alive3_any _).mono ?_
      rintro e w11 ⟨rfl, hc11⟩
      have HC11 := Lib.hid (HC10.out.trans hc11 (fun _ _ e => e))
      clear hc11 HC10
      go_wp2_with fail
      go_ret
      exact ⟨rfl, HC0.out.trans HC11.out (fun _ _ e => e)⟩
    case pos =>
      have HAR := Lib.hid har
      have HEN := Lib.hid (fun W => aenc_yes op sha tha spa tpa W ho hsh hth hsp htp har)
      have hrr := har
      unfold arpR at hrr
      simp only [Bool.and_eq_true, decide_eq_true_eq] at hrr
      obtain ⟨r1, r2, r3, r4⟩ := hrr
      have HRR := Lib.hid (And.intro r1 (And.intro r2 (And.intro r3 r4)))
      have hbk := arp_back op sha tha spa tpa [] har hsh.1 hth.1 hsp htp
      rw [List.append_nil] at hbk
      have hdr : decR (arpB op sha tha spa tpa) = .tuple #[.agg #[.int .i64 op, .int .u64 sha, .int .u64 tha, .int .u32 spa, .int .u32 tpa], .int .i64 0] := by
        obtain ⟨b1, b2, b3, b4, b5, b6⟩ := hbk
        rw [decR_yes b1]
        unfold arpV
        rw [b2, b3, b4, b5, b6]
      have HDR := Lib.hid hdr
      have HBL := Lib.hid (arpB_len op sha tha spa tpa)
      have HBY := Lib.hid (fun W => rbytes3_any op sha tha spa tpa W r1 r2 hsh.1 r3 hth.1 r4 hsp.1 hsp.2 htp.1 htp.2)
      clear har hbk hdr r1 r2 r3 r4
      generalize arpB op sha tha spa tpa = B at *
      go_wp2_with fail
      refine (HEN.out _).mono ?_
      rintro e w8 ⟨E, k8, ec, rfl, rfl, hown, hc8⟩
      have hC8 := HC7.out.trans hc8 (fun _ _ e => e)
      clear a0 a1 a2 a3 a4
      obtain ⟨a0, a1, a2, a3, a4⟩ := arp_kept HA0.out hC8
      have HC8 := Lib.hid hC8
      have HO8 := Lib.hid hown
      clear hC8 hc8 HEN HC7 hown
      go_wp2_with fail
      refine (of_any op sha tha spa tpa _).mono ?_
      unfold arpC
      rintro e w9 ⟨rfl, hc9⟩
      have HC9 := Lib.hid (HC8.out.trans hc9 (fun _ _ e => e))
      have HO9 := Lib.hid (own_chg HO8.out hc9 (fun _ _ => id))
      clear hc9 HC8 HO8 a0 a1 a2 a3 a4
      go_wp2_with fail
      refine (rright3_any op sha tha spa tpa _ hsh.1 hth.1).mono ?_
      rw [HAR.out]
      rintro e w9' ⟨rfl, hc9'⟩
      have HC9' := Lib.hid (HC9.out.trans hc9' (fun _ _ e => e))
      have hown9 := own_chg HO9.out hc9' (fun _ _ => id)
      have hcap := own_cap hown9
      have hDE := adec_any E 28 ec B _ w9' HBL.out.symm (own_rds2 hown9) hcap.1 hcap.2
      rw [HDR.out] at hDE
      have HDE := Lib.hid hDE
      have HO9' := Lib.hid hown9
      clear hc9' HC9 HO9 hown9 hcap hDE
      go_wp2_with fail
      refine HDE.out.mono ?_
      rintro e w10 ⟨rfl, hc10⟩
      have hC10 := (HC9'.out.trans hc10 (fun _ _ e => e)).alloc (.cells #[.int .i64 op, .int .u64 sha, .int .u64 tha, .int .u32 spa, .int .u32 tpa] 25)
      have hcb : Blk (w10.alloc (.cells #[.int .i64 op, .int .u64 sha, .int .u64 tha, .int .u32 spa, .int .u32 tpa] 25)) w10.heap.size 25 (arpC op sha tha spa tpa) := blk_new rfl
      have hr10 := (own_rds2 (own_chg HO9'.out hc10 (fun _ _ => id))).alloc (.cells #[.int .i64 op, .int .u64 sha, .int .u64 tha, .int .u32 spa, .int .u32 tpa] 25)
      clear hc10 HDE HC9' HO9'
      go_wp2_with fail
      generalize (w10.alloc (.cells #[.int .i64 op, .int .u64 sha, .int .u64 tha, .int .u32 spa, .int .u32 tpa] 25)) = wz at *
      have s0 := arp_kept HA0.out hC10.drew
      have s1 := arp_kept hcb (Chg.refl _ wz).drew
      have s2 := conv_any (c := ec) hr10.drew
      refine wp_region_noPanic ?_
      refine wp_region_held_drew (S := (fun w' => (w'.cell? ⟨w.heap.size, 0, none⟩ = some (.int .i64 op) ∧ w'.cell? ⟨w.heap.size, 1, none⟩ = some (.int .u64 sha) ∧ w'.cell? ⟨w.heap.size, 2, none⟩ = some (.int .u64 tha) ∧ w'.cell? ⟨w.heap.size, 3, none⟩ = some (.int .u32 spa) ∧ w'.cell? ⟨w.heap.size, 4, none⟩ = some (.int .u32 tpa)) ∧ (w'.cell? ⟨w10.heap.size, 0, none⟩ = some (.int .i64 op) ∧ w'.cell? ⟨w10.heap.size, 1, none⟩ = some (.int .u64 sha) ∧ w'.cell? ⟨w10.heap.size, 2, none⟩ = some (.int .u64 tha) ∧ w'.cell? ⟨w10.heap.size, 3, none⟩ = some (.int .u32 spa) ∧ w'.cell? ⟨w10.heap.size, 4, none⟩ = some (.int .u32 tpa)) ∧ (convert 26 9 (.slice E 28 ec)).run Try.prog w' = .ok (.string ⟨B.toArray⟩) w')) (by kernel_rfl) ⟨s0, s1, s2⟩ (fun hHeld => ?_)
      refine wpAnyH_ready (rs := [0]) (by kernel_rfl) (by simp) ?_
      refine AllReadyH.cons rfl (fun K hK => ?_) AllReadyH.nil
      go_simp
      refine (alive3_any _).mono ?_
      rintro e w11 ⟨rfl, hc11⟩
      have u11 := (Chg.refl (fun _ => False) wz).drew.trans hc11 (fun _ _ e => e)
      go_wp2_with fail
      refine hK.out _ _ ⟨arp_kept HA0.out (hC10.trans u11 (fun _ _ e => e)), arp_kept hcb u11, conv_any (hr10.chg u11 (fun _ _ => id))⟩ (fun hHeld => ?_)
      clear hK K
      try simp only [List.getElem_toArray, List.getElem_cons_succ, List.getElem_cons_zero, Act.put, List.setIfInBounds_toArray, List.set_cons_zero, List.set_cons_succ]
      clear s0 s1 s2
      refine wpAnyH_take (i := 1) (v := ?_) rfl (by kernel_rfl) (by kernel_rfl) (by kernel_rfl) (fun _ _ _ h => h) (Or.inl ⟨by rfl, ?_⟩) (by assumption) ?_
      rotate_left
      · intro w' hSw
        try dsimp only at hSw
        go_simp
        first | done | (with_reducible rfl)
      try simp only [List.getElem_toArray, List.getElem_cons_succ, List.getElem_cons_zero, Act.put, List.setIfInBounds_toArray, List.set_cons_zero, List.set_cons_succ]
      refine wpAnyH_take (i := 2) (v := ?_) rfl (by kernel_rfl) (by kernel_rfl) (by kernel_rfl) (fun _ _ _ h => h) (Or.inl ⟨by rfl, ?_⟩) (by assumption) ?_
      rotate_left
      · intro w' hSw
        try dsimp only at hSw
        go_simp
        first | done | (with_reducible rfl)
      try simp only [List.getElem_toArray, List.getElem_cons_succ, List.getElem_cons_zero, Act.put, List.setIfInBounds_toArray, List.set_cons_zero, List.set_cons_succ]
      refine wpAnyH_take (i := 3) (v := ?_) rfl (by kernel_rfl) (by kernel_rfl) (by kernel_rfl) (fun _ _ _ h => h) (Or.inl ⟨by rfl, ?_⟩) (by assumption) ?_
      rotate_left
      · intro w' hSw
        try dsimp only at hSw
        go_simp
        first | done | (with_reducible rfl)
      try simp only [List.getElem_toArray, List.getElem_cons_succ, List.getElem_cons_zero, Act.put, List.setIfInBounds_toArray, List.set_cons_zero, List.set_cons_succ]
      refine wpAnyH_take (i := 4) (v := ?_) rfl (by kernel_rfl) (by kernel_rfl) (by kernel_rfl) (fun _ _ _ h => h) (Or.inl ⟨by rfl, ?_⟩) (by assumption) ?_
      rotate_left
      · intro w' hSw
        try dsimp only at hSw
        go_simp
        first | done | (with_reducible rfl)
      try simp only [List.getElem_toArray, List.getElem_cons_succ, List.getElem_cons_zero, Act.put, List.setIfInBounds_toArray, List.set_cons_zero, List.set_cons_succ]
      refine wpAnyH_take (i := 5) (v := ?_) rfl (by kernel_rfl) (by kernel_rfl) (by kernel_rfl) (fun _ _ _ h => h) (Or.inl ⟨by rfl, ?_⟩) (by assumption) ?_
      rotate_left
      · intro w' hSw
        try dsimp only at hSw
        go_simp
        first | done | (with_reducible rfl)
      try simp only [List.getElem_toArray, List.getElem_cons_succ, List.getElem_cons_zero, Act.put, List.setIfInBounds_toArray, List.set_cons_zero, List.set_cons_succ]
      refine wpAnyH_take (i := 6) (v := ?_) rfl (by kernel_rfl) (by kernel_rfl) (by kernel_rfl) (fun _ _ _ h => h) (Or.inl ⟨by rfl, ?_⟩) (by assumption) ?_
      rotate_left
      · intro w' hSw
        try dsimp only at hSw
        go_simp
        first | done | (with_reducible rfl)
      try simp only [List.getElem_toArray, List.getElem_cons_succ, List.getElem_cons_zero, Act.put, List.setIfInBounds_toArray, List.set_cons_zero, List.set_cons_succ]
      refine wpAnyH_take (i := 7) (v := ?_) rfl (by kernel_rfl) (by kernel_rfl) (by kernel_rfl) (fun _ _ _ h => h) (Or.inl ⟨by rfl, ?_⟩) (by assumption) ?_
      rotate_left
      · intro w' hSw
        try dsimp only at hSw
        go_simp
        first | done | (with_reducible rfl)
      try simp only [List.getElem_toArray, List.getElem_cons_succ, List.getElem_cons_zero, Act.put, List.setIfInBounds_toArray, List.set_cons_zero, List.set_cons_succ]
      refine wpAnyH_take (i := 8) (v := ?_) rfl (by kernel_rfl) (by kernel_rfl) (by kernel_rfl) (fun _ _ _ h => h) (Or.inl ⟨by rfl, ?_⟩) (by assumption) ?_
      rotate_left
      · intro w' hSw
        try dsimp only at hSw
        go_simp
        first | done | (with_reducible rfl)
      try simp only [List.getElem_toArray, List.getElem_cons_succ, List.getElem_cons_zero, Act.put, List.setIfInBounds_toArray, List.set_cons_zero, List.set_cons_succ]
      refine wpAnyH_ready (rs := [9]) (by kernel_rfl) (by simp) ?_
      refine AllReadyH.cons rfl (fun K hK => ?_) AllReadyH.nil
      go_simp
      refine (of_any op sha tha spa tpa _).mono ?_
      unfold arpC
      rintro e w12 ⟨rfl, hc12⟩
      have u12 := u11.trans hc12 (fun _ _ e => e)
      go_wp2_with fail
      refine hK.out _ _ ⟨arp_kept HA0.out (hC10.trans u12 (fun _ _ e => e)), arp_kept hcb u12, conv_any (hr10.chg u12 (fun _ _ => id))⟩ (fun hHeld => ?_)
      clear hK K
      try simp only [List.getElem_toArray, List.getElem_cons_succ, List.getElem_cons_zero, Act.put, List.setIfInBounds_toArray, List.set_cons_zero, List.set_cons_succ]
      refine wpAnyH_ready (rs := [10]) (by kernel_rfl) (by simp) ?_
      refine AllReadyH.cons rfl (fun K hK => ?_) AllReadyH.nil
      go_simp
      refine (HBY.out _).mono ?_
      rintro e w13 ⟨G, gc, rfl, hown13, hc13⟩
      have u13 := u12.trans hc13 (fun _ _ e => e)
      have s6 := conv_any (c := gc) (own_rds2 hown13)
      go_wp2_with fail
      refine hK.out _ _ ⟨arp_kept HA0.out (hC10.trans u13 (fun _ _ e => e)), arp_kept hcb u13, conv_any (hr10.chg u13 (fun _ _ => id))⟩ (fun hHeld => ?_)
      clear hK K
      try simp only [List.getElem_toArray, List.getElem_cons_succ, List.getElem_cons_zero, Act.put, List.setIfInBounds_toArray, List.set_cons_zero, List.set_cons_succ]
      refine wpAnyH_ready (rs := [11]) (by kernel_rfl) (by simp) ?_
      refine AllReadyH.cons rfl (fun K hK => ?_) AllReadyH.nil
      go_simp
      refine hK.out _ _ ⟨arp_kept HA0.out (hC10.trans u13 (fun _ _ e => e)), arp_kept hcb u13, conv_any (hr10.chg u13 (fun _ _ => id))⟩ (fun hHeld => ?_)
      clear hK K
      try simp only [List.getElem_toArray, List.getElem_cons_succ, List.getElem_cons_zero, Act.put, List.setIfInBounds_toArray, List.set_cons_zero, List.set_cons_succ]
      have heA := HEA.out
      refine wpAnyH_take (i := 12) (v := ?_) rfl (by kernel_rfl) (by kernel_rfl) (by kernel_rfl) (fun _ _ _ h => h) (Or.inl ⟨by rfl, ?_⟩) (by assumption) ?_
      rotate_left
      · intro w' hSw
        try dsimp only at hSw
        go_simp
        first | done | (with_reducible rfl)
      try simp only [List.getElem_toArray, List.getElem_cons_succ, List.getElem_cons_zero, Act.put, List.setIfInBounds_toArray, List.set_cons_zero, List.set_cons_succ]
      refine wpAnyH_take (i := 13) (v := ?_) rfl (by kernel_rfl) (by kernel_rfl) (by kernel_rfl) (fun _ _ _ h => h) (Or.inl ⟨by rfl, ?_⟩) (by assumption) ?_
      rotate_left
      · intro w' hSw
        try dsimp only at hSw
        go_simp
        first | done | (with_reducible rfl)
      try simp only [List.getElem_toArray, List.getElem_cons_succ, List.getElem_cons_zero, Act.put, List.setIfInBounds_toArray, List.set_cons_zero, List.set_cons_succ]
      refine wpAnyH_take (i := 14) (v := ?_) rfl (by kernel_rfl) (by kernel_rfl) (by kernel_rfl) (fun _ _ _ h => h) (Or.inl ⟨by rfl, ?_⟩) (by assumption) ?_
      rotate_left
      · intro w' hSw
        try dsimp only at hSw
        go_simp
        first | done | (with_reducible rfl)
      try simp only [List.getElem_toArray, List.getElem_cons_succ, List.getElem_cons_zero, Act.put, List.setIfInBounds_toArray, List.set_cons_zero, List.set_cons_succ]
      refine wpAnyH_take (i := 15) (v := ?_) rfl (by kernel_rfl) (by kernel_rfl) (by kernel_rfl) (fun _ _ _ h => h) (Or.inl ⟨by rfl, ?_⟩) (by assumption) ?_
      rotate_left
      · intro w' hSw
        try dsimp only at hSw
        go_simp
        first | done | (with_reducible rfl)
      try simp only [List.getElem_toArray, List.getElem_cons_succ, List.getElem_cons_zero, Act.put, List.setIfInBounds_toArray, List.set_cons_zero, List.set_cons_succ]
      refine wpAnyH_take (i := 16) (v := ?_) rfl (by kernel_rfl) (by kernel_rfl) (by kernel_rfl) (fun _ _ _ h => h) (Or.inl ⟨by rfl, ?_⟩) (by assumption) ?_
      rotate_left
      · intro w' hSw
        try dsimp only at hSw
        go_simp
        first | done | (with_reducible rfl)
      try simp only [List.getElem_toArray, List.getElem_cons_succ, List.getElem_cons_zero, Act.put, List.setIfInBounds_toArray, List.set_cons_zero, List.set_cons_succ]
      refine wpAnyH_take (i := 17) (v := ?_) rfl (by kernel_rfl) (by kernel_rfl) (by kernel_rfl) (fun _ _ _ h => h) (Or.inl ⟨by rfl, ?_⟩) (by assumption) ?_
      rotate_left
      · intro w' hSw
        try dsimp only at hSw
        go_simp
        first | done | (with_reducible rfl)
      try simp only [List.getElem_toArray, List.getElem_cons_succ, List.getElem_cons_zero, Act.put, List.setIfInBounds_toArray, List.set_cons_zero, List.set_cons_succ]
      refine wpAnyH_take (i := 18) (v := ?_) rfl (by kernel_rfl) (by kernel_rfl) (by kernel_rfl) (fun _ _ _ h => h) (Or.inl ⟨by rfl, ?_⟩) (by assumption) ?_
      rotate_left
      · intro w' hSw
        try dsimp only at hSw
        go_simp
        first | done | (with_reducible rfl)
      try simp only [List.getElem_toArray, List.getElem_cons_succ, List.getElem_cons_zero, Act.put, List.setIfInBounds_toArray, List.set_cons_zero, List.set_cons_succ]
      refine wpAnyH_take (i := 19) (v := ?_) rfl (by kernel_rfl) (by kernel_rfl) (by kernel_rfl) (fun _ _ _ h => h) (Or.inl ⟨by rfl, ?_⟩) (by assumption) ?_
      rotate_left
      · intro w' hSw
        try dsimp only at hSw
        go_simp
        first | done | (with_reducible rfl)
      try simp only [List.getElem_toArray, List.getElem_cons_succ, List.getElem_cons_zero, Act.put, List.setIfInBounds_toArray, List.set_cons_zero, List.set_cons_succ]
      refine wpAnyH_take (i := 20) (v := ?_) rfl (by kernel_rfl) (by kernel_rfl) (by kernel_rfl) (fun _ _ _ h => h) (Or.inl ⟨by rfl, ?_⟩) (by assumption) ?_
      rotate_left
      · intro w' hSw
        try dsimp only at hSw
        go_simp
        first | done | (with_reducible rfl)
      try simp only [List.getElem_toArray, List.getElem_cons_succ, List.getElem_cons_zero, Act.put, List.setIfInBounds_toArray, List.set_cons_zero, List.set_cons_succ]
      refine wpAnyH_take (i := 21) (v := ?_) rfl (by kernel_rfl) (by kernel_rfl) (by kernel_rfl) (fun _ _ _ h => h) (Or.inl ⟨by rfl, ?_⟩) (by assumption) ?_
      rotate_left
      · intro w' hSw
        try dsimp only at hSw
        go_simp
        first | done | (with_reducible rfl)
      try simp only [List.getElem_toArray, List.getElem_cons_succ, List.getElem_cons_zero, Act.put, List.setIfInBounds_toArray, List.set_cons_zero, List.set_cons_succ]
      refine wpAnyH_take (i := 22) (v := ?_) rfl (by kernel_rfl) (by kernel_rfl) (by kernel_rfl) (fun _ _ _ h => h) (Or.inl ⟨by rfl, ?_⟩) (by assumption) ?_
      rotate_left
      · intro w' hSw
        try dsimp only at hSw
        go_simp
        first | done | (with_reducible rfl)
      try simp only [List.getElem_toArray, List.getElem_cons_succ, List.getElem_cons_zero, Act.put, List.setIfInBounds_toArray, List.set_cons_zero, List.set_cons_succ]
      refine wpAnyH_take (i := 23) (v := ?_) rfl (by kernel_rfl) (by kernel_rfl) (by kernel_rfl) (fun _ _ _ h => h) (Or.inl ⟨by rfl, ?_⟩) (by assumption) ?_
      rotate_left
      · intro w' hSw
        try dsimp only at hSw
        go_simp
        first | done | (with_reducible rfl)
      try simp only [List.getElem_toArray, List.getElem_cons_succ, List.getElem_cons_zero, Act.put, List.setIfInBounds_toArray, List.set_cons_zero, List.set_cons_succ]
      refine wpAnyH_done (by kernel_rfl) ?_ _
      refine NoPanic.normal ?_
      all_goals
        go_wp2_with fail
        go_ret
        exact ⟨by simp, HC0.out.trans (hC10.trans u13 (fun _ _ e => e)) (fun _ _ e => e)⟩

end Go.Proofs.Ytlaekkoegomfjaa
