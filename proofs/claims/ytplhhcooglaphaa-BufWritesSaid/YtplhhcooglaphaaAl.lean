/-
  Walk: rutterlaw01.alive: true, whatever the world. No condition.
-/
import Derived.Test.YtplhhcooglaphaaWd
import Derived.Test.YtplhhcooglaphaaRc
import Derived.Lib.SlBytesConst
namespace Go.Proofs.Ytplhhcooglaphaa
open Go.RowKit

set_option maxHeartbeats 1000000 in
theorem alive_any (w : World) : Calls Try.prog 7 #[] w fun e w' => e = .returned (.bool true) ∧ Chg (fun _ => False) w w' := by
  have kc := fun (w : World) (C : Array Value) (n c : Nat) => Lib.run_convert_bytes_const (P := Try.prog) w 26 5 C n c Try.underlying26 Try.underlying5
  have hC0 := (Chg.refl (fun _ => False) w).alloc (.cells #[.slice none 0 0, .bool false] 28)
  have h0 := wr_new 28 5 w
  have hput1 := put_any w.heap.size none (some []) 0 3 [258] (some ⟨w.heap.size + 1, 0, none⟩) 1 1 ((w.alloc (.cells #[.slice none 0 0, .bool false] 28)).alloc (.cells #[.int .i64 258] 3)) (fun k => k = w.heap.size + 1)
    (h0.chg ((Chg.refl (fun _ => False) _).alloc _) id (fun _ _ => id)) rfl (rds_new1 _ _ _ _ _ (by simp) _ _ rfl rfl) (fun k hk => by subst hk; exact ⟨by omega, by simp⟩) (by decide) (by decide)
  have HP1 := Lib.hid hput1
  clear hput1 h0
  go_enter Try.func7, Try.ntmps7
  go_wp2_with fail
  refine HP1.out.mono ?_
  rintro e w2 ⟨rfl, o2, hw2, hm2⟩
  obtain ⟨hC2, ho2⟩ := fresh_mvd (hC0.trans ((Chg.refl _ _).alloc (.cells #[.int .i64 258] 3)) (fun _ _ e => e)) hm2 (Nat.le_refl _) (fun k hk => by cases hk)
  clear HP1 hC0 hm2
  have hlt2 := hw2.lt
  have hb3 := wbytes_any w.heap.size o2 _ _ (some ⟨w2.heap.size, 0, none⟩) 2 2 [97, 98] (fun k => k = w2.heap.size) (w2.alloc (.cells #[.int .u8 97, .int .u8 98] 5 (2, 3)))
    (hw2.chg ((Chg.refl (fun _ => False) _).alloc _) id (fun _ _ => id)) rfl (rds_new1 _ _ _ _ _ rfl _ _ rfl rfl) (fun k hk => by subst hk; exact ⟨by omega, fun e => by have := hlt2.2 _ e; omega⟩) (by decide)
  have HB3 := Lib.hid hb3
  clear hb3 hw2 hlt2
  go_wp2_with fail
  refine HB3.out.mono ?_
  rintro e w4 ⟨rfl, o4, hw4, hm4⟩
  obtain ⟨hC4, ho4⟩ := fresh_mvd (hC2.alloc _) hm4 (Nat.le_refl _) ho2
  clear HB3 hC2 hm4 ho2
  have hlt4 := hw4.lt
  have hp5 := put_any w.heap.size o4 _ _ 1 [7, 9] (some ⟨w4.heap.size, 0, none⟩) 2 2 (w4.alloc (.cells #[.int .i64 7, .int .i64 9] 3)) (fun k => k = w4.heap.size)
    (hw4.chg ((Chg.refl (fun _ => False) _).alloc _) id (fun _ _ => id)) rfl (rds_new1 _ _ _ _ _ rfl _ _ rfl rfl) (fun k hk => by subst hk; exact ⟨by omega, fun e => by have := hlt4.2 _ e; omega⟩) (by decide) (by decide)
  have HP5 := Lib.hid hp5
  clear hp5 hw4 hlt4
  go_wp2_with fail
  refine HP5.out.mono ?_
  rintro e w6 ⟨rfl, o6, hw6, hm6⟩
  obtain ⟨hC6, ho6⟩ := fresh_mvd (hC4.alloc _) hm6 (Nat.le_refl _) ho4
  clear HP5 hC4 hm6 ho4
  have e6 : putS 1 [7, 9] (bytesS [97, 98] (putS 3 [258] (some []))) = some [0, 1, 2, 0, 2, 97, 98, 7, 9] := by decide
  rw [e6] at hw6
  have hd7 := wdone_some w.heap.size o6 _ _ w6 hw6 (by decide)
  have HD7 := Lib.hid hd7
  clear hd7 hw6 e6
  go_wp2_with fail
  refine HD7.out.mono ?_
  rintro e w7 ⟨A, n, c, rfl, hn, hown, hC67⟩
  have hC7 := hC6.trans hC67 (fun _ _ e => e)
  have hr7 := own_rds2 hown
  have hrd8 := read_any A n c _ _ w7 hn hr7 (own_nil hown) (by rw [hn]; decide)
  have HRD8 := Lib.hid hrd8
  have HN := Lib.hid hn
  clear hrd8 hn HD7 hC6 hC67 hown
  go_wp2_with fail
  refine HRD8.out.mono ?_
  rintro e w8 ⟨p, rfl, hp, hrd, hC78⟩
  have hC8 := hC7.trans hC78 (fun _ _ e => e)
  have hr8 := hr7.old.chg hC78 (fun _ _ => id)
  have hs7 := hC7.size
  have hq : w.heap.size ≤ p := Nat.le_trans hs7 hp
  have hg9 := get_any p _ _ 3 w8 hrd
  have HG9 := Lib.hid hg9
  clear hg9 hrd HRD8 hC7 hC78
  go_wp2_with fail
  refine HG9.out.mono ?_
  rintro e w9 ⟨rfl, hrd, hC89⟩
  have hC9 := fresh_set hC8 hC89 hq
  have hr9 := hr8.chg hC89 (fun k hk e => by subst e; omega)
  have e9 : getS 3 (some [0, 1, 2, 0, 2, 97, 98, 7, 9]) = (258, some [0, 2, 97, 98, 7, 9]) := by decide
  rw [e9] at hrd ⊢
  have hb10 := rbytes_any p _ _ 2 w9 hrd
  have HB10 := Lib.hid hb10
  clear hb10 hrd HG9 hC8 hC89 e9 hr8
  go_wp2_with fail
  refine HB10.out.mono ?_
  rintro e w10 ⟨A2, n2, c2, rfl, hn2, hnc2, hcm2, hr2, hrd, hC910⟩
  have hC10 := fresh_set hC9 hC910 hq
  have hr10 := hr9.chg hC910 (fun k hk e => by subst e; omega)
  have e10 : bytesR 2 (some [0, 2, 97, 98, 7, 9]) = ([97, 98], some [7, 9]) := by decide
  simp only [e10] at hrd hn2 hr2
  have ht11 := rest_any p _ _ w10 hrd
  have HT11 := Lib.hid ht11
  have HN2 := Lib.hid hn2
  clear ht11 hrd HB10 hC9 hC910 e10 hr9 hn2
  go_wp2_with fail
  refine HT11.out.mono ?_
  rintro e w11 ⟨A3, n3, c3, rfl, hn3, hnc3, hcm3, hr3, hrd, hC1011⟩
  have hC11 := fresh_set hC10 hC1011 hq
  have hr11 := hr10.chg hC1011 (fun k hk e => by subst e; omega)
  have hr12 := hr2.chg hC1011 (fun k hk e => by subst e; omega)
  have e11 : restS (some [7, 9]) = ([7, 9], some []) := by decide
  simp only [e11] at hrd hn3 hr3
  have s1 := conv_str (P := Try.prog) (c := c) 26 9 5 Try.underlying26 Try.underlying5 Try.underlying9 hr11
  have s2 := conv_str (P := Try.prog) (c := c2) 26 9 5 Try.underlying26 Try.underlying5 Try.underlying9 hr12
  have s3 := conv_str (P := Try.prog) (c := c3) 26 9 5 Try.underlying26 Try.underlying5 Try.underlying9 hr3
  have hdn := rdone_any p _ _ w11 hrd
  have HDN := Lib.hid hdn
  clear hn3 hrd HT11 hC10 hC1011 e11 hr10 hdn hr11 hr12 hr2 hr3
  go_wp2_with fail
  refine HDN.out.mono ?_
  rintro e w12 ⟨rfl, rfl⟩
  clear HDN
  go_wp2_with fail
  go_ret
  exact ⟨rfl, hC11⟩

end Go.Proofs.Ytplhhcooglaphaa
