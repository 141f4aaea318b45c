/-
  Walk: rutterlaw01.BufReads. Conditions: the arguments are read in memory.
-/
import Derived.Test.YtplhhcooglaphaaDa
namespace Go.Proofs.Ytplhhcooglaphaa
open Go.RowKit

set_option maxRecDepth 100000 in
set_option maxHeartbeats 1000000 in
theorem reads_any (A L : Option Addr) (ac lc : Nat) (b : List UInt8) (l : List (Nat × Int)) (W : World) (q m : Nat) (hq : q = b.length) (hqc : q ≤ 9223372036854775807) (hmc : m ≤ 9223372036854775807) (hz : A = none → ac = 0)
    (hb : Rds W (fun _ => True) A q (bcs b)) (hl : AskR W (fun k => k < W.heap.size) L m l) (hw : ∀ x ∈ l, x.1 ≤ 255 ∧ -9223372036854775808 ≤ x.2 ∧ x.2 ≤ 9223372036854775807) :
    Calls Try.prog 4 #[.slice A q ac, .slice L m lc] W fun e w' => e = .returned (.bool true) ∧ Chg (fun _ => False) W w' := by
  obtain ⟨i0, hi0, hz0, hz1, hz2⟩ := info_parts infoByte
  have HQ := Lib.hid hq
  clear hq
  by_cases hbig : 70000 < q ∨ 100 < m
  · have hal := alive_any W
    have HAL := Lib.hid hal
    clear hal hz
    rcases hbig with h1 | h1
    · go_enter Try.func4, Try.ntmps4
      go_wp2_with fail
      refine HAL.out.mono ?_
      rintro e w' ⟨rfl, hc⟩
      go_wp2_with fail
      go_ret
      exact ⟨rfl, hc⟩
    · by_cases h2 : 70000 < q
      all_goals
        go_enter Try.func4, Try.ntmps4
        go_wp2_with fail
        refine HAL.out.mono ?_
        rintro e w' ⟨rfl, hc⟩
        go_wp2_with fail
        go_ret
        exact ⟨rfl, hc⟩
  · have h1 : q ≤ 70000 := by omega
    have h2 : m ≤ 100 := by omega
    clear hbig
    have hrd := read_any A q ac b _ W HQ.out hb hz (by omega)
    have HRD := Lib.hid hrd
    clear hrd hz
    go_enter Try.func4, Try.ntmps4
    go_wp2_with fail
    refine HRD.out.mono ?_
    rintro e w1 ⟨p1, rfl, hp1, hrd1, hC1⟩
    have hb1 := hb.chg hC1 (fun _ _ => id)
    have hl1 := hl.chg hC1 (fun _ _ => id)
    have hlt1 := hrd1.lt
    have hmade := World.ownsRow_made (e := 5) (size := 1) w1 #[] 0 (Nat.le_refl _) (by decide) rfl
    have hb1a := hb1.alloc (.cells #[] 5)
    clear HRD hb hl hb1
    go_wp2_with (at_builtin; refine wpList_own_append _ rfl (.tmp 24) (.tmp 25) 26 rfl w1.heap.size 5 i0 (.int .u8 0) 1 Try.underlying26 hi0 hz0 hz1 hz2 rfl (.slice (some ⟨w1.heap.size, 0, none⟩) 0 0) 0 [] rfl hmade _ A q ac (bcs b) rfl hb1a (bcs_one b) (by unfold maxLen; omega) (by omega) (by simp) ?_; intro v1 w2 hown2 hg2 hat2; simp only [Nat.zero_add, List.nil_append] at hown2; obtain ⟨D, dc, rfl, hdc1, hdc2⟩ := own_form hown2; have hC2 : Chg (fun _ => False) w1 w2 := grown_fresh ((Chg.refl _ w1).alloc _) hg2 hmade (Nat.le_refl _))
    have hs2 := hC2.size
    have hDD : DD W L m l p1 w2.heap.size (some b) (some b) (w2.alloc (.cells #[.slice D q dc, .bool false] 47)) :=
      ⟨(hC1.trans hC2 (fun _ _ e => e)).alloc _, (hl1.chg hC2 (fun _ _ => id)).chg ((Chg.refl (fun _ => False) _).alloc _) (fun _ _ => id), hp1, (hrd1.chg hC2 id (fun _ _ => id)).chg ((Chg.refl (fun _ => False) _).alloc _) id (fun _ _ => id),
        ⟨fun h => Nat.lt_irrefl _ h.2, D, q, dc, false, b, heap_alloc_new w2 _, hdc1, hdc2, HQ.out, ((own_rds2 hown2).mono (fun k hk => ⟨by omega, hk.2⟩)).alloc _, rfl, rfl⟩, by omega, fun c hc => by injection hc with hc; subst hc; rw [← HQ.out]; exact h1⟩
    have HDD := Lib.hid hDD
    clear hDD hown2 hg2 hat2 hmade hb1a hC1 hC2 hl1 hrd1
    go_loopg [7] m (fun g i wr => ∃ (j : Nat) (st : Option (List UInt8)), g = m - j ∧ j ≤ m ∧ i = .int .i64 (j : Int) ∧ DD W L m l p1 w2.heap.size st st wr)
    case atStart => exact ⟨0, some b, rfl, Nat.zero_le _, rfl, HDD.out⟩
    case round =>
      obtain ⟨j, st, rfl, hj, rfl, hD⟩ := hrel
      by_cases hlt : j < m
      · obtain ⟨ad, rfl, _, _, _⟩ := hD.asks.2 (by omega)
        have hjl : j < l.length := by have := hD.asks.1; omega
        obtain ⟨hk1, hw1, hw2⟩ := hw _ (List.getElem_mem hjl)
        have hx : l[j]? = some l[j] := List.getElem?_eq_getElem hjl
        generalize l[j] = x at *
        obtain ⟨k, n⟩ := x
        obtain ⟨z1, z2⟩ := hD.ask hx
        simp only at hk1 hw1 hw2
        have HX := Lib.hid hx
        clear hx
        by_cases hk3 : (k : Int) % 5 = 3
        · have t3 : ((k : Int) % 5 == 3) = true := by rw [hk3]; rfl
          have HK := Lib.hid hk3
          clear hk3
          have hc1 := dd_bytes1 hD n
          have HC1 := Lib.hid hc1
          clear hc1
          go_wp2_with fail
          refine HC1.out.mono ?_
          rintro e w3 ⟨A3, k3, c3, rfl, hkp, hD3⟩
          obtain ⟨y1, y2⟩ := hD3.ask HX.out
          have s0 := hkp.str (c := c3) (Chg.refl _ w3).drew
          have y2d : w3.drew.cell? ⟨(ad.add (j * 2)).block, (ad.add (j * 2)).off + 1, none⟩ = some (.int .i64 n) := y2
          clear HC1 hD
          go_wp2_with fail
          go_region_with (go_at_call 16; refine (dd_bytes2 (c0 := c3) hD3.drew n hkp (Chg.refl _ _).drew).mono ?_; rintro e w4 ⟨A4, k4, c4, rfl, s4, s5, hD4⟩)
          all_goals
            go_wp2_with (first
              | (go_at_call 21; refine (dd_done1 hD4).mono ?_; rintro e w5 ⟨rfl, rfl⟩)
              | (go_at_call 22; refine (dd_done2 hD4).mono ?_; rintro e w5 ⟨rfl, rfl⟩))
            go_roundg (m - (j + 1))
            case measure => omega
            case rel => exact ⟨j + 1, _, rfl, by omega, by go_num, hD4⟩
        · have t3 : ((k : Int) % 5 == 3) = false := by simpa using hk3
          clear hk3
          by_cases hk4 : (k : Int) % 5 = 4
          · have t4 : ((k : Int) % 5 == 4) = true := by rw [hk4]; rfl
            have HK := Lib.hid hk4
            clear hk4
            have hc1 := dd_rest1 hD
            have HC1 := Lib.hid hc1
            clear hc1
            go_wp2_with fail
            refine HC1.out.mono ?_
            rintro e w3 ⟨A3, k3, c3, rfl, hkp, hD3⟩
            have s0 := hkp.str (c := c3) (Chg.refl _ w3).drew
            clear HC1 hD
            go_wp2_with fail
            go_region_with (go_at_call 18; refine (dd_rest2 (c0 := c3) hD3.drew hkp (Chg.refl _ _).drew).mono ?_; rintro e w4 ⟨A4, k4, c4, rfl, s4, s5, hD4⟩)
            all_goals
              go_wp2_with (first
                | (go_at_call 21; refine (dd_done1 hD4).mono ?_; rintro e w5 ⟨rfl, rfl⟩)
                | (go_at_call 22; refine (dd_done2 hD4).mono ?_; rintro e w5 ⟨rfl, rfl⟩))
              go_roundg (m - (j + 1))
              case measure => omega
              case rel => exact ⟨j + 1, _, rfl, by omega, by go_num, hD4⟩
          · have t4 : ((k : Int) % 5 == 4) = false := by simpa using hk4
            clear hk4
            have hc1 := dd_get1 hD n
            have HC1 := Lib.hid hc1
            clear hc1
            go_wp2_with fail
            refine HC1.out.mono ?_
            rintro e w3 ⟨rfl, hD3⟩
            obtain ⟨y1, y2⟩ := hD3.ask HX.out
            have hc2 := dd_get2 hD3 n
            have HC2 := Lib.hid hc2
            clear HC1 hD hD3 hc2
            go_wp2_with fail
            refine HC2.out.mono ?_
            rintro e w4 ⟨rfl, hD4⟩
            clear HC2
            go_wp2_with (first
              | (go_at_call 21; refine (dd_done1 hD4).mono ?_; rintro e w5 ⟨rfl, rfl⟩)
              | (go_at_call 22; refine (dd_done2 hD4).mono ?_; rintro e w5 ⟨rfl, rfl⟩))
            go_roundg (m - (j + 1))
            case measure => omega
            case rel => exact ⟨j + 1, _, rfl, by omega, by go_num, hD4⟩
      · have hal := dd_alive hD
        have HAL := Lib.hid hal
        clear hal HDD
        go_wp2_with fail
        refine HAL.out.mono ?_
        rintro e w3 ⟨rfl, hc3⟩
        clear HAL
        go_wp2_with (first
          | (go_at_call 19; refine (get_nil _ _).mono ?_; rintro e w4 ⟨rfl, rfl⟩)
          | (go_at_call 15; refine (rbytes_nil _ _).mono ?_; rintro e w4 ⟨rfl, rfl⟩)
          | (go_at_call 17; refine (rest_nil _).mono ?_; rintro e w4 ⟨rfl, rfl⟩)
          | (go_at_call 21; refine (rdone_nil _).mono ?_; rintro e w4 ⟨rfl, rfl⟩))
        go_ret
        exact ⟨rfl, hc3⟩

end Go.Proofs.Ytplhhcooglaphaa
