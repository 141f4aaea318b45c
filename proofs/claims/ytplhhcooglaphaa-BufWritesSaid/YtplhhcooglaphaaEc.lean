/-
  Walk: rutterlaw01.BufWrites. Conditions: the arguments are read in memory.
-/
import Derived.Test.YtplhhcooglaphaaEb
namespace Go.Proofs.Ytplhhcooglaphaa
open Go.RowKit

set_option maxRecDepth 100000 in
set_option maxHeartbeats 1000000 in
theorem writes_any (L : Option Addr) (m lc : Nat) (l : List ActT) (W : World) (hl : ActR W (fun k => k < W.heap.size) L m l) (hmc : m ≤ 9223372036854775807) :
    Calls Try.prog 3 #[.slice L m lc] W fun e w' => e = .returned (.bool true) ∧ Chg (fun _ => False) W w' := by
  have hf := fits_any L m lc l W _ hl hmc
  have HF := Lib.hid hf
  have hst := EX.start W L m l hl
  have HSTART := Lib.hid hst
  clear hf hst
  go_enter Try.func3, Try.ntmps3
  go_wp2_with fail
  refine HF.out.mono ?_
  rintro e w0 ⟨r, rfl, hr, rfl⟩
  clear HF
  cases r
  · have hal := alive_any W
    have HAL := Lib.hid hal
    clear hal hr
    go_wp2_with fail
    refine HAL.out.mono ?_
    rintro e w1 ⟨rfl, hc⟩
    go_wp2_with fail
    go_ret
    exact ⟨rfl, hc⟩
  · obtain ⟨hm100, hsmall⟩ := hr rfl
    have HS := Lib.hid hsmall
    clear hr hsmall
    go_wp2_with fail
    go_loopg [6] m (fun g i wr => ∃ (j : Nat) (st : Option (List UInt8)), g = m - j ∧ j ≤ m ∧ i = .int .i64 (j : Int) ∧ EX W L m l W.heap.size (W.heap.size + 1) st st (71000 * j) (71000 * j) wr)
    case atStart => exact ⟨0, some [], rfl, Nat.zero_le _, rfl, HSTART.out⟩
    case round =>
      obtain ⟨j, st, rfl, hj, rfl, hE⟩ := hrel
      by_cases hlt : j < m
      · obtain ⟨ad, rfl, _, _, _⟩ := hl.2 (by omega)
        have hjl : j < l.length := by have := hl.1; omega
        have hx : l[j]? = some l[j] := List.getElem?_eq_getElem hjl
        obtain ⟨hs1, hs2⟩ := HS.out j _ hx
        generalize l[j] = x at *
        obtain ⟨z0, z1, z2, z3, hok⟩ := hE.at hx
        have hk255 := hok.k
        have HX := Lib.hid hx
        have HOK := Lib.hid hok
        clear hx hok
        by_cases hk3 : (x.k : Int) % 4 = 3
        · have t3 : ((x.k : Int) % 4 == 3) = true := by rw [hk3]; rfl
          clear hk3
          have hc1 := ex_bytes1 hE HOK.out (by omega)
          have HC1 := Lib.hid hc1
          clear hc1 hE
          go_wp2_with fail
          refine HC1.out.mono ?_
          rintro e w1 ⟨rfl, hE1⟩
          obtain ⟨y0, y1, y2, y3, hok1⟩ := hE1.at HX.out
          have hc2 := ex_bytes2 hE1 hok1 (by omega)
          have HC2 := Lib.hid hc2
          clear hc2 hE1 HC1 hok1
          go_wp2_with fail
          refine HC2.out.mono ?_
          rintro e w2 ⟨rfl, hE2⟩
          clear HC2
          go_wp2_with fail
          go_roundg (m - (j + 1))
          case measure => omega
          case rel => exact ⟨j + 1, _, rfl, by omega, by go_num, hE2.more (by omega) (by omega)⟩
        · have t3 : ((x.k : Int) % 4 == 3) = false := by simpa using hk3
          clear hk3
          go_wp2_with fail
          have y1 : wr.drew.cell? ⟨(ad.add (j * 4)).block, (ad.add (j * 4)).off + 1, none⟩ = some (.int .i64 x.n) := z1
          have y2 : wr.drew.cell? ⟨(ad.add (j * 4)).block, (ad.add (j * 4)).off + 2, none⟩ = some (.slice x.LA x.lm x.lc) := z2
          go_region_held3 (fun w' => w'.cell? ⟨(ad.add (j * 4)).block, (ad.add (j * 4)).off + 1, none⟩ = some (.int .i64 x.n) ∧ w'.cell? ⟨(ad.add (j * 4)).block, (ad.add (j * 4)).off + 2, none⟩ = some (.slice x.LA x.lm x.lc))
            (first | exact ⟨y1, y2⟩ | exact ⟨u1, u2⟩) (first
            | (go_at_call 10; refine (ex_put1 hE.drew (HOK.out.chg (Chg.refl (fun _ => False) wr).drew (fun _ _ => id)) (by omega)).mono ?_; rintro e w1 ⟨rfl, hE1⟩; obtain ⟨u0, u1, u2, u3, hok1⟩ := hE1.at HX.out))
          clear hE y1 y2
          go_wp2_with fail
          have v1 : w1.drew.cell? ⟨(ad.add (j * 4)).block, (ad.add (j * 4)).off + 1, none⟩ = some (.int .i64 x.n) := u1
          have v2 : w1.drew.cell? ⟨(ad.add (j * 4)).block, (ad.add (j * 4)).off + 2, none⟩ = some (.slice x.LA x.lm x.lc) := u2
          go_region_held3 (fun w' => w'.cell? ⟨(ad.add (j * 4)).block, (ad.add (j * 4)).off + 1, none⟩ = some (.int .i64 x.n) ∧ w'.cell? ⟨(ad.add (j * 4)).block, (ad.add (j * 4)).off + 2, none⟩ = some (.slice x.LA x.lm x.lc))
            (first | exact ⟨v1, v2⟩ | exact ⟨x1, x2⟩) (first
            | (go_at_call 11; refine (ex_put2 hE1.drew (hok1.chg (Chg.refl (fun _ => False) w1).drew (fun _ _ => id)) (by omega)).mono ?_; rintro e w2 ⟨rfl, hE2⟩; obtain ⟨x0, x1, x2, x3, hok2⟩ := hE2.at HX.out))
          go_wp2_with fail
          go_roundg (m - (j + 1))
          case measure => omega
          case rel => exact ⟨j + 1, _, rfl, by omega, by go_num, hE2.more (by omega) (by omega)⟩
      · have hjm : j ≤ 100 := by omega
        obtain ⟨o1, o2, hE⟩ := hE
        cases st with
        | none =>
          have hd1 := wdone_none W.heap.size o1 _ wr hE.w1
          have hd2 := rwdone_any (W.heap.size + 1) o2 none _ wr hE.w2
          have hal := (alive_any wr)
          have HD1 := Lib.hid hd1
          have HD2 := Lib.hid hd2
          have HAL := Lib.hid hal
          clear hd1 hd2 hal
          go_wp2_with fail
          refine HD1.out.mono ?_
          rintro e w1 ⟨rfl, rfl⟩
          clear HD1
          go_wp2_with fail
          refine HD2.out.mono ?_
          rintro e w1 ⟨rfl, rfl⟩
          clear HD2
          go_wp2_with fail
          refine (wdone_nil _).mono ?_
          rintro e w1 ⟨rfl, rfl⟩
          go_wp2_with fail
          refine HAL.out.mono ?_
          rintro e w1 ⟨rfl, hc1⟩
          have s0 := conv_str (P := Try.prog) (c := 0) (l := []) 26 9 5 Try.underlying26 Try.underlying5 Try.underlying9 (Rds.nil w1 (fun _ => True) none)
          clear HAL
          go_wp2_with (first
            | (go_at_call 10; refine (put_nil _ _ _ _ _).mono ?_; rintro e w4 ⟨rfl, rfl⟩)
            | (go_at_call 8; refine (wbytes_nil _ _ _ _).mono ?_; rintro e w4 ⟨rfl, rfl⟩))
          go_ret
          exact ⟨rfl, (hE.chg.trans hc1 (fun _ _ e => e)).alloc _⟩
        | some b =>
          have hd1 := wdone_some W.heap.size o1 b _ wr hE.w1 (by omega)
          have hd2 := fun w1 (hc : Chg (fun _ => False) wr w1) => rwdone_any (W.heap.size + 1) o2 (some b) _ w1 (hE.w2.chg hc id (fun _ _ => id))
          have HD1 := Lib.hid hd1
          have HD2 := Lib.hid hd2
          clear hd1 hd2
          go_wp2_with fail
          refine HD1.out.mono ?_
          rintro e w1 ⟨A1, n1, c1, rfl, hn1, hown1, hc1⟩
          have hr1 := own_rds2 hown1
          clear HD1 hn1 hown1
          go_wp2_with fail
          refine (HD2.out w1 hc1).mono ?_
          rintro e w2 ⟨⟨A2, n2, c2, rfl, hr2⟩, rfl⟩
          have hal := alive_any w1
          have HAL := Lib.hid hal
          clear HD2 hal
          go_wp2_with fail
          refine (wdone_nil _).mono ?_
          rintro e w2 ⟨rfl, rfl⟩
          go_wp2_with fail
          refine HAL.out.mono ?_
          rintro e w2 ⟨rfl, hc2⟩
          have s1 := conv_str (P := Try.prog) (c := c1) 26 9 5 Try.underlying26 Try.underlying5 Try.underlying9 (hr1.chg hc2 (fun _ _ => id))
          have s2 := conv_str (P := Try.prog) (c := c2) 26 9 5 Try.underlying26 Try.underlying5 Try.underlying9 (hr2.chg hc2 (fun _ _ => id))
          have hC := (hE.chg.trans hc1 (fun _ _ e => e)).trans hc2 (fun _ _ e => e)
          clear HAL hr1 hr2 hE hc1 hc2
          go_wp2_with (first
            | (go_at_call 10; refine (put_nil _ _ _ _ _).mono ?_; rintro e w4 ⟨rfl, rfl⟩)
            | (go_at_call 8; refine (wbytes_nil _ _ _ _).mono ?_; rintro e w4 ⟨rfl, rfl⟩))
          go_ret
          exact ⟨rfl, hC.alloc _⟩

end Go.Proofs.Ytplhhcooglaphaa
