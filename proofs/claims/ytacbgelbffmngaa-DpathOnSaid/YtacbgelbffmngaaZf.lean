/-
  Walks: bind.Compile, Table. Condition: the rows are read in memory, at most 100 of them.
-/
import Derived.Test.YtacbgelbffmngaaZe
namespace Go.Proofs.Ytacbgelbffmngaa
open Go.RowKit
set_option linter.unusedVariables false
set_option linter.unusedSimpArgs false

set_option maxRecDepth 100000 in
set_option maxHeartbeats 8000000 in
theorem bcomp14_any {w : World} {L : Option Addr} {m lc : Nat} {l : List RV} (h : RwR w L m l) (hb : m ≤ 100) (c : Int) : Calls Try.prog 35 #[.int .i64 c, .slice L m lc] w (EsP14 (cp14 c l) w) := by
  obtain ⟨i0, hi0, hz0, hz1, hz2⟩ := info_parts infoEn13
  have HL := Lib.hid h.1
  have HRD := Lib.hid h
  clear h
  go_enter Try.func35, Try.ntmps35
  go_wp2_with fail
  go_loopg [5, 7, 10] m (fun g s5 s7 i wr => ∃ (j n d : Nat) (E : Option Addr), g = m - j ∧ j ≤ m ∧ i = .int .i64 (j : Int) ∧ s5 = .slice E n d ∧ Hid (n = (cp14 c (l.take j)).length ∧ n ≤ 2 * j) ∧ Hid (wr.ownsRow w.heap.size 70 11 (.slice E n d) n (enF (cp14 c (l.take j)))) ∧ Hid (Chg (fun _ => False) w wr))
  case atStart => exact ⟨0, 0, 0, none, rfl, Nat.zero_le _, rfl, rfl, Lib.hid ⟨rfl, Nat.le_refl _⟩, Lib.hid (World.ownsRow_nil _ _ _ _), Lib.hid (Chg.refl _ _)⟩
  case round =>
    obtain ⟨j, n, d, E, rfl, hj, rfl, rfl, HNN, HO, HX0⟩ := hrel
    by_cases hlt : j < m
    · have hh := HRD.out.chg HX0.out
      obtain ⟨ad, rfl, -⟩ := hh.2 (by omega)
      have hjl : j < l.length := by have := HL.out; omega
      have hx : l[j]? = some l[j] := List.getElem?_eq_getElem hjl
      generalize l[j] = x at *
      obtain ⟨z0, z1, z2, z3, z4, z5, z6, z7, z8⟩ := hh.at hx
      have HTK := Lib.hid (cp14_take (c := c) hx)
      clear hx hh hjl
      have hca := (Chg.refl (fun _ => False) wr).alloc (.cells #[.int .i64 x.po, .int .u64 x.ma, .int .i64 x.ow, .int .i64 x.ta, .int .i64 x.ol, .int .i64 x.ge, .int .i64 x.ph, .int .i64 x.ve, .int .i64 x.si] 65)
      have HEA : Hid (Blk (wr.alloc (.cells #[.int .i64 x.po, .int .u64 x.ma, .int .i64 x.ow, .int .i64 x.ta, .int .i64 x.ol, .int .i64 x.ge, .int .i64 x.ph, .int .i64 x.ve, .int .i64 x.si] 65)) wr.heap.size 65 (rvC x.po x.ma x.ow x.ta x.ol x.ge x.ph x.ve x.si)) := Lib.hid (blk_new rfl)
      replace HX0 := Lib.hid (HX0.out.trans hca (fun _ _ e => e))
      replace HO := Lib.hid (own_chg HO.out hca (fun _ _ => id))
      have hac := fun W => bents14_any x.po x.ma x.ow x.ta x.ol x.ge x.ph x.ve x.si c W
      unfold rvC at hac
      have HAC := Lib.hid (show ∀ W, Calls _ _ _ W (EsP14 (x.es c) W) from hac)
      have HE2 := Lib.hid (show (x.es c).length ≤ 2 from es14_len ..)
      clear hca hac
      go_upto_region 5 with fail
      generalize wr.alloc (.cells #[.int .i64 x.po, .int .u64 x.ma, .int .i64 x.ow, .int .i64 x.ta, .int .i64 x.ol, .int .i64 x.ge, .int .i64 x.ph, .int .i64 x.ve, .int .i64 x.si] 65) = wa at *
      generalize wr.heap.size = Q at *
      clear z0 z1 z2 z3 z4 z5 z6 z7 z8
      obtain ⟨y0, y1, y2, y3, y4, y5, y6, y7, y8⟩ := rv_cells HEA.out
      go_wp2_with fail
      refine (HAC.out _).mono ?_
      rintro e wz ⟨E2, n2, d2, rfl, hr, hz, hc⟩
      have HR2 := Lib.hid hr
      have HN2 := Lib.hid hr.1
      have HNO := Lib.hid (enr_none hr)
      have HFL := Lib.hid (enr_flat hr)
      replace HX0 := Lib.hid (HX0.out.trans hc (fun _ _ e => e))
      replace HO := Lib.hid (own_chg HO.out hc (fun _ _ => id))
      clear hr hz hc y0 y1 y2 y3 y4 y5 y6 y7 y8
      generalize hxs : enF (cp14 c (l.take j)) = xs at *
      have HXS := Lib.hid hxs
      clear hxs
      go_wp2_with (at_builtin; refine wpList_app13 _ rfl (.tmp 14) (.tmp 17) 22 rfl w.heap.size 70 i0 _ 11 88 Try.underlying22 hi0 hz0 hz1 hz2 rfl (by decide) (.slice E n d) n xs rfl HO.out E2 n2 d2 (enF (x.es c)) rfl (by rw [enF_len, HN2.out]) HNO.out HFL.out (enF_one _) (by have := HNN.out.2; have := HN2.out; have := HE2.out; unfold maxLen; omega) (by have := HNN.out.2; have := HN2.out; have := HE2.out; omega) HX0.out.size ?_; intro v6 w6 hown6 hg6 hat6; obtain ⟨E6, d6, rfl, -, -⟩ := own_form hown6; have HO6 := Lib.hid hown6; have HX6 := Lib.hid (grown_fresh HX0.out hg6 HO.out (Nat.le_refl _)); clear hown6 hg6 hat6)
      go_roundg (m - (j + 1))
      case measure => omega
      case rel => exact ⟨j + 1, n + n2, d6, E6, rfl, by omega, by go_num, rfl, Lib.hid ⟨by rw [HTK.out, List.length_append, ← HN2.out, ← HNN.out.1], by have := HNN.out.2; have := HN2.out; have := HE2.out; omega⟩, Lib.hid (by rw [HTK.out, enF_app, HXS.out]; exact HO6.out), HX6⟩
    · have hjm : j = m := by omega
      subst hjm
      have HTK := Lib.hid (show l.take j = l from List.take_of_length_le (by have := HL.out; omega))
      go_wp2_with fail
      go_ret
      exact ⟨E, n, d, rfl, own_enr (by rw [← HTK.out]; exact HO.out) (by rw [← HTK.out]; exact HNN.out.1), own_nil13 HO.out, HX0.out⟩
set_option maxRecDepth 100000 in
set_option maxHeartbeats 2000000 in
theorem btable14_any {w : World} {L : Option Addr} {m lc : Nat} {l : List RV} (h : RwR w L m l) (hb : m ≤ 100) (c : Int) : Calls Try.prog 20 #[.int .i64 c, .slice L m lc] w (NwP13 (cp14 c l) w) := by
  have HC := Lib.hid (bcomp14_any (lc := lc) h hb c)
  have HLN := Lib.hid (show (cp14 c l).length ≤ 256 from by have := cp14_len c l; have := h.1; omega)
  clear h
  go_enter Try.func20, Try.ntmps20
  go_wp2_with fail
  refine HC.out.mono ?_
  rintro e w1 ⟨E, n, d, rfl, hr, hz, hc⟩
  have HN := Lib.hid (fnew13_any hr hz (by have := hr.1; have := HLN.out; omega))
  have HX := Lib.hid hc
  clear hr hz hc
  go_wp2_with fail
  refine HN.out.mono ?_
  rintro e w2 ⟨p, rfl, hT, hc⟩
  have HT := Lib.hid hT
  replace HX := Lib.hid (HX.out.trans hc (fun _ _ e => e))
  clear hT hc
  go_wp2_with fail
  go_ret2
  exact ⟨p, rfl, HT.out, HX.out⟩

end Go.Proofs.Ytacbgelbffmngaa
