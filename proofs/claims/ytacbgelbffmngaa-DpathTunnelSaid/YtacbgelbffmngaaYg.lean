/-
  Walk: rutterlaw13.Of. Conditions: the entries are read in memory, at most 400 of them.
-/
import Derived.Test.YtacbgelbffmngaaYd
import Derived.Deep.RegionHeld3
import Derived.BigQuiet
namespace Go.Proofs.Ytacbgelbffmngaa
open Go.RowKit
set_option linter.unusedVariables false
set_option linter.unusedSimpArgs false

theorem infoRe13 : (Try.prog.info? 89).map (fun i => (i.zero, i.size, i.bytes)) = some (some (.agg #[.int .i64 0, .int .i64 0, .int .u64 0, .int .i64 0, .int .i64 0, .int .i64 0, .int .i64 0, .int .i64 0, .int .i64 0, .int .i64 0, .int .i64 0]), 11, 88) := by kernel_rfl
theorem new_cells13 (w : World) (T : TypeId) (cs : List Value) : ∀ (j : Nat) (u : Value), cs[j]? = some u → (w.alloc (.cells cs.toArray T)).cell? ((⟨w.heap.size, 0, none⟩ : Addr).add j) = some u := fun j u hu => by
  rw [show (⟨w.heap.size, 0, none⟩ : Addr).add j = ⟨w.heap.size, j, none⟩ from by unfold Addr.add; split <;> simp_all]
  exact ((Blk.new w T cs.toArray).cell j).trans (by simpa using hu)
def OfP13 (m : Nat) (l : List En) (w : World) (e : Ending) (w' : World) : Prop := ∃ E d, e = .returned (.slice E m d) ∧ EnR w' E m l ∧ Chg (fun _ => False) w w'
set_option maxRecDepth 100000 in
set_option maxHeartbeats 8000000 in
theorem lof13_any {w : World} {L : Option Addr} {m lc : Nat} {l : List En} (h : EnR w L m l) (hb : m ≤ 400) : Calls Try.prog 11 #[.slice L m lc] w (OfP13 m l w) := by
  obtain ⟨i0, hi0, hz0, hz1, hz2⟩ := info_parts infoRe13
  have HL := Lib.hid h.1
  have HRD := Lib.hid h
  clear h
  go_enter Try.func11, Try.ntmps11
  go_wp2_with fail
  go_loopg [3, 4, 5] m (fun g s3 i s5 wr => ∃ (j d : Nat) (E : Option Addr), g = m - j ∧ j ≤ m ∧ i = .int .i64 (j : Int) ∧ s3 = .slice E j d ∧ Hid (wr.ownsRow w.heap.size 89 11 (.slice E j d) j (enF (l.take j))) ∧ Hid (Chg (fun _ => False) w wr))
  case atStart => exact ⟨0, 0, none, rfl, Nat.zero_le _, rfl, rfl, Lib.hid (World.ownsRow_nil _ _ _ _), Lib.hid (Chg.refl _ _)⟩
  case round =>
    obtain ⟨j, d, E, rfl, hj, rfl, rfl, HO, HX0⟩ := hrel
    by_cases hlt : j < m
    · have hh := HRD.out.chg HX0.out
      obtain ⟨ad, rfl, -⟩ := hh.2 (by omega)
      have hjl : j < l.length := by have := HL.out; omega
      have hx : l[j]? = some l[j] := List.getElem?_eq_getElem hjl
      generalize l[j] = x at *
      obtain ⟨z0, z1, z2, z3, z4, z5, z6, z7, z8, z9, z10⟩ := hh.at hx
      have HTK := Lib.hid (show enF (l.take (j + 1)) = enF (l.take j) ++ [.int .i64 x.pr, .int .i64 x.ins, .int .u64 x.ma, .int .i64 x.po, .int .i64 x.fr, .int .i64 x.up, .int .i64 x.no, .int .i64 x.ak, .int .i64 x.ap, .int .i64 x.ao, .int .i64 x.ag] from by rw [List.take_add_one, hx, enF_app]; rfl)
      clear hx hh hjl
      have hca := (Chg.refl (fun _ => False) wr).alloc (.cells #[.int .i64 x.pr, .int .i64 x.ins, .int .u64 x.ma, .int .i64 x.po, .int .i64 x.fr, .int .i64 x.up, .int .i64 x.no, .int .i64 x.ak, .int .i64 x.ap, .int .i64 x.ao, .int .i64 x.ag] 70)
      have HEA : Hid (Blk (wr.alloc (.cells #[.int .i64 x.pr, .int .i64 x.ins, .int .u64 x.ma, .int .i64 x.po, .int .i64 x.fr, .int .i64 x.up, .int .i64 x.no, .int .i64 x.ak, .int .i64 x.ap, .int .i64 x.ao, .int .i64 x.ag] 70)) wr.heap.size 70 (enC x.pr x.ins x.ma x.po x.fr x.up x.no x.ak x.ap x.ao x.ag)) := Lib.hid (blk_new rfl)
      have HQN := Lib.hid (show E.map (·.block) ≠ some wr.heap.size from fun e => by have := (own_low HO.out e).2; omega)
      replace HX0 := Lib.hid (HX0.out.trans hca (fun _ _ e => e))
      replace HO := Lib.hid (own_chg HO.out hca (fun _ _ => id))
      have hac := fun W => lact13_any x.ak x.ap x.ao x.ag W
      unfold acC at hac
      have HAC := Lib.hid hac
      have HNEW := Lib.hid (fun W => new_cells13 W 89 [.int .i64 x.pr, .int .i64 x.ins, .int .u64 x.ma, .int .i64 x.po, .int .i64 x.fr, .int .i64 x.up, .int .i64 x.no, .int .i64 x.ak, .int .i64 x.ap, .int .i64 x.ao, .int .i64 x.ag])
      have HONE := Lib.hid (show ∀ u ∈ ([.int .i64 x.pr, .int .i64 x.ins, .int .u64 x.ma, .int .i64 x.po, .int .i64 x.fr, .int .i64 x.up, .int .i64 x.no, .int .i64 x.ak, .int .i64 x.ap, .int .i64 x.ao, .int .i64 x.ag] : List Value), u.oneCell' = true by simp [Value.oneCell'])
      clear hca hac
      go_upto_region 6 with fail
      generalize wr.alloc (.cells #[.int .i64 x.pr, .int .i64 x.ins, .int .u64 x.ma, .int .i64 x.po, .int .i64 x.fr, .int .i64 x.up, .int .i64 x.no, .int .i64 x.ak, .int .i64 x.ap, .int .i64 x.ao, .int .i64 x.ag] 70) = wa at *
      generalize wr.heap.size = Q at *
      clear z0 z1 z2 z3 z4 z5 z6 z7 z8 z9 z10
      have HKEEP : Hid (∀ W : World, Chg (fun _ => False) wa W → (W.cell? ⟨Q, 0, none⟩ = some (.int .i64 x.pr) ∧ W.cell? ⟨Q, 1, none⟩ = some (.int .i64 x.ins) ∧ W.cell? ⟨Q, 2, none⟩ = some (.int .u64 x.ma) ∧ W.cell? ⟨Q, 3, none⟩ = some (.int .i64 x.po) ∧ W.cell? ⟨Q, 4, none⟩ = some (.int .i64 x.fr) ∧ W.cell? ⟨Q, 5, none⟩ = some (.int .i64 x.up) ∧ W.cell? ⟨Q, 6, none⟩ = some (.int .i64 x.no) ∧ W.cell? ⟨Q, 7, none⟩ = some (.int .i64 x.ak) ∧ W.cell? ⟨Q, 8, none⟩ = some (.int .i64 x.ap) ∧ W.cell? ⟨Q, 9, none⟩ = some (.int .i64 x.ao) ∧ W.cell? ⟨Q, 10, none⟩ = some (.int .i64 x.ag))) := Lib.hid (fun W hw => en_cells13 (HEA.out.chg hw id))
      have HS4 : Hid (∀ W : World, Blk W Q 70 (enC x.pr x.ins x.ma x.po x.fr x.up x.no x.ak x.ap x.ao x.ag) → (W.cell? ⟨Q, 0, none⟩ = some (.int .i64 x.pr) ∧ W.cell? ⟨Q, 1, none⟩ = some (.int .i64 x.ins) ∧ W.cell? ⟨Q, 2, none⟩ = some (.int .u64 x.ma) ∧ W.cell? ⟨Q, 3, none⟩ = some (.int .i64 x.po) ∧ W.cell? ⟨Q, 4, none⟩ = some (.int .i64 x.fr) ∧ W.cell? ⟨Q, 5, none⟩ = some (.int .i64 x.up) ∧ W.cell? ⟨Q, 6, none⟩ = some (.int .i64 x.no) ∧ W.cell? ⟨Q, 7, none⟩ = some (.int .i64 x.ak) ∧ W.cell? ⟨Q, 8, none⟩ = some (.int .i64 x.ap) ∧ W.cell? ⟨Q, 9, none⟩ = some (.int .i64 x.ao) ∧ W.cell? ⟨Q, 10, none⟩ = some (.int .i64 x.ag))) := Lib.hid (fun W hw => en_cells13 hw)
      have HXA := Lib.hid ((Chg.refl (fun _ => False) wa).drew)
      obtain ⟨y0, y1, y2, y3, y4, y5, y6, y7, y8, y9, y10⟩ := HKEEP.out _ HXA.out
      generalize enF (l.take j) = xs at *
      go_region_held3 (fun w' => w'.cell? ⟨Q, 0, none⟩ = some (.int .i64 x.pr) ∧ w'.cell? ⟨Q, 1, none⟩ = some (.int .i64 x.ins) ∧ w'.cell? ⟨Q, 2, none⟩ = some (.int .u64 x.ma) ∧ w'.cell? ⟨Q, 3, none⟩ = some (.int .i64 x.po) ∧ w'.cell? ⟨Q, 4, none⟩ = some (.int .i64 x.fr) ∧ w'.cell? ⟨Q, 5, none⟩ = some (.int .i64 x.up) ∧ w'.cell? ⟨Q, 6, none⟩ = some (.int .i64 x.no) ∧ w'.cell? ⟨Q, 7, none⟩ = some (.int .i64 x.ak) ∧ w'.cell? ⟨Q, 8, none⟩ = some (.int .i64 x.ap) ∧ w'.cell? ⟨Q, 9, none⟩ = some (.int .i64 x.ao) ∧ w'.cell? ⟨Q, 10, none⟩ = some (.int .i64 x.ag))
        (first | with_reducible exact HKEEP.out _ HXA.out | with_reducible exact HKEEP.out _ HXB.out | with_reducible exact HKEEP.out _ (HXB.out.alloc _) | with_reducible exact HS4.out _ (HEA.out.chg HXC.out HQN.out) | fail)
        (first
          | (go_at_call 27; (with_reducible refine (HAC.out _).mono ?_); rintro e wz ⟨rfl, hc⟩; have HXB := Lib.hid (HXA.out.trans hc (fun _ _ e => e)); have HSZ := Lib.hid (HX0.out.trans HXB.out (fun _ _ e => e)); clear hc)
          | (with_reducible refine step_app12 _ rfl (.tmp 16) (.tmp 35) 46 rfl w.heap.size 89 i0 _ 11 88 Try.underlying46 hi0 hz0 hz1 hz2 rfl (by decide) (.slice E j d) j xs rfl (own_chg HO.out (HXB.out.alloc _) (fun _ _ => id)) ⟨wz.heap.size, 0, none⟩ 1 1 [.int .i64 x.pr, .int .i64 x.ins, .int .u64 x.ma, .int .i64 x.po, .int .i64 x.fr, .int .i64 x.up, .int .i64 x.no, .int .i64 x.ak, .int .i64 x.ap, .int .i64 x.ao, .int .i64 x.ag] rfl rfl (HNEW.out wz) HONE.out (by unfold maxLen; omega) (by omega) (HSZ.out.alloc _).size ?_; intro v6 w6 hown6 hg6 hat6; obtain ⟨E6, d6, rfl, -, -⟩ := own_form hown6; have HO6 := Lib.hid hown6; have HXC := Lib.hid (((HXB.out.alloc _).mono (S' := fun k => E.map (·.block) = some k) (fun _ _ h => h.elim)).grown hg6 (fun k hk _ => by rw [own_block] at hk; exact hk)); have HX6 := Lib.hid (grown_fresh (HSZ.out.alloc _) hg6 (own_chg HO.out (HXB.out.alloc _) (fun _ _ => id)) (Nat.le_refl _)); clear hown6 hg6 hat6)
          | fail)
      all_goals
        go_wp2_with fail
        go_roundg (m - (j + 1))
        case measure => omega
        case rel => exact ⟨j + 1, d6, E6, rfl, by omega, by go_num, rfl, Lib.hid (by rw [HTK.out]; exact HO6.out), HX6⟩
    · have hjm : j = m := by omega
      subst hjm
      have HTK := Lib.hid (show l.take j = l from List.take_of_length_le (by have := HL.out; omega))
      go_wp2_with fail
      go_ret
      exact ⟨E, d, rfl, own_enr (by rw [← HTK.out]; exact HO.out) HL.out, HX0.out⟩

end Go.Proofs.Ytacbgelbffmngaa
