/-
  Walks: the document's Put, At, Find. Conditions: the document's net lies in memory, its room is at most 4096.
-/
import Derived.Test.YthajmplheecepaaSl
import Derived.Test.YthajmplheecepaaSj
import Derived.Test.YthajmplheecepaaSk
import Derived.BigQuiet
import Derived.Deep.DeepCutAuto
namespace Go.Proofs.Ythajmplheecepaa
open Go.RowKit
set_option linter.unusedVariables false
set_option linter.unusedSimpArgs false
attribute [local go_sem] Oper.semAt_some

/-- The document's net behind one item. -/
def rput18 (x : NV18) (t : IT18) : NV18 := if inI18 x t = true then ⟨x.room, x.lost, x.l ++ [t]⟩ else ⟨x.room, x.lost + 1, x.l⟩
def RPutP18 (b q : Nat) (o : Option Nat) (x : NV18) (t : IT18) (w : World) (e : Ending) (w' : World) : Prop := e = .returned (.bool (inI18 x t)) ∧ ∃ o', DN w' b q o' (rput18 x t) ∧ Mvd q o o' w w'
theorem DN.lost {w : World} {b p : Nat} {o : Option Nat} {x : NV18} (h : DN w b p o x) (s : Int) : DN (w.setCell ⟨p, 2, none⟩ (.int .i64 s)) b p o ⟨x.room, s, x.l⟩ ∧ Mvd p o o w (w.setCell ⟨p, 2, none⟩ (.int .i64 s)) := by
  have hop := h.op
  obtain ⟨A, n, c, hb, ho, hn, hA, hbp⟩ := h
  have hset : Chg (fun j => j = p) w (w.setCell ⟨p, 2, none⟩ (.int .i64 s)) := (Chg.refl (fun j => j = p) w).put p 2 (fun _ => rfl) _
  have hb6 := hb.set 2 (.int .i64 s)
  simp only [List.setIfInBounds_toArray, List.set_cons_zero, List.set_cons_succ] at hb6
  refine ⟨⟨A, n, c, hb6, own_chg ho hset (fun k hk e => ?_), hn, hA, hbp⟩, hset.mono (fun _ _ e => .inl e), .inl rfl⟩
  subst e
  exact hop (by rw [← hA]; exact hk)
theorem own_rdn18 {w : World} {b m c : Nat} {T : TypeId} {L : Option Addr} {ts : List IT18} (h : w.ownsRow b T 3 (.slice L m c) m (itF ts)) : (itF ts).length = m * 3 ∧ (L = none → m = 0) ∧ ∀ ad, L = some ad → ∀ (j : Nat) (u : Value), (itF ts)[j]? = some u → w.cell? (ad.add j) = some u := by
  refine ⟨h.1, fun e => ?_, fun ad e j u hu => ?_⟩
  · rcases h.2 with ⟨hv, rfl⟩ | ⟨g, cap, cur, hv, -⟩
    · rfl
    · injection hv with hA
      rw [e] at hA
      cases hA
  · rcases h.2 with ⟨hv, rfl⟩ | ⟨g, cap, cur, hv, -⟩
    · have := (List.getElem?_eq_some_iff.1 hu).1
      have := h.1
      omega
    · injection hv with hA
      rw [e] at hA
      injection hA with hA
      subst hA e
      exact h.cells (g := g) rfl j u hu
/-- Behind the store of a row that is new. -/
theorem DN.fresh {w0 w1 w5 : World} {b q n c n5 c5 : Nat} {A A5 : Option Addr} {o : Option Nat} {x : NV18} {l : List IT18} (hb : Blk w5 q 32 #[.slice A n c, .int .i64 x.room, .int .i64 x.lost]) (hq : b ≤ q) (hb1 : b ≤ w1.heap.size) (ho5 : w5.ownsRow w1.heap.size 49 3 (.slice A5 n5 c5) n5 (itF l)) (h01 : Chg (fun _ => False) w0 w1) (h15 : Chg (fun _ => False) w1 w5) :
    DN (w5.setCell ⟨q, 0, none⟩ (.slice A5 n5 c5)) b q (A5.map (·.block)) ⟨x.room, x.lost, l⟩ ∧ Mvd q o (A5.map (·.block)) w0 (w5.setCell ⟨q, 0, none⟩ (.slice A5 n5 c5)) := by
  have hb6 := hb.set 0 (.slice A5 n5 c5)
  simp only [List.setIfInBounds_toArray, List.set_cons_zero, List.set_cons_succ] at hb6
  have hset : Chg (fun j => j = q) w5 (w5.setCell ⟨q, 0, none⟩ (.slice A5 n5 c5)) := (Chg.refl (fun j => j = q) w5).put q 0 (fun _ => rfl) _
  refine ⟨⟨A5, n5, c5, hb6, own_base (own_chg ho5 hset (fun k hk e => ?_)) hb1, ?_, rfl, hq⟩, ?_, ?_⟩
  · subst e
    obtain ⟨cs', hh⟩ := own_ty18 ho5 hk
    unfold Blk at hb
    rw [hb] at hh
    injection hh with hh
    injection hh with _ hh
    exact absurd hh (by decide)
  · have := ho5.1
    rw [itF_len] at this
    exact (Nat.mul_right_cancel (by decide) this).symm
  · exact ((h01.trans h15 (fun _ _ e => e)).mono (fun _ _ e => e.elim)).put q 0 (fun _ => .inl rfl) _
  · cases hA : A5.map (·.block) with
    | none => exact .inr (.inl rfl)
    | some k => exact .inr (.inr ⟨k, rfl, Nat.le_trans h01.size (ho5.lt k (by rw [own_block]; exact hA)).1⟩)
set_option maxRecDepth 100000 in
set_option maxHeartbeats 8000000 in
theorem rput18_any {w : World} {b q : Nat} {o : Option Nat} {x : NV18} (h : DN w b q o x) (hroom : x.room ≤ 4096) (hlost : 0 ≤ x.lost ∧ x.lost ≤ 1000000000000) (t : IT18) : Calls Try.prog 33 #[.pointer (some ⟨q, 0, none⟩), .agg #[.int .i64 t.ki, .int .i64 t.ch, .string ⟨t.bs.toArray⟩]] w (RPutP18 b q o x t w) := by
  obtain ⟨i0, hi0, hz0, hz1, hz2⟩ := info_parts infoRi18
  have HBW := Lib.hid (show b ≤ w.heap.size by have := h.lt.1; omega)
  have HLO := Lib.hid hlost
  have HX0 := Lib.hid ((Chg.refl (fun _ => False) w).alloc (.cells #[.int .i64 t.ki, .int .i64 t.ch, .string ⟨t.bs.toArray⟩] 49))
  have HQB : Hid (Blk (w.alloc (.cells #[.int .i64 t.ki, .int .i64 t.ch, .string ⟨t.bs.toArray⟩] 49)) w.heap.size 49 #[.int .i64 t.ki, .int .i64 t.ch, .string ⟨t.bs.toArray⟩]) := Lib.hid (blk_new rfl)
  have HR := Lib.hid (fun W => rright18 t W)
  obtain ⟨L, m, lc, hb, ho, hn, rfl, hbq⟩ := h.new HX0.out
  have HB := Lib.hid hb
  have HO := Lib.hid ho
  have HN := Lib.hid hn
  have HBQ := Lib.hid hbq
  have HII : Hid (inI18 x t = (okI18 t && decide ((m : Int) < x.room))) := Lib.hid (by rw [hn]; rfl)
  have HSS : Hid (rput18 x t = if inI18 x t = true then ⟨x.room, x.lost, x.l ++ [t]⟩ else ⟨x.room, x.lost + 1, x.l⟩) := Lib.hid rfl
  have hcap := own_cap ho
  unfold maxLen at hcap
  unfold RPutP18
  clear hb ho hn hbq h hlost
  cases hok : okI18 t
  case false =>
    have HI := Lib.hid (show inI18 x t = false by rw [HII.out, hok]; rfl)
    have HS := Lib.hid (show rput18 x t = ⟨x.room, x.lost + 1, x.l⟩ by rw [HSS.out, HI.out]; rfl)
    rw [hok] at HR
    clear HII HSS hok
    go_enter Try.func33, Try.ntmps33
    go_upto_region 1 with fail
    generalize w.alloc (.cells #[.int .i64 t.ki, .int .i64 t.ch, .string ⟨t.bs.toArray⟩] 49) = w1 at *
    generalize w.heap.size = Q0 at HQB ⊢
    obtain ⟨y0, y1, y2⟩ := it_cells HQB.out
    go_wp2_with fail
    refine (HR.out _).mono ?_
    rintro e w2 ⟨rfl, hc⟩
    replace HX1 := Lib.hid (HX0.out.trans hc (fun _ _ e => e))
    replace HB := Lib.hid (HB.out.chg hc id)
    replace HO := Lib.hid (own_chg HO.out hc (fun _ _ => id))
    clear hc y0 y1 y2
    go_wp2_with fail
    go_quiet (fail)
    replace HX1 := Lib.hid (HX1.out.drewN nq)
    replace HB := Lib.hid (HB.out.drewN nq)
    replace HO : Hid ((w2.drewN nq).ownsRow b 49 3 (.slice L m lc) m (itF x.l)) := Lib.hid HO.out
    generalize w2.drewN nq = w3 at *
    have hw64 : wrap64 (x.lost + 1) = x.lost + 1 := by have := HLO.out; unfold wrap64; omega
    obtain ⟨c0, c1, c2, f0, f2⟩ := rn_cells HB.out
    obtain ⟨hd, hm⟩ := DN.lost ⟨L, m, lc, HB.out, HO.out, HN.out, rfl, HBQ.out⟩ (x.lost + 1)
    have HD := Lib.hid hd
    have HM := Lib.hid (Mvd.pre HX1.out hm)
    clear hd hm
    go_wp2_with fail
    go_ret
    exact ⟨by rw [HI.out]; rfl, _, by rw [HS.out]; exact HD.out, HM.out⟩
  rw [hok] at HR
  by_cases hf : (m : Int) < x.room
  case neg =>
    have HI := Lib.hid (show inI18 x t = false by rw [HII.out, hok]; simp; omega)
    have HS := Lib.hid (show rput18 x t = ⟨x.room, x.lost + 1, x.l⟩ by rw [HSS.out, HI.out]; rfl)
    have hle : x.room ≤ (m : Int) := by omega
    have hle2 : decide (x.room ≤ (m : Int)) = true := by simpa using hle
    clear HII HSS hok hf
    go_enter Try.func33, Try.ntmps33
    go_upto_region 1 with fail
    generalize w.alloc (.cells #[.int .i64 t.ki, .int .i64 t.ch, .string ⟨t.bs.toArray⟩] 49) = w1 at *
    generalize w.heap.size = Q0 at HQB ⊢
    obtain ⟨y0, y1, y2⟩ := it_cells HQB.out
    go_wp2_with fail
    refine (HR.out _).mono ?_
    rintro e w2 ⟨rfl, hc⟩
    replace HX1 := Lib.hid (HX0.out.trans hc (fun _ _ e => e))
    replace HB := Lib.hid (HB.out.chg hc id)
    replace HO := Lib.hid (own_chg HO.out hc (fun _ _ => id))
    clear hc y0 y1 y2
    obtain ⟨c0, c1, c2, f0, f2⟩ := rn_cells HB.out
    go_wp2_with fail
    go_quiet (fail)
    replace HX1 := Lib.hid (HX1.out.drewN nq)
    replace HB := Lib.hid (HB.out.drewN nq)
    replace HO : Hid ((w2.drewN nq).ownsRow b 49 3 (.slice L m lc) m (itF x.l)) := Lib.hid HO.out
    clear c0 c1 c2 f0 f2
    generalize w2.drewN nq = w3 at *
    have hw64 : wrap64 (x.lost + 1) = x.lost + 1 := by have := HLO.out; unfold wrap64; omega
    obtain ⟨c0, c1, c2, f0, f2⟩ := rn_cells HB.out
    obtain ⟨hd, hm⟩ := DN.lost ⟨L, m, lc, HB.out, HO.out, HN.out, rfl, HBQ.out⟩ (x.lost + 1)
    have HD := Lib.hid hd
    have HM := Lib.hid (Mvd.pre HX1.out hm)
    clear hd hm
    go_wp2_with fail
    go_ret
    exact ⟨by rw [HI.out]; rfl, _, by rw [HS.out]; exact HD.out, HM.out⟩
  have HI := Lib.hid (show inI18 x t = true by rw [HII.out, hok]; simp; omega)
  have HS := Lib.hid (show rput18 x t = ⟨x.room, x.lost, x.l ++ [t]⟩ by rw [HSS.out, HI.out]; rfl)
  have hle : ¬ x.room ≤ (m : Int) := by omega
  have hle2 : decide (x.room ≤ (m : Int)) = false := by simpa using hle
  have hm4 : m ≤ 4096 := by omega
  clear HII HSS hok hf
  go_enter Try.func33, Try.ntmps33
  go_upto_region 1 with fail
  generalize w.alloc (.cells #[.int .i64 t.ki, .int .i64 t.ch, .string ⟨t.bs.toArray⟩] 49) = w1 at *
  generalize w.heap.size = Q0 at HQB ⊢
  obtain ⟨y0, y1, y2⟩ := it_cells HQB.out
  go_wp2_with fail
  refine (HR.out _).mono ?_
  rintro e w2 ⟨rfl, hc⟩
  replace HX1 := Lib.hid (HX0.out.trans hc (fun _ _ e => e))
  replace HB := Lib.hid (HB.out.chg hc id)
  replace HO := Lib.hid (own_chg HO.out hc (fun _ _ => id))
  replace HQB := Lib.hid (HQB.out.chg hc id)
  clear hc y0 y1 y2
  obtain ⟨c0, c1, c2, f0, f2⟩ := rn_cells HB.out
  go_wp2_with fail
  go_quiet (fail)
  replace HX1 := Lib.hid (HX1.out.drewN nq)
  replace HB := Lib.hid (HB.out.drewN nq)
  replace HO : Hid ((w2.drewN nq).ownsRow b 49 3 (.slice L m lc) m (itF x.l)) := Lib.hid HO.out
  replace HQB := Lib.hid (HQB.out.drewN nq)
  clear c0 c1 c2 f0 f2
  go_upto_region 5 with fail
  generalize w2.drewN nq = w3 at *
  obtain ⟨c0, c1, c2, f0, f2⟩ := rn_cells (HB.out.alloc (.cells #[] 49))
  have hmade := own_empty18 w3 49 3
  have HSRC := Lib.hid (own_rdn18 (HO.out.alloc (.cells #[] 49)))
  go_upto_region 6 with (at_builtin; refine wpList_app18 _ rfl (.tmp 30) (.tmp 34) 30 rfl w3.heap.size 49 i0 _ 3 32 Try.underlying30 hi0 hz0 hz1 hz2 rfl (by decide) (.slice (some ⟨w3.heap.size, 0, none⟩) 0 0) 0 [] rfl hmade L m lc (itF x.l) rfl HSRC.out.1 HSRC.out.2.1 HSRC.out.2.2 (itF_one x.l) (by unfold maxLen; omega) (by omega) (by simp) ?_; intro v4 w4 hown4 hg4 hat4; obtain ⟨A4, c4, rfl, _, _⟩ := own_form hown4; simp only [Nat.zero_add, List.nil_append] at hown4 ⊢; have HO4 := Lib.hid hown4; have HX4 := Lib.hid (grown_fresh ((Chg.refl (fun _ => False) w3).alloc _) hg4 hmade (Nat.le_refl _)); clear hmade hown4 hg4 hat4)
  obtain ⟨y0, y1, y2⟩ := it_cells (HQB.out.chg HX4.out id)
  have hown5 := HO4.out.alloc (.cells #[.int .i64 t.ki, .int .i64 t.ch, .string ⟨t.bs.toArray⟩] 49)
  have hnew := new_cells18 w4 49 [.int .i64 t.ki, .int .i64 t.ch, .string ⟨t.bs.toArray⟩]
  have hbase : w3.heap.size ≤ (w4.alloc (.cells #[.int .i64 t.ki, .int .i64 t.ch, .string ⟨t.bs.toArray⟩] 49)).heap.size := Nat.le_trans HX4.out.size (by simp)
  clear c0 c1 c2 f0 f2
  go_wp2_with (at_builtin; go_loud (refine wpList_app18 _ rfl (.tmp 36) (.tmp 38) 30 rfl w3.heap.size 49 i0 _ 3 32 Try.underlying30 hi0 hz0 hz1 hz2 rfl (by decide) (.slice A4 m c4) m (itF x.l) rfl hown5 (some ⟨w4.heap.size, 0, none⟩) 1 1 [.int .i64 t.ki, .int .i64 t.ch, .string ⟨t.bs.toArray⟩] rfl rfl (fun e => by cases e) (fun ad e => by injection e with e; subst e; exact hnew) (by simp [Value.oneCell']) (by unfold maxLen; omega) (by omega) hbase ?_); intro v6 w6 hown6 hg6 hat6; obtain ⟨A6, c6, rfl, _, _⟩ := own_form hown6; have HO6 := Lib.hid hown6; have HX6 := Lib.hid (grown_fresh (HX4.out.alloc _) hg6 hown5 (Nat.le_refl _)); have hb6 := HB.out.chg HX6.out id; have u0 := (rn_cells hb6).1; have uf := (rn_cells hb6).2.2.2.1; clear hown5 hnew hbase hown6 hg6 hat6)
  obtain ⟨hd, hm⟩ := DN.fresh (o := L.map (·.block)) (HB.out.chg HX6.out id) HBQ.out (Nat.le_trans HBW.out HX1.out.size) (l := x.l ++ [t]) (by rw [itF_app]; simpa [itF, IT18.cs] using HO6.out) HX1.out HX6.out
  have HD := Lib.hid hd
  have HM := Lib.hid hm
  clear hd hm
  go_wp2_with fail
  go_ret
  exact ⟨by rw [HI.out]; rfl, _, by rw [HS.out]; exact HD.out, HM.out⟩

end Go.Proofs.Ythajmplheecepaa
