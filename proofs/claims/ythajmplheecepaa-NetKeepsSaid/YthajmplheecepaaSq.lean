/-
  Walk: rutterlaw18.alive. No condition.
-/
import Derived.Test.YthajmplheecepaaSp
namespace Go.Proofs.Ythajmplheecepaa
open Go.RowKit
set_option linter.unusedVariables false
set_option linter.unusedSimpArgs false
attribute [local go_sem] Oper.semAt_some

def AI18.ic (x : AI18) : IC18 := ⟨x.ki, x.ch, x.A, x.n, x.c⟩
/-- A block that is just these items. -/
theorem ir_blk18 {w : World} {g : Nat} {cs : Array Value} {S : Nat → Prop} (l : List AI18) (hb : Blk w g 40 cs) (hcs : cs.toList = icF (l.map AI18.ic)) (hS : S g)
    (hl : ∀ x ∈ l, x.n = x.bs.length ∧ x.n ≤ 9223372036854775807 ∧ (x.A = none → x.c = 0) ∧ Rds w S x.A x.n (bcs x.bs)) : IR18 w S (some ⟨g, 0, none⟩) l.length l := by
  refine ⟨rfl, fun _ => ⟨⟨g, 0, none⟩, rfl, hS, hb.lt, fun i x hi => ?_⟩⟩
  have e : ∀ t, (⟨g, 0, none⟩ : Addr).add t = ⟨g, t, none⟩ := fun t => by unfold Addr.add; split <;> simp_all
  have hx : (l.map AI18.ic)[i]? = some x.ic := by rw [List.getElem?_map, hi]; rfl
  have q : ∀ k u, k < 3 → x.ic.cs[k]? = some u → w.cell? ((⟨g, 0, none⟩ : Addr).add (i * 3 + k)) = some u := fun k u hk hu => by
    rw [e, hb.cell, ← Array.getElem?_toList, hcs, icF_at _ i _ hx k hk, hu]
  exact ⟨q 0 _ (by omega) rfl, q 1 _ (by omega) rfl, q 2 _ (by omega) rfl, hl x (List.mem_of_getElem? hi)⟩
def av0 : NV18 := ⟨2, 0, []⟩
def av1 : NV18 := ⟨2, 2, [⟨1, 4, [97, 98]⟩, ⟨0, 15, []⟩]⟩
def av2 : NV18 := ⟨2, 2, [⟨0, 15, []⟩]⟩
def av3 : NV18 := ⟨2, 2, [⟨0, 15, []⟩, ⟨0, 15, []⟩]⟩
def avl (A : Option Addr) : List AI18 := [⟨1, 4, A, 2, 2, [97, 98]⟩, ⟨3, 0, none, 0, 0, []⟩, ⟨0, 15, none, 0, 0, []⟩, ⟨0, 0, none, 0, 0, []⟩]
theorem av_put (A : Option Addr) : came18 av0 ((avl A).map AI18.it) = 2 ∧ netP18 av0 ((avl A).map AI18.it) = av1 := ⟨by kernel_rfl, by kernel_rfl⟩
theorem av_dbl : dblE av1 0 = 3 ∧ dblS av1 0 = av1 := ⟨by kernel_rfl, by kernel_rfl⟩
theorem av_fnd : fnd18 0 15 av1.l 0 = 1 := by kernel_rfl
theorem av_tak : lackE av1 0 = 0 ∧ at18 av1 0 = ⟨1, 4, [97, 98]⟩ ∧ tak18 av1 0 = av2 := ⟨by kernel_rfl, by kernel_rfl, by kernel_rfl⟩
theorem av_dbl2 : dblE av2 0 = 0 ∧ dblS av2 0 = av3 := ⟨by kernel_rfl, by kernel_rfl⟩
theorem av_at : lackE av3 1 = 0 ∧ at18 av3 1 = ⟨0, 15, []⟩ := ⟨by kernel_rfl, by kernel_rfl⟩
set_option maxRecDepth 100000 in
set_option maxHeartbeats 8000000 in
theorem alive18_any (w : World) : Calls Try.prog 6 #[] w fun e w' => e = .returned (.bool true) ∧ Chg (fun _ => False) w w' := by
  have HNW := Lib.hid (nnew18_ok 2 w w.heap.size (Nat.le_refl _) (by decide))
  go_enter Try.func6, Try.ntmps6
  go_wp2_with fail
  refine HNW.out.mono ?_
  rintro e w1 ⟨rfl, hn1, hc1⟩
  have HX1 := Lib.hid hc1
  have HN1 := Lib.hid hn1
  have kc := Go.Joins.run_convert_bytes_const_at (P := Try.prog) w1 38 5 #[.int .u8 97, .int .u8 98] 2 2 w1.heap.size rfl Try.underlying38 Try.underlying5
  simp only [List.size_toArray, List.length_cons, List.length_nil, Nat.zero_add, Nat.reduceAdd] at kc
  clear hn1 hc1 HNW
  generalize hp : w.heap.size = p at *
  have HP := Lib.hid hp
  clear hp
  have hc2 : Chg (fun _ => False) w1 ((w1.alloc (.cells #[.int .u8 97, .int .u8 98] 5 (2, 3))).alloc (.cells #[.int .i64 1, .int .i64 4, .slice (some ⟨w1.heap.size, 0, none⟩) 2 2, .int .i64 3, .int .i64 0, .slice none 0 0, .int .i64 0, .int .i64 15, .slice none 0 0, .int .i64 0, .int .i64 0, .slice none 0 0] 40)) := ((Chg.refl (fun _ => False) w1).alloc (.cells #[.int .u8 97, .int .u8 98] 5 (2, 3))).alloc (.cells #[.int .i64 1, .int .i64 4, .slice (some ⟨w1.heap.size, 0, none⟩) 2 2, .int .i64 3, .int .i64 0, .slice none 0 0, .int .i64 0, .int .i64 15, .slice none 0 0, .int .i64 0, .int .i64 0, .slice none 0 0] 40)
  have hit : Blk ((w1.alloc (.cells #[.int .u8 97, .int .u8 98] 5 (2, 3))).alloc (.cells #[.int .i64 1, .int .i64 4, .slice (some ⟨w1.heap.size, 0, none⟩) 2 2, .int .i64 3, .int .i64 0, .slice none 0 0, .int .i64 0, .int .i64 15, .slice none 0 0, .int .i64 0, .int .i64 0, .slice none 0 0] 40)) (w1.heap.size + 1) 40 #[.int .i64 1, .int .i64 4, .slice (some ⟨w1.heap.size, 0, none⟩) 2 2, .int .i64 3, .int .i64 0, .slice none 0 0, .int .i64 0, .int .i64 15, .slice none 0 0, .int .i64 0, .int .i64 0, .slice none 0 0] := blk_new (by simp)
  have hr2 : Rds ((w1.alloc (.cells #[.int .u8 97, .int .u8 98] 5 (2, 3))).alloc (.cells #[.int .i64 1, .int .i64 4, .slice (some ⟨w1.heap.size, 0, none⟩) 2 2, .int .i64 3, .int .i64 0, .slice none 0 0, .int .i64 0, .int .i64 15, .slice none 0 0, .int .i64 0, .int .i64 0, .slice none 0 0] 40)) (fun k => w1.heap.size ≤ k) (some ⟨w1.heap.size, 0, none⟩) 2 (bcs [97, 98]) := ((rds_alloc w1 5 #[.int .u8 97, .int .u8 98] (2, 3)).alloc _).mono (fun k hk => by rw [hk]; exact Nat.le_refl _)
  have HIR := Lib.hid (ir_blk18 (S := fun k => w1.heap.size ≤ k) (avl (some ⟨w1.heap.size, 0, none⟩)) hit rfl (Nat.le_succ _) (fun x hx => by
    simp only [avl, List.mem_cons, List.not_mem_nil, or_false] at hx
    rcases hx with rfl | rfl | rfl | rfl
    · exact ⟨rfl, (show 2 ≤ 9223372036854775807 by decide), (fun e => by cases e), hr2⟩
    · exact ⟨rfl, by decide, (fun _ => rfl), Rds.nil _ _ _⟩
    · exact ⟨rfl, by decide, (fun _ => rfl), Rds.nil _ _ _⟩
    · exact ⟨rfl, by decide, (fun _ => rfl), Rds.nil _ _ _⟩))
  have HPU := Lib.hid (nput18 (HN1.out.new hc2) (by decide) _ 4 4 _ _ HIR.out (fun k hk e => by
    rcases e with e | e
    · have := HN1.out.lt.1
      omega
    · cases e) (by decide) (by decide))
  unfold PutP18 at HPU
  rw [show (⟨2, 0, []⟩ : NV18) = av0 from rfl, (av_put _).1, (av_put _).2] at HPU
  have HX2 := Lib.hid (HX1.out.trans hc2 (fun _ _ e => e))
  have HN2 := Lib.hid (HN1.out.new hc2)
  clear hc2 hit hr2 HIR
  go_wp2_with fail
  refine HPU.out.mono ?_
  rintro e w3 ⟨rfl, o3, hn3, hm⟩
  have hn0 := HN2.out
  have HX3 := Lib.hid (chg_mvd18 HX2.out (by rw [HP.out]; exact hn0.lt.1.1) (fun k hk => by rw [HP.out]; exact (hn0.lt.2 k hk).1) hm)
  have HDB := Lib.hid (ndouble18 hn3 (by decide) 0)
  unfold DblP18 at HDB
  rw [av_dbl.1, av_dbl.2] at HDB
  have HN3 := Lib.hid hn3
  clear hn0 hm hn3 HPU HN2 HN1 HX1 HX2
  go_wp2_with fail
  refine HDB.out.mono ?_
  rintro e w4 ⟨rfl, o4, hn4, hm⟩
  have hn0 := HN3.out
  have HX4 := Lib.hid (chg_mvd18 HX3.out (by rw [HP.out]; exact hn0.lt.1.1) (fun k hk => by rw [HP.out]; exact (hn0.lt.2 k hk).1) hm)
  have HFI := Lib.hid (nfind18 hn4 0 15)
  rw [av_fnd] at HFI
  have HN4 := Lib.hid hn4
  clear hn0 hm hn4 HDB HN3 HX3
  go_wp2_with fail
  refine HFI.out.mono ?_
  rintro e w5 ⟨rfl, hc⟩
  have HX5 := Lib.hid (HX4.out.trans hc (fun _ _ e => e))
  have HN5 := Lib.hid (HN4.out.new hc)
  have HTA := Lib.hid (ntake18 HN5.out 0)
  unfold TakP18 at HTA
  rw [av_tak.1, av_tak.2.1, av_tak.2.2] at HTA
  clear hc HFI HN4 HX4
  go_wp2_with fail
  refine HTA.out.mono ?_
  rintro e w6 ⟨⟨ki, ch, A, n, c⟩, rfl, ⟨h1, h2, h3, how⟩, o6, hn6, hm⟩
  simp only at h1 h2 h3 how
  subst h1 h2 h3
  have hn0 := HN5.out
  have HX6 := Lib.hid (chg_mvd18 HX5.out (by rw [HP.out]; exact hn0.lt.1.1) (fun k hk => by rw [HP.out]; exact (hn0.lt.2 k hk).1) hm)
  have HIM : Hid (ItM w6 p ⟨1, 4, A, 2, c⟩ ⟨1, 4, [97, 98]⟩) := Lib.hid ⟨rfl, rfl, rfl, how⟩
  have HQ6 := Lib.hid (show p < w6.heap.size ∧ ∀ k, o6 = some k → k < w6.heap.size from ⟨hn6.lt.1.2, fun k hk => (hn6.lt.2 k hk).2⟩)
  have hc6 := (Chg.refl (fun _ => False) w6).alloc (.cells #[.int .i64 1, .int .i64 4, .slice A 2 c] 40)
  have HB6 : Hid (Blk (w6.alloc (.cells #[.int .i64 1, .int .i64 4, .slice A 2 c] 40)) w6.heap.size 40 #[.int .i64 1, .int .i64 4, .slice A 2 c]) := Lib.hid (blk_new rfl)
  have HN6 := Lib.hid (hn6.new hc6)
  replace HX6 := Lib.hid (HX6.out.trans hc6 (fun _ _ e => e))
  replace HIM := Lib.hid (HIM.out.chg hc6 (fun _ _ _ _ => id))
  clear hn0 hm how hn6 hc6 HTA HN5 HX5
  simp only [show (([97, 98] : List UInt8).length) = 2 from rfl]
  go_upto_region 6 with fail
  generalize w6.alloc (.cells #[.int .i64 1, .int .i64 4, .slice A 2 c] 40) = w7 at *
  generalize w6.heap.size = Q6 at *
  have HD2 := Lib.hid (ndouble18 HN6.out (by decide) 0)
  unfold DblP18 at HD2
  rw [av_dbl2.1, av_dbl2.2] at HD2
  go_wp2_with fail
  refine HD2.out.mono ?_
  rintro e w8 ⟨rfl, o8, hn8, hm⟩
  have hn0 := HN6.out
  have HX8 := Lib.hid (chg_mvd18 HX6.out (by rw [HP.out]; exact hn0.lt.1.1) (fun k hk => by rw [HP.out]; exact (hn0.lt.2 k hk).1) hm)
  replace HB6 := Lib.hid (HB6.out.chg hm.1 (fun e => by
    rcases e with e | e
    · have := HQ6.out.1; omega
    · exact absurd (HQ6.out.2 _ e) (Nat.lt_irrefl _)))
  replace HIM := Lib.hid (HIM.out.chg hm.1 (fun k cs fr hk => hn0.ne hk (by decide) (by decide)))
  have HAT := Lib.hid (nat18 hn8 1)
  unfold AtP18 at HAT
  rw [av_at.1, av_at.2] at HAT
  have HN8 := Lib.hid hn8
  clear hn0 hm hn8 HD2 HN6 HX6 HQ6
  go_wp2_with fail
  refine HAT.out.mono ?_
  rintro e w9 ⟨⟨ki, ch, A9, n9, c9⟩, rfl, ⟨h1, h2, -, -⟩, hc⟩
  simp only at h1 h2
  subst h1 h2
  have hc9 := hc.alloc (.cells #[.int .i64 0, .int .i64 15, .slice A9 n9 c9] 40)
  have HX9 := Lib.hid (HX8.out.trans hc9 (fun _ _ e => e))
  have HN9 := Lib.hid (HN8.out.new hc9)
  replace HB6 := Lib.hid (HB6.out.chg hc9 id)
  replace HIM := Lib.hid (HIM.out.chg hc9 (fun _ _ _ _ => id))
  have HB9 : Hid (Blk (w9.alloc (.cells #[.int .i64 0, .int .i64 15, .slice A9 n9 c9] 40)) w9.heap.size 40 #[.int .i64 0, .int .i64 15, .slice A9 n9 c9]) := Lib.hid (blk_new rfl)
  clear hc hc9 HAT HN8 HX8
  go_upto_region 8 with fail
  generalize w9.alloc (.cells #[.int .i64 0, .int .i64 15, .slice A9 n9 c9] 40) = wa at *
  generalize w9.heap.size = Q9 at *
  have hcv := conv_str (P := Try.prog) (c := c) 38 9 5 Try.underlying38 Try.underlying5 Try.underlying9 HIM.out.rds
  obtain ⟨y0, y1, y2⟩ := it_cells HB6.out
  obtain ⟨u0, u1, u2⟩ := it_cells HB9.out
  have HLO := Lib.hid (nlost18 HN9.out)
  have HLE := Lib.hid (nlen18 HN9.out)
  go_wp2_with fail
  refine HLO.out.mono ?_
  rintro e _ ⟨rfl, rfl⟩
  go_wp2_with fail
  refine HLE.out.mono ?_
  rintro e _ ⟨rfl, rfl⟩
  go_wp2_with fail
  go_ret
  exact ⟨rfl, HX9.out⟩

end Go.Proofs.Ythajmplheecepaa
