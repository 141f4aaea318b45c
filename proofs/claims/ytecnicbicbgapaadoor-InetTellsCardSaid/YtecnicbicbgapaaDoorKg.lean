/-
  Walks: rutterref04.head, Make. Conditions: the flow may be; the body is read in memory.
-/
import Derived.Test.YtecnicbicbgapaaDoorKq
import Derived.Test.YtecnicbicbgapaaDoorVa
namespace Go.Proofs.YtecnicbicbgapaaDoor
open Go.RowKit
set_option linter.unusedVariables false

theorem six_cells (pr : Int) (hp : 0 ≤ pr ∧ pr ≤ 255) : bcs ([0, 0, 0, 0, 64] ++ be 1 pr.toNat) = [.int .u8 0, .int .u8 0, .int .u8 0, .int .u8 0, .int .u8 64, .int .u8 pr] := by
  have e : be 1 pr.toNat = [UInt8.ofNat pr.toNat] := by simp [be]
  have e2 : ((UInt8.ofNat pr.toNat).toNat : Int) = pr := by rw [UInt8.toNat_ofNat']; omega
  rw [e]
  show [Value.int .u8 0, .int .u8 0, .int .u8 0, .int .u8 0, .int .u8 64, .int .u8 ((UInt8.ofNat pr.toNat).toNat : Int)] = _
  rw [e2]
theorem bcs_all (l : List Value) (b : List UInt8) (h : l = bcs b) : ∀ u ∈ l, u.oneCell' = true := by
  rw [h]
  exact bcs_one b

set_option maxHeartbeats 2000000 in
theorem rhead_any (pr src dst sp dp n ck : Int) (w : World) (hp : 0 ≤ pr ∧ pr ≤ 255) (hn : 0 ≤ n) (hck : 0 ≤ ck) (hs : 0 ≤ src ∧ src ≤ 4294967295) (hd : 0 ≤ dst ∧ dst ≤ 4294967295) :
    Calls Tryd.prog 18 #[.agg (flC pr src dst sp dp), .int .i64 n, .int .i64 ck] w fun e w' => ∃ A c, e = .returned (.slice A 20 c) ∧ w'.ownsRow w.heap.size 5 1 (.slice A 20 c) 20 (bcs (hdB n pr ck src dst)) ∧ Chg (fun _ => False) w w' := by
  obtain ⟨i0, hi0, hz0, hz1, hz2⟩ := info_parts infoByte
  unfold flC
  have hb0 : Blk (w.alloc (.cells #[.int .i64 pr, .int .u32 src, .int .u32 dst, .int .i64 sp, .int .i64 dp] 24)) w.heap.size 24 (flC pr src dst sp dp) := blk_new rfl
  have hC := ((Chg.refl (fun _ => False) w).alloc (.cells #[.int .i64 pr, .int .u32 src, .int .u32 dst, .int .i64 sp, .int .i64 dp] 24)).alloc (.cells #[.int .u8 69, .int .u8 0] 5)
  have hCb := (Chg.refl (fun _ => False) (w.alloc (.cells #[.int .i64 pr, .int .u32 src, .int .u32 dst, .int .i64 sp, .int .i64 dp] 24))).alloc (.cells #[.int .u8 69, .int .u8 0] 5)
  have hown : ((w.alloc (.cells #[.int .i64 pr, .int .u32 src, .int .u32 dst, .int .i64 sp, .int .i64 dp] 24)).alloc (.cells #[.int .u8 69, .int .u8 0] 5)).ownsRow (w.heap.size + 1) 5 1 (.slice (some ⟨w.heap.size + 1, 0, none⟩) 2 2) 2 (bcs [69, 0]) :=
    ⟨rfl, .inr ⟨w.heap.size + 1, 2, #[.int .u8 69, .int .u8 0], rfl, Nat.le_refl _, by simpa using heap_alloc_new (w.alloc (.cells #[.int .i64 pr, .int .u32 src, .int .u32 dst, .int .i64 sp, .int .i64 dp] 24)) (.cells #[.int .u8 69, .int .u8 0] 5), by decide, by decide, rfl, rfl⟩⟩
  have hz : (w.alloc (.cells #[.int .i64 pr, .int .u32 src, .int .u32 dst, .int .i64 sp, .int .i64 dp] 24)).heap.size = w.heap.size + 1 := by simp
  have HB := Lib.hid hb0
  have HP := Lib.hid hp
  have HC := Lib.hid hC
  have HCb := Lib.hid hCb
  have HO := Lib.hid hown
  clear hb0 hC hCb hown
  go_enter Tryd.func18, Tryd.ntmps18
  go_wp2_with fail
  refine (one_any 2 n _ (by decide) (by decide) (by omega)).mono ?_
  rintro e v0 ⟨A0, k0, c0, rfl, rfl, hown0, hc0⟩
  have hC := HC.out.trans hc0 (fun _ _ e => e)
  have hCb := HCb.out.trans hc0 (fun _ _ e => e)
  have hown := own_chg HO.out hc0 (fun _ _ => id)
  have hsz := hCb.size
  rw [hz] at hsz
  have hr := own_rds2 hown0
  clear hc0 hown0 HC HCb HO
  try clear y0 y1 y2 y3 y4
  go_wp2_with (first
    | (at_builtin; refine wpList_own_append _ rfl (.tmp 9) (.tmp 11) 25 rfl _ 5 i0 (.int .u8 0) 1 Tryd.underlying25 hi0 hz0 hz1 hz2 rfl (.slice (some ⟨w.heap.size + 1, 0, none⟩) 2 2) 2 _ rfl hown _ A0 2 c0 _ rfl hr (bcs_one _) (by decide) (by decide) hsz ?_; intro vv u0 hown' hg hat; obtain ⟨D0, dc0, rfl, _, _⟩ := own_form hown'; have hC' := grown_fresh hC hg hown (Nat.le_succ _); have hCb' := grown_fresh hCb hg hown (by rw [hz]; exact Nat.le_refl _); have HO := Lib.hid hown'; have HC := Lib.hid hC'; have HCb := Lib.hid hCb'; obtain ⟨y0, y1, y2, y3, y4⟩ := fl_kept HB.out hCb'; clear hown' hC' hCb' hg hat hown hr hC hCb hsz)
    | (at_builtin; have hcc := (Chg.refl (fun _ => False) u0).alloc (.cells #[.int .u8 0, .int .u8 0, .int .u8 0, .int .u8 0, .int .u8 64, .int .u8 pr] 5); have hown := own_chg HO.out hcc (fun _ _ => id); have hC := HC.out.trans hcc (fun _ _ e => e); have hCb := HCb.out.trans hcc (fun _ _ e => e); have hsz := hCb.size; rw [hz] at hsz; have hr := rds_new1 u0 5 #[.int .u8 0, .int .u8 0, .int .u8 0, .int .u8 0, .int .u8 64, .int .u8 pr] (0, 0) _ rfl _ 6 rfl rfl; clear hcc HO HC HCb y0 y1 y2 y3 y4; refine wpList_own_append _ rfl (.tmp 13) (.tmp 17) 25 rfl _ 5 i0 (.int .u8 0) 1 Tryd.underlying25 hi0 hz0 hz1 hz2 rfl (.slice D0 4 dc0) 4 _ rfl hown _ (some ⟨u0.heap.size, 0, none⟩) 6 6 _ rfl hr (bcs_all _ _ (six_cells pr hp).symm) (by decide) (by decide) hsz ?_; intro vv u1 hown' hg hat; obtain ⟨D1, dc1, rfl, _, _⟩ := own_form hown'; have hC' := grown_fresh hC hg hown (Nat.le_succ _); have hCb' := grown_fresh hCb hg hown (by rw [hz]; exact Nat.le_refl _); have HO := Lib.hid hown'; have HC := Lib.hid hC'; have HCb := Lib.hid hCb'; obtain ⟨y0, y1, y2, y3, y4⟩ := fl_kept HB.out hCb'; clear hown' hC' hCb' hg hat hown hr hC hCb hsz))
  refine (one_any 2 ck _ (by decide) (by decide) (by omega)).mono ?_
  rintro e v2 ⟨A2, k2, c2, rfl, rfl, hown2, hc2⟩
  have hC := HC.out.trans hc2 (fun _ _ e => e)
  have hCb := HCb.out.trans hc2 (fun _ _ e => e)
  have hown := own_chg HO.out hc2 (fun _ _ => id)
  have hsz := hCb.size
  rw [hz] at hsz
  have hr := own_rds2 hown2
  clear hc2 hown2 HC HCb HO
  try clear y0 y1 y2 y3 y4
  go_wp2_with (at_builtin; refine wpList_own_append _ rfl (.tmp 19) (.tmp 21) 25 rfl _ 5 i0 (.int .u8 0) 1 Tryd.underlying25 hi0 hz0 hz1 hz2 rfl (.slice D1 10 dc1) 10 _ rfl hown _ A2 2 c2 _ rfl hr (bcs_one _) (by decide) (by decide) hsz ?_; intro vv u2 hown' hg hat; obtain ⟨D2, dc2, rfl, _, _⟩ := own_form hown'; have hC' := grown_fresh hC hg hown (Nat.le_succ _); have hCb' := grown_fresh hCb hg hown (by rw [hz]; exact Nat.le_refl _); have HO := Lib.hid hown'; have HC := Lib.hid hC'; have HCb := Lib.hid hCb'; obtain ⟨y0, y1, y2, y3, y4⟩ := fl_kept HB.out hCb'; clear hown' hC' hCb' hg hat hown hr hC hCb hsz)
  refine (one_any 4 src _ (by decide) (by decide) (by omega)).mono ?_
  rintro e v3 ⟨A3, k3, c3, rfl, rfl, hown3, hc3⟩
  have hC := HC.out.trans hc3 (fun _ _ e => e)
  have hCb := HCb.out.trans hc3 (fun _ _ e => e)
  have hown := own_chg HO.out hc3 (fun _ _ => id)
  have hsz := hCb.size
  rw [hz] at hsz
  have hr := own_rds2 hown3
  clear hc3 hown3 HC HCb HO
  try clear y0 y1 y2 y3 y4
  go_wp2_with (at_builtin; refine wpList_own_append _ rfl (.tmp 23) (.tmp 27) 25 rfl _ 5 i0 (.int .u8 0) 1 Tryd.underlying25 hi0 hz0 hz1 hz2 rfl (.slice D2 12 dc2) 12 _ rfl hown _ A3 4 c3 _ rfl hr (bcs_one _) (by decide) (by decide) hsz ?_; intro vv u3 hown' hg hat; obtain ⟨D3, dc3, rfl, _, _⟩ := own_form hown'; have hC' := grown_fresh hC hg hown (Nat.le_succ _); have hCb' := grown_fresh hCb hg hown (by rw [hz]; exact Nat.le_refl _); have HO := Lib.hid hown'; have HC := Lib.hid hC'; have HCb := Lib.hid hCb'; obtain ⟨y0, y1, y2, y3, y4⟩ := fl_kept HB.out hCb'; clear hown' hC' hCb' hg hat hown hr hC hCb hsz)
  refine (one_any 4 dst _ (by decide) (by decide) (by omega)).mono ?_
  rintro e v4 ⟨A4, k4, c4, rfl, rfl, hown4, hc4⟩
  have hC := HC.out.trans hc4 (fun _ _ e => e)
  have hCb := HCb.out.trans hc4 (fun _ _ e => e)
  have hown := own_chg HO.out hc4 (fun _ _ => id)
  have hsz := hCb.size
  rw [hz] at hsz
  have hr := own_rds2 hown4
  clear hc4 hown4 HC HCb HO
  try clear y0 y1 y2 y3 y4
  go_wp2_with (at_builtin; refine wpList_own_append _ rfl (.tmp 29) (.tmp 33) 25 rfl _ 5 i0 (.int .u8 0) 1 Tryd.underlying25 hi0 hz0 hz1 hz2 rfl (.slice D3 16 dc3) 16 _ rfl hown _ A4 4 c4 _ rfl hr (bcs_one _) (by decide) (by decide) hsz ?_; intro vv u4 hown' hg hat; obtain ⟨D4, dc4, rfl, _, _⟩ := own_form hown'; have hC' := grown_fresh hC hg hown (Nat.le_succ _); have hCb' := grown_fresh hCb hg hown (by rw [hz]; exact Nat.le_refl _); have HO := Lib.hid hown'; have HC := Lib.hid hC'; have HCb := Lib.hid hCb'; obtain ⟨y0, y1, y2, y3, y4⟩ := fl_kept HB.out hCb'; clear hown' hC' hCb' hg hat hown hr hC hCb hsz)
  go_ret
  refine ⟨D4, dc4, rfl, ?_, HC.out⟩
  have e : bcs (hdB n pr ck src dst) = bcs [69, 0] ++ bcs (be 2 n.toNat) ++ [.int .u8 0, .int .u8 0, .int .u8 0, .int .u8 0, .int .u8 64, .int .u8 pr] ++ bcs (be 2 ck.toNat) ++ bcs (be 4 src.toNat) ++ bcs (be 4 dst.toNat) := by
    rw [← six_cells pr hp]
    unfold hdB
    simp only [bcs_app, List.append_assoc]
  rw [e]
  exact own_base HO.out (Nat.le_succ _)

end Go.Proofs.YtecnicbicbgapaaDoor
