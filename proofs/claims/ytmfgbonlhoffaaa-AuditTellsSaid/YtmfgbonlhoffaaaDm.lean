/-
  Walk: rutterlaw21.alive. No condition.
-/
import Derived.Test.YtmfgbonlhoffaaaDi
namespace Go.Proofs.Ytmfgbonlhoffaaa
open Go.RowKit
set_option linter.unusedVariables false
set_option linter.unusedSimpArgs false
theorem zE21 (w : World) : (zeroValue 38).run Try.prog w = .ok (.agg #[.int .i64 0, .int .i64 0, .int .i64 0, .int .i64 0, .int .i64 0, .int .i64 0, .int .i64 0, .int .i64 0, .int .i64 0, .int .i64 0, .int .i64 0, .int .i64 0, .int .i64 0]) w := by kernel_rfl
theorem add21 (q j : Nat) : (⟨q, 0, none⟩ : Addr).add j = ⟨q, j, none⟩ := by unfold Addr.add; split <;> simp_all
theorem evr_built {w : World} {q : Nat} {T : TypeId} (l : List Ev) {cs : Array Value} (hb : Blk w q T cs) (hc : cs = (evF l).toArray) : EvR w (some ⟨q, 0, none⟩) l.length l := by
  subst hc
  refine ⟨rfl, fun h => ⟨_, rfl, hb.lt, fun i x hi j u hu => ?_⟩⟩
  have hj : j < 13 := (Array.getElem?_eq_some_iff.1 hu).1
  rw [add21, hb.cell, List.getElem?_toArray, evF_at l i x hi j hj, hu]
theorem rds_built21 {w : World} {q : Nat} {T : TypeId} (l : List Int) {cs : Array Value} (hb : Blk w q T cs) (hc : cs = (ics l).toArray) : Rds w (fun _ => True) (some ⟨q, 0, none⟩) l.length (ics l) := by
  subst hc
  refine ⟨ics_len l, fun h => ⟨_, rfl, trivial, hb.lt, fun j u hu => ?_⟩⟩
  rw [add21, hb.cell, List.getElem?_toArray, hu]
def lvA : Ev := ⟨1, 0, 3, 2, 0, 0, 1, 3, 3, 1, 0, 5, 5⟩
def lvB : Ev := ⟨2, 0, 4, 2, 0, 1, 2, 3, 3, 1, 0, 5, 5⟩
def lvC : Ev := ⟨3, 0, 0, 0, 0, 0, 1, 0, 0, 0, 0, 0, 0⟩
def lvD : Ev := ⟨1, 0, 3, 2, 0, 0, 4, 3, 3, 1, 0, 4, 5⟩
def lvE : Ev := ⟨2, 0, 4, 0, 0, 1, 2, 3, 2, 0, 0, 0, 0⟩
def lvF : Ev := ⟨2, 0, 4, 0, 0, 2, 2, 3, 2, 2, 7, 0, 0⟩
theorem lk21_of {l : List Ev} {i : Nat} {f : Int} (hi : i < l.length) (hf : dF21 l i = f) (h0 : f ≠ 0) (h : (List.range i).all (fun k => dF21 l k == 0) = true) : Lk21 l (i : Int) f :=
  .inl ⟨i, hi, rfl, hf.symm, h0, fun k hk => by simpa using (List.all_eq_true.1 h) k (List.mem_range.2 hk)⟩
theorem lk21_no {l : List Ev} (h : (List.range l.length).all (fun k => dF21 l k == 0) = true) : Lk21 l (-1) 0 :=
  .inr ⟨rfl, rfl, fun k hk => by simpa using (List.all_eq_true.1 h) k (List.mem_range.2 hk)⟩
theorem lv21_1 : Lk21 [lvA, lvB] 1 1 := lk21_of (i := 1) (by decide) (by kernel_rfl) (by decide) (by kernel_rfl)
theorem lv21_2 : Lk21 [lvA, lvC, lvA, lvA] 3 2 := lk21_of (i := 3) (by decide) (by kernel_rfl) (by decide) (by kernel_rfl)
theorem lv21_3 : Lk21 [lvA, lvD] 1 3 := lk21_of (i := 1) (by decide) (by kernel_rfl) (by decide) (by kernel_rfl)
theorem lv21_4 : Lk21 [lvE] 0 4 := lk21_of (i := 0) (by decide) (by kernel_rfl) (by decide) (by kernel_rfl)
theorem lv21_5 : Lk21 [lvC, lvF] 1 5 := lk21_of (i := 1) (by decide) (by kernel_rfl) (by decide) (by kernel_rfl)
theorem lv21_6 : Lk21 [lvA, lvC, lvA] (-1) 0 := lk21_no (by kernel_rfl)
theorem lv21_7 : vs21 2 [lvA, lvB, lvC, lvE] = [4, 4] := by kernel_rfl
set_option maxRecDepth 100000 in
set_option maxHeartbeats 16000000 in
theorem alive21_any (w : World) : Calls Try.prog 5 #[] w (SayB true w) := by
  have H := st_new (fun _ => False) w
  go_in
  go_wp2_with (first
    | ((with_reducible refine wl_ld ?_); first
      | refine st_ld [] H rfl rfl rfl Try.underlying38 rfl szE21 ?_
      | refine st_ld [_] H rfl rfl rfl Try.underlying38 rfl szE21 ?_
      | refine st_ld [_, _] H rfl rfl rfl Try.underlying38 rfl szE21 ?_
      | refine st_ld [_, _, _] H rfl rfl rfl Try.underlying38 rfl szE21 ?_
      | refine st_ld [_, _, _, _] H rfl rfl rfl Try.underlying38 rfl szE21 ?_
      | refine st_ld [_, _, _, _, _] H rfl rfl rfl Try.underlying38 rfl szE21 ?_)
    | ((with_reducible refine wl_st ?_); (refine st_sr [] H rfl rfl rfl rfl (by simp) (by simp [Value.oneCell']) (szE21.trans (by simp)) ?_; intro w2 H; try simp [go_sem] at H))
    | ((with_reducible refine wl_al ?_); refine st_al H rfl rfl (zE21 _) rfl ?_; intro w2 q H; try simp [go_sem] at H))
  refine (look21_any (evr_built [lvA, lvB] (blk_new rfl) rfl) (by simp)).mono ?_
  rintro e w3 ⟨i, f, rfl, hl, hc⟩
  obtain ⟨rfl, rfl⟩ := hl.one lv21_1
  have H := Lib.hid (H.out.k (((Chg.refl (fun _ => False) _).alloc _).trans hc (fun _ _ e => e)))
  clear hl hc
  go_wp2_with (first
    | ((with_reducible refine wl_ld ?_); first
      | refine st_ld [] H rfl rfl rfl Try.underlying38 rfl szE21 ?_
      | refine st_ld [_] H rfl rfl rfl Try.underlying38 rfl szE21 ?_
      | refine st_ld [_, _] H rfl rfl rfl Try.underlying38 rfl szE21 ?_
      | refine st_ld [_, _, _] H rfl rfl rfl Try.underlying38 rfl szE21 ?_
      | refine st_ld [_, _, _, _] H rfl rfl rfl Try.underlying38 rfl szE21 ?_
      | refine st_ld [_, _, _, _, _] H rfl rfl rfl Try.underlying38 rfl szE21 ?_)
    | ((with_reducible refine wl_st ?_); (refine st_sr [] H rfl rfl rfl rfl (by simp) (by simp [Value.oneCell']) (szE21.trans (by simp)) ?_; intro w2 H; try simp [go_sem] at H))
    | ((with_reducible refine wl_al ?_); refine st_al H rfl rfl (zE21 _) rfl ?_; intro w2 q H; try simp [go_sem] at H))
  refine (look21_any (evr_built [lvA, lvC, lvA, lvA] (blk_new rfl) rfl) (by simp)).mono ?_
  rintro e w3 ⟨i, f, rfl, hl, hc⟩
  obtain ⟨rfl, rfl⟩ := hl.one lv21_2
  have H := Lib.hid (H.out.k (((Chg.refl (fun _ => False) _).alloc _).trans hc (fun _ _ e => e)))
  clear hl hc
  go_wp2_with (first
    | ((with_reducible refine wl_ld ?_); first
      | refine st_ld [] H rfl rfl rfl Try.underlying38 rfl szE21 ?_
      | refine st_ld [_] H rfl rfl rfl Try.underlying38 rfl szE21 ?_
      | refine st_ld [_, _] H rfl rfl rfl Try.underlying38 rfl szE21 ?_
      | refine st_ld [_, _, _] H rfl rfl rfl Try.underlying38 rfl szE21 ?_
      | refine st_ld [_, _, _, _] H rfl rfl rfl Try.underlying38 rfl szE21 ?_
      | refine st_ld [_, _, _, _, _] H rfl rfl rfl Try.underlying38 rfl szE21 ?_)
    | ((with_reducible refine wl_st ?_); (refine st_sr [] H rfl rfl rfl rfl (by simp) (by simp [Value.oneCell']) (szE21.trans (by simp)) ?_; intro w2 H; try simp [go_sem] at H))
    | ((with_reducible refine wl_al ?_); refine st_al H rfl rfl (zE21 _) rfl ?_; intro w2 q H; try simp [go_sem] at H))
  refine (look21_any (evr_built [lvA, lvD] (blk_new rfl) rfl) (by simp)).mono ?_
  rintro e w3 ⟨i, f, rfl, hl, hc⟩
  obtain ⟨rfl, rfl⟩ := hl.one lv21_3
  have H := Lib.hid (H.out.k (((Chg.refl (fun _ => False) _).alloc _).trans hc (fun _ _ e => e)))
  clear hl hc
  go_wp2_with (first
    | ((with_reducible refine wl_ld ?_); first
      | refine st_ld [] H rfl rfl rfl Try.underlying38 rfl szE21 ?_
      | refine st_ld [_] H rfl rfl rfl Try.underlying38 rfl szE21 ?_
      | refine st_ld [_, _] H rfl rfl rfl Try.underlying38 rfl szE21 ?_
      | refine st_ld [_, _, _] H rfl rfl rfl Try.underlying38 rfl szE21 ?_
      | refine st_ld [_, _, _, _] H rfl rfl rfl Try.underlying38 rfl szE21 ?_
      | refine st_ld [_, _, _, _, _] H rfl rfl rfl Try.underlying38 rfl szE21 ?_)
    | ((with_reducible refine wl_st ?_); (refine st_sr [] H rfl rfl rfl rfl (by simp) (by simp [Value.oneCell']) (szE21.trans (by simp)) ?_; intro w2 H; try simp [go_sem] at H))
    | ((with_reducible refine wl_al ?_); refine st_al H rfl rfl (zE21 _) rfl ?_; intro w2 q H; try simp [go_sem] at H))
  refine (look21_any (evr_built [lvE] (blk_new rfl) rfl) (by simp)).mono ?_
  rintro e w3 ⟨i, f, rfl, hl, hc⟩
  obtain ⟨rfl, rfl⟩ := hl.one lv21_4
  have H := Lib.hid (H.out.k (((Chg.refl (fun _ => False) _).alloc _).trans hc (fun _ _ e => e)))
  clear hl hc
  go_wp2_with (first
    | ((with_reducible refine wl_ld ?_); first
      | refine st_ld [] H rfl rfl rfl Try.underlying38 rfl szE21 ?_
      | refine st_ld [_] H rfl rfl rfl Try.underlying38 rfl szE21 ?_
      | refine st_ld [_, _] H rfl rfl rfl Try.underlying38 rfl szE21 ?_
      | refine st_ld [_, _, _] H rfl rfl rfl Try.underlying38 rfl szE21 ?_
      | refine st_ld [_, _, _, _] H rfl rfl rfl Try.underlying38 rfl szE21 ?_
      | refine st_ld [_, _, _, _, _] H rfl rfl rfl Try.underlying38 rfl szE21 ?_)
    | ((with_reducible refine wl_st ?_); (refine st_sr [] H rfl rfl rfl rfl (by simp) (by simp [Value.oneCell']) (szE21.trans (by simp)) ?_; intro w2 H; try simp [go_sem] at H))
    | ((with_reducible refine wl_al ?_); refine st_al H rfl rfl (zE21 _) rfl ?_; intro w2 q H; try simp [go_sem] at H))
  refine (look21_any (evr_built [lvC, lvF] (blk_new rfl) rfl) (by simp)).mono ?_
  rintro e w3 ⟨i, f, rfl, hl, hc⟩
  obtain ⟨rfl, rfl⟩ := hl.one lv21_5
  have H := Lib.hid (H.out.k (((Chg.refl (fun _ => False) _).alloc _).trans hc (fun _ _ e => e)))
  clear hl hc
  go_wp2_with (first
    | ((with_reducible refine wl_ld ?_); first
      | refine st_ld [] H rfl rfl rfl Try.underlying38 rfl szE21 ?_
      | refine st_ld [_] H rfl rfl rfl Try.underlying38 rfl szE21 ?_
      | refine st_ld [_, _] H rfl rfl rfl Try.underlying38 rfl szE21 ?_
      | refine st_ld [_, _, _] H rfl rfl rfl Try.underlying38 rfl szE21 ?_
      | refine st_ld [_, _, _, _] H rfl rfl rfl Try.underlying38 rfl szE21 ?_
      | refine st_ld [_, _, _, _, _] H rfl rfl rfl Try.underlying38 rfl szE21 ?_)
    | ((with_reducible refine wl_st ?_); (refine st_sr [] H rfl rfl rfl rfl (by simp) (by simp [Value.oneCell']) (szE21.trans (by simp)) ?_; intro w2 H; try simp [go_sem] at H))
    | ((with_reducible refine wl_al ?_); refine st_al H rfl rfl (zE21 _) rfl ?_; intro w2 q H; try simp [go_sem] at H))
  refine (look21_any (evr_built [lvA, lvC, lvA] (blk_new rfl) rfl) (by simp)).mono ?_
  rintro e w3 ⟨i, f, rfl, hl, hc⟩
  obtain ⟨rfl, rfl⟩ := hl.one lv21_6
  have H := Lib.hid (H.out.k (((Chg.refl (fun _ => False) _).alloc _).trans hc (fun _ _ e => e)))
  clear hl hc
  go_wp2_with (first
    | ((with_reducible refine wl_ld ?_); first
      | refine st_ld [] H rfl rfl rfl Try.underlying38 rfl szE21 ?_
      | refine st_ld [_] H rfl rfl rfl Try.underlying38 rfl szE21 ?_
      | refine st_ld [_, _] H rfl rfl rfl Try.underlying38 rfl szE21 ?_
      | refine st_ld [_, _, _] H rfl rfl rfl Try.underlying38 rfl szE21 ?_
      | refine st_ld [_, _, _, _] H rfl rfl rfl Try.underlying38 rfl szE21 ?_
      | refine st_ld [_, _, _, _, _] H rfl rfl rfl Try.underlying38 rfl szE21 ?_)
    | ((with_reducible refine wl_st ?_); (refine st_sr [] H rfl rfl rfl rfl (by simp) (by simp [Value.oneCell']) (szE21.trans (by simp)) ?_; intro w2 H; try simp [go_sem] at H))
    | ((with_reducible refine wl_al ?_); refine st_al H rfl rfl (zE21 _) rfl ?_; intro w2 q H; try simp [go_sem] at H))
  refine (visits21_any (evr_built [lvA, lvB, lvC, lvE] (blk_new rfl) rfl) (by simp) 2).mono ?_
  rintro e w3 ⟨A, n, d, rfl, hr, hn, hc⟩
  rw [lv21_7] at hr
  have HR := Lib.hid hr
  have H := Lib.hid (H.out.k (((Chg.refl (fun _ => False) _).alloc _).trans hc (fun _ _ e => e)))
  clear hr hc
  go_wp2_with (first
    | ((with_reducible refine wl_ld ?_); first
      | refine st_ld [] H rfl rfl rfl Try.underlying38 rfl szE21 ?_
      | refine st_ld [_] H rfl rfl rfl Try.underlying38 rfl szE21 ?_
      | refine st_ld [_, _] H rfl rfl rfl Try.underlying38 rfl szE21 ?_
      | refine st_ld [_, _, _] H rfl rfl rfl Try.underlying38 rfl szE21 ?_
      | refine st_ld [_, _, _, _] H rfl rfl rfl Try.underlying38 rfl szE21 ?_
      | refine st_ld [_, _, _, _, _] H rfl rfl rfl Try.underlying38 rfl szE21 ?_)
    | ((with_reducible refine wl_st ?_); (refine st_sr [] H rfl rfl rfl rfl (by simp) (by simp [Value.oneCell']) (szE21.trans (by simp)) ?_; intro w2 H; try simp [go_sem] at H))
    | ((with_reducible refine wl_al ?_); refine st_al H rfl rfl (zE21 _) rfl ?_; intro w2 q H; try simp [go_sem] at H))
  have HR2 := Lib.hid (HR.out.chg ((Chg.refl (fun _ => False) w3).alloc (.cells #[.int .i64 4, .int .i64 4] 3)) (fun _ _ => id))
  refine (ints21_any A _ n 2 d _ [4, 4] [4, 4] _ _ _ HR2.out (rds_built21 [4, 4] (blk_new rfl) rfl) (by omega)).mono ?_
  rintro e w4 ⟨b, rfl, hb, hc⟩
  obtain rfl := hb rfl
  have H := Lib.hid (H.out.k (((Chg.refl (fun _ => False) _).alloc _).trans hc (fun _ _ e => e)))
  clear hc
  go_wp2_with (first
    | ((with_reducible refine wl_ld ?_); first
      | refine st_ld [] H rfl rfl rfl Try.underlying38 rfl szE21 ?_
      | refine st_ld [_] H rfl rfl rfl Try.underlying38 rfl szE21 ?_
      | refine st_ld [_, _] H rfl rfl rfl Try.underlying38 rfl szE21 ?_
      | refine st_ld [_, _, _] H rfl rfl rfl Try.underlying38 rfl szE21 ?_
      | refine st_ld [_, _, _, _] H rfl rfl rfl Try.underlying38 rfl szE21 ?_
      | refine st_ld [_, _, _, _, _] H rfl rfl rfl Try.underlying38 rfl szE21 ?_)
    | ((with_reducible refine wl_st ?_); (refine st_sr [] H rfl rfl rfl rfl (by simp) (by simp [Value.oneCell']) (szE21.trans (by simp)) ?_; intro w2 H; try simp [go_sem] at H))
    | ((with_reducible refine wl_al ?_); refine st_al H rfl rfl (zE21 _) rfl ?_; intro w2 q H; try simp [go_sem] at H))
  go_ret
  exact ⟨rfl, H.out.x⟩

end Go.Proofs.Ytmfgbonlhoffaaa
