/-
  Walk: rutterref06.Parse, a message of records; any bytes. Conditions: the bytes are read in memory, not more than 100000.
-/
import Derived.Test.YtalfbijcjghemaaUq
namespace Go.Proofs.Ytalfbijcjghemaa
open Go.RowKit
set_option linter.unusedVariables false

theorem rec_one (s : Option (List UInt8)) : ∀ u ∈ (oneV s).cs.toList, u.oneCell' = true := by
  intro u hu
  have e : (oneV s).cs.toList = [.int .i64 (ov s 0), .int .u32 (ov s 1), .int .u32 (ov s 2), .int .i64 (ov s 3), .int .i64 (ov s 4), .int .i64 (ov s 5)] := rfl
  rw [e] at hu
  simp only [List.mem_cons, List.not_mem_nil, or_false] at hu
  rcases hu with rfl | rfl | rfl | rfl | rfl | rfl <;> rfl
theorem rec_news (s : Option (List UInt8)) (v : World) : ∀ j u, (oneV s).cs.toList[j]? = some u → (v.alloc (.cells #[.int .i64 (ov s 0), .int .u32 (ov s 1), .int .u32 (ov s 2), .int .i64 (ov s 3), .int .i64 (ov s 4), .int .i64 (ov s 5)] 46)).cell? ((⟨v.heap.size, 0, none⟩ : Addr).add j) = some u :=
  rds_at (rds_new1 v 46 #[.int .i64 (ov s 0), .int .u32 (ov s 1), .int .u32 (ov s 2), .int .i64 (ov s 3), .int .i64 (ov s 4), .int .i64 (ov s 5)] (0, 0) v.heap.size rfl _ 6 rfl rfl) (by decide)

set_option maxHeartbeats 4000000 in
theorem rpar_3 (A : Option Addr) (n c : Nat) (b : List UInt8) (S : Nat → Prop) (w : World) (hn : n = b.length) (h : Rds w S A n (bcs b)) (hb : n ≤ 100000) (hk : cK b = 3) :
    Calls Try.prog 16 #[.slice A n c] w (Dec6 b w) := by
  have HDOK := Lib.hid (cOK_3 hk)
  have HV := Lib.hid (cV_3 hk)
  have HK := Lib.hid hk
  clear hk
  obtain ⟨i0, hi0, hz0, hz1, hz2⟩ := info_parts infoByte
  have hR0 : Blk ((w.alloc (.cells #[.int .i64 0, .int .i64 0, .int .u64 0, .int .i64 0, .int .i64 0, .int .i64 0, .int .i64 0, .int .i64 0, .int .i64 0, .int .i64 0, .int .i64 0, .int .i64 0, .slice none 0 0] 28)).alloc (.cells #[] 5)) w.heap.size 28 (msC 0 0 0 0 0 0 0 0 0 0 0 0 none 0 0) := (blk_new rfl).alloc _
  have hC0 := ((Chg.refl (fun _ => False) w).alloc (.cells #[.int .i64 0, .int .i64 0, .int .u64 0, .int .i64 0, .int .i64 0, .int .i64 0, .int .i64 0, .int .i64 0, .int .i64 0, .int .i64 0, .int .i64 0, .int .i64 0, .slice none 0 0] 28)).alloc (.cells #[] 5)
  have hmade : ((w.alloc (.cells #[.int .i64 0, .int .i64 0, .int .u64 0, .int .i64 0, .int .i64 0, .int .i64 0, .int .i64 0, .int .i64 0, .int .i64 0, .int .i64 0, .int .i64 0, .int .i64 0, .slice none 0 0] 28)).alloc (.cells #[] 5)).ownsRow (w.heap.size + 1) 5 1 (.slice (some ⟨w.heap.size + 1, 0, none⟩) 0 0) 0 [] := by
    have h := World.ownsRow_made (e := 5) (size := 1) (w.alloc (.cells #[.int .i64 0, .int .i64 0, .int .u64 0, .int .i64 0, .int .i64 0, .int .i64 0, .int .i64 0, .int .i64 0, .int .i64 0, .int .i64 0, .int .i64 0, .int .i64 0, .slice none 0 0] 28)) #[] 0 (Nat.le_refl _) (by decide) rfl
    simpa using h
  have hsz : ((w.alloc (.cells #[.int .i64 0, .int .i64 0, .int .u64 0, .int .i64 0, .int .i64 0, .int .i64 0, .int .i64 0, .int .i64 0, .int .i64 0, .int .i64 0, .int .i64 0, .int .i64 0, .slice none 0 0] 28)).alloc (.cells #[] 5)).heap.size = w.heap.size + 2 := by simp
  have hh := (h.alloc (.cells #[.int .i64 0, .int .i64 0, .int .u64 0, .int .i64 0, .int .i64 0, .int .i64 0, .int .i64 0, .int .i64 0, .int .i64 0, .int .i64 0, .int .i64 0, .int .i64 0, .slice none 0 0] 28)).alloc (.cells #[] 5)
  have HN := Lib.hid hn
  have HR0 := Lib.hid hR0
  have HC0 := Lib.hid hC0
  clear hR0 hC0 hn h
  go_enter Try.func16, Try.ntmps16
  go_wp2_with (at_builtin; refine wpList_own_append _ rfl (.tmp 9) (.tmp 10) 33 rfl (w.heap.size + 1) 5 i0 (.int .u8 0) 1 Try.underlying33 hi0 hz0 hz1 hz2 rfl (.slice (some ⟨w.heap.size + 1, 0, none⟩) 0 0) 0 [] rfl hmade S A n c (bcs b) rfl hh (bcs_one b) (by unfold maxLen; omega) (by omega) (by omega) ?_; intro v' wa hown hg hat; rw [Nat.zero_add, List.nil_append] at hown; obtain ⟨D, dc, rfl, hdc1, hdc2⟩ := own_form hown; have hC := grown_fresh HC0.out hg hmade (by omega); have hR := blk_grown HR0.out hg (by simp [Value.ownBlock]); clear hg hat hmade hh HR0 HC0)
  have HRD : Hid (Rd 72 false (wa.alloc (.cells #[.slice D n dc, .bool false] 72)) wa.heap.size (fun k => w.heap.size < k ∧ k < wa.heap.size) (some b)) := Lib.hid
    ⟨fun h => absurd h.2 (Nat.lt_irrefl _), D, n, dc, false, b, heap_alloc_new wa _, hdc1, hdc2, HN.out, ((own_rds2 hown).mono (fun k hk => ⟨by omega, hk.2⟩)).alloc _, rfl, rfl⟩
  have hrp := hR.lt
  have HC := Lib.hid (hC.alloc (.cells #[.slice D n dc, .bool false] 72))
  have HR := Lib.hid (hR.alloc (.cells #[.slice D n dc, .bool false] 72))
  clear hown hdc1 hdc2 hC hR hsz
  generalize hpp : wa.heap.size = p at *
  have HPP := Lib.hid hpp
  clear hpp
  have HG : Hid (Calls Try.prog 36 #[.pointer (some ⟨p, 0, none⟩), .int .i64 1] _ fun e w' => e = .returned (.int .i64 3) ∧ Rd 72 false w' p (fun k => w.heap.size < k ∧ k < p) (cS1 b) ∧ Chg (fun k => k = p) _ w') := Lib.hid (by
    have hg := rcget p 1 _ (some b) _ HRD.out
    rw [show gv 1 (some b) = 3 from HK.out] at hg
    exact hg)
  go_wp2_with fail
  refine HG.out.mono ?_
  rintro e w1 ⟨rfl, hrd, hc'⟩
  replace HC := Lib.hid (fresh_set HC.out hc' (by omega))
  replace HR := Lib.hid (HR.out.chg hc' (by omega))
  have hpq := hrd.lt
  have HQ : Hid (Blk (w1.alloc (.cells #[.int .i64 3, .int .i64 0, .int .u64 0, .int .i64 0, .int .i64 0, .int .i64 0, .int .i64 0, .int .i64 0, .int .i64 0, .int .i64 0, .int .i64 0, .int .i64 0, .slice none 0 0] 28)) w1.heap.size 28 (msC 3 0 0 0 0 0 0 0 0 0 0 0 none 0 0)) := Lib.hid (blk_new rfl)
  have hca := (Chg.refl (fun _ => False) w1).alloc (.cells #[.int .i64 3, .int .i64 0, .int .u64 0, .int .i64 0, .int .i64 0, .int .i64 0, .int .i64 0, .int .i64 0, .int .i64 0, .int .i64 0, .int .i64 0, .int .i64 0, .slice none 0 0] 28)
  replace HRD := Lib.hid (hrd.chg hca id (fun _ _ => id))
  replace HC := Lib.hid (HC.out.trans hca (fun _ _ e => e))
  replace HR := Lib.hid (HR.out.chg hca id)
  clear HG hrd hc' hca
  obtain ⟨y0, y1, y2, y3, y4, y5, y6, y7, y8, y9, y10, y11, y12⟩ := ms_cells HQ.out
  have HG := Lib.hid (show Calls _ _ _ _ (fun e w' => e = .returned (.int .i64 (cPt b)) ∧ Rd 72 false w' p _ (cS2 b) ∧ Chg (fun k => k = p) _ w') from rcget p 1 _ (cS1 b) _ HRD.out)
  go_wp2_with fail
  refine HG.out.mono ?_
  rintro e v1 ⟨rfl, hrd, hc'⟩
  replace HC := Lib.hid (fresh_set HC.out hc' (by omega))
  replace HR := Lib.hid (HR.out.chg hc' (by omega))
  replace HQ := Lib.hid (HQ.out.chg hc' (by omega))
  replace HRD := Lib.hid hrd
  clear HG hrd hc'
  clear y0 y1 y2 y3 y4 y5 y6 y7 y8 y9 y10 y11 y12
  obtain ⟨y0, y1, y2, y3, y4, y5, y6, y7, y8, y9, y10, y11, y12⟩ := ms_cells HQ.out
  obtain ⟨u0, u1, u2, u3, u4, u5, u6, u7, u8, u9, u10, u11, u12⟩ := ms_free HQ.out
  have hset := (HQ.out).set 10 (.int .i64 (cPt b))
  simp only [msC, List.setIfInBounds_toArray, List.set_cons_succ, List.set_cons_zero] at hset
  have hset : Blk _ _ 28 (msC 3 0 0 0 0 0 0 0 0 0 (cPt b) 0 none 0 0) := hset
  have hcs : Chg (fun k => k = w1.heap.size) _ _ := (Chg.refl (fun k => k = w1.heap.size) v1).put w1.heap.size 10 (fun _ => rfl) (.int .i64 (cPt b))
  replace HC := Lib.hid (fresh_set HC.out hcs (by omega))
  replace HR := Lib.hid (HR.out.chg hcs (by omega))
  replace HRD := Lib.hid (HRD.out.chg hcs (by omega) (fun k hk => by have := hk.2; omega))
  replace HQ := Lib.hid hset
  clear hset hcs
  have HG := Lib.hid (show Calls _ _ _ _ (fun e w' => e = .returned (.int .i64 (cVr b)) ∧ Rd 72 false w' p _ (cS3 b) ∧ Chg (fun k => k = p) _ w') from rcget p 6 _ (cS2 b) _ HRD.out)
  go_wp2_with fail
  refine HG.out.mono ?_
  rintro e v2 ⟨rfl, hrd, hc'⟩
  replace HC := Lib.hid (fresh_set HC.out hc' (by omega))
  replace HR := Lib.hid (HR.out.chg hc' (by omega))
  replace HQ := Lib.hid (HQ.out.chg hc' (by omega))
  replace HRD := Lib.hid hrd
  clear HG hrd hc'
  clear y0 y1 y2 y3 y4 y5 y6 y7 y8 y9 y10 y11 y12 u0 u1 u2 u3 u4 u5 u6 u7 u8 u9 u10 u11 u12
  obtain ⟨y0, y1, y2, y3, y4, y5, y6, y7, y8, y9, y10, y11, y12⟩ := ms_cells HQ.out
  obtain ⟨u0, u1, u2, u3, u4, u5, u6, u7, u8, u9, u10, u11, u12⟩ := ms_free HQ.out
  have hset := (HQ.out).set 11 (.int .i64 (cVr b))
  simp only [msC, List.setIfInBounds_toArray, List.set_cons_succ, List.set_cons_zero] at hset
  have hset : Blk _ _ 28 (msC 3 0 0 0 0 0 0 0 0 0 (cPt b) (cVr b) none 0 0) := hset
  have hcs : Chg (fun k => k = w1.heap.size) _ _ := (Chg.refl (fun k => k = w1.heap.size) v2).put w1.heap.size 11 (fun _ => rfl) (.int .i64 (cVr b))
  replace HC := Lib.hid (fresh_set HC.out hcs (by omega))
  replace HR := Lib.hid (HR.out.chg hcs (by omega))
  replace HRD := Lib.hid (HRD.out.chg hcs (by omega) (fun k hk => by have := hk.2; omega))
  replace HQ := Lib.hid hset
  clear hset hcs
  have HG := Lib.hid (show Calls _ _ _ _ (fun e w' => e = .returned (.int .i64 (cNn b)) ∧ Rd 72 false w' p _ (cS4 b) ∧ Chg (fun k => k = p) _ w') from rcget p 1 _ (cS3 b) _ HRD.out)
  obtain ⟨z0, z1, z2, z3, z4, z5, z6, z7, z8, z9, z10, z11, z12⟩ := ms_cells HQ.out
  go_wp2_with fail
  refine HG.out.mono ?_
  rintro e v3 ⟨rfl, hrd, hc'⟩
  replace HC := Lib.hid (fresh_set HC.out hc' (by omega))
  replace HR := Lib.hid (HR.out.chg hc' (by omega))
  replace HQ := Lib.hid (HQ.out.chg hc' (by omega))
  replace HRD := Lib.hid hrd
  clear HG hrd hc'
  clear y0 y1 y2 y3 y4 y5 y6 y7 y8 y9 y10 y11 y12 u0 u1 u2 u3 u4 u5 u6 u7 u8 u9 u10 u11 u12
  clear z0 z1 z2 z3 z4 z5 z6 z7 z8 z9 z10 z11 z12
  have g1 := gv_range 1 (cS3 b)
  have g2 := gv_lt 1 (cS3 b) (by decide) (by decide)
  have hnn0 : cNn b = gv 1 (cS3 b) := rfl
  obtain ⟨nn, hnn⟩ : ∃ nn : Nat, cNn b = (nn : Int) := ⟨(cNn b).toNat, by omega⟩
  have hn16 : nn < 256 := by omega
  have HLEN : Hid (nn = (cRl b).length) := Lib.hid (by unfold cRl; rw [rcsV_len, hnn, Int.toNat_natCast])
  have HRL : Hid (cRl b = rcsV nn (cS4 b)) := Lib.hid (by unfold cRl; rw [hnn, Int.toNat_natCast])
  have HS5 : Hid (cS5 b = rcsE nn (cS4 b)) := Lib.hid (by unfold cS5; rw [hnn, Int.toNat_natCast])
  rw [hnn]
  clear hnn hnn0 g1 g2
  have hMv := HQ.out.lt
  have HRD0 : Hid (Rd 72 false v3 p (fun k => w.heap.size < k ∧ k < p) (rcsE 0 (cS4 b))) := HRD
  have HOW : Hid (v3.ownsRow (w1.heap.size + 1) 46 6 (.slice none 0 0) 0 (rflat (rcsV 0 (cS4 b)))) := Lib.hid (World.ownsRow_nil _ _ _ _)
  obtain ⟨j0, hj0, hz0', hz1', hz2'⟩ := info_parts infoRec
  go_wp2_with fail
  go_loopg [7] nn (fun g i wr => ∃ (j : Nat) (A : Option Addr) (c : Nat), g = nn - j ∧ j ≤ nn ∧ i = .int .i64 (j : Int) ∧ Hid (Rd 72 false wr p (fun k => w.heap.size < k ∧ k < p) (rcsE j (cS4 b))) ∧ Hid (Blk wr w1.heap.size 28 (msC 3 0 0 0 0 0 0 0 0 0 (cPt b) (cVr b) A j c)) ∧ Hid (Blk wr w.heap.size 28 (msC 0 0 0 0 0 0 0 0 0 0 0 0 none 0 0)) ∧ Hid (Chg (fun _ => False) w wr) ∧ Hid (wr.ownsRow (w1.heap.size + 1) 46 6 (.slice A j c) j (rflat (rcsV j (cS4 b)))))
  case atStart => exact ⟨0, none, 0, rfl, Nat.zero_le _, rfl, HRD0, HQ, HR, HC, HOW⟩
  case round =>
    clear HRD HQ HR HC HOW HRD0
    obtain ⟨j, A, c, rfl, hj, rfl, HRD, HQ, HR, HC, HOW⟩ := hrel
    by_cases hlt : j < nn
    · have HVS := Lib.hid (rcsV_succ j (cS4 b))
      have HES := Lib.hid (rcsE_succ j (cS4 b))
      generalize rcsV j (cS4 b) = l at *
      generalize rcsE j (cS4 b) = s at *
      generalize w1.heap.size = M at *
      have HO := Lib.hid (rone_any p (fun k => w.heap.size < k ∧ k < p) s wr.drew (show Rd 72 false wr.drew p (fun k => w.heap.size < k ∧ k < p) s from HRD.out) (fun k hk => hk.2))
      unfold rcC at HO
      have hMw := HQ.out.lt
      obtain ⟨y0, y1, y2, y3, y4, y5, y6, y7, y8, y9, y10, y11, y12⟩ := ms_cells HQ.out
      have hcap := own_cap HOW.out
      have hneM := own_ne HOW.out (k := M) (by omega)
      go_upto_region 13 with fail
      go_region_law (first
        | (refine step_own_append6 _ rfl (.tmp 40) (.tmp 43) 26 rfl (M + 1) 46 j0 _ 6 40 Try.underlying26 hj0 hz0' hz1' hz2' rfl (by decide) (.slice A j c) j (rflat l) rfl HO2.out ⟨v2.heap.size, 0, none⟩ 1 1 (oneV s).cs.toList rfl rfl (rec_news s v2) (rec_one s) (by unfold maxLen; omega) (by omega) hB2 ?_; intro v' x3 hown3 hg3 hat3; obtain ⟨A3, c3, rfl, _, _⟩ := own_form hown3; have hb3 := blk_grown ((HQ.out.chg hC2 (by omega)).alloc (.cells #[.int .i64 (ov s 0), .int .u32 (ov s 1), .int .u32 (ov s 2), .int .i64 (ov s 3), .int .i64 (ov s 4), .int .i64 (ov s 5)] 46)) hg3 (by rw [own_block]; exact hneM); have z0 := hb3.cell 12; have z1 := hb3.frozen 12; simp only [msC, List.getElem?_toArray, List.getElem?_cons_zero, List.getElem?_cons_succ] at z0)
        | (go_simp; go_at_call 38; refine HO.out.mono ?_; rintro e v2 ⟨rfl, hrd2, hc2⟩; have hC2 := (Chg.refl (fun k => k = p) wr).drew.trans hc2 (fun _ _ e => e); have HRD2 := Lib.hid hrd2; have hs2 := hC2.size; have HO2 := Lib.hid (own_chg HOW.out (hC2.alloc (.cells #[.int .i64 (ov s 0), .int .u32 (ov s 1), .int .u32 (ov s 2), .int .i64 (ov s 3), .int .i64 (ov s 4), .int .i64 (ov s 5)] 46)) (fun k hk e => own_ne HOW.out (k := p) (by omega) (e ▸ hk))); have hB2 : M + 1 ≤ (v2.alloc (.cells #[.int .i64 (ov s 0), .int .u32 (ov s 1), .int .u32 (ov s 2), .int .i64 (ov s 3), .int .i64 (ov s 4), .int .i64 (ov s 5)] 46)).heap.size := (by simp; omega); clear hc2 hrd2; obtain ⟨_, _, _, _, _, _, _, _, _, _, _, _, a12⟩ := ms_cells (HQ.out.chg hC2 (by omega)); obtain ⟨_, _, _, _, _, _, _, _, _, _, _, _, b12⟩ := ms_cells ((HQ.out.chg hC2 (by omega)).alloc (.cells #[.int .i64 (ov s 0), .int .u32 (ov s 1), .int .u32 (ov s 2), .int .i64 (ov s 3), .int .i64 (ov s 4), .int .i64 (ov s 5)] 46))))
      all_goals
        have hcS := (((Chg.refl (fun k => M ≤ k) v2).alloc (.cells #[.int .i64 (ov s 0), .int .u32 (ov s 1), .int .u32 (ov s 2), .int .i64 (ov s 3), .int .i64 (ov s 4), .int .i64 (ov s 5)] 46)).grown hg3 (fun k hk _ => by have h1 := (HO2.out.lt k hk).1; omega)).put M 12 (fun _ => Nat.le_refl M) (.slice A3 (j + 1) c3)
        have hset := hb3.set 12 (.slice A3 (j + 1) c3)
        simp only [msC, List.setIfInBounds_toArray, List.set_cons_succ, List.set_cons_zero] at hset
        have HQf : Hid (Blk _ M 28 (msC 3 0 0 0 0 0 0 0 0 0 (cPt b) (cVr b) A3 (j + 1) c3)) := Lib.hid hset
        have HRf := Lib.hid ((HR.out.chg hC2 (by omega)).chg hcS (by omega))
        have HCf := Lib.hid ((fresh_set HC.out hC2 (by omega)).trans hcS (fun i hi hs => by omega))
        have HOf := Lib.hid (own_chg hown3 ((Chg.refl (fun k => k = M) x3).put M 12 (fun _ => rfl) (.slice A3 (j + 1) c3)) (fun k hk e => own_ne hown3 (k := M) (by omega) (e ▸ hk)))
        have HRDf := Lib.hid (HRD2.out.chg hcS (by omega) (fun k hk => by have := hk.2; omega))
        rw [← rflat_snoc, ← HVS.out] at HOf
        rw [← HES.out] at HRDf
        clear hset hcS hown3 hb3 hg3 hat3 hC2 HO2
        go_wp2_with fail
        go_roundg (nn - (j + 1))
        case measure => omega
        case rel => exact ⟨j + 1, A3, c3, rfl, by omega, by go_num, HRDf, HQf, HRf, HCf, HOf⟩
    · have hjn : nn = j := by omega
      subst hjn
      replace HRD : Hid (Rd 72 false wr p (fun k => w.heap.size < k ∧ k < p) (cS5 b)) := Lib.hid (by rw [HS5.out]; exact HRD.out)
      have HL : Hid (RcR wr (fun k => w.heap.size < k) A nn (cRl b)) := Lib.hid (by
        rw [HRL.out]
        exact (own_rcr HOW.out (rcsV_len _ _).symm).mono (fun k hk => by omega))
      clear HOW
      obtain ⟨y0, y1, y2, y3, y4, y5, y6, y7, y8, y9, y10, y11, y12⟩ := ms_cells HQ.out
      have hrt := rright6_any 3 0 0 0 0 0 0 0 0 0 (cPt b) (cVr b) A nn c (cRl b) _ _ HL.out (by omega)
      have HD2 := Lib.hid HDOK.out
      replace HD2 : Hid (cOK b = (doneS (cS5 b) == 0 && msR 3 0 0 0 0 0 0 0 0 0 (cPt b) (cVr b) (cRl b))) := Lib.hid HD2.out
      generalize msR 3 0 0 0 0 0 0 0 0 0 (cPt b) (cVr b) (cRl b) = r at *
      unfold msC at hrt
      have HRT := Lib.hid hrt
      clear hrt
      go_wp2_with fail
      refine HRT.out.mono ?_
      rintro e v10 ⟨rfl, hc'⟩
      replace HR := Lib.hid (HR.out.chg hc' id)
      replace HQ := Lib.hid (HQ.out.chg hc' id)
      replace HRD := Lib.hid (HRD.out.chg hc' id (fun _ _ => id))
      replace HL := Lib.hid (HL.out.chg hc' (fun _ _ => id))
      replace HC := Lib.hid (HC.out.trans hc' (fun _ _ e => e))
      clear hc' HRT y0 y1 y2 y3 y4 y5 y6 y7 y8 y9 y10 y11 y12
      have HG := Lib.hid (rrdone_any p _ _ _ HRD.out)
      generalize hdn : doneS (cS5 b) = dn at *
      clear hdn
      go_wp2_with fail
      refine HG.out.mono ?_
      rintro e v11 ⟨rfl, rfl⟩
      by_cases q0 : dn = 0
      case neg =>
        have t0 : (dn == 0) = false := by simpa using q0
        have s0 : (dn != 0) = true := by simpa using q0
        have HNO := Lib.hid (show cOK b = false by rw [HD2.out, t0]; rfl)
        clear q0
        obtain ⟨x0, x1, x2, x3, x4, x5, x6, x7, x8, x9, x10, x11, x12⟩ := ms_cells HR.out
        obtain ⟨u0, u1, u2, u3, u4, u5, u6, u7, u8, u9, u10, u11, u12⟩ := ms_free HR.out
        obtain ⟨r0, r1, r2, r3, r4, r5, r6, r7, r8, r9, r10, r11, r12, _, hcs⟩ := ms_put HR.out 0 0 0 0 0 0 0 0 0 0 0 0 none 0 0
        have HF := Lib.hid (fresh_set HC.out hcs (Nat.le_refl _))
        have RR := Lib.hid (And.intro r0 (And.intro r1 (And.intro r2 (And.intro r3 (And.intro r4 (And.intro r5 (And.intro r6 (And.intro r7 (And.intro r8 (And.intro r9 (And.intro r10 (And.intro r11 (r12)))))))))))))
        clear r0 r1 r2 r3 r4 r5 r6 r7 r8 r9 r10 r11 r12 hcs
        go_wp2_with fail
        obtain ⟨r0, r1, r2, r3, r4, r5, r6, r7, r8, r9, r10, r11, r12⟩ := RR.out
        exact bodyPost_ret (v := .tuple #[zeroM, .int .i64 2]) (by simp [results, Try.results16, go_sem, zeroM, msC, r0, r1, r2, r3, r4, r5, r6, r7, r8, r9, r10, r11, r12]) rfl (dec6_no HNO.out ⟨rfl, HF.out⟩)
      subst q0
      cases r with
      | false =>
        have HNO := Lib.hid (show cOK b = false by rw [HD2.out]; rfl)
        obtain ⟨x0, x1, x2, x3, x4, x5, x6, x7, x8, x9, x10, x11, x12⟩ := ms_cells HR.out
        obtain ⟨u0, u1, u2, u3, u4, u5, u6, u7, u8, u9, u10, u11, u12⟩ := ms_free HR.out
        obtain ⟨r0, r1, r2, r3, r4, r5, r6, r7, r8, r9, r10, r11, r12, _, hcs⟩ := ms_put HR.out 0 0 0 0 0 0 0 0 0 0 0 0 none 0 0
        have HF := Lib.hid (fresh_set HC.out hcs (Nat.le_refl _))
        have RR := Lib.hid (And.intro r0 (And.intro r1 (And.intro r2 (And.intro r3 (And.intro r4 (And.intro r5 (And.intro r6 (And.intro r7 (And.intro r8 (And.intro r9 (And.intro r10 (And.intro r11 (r12)))))))))))))
        clear r0 r1 r2 r3 r4 r5 r6 r7 r8 r9 r10 r11 r12 hcs
        go_wp2_with fail
        obtain ⟨r0, r1, r2, r3, r4, r5, r6, r7, r8, r9, r10, r11, r12⟩ := RR.out
        exact bodyPost_ret (v := .tuple #[zeroM, .int .i64 2]) (by simp [results, Try.results16, go_sem, zeroM, msC, r0, r1, r2, r3, r4, r5, r6, r7, r8, r9, r10, r11, r12]) rfl (dec6_no HNO.out ⟨rfl, HF.out⟩)
      | true =>
        replace HD2 := Lib.hid (show cOK b = true by rw [HD2.out]; rfl)
        obtain ⟨y0, y1, y2, y3, y4, y5, y6, y7, y8, y9, y10, y11, y12⟩ := ms_cells HQ.out
        obtain ⟨x0, x1, x2, x3, x4, x5, x6, x7, x8, x9, x10, x11, x12⟩ := ms_cells HR.out
        obtain ⟨u0, u1, u2, u3, u4, u5, u6, u7, u8, u9, u10, u11, u12⟩ := ms_free HR.out
        obtain ⟨r0, r1, r2, r3, r4, r5, r6, r7, r8, r9, r10, r11, r12, _, hcs⟩ := ms_put HR.out 3 0 0 0 0 0 0 0 0 0 (cPt b) (cVr b) A nn c
        have HF := Lib.hid (fresh_set HC.out hcs (Nat.le_refl _))
        replace HL := Lib.hid (HL.out.chg hcs (fun k hk e => by omega))
        have RR := Lib.hid (And.intro r0 (And.intro r1 (And.intro r2 (And.intro r3 (And.intro r4 (And.intro r5 (And.intro r6 (And.intro r7 (And.intro r8 (And.intro r9 (And.intro r10 (And.intro r11 (r12)))))))))))))
        clear r0 r1 r2 r3 r4 r5 r6 r7 r8 r9 r10 r11 r12 hcs
        go_wp2_with fail
        obtain ⟨r0, r1, r2, r3, r4, r5, r6, r7, r8, r9, r10, r11, r12⟩ := RR.out
        exact bodyPost_ret (v := .tuple #[.agg (msC 3 0 0 0 0 0 0 0 0 0 (cPt b) (cVr b) A nn c), .int .i64 0]) (by simp [results, Try.results16, go_sem, msC, r0, r1, r2, r3, r4, r5, r6, r7, r8, r9, r10, r11, r12]) rfl (dec6_hd HD2.out HV.out (hd6_three b A nn c HLEN.out (HL.out.mono (fun _ _ => trivial)) HF.out))


theorem rparse6_any (A : Option Addr) (n c : Nat) (b : List UInt8) (S : Nat → Prop) (w : World) (hn : n = b.length) (h : Rds w S A n (bcs b)) (hb : n ≤ 100000) :
    Calls Try.prog 16 #[.slice A n c] w (Dec6 b w) := by
  by_cases h1 : cK b = 1
  · exact rpar_1 A n c b S w hn h hb h1
  by_cases h2 : cK b = 2
  · exact rpar_2 A n c b S w hn h hb h2
  by_cases h3 : cK b = 3
  · exact rpar_3 A n c b S w hn h hb h3
  exact rpar_9 A n c b S w hn h hb h1 h2 h3

end Go.Proofs.Ytalfbijcjghemaa
