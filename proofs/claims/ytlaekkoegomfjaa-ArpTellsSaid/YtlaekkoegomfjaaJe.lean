/-
  Walk: arp.Announces. Conditions: the frame's load is read in memory, no more of it than there is room.
-/
import Derived.Test.YtlaekkoegomfjaaJd
import Derived.Test.YtlaekkoegomfjaaJb
import Derived.Deep.RegionHeld3
namespace Go.Proofs.Ytlaekkoegomfjaa
open Go.RowKit
set_option linter.unusedVariables false

/-- What Decode hands back of any bytes. -/
def decR (b : List UInt8) : Value := if okA b then .tuple #[arpV b, .int .i64 0] else .tuple #[zeroA, .int .i64 2]
theorem decR_no {b : List UInt8} (h : okA b = false) : decR b = .tuple #[zeroA, .int .i64 2] := by unfold decR; rw [h]; rfl
theorem decR_yes {b : List UInt8} (h : okA b = true) : decR b = .tuple #[arpV b, .int .i64 0] := by unfold decR; rw [h]; rfl
theorem decR_short {b : List UInt8} (h : b.length < 28) : decR b = .tuple #[zeroA, .int .i64 2] := decR_no (by unfold okA; simp; omega)
theorem decR_long {b : List UInt8} (h : 28 ≤ b.length) : decR b = decV b := by
  unfold decR decV okA
  simp [h]
theorem adec_any (A : Option Addr) (n c : Nat) (b : List UInt8) (S : Nat → Prop) (w : World) (hn : n = b.length) (h : Rds w S A n (bcs b)) (hc : n ≤ c) (hcm : c ≤ maxLen) :
    Calls Try.prog 15 #[.slice A n c] w fun e w' => e = .returned (decR b) ∧ Chg (fun _ => False) w w' := by
  by_cases h28 : n < 28
  · rw [decR_short (by omega)]
    exact adec_short A n c w h28
  · rw [decR_long (by omega)]
    exact adec_long A n c b S w hn h (by omega) hc hcm

/-- Does a frame of this type, with such an arp, announce? -/
def saysB (t op spa tpa : Int) : Bool := (t == 32821 && saysR op) || (t == 2054 && saysA op spa tpa)
/-- What a frame announces. -/
def annV (d s t : Int) (n : Nat) (l : List UInt8) : Value := if rightB d s t n && (okA l && saysB t (aO l) (aP l) (aQ l)) then .tuple #[.int .u64 (aS l), .bool true] else .tuple #[.int .u64 0, .bool false]
theorem annV_no {d s t : Int} {n : Nat} {l : List UInt8} (h : (rightB d s t n && (okA l && saysB t (aO l) (aP l) (aQ l))) = false) : annV d s t n l = .tuple #[.int .u64 0, .bool false] := by unfold annV; rw [h]; rfl
theorem annV_yes {d s t : Int} {n : Nat} {l : List UInt8} (h : (rightB d s t n && (okA l && saysB t (aO l) (aP l) (aQ l))) = true) : annV d s t n l = .tuple #[.int .u64 (aS l), .bool true] := by unfold annV; rw [h]; rfl

theorem frame_kept {w w' : World} {g : Nat} {d s t : Int} {v : Value} (hb : Blk w g 28 #[.int .u64 d, .int .u64 s, .int .i64 t, v]) (h : Chg (fun _ => False) w w') :
    w'.cell? ⟨g, 0, none⟩ = some (.int .u64 d) ∧ w'.cell? ⟨g, 1, none⟩ = some (.int .u64 s) ∧ w'.cell? ⟨g, 2, none⟩ = some (.int .i64 t) ∧ w'.cell? ⟨g, 3, none⟩ = some v := by
  have hb1 := hb.chg h id
  have x0 := hb1.cell 0
  have x1 := hb1.cell 1
  have x2 := hb1.cell 2
  have x3 := hb1.cell 3
  simp only [List.getElem?_toArray, List.getElem?_cons_zero, List.getElem?_cons_succ] at x0 x1 x2 x3
  exact ⟨x0, x1, x2, x3⟩

set_option maxHeartbeats 400000 in
theorem ann_wrong (d s t : Int) (A : Option Addr) (n c : Nat) (l : List UInt8) (w : World) (hd : 0 ≤ d) (hs : 0 ≤ s) (hn : n ≤ 9223372036854775807) (hr : rightB d s t n = false) :
    Calls Try.prog 7 #[.agg #[.int .u64 d, .int .u64 s, .int .i64 t, .slice A n c]] w fun e w' => e = .returned (annV d s t n l) ∧ Chg (fun _ => False) w w' := by
  rw [annV_no (by rw [hr]; rfl)]
  have HR := Lib.hid hr
  clear hr
  go_enter Try.func7, Try.ntmps7
  go_wp2_with fail
  refine (right_any d s t A n c _ hd hs hn).mono ?_
  rw [HR.out]
  rintro e w' ⟨rfl, hc⟩
  go_wp2_with fail
  go_ret2
  exact ⟨rfl, ((Chg.refl _ w).alloc _).trans hc (fun _ _ e => e)⟩

set_option maxHeartbeats 1000000 in
theorem ann_none (d s t : Int) (A : Option Addr) (n c : Nat) (l : List UInt8) (S : Nat → Prop) (w : World) (hn : n = l.length) (h : Rds w S A n (bcs l)) (hc : n ≤ c) (hcm : c ≤ maxLen) (hd : 0 ≤ d) (hs : 0 ≤ s) (hr : rightB d s t n = true) (ho : okA l = false) :
    Calls Try.prog 7 #[.agg #[.int .u64 d, .int .u64 s, .int .i64 t, .slice A n c]] w fun e w' => e = .returned (annV d s t n l) ∧ Chg (fun _ => False) w w' := by
  rw [annV_no (by rw [ho]; simp)]
  have HR := Lib.hid hr
  have HO := Lib.hid ho
  have hn2 : n ≤ 9223372036854775807 := by unfold maxLen at hcm; omega
  have hb0 : Blk (w.alloc (.cells #[.int .u64 d, .int .u64 s, .int .i64 t, .slice A n c] 28)) w.heap.size _ _ := Blk.new _ _ _
  have hC0 := (Chg.refl (fun _ => False) w).alloc (.cells #[.int .u64 d, .int .u64 s, .int .i64 t, .slice A n c] 28)
  have h0 := h.alloc (.cells #[.int .u64 d, .int .u64 s, .int .i64 t, .slice A n c] 28)
  have HB0 := Lib.hid hb0
  have HC0 := Lib.hid hC0
  have H0 := Lib.hid h0
  have HN := Lib.hid hn
  clear hr ho hb0 hC0 h0 h hn
  go_enter Try.func7, Try.ntmps7
  go_wp2_with fail
  refine (right_any d s t A n c _ hd hs hn2).mono ?_
  rw [HR.out]
  rintro e w1 ⟨rfl, hc1⟩
  obtain ⟨x0, x1, x2, x3⟩ := frame_kept HB0.out hc1
  have HD := Lib.hid (adec_any A n c l _ w1 HN.out (H0.out.chg hc1 (fun _ _ => id)) hc hcm)
  go_wp2_with fail
  refine HD.out.mono ?_
  rw [decR_no HO.out]
  unfold zeroA
  rintro e w2 ⟨rfl, hc2⟩
  have hC := Lib.hid ((HC0.out.trans hc1 (fun _ _ e => e)).trans hc2 (fun _ _ e => e))
  clear hc1 hc2 x0 x1 x2 x3
  go_wp2_with fail
  go_ret2
  exact ⟨rfl, hC.out.alloc _⟩

theorem ann_kept {w w' : World} {q : Nat} {op sha tha spa tpa : Int} {T : TypeId} (hb : Blk w q T (arpC op sha tha spa tpa)) (h : Chg (fun _ => False) w w') :
    w'.cell? ⟨q, 0, none⟩ = some (.int .i64 op) ∧ w'.cell? ⟨q, 1, none⟩ = some (.int .u64 sha) ∧ w'.cell? ⟨q, 2, none⟩ = some (.int .u64 tha) ∧ w'.cell? ⟨q, 3, none⟩ = some (.int .u32 spa) ∧ w'.cell? ⟨q, 4, none⟩ = some (.int .u32 tpa) := arp_cells (hb.chg h id)

set_option maxHeartbeats 4000000 in
theorem ann_some (d s t : Int) (A : Option Addr) (n c : Nat) (l : List UInt8) (S : Nat → Prop) (w : World) (hn : n = l.length) (h : Rds w S A n (bcs l)) (hc : n ≤ c) (hcm : c ≤ maxLen) (hd : 0 ≤ d) (hs : 0 ≤ s) (hr : rightB d s t n = true) (ho : okA l = true) :
    Calls Try.prog 7 #[.agg #[.int .u64 d, .int .u64 s, .int .i64 t, .slice A n c]] w fun e w' => e = .returned (annV d s t n l) ∧ Chg (fun _ => False) w w' := by
  have HR := Lib.hid hr
  have HO := Lib.hid ho
  have hn2 : n ≤ 9223372036854775807 := by unfold maxLen at hcm; omega
  have hb0 : Blk (w.alloc (.cells #[.int .u64 d, .int .u64 s, .int .i64 t, .slice A n c] 28)) w.heap.size _ _ := Blk.new _ _ _
  have hC0 := (Chg.refl (fun _ => False) w).alloc (.cells #[.int .u64 d, .int .u64 s, .int .i64 t, .slice A n c] 28)
  have h0 := h.alloc (.cells #[.int .u64 d, .int .u64 s, .int .i64 t, .slice A n c] 28)
  have HB0 := Lib.hid hb0
  have HC0 := Lib.hid hC0
  have H0 := Lib.hid h0
  have HN := Lib.hid hn
  have HV0 : Hid (saysB t (aO l) (aP l) (aQ l) = false → annV d s t n l = .tuple #[.int .u64 0, .bool false]) := fun hf => annV_no (by rw [hf]; simp)
  have HV1 : Hid (saysB t (aO l) (aP l) (aQ l) = true → annV d s t n l = .tuple #[.int .u64 (aS l), .bool true]) := fun hf => annV_yes (by rw [hf, hr, ho]; rfl)
  have HAV : Hid (decR l = .tuple #[.agg #[.int .i64 (aO l), .int .u64 (aS l), .int .u64 (aT l), .int .u32 (aP l), .int .u32 (aQ l)], .int .i64 0]) := decR_yes ho
  generalize annV d s t n l = V at *
  generalize aO l = op at *
  generalize aS l = sha at *
  generalize aT l = tha at *
  generalize aP l = spa at *
  generalize aQ l = tpa at *
  clear hr ho hb0 hC0 h0 h hn
  go_enter Try.func7, Try.ntmps7
  go_wp2_with fail
  refine (right_any d s t A n c _ hd hs hn2).mono ?_
  rw [HR.out]
  rintro e w1 ⟨rfl, hc1⟩
  obtain ⟨x0, x1, x2, x3⟩ := frame_kept HB0.out hc1
  have HD := Lib.hid (adec_any A n c l _ w1 HN.out (H0.out.chg hc1 (fun _ _ => id)) hc hcm)
  go_wp2_with fail
  refine HD.out.mono ?_
  rw [HAV.out]
  rintro e w2 ⟨rfl, hc2⟩
  have hC := (HC0.out.trans hc1 (fun _ _ e => e)).trans hc2 (fun _ _ e => e)
  have hF := HB0.out.chg (hc1.trans hc2 (fun _ _ e => e)) id
  clear hc1 hc2 x0 x1 x2 x3 HB0 HC0 H0 HN HD HAV HR HO
  have hq0 : Blk (w2.alloc (.cells #[.int .i64 op, .int .u64 sha, .int .u64 tha, .int .u32 spa, .int .u32 tpa] 25)) w2.heap.size 25 (arpC op sha tha spa tpa) := blk_new rfl
  have hF := hF.alloc (.cells #[.int .i64 op, .int .u64 sha, .int .u64 tha, .int .u32 spa, .int .u32 tpa] 25)
  have hC := hC.alloc (.cells #[.int .i64 op, .int .u64 sha, .int .u64 tha, .int .u32 spa, .int .u32 tpa] 25)
  go_wp2_with fail
  generalize (w2.alloc (.cells #[.int .i64 op, .int .u64 sha, .int .u64 tha, .int .u32 spa, .int .u32 tpa] 25)) = w3 at *
  obtain ⟨x0, x1, x2, x3⟩ := frame_kept hF (Chg.refl _ w3)
  obtain ⟨y0, y1, y2, y3, y4⟩ := arp_cells hq0
  by_cases t1 : t = 32821
  · subst t1
    have HS : Hid (saysB 32821 op spa tpa = saysR op) := by unfold Hid saysB; simp
    go_region_held3 (fun w' => w'.cell? ⟨w.heap.size, 2, none⟩ = some (.int .i64 32821) ∧ w'.cell? ⟨w2.heap.size, 0, none⟩ = some (.int .i64 op) ∧ w'.cell? ⟨w2.heap.size, 1, none⟩ = some (.int .u64 sha) ∧ w'.cell? ⟨w2.heap.size, 2, none⟩ = some (.int .u64 tha) ∧ w'.cell? ⟨w2.heap.size, 3, none⟩ = some (.int .u32 spa) ∧ w'.cell? ⟨w2.heap.size, 4, none⟩ = some (.int .u32 tpa))
      (first | exact ⟨x2, y0, y1, y2, y3, y4⟩ | exact ⟨(frame_kept hF (Chg.refl _ _).drew).2.2.1, ann_kept hq0 (Chg.refl _ _).drew⟩ | exact ⟨(frame_kept hF hc4).2.2.1, ann_kept hq0 hc4⟩ | exact ⟨(frame_kept hF ((Chg.refl _ _).drew.trans hc4 (fun _ _ e => e))).2.2.1, ann_kept hq0 ((Chg.refl _ _).drew.trans hc4 (fun _ _ e => e))⟩ | fail)
      (first | (go_at_call 19; refine (sayers_any op sha tha spa tpa _).mono ?_; rintro e w4 ⟨q, m, rfl, hbq, hmm, hc4⟩; have hl := hmm.hit (P := Try.prog) (x := 32821) (i := 0) (v := .func (.func 29) #[] #[.pointer (some ⟨q, 0, none⟩)]) Try.underlying50 Try.underlying3 rfl) | fail)
    have hcx : Chg (fun _ => False) w3 w4 := by first | exact hc4 | exact (Chg.refl _ _).drew.trans hc4 (fun _ _ e => e)
    obtain ⟨z0, z1, z2, z3, z4⟩ := ann_kept hq0 hcx
    have hCC := hC.trans hcx (fun _ _ e => e)
    go_wp2_with fail
    refine (says_r q op sha tha spa tpa w4 hbq).mono ?_
    rintro e w5 ⟨rfl, rfl⟩
    rcases hv : saysR op with _ | _
    · go_wp2_with fail
      go_ret2
      exact ⟨by rw [HV0.out (HS.out.trans hv)]; rfl, hCC⟩
    · go_wp2_with fail
      go_ret2
      exact ⟨by rw [HV1.out (HS.out.trans hv)]; rfl, hCC⟩
  · by_cases t2 : t = 2054
    · subst t2
      have HS : Hid (saysB 2054 op spa tpa = saysA op spa tpa) := by unfold Hid saysB; simp
      go_region_held3 (fun w' => w'.cell? ⟨w.heap.size, 2, none⟩ = some (.int .i64 2054) ∧ w'.cell? ⟨w2.heap.size, 0, none⟩ = some (.int .i64 op) ∧ w'.cell? ⟨w2.heap.size, 1, none⟩ = some (.int .u64 sha) ∧ w'.cell? ⟨w2.heap.size, 2, none⟩ = some (.int .u64 tha) ∧ w'.cell? ⟨w2.heap.size, 3, none⟩ = some (.int .u32 spa) ∧ w'.cell? ⟨w2.heap.size, 4, none⟩ = some (.int .u32 tpa))
        (first | exact ⟨x2, y0, y1, y2, y3, y4⟩ | exact ⟨(frame_kept hF (Chg.refl _ _).drew).2.2.1, ann_kept hq0 (Chg.refl _ _).drew⟩ | exact ⟨(frame_kept hF hc4).2.2.1, ann_kept hq0 hc4⟩ | exact ⟨(frame_kept hF ((Chg.refl _ _).drew.trans hc4 (fun _ _ e => e))).2.2.1, ann_kept hq0 ((Chg.refl _ _).drew.trans hc4 (fun _ _ e => e))⟩ | fail)
        (first | (go_at_call 19; refine (sayers_any op sha tha spa tpa _).mono ?_; rintro e w4 ⟨q, m, rfl, hbq, hmm, hc4⟩; have hl := hmm.hit (P := Try.prog) (x := 2054) (i := 1) (v := .func (.func 30) #[] #[.pointer (some ⟨q, 0, none⟩)]) Try.underlying50 Try.underlying3 rfl) | fail)
      have hcx : Chg (fun _ => False) w3 w4 := by first | exact hc4 | exact (Chg.refl _ _).drew.trans hc4 (fun _ _ e => e)
      obtain ⟨z0, z1, z2, z3, z4⟩ := ann_kept hq0 hcx
      have hCC := hC.trans hcx (fun _ _ e => e)
      go_wp2_with fail
      refine (says_a q op sha tha spa tpa w4 hbq).mono ?_
      rintro e w5 ⟨rfl, rfl⟩
      rcases hv : saysA op spa tpa with _ | _
      · go_wp2_with fail
        go_ret2
        exact ⟨by rw [HV0.out (HS.out.trans hv)]; rfl, hCC⟩
      · go_wp2_with fail
        go_ret2
        exact ⟨by rw [HV1.out (HS.out.trans hv)]; rfl, hCC⟩
    · have HS := Lib.hid (show saysB t op spa tpa = false by unfold saysB; simp [t1, t2])
      have hfn : ∀ q, Instr.findNow (.int .i64) (.int .i64 t) (sayers q).toList 0 = some none := by intro q; have e1 : (t == 32821) = false := (by simpa using t1); have e2 : (t == 2054) = false := (by simpa using t2); simp [sayers, Instr.findNow, Instr.sameNow, e1, e2]
      have hzf : ∀ W : World, (zeroValue 30).run Try.prog W = .ok .nilFunc W := fun _ => by kernel_rfl
      have HFN := Lib.hid hfn
      have HZF := Lib.hid hzf
      clear hfn hzf t1 t2
      go_region_held3 (fun w' => w'.cell? ⟨w.heap.size, 2, none⟩ = some (.int .i64 t) ∧ w'.cell? ⟨w2.heap.size, 0, none⟩ = some (.int .i64 op) ∧ w'.cell? ⟨w2.heap.size, 1, none⟩ = some (.int .u64 sha) ∧ w'.cell? ⟨w2.heap.size, 2, none⟩ = some (.int .u64 tha) ∧ w'.cell? ⟨w2.heap.size, 3, none⟩ = some (.int .u32 spa) ∧ w'.cell? ⟨w2.heap.size, 4, none⟩ = some (.int .u32 tpa))
        (first | exact ⟨x2, y0, y1, y2, y3, y4⟩ | exact ⟨(frame_kept hF (Chg.refl _ _).drew).2.2.1, ann_kept hq0 (Chg.refl _ _).drew⟩ | exact ⟨(frame_kept hF hc4).2.2.1, ann_kept hq0 hc4⟩ | exact ⟨(frame_kept hF ((Chg.refl _ _).drew.trans hc4 (fun _ _ e => e))).2.2.1, ann_kept hq0 ((Chg.refl _ _).drew.trans hc4 (fun _ _ e => e))⟩ | fail)
        (first | (go_at_call 19; refine (sayers_any op sha tha spa tpa _).mono ?_; rintro e w4 ⟨q, m, rfl, hbq, hmm, hc4⟩; have hl := hmm.miss (P := Try.prog) (x := t) (z := .nilFunc) Try.underlying50 Try.underlying3 (HZF.out w4) (HFN.out q)) | fail)
      have hcx : Chg (fun _ => False) w3 w4 := by first | exact hc4 | exact (Chg.refl _ _).drew.trans hc4 (fun _ _ e => e)
      have hCC := hC.trans hcx (fun _ _ e => e)
      go_wp2_with fail
      go_ret2
      exact ⟨by rw [HV0.out HS.out]; rfl, hCC⟩

theorem ann_any (d s t : Int) (A : Option Addr) (n c : Nat) (l : List UInt8) (S : Nat → Prop) (w : World) (hn : n = l.length) (h : Rds w S A n (bcs l)) (hc : n ≤ c) (hcm : c ≤ maxLen) (hd : 0 ≤ d) (hs : 0 ≤ s) :
    Calls Try.prog 7 #[.agg #[.int .u64 d, .int .u64 s, .int .i64 t, .slice A n c]] w fun e w' => e = .returned (annV d s t n l) ∧ Chg (fun _ => False) w w' := by
  by_cases hr : rightB d s t n = true
  · by_cases ho : okA l = true
    · exact ann_some d s t A n c l S w hn h hc hcm hd hs hr ho
    · exact ann_none d s t A n c l S w hn h hc hcm hd hs hr (by simpa using ho)
  · exact ann_wrong d s t A n c l w hd hs (by unfold maxLen at hcm; omega) (by simpa using hr)

end Go.Proofs.Ytlaekkoegomfjaa
