/-
  Two journals under one word. Walk: rutterlaw08.JournalPlays. Condition: the arguments are read in memory.
-/
import Derived.Test.YthljmebhbjeeiaaNh
import Derived.Test.YthljmebhbjeeiaaLe
namespace Go.Proofs.Ythljmebhbjeeiaa
open Go.RowKit
set_option linter.unusedVariables false
set_option linter.unusedSimpArgs false

theorem recs_count (l : List (List UInt8)) : l.length ≤ (recs8 l).length := by
  induction l with
  | nil => exact Nat.zero_le _
  | cons x l ih => rw [recs_cons, List.length_append, recB_len, List.length_cons]; omega
theorem opS_le {bs : List UInt8} {s : Nat} (h : s ≤ bs.length) : opS bs s ≤ (recs8 (scan8 bs)).length := by
  unfold opS
  split
  · exact Nat.le_refl _
  · rename_i hn
    unfold used8 at hn
    omega
/-- A journal of a file, and the document's of its own: both files have the records ls. -/
def JX (W : World) (p q j g r : Nat) (w : World) : Prop :=
  ∃ (ls : List (List UInt8)) (s : Nat) (o1 o2 : Option Nat), DF W p q (recs8 ls) s (recs8 ls) s r o1 o2 w ∧ Blk w j 62 #[.pointer (some ⟨p, 0, none⟩)] ∧ Blk w g 48 #[.pointer (some ⟨q, 0, none⟩), .int .i64 (ls.length : Int)] ∧
    (W.heap.size ≤ j ∧ W.heap.size ≤ g) ∧ s ≤ (recs8 ls).length ∧ (recs8 ls).length ≤ r ∧ ∀ x ∈ ls, Bok x
theorem JX.new {W w w' : World} {p q j g r : Nat} (h : JX W p q j g r w) (hc : Chg (fun _ => False) w w') : JX W p q j g r w' := by
  obtain ⟨ls, s, o1, o2, h1, h2, h3, h4⟩ := h
  exact ⟨ls, s, o1, o2, h1.new hc, h2.chg hc id, h3.chg hc id, h4⟩
theorem JX.was {W w : World} {p q j g r : Nat} (h : JX W p q j g r w) : Chg (fun _ => False) W w := by
  obtain ⟨ls, s, o1, o2, h1, _⟩ := h
  exact h1.chg
theorem df_side {W w w' : World} {p q g r s s' : Nat} {bs bs' : List UInt8} {o1 o2 : Option Nat} {cs : Array Value} (h : DF W p q bs s bs' s' r o1 o2 w) (hb : Blk w g 48 cs) (hg : W.heap.size ≤ g) (hc : Chg (fun k => k = g) w w') : DF W p q bs s bs' s' r o1 o2 w' := by
  obtain ⟨a1, a2⟩ := fi_apart h.f1 hb (by decide) (by decide)
  obtain ⟨a3, a4⟩ := fi_apart h.f2 hb (by decide) (by decide)
  exact ⟨h.chg.trans hc (fun i hi e => by omega), h.lo1, h.lo2, h.f1.chg hc (fun e => a1 e.symm) (fun k hk e => a2 (by rw [← e]; exact hk)), h.f2.chg hc (fun e => a3 e.symm) (fun k hk e => a4 (by rw [← e]; exact hk)), h.ol1, h.ol2, h.ne, h.neo⟩
theorem putj_any {r s : Nat} {ls : List (List UInt8)} {b : List UInt8} (hok : ∀ x ∈ ls, Bok x) (hs : s ≤ (recs8 ls).length) (hbr : (recs8 ls).length ≤ r) :
    ∃ ls', putB r (recs8 ls) b = recs8 ls' ∧ putN r (recs8 ls) b ls.length = ls'.length ∧ s ≤ (recs8 ls').length ∧ (recs8 ls').length ≤ r ∧ ∀ x ∈ ls', Bok x := by
  unfold putB putN addB
  by_cases hb : b.length = 0 ∨ 200 < b.length
  · rw [if_pos hb, if_pos hb]
    exact ⟨ls, rfl, rfl, hs, hbr, hok⟩
  · rw [if_neg hb, if_neg hb]
    by_cases hf : r < (recs8 ls).length + (recB b).length
    · rw [if_pos hf, if_pos hf]
      exact ⟨ls, rfl, rfl, hs, hbr, hok⟩
    · rw [if_neg hf, if_neg hf]
      refine ⟨ls ++ [b], (recs_snoc ls b).symm, by simp, by rw [recs_snoc, List.length_append]; omega, by rw [recs_snoc, List.length_append]; omega, fun x hx => ?_⟩
      rcases List.mem_append.1 hx with h | h
      · exact hok x h
      · simp only [List.mem_singleton] at h
        subst h
        exact ⟨by omega, by omega⟩
theorem jx_put {W w w' : World} {p q j g r s : Nat} {ls : List (List UInt8)} {b : List UInt8} {o1 o2 : Option Nat} (hd : DF W p q (putB r (recs8 ls) b) s (recs8 ls) s r o1 o2 w) (hj : Blk w j 62 #[.pointer (some ⟨p, 0, none⟩)])
    (hlo : W.heap.size ≤ j ∧ W.heap.size ≤ g) (hok : ∀ x ∈ ls, Bok x) (hs : s ≤ (recs8 ls).length) (hbr : (recs8 ls).length ≤ r) (h : PutR q g ls.length r s o2 (recs8 ls) b w w') : JX W p q j g r w' := by
  obtain ⟨o', w3, hf, hm, hg3, hg', hc⟩ := h
  obtain ⟨ls', e1, e2, h1, h2, h3⟩ := putj_any (b := b) hok hs hbr
  have hd3 := hd.set2 hf hm
  have hj3 := fi_keep hd.f2 hm hj (by decide) (by decide)
  have hd' := df_side hd3 hg3 hlo.2 hc
  rw [e1] at hd'
  rw [e2] at hg'
  refine ⟨ls', s, o1, o', hd', hj3.chg hc (fun e => ?_), hg', hlo, h1, h2, h3⟩
  subst e
  have h := hj3.symm.trans hg3
  simp at h
/-- What the walk of the last region wants, in letters. -/
theorem jt_open {W w : World} {p q j g r : Nat} (h : JX W p q j g r w) (hr24 : r ≤ 16777216) : ∃ (bs : List UInt8) (A : Option Addr) (n c : Nat) (b : List UInt8) (N s : Nat),
    (∀ w', Chg (fun _ => False) w w' → (w'.cell? ⟨g, 1, none⟩ = some (.int .i64 (N : Int)) ∧ w'.cell? ⟨q, 0, none⟩ = some (.slice A n c) ∧ w'.cell? ⟨q, 1, none⟩ = some (.int .i64 (s : Int)) ∧ (convert 35 9 (.slice A n c)).run Try.prog w' = .ok (.string ⟨b.toArray⟩) w')) ∧
    (∀ w', Chg (fun _ => False) w w' → Calls Try.prog 18 #[.pointer (some ⟨j, 0, none⟩)] w' fun e w'' => e = .returned (.int .i64 (N : Int)) ∧ Chg (fun _ => False) w' w'') ∧
    (∀ w', Chg (fun _ => False) w w' → Calls Try.prog 19 #[.pointer (some ⟨p, 0, none⟩)] w' fun e w'' => ∃ A' c', e = .returned (.slice A' n c') ∧ Rds w'' (fun _ => True) A' n (bcs b) ∧ Chg (fun _ => False) w' w'') ∧
    (∀ w', Chg (fun _ => False) w w' → Calls Try.prog 20 #[.pointer (some ⟨p, 0, none⟩)] w' fun e w'' => e = .returned (.int .i64 (s : Int)) ∧ w' = w'') ∧ n ≤ 16777216 := by
  obtain ⟨ls, s, o1, o2, hd, hj, hg, hlo, hs, hbr, hok⟩ := h
  obtain ⟨A, c, hfl⟩ := hd.f2
  refine ⟨recs8 ls, A, (recs8 ls).length, c, recs8 ls, ls.length, s, fun w' hw => ?_, fun w' hw => ?_, fun w' hw => ?_, fun w' hw => ?_, by omega⟩
  · have hfl' := hfl.chg hw id (fun _ _ => id)
    exact ⟨(nb_cells (hg.chg hw id)).2.1, hfl'.cells.1, hfl'.cells.2.1, conv8 hfl'.rds⟩
  · have h := jlen_any j p o1 (recs8 ls) s r w' (hj.chg hw id) (hd.new hw).f1 hbr hr24
    rw [scan_of ls hok] at h
    exact h
  · refine (dbytes_any p o1 (recs8 ls) s r w' (hd.new hw).f1 hbr hr24).mono ?_
    rintro e w'' ⟨A', c', rfl, hown, hc⟩
    exact ⟨A', c', rfl, (own_rds hown).mono (fun _ _ => trivial), hc⟩
  · exact dsafe_any p o1 (recs8 ls) s r w' (hd.new hw).f1
theorem df_start {W w2 : World} {p r : Nat} (hC : Chg (fun _ => False) W w2) (hp : W.heap.size ≤ p) (hf : Fi 59 w2 p none [] 0 r) :
    DF W p w2.heap.size [] 0 [] 0 r none none (w2.alloc (.cells #[.slice none 0 0, .int .i64 0, .int .i64 (r : Int)] 37)) := by
  have ha : Chg (fun _ => False) w2 (w2.alloc (.cells #[.slice none 0 0, .int .i64 0, .int .i64 (r : Int)] 37)) := (Chg.refl _ w2).alloc _
  have hlt := hf.lt.1
  exact ⟨hC.trans ha (fun _ _ e => e), hp, hC.size, hf.chg ha id (fun _ _ => id), ⟨none, 0, blk_new rfl, World.ownsRow_nil _ 0 _ 1, rfl, by simp⟩, (fun k hk => by cases hk), (fun k hk => by cases hk), (by omega), (fun k hk => by cases hk)⟩

set_option maxRecDepth 100000 in
set_option maxHeartbeats 16000000 in
theorem plays8_any (r : Nat) (L : Option Addr) (m lc : Nat) (l : List At7) (W : World) (hl : AR7 W (fun k => k < W.heap.size) L m l) (hmc : m ≤ 9223372036854775807) (hr : r ≤ 65535) :
    Calls Try.prog 3 #[.int .u16 (r : Int), .slice L m lc] W fun e w' => e = .returned (.bool true) ∧ Chg (fun _ => False) W w' := by
  have HF := Lib.hid (fits8_any L m lc l W _ hl hmc)
  have HAL := Lib.hid alive8_any
  go_enter Try.func3, Try.ntmps3
  go_wp2_with fail
  refine HF.out.mono ?_
  rintro e w0 ⟨b, rfl, hb, rfl⟩
  clear HF
  cases b with
  | false =>
    clear hb
    go_wp2_with fail
    refine (HAL.out _).mono ?_
    rintro e w1 ⟨rfl, hc⟩
    go_wp2_with fail
    go_ret
    exact ⟨rfl, hc⟩
  | true =>
    have HS := Lib.hid (hb rfl).2
    clear hb
    have hr24 : r ≤ 16777216 := by omega
    have HN := Lib.hid (new7_ok r W hr24)
    go_wp2_with fail
    refine HN.out.mono ?_
    rintro e w1 ⟨rfl, hf1, -, hc1⟩
    have HO := Lib.hid (jopen_any W.heap.size none [] 0 r w1 hf1 (Nat.zero_le _) hr24)
    have HC1 := Lib.hid hc1
    clear HN hf1 hc1
    go_wp2_with fail
    refine HO.out.mono ?_
    rintro e w2 ⟨j0, A2, m2, c2, rfl, hj2, hb2, hm2, -, hf2, hv2⟩
    have hm0 : m2 = 0 := hm2
    subst hm0
    have HF2 : Hid (Fi 59 w2 W.heap.size none [] 0 r) := hf2
    have HC2 := Lib.hid (fresh_mvd HC1.out hv2 (Nat.le_refl _) (fun k hk => by cases hk)).1
    have HJ2 := Lib.hid hb2
    have HLJ : Hid (W.heap.size ≤ j0) := Lib.hid (Nat.le_trans HC1.out.size hj2)
    have HD0 := Lib.hid (df_start HC2.out (Nat.le_refl _) HF2.out)
    have HR := Lib.hid (ropen_any w2.heap.size none [] 0 r _ HD0.out.f2 (Nat.zero_le _) hr24)
    clear hj2 hb2 hm2 hf2 hv2 HO HC1
    go_wp2_with fail
    refine HR.out.mono ?_
    rintro e w3 ⟨g0, A3, m3, c3, rfl, hg3, hb3, hm3, -, hf3, hv3⟩
    have HD3 := Lib.hid (HD0.out.set2 hf3 hv3)
    have HJ3 := Lib.hid (fi_keep HD0.out.f2 hv3 (HJ2.out.chg ((Chg.refl (fun _ => False) w2).alloc _) id) (by decide) (by decide))
    have HX0 : Hid (JX W W.heap.size w2.heap.size j0 g0 r w3) := Lib.hid ⟨[], 0, none, none, HD3.out, HJ3.out, hb3, ⟨HLJ.out, Nat.le_trans HD0.out.chg.size hg3⟩, Nat.zero_le _, Nat.zero_le _, fun x hx => by simp at hx⟩
    clear hg3 hb3 hm3 hf3 hv3 HR HD0 HD3 HJ3 HJ2 HLJ HC2 HF2
    have HL := Lib.hid hl
    clear hl
    generalize w2.heap.size = q at *
    generalize hpp : W.heap.size = p at HX0 ⊢
    go_wp2_with fail
    go_loopg [8, 12, 14] m (fun g0 sj sn i wr => ∃ (k j g : Nat), g0 = m - k ∧ k ≤ m ∧ i = .int .i64 (k : Int) ∧ sj = .pointer (some ⟨j, 0, none⟩) ∧ sn = .pointer (some ⟨g, 0, none⟩) ∧ Hid (JX W p q j g r wr))
    case atStart => exact ⟨0, j0, g0, rfl, Nat.zero_le _, rfl, rfl, rfl, HX0⟩
    case round =>
      obtain ⟨k, j, g, rfl, hk, rfl, rfl, rfl, HJX⟩ := hrel
      clear HX0
      by_cases hlt : k < m
      · have hll := HL.out.1
        obtain ⟨ad, rfl, -⟩ := HL.out.2 (by omega)
        have hx : l[k]? = some (l[k]'(by omega)) := List.getElem?_eq_getElem (by omega)
        obtain ⟨-, -, -, hkk, hq, -, hrb⟩ := HL.out.at hx
        obtain ⟨z0, z1, z2, -⟩ := (HL.out.chg HJX.out.was (S' := fun _ => False) (fun _ _ => id)).at hx
        have hq3 := HS.out k _ hx
        generalize l[k] = x at *
        obtain ⟨ls, s, o1, o2, hd, hjb, hgb, hlo, hs, hbr, hok⟩ := HJX.out
        have HD := Lib.hid hd
        have HJB := Lib.hid hjb
        have HGB := Lib.hid hgb
        have HLO := Lib.hid hlo
        have HOK := Lib.hid hok
        have HQ := Lib.hid hq
        have HRB := Lib.hid hrb
        have HXX := Lib.hid hx
        clear hd hjb hgb hlo hok hq hrb hx hll HJX
        have hcase : x.k % 5 = 3 ∨ (¬ x.k % 5 = 3 ∧ x.k % 5 = 4) ∨ (¬ x.k % 5 = 3 ∧ ¬ x.k % 5 = 4) := by omega
        rcases hcase with h3 | ⟨h3, h4⟩ | ⟨h3, h4⟩
        · have HC1 := Lib.hid (jsync_any j p o1 (recs8 ls) s r wr HJB.out HD.out.f1)
          go_upto_region 19 with fail
          refine HC1.out.mono ?_
          rintro e w3 ⟨rfl, hf1, hm1⟩
          have HD1 := Lib.hid (HD.out.set1 hf1 hm1)
          have HJ1 := Lib.hid (fi_keep HD.out.f1 hm1 HJB.out (by decide) (by decide))
          have HG1 := Lib.hid (fi_keep HD.out.f1 hm1 HGB.out (by decide) (by decide))
          have HC2 := Lib.hid (rsync_any q o2 (recs8 ls) s r w3 HD1.out.f2)
          clear hf1 hm1 HC1 HD HJB HGB z0 z1 z2
          go_wp2_with fail
          refine HC2.out.mono ?_
          rintro e w9 ⟨rfl, hf2, hm2⟩
          have HT : Hid (JX W p q j g r w9) := Lib.hid ⟨ls, (recs8 ls).length, o1, o2, HD1.out.set2 hf2 hm2, fi_keep HD1.out.f2 hm2 HJ1.out (by decide) (by decide), fi_keep HD1.out.f2 hm2 HG1.out (by decide) (by decide), HLO.out, Nat.le_refl _, hbr, HOK.out⟩
          clear hf2 hm2 HC2 HD1 HJ1 HG1 HOK HLO hs
          go_upto_region 29 with fail
          obtain ⟨bs9, A9, n9, c9, b9, N3, s3, KEEP9, LEN9, BYT9, SAF9, hb9⟩ := jt_open HT.out hr24
          have HKEEP := Lib.hid KEEP9
          have HLENC := Lib.hid LEN9
          have HBYTC := Lib.hid BYT9
          have HSAFC := Lib.hid SAF9
          clear KEEP9 LEN9 BYT9 SAF9
          have HX := Lib.hid (Chg.refl (fun _ => False) w9).drew
          have s2 := HKEEP.out _ HX.out
          refine wp_region_noPanic ?_
          refine wp_region_held_drew (S := (fun w' => w'.cell? ⟨g, 1, none⟩ = some (.int .i64 (N3 : Int)) ∧ w'.cell? ⟨q, 0, none⟩ = some (.slice A9 n9 c9) ∧ w'.cell? ⟨q, 1, none⟩ = some (.int .i64 (s3 : Int)) ∧ (convert 35 9 (.slice A9 n9 c9)).run Try.prog w' = .ok (.string ⟨b9.toArray⟩) w')) (by kernel_rfl) s2 (fun hHeld => ?_)
          refine wpAnyH_take (i := 0) (v := ?_) rfl (by kernel_rfl) (by kernel_rfl) (by kernel_rfl) (fun _ _ _ h => h) (Or.inl ⟨by rfl, ?_⟩) (by assumption) ?_
          rotate_left
          · intro w' hSw
            try dsimp only at hSw
            go_simp
            first | done | (with_reducible rfl)
          try simp only [List.getElem_toArray, List.getElem_cons_succ, List.getElem_cons_zero, Act.put, List.setIfInBounds_toArray, List.set_cons_zero, List.set_cons_succ]
          refine wpAnyH_take (i := 1) (v := ?_) rfl (by kernel_rfl) (by kernel_rfl) (by kernel_rfl) (fun _ _ _ h => h) (Or.inl ⟨by rfl, ?_⟩) (by assumption) ?_
          rotate_left
          · intro w' hSw
            try dsimp only at hSw
            go_simp
            first | done | (with_reducible rfl)
          try simp only [List.getElem_toArray, List.getElem_cons_succ, List.getElem_cons_zero, Act.put, List.setIfInBounds_toArray, List.set_cons_zero, List.set_cons_succ]
          refine wpAnyH_take (i := 2) (v := ?_) rfl (by kernel_rfl) (by kernel_rfl) (by kernel_rfl) (fun _ _ _ h => h) (Or.inl ⟨by rfl, ?_⟩) (by assumption) ?_
          rotate_left
          · intro w' hSw
            try dsimp only at hSw
            go_simp
            first | done | (with_reducible rfl)
          try simp only [List.getElem_toArray, List.getElem_cons_succ, List.getElem_cons_zero, Act.put, List.setIfInBounds_toArray, List.set_cons_zero, List.set_cons_succ]
          refine wpAnyH_take (i := 3) (v := ?_) rfl (by kernel_rfl) (by kernel_rfl) (by kernel_rfl) (fun _ _ _ h => h) (Or.inl ⟨by rfl, ?_⟩) (by assumption) ?_
          rotate_left
          · intro w' hSw
            try dsimp only at hSw
            go_simp
            first | done | (with_reducible rfl)
          try simp only [List.getElem_toArray, List.getElem_cons_succ, List.getElem_cons_zero, Act.put, List.setIfInBounds_toArray, List.set_cons_zero, List.set_cons_succ]
          refine wpAnyH_take (i := 5) (v := ?_) rfl (by kernel_rfl) (by kernel_rfl) (by kernel_rfl) (fun _ _ _ h => h) (Or.inl ⟨by rfl, ?_⟩) (by assumption) ?_
          rotate_left
          · intro w' hSw
            try dsimp only at hSw
            go_simp
            first | done | (with_reducible rfl)
          try simp only [List.getElem_toArray, List.getElem_cons_succ, List.getElem_cons_zero, Act.put, List.setIfInBounds_toArray, List.set_cons_zero, List.set_cons_succ]
          refine wpAnyH_take (i := 6) (v := ?_) rfl (by kernel_rfl) (by kernel_rfl) (by kernel_rfl) (fun _ _ _ h => h) (Or.inl ⟨by rfl, ?_⟩) (by assumption) ?_
          rotate_left
          · intro w' hSw
            try dsimp only at hSw
            go_simp
            first | done | (with_reducible rfl)
          try simp only [List.getElem_toArray, List.getElem_cons_succ, List.getElem_cons_zero, Act.put, List.setIfInBounds_toArray, List.set_cons_zero, List.set_cons_succ]
          refine wpAnyH_take (i := 7) (v := ?_) rfl (by kernel_rfl) (by kernel_rfl) (by kernel_rfl) (fun _ _ _ h => h) (Or.inl ⟨by rfl, ?_⟩) (by assumption) ?_
          rotate_left
          · intro w' hSw
            try dsimp only at hSw
            go_simp
            first | done | (with_reducible rfl)
          try simp only [List.getElem_toArray, List.getElem_cons_succ, List.getElem_cons_zero, Act.put, List.setIfInBounds_toArray, List.set_cons_zero, List.set_cons_succ]
          refine wpAnyH_take (i := 8) (v := ?_) rfl (by kernel_rfl) (by kernel_rfl) (by kernel_rfl) (fun _ _ _ h => h) (Or.inl ⟨by rfl, ?_⟩) (by assumption) ?_
          rotate_left
          · intro w' hSw
            try dsimp only at hSw
            go_simp
            first | done | (with_reducible rfl)
          try simp only [List.getElem_toArray, List.getElem_cons_succ, List.getElem_cons_zero, Act.put, List.setIfInBounds_toArray, List.set_cons_zero, List.set_cons_succ]
          refine wpAnyH_ready (rs := [4]) (by kernel_rfl) (by simp) ?_
          refine AllReadyH.cons rfl (fun K hK => ?_) AllReadyH.nil
          go_simp
          refine (HLENC.out _ HX.out).mono ?_
          rintro e w10 ⟨rfl, hc10⟩
          have HX := Lib.hid (HX.out.trans hc10 (fun _ _ e => e))
          have s2 := HKEEP.out _ HX.out
          clear hc10
          go_wp2_with fail
          refine hK.out _ _ s2 (fun hHeld => ?_)
          clear hK K
          try simp only [List.getElem_toArray, List.getElem_cons_succ, List.getElem_cons_zero, Act.put, List.setIfInBounds_toArray, List.set_cons_zero, List.set_cons_succ]
          refine wpAnyH_take (i := 9) (v := ?_) rfl (by kernel_rfl) (by kernel_rfl) (by kernel_rfl) (fun _ _ _ h => h) (Or.inl ⟨by rfl, ?_⟩) (by assumption) ?_
          rotate_left
          · intro w' hSw
            try dsimp only at hSw
            go_simp
            first | done | (with_reducible rfl)
          try simp only [List.getElem_toArray, List.getElem_cons_succ, List.getElem_cons_zero, Act.put, List.setIfInBounds_toArray, List.set_cons_zero, List.set_cons_succ]
          refine wpAnyH_take (i := 10) (v := ?_) rfl (by kernel_rfl) (by kernel_rfl) (by kernel_rfl) (fun _ _ _ h => h) (Or.inl ⟨by rfl, ?_⟩) (by assumption) ?_
          rotate_left
          · intro w' hSw
            try dsimp only at hSw
            go_simp
            first | done | (with_reducible rfl)
          try simp only [List.getElem_toArray, List.getElem_cons_succ, List.getElem_cons_zero, Act.put, List.setIfInBounds_toArray, List.set_cons_zero, List.set_cons_succ]
          refine wpAnyH_take (i := 11) (v := ?_) rfl (by kernel_rfl) (by kernel_rfl) (by kernel_rfl) (fun _ _ _ h => h) (Or.inl ⟨by rfl, ?_⟩) (by assumption) ?_
          rotate_left
          · intro w' hSw
            try dsimp only at hSw
            go_simp
            first | done | (with_reducible rfl)
          try simp only [List.getElem_toArray, List.getElem_cons_succ, List.getElem_cons_zero, Act.put, List.setIfInBounds_toArray, List.set_cons_zero, List.set_cons_succ]
          refine wpAnyH_take (i := 12) (v := ?_) rfl (by kernel_rfl) (by kernel_rfl) (by kernel_rfl) (fun _ _ _ h => h) (Or.inl ⟨by rfl, ?_⟩) (by assumption) ?_
          rotate_left
          · intro w' hSw
            try dsimp only at hSw
            go_simp
            first | done | (with_reducible rfl)
          try simp only [List.getElem_toArray, List.getElem_cons_succ, List.getElem_cons_zero, Act.put, List.setIfInBounds_toArray, List.set_cons_zero, List.set_cons_succ]
          refine wpAnyH_take (i := 15) (v := ?_) rfl (by kernel_rfl) (by kernel_rfl) (by kernel_rfl) (fun _ _ _ h => h) (Or.inl ⟨by rfl, ?_⟩) (by assumption) ?_
          rotate_left
          · intro w' hSw
            try dsimp only at hSw
            go_simp
            first | done | (with_reducible rfl)
          try simp only [List.getElem_toArray, List.getElem_cons_succ, List.getElem_cons_zero, Act.put, List.setIfInBounds_toArray, List.set_cons_zero, List.set_cons_succ]
          refine wpAnyH_take (i := 16) (v := ?_) rfl (by kernel_rfl) (by kernel_rfl) (by kernel_rfl) (fun _ _ _ h => h) (Or.inl ⟨by rfl, ?_⟩) (by assumption) ?_
          rotate_left
          · intro w' hSw
            try dsimp only at hSw
            go_simp
            first | done | (with_reducible rfl)
          try simp only [List.getElem_toArray, List.getElem_cons_succ, List.getElem_cons_zero, Act.put, List.setIfInBounds_toArray, List.set_cons_zero, List.set_cons_succ]
          refine wpAnyH_take (i := 17) (v := ?_) rfl (by kernel_rfl) (by kernel_rfl) (by kernel_rfl) (fun _ _ _ h => h) (Or.inl ⟨by rfl, ?_⟩) (by assumption) ?_
          rotate_left
          · intro w' hSw
            try dsimp only at hSw
            go_simp
            first | done | (with_reducible rfl)
          try simp only [List.getElem_toArray, List.getElem_cons_succ, List.getElem_cons_zero, Act.put, List.setIfInBounds_toArray, List.set_cons_zero, List.set_cons_succ]
          refine wpAnyH_take (i := 18) (v := ?_) rfl (by kernel_rfl) (by kernel_rfl) (by kernel_rfl) (fun _ _ _ h => h) (Or.inl ⟨by rfl, ?_⟩) (by assumption) ?_
          rotate_left
          · intro w' hSw
            try dsimp only at hSw
            go_simp
            first | done | (with_reducible rfl)
          try simp only [List.getElem_toArray, List.getElem_cons_succ, List.getElem_cons_zero, Act.put, List.setIfInBounds_toArray, List.set_cons_zero, List.set_cons_succ]
          refine wpAnyH_take (i := 19) (v := ?_) rfl (by kernel_rfl) (by kernel_rfl) (by kernel_rfl) (fun _ _ _ h => h) (Or.inl ⟨by rfl, ?_⟩) (by assumption) ?_
          rotate_left
          · intro w' hSw
            try dsimp only at hSw
            go_simp
            first | done | (with_reducible rfl)
          try simp only [List.getElem_toArray, List.getElem_cons_succ, List.getElem_cons_zero, Act.put, List.setIfInBounds_toArray, List.set_cons_zero, List.set_cons_succ]
          refine wpAnyH_ready (rs := [13]) (by kernel_rfl) (by simp) ?_
          refine AllReadyH.cons rfl (fun K hK => ?_) AllReadyH.nil
          go_simp
          refine (HBYTC.out _ HX.out).mono ?_
          rintro e w11 ⟨A11, c11, rfl, hr11, hc11⟩
          have HX := Lib.hid (HX.out.trans hc11 (fun _ _ e => e))
          have s2 := HKEEP.out _ HX.out
          have s6 := conv8 (c := c11) hr11
          clear hr11 hc11
          go_wp2_with fail
          refine hK.out _ _ s2 (fun hHeld => ?_)
          clear hK K
          try simp only [List.getElem_toArray, List.getElem_cons_succ, List.getElem_cons_zero, Act.put, List.setIfInBounds_toArray, List.set_cons_zero, List.set_cons_succ]
          refine wpAnyH_ready (rs := [14]) (by kernel_rfl) (by simp) ?_
          refine AllReadyH.cons rfl (fun K hK => ?_) AllReadyH.nil
          go_simp
          refine hK.out _ _ s2 (fun hHeld => ?_)
          clear hK K
          try simp only [List.getElem_toArray, List.getElem_cons_succ, List.getElem_cons_zero, Act.put, List.setIfInBounds_toArray, List.set_cons_zero, List.set_cons_succ]
          refine wpAnyH_take (i := 20) (v := ?_) rfl (by kernel_rfl) (by kernel_rfl) (by kernel_rfl) (fun _ _ _ h => h) (Or.inl ⟨by rfl, ?_⟩) (by assumption) ?_
          rotate_left
          · intro w' hSw
            try dsimp only at hSw
            go_simp
            first | done | (with_reducible rfl)
          try simp only [List.getElem_toArray, List.getElem_cons_succ, List.getElem_cons_zero, Act.put, List.setIfInBounds_toArray, List.set_cons_zero, List.set_cons_succ]
          refine wpAnyH_take (i := 21) (v := ?_) rfl (by kernel_rfl) (by kernel_rfl) (by kernel_rfl) (fun _ _ _ h => h) (Or.inl ⟨by rfl, ?_⟩) (by assumption) ?_
          rotate_left
          · intro w' hSw
            try dsimp only at hSw
            go_simp
            first | done | (with_reducible rfl)
          try simp only [List.getElem_toArray, List.getElem_cons_succ, List.getElem_cons_zero, Act.put, List.setIfInBounds_toArray, List.set_cons_zero, List.set_cons_succ]
          refine wpAnyH_take (i := 22) (v := ?_) rfl (by kernel_rfl) (by kernel_rfl) (by kernel_rfl) (fun _ _ _ h => h) (Or.inl ⟨by rfl, ?_⟩) (by assumption) ?_
          rotate_left
          · intro w' hSw
            try dsimp only at hSw
            go_simp
            first | done | (with_reducible rfl)
          try simp only [List.getElem_toArray, List.getElem_cons_succ, List.getElem_cons_zero, Act.put, List.setIfInBounds_toArray, List.set_cons_zero, List.set_cons_succ]
          refine wpAnyH_take (i := 23) (v := ?_) rfl (by kernel_rfl) (by kernel_rfl) (by kernel_rfl) (fun _ _ _ h => h) (Or.inl ⟨by rfl, ?_⟩) (by assumption) ?_
          rotate_left
          · intro w' hSw
            try dsimp only at hSw
            go_simp
            first | done | (with_reducible rfl)
          try simp only [List.getElem_toArray, List.getElem_cons_succ, List.getElem_cons_zero, Act.put, List.setIfInBounds_toArray, List.set_cons_zero, List.set_cons_succ]
          refine wpAnyH_take (i := 25) (v := ?_) rfl (by kernel_rfl) (by kernel_rfl) (by kernel_rfl) (fun _ _ _ h => h) (Or.inl ⟨by rfl, ?_⟩) (by assumption) ?_
          rotate_left
          · intro w' hSw
            try dsimp only at hSw
            go_simp
            first | done | (with_reducible rfl)
          try simp only [List.getElem_toArray, List.getElem_cons_succ, List.getElem_cons_zero, Act.put, List.setIfInBounds_toArray, List.set_cons_zero, List.set_cons_succ]
          refine wpAnyH_take (i := 26) (v := ?_) rfl (by kernel_rfl) (by kernel_rfl) (by kernel_rfl) (fun _ _ _ h => h) (Or.inl ⟨by rfl, ?_⟩) (by assumption) ?_
          rotate_left
          · intro w' hSw
            try dsimp only at hSw
            go_simp
            first | done | (with_reducible rfl)
          try simp only [List.getElem_toArray, List.getElem_cons_succ, List.getElem_cons_zero, Act.put, List.setIfInBounds_toArray, List.set_cons_zero, List.set_cons_succ]
          refine wpAnyH_take (i := 27) (v := ?_) rfl (by kernel_rfl) (by kernel_rfl) (by kernel_rfl) (fun _ _ _ h => h) (Or.inl ⟨by rfl, ?_⟩) (by assumption) ?_
          rotate_left
          · intro w' hSw
            try dsimp only at hSw
            go_simp
            first | done | (with_reducible rfl)
          try simp only [List.getElem_toArray, List.getElem_cons_succ, List.getElem_cons_zero, Act.put, List.setIfInBounds_toArray, List.set_cons_zero, List.set_cons_succ]
          refine wpAnyH_take (i := 28) (v := ?_) rfl (by kernel_rfl) (by kernel_rfl) (by kernel_rfl) (fun _ _ _ h => h) (Or.inl ⟨by rfl, ?_⟩) (by assumption) ?_
          rotate_left
          · intro w' hSw
            try dsimp only at hSw
            go_simp
            first | done | (with_reducible rfl)
          try simp only [List.getElem_toArray, List.getElem_cons_succ, List.getElem_cons_zero, Act.put, List.setIfInBounds_toArray, List.set_cons_zero, List.set_cons_succ]
          refine wpAnyH_ready (rs := [24]) (by kernel_rfl) (by simp) ?_
          refine AllReadyH.cons rfl (fun K hK => ?_) AllReadyH.nil
          go_simp
          refine (HSAFC.out _ HX.out).mono ?_
          rintro e w12 ⟨rfl, rfl⟩
          go_wp2_with fail
          refine hK.out _ _ s2 (fun hHeld => ?_)
          clear hK K
          try simp only [List.getElem_toArray, List.getElem_cons_succ, List.getElem_cons_zero, Act.put, List.setIfInBounds_toArray, List.set_cons_zero, List.set_cons_succ]
          refine wpAnyH_take (i := 29) (v := ?_) rfl (by kernel_rfl) (by kernel_rfl) (by kernel_rfl) (fun _ _ _ h => h) (Or.inl ⟨by rfl, ?_⟩) (by assumption) ?_
          rotate_left
          · intro w' hSw
            try dsimp only at hSw
            go_simp
            first | done | (with_reducible rfl)
          try simp only [List.getElem_toArray, List.getElem_cons_succ, List.getElem_cons_zero, Act.put, List.setIfInBounds_toArray, List.set_cons_zero, List.set_cons_succ]
          refine wpAnyH_take (i := 30) (v := ?_) rfl (by kernel_rfl) (by kernel_rfl) (by kernel_rfl) (fun _ _ _ h => h) (Or.inl ⟨by rfl, ?_⟩) (by assumption) ?_
          rotate_left
          · intro w' hSw
            try dsimp only at hSw
            go_simp
            first | done | (with_reducible rfl)
          try simp only [List.getElem_toArray, List.getElem_cons_succ, List.getElem_cons_zero, Act.put, List.setIfInBounds_toArray, List.set_cons_zero, List.set_cons_succ]
          refine wpAnyH_done (by kernel_rfl) ?_ _
          refine NoPanic.normal ?_
          have HJX := Lib.hid (HT.out.new HX.out)
          clear hHeld s2 s6 HKEEP HLENC HBYTC HSAFC HX HT
          go_wp2_with fail
          go_roundg (m - (k + 1))
          case measure => omega
          case rel => exact ⟨k + 1, _, _, rfl, by omega, by go_num, rfl, rfl, HJX⟩
        · have HC1 := Lib.hid (dcrash_any p o1 (recs8 ls) s r x.n wr HD.out.f1 hs hbr hr24)
          go_wp2_with fail
          refine HC1.out.mono ?_
          rintro e w3 ⟨rfl, hf1, hm1⟩
          have HD1 := Lib.hid (HD.out.set1 hf1 hm1)
          have HC2 := Lib.hid (rcrash_any q o2 (recs8 ls) s r x.n w3 HD1.out.f2 hs hbr hr24)
          obtain ⟨z0, z1, z2, -⟩ := (HL.out.chg HD1.out.chg (S' := fun _ => False) (fun _ _ => id)).at HXX.out
          clear hf1 hm1 HC1 HD HJB HGB
          go_wp2_with fail
          refine HC2.out.mono ?_
          rintro e w4 ⟨rfl, hf2, hm2⟩
          have HD2 := Lib.hid (HD1.out.set2 hf2 hm2)
          have hcr := cr_le (n := x.n) hs hbr
          clear hf2 hm2 HC2 HD1 z0 z1 z2 hs hbr HOK
          generalize (recs8 ls).take (crN (recs8 ls) s x.n) = b4 at *
          generalize crN (recs8 ls) s x.n = s4 at *
          have HC3 := Lib.hid (jopen_any p o1 b4 s4 r w4 HD2.out.f1 hcr.2 hr24)
          go_wp2_with fail
          refine HC3.out.mono ?_
          rintro e w5 ⟨j5, A5, m5, c5, rfl, hj5, hb5, hm5, hl5, hf5, hv5⟩
          have HD3 := Lib.hid (HD2.out.set1 hf5 hv5)
          have HL5 := Lib.hid hl5
          have HJ5 := Lib.hid hb5
          have HLJ : Hid (W.heap.size ≤ j5) := Lib.hid (Nat.le_trans HD2.out.chg.size hj5)
          have HM5 := Lib.hid hm5
          have hlt2 := HD2.out.f2.lt
          have HC4 := Lib.hid (ropen_any q o2 b4 s4 r w5 HD3.out.f2 hcr.2 hr24)
          clear hj5 hb5 hm5 hl5 hf5 hv5 HC3
          go_wp2_with fail
          refine HC4.out.mono ?_
          rintro e w6 ⟨g6, A6, m6, c6, rfl, hg6, hb6, hm6, hl6, hf6, hv6⟩
          have HL6 := Lib.hid (HL5.out.chg hv6.1 (fun k hk e => by
            rcases e with e | e
            · have := hlt2.1
              omega
            · have := hlt2.2 k e
              omega))
          have HJ6 := Lib.hid (fi_keep HD3.out.f2 hv6 HJ5.out (by decide) (by decide))
          have HD4 := Lib.hid (HD3.out.set2 hf6 hv6)
          have HLG : Hid (W.heap.size ≤ g6) := Lib.hid (Nat.le_trans HD3.out.chg.size hg6)
          have HG6 := Lib.hid hb6
          have hmm : m5 = m6 := by rw [HM5.out, hm6]
          subst hmm
          have hmb : m5 ≤ 9223372036854775807 := by have h1 := recs_count (scan8 b4); have h2 := scan_le b4; have h3 := HM5.out; omega
          have HSA := Lib.hid (same8_eq A5 A6 m5 c5 c6 (scan8 b4) _ _ w6 HL6.out hl6 hmb)
          clear hb6 hm6 hl6 hf6 hv6 HC4 HD3 HL5 HJ5 hg6 HL6 hmb
          go_wp2_with fail
          refine HSA.out.mono ?_
          rintro e w9 ⟨rfl, hc9⟩
          have HT : Hid (JX W p q j5 g6 r w9) := Lib.hid ⟨scan8 b4, opS b4 s4, o1, o2, HD4.out.new hc9, HJ6.out.chg hc9 id, HG6.out.chg hc9 id, ⟨HLJ.out, HLG.out⟩, opS_le hcr.1, Nat.le_trans (scan_le b4) hcr.2, fun x hx => scan_ok hx⟩
          clear hc9 HSA HD4 HJ6 HG6 HLJ HLG HM5 hcr HD2 hlt2
          go_upto_region 29 with fail
          obtain ⟨bs9, A9, n9, c9, b9, N3, s3, KEEP9, LEN9, BYT9, SAF9, hb9⟩ := jt_open HT.out hr24
          have HKEEP := Lib.hid KEEP9
          have HLENC := Lib.hid LEN9
          have HBYTC := Lib.hid BYT9
          have HSAFC := Lib.hid SAF9
          clear KEEP9 LEN9 BYT9 SAF9
          have HX := Lib.hid (Chg.refl (fun _ => False) w9).drew
          have s2 := HKEEP.out _ HX.out
          refine wp_region_noPanic ?_
          refine wp_region_held_drew (S := (fun w' => w'.cell? ⟨g6, 1, none⟩ = some (.int .i64 (N3 : Int)) ∧ w'.cell? ⟨q, 0, none⟩ = some (.slice A9 n9 c9) ∧ w'.cell? ⟨q, 1, none⟩ = some (.int .i64 (s3 : Int)) ∧ (convert 35 9 (.slice A9 n9 c9)).run Try.prog w' = .ok (.string ⟨b9.toArray⟩) w')) (by kernel_rfl) s2 (fun hHeld => ?_)
          refine wpAnyH_take (i := 0) (v := ?_) rfl (by kernel_rfl) (by kernel_rfl) (by kernel_rfl) (fun _ _ _ h => h) (Or.inl ⟨by rfl, ?_⟩) (by assumption) ?_
          rotate_left
          · intro w' hSw
            try dsimp only at hSw
            go_simp
            first | done | (with_reducible rfl)
          try simp only [List.getElem_toArray, List.getElem_cons_succ, List.getElem_cons_zero, Act.put, List.setIfInBounds_toArray, List.set_cons_zero, List.set_cons_succ]
          refine wpAnyH_take (i := 1) (v := ?_) rfl (by kernel_rfl) (by kernel_rfl) (by kernel_rfl) (fun _ _ _ h => h) (Or.inl ⟨by rfl, ?_⟩) (by assumption) ?_
          rotate_left
          · intro w' hSw
            try dsimp only at hSw
            go_simp
            first | done | (with_reducible rfl)
          try simp only [List.getElem_toArray, List.getElem_cons_succ, List.getElem_cons_zero, Act.put, List.setIfInBounds_toArray, List.set_cons_zero, List.set_cons_succ]
          refine wpAnyH_take (i := 2) (v := ?_) rfl (by kernel_rfl) (by kernel_rfl) (by kernel_rfl) (fun _ _ _ h => h) (Or.inl ⟨by rfl, ?_⟩) (by assumption) ?_
          rotate_left
          · intro w' hSw
            try dsimp only at hSw
            go_simp
            first | done | (with_reducible rfl)
          try simp only [List.getElem_toArray, List.getElem_cons_succ, List.getElem_cons_zero, Act.put, List.setIfInBounds_toArray, List.set_cons_zero, List.set_cons_succ]
          refine wpAnyH_take (i := 3) (v := ?_) rfl (by kernel_rfl) (by kernel_rfl) (by kernel_rfl) (fun _ _ _ h => h) (Or.inl ⟨by rfl, ?_⟩) (by assumption) ?_
          rotate_left
          · intro w' hSw
            try dsimp only at hSw
            go_simp
            first | done | (with_reducible rfl)
          try simp only [List.getElem_toArray, List.getElem_cons_succ, List.getElem_cons_zero, Act.put, List.setIfInBounds_toArray, List.set_cons_zero, List.set_cons_succ]
          refine wpAnyH_take (i := 5) (v := ?_) rfl (by kernel_rfl) (by kernel_rfl) (by kernel_rfl) (fun _ _ _ h => h) (Or.inl ⟨by rfl, ?_⟩) (by assumption) ?_
          rotate_left
          · intro w' hSw
            try dsimp only at hSw
            go_simp
            first | done | (with_reducible rfl)
          try simp only [List.getElem_toArray, List.getElem_cons_succ, List.getElem_cons_zero, Act.put, List.setIfInBounds_toArray, List.set_cons_zero, List.set_cons_succ]
          refine wpAnyH_take (i := 6) (v := ?_) rfl (by kernel_rfl) (by kernel_rfl) (by kernel_rfl) (fun _ _ _ h => h) (Or.inl ⟨by rfl, ?_⟩) (by assumption) ?_
          rotate_left
          · intro w' hSw
            try dsimp only at hSw
            go_simp
            first | done | (with_reducible rfl)
          try simp only [List.getElem_toArray, List.getElem_cons_succ, List.getElem_cons_zero, Act.put, List.setIfInBounds_toArray, List.set_cons_zero, List.set_cons_succ]
          refine wpAnyH_take (i := 7) (v := ?_) rfl (by kernel_rfl) (by kernel_rfl) (by kernel_rfl) (fun _ _ _ h => h) (Or.inl ⟨by rfl, ?_⟩) (by assumption) ?_
          rotate_left
          · intro w' hSw
            try dsimp only at hSw
            go_simp
            first | done | (with_reducible rfl)
          try simp only [List.getElem_toArray, List.getElem_cons_succ, List.getElem_cons_zero, Act.put, List.setIfInBounds_toArray, List.set_cons_zero, List.set_cons_succ]
          refine wpAnyH_take (i := 8) (v := ?_) rfl (by kernel_rfl) (by kernel_rfl) (by kernel_rfl) (fun _ _ _ h => h) (Or.inl ⟨by rfl, ?_⟩) (by assumption) ?_
          rotate_left
          · intro w' hSw
            try dsimp only at hSw
            go_simp
            first | done | (with_reducible rfl)
          try simp only [List.getElem_toArray, List.getElem_cons_succ, List.getElem_cons_zero, Act.put, List.setIfInBounds_toArray, List.set_cons_zero, List.set_cons_succ]
          refine wpAnyH_ready (rs := [4]) (by kernel_rfl) (by simp) ?_
          refine AllReadyH.cons rfl (fun K hK => ?_) AllReadyH.nil
          go_simp
          refine (HLENC.out _ HX.out).mono ?_
          rintro e w10 ⟨rfl, hc10⟩
          have HX := Lib.hid (HX.out.trans hc10 (fun _ _ e => e))
          have s2 := HKEEP.out _ HX.out
          clear hc10
          go_wp2_with fail
          refine hK.out _ _ s2 (fun hHeld => ?_)
          clear hK K
          try simp only [List.getElem_toArray, List.getElem_cons_succ, List.getElem_cons_zero, Act.put, List.setIfInBounds_toArray, List.set_cons_zero, List.set_cons_succ]
          refine wpAnyH_take (i := 9) (v := ?_) rfl (by kernel_rfl) (by kernel_rfl) (by kernel_rfl) (fun _ _ _ h => h) (Or.inl ⟨by rfl, ?_⟩) (by assumption) ?_
          rotate_left
          · intro w' hSw
            try dsimp only at hSw
            go_simp
            first | done | (with_reducible rfl)
          try simp only [List.getElem_toArray, List.getElem_cons_succ, List.getElem_cons_zero, Act.put, List.setIfInBounds_toArray, List.set_cons_zero, List.set_cons_succ]
          refine wpAnyH_take (i := 10) (v := ?_) rfl (by kernel_rfl) (by kernel_rfl) (by kernel_rfl) (fun _ _ _ h => h) (Or.inl ⟨by rfl, ?_⟩) (by assumption) ?_
          rotate_left
          · intro w' hSw
            try dsimp only at hSw
            go_simp
            first | done | (with_reducible rfl)
          try simp only [List.getElem_toArray, List.getElem_cons_succ, List.getElem_cons_zero, Act.put, List.setIfInBounds_toArray, List.set_cons_zero, List.set_cons_succ]
          refine wpAnyH_take (i := 11) (v := ?_) rfl (by kernel_rfl) (by kernel_rfl) (by kernel_rfl) (fun _ _ _ h => h) (Or.inl ⟨by rfl, ?_⟩) (by assumption) ?_
          rotate_left
          · intro w' hSw
            try dsimp only at hSw
            go_simp
            first | done | (with_reducible rfl)
          try simp only [List.getElem_toArray, List.getElem_cons_succ, List.getElem_cons_zero, Act.put, List.setIfInBounds_toArray, List.set_cons_zero, List.set_cons_succ]
          refine wpAnyH_take (i := 12) (v := ?_) rfl (by kernel_rfl) (by kernel_rfl) (by kernel_rfl) (fun _ _ _ h => h) (Or.inl ⟨by rfl, ?_⟩) (by assumption) ?_
          rotate_left
          · intro w' hSw
            try dsimp only at hSw
            go_simp
            first | done | (with_reducible rfl)
          try simp only [List.getElem_toArray, List.getElem_cons_succ, List.getElem_cons_zero, Act.put, List.setIfInBounds_toArray, List.set_cons_zero, List.set_cons_succ]
          refine wpAnyH_take (i := 15) (v := ?_) rfl (by kernel_rfl) (by kernel_rfl) (by kernel_rfl) (fun _ _ _ h => h) (Or.inl ⟨by rfl, ?_⟩) (by assumption) ?_
          rotate_left
          · intro w' hSw
            try dsimp only at hSw
            go_simp
            first | done | (with_reducible rfl)
          try simp only [List.getElem_toArray, List.getElem_cons_succ, List.getElem_cons_zero, Act.put, List.setIfInBounds_toArray, List.set_cons_zero, List.set_cons_succ]
          refine wpAnyH_take (i := 16) (v := ?_) rfl (by kernel_rfl) (by kernel_rfl) (by kernel_rfl) (fun _ _ _ h => h) (Or.inl ⟨by rfl, ?_⟩) (by assumption) ?_
          rotate_left
          · intro w' hSw
            try dsimp only at hSw
            go_simp
            first | done | (with_reducible rfl)
          try simp only [List.getElem_toArray, List.getElem_cons_succ, List.getElem_cons_zero, Act.put, List.setIfInBounds_toArray, List.set_cons_zero, List.set_cons_succ]
          refine wpAnyH_take (i := 17) (v := ?_) rfl (by kernel_rfl) (by kernel_rfl) (by kernel_rfl) (fun _ _ _ h => h) (Or.inl ⟨by rfl, ?_⟩) (by assumption) ?_
          rotate_left
          · intro w' hSw
            try dsimp only at hSw
            go_simp
            first | done | (with_reducible rfl)
          try simp only [List.getElem_toArray, List.getElem_cons_succ, List.getElem_cons_zero, Act.put, List.setIfInBounds_toArray, List.set_cons_zero, List.set_cons_succ]
          refine wpAnyH_take (i := 18) (v := ?_) rfl (by kernel_rfl) (by kernel_rfl) (by kernel_rfl) (fun _ _ _ h => h) (Or.inl ⟨by rfl, ?_⟩) (by assumption) ?_
          rotate_left
          · intro w' hSw
            try dsimp only at hSw
            go_simp
            first | done | (with_reducible rfl)
          try simp only [List.getElem_toArray, List.getElem_cons_succ, List.getElem_cons_zero, Act.put, List.setIfInBounds_toArray, List.set_cons_zero, List.set_cons_succ]
          refine wpAnyH_take (i := 19) (v := ?_) rfl (by kernel_rfl) (by kernel_rfl) (by kernel_rfl) (fun _ _ _ h => h) (Or.inl ⟨by rfl, ?_⟩) (by assumption) ?_
          rotate_left
          · intro w' hSw
            try dsimp only at hSw
            go_simp
            first | done | (with_reducible rfl)
          try simp only [List.getElem_toArray, List.getElem_cons_succ, List.getElem_cons_zero, Act.put, List.setIfInBounds_toArray, List.set_cons_zero, List.set_cons_succ]
          refine wpAnyH_ready (rs := [13]) (by kernel_rfl) (by simp) ?_
          refine AllReadyH.cons rfl (fun K hK => ?_) AllReadyH.nil
          go_simp
          refine (HBYTC.out _ HX.out).mono ?_
          rintro e w11 ⟨A11, c11, rfl, hr11, hc11⟩
          have HX := Lib.hid (HX.out.trans hc11 (fun _ _ e => e))
          have s2 := HKEEP.out _ HX.out
          have s6 := conv8 (c := c11) hr11
          clear hr11 hc11
          go_wp2_with fail
          refine hK.out _ _ s2 (fun hHeld => ?_)
          clear hK K
          try simp only [List.getElem_toArray, List.getElem_cons_succ, List.getElem_cons_zero, Act.put, List.setIfInBounds_toArray, List.set_cons_zero, List.set_cons_succ]
          refine wpAnyH_ready (rs := [14]) (by kernel_rfl) (by simp) ?_
          refine AllReadyH.cons rfl (fun K hK => ?_) AllReadyH.nil
          go_simp
          refine hK.out _ _ s2 (fun hHeld => ?_)
          clear hK K
          try simp only [List.getElem_toArray, List.getElem_cons_succ, List.getElem_cons_zero, Act.put, List.setIfInBounds_toArray, List.set_cons_zero, List.set_cons_succ]
          refine wpAnyH_take (i := 20) (v := ?_) rfl (by kernel_rfl) (by kernel_rfl) (by kernel_rfl) (fun _ _ _ h => h) (Or.inl ⟨by rfl, ?_⟩) (by assumption) ?_
          rotate_left
          · intro w' hSw
            try dsimp only at hSw
            go_simp
            first | done | (with_reducible rfl)
          try simp only [List.getElem_toArray, List.getElem_cons_succ, List.getElem_cons_zero, Act.put, List.setIfInBounds_toArray, List.set_cons_zero, List.set_cons_succ]
          refine wpAnyH_take (i := 21) (v := ?_) rfl (by kernel_rfl) (by kernel_rfl) (by kernel_rfl) (fun _ _ _ h => h) (Or.inl ⟨by rfl, ?_⟩) (by assumption) ?_
          rotate_left
          · intro w' hSw
            try dsimp only at hSw
            go_simp
            first | done | (with_reducible rfl)
          try simp only [List.getElem_toArray, List.getElem_cons_succ, List.getElem_cons_zero, Act.put, List.setIfInBounds_toArray, List.set_cons_zero, List.set_cons_succ]
          refine wpAnyH_take (i := 22) (v := ?_) rfl (by kernel_rfl) (by kernel_rfl) (by kernel_rfl) (fun _ _ _ h => h) (Or.inl ⟨by rfl, ?_⟩) (by assumption) ?_
          rotate_left
          · intro w' hSw
            try dsimp only at hSw
            go_simp
            first | done | (with_reducible rfl)
          try simp only [List.getElem_toArray, List.getElem_cons_succ, List.getElem_cons_zero, Act.put, List.setIfInBounds_toArray, List.set_cons_zero, List.set_cons_succ]
          refine wpAnyH_take (i := 23) (v := ?_) rfl (by kernel_rfl) (by kernel_rfl) (by kernel_rfl) (fun _ _ _ h => h) (Or.inl ⟨by rfl, ?_⟩) (by assumption) ?_
          rotate_left
          · intro w' hSw
            try dsimp only at hSw
            go_simp
            first | done | (with_reducible rfl)
          try simp only [List.getElem_toArray, List.getElem_cons_succ, List.getElem_cons_zero, Act.put, List.setIfInBounds_toArray, List.set_cons_zero, List.set_cons_succ]
          refine wpAnyH_take (i := 25) (v := ?_) rfl (by kernel_rfl) (by kernel_rfl) (by kernel_rfl) (fun _ _ _ h => h) (Or.inl ⟨by rfl, ?_⟩) (by assumption) ?_
          rotate_left
          · intro w' hSw
            try dsimp only at hSw
            go_simp
            first | done | (with_reducible rfl)
          try simp only [List.getElem_toArray, List.getElem_cons_succ, List.getElem_cons_zero, Act.put, List.setIfInBounds_toArray, List.set_cons_zero, List.set_cons_succ]
          refine wpAnyH_take (i := 26) (v := ?_) rfl (by kernel_rfl) (by kernel_rfl) (by kernel_rfl) (fun _ _ _ h => h) (Or.inl ⟨by rfl, ?_⟩) (by assumption) ?_
          rotate_left
          · intro w' hSw
            try dsimp only at hSw
            go_simp
            first | done | (with_reducible rfl)
          try simp only [List.getElem_toArray, List.getElem_cons_succ, List.getElem_cons_zero, Act.put, List.setIfInBounds_toArray, List.set_cons_zero, List.set_cons_succ]
          refine wpAnyH_take (i := 27) (v := ?_) rfl (by kernel_rfl) (by kernel_rfl) (by kernel_rfl) (fun _ _ _ h => h) (Or.inl ⟨by rfl, ?_⟩) (by assumption) ?_
          rotate_left
          · intro w' hSw
            try dsimp only at hSw
            go_simp
            first | done | (with_reducible rfl)
          try simp only [List.getElem_toArray, List.getElem_cons_succ, List.getElem_cons_zero, Act.put, List.setIfInBounds_toArray, List.set_cons_zero, List.set_cons_succ]
          refine wpAnyH_take (i := 28) (v := ?_) rfl (by kernel_rfl) (by kernel_rfl) (by kernel_rfl) (fun _ _ _ h => h) (Or.inl ⟨by rfl, ?_⟩) (by assumption) ?_
          rotate_left
          · intro w' hSw
            try dsimp only at hSw
            go_simp
            first | done | (with_reducible rfl)
          try simp only [List.getElem_toArray, List.getElem_cons_succ, List.getElem_cons_zero, Act.put, List.setIfInBounds_toArray, List.set_cons_zero, List.set_cons_succ]
          refine wpAnyH_ready (rs := [24]) (by kernel_rfl) (by simp) ?_
          refine AllReadyH.cons rfl (fun K hK => ?_) AllReadyH.nil
          go_simp
          refine (HSAFC.out _ HX.out).mono ?_
          rintro e w12 ⟨rfl, rfl⟩
          go_wp2_with fail
          refine hK.out _ _ s2 (fun hHeld => ?_)
          clear hK K
          try simp only [List.getElem_toArray, List.getElem_cons_succ, List.getElem_cons_zero, Act.put, List.setIfInBounds_toArray, List.set_cons_zero, List.set_cons_succ]
          refine wpAnyH_take (i := 29) (v := ?_) rfl (by kernel_rfl) (by kernel_rfl) (by kernel_rfl) (fun _ _ _ h => h) (Or.inl ⟨by rfl, ?_⟩) (by assumption) ?_
          rotate_left
          · intro w' hSw
            try dsimp only at hSw
            go_simp
            first | done | (with_reducible rfl)
          try simp only [List.getElem_toArray, List.getElem_cons_succ, List.getElem_cons_zero, Act.put, List.setIfInBounds_toArray, List.set_cons_zero, List.set_cons_succ]
          refine wpAnyH_take (i := 30) (v := ?_) rfl (by kernel_rfl) (by kernel_rfl) (by kernel_rfl) (fun _ _ _ h => h) (Or.inl ⟨by rfl, ?_⟩) (by assumption) ?_
          rotate_left
          · intro w' hSw
            try dsimp only at hSw
            go_simp
            first | done | (with_reducible rfl)
          try simp only [List.getElem_toArray, List.getElem_cons_succ, List.getElem_cons_zero, Act.put, List.setIfInBounds_toArray, List.set_cons_zero, List.set_cons_succ]
          refine wpAnyH_done (by kernel_rfl) ?_ _
          refine NoPanic.normal ?_
          have HJX := Lib.hid (HT.out.new HX.out)
          clear hHeld s2 s6 HKEEP HLENC HBYTC HSAFC HX HT
          go_wp2_with fail
          go_roundg (m - (k + 1))
          case measure => omega
          case rel => exact ⟨k + 1, _, _, rfl, by omega, by go_num, rfl, rfl, HJX⟩
        · have HC1 := Lib.hid (jput_any j p o1 (recs8 ls) x.b s r x.bq x.bc x.BA _ wr HJB.out HD.out.f1 HQ.out (HRB.out.chg HD.out.chg (fun _ _ => id)) hbr hr24 (by omega))
          go_wp2_with fail
          refine HC1.out.mono ?_
          rintro e w3 ⟨rfl, o3, hf1, hm1⟩
          have HD1 := Lib.hid (HD.out.set1 hf1 hm1)
          have HJ1 := Lib.hid (fi_keep HD.out.f1 hm1 HJB.out (by decide) (by decide))
          have HG1 := Lib.hid (fi_keep HD.out.f1 hm1 HGB.out (by decide) (by decide))
          have HC2 := Lib.hid (rjput_any g q o2 (recs8 ls) x.b s r x.bq x.bc ls.length x.BA _ w3 HG1.out HD1.out.f2 HQ.out (HRB.out.chg HD1.out.chg (fun _ _ => id)) hbr hr24 (by omega) (by have := recs_count ls; omega))
          obtain ⟨z0, z1, z2, -⟩ := (HL.out.chg HD1.out.chg (S' := fun _ => False) (fun _ _ => id)).at HXX.out
          clear hf1 hm1 HC1 HD HJB HGB
          go_wp2_with fail
          refine HC2.out.mono ?_
          rintro e w9 ⟨rfl, hpr⟩
          have HT : Hid (JX W p q j g r w9) := Lib.hid (jx_put HD1.out HJ1.out HLO.out HOK.out hs hbr hpr)
          clear hpr HC2 HD1 HJ1 HG1 HOK HLO hs z0 z1 z2
          go_upto_region 29 with fail
          obtain ⟨bs9, A9, n9, c9, b9, N3, s3, KEEP9, LEN9, BYT9, SAF9, hb9⟩ := jt_open HT.out hr24
          have HKEEP := Lib.hid KEEP9
          have HLENC := Lib.hid LEN9
          have HBYTC := Lib.hid BYT9
          have HSAFC := Lib.hid SAF9
          clear KEEP9 LEN9 BYT9 SAF9
          have HX := Lib.hid (Chg.refl (fun _ => False) w9).drew
          have s2 := HKEEP.out _ HX.out
          refine wp_region_noPanic ?_
          refine wp_region_held_drew (S := (fun w' => w'.cell? ⟨g, 1, none⟩ = some (.int .i64 (N3 : Int)) ∧ w'.cell? ⟨q, 0, none⟩ = some (.slice A9 n9 c9) ∧ w'.cell? ⟨q, 1, none⟩ = some (.int .i64 (s3 : Int)) ∧ (convert 35 9 (.slice A9 n9 c9)).run Try.prog w' = .ok (.string ⟨b9.toArray⟩) w')) (by kernel_rfl) s2 (fun hHeld => ?_)
          refine wpAnyH_take (i := 0) (v := ?_) rfl (by kernel_rfl) (by kernel_rfl) (by kernel_rfl) (fun _ _ _ h => h) (Or.inl ⟨by rfl, ?_⟩) (by assumption) ?_
          rotate_left
          · intro w' hSw
            try dsimp only at hSw
            go_simp
            first | done | (with_reducible rfl)
          try simp only [List.getElem_toArray, List.getElem_cons_succ, List.getElem_cons_zero, Act.put, List.setIfInBounds_toArray, List.set_cons_zero, List.set_cons_succ]
          refine wpAnyH_take (i := 1) (v := ?_) rfl (by kernel_rfl) (by kernel_rfl) (by kernel_rfl) (fun _ _ _ h => h) (Or.inl ⟨by rfl, ?_⟩) (by assumption) ?_
          rotate_left
          · intro w' hSw
            try dsimp only at hSw
            go_simp
            first | done | (with_reducible rfl)
          try simp only [List.getElem_toArray, List.getElem_cons_succ, List.getElem_cons_zero, Act.put, List.setIfInBounds_toArray, List.set_cons_zero, List.set_cons_succ]
          refine wpAnyH_take (i := 2) (v := ?_) rfl (by kernel_rfl) (by kernel_rfl) (by kernel_rfl) (fun _ _ _ h => h) (Or.inl ⟨by rfl, ?_⟩) (by assumption) ?_
          rotate_left
          · intro w' hSw
            try dsimp only at hSw
            go_simp
            first | done | (with_reducible rfl)
          try simp only [List.getElem_toArray, List.getElem_cons_succ, List.getElem_cons_zero, Act.put, List.setIfInBounds_toArray, List.set_cons_zero, List.set_cons_succ]
          refine wpAnyH_take (i := 3) (v := ?_) rfl (by kernel_rfl) (by kernel_rfl) (by kernel_rfl) (fun _ _ _ h => h) (Or.inl ⟨by rfl, ?_⟩) (by assumption) ?_
          rotate_left
          · intro w' hSw
            try dsimp only at hSw
            go_simp
            first | done | (with_reducible rfl)
          try simp only [List.getElem_toArray, List.getElem_cons_succ, List.getElem_cons_zero, Act.put, List.setIfInBounds_toArray, List.set_cons_zero, List.set_cons_succ]
          refine wpAnyH_take (i := 5) (v := ?_) rfl (by kernel_rfl) (by kernel_rfl) (by kernel_rfl) (fun _ _ _ h => h) (Or.inl ⟨by rfl, ?_⟩) (by assumption) ?_
          rotate_left
          · intro w' hSw
            try dsimp only at hSw
            go_simp
            first | done | (with_reducible rfl)
          try simp only [List.getElem_toArray, List.getElem_cons_succ, List.getElem_cons_zero, Act.put, List.setIfInBounds_toArray, List.set_cons_zero, List.set_cons_succ]
          refine wpAnyH_take (i := 6) (v := ?_) rfl (by kernel_rfl) (by kernel_rfl) (by kernel_rfl) (fun _ _ _ h => h) (Or.inl ⟨by rfl, ?_⟩) (by assumption) ?_
          rotate_left
          · intro w' hSw
            try dsimp only at hSw
            go_simp
            first | done | (with_reducible rfl)
          try simp only [List.getElem_toArray, List.getElem_cons_succ, List.getElem_cons_zero, Act.put, List.setIfInBounds_toArray, List.set_cons_zero, List.set_cons_succ]
          refine wpAnyH_take (i := 7) (v := ?_) rfl (by kernel_rfl) (by kernel_rfl) (by kernel_rfl) (fun _ _ _ h => h) (Or.inl ⟨by rfl, ?_⟩) (by assumption) ?_
          rotate_left
          · intro w' hSw
            try dsimp only at hSw
            go_simp
            first | done | (with_reducible rfl)
          try simp only [List.getElem_toArray, List.getElem_cons_succ, List.getElem_cons_zero, Act.put, List.setIfInBounds_toArray, List.set_cons_zero, List.set_cons_succ]
          refine wpAnyH_take (i := 8) (v := ?_) rfl (by kernel_rfl) (by kernel_rfl) (by kernel_rfl) (fun _ _ _ h => h) (Or.inl ⟨by rfl, ?_⟩) (by assumption) ?_
          rotate_left
          · intro w' hSw
            try dsimp only at hSw
            go_simp
            first | done | (with_reducible rfl)
          try simp only [List.getElem_toArray, List.getElem_cons_succ, List.getElem_cons_zero, Act.put, List.setIfInBounds_toArray, List.set_cons_zero, List.set_cons_succ]
          refine wpAnyH_ready (rs := [4]) (by kernel_rfl) (by simp) ?_
          refine AllReadyH.cons rfl (fun K hK => ?_) AllReadyH.nil
          go_simp
          refine (HLENC.out _ HX.out).mono ?_
          rintro e w10 ⟨rfl, hc10⟩
          have HX := Lib.hid (HX.out.trans hc10 (fun _ _ e => e))
          have s2 := HKEEP.out _ HX.out
          clear hc10
          go_wp2_with fail
          refine hK.out _ _ s2 (fun hHeld => ?_)
          clear hK K
          try simp only [List.getElem_toArray, List.getElem_cons_succ, List.getElem_cons_zero, Act.put, List.setIfInBounds_toArray, List.set_cons_zero, List.set_cons_succ]
          refine wpAnyH_take (i := 9) (v := ?_) rfl (by kernel_rfl) (by kernel_rfl) (by kernel_rfl) (fun _ _ _ h => h) (Or.inl ⟨by rfl, ?_⟩) (by assumption) ?_
          rotate_left
          · intro w' hSw
            try dsimp only at hSw
            go_simp
            first | done | (with_reducible rfl)
          try simp only [List.getElem_toArray, List.getElem_cons_succ, List.getElem_cons_zero, Act.put, List.setIfInBounds_toArray, List.set_cons_zero, List.set_cons_succ]
          refine wpAnyH_take (i := 10) (v := ?_) rfl (by kernel_rfl) (by kernel_rfl) (by kernel_rfl) (fun _ _ _ h => h) (Or.inl ⟨by rfl, ?_⟩) (by assumption) ?_
          rotate_left
          · intro w' hSw
            try dsimp only at hSw
            go_simp
            first | done | (with_reducible rfl)
          try simp only [List.getElem_toArray, List.getElem_cons_succ, List.getElem_cons_zero, Act.put, List.setIfInBounds_toArray, List.set_cons_zero, List.set_cons_succ]
          refine wpAnyH_take (i := 11) (v := ?_) rfl (by kernel_rfl) (by kernel_rfl) (by kernel_rfl) (fun _ _ _ h => h) (Or.inl ⟨by rfl, ?_⟩) (by assumption) ?_
          rotate_left
          · intro w' hSw
            try dsimp only at hSw
            go_simp
            first | done | (with_reducible rfl)
          try simp only [List.getElem_toArray, List.getElem_cons_succ, List.getElem_cons_zero, Act.put, List.setIfInBounds_toArray, List.set_cons_zero, List.set_cons_succ]
          refine wpAnyH_take (i := 12) (v := ?_) rfl (by kernel_rfl) (by kernel_rfl) (by kernel_rfl) (fun _ _ _ h => h) (Or.inl ⟨by rfl, ?_⟩) (by assumption) ?_
          rotate_left
          · intro w' hSw
            try dsimp only at hSw
            go_simp
            first | done | (with_reducible rfl)
          try simp only [List.getElem_toArray, List.getElem_cons_succ, List.getElem_cons_zero, Act.put, List.setIfInBounds_toArray, List.set_cons_zero, List.set_cons_succ]
          refine wpAnyH_take (i := 15) (v := ?_) rfl (by kernel_rfl) (by kernel_rfl) (by kernel_rfl) (fun _ _ _ h => h) (Or.inl ⟨by rfl, ?_⟩) (by assumption) ?_
          rotate_left
          · intro w' hSw
            try dsimp only at hSw
            go_simp
            first | done | (with_reducible rfl)
          try simp only [List.getElem_toArray, List.getElem_cons_succ, List.getElem_cons_zero, Act.put, List.setIfInBounds_toArray, List.set_cons_zero, List.set_cons_succ]
          refine wpAnyH_take (i := 16) (v := ?_) rfl (by kernel_rfl) (by kernel_rfl) (by kernel_rfl) (fun _ _ _ h => h) (Or.inl ⟨by rfl, ?_⟩) (by assumption) ?_
          rotate_left
          · intro w' hSw
            try dsimp only at hSw
            go_simp
            first | done | (with_reducible rfl)
          try simp only [List.getElem_toArray, List.getElem_cons_succ, List.getElem_cons_zero, Act.put, List.setIfInBounds_toArray, List.set_cons_zero, List.set_cons_succ]
          refine wpAnyH_take (i := 17) (v := ?_) rfl (by kernel_rfl) (by kernel_rfl) (by kernel_rfl) (fun _ _ _ h => h) (Or.inl ⟨by rfl, ?_⟩) (by assumption) ?_
          rotate_left
          · intro w' hSw
            try dsimp only at hSw
            go_simp
            first | done | (with_reducible rfl)
          try simp only [List.getElem_toArray, List.getElem_cons_succ, List.getElem_cons_zero, Act.put, List.setIfInBounds_toArray, List.set_cons_zero, List.set_cons_succ]
          refine wpAnyH_take (i := 18) (v := ?_) rfl (by kernel_rfl) (by kernel_rfl) (by kernel_rfl) (fun _ _ _ h => h) (Or.inl ⟨by rfl, ?_⟩) (by assumption) ?_
          rotate_left
          · intro w' hSw
            try dsimp only at hSw
            go_simp
            first | done | (with_reducible rfl)
          try simp only [List.getElem_toArray, List.getElem_cons_succ, List.getElem_cons_zero, Act.put, List.setIfInBounds_toArray, List.set_cons_zero, List.set_cons_succ]
          refine wpAnyH_take (i := 19) (v := ?_) rfl (by kernel_rfl) (by kernel_rfl) (by kernel_rfl) (fun _ _ _ h => h) (Or.inl ⟨by rfl, ?_⟩) (by assumption) ?_
          rotate_left
          · intro w' hSw
            try dsimp only at hSw
            go_simp
            first | done | (with_reducible rfl)
          try simp only [List.getElem_toArray, List.getElem_cons_succ, List.getElem_cons_zero, Act.put, List.setIfInBounds_toArray, List.set_cons_zero, List.set_cons_succ]
          refine wpAnyH_ready (rs := [13]) (by kernel_rfl) (by simp) ?_
          refine AllReadyH.cons rfl (fun K hK => ?_) AllReadyH.nil
          go_simp
          refine (HBYTC.out _ HX.out).mono ?_
          rintro e w11 ⟨A11, c11, rfl, hr11, hc11⟩
          have HX := Lib.hid (HX.out.trans hc11 (fun _ _ e => e))
          have s2 := HKEEP.out _ HX.out
          have s6 := conv8 (c := c11) hr11
          clear hr11 hc11
          go_wp2_with fail
          refine hK.out _ _ s2 (fun hHeld => ?_)
          clear hK K
          try simp only [List.getElem_toArray, List.getElem_cons_succ, List.getElem_cons_zero, Act.put, List.setIfInBounds_toArray, List.set_cons_zero, List.set_cons_succ]
          refine wpAnyH_ready (rs := [14]) (by kernel_rfl) (by simp) ?_
          refine AllReadyH.cons rfl (fun K hK => ?_) AllReadyH.nil
          go_simp
          refine hK.out _ _ s2 (fun hHeld => ?_)
          clear hK K
          try simp only [List.getElem_toArray, List.getElem_cons_succ, List.getElem_cons_zero, Act.put, List.setIfInBounds_toArray, List.set_cons_zero, List.set_cons_succ]
          refine wpAnyH_take (i := 20) (v := ?_) rfl (by kernel_rfl) (by kernel_rfl) (by kernel_rfl) (fun _ _ _ h => h) (Or.inl ⟨by rfl, ?_⟩) (by assumption) ?_
          rotate_left
          · intro w' hSw
            try dsimp only at hSw
            go_simp
            first | done | (with_reducible rfl)
          try simp only [List.getElem_toArray, List.getElem_cons_succ, List.getElem_cons_zero, Act.put, List.setIfInBounds_toArray, List.set_cons_zero, List.set_cons_succ]
          refine wpAnyH_take (i := 21) (v := ?_) rfl (by kernel_rfl) (by kernel_rfl) (by kernel_rfl) (fun _ _ _ h => h) (Or.inl ⟨by rfl, ?_⟩) (by assumption) ?_
          rotate_left
          · intro w' hSw
            try dsimp only at hSw
            go_simp
            first | done | (with_reducible rfl)
          try simp only [List.getElem_toArray, List.getElem_cons_succ, List.getElem_cons_zero, Act.put, List.setIfInBounds_toArray, List.set_cons_zero, List.set_cons_succ]
          refine wpAnyH_take (i := 22) (v := ?_) rfl (by kernel_rfl) (by kernel_rfl) (by kernel_rfl) (fun _ _ _ h => h) (Or.inl ⟨by rfl, ?_⟩) (by assumption) ?_
          rotate_left
          · intro w' hSw
            try dsimp only at hSw
            go_simp
            first | done | (with_reducible rfl)
          try simp only [List.getElem_toArray, List.getElem_cons_succ, List.getElem_cons_zero, Act.put, List.setIfInBounds_toArray, List.set_cons_zero, List.set_cons_succ]
          refine wpAnyH_take (i := 23) (v := ?_) rfl (by kernel_rfl) (by kernel_rfl) (by kernel_rfl) (fun _ _ _ h => h) (Or.inl ⟨by rfl, ?_⟩) (by assumption) ?_
          rotate_left
          · intro w' hSw
            try dsimp only at hSw
            go_simp
            first | done | (with_reducible rfl)
          try simp only [List.getElem_toArray, List.getElem_cons_succ, List.getElem_cons_zero, Act.put, List.setIfInBounds_toArray, List.set_cons_zero, List.set_cons_succ]
          refine wpAnyH_take (i := 25) (v := ?_) rfl (by kernel_rfl) (by kernel_rfl) (by kernel_rfl) (fun _ _ _ h => h) (Or.inl ⟨by rfl, ?_⟩) (by assumption) ?_
          rotate_left
          · intro w' hSw
            try dsimp only at hSw
            go_simp
            first | done | (with_reducible rfl)
          try simp only [List.getElem_toArray, List.getElem_cons_succ, List.getElem_cons_zero, Act.put, List.setIfInBounds_toArray, List.set_cons_zero, List.set_cons_succ]
          refine wpAnyH_take (i := 26) (v := ?_) rfl (by kernel_rfl) (by kernel_rfl) (by kernel_rfl) (fun _ _ _ h => h) (Or.inl ⟨by rfl, ?_⟩) (by assumption) ?_
          rotate_left
          · intro w' hSw
            try dsimp only at hSw
            go_simp
            first | done | (with_reducible rfl)
          try simp only [List.getElem_toArray, List.getElem_cons_succ, List.getElem_cons_zero, Act.put, List.setIfInBounds_toArray, List.set_cons_zero, List.set_cons_succ]
          refine wpAnyH_take (i := 27) (v := ?_) rfl (by kernel_rfl) (by kernel_rfl) (by kernel_rfl) (fun _ _ _ h => h) (Or.inl ⟨by rfl, ?_⟩) (by assumption) ?_
          rotate_left
          · intro w' hSw
            try dsimp only at hSw
            go_simp
            first | done | (with_reducible rfl)
          try simp only [List.getElem_toArray, List.getElem_cons_succ, List.getElem_cons_zero, Act.put, List.setIfInBounds_toArray, List.set_cons_zero, List.set_cons_succ]
          refine wpAnyH_take (i := 28) (v := ?_) rfl (by kernel_rfl) (by kernel_rfl) (by kernel_rfl) (fun _ _ _ h => h) (Or.inl ⟨by rfl, ?_⟩) (by assumption) ?_
          rotate_left
          · intro w' hSw
            try dsimp only at hSw
            go_simp
            first | done | (with_reducible rfl)
          try simp only [List.getElem_toArray, List.getElem_cons_succ, List.getElem_cons_zero, Act.put, List.setIfInBounds_toArray, List.set_cons_zero, List.set_cons_succ]
          refine wpAnyH_ready (rs := [24]) (by kernel_rfl) (by simp) ?_
          refine AllReadyH.cons rfl (fun K hK => ?_) AllReadyH.nil
          go_simp
          refine (HSAFC.out _ HX.out).mono ?_
          rintro e w12 ⟨rfl, rfl⟩
          go_wp2_with fail
          refine hK.out _ _ s2 (fun hHeld => ?_)
          clear hK K
          try simp only [List.getElem_toArray, List.getElem_cons_succ, List.getElem_cons_zero, Act.put, List.setIfInBounds_toArray, List.set_cons_zero, List.set_cons_succ]
          refine wpAnyH_take (i := 29) (v := ?_) rfl (by kernel_rfl) (by kernel_rfl) (by kernel_rfl) (fun _ _ _ h => h) (Or.inl ⟨by rfl, ?_⟩) (by assumption) ?_
          rotate_left
          · intro w' hSw
            try dsimp only at hSw
            go_simp
            first | done | (with_reducible rfl)
          try simp only [List.getElem_toArray, List.getElem_cons_succ, List.getElem_cons_zero, Act.put, List.setIfInBounds_toArray, List.set_cons_zero, List.set_cons_succ]
          refine wpAnyH_take (i := 30) (v := ?_) rfl (by kernel_rfl) (by kernel_rfl) (by kernel_rfl) (fun _ _ _ h => h) (Or.inl ⟨by rfl, ?_⟩) (by assumption) ?_
          rotate_left
          · intro w' hSw
            try dsimp only at hSw
            go_simp
            first | done | (with_reducible rfl)
          try simp only [List.getElem_toArray, List.getElem_cons_succ, List.getElem_cons_zero, Act.put, List.setIfInBounds_toArray, List.set_cons_zero, List.set_cons_succ]
          refine wpAnyH_done (by kernel_rfl) ?_ _
          refine NoPanic.normal ?_
          have HJX := Lib.hid (HT.out.new HX.out)
          clear hHeld s2 s6 HKEEP HLENC HBYTC HSAFC HX HT
          go_wp2_with fail
          go_roundg (m - (k + 1))
          case measure => omega
          case rel => exact ⟨k + 1, _, _, rfl, by omega, by go_num, rfl, rfl, HJX⟩
      · have HC := Lib.hid HJX.out.was
        clear HJX HL HS
        go_wp2_with fail
        refine (jsync_nil _).mono ?_
        rintro e w4 ⟨rfl, rfl⟩
        go_wp2_with fail
        refine (jopen_nil _).mono ?_
        rintro e w4 ⟨rfl, rfl⟩
        go_wp2_with fail
        refine (HAL.out _).mono ?_
        rintro e w5 ⟨rfl, hc5⟩
        have HC5 := Lib.hid (HC.out.trans hc5 (fun _ _ e => e))
        clear hc5
        go_wp2_with fail
        refine (jput_nil _ _ _ _).mono ?_
        rintro e w6 ⟨rfl, rfl⟩
        go_wp2_with fail
        refine (jlen_nil _).mono ?_
        rintro e w6 ⟨rfl, rfl⟩
        go_wp2_with fail
        go_ret
        exact ⟨rfl, HC5.out.alloc _⟩

end Go.Proofs.Ythljmebhbjeeiaa
