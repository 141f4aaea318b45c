/-
  One journal of a walk: each call by a contract. Walks: rutterlaw08.alive, Fits. A slice of acts that came in, opened. Conditions: the acts are read in memory.
-/
import Derived.Test.YthljmebhbjeeiaaNg
import Derived.Test.YthljmebhbjeeiaaArgs
namespace Go.Proofs.Ythljmebhbjeeiaa
open Go.RowKit Go.ChangeShapes
set_option linter.unusedVariables false
set_option linter.unusedSimpArgs false

theorem putj_ok {r : Nat} {ls : List (List UInt8)} {b : List UInt8} (hb : Bok b) (h : (recs8 ls).length + b.length + 6 ≤ r) : putE r (recs8 ls) b = 0 ∧ putB r (recs8 ls) b = recs8 (ls ++ [b]) := by
  have h1 := hb.1
  have h2 := hb.2
  unfold putE putB addE addB
  have n1 : ¬ (b.length = 0 ∨ 200 < b.length) := by omega
  have n2 : ¬ r < (recs8 ls).length + (recB b).length := by rw [recB_len]; omega
  rw [if_neg n1, if_neg n1, if_neg n2, if_neg n2, recs_snoc]
  exact ⟨rfl, rfl⟩
theorem putj_no {r : Nat} {bs b : List UInt8} (hb : ¬ Bok b) : putE r bs b = 1 ∧ putB r bs b = bs := by
  unfold Bok at hb
  unfold putE putB
  rw [if_pos (by omega), if_pos (by omega)]
  exact ⟨rfl, rfl⟩

/-- One journal of a walk that began in W: nothing of W has turned. -/
def JA (W : World) (p j : Nat) (bs : List UInt8) (s r : Nat) (w : World) : Prop := DA W p bs s r w ∧ W.heap.size ≤ j ∧ Blk w j 62 #[.pointer (some ⟨p, 0, none⟩)]
section
variable {W w w' : World} {p j : Nat} {bs bs1 : List UInt8} {s s1 r : Nat} {o o' : Option Nat}
theorem JA.new (h : JA W p j bs s r w) (hc : Chg (fun _ => False) w w') : JA W p j bs s r w' := ⟨h.1.new hc, h.2.1, h.2.2.chg hc id⟩
theorem JA.was (h : JA W p j bs s r w) : Chg (fun _ => False) W w := h.1.1
theorem ja_put (h : JA W p j bs s r w) (b : List UInt8) (n c : Nat) (A : Option Addr) (S : Nat → Prop) (hn : n = b.length) (hr : Rds w S A n (bcs b)) (hbr : bs.length ≤ r) (hr24 : r ≤ 16777216) (hm : n ≤ 9223372036854775807) :
    Calls Try.prog 16 #[.pointer (some ⟨j, 0, none⟩), .slice A n c] w fun e w' => e = .returned (.int .i64 (putE r bs b)) ∧ JA W p j (putB r bs b) s r w' := by
  obtain ⟨⟨h1, h2, o, h3, h4⟩, h5, h6⟩ := h
  refine (jput_any j p o bs b s r n c A S w h6 h3 hn hr hbr hr24 hm).mono ?_
  rintro e w' ⟨rfl, o', hf, hm'⟩
  exact ⟨rfl, da_set h1 h2 h4 hf hm', h5, fi_keep h3 hm' h6 (by decide) (by decide)⟩
theorem ja_sync (h : JA W p j bs s r w) : Calls Try.prog 11 #[.pointer (some ⟨j, 0, none⟩)] w fun e w' => e = .returned (.tuple #[]) ∧ JA W p j bs bs.length r w' := by
  obtain ⟨⟨h1, h2, o, h3, h4⟩, h5, h6⟩ := h
  refine (jsync_any j p o bs s r w h6 h3).mono ?_
  rintro e w' ⟨rfl, hf, hm'⟩
  exact ⟨rfl, da_set h1 h2 h4 hf hm', h5, fi_keep h3 hm' h6 (by decide) (by decide)⟩
theorem ja_len (h : JA W p j bs s r w) (hbr : bs.length ≤ r) (hr24 : r ≤ 16777216) :
    Calls Try.prog 18 #[.pointer (some ⟨j, 0, none⟩)] w fun e w' => e = .returned (.int .i64 ((scan8 bs).length : Int)) ∧ Chg (fun _ => False) w w' := by
  obtain ⟨⟨h1, h2, o, h3, h4⟩, h5, h6⟩ := h
  exact jlen_any j p o bs s r w h6 h3 hbr hr24
/-- What Open leaves, of one file. -/
def OpenJ (W w : World) (p : Nat) (bs : List UInt8) (s r : Nat) (e : Ending) (w' : World) : Prop :=
  ∃ j A m c, e = .returned (.tuple #[.pointer (some ⟨j, 0, none⟩), .slice A m c, .int .i64 0]) ∧ m = (scan8 bs).length ∧ LL w' (fun k => w.heap.size ≤ k) A m (scan8 bs) ∧ JA W p j (recs8 (scan8 bs)) (opS bs s) r w'
theorem ja_open (h : DA W p bs s r w) (hbr : bs.length ≤ r) (hr24 : r ≤ 16777216) :
    Calls Try.prog 9 #[.pointer (some ⟨p, 0, none⟩)] w (OpenJ W w p bs s r) := by
  obtain ⟨h1, h2, o, h3, h4⟩ := h
  refine (jopen_any p o bs s r w h3 hbr hr24).mono ?_
  rintro e w' ⟨j, A, m, c, rfl, hj, hb, hm, hl, hf, hm'⟩
  exact ⟨j, A, m, c, rfl, hm, hl, da_set h1 h2 h4 hf hm', Nat.le_trans h1.size hj, hb⟩
end

/-- What Fits tells. -/
def FitsP8 (l : List At7) (w : World) (e : Ending) (w' : World) : Prop := ∃ r : Bool, e = .returned (.bool r) ∧ (r = true → l.length ≤ 60 ∧ ∀ (i : Nat) (x : At7), l[i]? = some x → x.bq ≤ 3000) ∧ w = w'

set_option maxHeartbeats 1000000 in
theorem fits8_any (L : Option Addr) (m lc : Nat) (l : List At7) (w : World) (S : Nat → Prop) (h : AR7 w S L m l) (hmc : m ≤ 9223372036854775807) :
    Calls Try.prog 6 #[.slice L m lc] w (FitsP8 l w) := by
  go_enter Try.func6, Try.ntmps6
  go_wp2_with fail
  go_loopg [3] m (fun g i wr => ∃ j : Nat, g = m - j ∧ j ≤ m ∧ j ≤ 61 ∧ i = .int .i64 (j : Int) ∧ Hid (∀ (i : Nat) (x : At7), i < j → l[i]? = some x → x.bq ≤ 3000) ∧ w = wr)
  case atStart => exact ⟨0, rfl, Nat.zero_le _, Nat.zero_le _, rfl, fun i x hi => absurd hi (by omega), rfl⟩
  case round =>
    obtain ⟨j, rfl, hj, hj2, rfl, HF, rfl⟩ := hrel
    by_cases hlt : j < m
    · by_cases hlt2 : j ≤ 60
      · obtain ⟨ad, rfl, _, _, _⟩ := h.2 (by omega)
        have hjl : j < l.length := by have := h.1; omega
        have hx : l[j]? = some l[j] := List.getElem?_eq_getElem hjl
        generalize l[j] = x at *
        obtain ⟨z0, z1, z2, hk, hq, hqm, hr⟩ := h.at hx
        have HX := Lib.hid hx
        clear hx hk hq hr z0 z2
        by_cases h1 : 3000 < x.bq
        · go_wp2_with fail
          go_ret
          exact ⟨false, rfl, (fun h => by cases h), rfl⟩
        · go_wp2_with fail
          go_roundg (m - (j + 1))
          case measure => omega
          case rel =>
            refine ⟨j + 1, rfl, by omega, by omega, by go_num, fun i y hi hy => ?_, rfl⟩
            rcases Nat.lt_or_ge i j with hij | hij
            · exact HF.out i y hij hy
            · have : i = j := by omega
              subst this
              have := HX.out
              rw [hy] at this
              injection this with this
              subst this
              omega
      · go_wp2_with fail
        go_ret
        exact ⟨decide ((m : Int) ≤ 60), rfl, (fun h => by have := of_decide_eq_true h; omega), rfl⟩
    · by_cases hm : m ≤ 60
      · have hjm : Hid (j = m) := by show j = m; omega
        go_wp2_with fail
        go_ret
        have h2 := h.1
        have h3 := hjm.out
        refine ⟨decide ((m : Int) ≤ 60), rfl, fun _ => ⟨by omega, fun i x hi => HF.out i x ?_ hi⟩, rfl⟩
        have := (List.getElem?_eq_some_iff.1 hi).1
        omega
      · go_wp2_with fail
        go_ret
        exact ⟨decide ((m : Int) ≤ 60), rfl, (fun h => by have := of_decide_eq_true h; omega), rfl⟩

theorem acts8_open {H : Type} {enc : TypeId × Value → H} {W : World} {v : Value} {d : DataW H} {p : List MemPlace} {spare : Nat → Bool} {held : Bool}
    (h : DataW.Trod enc Try.prog W 0 spare held 23 v d p) (hv : ∃ A n c, v = .slice A n c) : ∃ (L : Option Addr) (m c : Nat) (l : List At7), v = .slice L m c ∧ m ≤ 9223372036854775807 ∧ AR7 W (fun k => k < W.heap.size) L m l := by
  obtain ⟨A, n, c, rfl⟩ := hv
  obtain ⟨fuel, hf⟩ := h
  obtain ⟨L, m, cap, hcs, h1, h2, h3, h4⟩ := elems_open Try.underlying23 Try.underlying42 (by kernel_rfl) (by kernel_rfl) hf
  simp only [Value.cells, List.cons.injEq, Value.slice.injEq, and_true] at hcs
  obtain ⟨rfl, rfl, rfl⟩ := hcs
  rcases A with _ | ad
  · obtain ⟨rfl, rfl⟩ := h3 rfl
    exact ⟨none, 0, 0, [], rfl, by omega, ⟨rfl, fun h => absurd h (by omega)⟩⟩
  · obtain ⟨l, hl, hp⟩ := list_of (P := fun i (x : At7) => W.cell? (ad.add (i * 3)) = some (.int .u8 x.k) ∧ W.cell? (ad.add (i * 3 + 1)) = some (.slice x.BA x.bq x.bc) ∧ W.cell? (ad.add (i * 3 + 2)) = some (.int .i64 x.n) ∧
        (0 ≤ x.k ∧ x.k ≤ 255) ∧ x.bq = x.b.length ∧ x.bq ≤ 9223372036854775807 ∧ Rds W (fun k => k < W.heap.size) x.BA x.bq (bcs x.b)) n (fun i hi => by
      obtain ⟨vs, n', hc, hr⟩ := h4 ad rfl i hi
      obtain ⟨v0, y0, e0, t0⟩ := hr 0 _ rfl
      obtain ⟨v1, y1, e1, t1⟩ := hr 1 _ rfl
      obtain ⟨v2, y2, e2, t2⟩ := hr 2 _ rfl
      obtain ⟨k, hk, _, wk⟩ := DataW.trod_int Try.underlying5 t0
      obtain ⟨BA, bq, bc, ws, hB, wB⟩ := ints_open Try.underlying35 Try.underlying5 (by kernel_rfl) t1
      obtain ⟨q, hq, _, wq⟩ := DataW.trod_int Try.underlying3 t2
      simp only [List.cons.injEq, and_true] at hk hq hB
      subst hk
      subst hq
      subst hB
      obtain ⟨b, hl2, hr2⟩ := row_bytes wB
      have c0 := hc 0 (by decide)
      have c1 := hc 1 (by decide)
      have c2 := hc 2 (by decide)
      rw [e0] at c0
      rw [e1] at c1
      rw [e2] at c2
      refine ⟨⟨k, BA, bq, bc, b, q⟩, c0, c1, c2, u8_range wk, hl2, ?_, hr2.old.mono (fun _ h => h.2)⟩
      rcases wB with ⟨_, h0, _⟩ | ⟨_, _, g1, g2, _⟩
      · show bq ≤ _
        omega
      · unfold maxLen at g2
        show bq ≤ _
        omega)
    refine ⟨some ad, n, c, l, rfl, by unfold maxLen at h2; omega, ⟨hl.symm, fun hn => ⟨ad, rfl, ?_, ?_, fun i x hi => hp i x hi⟩⟩⟩
    · have h0 : l[0]? = some (l[0]'(by omega)) := List.getElem?_eq_getElem (by omega)
      have := World.block_lt_of_cell? W _ (hp 0 _ h0).1
      rwa [block_add] at this
    · have h0 : l[0]? = some (l[0]'(by omega)) := List.getElem?_eq_getElem (by omega)
      have := World.block_lt_of_cell? W _ (hp 0 _ h0).1
      rwa [block_add] at this

def B9 : List UInt8 := [49, 50, 51, 52, 53, 54, 55, 56, 57]
def B2 : List UInt8 := [97, 98]
theorem b9_ok : Bok B9 := ⟨by decide, by decide⟩
theorem b2_ok : Bok B2 := ⟨by decide, by decide⟩
theorem b9_sum : sumN B9 = 3421780262 := by decide +kernel
theorem len_1 : (recs8 [B9]).length = 15 := by rw [recs_cons, List.length_append, recB_len]; rfl
theorem len_2 : (recs8 [B9, B2]).length = 23 := by rw [recs_cons, List.length_append, recs_cons, List.length_append, recB_len, recB_len]; rfl
theorem cut_2 : crN (recs8 [B9, B2]) 15 7 = 22 := by unfold crN; rw [len_2]; rfl
theorem scan_2 : scan8 ((recs8 [B9, B2]).take 22) = [B9] := by
  rw [keep_scan _ _ (fun x hx => by simp only [List.mem_cons, List.not_mem_nil, or_false] at hx; rcases hx with rfl | rfl; exact b9_ok; exact b2_ok)]
  rfl
theorem used_2 : used8 ((recs8 [B9, B2]).take 22) = 15 := by unfold used8; rw [scan_2, len_1]
theorem scan_1 : scan8 (recs8 [B9]) = [B9] := scan_of _ (fun x hx => by simp only [List.mem_singleton] at hx; subst hx; exact b9_ok)

set_option maxRecDepth 100000 in
set_option maxHeartbeats 4000000 in
theorem alive8_any (w : World) : Calls Try.prog 7 #[] w fun e w' => e = .returned (.bool true) ∧ Chg (fun _ => False) w w' := by
  have HN := Lib.hid (da_new (W := w) 99 (by decide))
  go_enter Try.func7, Try.ntmps7
  go_wp2_with fail
  refine HN.out.mono ?_
  rintro e w1 ⟨rfl, h1⟩
  clear HN
  have HO := Lib.hid (ja_open h1 (by decide) (by decide))
  clear h1
  go_wp2_with fail
  refine HO.out.mono ?_
  rintro e w2 ⟨j, A1, m1, c1, rfl, hm1, -, h2⟩
  have hm0 : m1 = 0 := hm1
  subst hm0
  clear hm1 HO
  have h2 : JA w w.heap.size j (recs8 []) 0 99 w2 := h2
  have HP := Lib.hid (ja_put (h2.new ((Chg.refl _ w2).alloc (.cells #[.int .u8 49, .int .u8 50, .int .u8 51, .int .u8 52, .int .u8 53, .int .u8 54, .int .u8 55, .int .u8 56, .int .u8 57] 5 (9, 10)))) B9 9 9 _ _ rfl (rds_alloc w2 5 #[.int .u8 49, .int .u8 50, .int .u8 51, .int .u8 52, .int .u8 53, .int .u8 54, .int .u8 55, .int .u8 56, .int .u8 57] (9, 10)) (by decide) (by decide) (by decide))
  rw [(putj_ok b9_ok (show (recs8 []).length + B9.length + 6 ≤ 99 by decide)).1, (putj_ok b9_ok (show (recs8 []).length + B9.length + 6 ≤ 99 by decide)).2] at HP
  clear h2
  have kc := Go.Joins.run_convert_bytes_const_at (P := Try.prog) w2 35 5 #[.int .u8 49, .int .u8 50, .int .u8 51, .int .u8 52, .int .u8 53, .int .u8 54, .int .u8 55, .int .u8 56, .int .u8 57] 9 9 w2.heap.size rfl Try.underlying35 Try.underlying5
  go_wp2_with fail
  refine HP.out.mono ?_
  rintro e w3 ⟨rfl, h3⟩
  have h3 : JA w w.heap.size j (recs8 [B9]) 0 99 w3 := h3
  clear HP kc
  have HS := Lib.hid (ja_sync h3)
  rw [len_1] at HS
  clear h3
  go_wp2_with fail
  refine HS.out.mono ?_
  rintro e w4 ⟨rfl, h4⟩
  clear HS
  have HP := Lib.hid (ja_put (h4.new ((Chg.refl _ w4).alloc (.cells #[.int .u8 97, .int .u8 98] 5 (2, 3)))) B2 2 2 _ _ rfl (rds_alloc w4 5 #[.int .u8 97, .int .u8 98] (2, 3)) (by rw [len_1]; decide) (by decide) (by decide))
  rw [(putj_ok b2_ok (show (recs8 [B9]).length + B2.length + 6 ≤ 99 by rw [len_1]; decide)).1, (putj_ok b2_ok (show (recs8 [B9]).length + B2.length + 6 ≤ 99 by rw [len_1]; decide)).2] at HP
  clear h4
  have kc := Go.Joins.run_convert_bytes_const_at (P := Try.prog) w4 35 5 #[.int .u8 97, .int .u8 98] 2 2 w4.heap.size rfl Try.underlying35 Try.underlying5
  go_wp2_with fail
  refine HP.out.mono ?_
  rintro e w5 ⟨rfl, h5⟩
  have h5 : JA w w.heap.size j (recs8 [B9, B2]) 15 99 w5 := h5
  clear HP kc
  have HC := Lib.hid (da_crash h5.1 7 (by rw [len_2]; decide) (by rw [len_2]; decide) (by decide))
  rw [cut_2, len_2] at HC
  clear h5
  go_wp2_with fail
  refine HC.out.mono ?_
  rintro e w6 ⟨rfl, h6⟩
  clear HC
  have HO := Lib.hid (ja_open h6 (by rw [List.length_take, len_2]; decide) (by decide))
  clear h6
  go_wp2_with fail
  refine HO.out.mono ?_
  rintro e w7 ⟨k, A2, m2, c2, rfl, hm2, hl2, h7⟩
  rw [scan_2] at hl2 h7 hm2
  have hm1 : m2 = 1 := hm2
  subst hm1
  have e0 : opS ((recs8 [B9, B2]).take 22) 22 = 15 := by unfold opS; rw [used_2, if_pos (by rw [List.length_take, len_2]; decide)]
  rw [e0] at h7
  clear e0 hm2 HO
  have ha : Chg (fun _ => False) w7 (w7.alloc (.cells #[.int .u8 49, .int .u8 50, .int .u8 51, .int .u8 52, .int .u8 53, .int .u8 54, .int .u8 55, .int .u8 56, .int .u8 57] 5 (9, 10))) := (Chg.refl _ w7).alloc _
  have HSU := Lib.hid (sum_any (some ⟨w7.heap.size, 0, none⟩) 9 9 B9 _ (w7.alloc (.cells #[.int .u8 49, .int .u8 50, .int .u8 51, .int .u8 52, .int .u8 53, .int .u8 54, .int .u8 55, .int .u8 56, .int .u8 57] 5 (9, 10))) rfl (rds_alloc w7 5 #[.int .u8 49, .int .u8 50, .int .u8 51, .int .u8 52, .int .u8 53, .int .u8 54, .int .u8 55, .int .u8 56, .int .u8 57] (9, 10)) (by decide))
  rw [b9_sum] at HSU
  obtain ⟨ad, X, xc, rfl, hx0, hxr⟩ := (hl2.new ha).at (j := 0) (l := B9) rfl
  have HLE := Lib.hid (ja_len (h7.new ha) (by rw [len_1]; decide) (by decide))
  rw [scan_1] at HLE
  have H7 := Lib.hid (h7.new ha)
  have k1 := conv8 (c := xc) hxr
  simp only [Addr.add, if_true] at hx0
  rw [show B9.length = 9 from rfl] at hx0 k1
  rw [show B9.toArray = #[49, 50, 51, 52, 53, 54, 55, 56, 57] from rfl] at k1
  clear hl2 h7 hxr ha
  have kc := Go.Joins.run_convert_bytes_const_at (P := Try.prog) w7 35 5 #[.int .u8 49, .int .u8 50, .int .u8 51, .int .u8 52, .int .u8 53, .int .u8 54, .int .u8 55, .int .u8 56, .int .u8 57] 9 9 w7.heap.size rfl Try.underlying35 Try.underlying5
  go_wp2_with fail
  refine HSU.out.mono ?_
  rintro e w8 ⟨rfl, rfl⟩
  clear HSU kc
  go_wp2_with fail
  refine HLE.out.mono ?_
  rintro e w9 ⟨rfl, hc9⟩
  have H9 := Lib.hid (H7.out.new hc9)
  have HSF := Lib.hid (da_safe H9.out.1)
  clear HLE hc9 H7 k1 hx0
  go_wp2_with fail
  refine HSF.out.mono ?_
  rintro e w10 ⟨rfl, rfl⟩
  go_wp2_with fail
  go_ret
  exact ⟨rfl, H9.out.was⟩

end Go.Proofs.Ythljmebhbjeeiaa
