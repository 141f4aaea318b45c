/-
  Walk: rutterlaw08.JournalKeeps. Condition: the arguments are read in memory.
-/
import Derived.Test.YthljmebhbjeeiaaNh
namespace Go.Proofs.Ythljmebhbjeeiaa
open Go.RowKit
set_option linter.unusedVariables false
set_option linter.unusedSimpArgs false

/-- Rows of slices are as they were. -/
def Kp8 (w w' : World) : Prop := ∀ (g : Nat) (cs : Array Value), Blk w g 35 cs → Blk w' g 35 cs
theorem own_keep {w w' : World} {base size n : Nat} {v : Value} {xs : List Value} (h : w.ownsRow base 35 size v n xs) (hk : Kp8 w w') : w'.ownsRow base 35 size v n xs := by
  refine ⟨h.1, ?_⟩
  rcases h.2 with h2 | ⟨g, cap, cur, hv, hg, hh, r⟩
  · exact .inl h2
  · exact .inr ⟨g, cap, cur, hv, hg, hk g cur hh, r⟩
theorem kp_new {w w' : World} (hc : Chg (fun _ => False) w w') : Kp8 w w' := fun g cs hb => hb.chg hc id
theorem kp_fi {w w' : World} {p : Nat} {o o' : Option Nat} {bs : List UInt8} {s r : Nat} (h : Fi 59 w p o bs s r) (hm : Mvd p o o' w w') : Kp8 w w' := fun g cs hb => fi_keep h hm hb (by decide) (by decide)
section
variable {W w w' : World} {p j : Nat} {bs : List UInt8} {s r : Nat}
theorem jk_put (h : JA W p j bs s r w) (b : List UInt8) (n c : Nat) (A : Option Addr) (S : Nat → Prop) (hn : n = b.length) (hr : Rds w S A n (bcs b)) (hbr : bs.length ≤ r) (hr24 : r ≤ 16777216) (hm : n ≤ 9223372036854775807) :
    Calls Try.prog 16 #[.pointer (some ⟨j, 0, none⟩), .slice A n c] w fun e w' => e = .returned (.int .i64 (putE r bs b)) ∧ JA W p j (putB r bs b) s r w' ∧ Kp8 w w' := by
  obtain ⟨⟨h1, h2, o, h3, h4⟩, h5, h6⟩ := h
  refine (jput_any j p o bs b s r n c A S w h6 h3 hn hr hbr hr24 hm).mono ?_
  rintro e w' ⟨rfl, o', hf, hm'⟩
  exact ⟨rfl, ⟨da_set h1 h2 h4 hf hm', h5, fi_keep h3 hm' h6 (by decide) (by decide)⟩, kp_fi h3 hm'⟩
theorem jk_sync (h : JA W p j bs s r w) : Calls Try.prog 11 #[.pointer (some ⟨j, 0, none⟩)] w fun e w' => e = .returned (.tuple #[]) ∧ JA W p j bs bs.length r w' ∧ Kp8 w w' := by
  obtain ⟨⟨h1, h2, o, h3, h4⟩, h5, h6⟩ := h
  refine (jsync_any j p o bs s r w h6 h3).mono ?_
  rintro e w' ⟨rfl, hf, hm'⟩
  exact ⟨rfl, ⟨da_set h1 h2 h4 hf hm', h5, fi_keep h3 hm' h6 (by decide) (by decide)⟩, kp_fi h3 hm'⟩
theorem dk_crash (h : DA W p bs s r w) (keep : Int) (hs : s ≤ bs.length) (hbr : bs.length ≤ r) (hr24 : r ≤ 16777216) :
    Calls Try.prog 13 #[.pointer (some ⟨p, 0, none⟩), .int .i64 keep] w fun e w' => e = .returned (.int .i64 ((bs.length : Int) - (crN bs s keep : Int))) ∧ DA W p (bs.take (crN bs s keep)) (crN bs s keep) r w' ∧ Kp8 w w' := by
  obtain ⟨h1, h2, o, h3, h4⟩ := h
  refine (dcrash_any p o bs s r keep w h3 hs hbr hr24).mono ?_
  rintro e w' ⟨rfl, hf, hm⟩
  exact ⟨rfl, da_set h1 h2 h4 hf hm, kp_fi h3 hm⟩
theorem dk_open (h : DA W p bs s r w) (hbr : bs.length ≤ r) (hr24 : r ≤ 16777216) :
    Calls Try.prog 9 #[.pointer (some ⟨p, 0, none⟩)] w fun e w' => OpenJ W w p bs s r e w' ∧ Kp8 w w' := by
  obtain ⟨h1, h2, o, h3, h4⟩ := h
  refine (jopen_any p o bs s r w h3 hbr hr24).mono ?_
  rintro e w' ⟨j, A, m, c, rfl, hj, hb, hm, hl, hf, hm'⟩
  exact ⟨⟨j, A, m, c, rfl, hm, hl, da_set h1 h2 h4 hf hm', Nat.le_trans h1.size hj, hb⟩, kp_fi h3 hm'⟩
/-- Behind an append onto a row of slices that is the walk's own. -/
theorem ja_row (h : JA W p j bs s r w) {D : Option Addr} {mm c n1 : Nat} {vs : List Value} (hown : w.ownsRow W.heap.size 35 1 (.slice D mm c) mm vs) (hg : w.grownBy w' (Value.slice D n1 c).ownBlock) : JA W p j bs s r w' := by
  obtain ⟨⟨h1, h2, o, h3, h4⟩, h5, h6⟩ := h
  have hc : Chg (fun k => D.map (·.block) = some k) w w' := (Chg.refl (fun k => D.map (·.block) = some k) w).grown hg (fun k hk _ => by rw [own_block] at hk; exact hk)
  have hb : ∀ k, D.map (·.block) = some k → ∃ cs, Blk w k 35 cs := fun k hk => by
    rcases hown.2 with ⟨e, _⟩ | ⟨g, cap, cur, e, _, hh, _⟩
    · injection e with e
      subst e
      cases hk
    · injection e with e
      subst e
      injection hk with hk
      have hk : g = k := hk
      subst hk
      exact ⟨cur, hh⟩
  have hlt := hown.lt
  rw [own_block] at hlt
  refine ⟨⟨h1.trans hc (fun i hi hs => by have := (hlt i hs).1; omega), h2, o, h3.chg hc (fun e => ?_) (fun k hk e => ?_), h4⟩, h5, h6.chg hc (fun e => ?_)⟩
  · obtain ⟨cs, hb'⟩ := hb p e
    exact (fi_apart h3 hb' (by decide) (by decide)).1 rfl
  · obtain ⟨cs, hb'⟩ := hb k e
    exact (fi_apart h3 hb' (by decide) (by decide)).2 hk
  · obtain ⟨cs, hb'⟩ := hb j e
    have h := hb'.symm.trans h6
    simp at h
end
theorem recs_len_le (ls : List (List UInt8)) (h : ∀ x ∈ ls, Bok x) : (recs8 ls).length ≤ 206 * ls.length := by
  induction ls with
  | nil => exact Nat.le_refl _
  | cons x l ih =>
    have h1 := (h x (by simp)).2
    have h2 := ih (fun z hz => h z (by simp [hz]))
    rw [recs_cons, List.length_append, recB_len, List.length_cons]
    omega
theorem recs_take_le (ls : List (List UInt8)) (k : Nat) : (recs8 (ls.take k)).length ≤ (recs8 ls).length := by
  have h := recs_app (ls.take k) (ls.drop k)
  rw [List.take_append_drop] at h
  rw [h, List.length_append]
  omega
theorem bl_arg {W : World} {vs : List Value} {ls : List (List UInt8)} {x : At7} (h : BL W (fun k => k < W.heap.size) vs ls) (hq : x.bq = x.b.length) (hr : Rds W (fun k => k < W.heap.size) x.BA x.bq (bcs x.b)) :
    BL W (fun k => k < W.heap.size) (vs ++ [.slice x.BA x.bq x.bc]) (ls ++ [x.b]) := h.snoc hq hr

set_option maxRecDepth 100000 in
set_option maxHeartbeats 8000000 in
theorem keeps8_any (sy keep : Int) (L : Option Addr) (m lc : Nat) (l : List At7) (W : World) (hl : AR7 W (fun k => k < W.heap.size) L m l) (hmc : m ≤ 9223372036854775807) :
    Calls Try.prog 5 #[.slice L m lc, .int .i64 sy, .int .i64 keep] W fun e w' => e = .returned (.bool true) ∧ Chg (fun _ => False) W w' := by
  obtain ⟨i0, hi0, hz0, hz1, hz2⟩ := info_parts infoSl8
  have HF := Lib.hid (fits8_any L m lc l W _ hl hmc)
  have HAL := Lib.hid alive8_any
  have HN := Lib.hid (da_new (W := W) 65536 (by decide))
  go_enter Try.func5, Try.ntmps5
  go_wp2_with fail
  refine HF.out.mono ?_
  rintro e w0 ⟨b, rfl, hb, rfl⟩
  clear HF
  go_wp2_with fail
  refine HN.out.mono ?_
  rintro e w1 ⟨rfl, h1⟩
  clear HN
  have HO := Lib.hid (ja_open h1 (by decide) (by decide))
  clear h1
  go_wp2_with fail
  refine HO.out.mono ?_
  rintro e w2 ⟨j, A1, m1, c1, rfl, hm1, -, h2⟩
  have hm0 : m1 = 0 := hm1
  subst hm0
  clear hm1 HO
  have H2 := Lib.hid (show JA W W.heap.size j (recs8 []) 0 65536 w2 from h2)
  clear h2
  cases b with
  | false =>
    clear hb
    go_wp2_with fail
    refine (HAL.out _).mono ?_
    rintro e w3 ⟨rfl, hc⟩
    go_wp2_with fail
    go_ret
    exact ⟨rfl, H2.out.was.trans hc (fun _ _ e => e)⟩
  | true =>
    obtain ⟨hm60, hb3⟩ := hb rfl
    have HS := Lib.hid hb3
    have HL := Lib.hid hl
    have hmm60 : m ≤ 60 := by have := hl.1; omega
    clear hb hl hm60 hb3
    go_wp2_with fail
    go_loopg [13, 14, 15] m (fun g s13 s14 i wr => ∃ (k nn mm c' : Nat) (ls : List (List UInt8)) (D : Option Addr) (vs : List Value), g = m - k ∧ k ≤ m ∧ mm ≤ k ∧ nn ≤ mm ∧ i = .int .i64 (k : Int) ∧ s13 = .int .i64 (nn : Int) ∧ s14 = .slice D mm c' ∧
      Hid (mm = ls.length ∧ ∀ x ∈ ls, Bok x) ∧ Hid (wr.ownsRow W.heap.size 35 1 (.slice D mm c') mm vs) ∧ Hid (BL W (fun k => k < W.heap.size) vs ls) ∧ Hid (JA W W.heap.size j (recs8 ls) (recs8 (ls.take nn)).length 65536 wr))
    case atStart => exact ⟨0, 0, 0, 0, [], none, [], rfl, Nat.zero_le _, Nat.zero_le _, Nat.zero_le _, rfl, rfl, rfl, ⟨rfl, fun x hx => by simp at hx⟩, World.ownsRow_nil _ _ _ _, BL.nil _ _, H2⟩
    case round =>
      obtain ⟨k, nn, mm, c', ls, D, vs, rfl, hk, hmk, hnm, rfl, rfl, rfl, HLS, HOWN, HBL, HJ⟩ := hrel
      clear H2
      by_cases hlt : k < m
      · have hll := HL.out.1
        obtain ⟨ad, rfl, -⟩ := HL.out.2 (by omega)
        have hx : l[k]? = some (l[k]'(by omega)) := List.getElem?_eq_getElem (by omega)
        obtain ⟨-, -, -, -, hq, -, hrb⟩ := HL.out.at hx
        obtain ⟨z0, z1, z2, -⟩ := (HL.out.chg HJ.out.was (S' := fun _ => False) (fun _ _ => id)).at hx
        have hq3 := HS.out k _ hx
        generalize l[k] = x at *
        have hle := recs_len_le ls HLS.out.2
        have hmm := HLS.out.1
        have HP := Lib.hid (jk_put HJ.out x.b x.bq x.bc x.BA _ hq (hrb.chg HJ.out.was (fun _ _ => id)) (by omega) (by decide) (by omega))
        have HQ := Lib.hid hq
        have HX := Lib.hid hx
        have HRB := Lib.hid hrb
        clear hx hq hrb hll z0 z2
        by_cases hbk : Bok x.b
        · have hsz : (recs8 ls).length + x.b.length + 6 ≤ 65536 := by have := hbk.2; omega
          rw [(putj_ok hbk hsz).1, (putj_ok hbk hsz).2] at HP
          have HBK := Lib.hid hbk
          clear hle hmm hsz hbk
          go_wp2_with fail
          refine HP.out.mono ?_
          rintro e w3 ⟨rfl, hj3, hk3⟩
          have HJ3 := Lib.hid (hj3.new ((Chg.refl (fun _ => False) w3).alloc (.cells #[.slice x.BA x.bq x.bc] 35)))
          have hrow := (own_keep HOWN.out hk3).alloc (.cells #[.slice x.BA x.bq x.bc] 35)
          have hbase : W.heap.size ≤ (w3.alloc (.cells #[.slice x.BA x.bq x.bc] 35)).heap.size := HJ3.out.was.size
          obtain ⟨-, y1, -⟩ := (HL.out.chg hj3.was (S' := fun _ => False) (fun _ _ => id)).at HX.out
          clear z1 hj3 hk3 HP
          by_cases hsy : (k : Int) < sy
          · go_wp2_with (at_builtin; refine wpList_own_append _ rfl (.tmp 64) (.tmp 70) 31 rfl W.heap.size 35 i0 (.slice none 0 0) 24 Try.underlying31 hi0 hz0 hz1 hz2 rfl (.slice D mm c') mm vs rfl hrow _ (some ⟨w3.heap.size, 0, none⟩) 1 1 [.slice x.BA x.bq x.bc] rfl (rds_alloc w3 35 #[.slice x.BA x.bq x.bc] (0, 0)) (by simp [Value.oneCell']) (by unfold maxLen; omega) (by omega) hbase ?_; intro v5 w5 hown5 hg5 hat5; obtain ⟨D5, c5, rfl, _, _⟩ := own_form hown5; have HJ5 := Lib.hid (ja_row HJ3.out hrow hg5); have HO5 := Lib.hid hown5; have HB5 := Lib.hid (bl_arg HBL.out HQ.out HRB.out); clear hown5 hg5 hat5 hrow y1)
            have HSY := Lib.hid (jk_sync HJ5.out)
            refine HSY.out.mono ?_
            rintro e w6 ⟨rfl, hj6, hk6⟩
            have HJ6 := Lib.hid hj6
            have HO6 := Lib.hid (own_keep HO5.out hk6)
            clear hj6 hk6 HSY
            go_wp2_with fail
            go_roundg (m - (k + 1))
            case measure => omega
            case rel =>
              have h1 := HLS.out.1
              refine ⟨k + 1, mm + 1, mm + 1, c5, ls ++ [x.b], D5, _, rfl, by omega, by omega, Nat.le_refl _, by go_num, by go_num, rfl, ⟨by rw [List.length_append, h1]; rfl, fun z hz => ?_⟩, HO6, HB5, ?_⟩
              · rcases List.mem_append.1 hz with h | h
                · exact HLS.out.2 z h
                · simp only [List.mem_singleton] at h
                  subst h
                  exact HBK.out
              · rw [List.take_of_length_le (by rw [List.length_append, h1]; exact Nat.le_refl _)]
                exact HJ6
          · go_wp2_with (at_builtin; refine wpList_own_append _ rfl (.tmp 64) (.tmp 70) 31 rfl W.heap.size 35 i0 (.slice none 0 0) 24 Try.underlying31 hi0 hz0 hz1 hz2 rfl (.slice D mm c') mm vs rfl hrow _ (some ⟨w3.heap.size, 0, none⟩) 1 1 [.slice x.BA x.bq x.bc] rfl (rds_alloc w3 35 #[.slice x.BA x.bq x.bc] (0, 0)) (by simp [Value.oneCell']) (by unfold maxLen; omega) (by omega) hbase ?_; intro v5 w5 hown5 hg5 hat5; obtain ⟨D5, c5, rfl, _, _⟩ := own_form hown5; have HJ5 := Lib.hid (ja_row HJ3.out hrow hg5); have HO5 := Lib.hid hown5; have HB5 := Lib.hid (bl_arg HBL.out HQ.out HRB.out); clear hown5 hg5 hat5 hrow y1)
            go_roundg (m - (k + 1))
            case measure => omega
            case rel =>
              have h1 := HLS.out.1
              refine ⟨k + 1, nn, mm + 1, c5, ls ++ [x.b], D5, _, rfl, by omega, by omega, by omega, by go_num, rfl, rfl, ⟨by rw [List.length_append, h1]; rfl, fun z hz => ?_⟩, HO5, HB5, ?_⟩
              · rcases List.mem_append.1 hz with h | h
                · exact HLS.out.2 z h
                · simp only [List.mem_singleton] at h
                  subst h
                  exact HBK.out
              · rw [List.take_append_of_le_length (by omega)]
                exact HJ5
        · rw [(putj_no hbk).1, (putj_no hbk).2] at HP
          clear hle hmm hbk
          go_wp2_with fail
          refine HP.out.mono ?_
          rintro e w3 ⟨rfl, hj3, hk3⟩
          have HJ3 := Lib.hid hj3
          have HO3 := Lib.hid (own_keep HOWN.out hk3)
          clear hj3 hk3 HP z1
          go_wp2_with fail
          go_roundg (m - (k + 1))
          case measure => omega
          case rel => exact ⟨k + 1, nn, mm, c', ls, D, vs, rfl, by omega, by omega, hnm, by go_num, rfl, rfl, HLS, HO3, HBL, HJ3⟩
      · have h1 := HLS.out.1
        have hokl := HLS.out.2
        have hle := recs_len_le ls hokl
        have htl := recs_take_le ls nn
        have hcap := (own_cap HOWN.out).1
        have hda := HJ.out.1
        have HCR := Lib.hid (dk_crash hda keep htl (by omega) (by decide))
        have hN1 : (recs8 (ls.take nn)).length ≤ crN (recs8 ls) (recs8 (ls.take nn)).length keep := Nat.le_add_right _ _
        have hN3 : keep ≤ 0 → crN (recs8 ls) (recs8 (ls.take nn)).length keep = (recs8 (ls.take nn)).length := fun h => by unfold crN; omega
        have hlen : ((recs8 ls).take (crN (recs8 ls) (recs8 (ls.take nn)).length keep)).length ≤ 65536 := by rw [List.length_take]; omega
        generalize crN (recs8 ls) (recs8 (ls.take nn)).length keep = N at *
        have hsc := keep_scan ls N hokl
        have hK1 := keep_le ls N
        have hK2 := keep_ge ls N nn (by omega) hN1
        have hK3 : keep ≤ 0 → keep8 ls N = nn := fun h => by rw [hN3 h]; exact keep_eq ls nn (by omega)
        generalize keep8 ls N = K at *
        have hKm : K ≤ mm := by omega
        have HM := Lib.hid h1
        have HSC := Lib.hid hsc
        have HK3 := Lib.hid hK3
        have HLEN := Lib.hid hlen
        have hscl : (scan8 ((recs8 ls).take N)).length = K := by rw [hsc, List.length_take]; omega
        have HSCL := Lib.hid hscl
        clear hle htl hda hN1 hN3 hsc hK1 hK3 hokl h1 hlen hscl HLS HS HL
        go_wp2_with fail
        refine HCR.out.mono ?_
        rintro e w3 ⟨rfl, hd3, hk3⟩
        have HO3 := Lib.hid (own_keep HOWN.out hk3)
        have HOP := Lib.hid (dk_open hd3 HLEN.out (by decide))
        clear hd3 hk3 HCR HOWN
        go_wp2_with fail
        refine HOP.out.mono ?_
        rintro e w4 ⟨⟨j2, A4, m4, c4, rfl, hm4, hl4, hj4⟩, hk4⟩
        rw [HSCL.out] at hm4
        subst hm4
        rw [HSC.out] at hl4
        have HO4 := Lib.hid (own_keep HO3.out hk4)
        have HX4 := Lib.hid hj4.was
        have HG4 := Lib.hid hl4
        have HP4 : Hid (LL w4 (fun _ => True) D m4 (ls.take m4)) := Lib.hid (LL.take ⟨vs, HM.out, (own_rds HO4.out).mono (fun _ _ => trivial), (HBL.out.chg hj4.was (fun _ _ => id)).mono (fun _ _ => trivial)⟩ m4 hKm)
        have HSA := Lib.hid (same8_eq A4 D m4 c4 c' (ls.take m4) _ _ w4 HG4.out HP4.out (by omega))
        have n1 : ¬ (m4 : Int) < (nn : Int) := by omega
        have n2 : ¬ (mm : Int) < (m4 : Int) := by omega
        have hmc' : m4 ≤ c' := by omega
        clear hl4 hj4 hk4 HOP HO3
        go_wp2_with fail
        refine HSA.out.mono ?_
        rintro e w5 ⟨rfl, hc5⟩
        have HX5 := Lib.hid (HX4.out.trans hc5 (fun _ _ e => e))
        clear hc5 HSA HP4 HG4 HX4 HO4 n1 n2
        by_cases hkp : 0 < keep
        · go_wp2_with fail
          refine (HAL.out _).mono ?_
          rintro e w6 ⟨rfl, hc6⟩
          go_wp2_with fail
          go_ret
          exact ⟨rfl, HX5.out.trans hc6 (fun _ _ e => e)⟩
        · have hKn : m4 = nn := HK3.out (by omega)
          subst hKn
          go_wp2_with fail
          refine (HAL.out _).mono ?_
          rintro e w6 ⟨rfl, hc6⟩
          go_wp2_with fail
          go_ret
          exact ⟨by simp, HX5.out.trans hc6 (fun _ _ e => e)⟩

end Go.Proofs.Ythljmebhbjeeiaa
