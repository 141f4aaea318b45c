/-
  Walks: slices.Delete of one item, (*net.Net).Take, Double, At, each on nil too. Conditions: the net lies in memory, its room is at most 4096.
-/
import Derived.Test.YthajmplheecepaaSg
import Derived.Deep.Upon
import Derived.Deep.MidRow
import Derived.Deep.RegionLaw
import Derived.Lib.Walk
import Derived.Lib.SmallJoins
namespace Go.Proofs.Ythajmplheecepaa
open Go.RowKit
set_option linter.unusedVariables false
set_option linter.unusedSimpArgs false
attribute [local go_sem] Oper.semAt_some

theorem zeroIt18 (w : World) : (zeroValue 40).run Try.prog w = .ok (.agg #[.int .i64 0, .int .i64 0, .slice none 0 0]) w := Try.zeroValue40 w
def zi18 : List Value := [.int .i64 0, .int .i64 0, .slice none 0 0]
theorem run_clear18 (w : World) (ty : TypeId) (g o c : Nat) (hc : ∀ j, j < 3 → (w.cell? ⟨g, o + j, none⟩).isSome = true) (hf : ∀ j, j < 3 → w.frozen? ⟨g, o + j, none⟩ = false) :
    (Builtin.clear_ #[34] ty #[.slice (some ⟨g, o, none⟩) 1 c]).run Try.prog w = .ok (.tuple #[]) (w.setCells g o zi18) := by
  have hst := run_storeCells_cells (P := Try.prog) g o zi18 0 w (by simpa [zi18] using hc) (by simpa [zi18] using hf) (by simp [zi18, Value.oneCell'])
  simp only [Nat.add_zero] at hst
  have e : (Builtin.zeroCells #[.int .i64 0, .int .i64 0, .slice none 0 0] 1).toList = zi18 := by kernel_rfl
  simp [Builtin.clear_, run_underlying Try.underlying34, zeroIt18, Value.cells, e, hst]
theorem blk_setCells18 {t : TypeId} {g : Nat} : ∀ (vs : List Value) (o : Nat) (w : World) (cs : Array Value), Blk w g t cs → ∃ cs', Blk (w.setCells g o vs) g t cs' ∧ cs'.size = cs.size
  | [], _, _, cs, h => ⟨cs, h, rfl⟩
  | v :: r, o, w, cs, h => by
    obtain ⟨cs', h1, h2⟩ := blk_setCells18 r (o + 1) _ _ (h.set o v)
    exact ⟨cs', h1, by rw [h2]; simp⟩
theorem chg_setCells18 {g : Nat} {a : World} {S : Nat → Prop} (hg : S g) : ∀ (vs : List Value) (o : Nat) (w : World), Chg S a w → Chg S a (w.setCells g o vs)
  | [], _, _, h => h
  | v :: r, o, w, h => chg_setCells18 hg r (o + 1) _ (h.put g o (fun _ => hg) v)
/-- A row of which the i-th item goes. -/
theorem own_gone18 {w w1 : World} {g m c i B : Nat} {cur : Array Value} {l : List IC18} (hb : Blk w g 40 cur) (hB : B ≤ g) (hc : cur.size = c * 3) (hm : m ≤ c) (hmx : c ≤ maxLen) (hi : i < m) (hv : cur.toList.take (m * 3) = icF l) (hl : l.length = m)
    (h1 : w1 = (w.setCells g (i * 3) (icF (l.drop (i + 1)))).setCells g ((m - 1) * 3) zi18) : w1.ownsRow B 40 3 (.slice (some ⟨g, 0, none⟩) (m - 1) c) (m - 1) (icF (l.take i ++ l.drop (i + 1))) := by
  subst h1
  have hll : (l.take i ++ l.drop (i + 1)).length = m - 1 := by simp [hl]; omega
  have hdl : (icF (l.drop (i + 1))).length = (m - 1 - i) * 3 := by rw [icF_len, List.length_drop]; congr 1; omega
  have htl : (icF (l.take i)).length = i * 3 := by rw [icF_len, List.length_take]; congr 1; omega
  obtain ⟨cs1, hb1, hs1⟩ := blk_setCells18 (icF (l.drop (i + 1))) (i * 3) w cur hb
  obtain ⟨cs2, hb2, hs2⟩ := blk_setCells18 zi18 ((m - 1) * 3) _ cs1 hb1
  refine ⟨by rw [icF_len, hll], .inr ⟨g, c, cs2, rfl, hB, hb2, by omega, hmx, by omega, ?_⟩⟩
  refine List.ext_getElem? (fun j => ?_)
  rw [List.getElem?_take]
  by_cases hj : j < (m - 1) * 3
  · rw [if_pos hj, Array.getElem?_toList, ← hb2.cell j, World.cell?_setCells_out g _ _ _ ⟨g, j, none⟩ (fun _ _ => .inl hj), icF_app]
    by_cases hj2 : j < i * 3
    · rw [World.cell?_setCells_out g _ _ _ ⟨g, j, none⟩ (fun _ _ => .inl hj2), List.getElem?_append_left (by omega), icF_take, List.getElem?_take, if_pos hj2, ← hv, List.getElem?_take, if_pos (by omega), hb.cell, Array.getElem?_toList]
    · have h := World.cell?_setCells_in g (icF (l.drop (i + 1))) (i * 3) w (fun t ht => by
        rw [hdl] at ht
        rw [hb.cell, Array.getElem?_eq_getElem (by omega)]
        rfl) (j - i * 3) (by omega)
      rw [show i * 3 + (j - i * 3) = j from by omega] at h
      rw [h, List.getElem?_append_right (by omega), htl, List.getElem?_eq_getElem]
  · rw [if_neg hj, List.getElem?_eq_none (by rw [icF_len, hll]; omega)]
/-- What Delete leaves. -/
def DelP18 (b : Nat) (L : Option Addr) (m c i : Nat) (l : List IC18) (w : World) (e : Ending) (w' : World) : Prop :=
  e = .returned (.slice L (m - 1) c) ∧ w'.ownsRow b 40 3 (.slice L (m - 1) c) (m - 1) (icF (l.take i ++ l.drop (i + 1))) ∧ Chg (fun j => L.map (·.block) = some j) w w'
set_option maxRecDepth 100000 in
set_option maxHeartbeats 4000000 in
theorem delete18 {w : World} {b m c i : Nat} {L : Option Addr} {l : List IC18} (h : w.ownsRow b 40 3 (.slice L m c) m (icF l)) (hi : i < m) : Calls Try.prog 27 #[.slice L m c, .int .i64 (i : Int), .int .i64 ((i : Int) + 1)] w (DelP18 b L m c i l w) := by
  obtain ⟨i0, hi0, hz0, hz1, hz2⟩ := info_parts infoIt18
  have hll : l.length = m := by have := h.1; rw [icF_len] at this; omega
  obtain ⟨g, cur, rfl, hB, hb, hm, hmx, hc, hv⟩ : ∃ g cur, L = some ⟨g, 0, none⟩ ∧ b ≤ g ∧ Blk w g 40 cur ∧ m ≤ c ∧ c ≤ maxLen ∧ cur.size = c * 3 ∧ cur.toList.take (m * 3) = icF l := by
    rcases h.2 with ⟨hv, rfl⟩ | ⟨g, cap, cur, hv, h1, hh, h2, h3, h4, h5⟩
    · omega
    · injection hv with hA hn hc
      subst hA hc
      exact ⟨g, cur, rfl, h1, hh, h2, h3, h4, h5⟩
  have hcm : c ≤ 9223372036854775807 := hmx
  have hdl : (icF (l.drop (i + 1))).length = (m - (i + 1)) * 3 := by rw [icF_len, List.length_drop]; congr 1; omega
  obtain ⟨A, hA, hsrc⟩ : ∃ A : Addr, (if c = i + 1 then (some ⟨g, 0, none⟩ : Option Addr) else some ⟨g, (i + 1) * 3, none⟩) = some A ∧ Hid (∀ t u, (icF (l.drop (i + 1)))[t]? = some u → w.drew.cell? (A.add t) = some u) := by
    by_cases hci : c = i + 1
    · refine ⟨⟨g, 0, none⟩, by simp [hci], fun t u hu => ?_⟩
      have h0 : (icF (l.drop (i + 1))).length = 0 := by rw [hdl]; omega
      rw [List.length_eq_zero_iff.1 h0] at hu
      simp at hu
    · refine ⟨⟨g, (i + 1) * 3, none⟩, by simp [hci], fun t u hu => ?_⟩
      have ht : t < (m - (i + 1)) * 3 := by rw [← hdl]; exact (List.getElem?_eq_some_iff.1 hu).1
      have e : (⟨g, (i + 1) * 3, none⟩ : Addr).add t = ⟨g, (i + 1) * 3 + t, none⟩ := by unfold Addr.add; split <;> simp_all
      rw [e]
      show w.cell? _ = _
      rw [hb.cell, ← hu, icF_drop, List.getElem?_drop, ← hv, List.getElem?_take, if_pos (by omega), Array.getElem?_toList]
  have S1 := Lib.hid hdl
  have S2 := Lib.hid (icF_one (l.drop (i + 1)))
  have S3 := Lib.hid (show ∀ t, t < (icF (l.drop (i + 1))).length → (w.drew.cell? ⟨g, 0 + i * 3 + t, none⟩).isSome = true ∧ w.drew.frozen? ⟨g, 0 + i * 3 + t, none⟩ = false from fun t ht => by
    rw [hdl] at ht
    refine ⟨?_, hb.frozen _⟩
    show (w.cell? _).isSome = true
    rw [hb.cell, Array.getElem?_eq_getElem (by omega)]
    rfl)
  obtain ⟨W1, hW1⟩ : ∃ W1, W1 = w.drew.setCells g (i * 3) (icF (l.drop (i + 1))) := ⟨_, rfl⟩
  obtain ⟨cs1, hb1, hs1⟩ := blk_setCells18 (icF (l.drop (i + 1))) (i * 3) w.drew cur hb
  rw [← hW1] at hb1
  have hcl : ∀ ty k, (Builtin.clear_ #[34] ty #[.slice (some ⟨g, (m - 1) * 3, none⟩) 1 k]).run Try.prog W1 = .ok (.tuple #[]) (W1.setCells g ((m - 1) * 3) zi18) :=
    fun ty k => run_clear18 W1 ty g ((m - 1) * 3) k (fun t ht => by rw [hb1.cell, Array.getElem?_eq_getElem (by omega)]; rfl) (fun t ht => hb1.frozen _)
  have HOWN := Lib.hid (own_gone18 (w := w.drew) (B := b) hb hB hc hm hmx hi hv hll rfl)
  have HW := Lib.hid hW1
  have hci : i + 1 ≤ c := by omega
  have hmi : i + 1 ≤ m := by omega
  have hm1 : i + (m - (i + 1)) = m - 1 := by omega
  have hsub : m - (m - 1) = 1 := by omega
  have hcast : (i : Int) + 1 = ((i + 1 : Nat) : Int) := by omega
  have hne : ((i : Int) == ((i + 1 : Nat) : Int)) = false := by simp; omega
  have hmc : m - 1 < c := by omega
  have hmm : m - 1 ≤ m := by omega
  rw [hcast]
  clear hb hv hll hb1 hs1 hW1 hc h hdl hcast
  generalize hgi : i + 1 = i1 at *
  have HI := Lib.hid hgi
  have hi1 : i ≤ i1 ∧ i ≤ c := by omega
  clear hgi
  go_enter Try.func27, Try.ntmps27
  go_wp2_with fail
  go_region_law (refine step_append_room rfl (.tmp 22) (.tmp 25) 34 rfl 40 i0 3 Try.underlying34 hi0 hz1 g 0 i c (by simp [Act.eval, Act.put]) A (m - i1) (c - i1) (icF (l.drop i1)) (by simp [Act.eval, Act.put]) S1.out hsrc.out S2.out (by omega) S3.out ?_; rw [show 0 + i * 3 = i * 3 from by omega, ← HW.out, hm1])
  go_wp2_with fail
  go_ret
  refine ⟨by simp, ?_, ?_⟩
  · rw [HW.out, HI.out]
    exact HOWN.out
  · rw [HW.out]
    exact chg_setCells18 (S := fun j => (some (⟨g, 0, none⟩ : Addr)).map (·.block) = some j) rfl _ _ _ (chg_setCells18 (S := fun j => (some (⟨g, 0, none⟩ : Addr)).map (·.block) = some j) rfl _ _ _ (Chg.refl _ w).drew)

end Go.Proofs.Ythajmplheecepaa
