/-
  Walk: slices.Delete of the first bodies of a queue. Condition: the queue's row is the session's own.
-/
import Derived.Test.YtbbjecjhkjjbkaaGc
import Derived.Lib.SliceRun
import Derived.Deep.Upon
import Derived.Deep.MidRow
import Derived.Deep.RegionLaw
import Derived.Lib.Walk
namespace Go.Proofs.Ytbbjecjhkjjbkaa
open Go.RowKit
set_option linter.unusedVariables false

theorem blk_setCells {t : TypeId} {g : Nat} : ∀ (vs : List Value) (o : Nat) (w : World) (cs : Array Value), Blk w g t cs → ∃ cs', Blk (w.setCells g o vs) g t cs' ∧ cs'.size = cs.size
  | [], _, _, cs, h => ⟨cs, h, rfl⟩
  | v :: r, o, w, cs, h => by
    obtain ⟨cs', h1, h2⟩ := blk_setCells r (o + 1) _ _ (h.set o v)
    exact ⟨cs', h1, by rw [h2]; simp⟩
theorem chg_setCells {g : Nat} {a : World} {S : Nat → Prop} (hg : S g) : ∀ (vs : List Value) (o : Nat) (w : World), Chg S a w → Chg S a (w.setCells g o vs)
  | [], _, _, h => h
  | v :: r, o, w, h => chg_setCells hg r (o + 1) _ (h.put g o (fun _ => hg) v)
/-- A row of which the first k go, and the rest moves to its beginning. -/
theorem own_moved {w w1 : World} {g m c k B : Nat} {cur : Array Value} {vs : List Value} {z : Value} (hb : Blk w g 22 cur) (hB : B ≤ g) (hc : cur.size = c) (hm : m ≤ c) (hmx : c ≤ maxLen) (hk : k ≤ m) (hv : cur.toList.take m = vs) (hvl : vs.length = m)
    (h1 : w1 = (w.setCells g 0 (vs.drop k)).setCells g (m - k) (List.replicate k z)) : w1.ownsRow B 22 1 (.slice (some ⟨g, 0, none⟩) (m - k) c) (m - k) (vs.drop k) := by
  subst h1
  obtain ⟨cs1, hb1, hs1⟩ := blk_setCells (vs.drop k) 0 w cur hb
  obtain ⟨cs2, hb2, hs2⟩ := blk_setCells (List.replicate k z) (m - k) _ cs1 hb1
  refine ⟨by simp [hvl], .inr ⟨g, c, cs2, rfl, hB, hb2, by omega, hmx, by omega, ?_⟩⟩
  refine List.ext_getElem? (fun j => ?_)
  rw [Nat.mul_one, List.getElem?_take]
  by_cases hj : j < m - k
  · rw [if_pos hj, Array.getElem?_toList, ← hb2.cell j, World.cell?_setCells_out g _ _ _ ⟨g, j, none⟩ (fun _ _ => .inl hj)]
    have hl : j < (vs.drop k).length := by rw [List.length_drop]; omega
    have h := World.cell?_setCells_in g (vs.drop k) 0 w (fun i hi => by
      rw [List.length_drop] at hi
      rw [hb.cell, Array.getElem?_eq_getElem (by omega)]
      rfl) j hl
    rw [Nat.zero_add] at h
    rw [h, List.getElem?_eq_getElem hl]
  · rw [if_neg hj, List.getElem?_eq_none (by rw [List.length_drop]; omega)]

theorem zeroSl11 (w : World) : (zeroValue 22).run Try.prog w = .ok (.slice none 0 0) w := Try.zeroValue22 w
set_option maxRecDepth 100000 in
set_option maxHeartbeats 1000000 in
theorem delete_none (s : Option Addr) (m c : Nat) (w : World) (hm : m ≤ c) (hc : c ≤ maxLen) (hz : s = none → c = 0) : Calls Try.prog 54 #[.slice s m c, .int .i64 0, .int .i64 0] w fun e w' => e = .returned (.slice s m c) ∧ w = w' := by
  unfold maxLen at hc
  go_enter Try.func54, Try.ntmps54
  go_wp2
  all_goals
    go_ret
    exact ⟨rfl, rfl⟩
set_option maxRecDepth 100000 in
set_option maxHeartbeats 4000000 in
theorem delete_some (g m c k B : Nat) (cur : Array Value) (vs : List Value) (w : World) (hb : Blk w g 22 cur) (hB : B ≤ g) (hc : cur.size = c) (hm : m ≤ c) (hmx : c ≤ maxLen) (hk : k ≤ m) (hk1 : 1 ≤ k) (hv : cur.toList.take m = vs) (hvl : vs.length = m) (h1c : ∀ u ∈ vs, u.oneCell' = true) : Calls Try.prog 54 #[.slice (some ⟨g, 0, none⟩) m c, .int .i64 0, .int .i64 (k : Int)] w fun e w' => e = .returned (.slice (some ⟨g, 0, none⟩) (m - k) c) ∧ w'.ownsRow B 22 1 (.slice (some ⟨g, 0, none⟩) (m - k) c) (m - k) (vs.drop k) ∧ Chg (fun j => j = g) w w' := by
  obtain ⟨i0, hi0, hz0, hz1, hz2⟩ := info_parts infoSl11
  have hcm : c ≤ 9223372036854775807 := hmx
  obtain ⟨A, hA, hsrc⟩ : ∃ A : Addr, (if c = k then (some ⟨g, 0, none⟩ : Option Addr) else some ⟨g, k, none⟩) = some A ∧ Hid (∀ t u, (vs.drop k)[t]? = some u → w.drew.cell? (A.add t) = some u) := by
    by_cases h : c = k
    · refine ⟨⟨g, 0, none⟩, by simp [h], fun t u hu => ?_⟩
      have h0 : (vs.drop k).length = 0 := by rw [List.length_drop]; omega
      rw [List.length_eq_zero_iff.1 h0] at hu
      simp at hu
    · refine ⟨⟨g, k, none⟩, by simp [h], fun t u hu => ?_⟩
      have e : (⟨g, k, none⟩ : Addr).add t = ⟨g, k + t, none⟩ := by unfold Addr.add; split <;> simp_all
      rw [e]
      show w.cell? _ = _
      rw [hb.cell, ← hu, List.getElem?_drop, ← hv, List.getElem?_take, if_pos (by
        have := (List.getElem?_eq_some_iff.1 hu).1
        rw [List.length_drop] at this
        omega), Array.getElem?_toList]
  have S1 := Lib.hid (show (vs.drop k).length = (m - k) * 1 from by rw [List.length_drop]; omega)
  have S2 := Lib.hid (show ∀ u ∈ vs.drop k, u.oneCell' = true from fun u hu => h1c u (List.mem_of_mem_drop hu))
  have S3 := Lib.hid (show ∀ t, t < (vs.drop k).length → (w.drew.cell? ⟨g, 0 + 0 * 1 + t, none⟩).isSome = true ∧ w.drew.frozen? ⟨g, 0 + 0 * 1 + t, none⟩ = false from fun t ht => by
    rw [List.length_drop] at ht
    refine ⟨?_, hb.frozen _⟩
    show (w.cell? _).isSome = true
    rw [hb.cell, Array.getElem?_eq_getElem (by omega)]
    rfl)
  obtain ⟨W1, hW1⟩ : ∃ W1, W1 = w.drew.setCells g 0 (vs.drop k) := ⟨_, rfl⟩
  obtain ⟨cs1, hb1, hs1⟩ := blk_setCells (vs.drop k) 0 w.drew cur hb
  rw [← hW1] at hb1
  have hcl : ∀ ty, (Builtin.clear_ #[90] ty #[.slice (some ⟨g, m - k, none⟩) (m - (m - k)) (c - (m - k))]).run Try.prog W1 = .ok (.tuple #[]) (W1.setCells g (m - k) (List.replicate (m - (m - k)) (.slice none 0 0))) :=
    fun ty => Lib.run_clear_slice W1 _ _ ty _ Try.underlying90 zeroSl11 rfl rfl g (m - k) _ _ (by omega) (fun t ht => by rw [hb1.cell, Array.getElem?_eq_getElem (by omega)]; rfl) (fun t ht => hb1.frozen _)
  have HOWN := Lib.hid (fun z => own_moved (w := w.drew) (z := z) (B := B) hb hB hc hm hmx hk hv hvl rfl)
  have HW := Lib.hid hW1
  have hkc : k ≤ c := by omega
  have hmk : m - k < c := by omega
  have hmk2 : m - k ≤ m := by omega
  clear hb hv hvl h1c hb1 hs1 hW1 hc
  go_enter Try.func54, Try.ntmps54
  go_wp2_with fail
  go_region_law (refine step_append_room rfl (.tmp 22) (.tmp 25) 90 rfl 22 i0 1 Try.underlying90 hi0 hz1 g 0 0 c (by simp [Act.eval, Act.put]) A (m - k) (c - k) (vs.drop k) (by simp [Act.eval, Act.put]) S1.out hsrc.out S2.out (by omega) S3.out ?_; rw [show 0 + 0 * 1 = 0 from rfl, ← HW.out])
  go_wp2_with fail
  go_ret
  have e : m - (m - k) = k := by omega
  rw [e]
  refine ⟨by simp, ?_, ?_⟩
  · rw [HW.out]
    exact HOWN.out _
  · rw [HW.out]
    exact chg_setCells (S := fun j => j = g) rfl _ _ _ (chg_setCells (S := fun j => j = g) rfl _ _ _ (Chg.refl _ w).drew)
/-- What Delete leaves. -/
def DelP (w : World) (A : Option Addr) (m c k : Nat) (vs : List Value) (e : Ending) (w' : World) : Prop :=
  e = .returned (.slice A (m - k) c) ∧ w'.ownsRow 0 22 1 (.slice A (m - k) c) (m - k) (vs.drop k) ∧ Chg (fun j => A.map (·.block) = some j) w w'
theorem delete11 (A : Option Addr) (m c k : Nat) (vs : List Value) (w : World) (ho : w.ownsRow 0 22 1 (.slice A m c) m vs) (hk : k ≤ m) (h1c : ∀ u ∈ vs, u.oneCell' = true) : Calls Try.prog 54 #[.slice A m c, .int .i64 0, .int .i64 (k : Int)] w (DelP w A m c k vs) := by
  have hcap := own_cap ho
  have hnil := own_nil ho
  rcases Nat.eq_zero_or_pos k with h0 | h1
  · subst h0
    refine (delete_none A m c w hcap.1 hcap.2 hnil).mono ?_
    rintro e w' ⟨rfl, rfl⟩
    exact ⟨rfl, ho, Chg.refl _ _⟩
  · have hvl : vs.length = m := by have := ho.1; simpa using this
    rcases ho.2 with ⟨hv, hm⟩ | ⟨g, cap, cur, hv, _, hh, h2, h3, h4, h5⟩
    · omega
    · injection hv with hA hn hc
      subst hA
      subst hc
      rw [Nat.mul_one] at h4 h5
      refine (delete_some g m c k 0 cur vs w hh (Nat.zero_le _) h4 h2 h3 hk h1 h5 hvl h1c).mono ?_
      rintro e w' ⟨rfl, h6, h7⟩
      exact ⟨rfl, h6, h7.mono (fun j _ e => by subst e; rfl)⟩

end Go.Proofs.Ytbbjecjhkjjbkaa
