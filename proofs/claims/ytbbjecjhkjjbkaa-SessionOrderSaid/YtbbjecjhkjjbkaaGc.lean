/-
  A session in memory. Walks: session.Session's numbered (as an iterator), Len, Peer, each on nil. Conditions: the session lies in memory, its queue has at most 64 bodies, of at most 1000 bytes.
-/
import Derived.Test.YtbbjecjhkjjbkaaGb
import Derived.Test.YtbbjecjhkjjbkaaWc
namespace Go.Proofs.Ytbbjecjhkjjbkaa
open Go.RowKit
set_option linter.unusedVariables false
attribute [local go_sem] Oper.semAt_some

theorem infoSl11 : (Try.prog.info? 22).map (fun i => (i.zero, i.size, i.bytes)) = some (some (.slice none 0 0), 1, 24) := by kernel_rfl
/-- Slices as cells: each one reads as its bytes, in blocks of S. -/
def BQ (w : World) (S : Nat → Prop) (vs : List Value) (ls : List (List UInt8)) : Prop :=
  vs.length = ls.length ∧ ∀ (i : Nat) (l : List UInt8), ls[i]? = some l → ∃ A c, vs[i]? = some (.slice A l.length c) ∧ (A = none → c = 0) ∧ Rds w S A l.length (bcs l)
section
variable {w w' : World} {S S' : Nat → Prop} {vs : List Value} {ls : List (List UInt8)}
theorem BQ.nil (w : World) (S : Nat → Prop) : BQ w S [] [] := ⟨rfl, fun i l h => by simp at h⟩
theorem BQ.mono (h : BQ w S vs ls) (hs : ∀ k, S k → S' k) : BQ w S' vs ls :=
  ⟨h.1, fun i l hl => by obtain ⟨A, c, h1, h0, h2⟩ := h.2 i l hl; exact ⟨A, c, h1, h0, h2.mono hs⟩⟩
theorem BQ.chg (h : BQ w S vs ls) (hc : Chg S' w w') (hd : ∀ k, S k → ¬ S' k) : BQ w' S vs ls :=
  ⟨h.1, fun i l hl => by obtain ⟨A, c, h1, h0, h2⟩ := h.2 i l hl; exact ⟨A, c, h1, h0, h2.chg hc hd⟩⟩
theorem BQ.old (h : BQ w S vs ls) : BQ w (fun k => S k ∧ k < w.heap.size) vs ls :=
  ⟨h.1, fun i l hl => by obtain ⟨A, c, h1, h0, h2⟩ := h.2 i l hl; exact ⟨A, c, h1, h0, h2.old⟩⟩
theorem BQ.snoc (h : BQ w S vs ls) {A : Option Addr} {l : List UInt8} {n c : Nat} (hn : n = l.length) (hz : A = none → c = 0) (hr : Rds w S A n (bcs l)) : BQ w S (vs ++ [.slice A n c]) (ls ++ [l]) := by
  subst hn
  have h1 := h.1
  refine ⟨by simp [h1], fun i x hx => ?_⟩
  by_cases hi : i < ls.length
  · rw [List.getElem?_append_left hi] at hx
    obtain ⟨A', c', h2, h0, h3⟩ := h.2 i x hx
    exact ⟨A', c', by rw [List.getElem?_append_left (by omega)]; exact h2, h0, h3⟩
  · have hi2 : i < (ls ++ [l]).length := (List.getElem?_eq_some_iff.1 hx).1
    rw [List.length_append, List.length_singleton] at hi2
    have hij : i = ls.length := by omega
    subst hij
    rw [List.getElem?_append_right (Nat.le_refl _), Nat.sub_self, List.getElem?_cons_zero, Option.some.injEq] at hx
    subst hx
    exact ⟨A, c, by rw [List.getElem?_append_right (by omega), h1, Nat.sub_self]; rfl, hz, hr⟩
theorem BQ.drop (h : BQ w S vs ls) (k : Nat) : BQ w S (vs.drop k) (ls.drop k) := by
  refine ⟨by rw [List.length_drop, List.length_drop, h.1], fun i l hl => ?_⟩
  rw [List.getElem?_drop] at hl
  obtain ⟨A, c, h1, h2⟩ := h.2 _ l hl
  exact ⟨A, c, by rw [List.getElem?_drop]; exact h1, h2⟩
end

/-- A session: its boot, the other's, the number of its first body, of the last one that was handed out, the queue. -/
structure SV where
  mi : Int
  pe : Int
  nx : Int
  go : Int
  q : List (List UInt8)
/-- A session's bodies may be; its numbers are small. -/
structure SOk (x : SV) : Prop where
  len : x.q.length ≤ 64
  bod : ∀ b ∈ x.q, 1 ≤ b.length ∧ b.length ≤ 1000
  nx0 : 0 ≤ x.nx ∧ x.nx ≤ 1000000000000000
  go0 : 0 ≤ x.go ∧ x.go ≤ 1099511627776
/-- A session's cells. -/
def snC (mi pe : Int) (A : Option Addr) (m c : Nat) (nx go : Int) : Array Value := #[.int .i64 mi, .int .i64 pe, .slice A m c, .int .i64 nx, .int .i64 go]
/-- Block p is a session; its queue's row lies at o, the bodies in blocks of G. -/
def SN (w : World) (p : Nat) (o : Option Nat) (G : Nat → Prop) (x : SV) : Prop :=
  ∃ A c vs, Blk w p 92 (snC x.mi x.pe A x.q.length c x.nx x.go) ∧ w.ownsRow 0 22 1 (.slice A x.q.length c) x.q.length vs ∧ A.map (·.block) = o ∧ o ≠ some p ∧ BQ w G vs x.q ∧ ¬ G p ∧ ∀ k, o = some k → ¬ G k
theorem sn_cells {w : World} {p : Nat} {mi pe nx go : Int} {A : Option Addr} {m c : Nat} {T : TypeId} (h : Blk w p T (snC mi pe A m c nx go)) :
    w.cell? ⟨p, 0, none⟩ = some (.int .i64 mi) ∧ w.cell? ⟨p, 1, none⟩ = some (.int .i64 pe) ∧ w.cell? ⟨p, 2, none⟩ = some (.slice A m c) ∧ w.cell? ⟨p, 3, none⟩ = some (.int .i64 nx) ∧ w.cell? ⟨p, 4, none⟩ = some (.int .i64 go) := by
  have h0 := h.cell 0
  have h1 := h.cell 1
  have h2 := h.cell 2
  have h3 := h.cell 3
  have h4 := h.cell 4
  simp only [snC, List.getElem?_toArray, List.getElem?_cons_zero, List.getElem?_cons_succ] at h0 h1 h2 h3 h4
  exact ⟨h0, h1, h2, h3, h4⟩
theorem SN.lt {w : World} {p : Nat} {o : Option Nat} {G : Nat → Prop} {x : SV} (h : SN w p o G x) : p < w.heap.size ∧ ∀ k, o = some k → k < w.heap.size := by
  obtain ⟨A, c, vs, hb, hown, ho, _⟩ := h
  refine ⟨hb.lt, fun k hk => ?_⟩
  rw [hk] at ho
  have := hown.lt k (by rw [own_block]; exact ho)
  exact this.2
theorem SN.chg {S : Nat → Prop} {w w' : World} {p : Nat} {o : Option Nat} {G : Nat → Prop} {x : SV} (h : SN w p o G x) (hc : Chg S w w') (hp : ¬ S p) (ho : ∀ k, o = some k → ¬ S k) (hG : ∀ k, G k → ¬ S k) : SN w' p o G x := by
  obtain ⟨A, c, vs, hb, hown, h1, h2, h3, h4, h5⟩ := h
  exact ⟨A, c, vs, hb.chg hc hp, own_chg hown hc (fun k hk => ho k (by rw [← h1]; exact hk)), h1, h2, h3.chg hc hG, h4, h5⟩
theorem SN.new {w w' : World} {p : Nat} {o : Option Nat} {G : Nat → Prop} {x : SV} (h : SN w p o G x) (hc : Chg (fun _ => False) w w') : SN w' p o G x := h.chg hc id (fun _ _ => id) (fun _ _ => id)
theorem SN.mono {w : World} {p : Nat} {o : Option Nat} {G G' : Nat → Prop} {x : SV} (h : SN w p o G x) (hG : ∀ k, G k → k < w.heap.size → G' k) (hp : ¬ G' p) (ho : ∀ k, o = some k → ¬ G' k) : SN w p o G' x := by
  obtain ⟨A, c, vs, hb, hown, h1, h2, h3, h4, h5⟩ := h
  exact ⟨A, c, vs, hb, hown, h1, h2, h3.old.mono (fun k hk => hG k hk.1 hk.2), hp, ho⟩

set_option maxRecDepth 100000 in
set_option maxHeartbeats 400000 in
theorem slen_any (p : Nat) (o : Option Nat) (G : Nat → Prop) (x : SV) (w : World) (h : SN w p o G x) : Calls Try.prog 18 #[.pointer (some ⟨p, 0, none⟩)] w fun e w' => e = .returned (.int .i64 (x.q.length : Int)) ∧ w = w' := by
  obtain ⟨A, c, vs, hb, _⟩ := h
  generalize hm : x.q.length = m at *
  obtain ⟨c0, c1, c2, c3, c4⟩ := sn_cells hb
  clear hb hm
  go_enter Try.func18, Try.ntmps18
  go_wp2
  go_ret
  exact ⟨rfl, rfl⟩
set_option maxRecDepth 100000 in
set_option maxHeartbeats 400000 in
theorem slen_nil (w : World) : Calls Try.prog 18 #[.pointer none] w fun e w' => e = .returned (.int .i64 0) ∧ w = w' := by
  go_enter Try.func18, Try.ntmps18
  go_wp2
  go_ret
  exact ⟨rfl, rfl⟩
set_option maxRecDepth 100000 in
set_option maxHeartbeats 400000 in
theorem speer_any (p : Nat) (o : Option Nat) (G : Nat → Prop) (x : SV) (w : World) (h : SN w p o G x) : Calls Try.prog 19 #[.pointer (some ⟨p, 0, none⟩)] w fun e w' => e = .returned (.int .i64 x.pe) ∧ w = w' := by
  obtain ⟨A, c, vs, hb, _⟩ := h
  generalize hm : x.q.length = m at *
  obtain ⟨c0, c1, c2, c3, c4⟩ := sn_cells hb
  clear hb hm
  go_enter Try.func19, Try.ntmps19
  go_wp2
  go_ret
  exact ⟨rfl, rfl⟩
set_option maxRecDepth 100000 in
set_option maxHeartbeats 400000 in
theorem speer_nil (w : World) : Calls Try.prog 19 #[.pointer none] w fun e w' => e = .returned (.int .i64 0) ∧ w = w' := by
  go_enter Try.func19, Try.ntmps19
  go_wp2
  go_ret
  exact ⟨rfl, rfl⟩

theorem finR_take (m : Nat) (k : Nat) (hk : k < m) : (List.finRange m).take k ++ [⟨k, hk⟩] = (List.finRange m).take (k + 1) := by
  have hl : k < (List.finRange m).length := by simpa using hk
  rw [List.take_succ_eq_append_getElem hl]
  simp
set_option maxRecDepth 100000 in
set_option maxHeartbeats 2000000 in
theorem numbered_iter (n p n₀ m c : Nat) (A : Option Addr) (nx : Int) (vs : List Value) (W0 : World) (hm : m ≤ 64) (hnx : 0 ≤ nx ∧ nx ≤ 1000000000000000) (hp : p < n₀)
    (z2 : W0.cell? ⟨p, 2, none⟩ = some (.slice A m c)) (z3 : W0.cell? ⟨p, 3, none⟩ = some (.int .i64 nx)) (hr : Rds W0 (fun k => k < n₀) A m vs) :
    Iter11 n Try.prog 46 #[.pointer (some ⟨p, 0, none⟩)] n₀ (fun i : Fin m => #[.int .i64 (nx + (i.1 : Int)), vs[i.1]?.getD undef]) (List.finRange m) W0 := by
  intro l J Jx hY h0
  have HR := Lib.hid hr
  have HZ3 := Lib.hid z3
  have hlen : vs.length = m := hr.1
  clear hr z3
  refine callsIn_of_wp Try.func46 rfl trivial ?_ rfl
  simp only [Try.ntmps46, List.size_toArray, List.length_cons, List.length_nil, Nat.reduceAdd, Nat.reduceSub, Array.replicate_succ, Array.replicate_zero, List.push_toArray, List.append_toArray, List.nil_append, List.cons_append]
  gi_wp2
  gi_loopw [11] (fun i wr => ∃ k : Nat, i = .int .i64 (k : Int) ∧ k ≤ m ∧ Hid (J ((List.finRange m).take k) wr) ∧ Hid (Below n₀ W0 wr)) (fun i wr => m - (intOf i).toNat)
  case atStart => exact ⟨0, rfl, Nat.zero_le _, h0, Below.refl _ _⟩
  case round =>
    obtain ⟨k, rfl, hk, HJ, HB⟩ := hrel
    by_cases hlt : k < m
    · obtain ⟨ad, rfl, hs, hb, hc⟩ := HR.out.cellAt hlt
      have hc2 : wr.cell? (ad.add k) = some (vs[k]?.getD undef) := by
        rw [(HB.out.cell (p := ad.add k) (by rw [block_add]; exact hs)), hc, List.getElem?_eq_getElem (by omega)]
        rfl
      have z3 : wr.cell? ⟨p, 3, none⟩ = some (.int .i64 nx) := (HB.out.cell (p := ⟨p, 3, none⟩) hp).trans HZ3.out
      obtain ⟨fn, tmps, assign, body, hy, hR⟩ := hY ((List.finRange m).take k) ⟨k, hlt⟩ wr HJ.out (by simp; omega)
      generalize vs[k]?.getD undef = v at *
      have HRR := Lib.hid hR
      clear hR hc hs hb z2 hY
      have hw1 : IntKind.i64.wrap (nx + (k : Int)) = nx + (k : Int) := IntWalk.i64_in _ (by omega)
      gi_wp2
      refine ⟨fun h => by simp [Fence.wide] at h, HRR.out.mono ?_⟩
      rintro e W3 (⟨rfl, hJ3, hk3⟩ | ⟨rfl, hJx3⟩)
      · rw [finR_take] at hJ3
        have HJ3 := Lib.hid hJ3
        have HB3 := Lib.hid (HB.out.trans hk3)
        clear hJ3 hk3
        gi_wp2
        go_roundw
        case rel => exact ⟨k + 1, by go_num, by omega, HJ3, HB3⟩
        case measure => simp [intOf]; omega
      · rw [finR_take] at hJx3
        have HJ3 := Lib.hid hJx3
        clear hJx3
        gi_wp2
        refine bodyPost_ret (results_none rfl _ _ _) rfl ?_
        exact ⟨⟨_, rfl⟩, .inr ⟨_, List.take_prefix _ _, HJ3.out⟩⟩
    · obtain rfl : k = m := by omega
      gi_wp2
      go_end0
      refine ⟨⟨_, rfl⟩, .inl ?_⟩
      have := HJ.out
      rwa [List.take_of_length_le (by simp)] at this

end Go.Proofs.Ytbbjecjhkjjbkaa
