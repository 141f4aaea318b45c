/-
  Files that lie in memory: a block of a slice and two numbers. Walks: bytes.Clone, disk.New, (*disk.File).stay, Sync, Safe, Bytes. Conditions: the receiver is a file in memory, its bytes are bounded.
-/
import Derived.Test.YthajmplheecepaaRows
import Derived.Test.YthajmplheecepaaGen
import Derived.WalkKit
import Derived.WalkSpells
import Derived.WalkLawsBesides
import Derived.Lib.Hide
import Derived.Lib.SmallJoins
import Derived.RegionTactic
import Derived.ChangeAlike
import Derived.Deep.RegionHeld3
import Derived.Deep.RegionLaw
import Derived.Deep.RegionWith
import Derived.Deep.LoopGhost
import Derived.Deep.DeepCutAuto
import Derived.BigQuiet
import Derived.Outline
import Derived.IntWalk
namespace Go.Proofs.Ythajmplheecepaa
open Go.RowKit
set_option linter.unusedVariables false

theorem infoByte7 : (Try.prog.info? 5).map (fun i => (i.zero, i.size, i.bytes)) = some (some (.int .u8 0), 1, 1) := by kernel_rfl

/-- A file: block p; its bytes bs, which lie at o; how many are safe; its room. -/
structure Fl (T : TypeId) (w : World) (p : Nat) (o : Option Nat) (bs : List UInt8) (s r : Nat) (A : Option Addr) (c : Nat) : Prop where
  blk : Blk w p T #[.slice A bs.length c, .int .i64 (s : Int), .int .i64 (r : Int)]
  own : w.ownsRow 0 5 1 (.slice A bs.length c) bs.length (bcs bs)
  at_ : A.map (·.block) = o
  ne : o ≠ some p
def Fi (T : TypeId) (w : World) (p : Nat) (o : Option Nat) (bs : List UInt8) (s r : Nat) : Prop := ∃ A c, Fl T w p o bs s r A c
section
variable {S : Nat → Prop} {T : TypeId} {w w' : World} {p : Nat} {o : Option Nat} {bs : List UInt8} {s r : Nat} {A : Option Addr} {c : Nat}
theorem Fl.chg (h : Fl T w p o bs s r A c) (hc : Chg S w w') (hp : ¬ S p) (ho : ∀ k, o = some k → ¬ S k) : Fl T w' p o bs s r A c :=
  ⟨h.blk.chg hc hp, own_chg h.own hc (by rw [h.at_]; exact ho), h.at_, h.ne⟩
theorem Fi.chg (h : Fi T w p o bs s r) (hc : Chg S w w') (hp : ¬ S p) (ho : ∀ k, o = some k → ¬ S k) : Fi T w' p o bs s r := by
  obtain ⟨A, c, h⟩ := h
  exact ⟨A, c, h.chg hc hp ho⟩
theorem Fi.lt (h : Fi T w p o bs s r) : p < w.heap.size ∧ ∀ k, o = some k → k < w.heap.size := by
  obtain ⟨A, c, h⟩ := h
  refine ⟨h.blk.lt, fun k hk => ?_⟩
  have ho := h.at_
  rw [hk] at ho
  have := h.own.lt k (by cases A <;> simp_all [Value.ownBlock])
  exact this.2
theorem Fl.cells (h : Fl T w p o bs s r A c) : w.cell? ⟨p, 0, none⟩ = some (.slice A bs.length c) ∧ w.cell? ⟨p, 1, none⟩ = some (.int .i64 (s : Int)) ∧ w.cell? ⟨p, 2, none⟩ = some (.int .i64 (r : Int)) ∧
    w.frozen? ⟨p, 0, none⟩ = false ∧ w.frozen? ⟨p, 1, none⟩ = false ∧ w.frozen? ⟨p, 2, none⟩ = false := by
  have x0 := h.blk.cell 0
  have x1 := h.blk.cell 1
  have x2 := h.blk.cell 2
  simp only [List.getElem?_toArray, List.getElem?_cons_zero, List.getElem?_cons_succ] at x0 x1 x2
  exact ⟨x0, x1, x2, h.blk.frozen 0, h.blk.frozen 1, h.blk.frozen 2⟩
theorem Fl.rds (h : Fl T w p o bs s r A c) : Rds w (fun k => o = some k) A bs.length (bcs bs) := by
  have := own_rds h.own
  rw [h.at_] at this
  exact this
end
/-- The first k of what is owned. -/
theorem own_cut {w : World} {base : Nat} {e : TypeId} {n c k : Nat} {A : Option Addr} {xs : List Value} (h : w.ownsRow base e 1 (.slice A n c) n xs) (hk : k ≤ n) : w.ownsRow base e 1 (.slice A k c) k (xs.take k) := by
  have hl := h.1
  refine ⟨by rw [List.length_take]; omega, ?_⟩
  rcases h.2 with ⟨hv, rfl⟩ | ⟨g, cap, cur, hv, hg, hh, h1, h2, h3, h4⟩
  · obtain rfl : k = 0 := by omega
    exact .inl ⟨hv, rfl⟩
  · injection hv with hA hn hc
    subst hA
    subst hc
    refine .inr ⟨g, c, cur, rfl, hg, hh, by omega, h2, h3, ?_⟩
    rw [← h4, List.take_take]
    congr 1
    omega
theorem bcs_take7 (l : List UInt8) (k : Nat) : bcs (l.take k) = (bcs l).take k := by simp [bcs]
theorem fl_cut {T : TypeId} {w : World} {p : Nat} {o : Option Nat} {bs : List UInt8} {s r : Nat} {A : Option Addr} {c k : Nat} (h : Fl T w p o bs s r A c) (hk : k ≤ bs.length) :
    Fl T ((w.setCell ⟨p, 0, none⟩ (.slice A k c)).setCell ⟨p, 1, none⟩ (.int .i64 (k : Int))) p o (bs.take k) k r A c ∧
      Chg (fun j => j = p) w ((w.setCell ⟨p, 0, none⟩ (.slice A k c)).setCell ⟨p, 1, none⟩ (.int .i64 (k : Int))) := by
  have hc : Chg (fun j => j = p) w ((w.setCell ⟨p, 0, none⟩ (.slice A k c)).setCell ⟨p, 1, none⟩ (.int .i64 (k : Int))) := ((Chg.refl (fun j => j = p) w).put p 0 (fun _ => rfl) _).put p 1 (fun _ => rfl) _
  have hlen : (bs.take k).length = k := by rw [List.length_take]; omega
  refine ⟨⟨?_, ?_, h.at_, h.ne⟩, hc⟩
  · have := (h.blk.set 0 (.slice A k c)).set 1 (.int .i64 (k : Int))
    rw [hlen]
    exact this
  · rw [hlen, bcs_take7]
    refine own_chg (own_cut h.own hk) hc (fun j hj e => ?_)
    subst e
    rw [h.at_] at hj
    exact h.ne hj
theorem fl_sync {T : TypeId} {w : World} {p : Nat} {o : Option Nat} {bs : List UInt8} {s r : Nat} {A : Option Addr} {c k : Nat} (h : Fl T w p o bs s r A c) :
    Fl T (w.setCell ⟨p, 1, none⟩ (.int .i64 (k : Int))) p o bs k r A c ∧ Chg (fun j => j = p) w (w.setCell ⟨p, 1, none⟩ (.int .i64 (k : Int))) := by
  have hc : Chg (fun j => j = p) w (w.setCell ⟨p, 1, none⟩ (.int .i64 (k : Int))) := (Chg.refl (fun j => j = p) w).put p 1 (fun _ => rfl) _
  refine ⟨⟨h.blk.set 1 (.int .i64 (k : Int)), own_chg h.own hc (fun j hj e => ?_), h.at_, h.ne⟩, hc⟩
  subst e
  rw [h.at_] at hj
  exact h.ne hj
/-- Behind an append onto a file's bytes, and the store of what it gave. -/
theorem fl_grown {T : TypeId} {w0 w1 w' : World} {p : Nat} {o : Option Nat} {bs : List UInt8} {s r : Nat} {A A3 : Option Addr} {c c3 k : Nat} {xs : List Value} (hob : Fl T w0 p o bs s r A c)
    (hc : Chg (fun _ => False) w0 w1) (new : List UInt8) (hx : xs = bcs new) (hk : k = new.length) (hown : w'.ownsRow 0 5 1 (.slice A3 (bs.length + k) c3) (bs.length + k) (bcs bs ++ xs))
    (hg : w1.grownBy w' (Value.slice A bs.length c).ownBlock)
    (hat : (Value.slice A3 (bs.length + k) c3).ownBlock = (Value.slice A bs.length c).ownBlock ∨ (Value.slice A3 (bs.length + k) c3).ownBlock = some w1.heap.size) :
    Fl T (w'.setCell ⟨p, 0, none⟩ (.slice A3 (bs.length + k) c3)) p (A3.map (·.block)) (bs ++ new) s r A3 c3 ∧ Mvd p o (A3.map (·.block)) w0 (w'.setCell ⟨p, 0, none⟩ (.slice A3 (bs.length + k) c3)) := by
  subst hx
  subst hk
  rw [own_block, own_block, hob.at_] at hat
  rw [own_block, hob.at_] at hg
  have hb1 := hob.blk.chg hc id
  have hb2 := blk_grown hb1 hg hob.ne
  have hlt := hob.blk.lt
  have hne : A3.map (·.block) ≠ some p := by
    rcases hat with h | h
    · rw [h]; exact hob.ne
    · rw [h]
      have := hc.size
      intro e
      injection e with e
      omega
  have hc2 : Chg (fun k => k = p ∨ o = some k) w0 (w'.setCell ⟨p, 0, none⟩ (.slice A3 (bs.length + new.length) c3)) :=
    ((hc.mono (fun _ _ h => h.elim)).grown hg (fun k hk _ => .inr hk)).put p 0 (fun _ => .inl rfl) _
  refine ⟨⟨?_, ?_, rfl, hne⟩, hc2, ?_⟩
  · have := hb2.set 0 (.slice A3 (bs.length + new.length) c3)
    rw [List.length_append]
    exact this
  · rw [List.length_append, bcs_app]
    exact own_chg hown ((Chg.refl (fun k => k = p) w').put p 0 (fun _ => rfl) _) (fun k hk e => by subst e; exact hne hk)
  · rcases hat with h | h
    · exact .inl h
    · exact .inr (.inr ⟨_, h, hc.size⟩)
theorem mvd_set {p : Nat} {o : Option Nat} {w w' : World} (h : Chg (fun j => j = p) w w') : Mvd p o o w w' := ⟨h.mono fun _ _ e => .inl e, .inl rfl⟩

set_option maxRecDepth 100000 in
set_option maxHeartbeats 400000 in
theorem clone7_nil (w : World) : Calls Try.prog 35 #[.slice none 0 0] w fun e w' => e = .returned (.slice none 0 0) ∧ w = w' := by
  have he := fun W : World => Lib.run_eql_slice_nil (P := Try.prog) W 38 5 none 0 0 0 0 Try.underlying38
  go_enter Try.func35, Try.ntmps35
  go_wp2
  go_ret
  exact ⟨rfl, rfl⟩

set_option maxRecDepth 100000 in
set_option maxHeartbeats 400000 in
theorem clone7_some (a : Addr) (n c : Nat) (bs : List UInt8) (S : Nat → Prop) (w : World) (hn : n = bs.length) (h : Rds w S (some a) n (bcs bs)) (hbig : n ≤ 140737488355328) :
    Calls Try.prog 35 #[.slice (some a) n c] w fun e w' => ∃ A' c', e = .returned (.slice A' n c') ∧
      w'.ownsRow w.heap.size 5 1 (.slice A' n c') n (bcs bs) ∧ Chg (fun _ => False) w w' := by
  obtain ⟨i0, hi0, hz0, hz1, hz2⟩ := info_parts infoByte7
  have HN := Lib.hid hn
  clear hn
  have he := fun W : World => Lib.run_eql_slice_nil (P := Try.prog) W 38 5 (some a) n c 0 0 Try.underlying38
  go_enter Try.func35, Try.ntmps35
  have hmade := World.ownsRow_made (e := 5) (size := 1) w #[] 0 (Nat.le_refl _) (by decide) rfl
  go_wp2_with (at_builtin; refine wpList_own_append _ rfl (.tmp 5) (.tmp 6) 38 rfl w.heap.size 5 i0 (.int .u8 0) 1 Try.underlying38 hi0 hz0 hz1 hz2 rfl (.slice (some ⟨w.heap.size, 0, none⟩) 0 0) 0 [] rfl hmade S (some a) n c (bcs bs) rfl (h.alloc _) (bcs_one bs) (by unfold maxLen; omega) (by omega) (by simp) ?_; intro v' w' hown' hg hat; obtain ⟨A3, c3, rfl, _, _⟩ := own_form hown')
  go_ret
  refine ⟨A3, c3, by simp, by simpa using hown', ?_⟩
  exact ((Chg.refl _ w).alloc _).grown hg (fun k hk hlt => by simp only [Value.ownBlock, Option.some.injEq] at hk; subst hk; exact absurd hlt (Nat.lt_irrefl _))

theorem clone7_any (A : Option Addr) (n c : Nat) (bs : List UInt8) (S : Nat → Prop) (w : World) (hn : n = bs.length) (h : Rds w S A n (bcs bs)) (hz : A = none → c = 0) (hbig : n ≤ 140737488355328) :
    Calls Try.prog 35 #[.slice A n c] w fun e w' => ∃ A' c', e = .returned (.slice A' n c') ∧
      w'.ownsRow w.heap.size 5 1 (.slice A' n c') n (bcs bs) ∧ Chg (fun _ => False) w w' := by
  rcases A with _ | a
  · have h0 : n = 0 := by
      rcases Nat.eq_zero_or_pos n with h0 | h0
      · exact h0
      · obtain ⟨ad, e, _⟩ := h.2 h0
        cases e
    have hc := hz rfl
    subst hc
    subst h0
    have hb : bs = [] := List.eq_nil_of_length_eq_zero hn.symm
    subst hb
    refine (clone7_nil w).mono ?_
    rintro e w' ⟨rfl, rfl⟩
    exact ⟨none, 0, rfl, World.ownsRow_nil w _ _ _, Chg.refl _ _⟩
  · exact clone7_some a n c bs S w hn h hbig

end Go.Proofs.Ythajmplheecepaa
