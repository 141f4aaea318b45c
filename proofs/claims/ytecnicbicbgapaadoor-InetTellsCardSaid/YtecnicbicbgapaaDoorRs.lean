/-
  Walks: the document's reader: (*rutterref01.Reader).Bytes, Rest, Done. Conditions: the receiver is such a reader in memory.
-/
import Derived.Test.YtecnicbicbgapaaDoorRr
import Derived.Test.YtecnicbicbgapaaDoorGen
namespace Go.Proofs.YtecnicbicbgapaaDoor
open Go.RowKit

/-- What a call leaves that hands back bytes in new memory. -/
def GaveN (T : TypeId) (w : World) (p : Nat) (S : Nat → Prop) (r : List UInt8 × Option (List UInt8)) (e : Ending) (w' : World) : Prop :=
  ∃ A k c, e = .returned (.slice A k c) ∧ k = r.1.length ∧ Rds w' (fun k => w.heap.size ≤ k) A k (bcs r.1) ∧ Rd T false w' p S r.2 ∧ Chg (fun k => k = p) w w'

set_option maxHeartbeats 600000 in
theorem rrest_any (p : Nat) (S : Nat → Prop) (st : Option (List UInt8)) (w : World) (h : Rd 48 false w p S st) (hbig : ∀ b, st = some b → b.length ≤ 100000000000) :
    Calls Tryd.prog 24 #[.pointer (some ⟨p, 0, none⟩)] w (GaveN 48 w p S (restS st)) := by
  obtain ⟨i0, hi0, hz0, hz1, hz2⟩ := info_parts infoByte
  have hh := h
  obtain ⟨hS, A, m, c, f, bs, hblk, hmc, hc, hm, hr, hst⟩ := h
  have hb : Blk w p _ _ := hblk
  have hplt := hb.lt
  have c0 := hb.cell 0
  have c1 := hb.cell 1
  simp only [List.getElem?_toArray, List.getElem?_cons_zero, List.getElem?_cons_succ] at c0 c1
  rcases st with _ | b
  · obtain rfl : f = true := hst.1
    have HH := Lib.hid hh
    clear hst hm hr hh
    go_enter Tryd.func24, Tryd.ntmps24
    go_wp2
    go_ret
    exact ⟨none, 0, 0, rfl, rfl, Rds.nil _ _ _, HH.out, Chg.refl _ _⟩
  · obtain ⟨rfl, rfl⟩ : f = false ∧ b = bs := hst
    have hml := hbig b rfl
    have hmb : m ≤ 100000000000 := by omega
    have HM := Lib.hid hm
    have hmade := World.ownsRow_made (e := 5) (size := 1) w #[] 0 (Nat.le_refl _) (by decide) rfl
    have hra := hr.alloc (.cells #[] 5)
    clear hm hh hbig hml
    go_enter Tryd.func24, Tryd.ntmps24
    go_wp2_with (at_builtin; refine wpList_own_append _ rfl (.tmp 8) (.tmp 12) 25 rfl w.heap.size 5 i0 (.int .u8 0) 1 Tryd.underlying25 hi0 hz0 hz1 hz2 rfl (.slice (some ⟨w.heap.size, 0, none⟩) 0 0) 0 [] rfl hmade _ A m c (bcs b) rfl hra (bcs_one b) (by unfold maxLen; omega) (by omega) (by simp) ?_; intro v1 w1 hown1 hg1 hat1; simp only [Nat.zero_add, List.nil_append] at hown1; obtain ⟨D, dc, rfl, _, _⟩ := own_form hown1; have hC1 : Chg (fun _ => False) w w1 := grown_fresh ((Chg.refl _ w).alloc _) hg1 hmade (Nat.le_refl _); have hb1 : Blk w1 p 48 _ := hb.chg hC1 id; have z0 := hb1.cell 0; have y0 := hb1.frozen 0; simp only [List.getElem?_toArray, List.getElem?_cons_zero] at z0)
    go_ret
    have hcc : Chg (fun k => k = p) w1 (w1.setCell ⟨p, 0, none⟩ (.slice none 0 0)) := (Chg.refl (fun k => k = p) w1).put p 0 (fun _ => rfl) _
    have hd1 := own_rds2 hown1
    refine ⟨D, m, dc, rfl, HM.out, (hd1.chg hcc (fun k hk e => by subst e; omega)).mono (fun k hk => hk.1), ⟨hS, none, 0, 0, false, [], hb1.set 0 _, Nat.le_refl _, Nat.zero_le _, rfl, Rds.nil _ _ _, rfl, rfl⟩, (hC1.mono (fun _ _ e => e.elim)).trans hcc (fun _ _ e => e)⟩

theorem rrb_close {w w1 w2 : World} {p q m c dc : Nat} {S : Nat → Prop} {bs : List UInt8} {A A' D : Option Addr} (hS : ¬ S p) (hb2 : Blk w2 p 48 #[.slice A m c, .bool false]) (hmc : m ≤ c) (hcm : c ≤ maxLen) (hm : m = bs.length) (hq : q ≤ m)
    (hs1 : w.heap.size ≤ w1.heap.size) (hplt : p < w1.heap.size) (hc1 : Chg (fun k => k = p) w w1) (hC1 : Chg (fun _ => False) w1 w2) (hd2 : Rds w2 S A' (m - q) ((bcs bs).drop q)) (hd1 : Rds w2 (fun k => w1.heap.size ≤ k ∧ k < w2.heap.size) D q (bcs (bs.take q)))
    (A2 : Option Addr) (m2 c2 : Nat) (e1 : A2 = A') (e2 : m2 = m - q) (e3 : c2 = c - q) : GaveN 48 w p S (bs.take q, some (bs.drop q)) (.returned (.slice D q dc)) (w2.setCell ⟨p, 0, none⟩ (.slice A2 m2 c2)) := by
  obtain ⟨hr2, hc2⟩ := rr_close2 hS hb2 hmc hcm hm hq hd2 A2 m2 c2 e1 e2 e3
  exact ⟨D, q, dc, rfl, by simp only [List.length_take]; omega, (hd1.chg hc2 (fun k hk e => by subst e; omega)).mono (fun k hk => by omega), hr2, (hc1.trans (hC1.mono (S' := fun k => k = p) (fun _ _ e => e.elim)) (fun _ _ e => e)).trans hc2 (fun _ _ e => e)⟩

end Go.Proofs.YtecnicbicbgapaaDoor
