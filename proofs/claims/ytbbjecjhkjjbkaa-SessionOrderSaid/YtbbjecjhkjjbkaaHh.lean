/-
  What a step of one end keeps of the other and of all else; its calls by contract. No condition.
-/
import Derived.Test.YtbbjecjhkjjbkaaHg
namespace Go.Proofs.Ytbbjecjhkjjbkaa
open Go.RowKit
set_option linter.unusedVariables false
set_option linter.unusedSimpArgs false

/-- From w to w' only the end of labels L to L + 5 has moved. -/
structure Keeps (B : Nat) (w w' : World) (f f' : Nat → Option Nat) (L : Nat) : Prop where
  fr : FR B w' f'
  oth : ∀ M, M ≤ 90 → (M + 5 < L ∨ L + 5 < M) → ∀ d y, EN11 B w f M d y → EN11 B w' f' M d y
  blk : ∀ v T cs, KB B w f v T cs → KB B w' f' v T cs
  rds : ∀ A n xs, Rds w (fun k => Gf B f k ∧ k < w.heap.size) A n xs → Rds w' (fun k => Gf B f' k ∧ k < w'.heap.size) A n xs
  chg : Chg (fun k => B ≤ k) w w'
section
variable {B : Nat} {w w1 w' : World} {f f1 f' : Nat → Option Nat} {D : Nat → Prop} {L e : Nat} {x : EV} {p : Nat} {I O T : Option Addr} {n ic m oc t tc : Nat} {ys : List LA}
theorem Keeps.of (hf : FR B w f) (hr : RenD B w w' f f' D) (hc : Chg (Tn f D) w w') (hD : ∀ a, D a → (L ≤ a ∧ a ≤ L + 5) ∨ 96 ≤ a) : Keeps B w w' f f' L :=
  ⟨hr.fr, fun M hM0 hM d y h => h.keep hf hr hc (fun a h1 h2 h3 => by have := hD a h3; omega), fun v T cs h => ⟨hr.ap v h.1 h.2.lt, h.2.chg hc (Tn.gf h.1)⟩,
    fun A n xs h => (h.chg hc (fun k hk => Tn.gf hk.1)).mono (fun k hk => ⟨hr.ap k hk.1 hk.2, Nat.lt_of_lt_of_le hk.2 hc.size⟩), hc.mono (fun k _ ⟨a, _, h⟩ => hf.lo a k h)⟩
theorem Keeps.new (hf : FR B w f) (hc : Chg (fun _ => False) w w') : Keeps B w w' f f L := Keeps.of (D := fun _ => False) hf (RenD.same hf hc.size) (chg_tn hc) (fun _ h => h.elim)
theorem Keeps.trans {w2 : World} {f2 : Nat → Option Nat} (h : Keeps B w w1 f f1 L) (h2 : Keeps B w1 w2 f1 f2 L) : Keeps B w w2 f f2 L :=
  ⟨h2.fr, fun M hM0 hM d y hy => h2.oth M hM0 hM d y (h.oth M hM0 hM d y hy), fun v T cs hv => h2.blk v T cs (h.blk v T cs hv), fun A n xs hx => h2.rds A n xs (h.rds A n xs hx), h.chg.trans h2.chg (fun _ _ e => e)⟩
/-- What Take hands back, of an end's session. -/
def TkE (B : Nat) (f : Nat → Option Nat) (L e : Nat) (x : EV) (p : Nat) (I : Option Addr) (n ic : Nat) (O : Option Addr) (m oc : Nat) (T : Option Addr) (t tc : Nat) (ys : List LA) (l : LV) (w : World) (E : Ending) (w' : World) : Prop :=
  ∃ f' A c, E = .returned (.tuple #[.agg (tkC A (tkB x.sv l).length c (tkGot x.sv l) (tkRes x.sv l)), .int .i64 (tkE x.sv l)]) ∧ Rds w' (fun k => Gf B f' k ∧ k < w'.heap.size) A (tkB x.sv l).length (bcs (tkB x.sv l)) ∧ ENP B w' f' L e { x with sv := tkS x.sv l } p I n ic O m oc T t tc ys ∧ Keeps B w w' f f' L ∧ ∀ k TY cs, f 100 = some k → Blk w k TY cs → f' 100 = some k ∧ Blk w' k TY cs
theorem en_take (h : ENP B w f L e x p I n ic O m oc T t tc ys) (hf : FR B w f) (hok : SOk x.sv) {l : LV} {A : Option Addr} {k c : Nat} (hk : k = l.b.length) (hr : Rds w (fun k => Gf B f k ∧ k < w.heap.size) A k (bcs l.b)) (hz : A = none → c = 0) (hm : k ≤ 9223372036854775807) (hL : L ≤ 90) :
    Calls Try.prog 20 #[.pointer (some ⟨p, 0, none⟩), .agg (ltC l.mi l.pe l.ac l.se A k c)] w (TkE B f L e x p I n ic O m oc T t tc ys l w) := by
  refine (stake_any p (f (L + 1 + 1)) _ x.sv l A k c _ w h.ses.2 hok hk hr hz hm (fun e => e.1.2 (L + 1) h.ses.1) (fun k hk e => e.1.2 (L + 1 + 1) hk)).mono ?_
  rintro E w' ⟨A2, c2, rfl, _, hrd, hq⟩
  obtain ⟨f', hr', hs, hc, hn⟩ := SL.take hf h.ses.1 hq
  obtain ⟨g1, g2, g3⟩ := h.call hf hr' hs hc
  exact ⟨f', A2, c2, rfl, hrd.old.mono (fun k hk => ⟨hn k hk.1, hk.2⟩), g1, Keeps.of hf g2 g3 (fun a ha => by omega), fun k TY cs h1 h2 => ⟨(g2.eq 100 (by omega)).trans h1, h2.chg g3 (Tn.not hf h1 (by omega))⟩⟩
theorem en_push (h : ENP B w f L e x p I n ic O m oc T t tc ys) (hf : FR B w f) (hq : x.sv.q.length ≤ 64) {A : Option Addr} {k c : Nat} {b : List UInt8} {S : Nat → Prop} (hk : k = b.length) (hr : Rds w S A k (bcs b)) (hz : A = none → c = 0) (hm : k ≤ 9223372036854775807) :
    Calls Try.prog 21 #[.pointer (some ⟨p, 0, none⟩), .slice A k c] w fun E w' => ∃ f', E = .returned (.int .i64 (pushE x.sv b)) ∧ ENP B w' f' L e { x with sv := pushS x.sv b } p I n ic O m oc T t tc ys ∧ Keeps B w w' f f' L := by
  refine (spush_any p (f (L + 1 + 1)) _ x.sv A k c b S w h.ses.2 hq hk hr hz hm).mono ?_
  rintro E w' ⟨rfl, hs⟩
  obtain ⟨f', hr', hs, hc⟩ := SL.call hf h.ses.1 hs
  obtain ⟨g1, g2, g3⟩ := h.call hf hr' hs hc
  exact ⟨f', rfl, g1, Keeps.of hf g2 g3 (fun a ha => by omega)⟩
/-- What Out hands back, of an end's session. -/
theorem en_out (h : ENP B w f L e x p I n ic O m oc T t tc ys) (hf : FR B w f) (hok : SOk x.sv) :
    Calls Try.prog 22 #[.pointer (some ⟨p, 0, none⟩)] w fun E w' => ∃ A k c zs, E = .returned (.slice A k c) ∧ k = (outS x.sv).length ∧ w'.ownsRow w.heap.size 24 5 (.slice A k c) k (zs.flatMap fun y => y.cs.toList) ∧ LB w' (fun k => Gf B f k ∧ k < w'.heap.size) zs (outS x.sv) ∧ Chg (fun _ => False) w w' := by
  refine (sout_any p (f (L + 1 + 1)) _ x.sv w h.ses.2 hok).mono ?_
  rintro E w' ⟨A, k, c, zs, rfl, hk, hown, hl, hc⟩
  exact ⟨A, k, c, zs, rfl, hk, hown, hl.old.mono (fun k hk => ⟨Gf.new hf hk.1.1, hk.2⟩), hc⟩
/-- One of the letters: its cells, its body. -/
theorem ENP.letter (h : ENP B w f L e x p I n ic O m oc T t tc ys) {j : Nat} (hj : j < t) : ∃ g y l, T = some ⟨g, 0, none⟩ ∧ ys[j]? = some y ∧ x.ls[j]? = some l ∧ l ∈ x.ls ∧ LA.is w (fun k => Gf B f k ∧ k < w.heap.size) y l ∧
    (w.cell? ⟨g, j * 5, none⟩ = some (.int .i64 y.mi) ∧ w.cell? ⟨g, j * 5 + 1, none⟩ = some (.int .i64 y.pe) ∧ w.cell? ⟨g, j * 5 + 2, none⟩ = some (.int .i64 y.ac) ∧ w.cell? ⟨g, j * 5 + 3, none⟩ = some (.int .i64 y.se) ∧ w.cell? ⟨g, j * 5 + 4, none⟩ = some (.slice y.A y.n y.c)) := by
  obtain ⟨g, hg⟩ := own_at0 h.row (by omega)
  subst hg
  have hjl : j < x.ls.length := by have := h.rno; omega
  have hjy : j < ys.length := by have := h.bod.1; omega
  have hy : ys[j]? = some ys[j] := List.getElem?_eq_getElem hjy
  have hl : x.ls[j]? = some x.ls[j] := List.getElem?_eq_getElem hjl
  exact ⟨g, _, _, rfl, hy, hl, List.getElem_mem hjl, h.bod.2 j _ _ hy hl, lrow_at h.row hy⟩
/-- A scratch block, under label 100. -/
theorem en_scratch (h : ENP B w f L e x p I n ic O m oc T t tc ys) (hf : FR B w f) (hL : L ≤ 90) {v : Nat} (hc : Chg (fun _ => False) w w') (hv : w.heap.size ≤ v) (hv2 : v < w'.heap.size) :
    ∃ f', f' 100 = some v ∧ ENP B w' f' L e x p I n ic O m oc T t tc ys ∧ Keeps B w w' f f' L := by
  obtain ⟨f', h1, h2, _⟩ := FR.add (a := 100) hf hc.size hv hv2
  have hr : RenD B w w' f f' (fun a => a = 100) := h1.d rfl
  exact ⟨f', h2, h.keep hf hr (chg_tn hc) (fun a _ _ => by omega), Keeps.of hf hr (chg_tn hc) (fun a ha => by omega)⟩
/-- Behind stores into the scratch block. -/
theorem en_store (h : ENP B w f L e x p I n ic O m oc T t tc ys) (hf : FR B w f) (hL : L ≤ 90) {v : Nat} (hv : f 100 = some v) (hc : Chg (fun k => k = v) w w') : ENP B w' f L e x p I n ic O m oc T t tc ys ∧ Keeps B w w' f f L := by
  have hc2 : Chg (Tn f (fun a => a = 100)) w w' := hc.mono (fun k _ hk => ⟨100, rfl, by rw [hk]; exact hv⟩)
  have hr : RenD B w w' f f (fun a => a = 100) := RenD.same hf hc.size
  exact ⟨h.keep hf hr hc2 (fun a _ _ => by omega), Keeps.of hf hr hc2 (fun a ha => by omega)⟩
end


end Go.Proofs.Ytbbjecjhkjjbkaa
