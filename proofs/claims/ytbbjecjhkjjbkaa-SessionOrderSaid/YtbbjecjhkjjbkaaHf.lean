/-
  An end in memory, by its labels: the end's block, the session, its queue's row, what it was pushed, what it handed out, the letters. No condition.
-/
import Derived.Test.YtbbjecjhkjjbkaaHe
import Derived.Test.YtbbjecjhkjjbkaaGr
namespace Go.Proofs.Ytbbjecjhkjjbkaa
open Go.RowKit
set_option linter.unusedVariables false
set_option linter.unusedSimpArgs false

/-- Blocks whose label is one of D. -/
def Tn (f : Nat → Option Nat) (D : Nat → Prop) (k : Nat) : Prop := ∃ a, D a ∧ f a = some k
structure RenD (B : Nat) (w w' : World) (f f' : Nat → Option Nat) (D : Nat → Prop) : Prop where
  fr : FR B w' f'
  eq : ∀ c, ¬ D c → f' c = f c
  ap : ∀ k, Gf B f k → k < w.heap.size → Gf B f' k
theorem Tn.not {f : Nat → Option Nat} {D : Nat → Prop} {B : Nat} {w : World} (h : FR B w f) {b k : Nat} (hb : f b = some k) (hD : ¬ D b) : ¬ Tn f D k := fun ⟨a, ha, e⟩ => hD (by rw [h.inj b a k hb e]; exact ha)
theorem Tn.gf {f : Nat → Option Nat} {D : Nat → Prop} {B : Nat} {k : Nat} (h : Gf B f k) : ¬ Tn f D k := fun ⟨a, _, e⟩ => h.2 a e
theorem RenD.same {B : Nat} {w w' : World} {f : Nat → Option Nat} {D : Nat → Prop} (h : FR B w f) (hs : w.heap.size ≤ w'.heap.size) : RenD B w w' f f D := ⟨h.size hs, fun _ _ => rfl, fun _ h _ => h⟩
theorem Ren11.d {B : Nat} {w w' : World} {f f' : Nat → Option Nat} {a : Nat} {D : Nat → Prop} (h : Ren11 B w w' f f' a) (hD : D a) : RenD B w w' f f' D := ⟨h.fr, fun c hc => h.eq c (fun e => hc (by rw [e]; exact hD)), h.ap⟩
section
variable {B : Nat} {w w' : World} {f f' : Nat → Option Nat} {D : Nat → Prop}
theorem SL.keepD {l p : Nat} {x : SV} (hs : SL B w f l p x) (hf : FR B w f) (hr : RenD B w w' f f' D) (hc : Chg (Tn f D) w w') (h1 : ¬ D l) (h2 : ¬ D (l + 1)) : SL B w' f' l p x := by
  have e1 := hr.eq l h1
  have e2 := hr.eq (l + 1) h2
  refine ⟨e1.trans hs.1, ?_⟩
  rw [e2]
  exact (hs.2.old.chg hc (Tn.not hf hs.1 h1) (fun k hk => Tn.not hf hk h2) (fun k hk => Tn.gf hk.1)).mono (fun k hk _ => hr.ap k hk.1 hk.2) (fun e => e.2 l (e1.trans hs.1)) (fun k hk e => e.2 (l + 1) (e2.trans hk))
theorem own_keepD {b base size n c : Nat} {e : TypeId} {A : Option Addr} {xs : List Value} (h : w.ownsRow base e size (.slice A n c) n xs) (hb : A.map (·.block) = f b) (hf : FR B w f) (hc : Chg (Tn f D) w w') (h1 : ¬ D b) : w'.ownsRow base e size (.slice A n c) n xs :=
  own_chg h hc (fun k hk => Tn.not hf (hb.symm.trans hk) h1)
theorem LB.keepD {ys : List LA} {ls : List LV} (h : LB w (fun k => Gf B f k ∧ k < w.heap.size) ys ls) (hr : RenD B w w' f f' D) (hc : Chg (Tn f D) w w') : LB w' (fun k => Gf B f' k ∧ k < w'.heap.size) ys ls :=
  (h.chg hc (fun k hk => Tn.gf hk.1)).mono (fun k hk => ⟨hr.ap k hk.1 hk.2, Nat.lt_of_lt_of_le hk.2 hc.size⟩)
/-- An append onto the row of label a. -/
theorem app_ren {a base size n n' c c' : Nat} {e : TypeId} {A A' : Option Addr} {xs : List Value} (hf : FR B w f) (ha : A.map (·.block) = f a) (hown : w'.ownsRow base e size (.slice A' n' c') n' xs) (hg : w.grownBy w' (Value.slice A n c).ownBlock)
    (hat : (Value.slice A' n' c').ownBlock = (Value.slice A n c).ownBlock ∨ (Value.slice A' n' c').ownBlock = some w.heap.size) (hD : D a) :
    RenD B w w' f (upd f a (A'.map (·.block))) D ∧ Chg (Tn f D) w w' ∧ A'.map (·.block) = upd f a (A'.map (·.block)) a := by
  rw [own_block] at hg
  rw [own_block, own_block] at hat
  have hm : Mv1 w (f a) (A'.map (·.block)) := by
    rcases hat with e | e
    · exact .inl (e.trans ha)
    · exact .inr (.inr ⟨_, e, Nat.le_refl _⟩)
  have hc : Chg (Tn f D) w w' := (Chg.refl (Tn f D) w).grown hg (fun k hk _ => ⟨a, hD, ha.symm.trans hk⟩)
  refine ⟨⟨hf.upd hc.size hm (fun k hk => (hown.lt k (by rw [own_block]; exact hk)).2), fun c hc => upd_ne f _ (fun e => hc (by rw [e]; exact hD)), fun k hk hl => Gf.upd hf hm hk hl⟩, hc, (upd_same f a _).symm⟩
/-- The row of label a is given up. -/
theorem drop_ren {a : Nat} (hf : FR B w f) (hs : w.heap.size ≤ w'.heap.size) (hD : D a) : RenD B w w' f (upd f a none) D :=
  ⟨hf.upd hs (.inr (.inl rfl)) (fun k hk => by cases hk), fun c hc => upd_ne f _ (fun e => hc (by rw [e]; exact hD)), fun k hk hl => Gf.upd hf (.inr (.inl rfl)) hk hl⟩
end
def endC (p : Nat) (boot : Int) (I : Option Addr) (n ic : Nat) (O : Option Addr) (m oc : Nat) (known : Int) (T : Option Addr) (t tc : Nat) : Array Value := #[.pointer (some ⟨p, 0, none⟩), .int .i64 boot, .slice I n ic, .slice O m oc, .int .i64 known, .slice T t tc]
/-- Block e is the end x, of the labels from L on. -/
structure ENP (B : Nat) (w : World) (f : Nat → Option Nat) (L e : Nat) (x : EV) (p : Nat) (I : Option Addr) (n ic : Nat) (O : Option Addr) (m oc : Nat) (T : Option Addr) (t tc : Nat) (ys : List LA) : Prop where
  le : f L = some e
  blk : Blk w e 66 (endC p x.boot I n ic O m oc x.known T t tc)
  ses : SL B w f (L + 1) p x.sv
  inn : w.ownsRow 0 5 1 (.slice I n ic) n (bcs x.inp)
  il : I.map (·.block) = f (L + 3)
  ino : n = x.inp.length
  out : w.ownsRow 0 5 1 (.slice O m oc) m (bcs x.out)
  ol : O.map (·.block) = f (L + 4)
  ono : m = x.out.length
  row : w.ownsRow 0 24 5 (.slice T t tc) t (ys.flatMap fun y => y.cs.toList)
  rl : T.map (·.block) = f (L + 5)
  rno : t = x.ls.length
  bod : LB w (fun k => Gf B f k ∧ k < w.heap.size) ys x.ls
def EN11 (B : Nat) (w : World) (f : Nat → Option Nat) (L e : Nat) (x : EV) : Prop := ∃ p I n ic O m oc T t tc ys, ENP B w f L e x p I n ic O m oc T t tc ys
/-- The same, the letters' row by name. -/
def EN11T (B : Nat) (w : World) (f : Nat → Option Nat) (L e : Nat) (x : EV) (T : Option Addr) (t tc : Nat) (ys : List LA) : Prop := ∃ p I n ic O m oc, ENP B w f L e x p I n ic O m oc T t tc ys
theorem EN11T.en {B : Nat} {w : World} {f : Nat → Option Nat} {L e : Nat} {x : EV} {T : Option Addr} {t tc : Nat} {ys : List LA} (h : EN11T B w f L e x T t tc ys) : EN11 B w f L e x := by
  obtain ⟨p, I, n, ic, O, m, oc, h⟩ := h
  exact ⟨p, I, n, ic, O, m, oc, T, t, tc, ys, h⟩
theorem en_cells {w : World} {e p : Nat} {boot known : Int} {I O T : Option Addr} {n ic m oc t tc : Nat} {TY : TypeId} (h : Blk w e TY (endC p boot I n ic O m oc known T t tc)) :
    w.cell? ⟨e, 0, none⟩ = some (.pointer (some ⟨p, 0, none⟩)) ∧ w.cell? ⟨e, 1, none⟩ = some (.int .i64 boot) ∧ w.cell? ⟨e, 2, none⟩ = some (.slice I n ic) ∧ w.cell? ⟨e, 3, none⟩ = some (.slice O m oc) ∧ w.cell? ⟨e, 4, none⟩ = some (.int .i64 known) ∧ w.cell? ⟨e, 5, none⟩ = some (.slice T t tc) := by
  have h0 := h.cell 0
  have h1 := h.cell 1
  have h2 := h.cell 2
  have h3 := h.cell 3
  have h4 := h.cell 4
  have h5 := h.cell 5
  simp only [endC, List.getElem?_toArray, List.getElem?_cons_zero, List.getElem?_cons_succ] at h0 h1 h2 h3 h4 h5
  exact ⟨h0, h1, h2, h3, h4, h5⟩
section
variable {B : Nat} {w w' : World} {f f' : Nat → Option Nat} {D : Nat → Prop} {L e : Nat} {x : EV} {p : Nat} {I O T : Option Addr} {n ic m oc t tc : Nat} {ys : List LA}
theorem ENP.keep (h : ENP B w f L e x p I n ic O m oc T t tc ys) (hf : FR B w f) (hr : RenD B w w' f f' D) (hc : Chg (Tn f D) w w') (hD : ∀ a, L ≤ a → a ≤ L + 5 → ¬ D a) : ENP B w' f' L e x p I n ic O m oc T t tc ys :=
  have d0 := hD L (by omega) (by omega)
  have d3 := hD (L + 3) (by omega) (by omega)
  have d4 := hD (L + 4) (by omega) (by omega)
  have d5 := hD (L + 5) (by omega) (by omega)
  ⟨(hr.eq L d0).trans h.le, h.blk.chg hc (Tn.not hf h.le d0), h.ses.keepD hf hr hc (hD _ (by omega) (by omega)) (hD _ (by omega) (by omega)), own_keepD h.inn h.il hf hc d3, h.il.trans (hr.eq _ d3).symm, h.ino, own_keepD h.out h.ol hf hc d4, h.ol.trans (hr.eq _ d4).symm, h.ono, own_keepD h.row h.rl hf hc d5, h.rl.trans (hr.eq _ d5).symm, h.rno, h.bod.keepD hr hc⟩
theorem EN11.keep (h : EN11 B w f L e x) (hf : FR B w f) (hr : RenD B w w' f f' D) (hc : Chg (Tn f D) w w') (hD : ∀ a, L ≤ a → a ≤ L + 5 → ¬ D a) : EN11 B w' f' L e x := by
  obtain ⟨p, I, n, ic, O, m, oc, T, t, tc, ys, h⟩ := h
  exact ⟨p, I, n, ic, O, m, oc, T, t, tc, ys, h.keep hf hr hc hD⟩
theorem chg_tn (hc : Chg (fun _ => False) w w') : Chg (Tn f D) w w' := hc.mono (fun _ _ e => e.elim)
theorem ENP.new (h : ENP B w f L e x p I n ic O m oc T t tc ys) (hf : FR B w f) (hc : Chg (fun _ => False) w w') : ENP B w' f L e x p I n ic O m oc T t tc ys :=
  h.keep (D := fun _ => False) hf (RenD.same hf hc.size) (chg_tn hc) (fun _ _ _ => id)
theorem EN11.new (h : EN11 B w f L e x) (hf : FR B w f) (hc : Chg (fun _ => False) w w') : EN11 B w' f L e x :=
  h.keep (D := fun _ => False) hf (RenD.same hf hc.size) (chg_tn hc) (fun _ _ _ => id)
/-- Behind a call on its session. -/
theorem ENP.call {y : SV} (h : ENP B w f L e x p I n ic O m oc T t tc ys) (hf : FR B w f) (hr : Ren11 B w w' f f' (L + 2)) (hs : SL B w' f' (L + 1) p y) (hc : Chg (fun k => f (L + 1) = some k ∨ f (L + 1 + 1) = some k) w w') :
    ENP B w' f' L e { x with sv := y } p I n ic O m oc T t tc ys ∧ RenD B w w' f f' (fun a => a = L + 1 ∨ a = L + 2) ∧ Chg (Tn f (fun a => a = L + 1 ∨ a = L + 2)) w w' := by
  have hr2 : RenD B w w' f f' (fun a => a = L + 1 ∨ a = L + 2) := hr.d (.inr rfl)
  have hc2 : Chg (Tn f (fun a => a = L + 1 ∨ a = L + 2)) w w' := hc.mono (fun k _ e => e.elim (fun e => ⟨_, .inl rfl, e⟩) (fun e => ⟨_, .inr rfl, e⟩))
  exact ⟨⟨(hr2.eq L (by omega)).trans h.le, h.blk.chg hc2 (Tn.not hf h.le (by omega)), hs, own_keepD h.inn h.il hf hc2 (by omega), h.il.trans (hr2.eq _ (by omega)).symm, h.ino, own_keepD h.out h.ol hf hc2 (by omega), h.ol.trans (hr2.eq _ (by omega)).symm, h.ono, own_keepD h.row h.rl hf hc2 (by omega), h.rl.trans (hr2.eq _ (by omega)).symm, h.rno, h.bod.keepD hr2 hc2⟩, hr2, hc2⟩
theorem chg_e (hl : f L = some e) (hc : Chg (fun k => k = e) w w') : Chg (Tn f (fun a => a = L)) w w' := hc.mono (fun k _ h => ⟨L, rfl, by rw [h]; exact hl⟩)
theorem LB.append11 {S : Nat → Prop} {zs : List LA} {ls ms : List LV} (h : LB w S ys ls) (hz : LB w S zs ms) : LB w S (ys ++ zs) (ls ++ ms) := by
  have h1 := h.1
  have h2 := hz.1
  refine ⟨by simp [h1, h2], fun i a b ha hb => ?_⟩
  by_cases hi : i < ls.length
  · rw [List.getElem?_append_left hi] at hb
    rw [List.getElem?_append_left (by omega)] at ha
    exact h.2 i a b ha hb
  · rw [List.getElem?_append_right (by omega)] at hb
    rw [List.getElem?_append_right (by omega), h1] at ha
    exact hz.2 _ a b ha hb
/-- Behind an append onto pushed, and its store. -/
theorem ENP.pushed (h : ENP B w f L e x p I n ic O m oc T t tc ys) (hf : FR B w f) {w2 w3 : World} {A' : Option Addr} {n' c' : Nat} {b : List UInt8} (hn : n' = x.inp.length + b.length) (hown : w2.ownsRow 0 5 1 (.slice A' n' c') n' (bcs x.inp ++ bcs b)) (hg : w.grownBy w2 (Value.slice I n ic).ownBlock)
    (hat : (Value.slice A' n' c').ownBlock = (Value.slice I n ic).ownBlock ∨ (Value.slice A' n' c').ownBlock = some w.heap.size) (hw : w3 = w2.setCell ⟨e, 2, none⟩ (.slice A' n' c')) :
    ∃ f', EN11T B w3 f' L e { x with inp := x.inp ++ b } T t tc ys ∧ RenD B w w3 f f' (fun a => a = L ∨ a = L + 3) ∧ Chg (Tn f (fun a => a = L ∨ a = L + 3)) w w3 := by
  obtain ⟨hr, hc, hl⟩ := app_ren (D := fun a => a = L + 3) hf h.il hown hg hat rfl
  generalize hf' : upd f (L + 3) (A'.map (·.block)) = f' at *
  have he : f' L = some e := (hr.eq L (by omega)).trans h.le
  have hb := h.blk.chg hc (Tn.not hf h.le (by omega))
  have hc3 : Chg (fun k => k = e) w2 w3 := by rw [hw]; exact (Chg.refl (fun k => k = e) w2).put e 2 (fun _ => rfl) _
  have hc4 := chg_e he hc3
  have hr4 : RenD B w2 w3 f' f' (fun a => a = L) := RenD.same hr.fr hc3.size
  have hb3 := hb.set 2 (.slice A' n' c')
  simp only [endC, List.setIfInBounds_toArray, List.set_cons_succ, List.set_cons_zero] at hb3
  rw [← hw] at hb3
  have hcc : Chg (Tn f (fun a => a = L ∨ a = L + 3)) w w3 := (hc.mono (S' := Tn f (fun a => a = L ∨ a = L + 3)) (fun k _ ⟨a, ha, h⟩ => ⟨a, .inr ha, h⟩)).trans hc3 (fun k _ hk => ⟨L, .inl rfl, by rw [hk]; exact h.le⟩)
  refine ⟨f', ⟨p, A', n', c', O, m, oc, ⟨he, hb3, (h.ses.keepD hf hr hc (by omega) (by omega)).keepD hr.fr hr4 hc4 (by omega) (by omega), ?_, ?_, ?_, ?_, ?_, ?_, ?_, ?_, ?_, ?_⟩⟩, ⟨hr4.fr, fun c hc => hr.eq c (fun e => hc (.inr e)), hr.ap⟩, hcc⟩
  · show w3.ownsRow 0 5 1 (.slice A' n' c') n' (bcs (x.inp ++ b))
    rw [bcs_app]
    exact own_keepD hown hl hr.fr hc4 (by omega)
  · exact hl
  · show n' = (x.inp ++ b).length
    rw [List.length_append]; exact hn
  · exact own_keepD (own_keepD h.out h.ol hf hc (by omega)) (h.ol.trans (hr.eq _ (by omega)).symm) hr.fr hc4 (by omega)
  · exact h.ol.trans (hr.eq _ (by omega)).symm
  · exact h.ono
  · exact own_keepD (own_keepD h.row h.rl hf hc (by omega)) (h.rl.trans (hr.eq _ (by omega)).symm) hr.fr hc4 (by omega)
  · exact h.rl.trans (hr.eq _ (by omega)).symm
  · exact h.rno
  · exact (h.bod.keepD hr hc).keepD hr4 hc4
/-- Behind an append onto handed, and its store. -/
theorem ENP.handed (h : ENP B w f L e x p I n ic O m oc T t tc ys) (hf : FR B w f) {w2 w3 : World} {A' : Option Addr} {n' c' : Nat} {b : List UInt8} (hn : n' = x.out.length + b.length) (hown : w2.ownsRow 0 5 1 (.slice A' n' c') n' (bcs x.out ++ bcs b)) (hg : w.grownBy w2 (Value.slice O m oc).ownBlock)
    (hat : (Value.slice A' n' c').ownBlock = (Value.slice O m oc).ownBlock ∨ (Value.slice A' n' c').ownBlock = some w.heap.size) (hw : w3 = w2.setCell ⟨e, 3, none⟩ (.slice A' n' c')) :
    ∃ f', EN11T B w3 f' L e { x with out := x.out ++ b } T t tc ys ∧ RenD B w w3 f f' (fun a => a = L ∨ a = L + 4) ∧ Chg (Tn f (fun a => a = L ∨ a = L + 4)) w w3 := by
  obtain ⟨hr, hc, hl⟩ := app_ren (D := fun a => a = L + 4) hf h.ol hown hg hat rfl
  generalize hf' : upd f (L + 4) (A'.map (·.block)) = f' at *
  have he : f' L = some e := (hr.eq L (by omega)).trans h.le
  have hb := h.blk.chg hc (Tn.not hf h.le (by omega))
  have hc3 : Chg (fun k => k = e) w2 w3 := by rw [hw]; exact (Chg.refl (fun k => k = e) w2).put e 3 (fun _ => rfl) _
  have hc4 := chg_e he hc3
  have hr4 : RenD B w2 w3 f' f' (fun a => a = L) := RenD.same hr.fr hc3.size
  have hb3 := hb.set 3 (.slice A' n' c')
  simp only [endC, List.setIfInBounds_toArray, List.set_cons_succ, List.set_cons_zero] at hb3
  rw [← hw] at hb3
  have hcc : Chg (Tn f (fun a => a = L ∨ a = L + 4)) w w3 := (hc.mono (S' := Tn f (fun a => a = L ∨ a = L + 4)) (fun k _ ⟨a, ha, h⟩ => ⟨a, .inr ha, h⟩)).trans hc3 (fun k _ hk => ⟨L, .inl rfl, by rw [hk]; exact h.le⟩)
  refine ⟨f', ⟨p, I, n, ic, A', n', c', ⟨he, hb3, (h.ses.keepD hf hr hc (by omega) (by omega)).keepD hr.fr hr4 hc4 (by omega) (by omega), ?_, ?_, ?_, ?_, ?_, ?_, ?_, ?_, ?_, ?_⟩⟩, ⟨hr4.fr, fun c hc => hr.eq c (fun e => hc (.inr e)), hr.ap⟩, hcc⟩
  · exact own_keepD (own_keepD h.inn h.il hf hc (by omega)) (h.il.trans (hr.eq _ (by omega)).symm) hr.fr hc4 (by omega)
  · exact h.il.trans (hr.eq _ (by omega)).symm
  · exact h.ino
  · show w3.ownsRow 0 5 1 (.slice A' n' c') n' (bcs (x.out ++ b))
    rw [bcs_app]
    exact own_keepD hown hl hr.fr hc4 (by omega)
  · exact hl
  · show n' = (x.out ++ b).length
    rw [List.length_append]; exact hn
  · exact own_keepD (own_keepD h.row h.rl hf hc (by omega)) (h.rl.trans (hr.eq _ (by omega)).symm) hr.fr hc4 (by omega)
  · exact h.rl.trans (hr.eq _ (by omega)).symm
  · exact h.rno
  · exact (h.bod.keepD hr hc).keepD hr4 hc4
/-- Behind an append onto sentTo, and its store. -/
theorem ENP.sentTo (h : ENP B w f L e x p I n ic O m oc T t tc ys) (hf : FR B w f) {w2 w3 : World} {A' : Option Addr} {n' c' : Nat} {zs : List LA} {ms : List LV} (hn : n' = x.ls.length + ms.length) (hown : w2.ownsRow 0 24 5 (.slice A' n' c') n' ((ys.flatMap fun y => y.cs.toList) ++ (zs.flatMap fun y => y.cs.toList))) (hz : LB w (fun k => Gf B f k ∧ k < w.heap.size) zs ms) (hg : w.grownBy w2 (Value.slice T t tc).ownBlock)
    (hat : (Value.slice A' n' c').ownBlock = (Value.slice T t tc).ownBlock ∨ (Value.slice A' n' c').ownBlock = some w.heap.size) (hw : w3 = w2.setCell ⟨e, 5, none⟩ (.slice A' n' c')) :
    ∃ f', EN11 B w3 f' L e { x with ls := x.ls ++ ms }  ∧ RenD B w w3 f f' (fun a => a = L ∨ a = L + 5) ∧ Chg (Tn f (fun a => a = L ∨ a = L + 5)) w w3 := by
  obtain ⟨hr, hc, hl⟩ := app_ren (D := fun a => a = L + 5) hf h.rl hown hg hat rfl
  generalize hf' : upd f (L + 5) (A'.map (·.block)) = f' at *
  have he : f' L = some e := (hr.eq L (by omega)).trans h.le
  have hb := h.blk.chg hc (Tn.not hf h.le (by omega))
  have hc3 : Chg (fun k => k = e) w2 w3 := by rw [hw]; exact (Chg.refl (fun k => k = e) w2).put e 5 (fun _ => rfl) _
  have hc4 := chg_e he hc3
  have hr4 : RenD B w2 w3 f' f' (fun a => a = L) := RenD.same hr.fr hc3.size
  have hb3 := hb.set 5 (.slice A' n' c')
  simp only [endC, List.setIfInBounds_toArray, List.set_cons_succ, List.set_cons_zero] at hb3
  rw [← hw] at hb3
  have hcc : Chg (Tn f (fun a => a = L ∨ a = L + 5)) w w3 := (hc.mono (S' := Tn f (fun a => a = L ∨ a = L + 5)) (fun k _ ⟨a, ha, h⟩ => ⟨a, .inr ha, h⟩)).trans hc3 (fun k _ hk => ⟨L, .inl rfl, by rw [hk]; exact h.le⟩)
  refine ⟨f', ⟨p, I, n, ic, O, m, oc, A', n', c', ys ++ zs, ⟨he, hb3, (h.ses.keepD hf hr hc (by omega) (by omega)).keepD hr.fr hr4 hc4 (by omega) (by omega), ?_, ?_, ?_, ?_, ?_, ?_, ?_, ?_, ?_, ?_⟩⟩, ⟨hr4.fr, fun c hc => hr.eq c (fun e => hc (.inr e)), hr.ap⟩, hcc⟩
  · exact own_keepD (own_keepD h.inn h.il hf hc (by omega)) (h.il.trans (hr.eq _ (by omega)).symm) hr.fr hc4 (by omega)
  · exact h.il.trans (hr.eq _ (by omega)).symm
  · exact h.ino
  · exact own_keepD (own_keepD h.out h.ol hf hc (by omega)) (h.ol.trans (hr.eq _ (by omega)).symm) hr.fr hc4 (by omega)
  · exact h.ol.trans (hr.eq _ (by omega)).symm
  · exact h.ono
  · rw [List.flatMap_append]
    exact own_keepD hown hl hr.fr hc4 (by omega)
  · exact hl
  · show n' = (x.ls ++ ms).length
    rw [List.length_append]; exact hn
  · exact ((h.bod.append11 hz).keepD hr hc).keepD hr4 hc4
/-- Behind the stores of a reset. -/
theorem ENP.reset (h : ENP B w f L e x p I n ic O m oc T t tc ys) (hf : FR B w f) {w3 : World} (k : Int) (hw : w3 = ((w.setCell ⟨e, 2, none⟩ (.slice none 0 0)).setCell ⟨e, 3, none⟩ (.slice none 0 0)).setCell ⟨e, 4, none⟩ (.int .i64 k)) :
    ∃ f', ENP B w3 f' L e { x with known := k, inp := [], out := [] } p none 0 0 none 0 0 T t tc ys ∧ RenD B w w3 f f' (fun a => a = L ∨ a = L + 3 ∨ a = L + 4) ∧ Chg (Tn f (fun a => a = L ∨ a = L + 3 ∨ a = L + 4)) w w3 := by
  have hr1 := drop_ren (w' := w) (D := fun a => a = L + 3) hf (Nat.le_refl _) rfl
  have hr2 := drop_ren (w' := w) (D := fun a => a = L + 4) hr1.fr (Nat.le_refl _) rfl
  generalize hf1 : upd f (L + 3) none = f1 at *
  generalize hf2 : upd f1 (L + 4) none = f2 at *
  have hc3 : Chg (fun k => k = e) w w3 := by rw [hw]; exact ((((Chg.refl (fun k => k = e) w).put e 2 (fun _ => rfl) _).put e 3 (fun _ => rfl) _).put e 4 (fun _ => rfl) _)
  have heq : ∀ c, c ≠ L + 3 → c ≠ L + 4 → f2 c = f c := fun c h1 h2 => (hr2.eq c h2).trans (hr1.eq c h1)
  have h23 : f2 (L + 3) = none := by rw [hr2.eq _ (by omega), ← hf1, upd_same]
  have h24 : f2 (L + 4) = none := by rw [← hf2, upd_same]
  have he : f2 L = some e := (heq L (by omega) (by omega)).trans h.le
  have hr : RenD B w w3 f f2 (fun a => a = L ∨ a = L + 3 ∨ a = L + 4) := ⟨hr2.fr.size hc3.size, fun c hc => heq c (by omega) (by omega), fun k hk hl => hr2.ap k (hr1.ap k hk hl) hl⟩
  have hc : Chg (Tn f (fun a => a = L ∨ a = L + 3 ∨ a = L + 4)) w w3 := hc3.mono (fun k _ hk => ⟨L, .inl rfl, by rw [hk]; exact h.le⟩)
  have hc4 : Chg (Tn f (fun a => a = L)) w w3 := hc3.mono (fun k _ hk => ⟨L, rfl, by rw [hk]; exact h.le⟩)
  have hb3 := ((h.blk.set 2 (.slice none 0 0)).set 3 (.slice none 0 0)).set 4 (.int .i64 k)
  simp only [endC, List.setIfInBounds_toArray, List.set_cons_succ, List.set_cons_zero] at hb3
  rw [← hw] at hb3
  exact ⟨f2, ⟨he, hb3, h.ses.keepD hf hr hc (by omega) (by omega), World.ownsRow_nil _ _ _ _, h23.symm, rfl, World.ownsRow_nil _ _ _ _, h24.symm, rfl, own_keepD h.row h.rl hf hc4 (by omega), h.rl.trans (heq _ (by omega) (by omega)).symm, h.rno, h.bod.keepD hr hc⟩, hr, hc⟩
end


end Go.Proofs.Ytbbjecjhkjjbkaa
