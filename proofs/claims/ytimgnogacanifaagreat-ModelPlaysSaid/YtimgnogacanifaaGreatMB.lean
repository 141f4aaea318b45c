/-
  A model, plain: a port's row, what a call makes of rows and chassis, time, an awakening. No condition.
  Boxes that a call's answer is laid in; a row's nine cells; one change in a slice; a call's four cells. No condition.
-/
import Derived.Test.YtimgnogacanifaaGreatPj
import Derived.Test.YtimgnogacanifaaGreatPd
section
namespace Go.Proofs.YtimgnogacanifaaGreat
open Go.RowKit
set_option linter.unusedVariables false

/-- The row of a port that is not gone. -/
def livE17 (R : Int → Option RV) (po : Int) : Int := match R po with
  | none => 4
  | some r => if r.ph = 3 then 4 else 0
def livR17 (R : Int → Option RV) (po : Int) : RV := match R po with
  | none => z9
  | some r => if r.ph = 3 then z9 else r
/-- What a call makes: a row, an error. -/
def bind17 (R : Int → Option RV) (po c ma now : Int) : RV × Int := match R po with
  | none => new9 po ma c now
  | some r => if r.ph = 3 then ag9 r ma c now else (z9, 5)
def move17 (R : Int → Option RV) (op po c now : Int) : RV × Int :=
  if livE17 R po = 0 then
    (if op = 3 then dr9 (livR17 R po) now else if op = 4 then st9 (livR17 R po) c now else if op = 5 then co9 (livR17 R po) now else ab9 (livR17 R po) now)
  else (z9, livE17 R po)
def rowP20 (R : Int → Option RV) (op po c ma now : Int) : RV × Int := if op = 2 then bind17 R po c ma now else move17 R op po c now
/-- A model: chassis, rows, the span, now. -/
structure MV20 where
  C : Int → Bool
  R : Int → Option RV
  sp : Int
  no : Int
/-- A row that an act told becomes so: the error, the row, the model. -/
def becX20 (x : MV20) (p : RV × Int) : Int := if p.2 = 0 then wrongP x.C x.R ⟨p.1, verP x.R p.1.po⟩ else p.2
def becR20 (x : MV20) (p : RV × Int) : RV := if becX20 x p = 0 then p.1 else z9
def becM20 (x : MV20) (p : RV × Int) : MV20 := if becX20 x p = 0 then { x with R := putR x.R p.1 } else x
def becP20 (x : MV20) (p : RV × Int) : RV × Int × MV20 := (becR20 x p, becX20 x p, becM20 x p)
/-- A call. -/
def doM20 (x : MV20) (op po c ma : Int) : RV × Int × MV20 :=
  if op = 0 then (z9, addP x.C c, { x with C := addK x.C c })
  else if op = 1 then (z9, remP x.C x.R c, { x with C := remK x.C x.R c })
  else if op = 7 then (livR17 x.R po, livE17 x.R po, x)
  else if op = 2 then becP20 x (bind17 x.R po c ma x.no)
  else if op = 3 ∨ op = 4 ∨ op = 5 ∨ op = 6 then becP20 x (move17 x.R op po c x.no)
  else (z9, 1, x)
/-- Time. -/
def tickM20 (x : MV20) (now : Int) : Int × MV20 := if now < x.no ∨ 1099511627776 < now then (1, x) else (0, { x with no := now, R := appK x.C (lateP x.R now x.sp) x.R })
/-- Somebody is awake. -/
def awP20 (x : MV20) (by_ po ver : Int) : RV × Int := if livE17 x.R po = 0 then aw9 (livR17 x.R po) by_ ver x.no else (z9, livE17 x.R po)
/-- A row that was told by an act on a row that is there: its version is one more. -/
def Fit20 (R : Int → Option RV) (p : RV × Int) : Prop := p.2 = 0 → verP R p.1.po = p.1.ve - 1 ∧ 1 ≤ p.1.ve ∧ p.1.ve ≤ 1099511627776

theorem liv_some20 {R : Int → Option RV} {po : Int} (h : livE17 R po = 0) : ∃ x, R po = some x ∧ x.ph ≠ 3 ∧ livR17 R po = x := by
  unfold livE17 at h
  unfold livR17
  cases hR : R po with
  | none => rw [hR] at h; cases h
  | some x =>
    rw [hR] at h
    dsimp only at h ⊢
    by_cases h3 : x.ph = 3
    · rw [if_pos h3] at h; cases h
    · exact ⟨x, rfl, h3, if_neg h3⟩
theorem fin_fit20 {R : Int → Option RV} {x : RV} (hx : R x.po = some x) (now : Int) (may : Bool) (a : RV × Int) (ha : a.2 = 0 → a.1.po = x.po) : Fit20 R (fin9 x now may a) := by
  intro h
  unfold fin9 at h ⊢
  by_cases c : may = true ∧ tm9 now = true ∧ x.ok = true
  · rw [if_pos c] at h ⊢
    by_cases e : a.2 = 0
    · rw [if_pos e] at h ⊢
      unfold chk9 at h ⊢
      by_cases k : RV.ok { a.1 with ve := x.ve + 1, si := now } = true
      · rw [if_pos k]
        have hb := (RV.bd k).2.1
        refine ⟨?_, hb⟩
        show verP R a.1.po = x.ve + 1 - 1
        unfold verP
        rw [ha e, hx]
        show x.ve = x.ve + 1 - 1
        omega
      · rw [if_neg k] at h; cases h
    · rw [if_neg e] at h; exact absurd h e
  · rw [if_neg c] at h; cases h
theorem po_ag20 (x : RV) (m o : Int) : (agA x m o).1.po = x.po := by unfold agA; repeat' (first | rfl | split)
theorem po_st20 (x : RV) (t : Int) : (stA9 x t).1.po = x.po := by unfold stA9; repeat' (first | rfl | split)
theorem po_aw20 (x : RV) (t v : Int) : (awA x t v).1.po = x.po := by unfold awA arr9; repeat' (first | rfl | split)
theorem po_co20 (x : RV) : (coA x).1.po = x.po := by unfold coA arr9; repeat' (first | rfl | split)
theorem po_ab20 (x : RV) : (abA x).1.po = x.po := by unfold abA; repeat' (first | rfl | split)
theorem po_dr20 (x : RV) : (drA x).1.po = x.po := by unfold drA; repeat' (first | rfl | split)
section
variable {C : Int → Bool} {R : Int → Option RV}
theorem WF.self20 (h : WF C R) {po : Int} {x : RV} (hx : R po = some x) : R x.po = some x := by rw [(h.row po x hx).2.1]; exact hx
theorem WF.fitB20 (h : WF C R) (po c ma now : Int) : Fit20 R (bind17 R po c ma now) := by
  unfold bind17
  cases hR : R po with
  | none =>
    intro he
    dsimp only at he ⊢
    unfold new9 chk9 at he ⊢
    by_cases k : RV.ok ⟨po, ma, c, -1, -1, 1, 0, 1, now⟩ = true
    · rw [if_pos k]
      refine ⟨?_, (by decide : (1 : Int) ≤ 1), (by decide : (1 : Int) ≤ 1099511627776)⟩
      show verP R po = 1 - 1
      unfold verP
      rw [hR]
      rfl
    · rw [if_neg k] at he; cases he
  | some x =>
    dsimp only
    split
    · exact fin_fit20 (h.self20 hR) _ _ _ (fun _ => po_ag20 _ _ _)
    · intro he; cases he
theorem WF.fitM20 (h : WF C R) (op po c now : Int) : Fit20 R (move17 R op po c now) := by
  unfold move17
  by_cases hl : livE17 R po = 0
  · obtain ⟨x, hx, -, e⟩ := liv_some20 hl
    have hs := h.self20 hx
    rw [if_pos hl, e]
    split
    · exact fin_fit20 hs _ _ _ (fun _ => po_dr20 _)
    · split
      · exact fin_fit20 hs _ _ _ (fun _ => po_st20 _ _)
      · split
        · exact fin_fit20 hs _ _ _ (fun _ => po_co20 _)
        · exact fin_fit20 hs _ _ _ (fun _ => po_ab20 _)
  · rw [if_neg hl]
    intro he
    exact absurd he hl
theorem WF.fitA20 (h : WF C R) {sp no : Int} (by_ po ver : Int) : Fit20 R (awP20 ⟨C, R, sp, no⟩ by_ po ver) := by
  unfold awP20
  dsimp only
  by_cases hl : livE17 R po = 0
  · obtain ⟨x, hx, -, e⟩ := liv_some20 hl
    rw [if_pos hl, e]
    exact fin_fit20 (h.self20 hx) _ _ _ (fun _ => po_aw20 _ _ _)
  · rw [if_neg hl]
    intro he
    exact absurd he hl
theorem WF.doR20 (h : WF C R) (c : CV) : WF C (doR C R c) := by
  unfold doR
  split
  · rename_i e; exact h.put e
  · exact h
theorem WF.appK20 (h : WF C R) (l : List CV) : WF C (appK C l R) := by
  unfold appK
  split
  · exact h.app l R
  · exact h
end
/-- What always holds of a model. -/
def MOk20 (x : MV20) : Prop := WF x.C x.R ∧ 1 ≤ x.sp ∧ x.sp ≤ 2147483648
theorem MOk20.bec {x : MV20} (h : MOk20 x) (p : RV × Int) : MOk20 (becM20 x p) := by
  unfold becM20
  split
  · rename_i e
    unfold becX20 at e
    split at e
    · exact ⟨h.1.put e, h.2⟩
    · rename_i hh; exact absurd e hh
  · exact h
theorem MOk20.do_ {x : MV20} (h : MOk20 x) (op po c ma : Int) : MOk20 (doM20 x op po c ma).2.2 := by
  unfold doM20
  split
  · exact ⟨h.1.addK c, h.2⟩
  · split
    · exact ⟨h.1.remK c, h.2⟩
    · split
      · exact h
      · split
        · exact h.bec _
        · split
          · exact h.bec _
          · exact h
theorem MOk20.tick {x : MV20} (h : MOk20 x) (now : Int) : MOk20 (tickM20 x now).2 := by
  unfold tickM20
  split
  · exact h
  · exact ⟨h.1.appK20 _, h.2⟩
theorem addK_err20 {C : Int → Bool} {z : Int} (h : addP C z ≠ 0) : addK C z = C := if_neg h
theorem remK_err20 {C : Int → Bool} {R : Int → Option RV} {z : Int} (h : remP C R z ≠ 0) : remK C R z = C := if_neg h
/-- What has an error changes nothing. -/
theorem do_err20 {x : MV20} {op po c ma : Int} (h : (doM20 x op po c ma).2.1 ≠ 0) : (doM20 x op po c ma).2.2 = x := by
  have hb : ∀ p : RV × Int, (becP20 x p).2.1 ≠ 0 → (becP20 x p).2.2 = x := fun p hp => if_neg hp
  unfold doM20 at h ⊢
  by_cases o0 : op = 0
  · rw [if_pos o0] at h ⊢
    show ({ x with C := addK x.C c } : MV20) = x
    rw [addK_err20 h]
  · rw [if_neg o0] at h ⊢
    by_cases o1 : op = 1
    · rw [if_pos o1] at h ⊢
      show ({ x with C := remK x.C x.R c } : MV20) = x
      rw [remK_err20 h]
    · rw [if_neg o1] at h ⊢
      by_cases o7 : op = 7
      · rw [if_pos o7]
      · rw [if_neg o7] at h ⊢
        by_cases o2 : op = 2
        · rw [if_pos o2] at h ⊢
          exact hb _ h
        · rw [if_neg o2] at h ⊢
          by_cases o3 : op = 3 ∨ op = 4 ∨ op = 5 ∨ op = 6
          · rw [if_pos o3] at h ⊢
            exact hb _ h
          · rw [if_neg o3]
/-- A row that is late goes on, whatever else did. -/
theorem late_ok20 {C : Int → Bool} {R : Int → Option RV} (h : WF C R) {x : RV} {now sp : Int} {c : CV} (hx : R x.po = some x) (hl : lateV now sp x = some c) : wrongP C R c = 0 ∧ c.was = verP R c.r.po ∧ c.r.po = x.po := by
  obtain ⟨hok, -, hlk⟩ := h.row _ _ hx
  unfold lateV at hl
  split at hl
  case isFalse => cases hl
  case isTrue ht =>
    injection hl with hl
    subst hl
    unfold lt9 at ht ⊢
    split at ht
    case isFalse => cases ht
    case isTrue he =>
      rw [if_pos he]
      obtain ⟨he, -⟩ := he
      rw [lack_iff] at hlk
      have key : ∀ a : RV × Int, (a.2 = 0 → a.1.po = x.po ∧ a.1.ma = x.ma ∧ a.1.ph ≠ 3 ∧ x.ph ≠ 3 ∧ gapP C a.1.ow = false ∧ gapP C a.1.ta = false ∧ gapP C a.1.ol = false) → (fin9 x now true a).2 = 0 → wrongP C R ⟨(fin9 x now true a).1, x.ve⟩ = 0 ∧ x.ve = verP R (fin9 x now true a).1.po ∧ (fin9 x now true a).1.po = x.po := by
        intro a ha hf
        unfold fin9 at hf ⊢
        split at hf
        case isFalse => cases hf
        case isTrue hc =>
          rw [if_pos hc]
          split at hf
          case isFalse hn => exact absurd hf hn
          case isTrue h0 =>
            rw [if_pos h0]
            obtain ⟨a1, a2, a3, a4, a5, a6, a7⟩ := ha h0
            unfold chk9 at hf ⊢
            split at hf
            case isFalse => cases hf
            case isTrue hk =>
              rw [if_pos hk]
              have hv : verP R a.1.po = x.ve := by unfold verP; rw [a1, hx]; rfl
              refine ⟨?_, hv.symm, a1⟩
              unfold wrongP
              rw [if_neg (by simp only [hk]; simp; omega)]
              rw [if_neg (by rw [show lackP C { a.1 with ve := x.ve + 1, si := now } = false from lack_iff.2 ⟨a5, a6, a7⟩]; decide)]
              rw [if_neg (by show ¬ (verP R a.1.po != x.ve) = true; rw [hv]; simp)]
              rw [if_neg]
              intro ht
              obtain ⟨-, z, u, hz, hne, g, hm⟩ := (h.take _).1 ht
              have e1 := h.one z x.po u x hz hx g a4 (hm.trans a2)
              exact hne (e1.trans a1.symm)
      unfold en9 at he ⊢
      have hg : gapP C (-1) = false := gap_of.2 (.inl rfl)
      split
      · rename_i h2
        rw [if_pos h2] at he
        refine key _ (fun h0 => ?_) he
        unfold coA at h0 ⊢
        rw [if_neg (by omega), if_pos h2]
        exact ⟨rfl, rfl, (by decide : (0 : Int) ≠ 3), by omega, hlk.1, hlk.2.1, hg⟩
      · rename_i h2
        rw [if_neg h2] at he
        refine key _ (fun h0 => ?_) he
        unfold abA at h0 ⊢
        split at h0
        · rename_i h1
          rw [if_pos h1]
          exact ⟨rfl, rfl, (by decide : (0 : Int) ≠ 3), by omega, hlk.1, hg, hlk.2.2⟩
        · cases h0
/-- What is late, one by one, by the versions that are. -/
def setR20 (C : Int → Bool) (R : Int → Option RV) (c : CV) : Int → Option RV := doR C R ⟨c.r, verP R c.r.po⟩
theorem lates_ok20 {C : Int → Bool} (now sp : Int) : ∀ (l : List RV) (R : Int → Option RV), WF C R → l.Pairwise (fun x y => x.po ≠ y.po) → (∀ x ∈ l, R x.po = some x) →
    appP C (l.filterMap (lateV now sp)) R = (0, (l.filterMap (lateV now sp)).foldl (setR20 C) R)
  | [], R, _, _, _ => rfl
  | x :: l, R, h, hp, hm => by
    rw [List.pairwise_cons] at hp
    rw [List.filterMap_cons]
    cases hl : lateV now sp x with
    | none => exact lates_ok20 now sp l R h hp.2 (fun y hy => hm y (List.mem_cons_of_mem _ hy))
    | some c =>
      obtain ⟨hw, hv, hpo⟩ := late_ok20 h (hm x List.mem_cons_self) hl
      have hc : setR20 C R c = putR R c.r := by
        unfold setR20 doR
        rw [← hv, if_pos hw]
      show appP C (c :: _) R = (0, List.foldl (setR20 C) (setR20 C R c) _)
      unfold appP
      rw [if_pos hw, hc]
      refine lates_ok20 now sp l (putR R c.r) (h.put hw) hp.2 (fun y hy => ?_)
      unfold putR
      rw [if_neg (fun e => hp.1 y hy (by omega))]
      exact hm y (List.mem_cons_of_mem _ hy)
theorem WF.lates20 {C : Int → Bool} {R : Int → Option RV} (h : WF C R) (now sp : Int) : appP C (lateP R now sp) R = (0, (lateP R now sp).foldl (setR20 C) R) := by
  refine lates_ok20 now sp (rowsP R) R h ?_ (fun x hx => ?_)
  · exact h.pair.imp (fun hxy => by have := hxy.1; omega)
  · obtain ⟨z, hz⟩ := h.mem.1 hx
    exact h.self20 hz
/-- A clone's chassis, and rows, one by one. -/
theorem addK_in20 (C : Int → Bool) {z : Int} (h : 0 ≤ z ∧ z ≤ 15) : addK C z = fun y => C y || y == z := by
  have e : addP C z = if C z = true then 5 else 0 := by
    unfold addP
    rw [if_neg (by simp; omega)]
  funext y
  unfold addK
  rw [e]
  by_cases hz : C z = true
  · rw [if_pos hz, if_neg (by decide)]
    by_cases hy : y = z
    · subst hy; simp [hz]
    · simp [hy]
  · rw [if_neg hz, if_pos rfl]
    unfold addC
    by_cases hy : y = z
    · simp [hy]
    · simp [hy]
theorem adds20 : ∀ (l : List Int) (C : Int → Bool), (∀ z ∈ l, 0 ≤ z ∧ z ≤ 15) → l.foldl addK C = fun y => C y || l.contains y
  | [], C, _ => by funext y; simp
  | z :: l, C, h => by
    rw [List.foldl_cons, addK_in20 C (h z List.mem_cons_self), adds20 l _ (fun y hy => h y (List.mem_cons_of_mem _ hy))]
    funext y
    simp only [List.contains_cons, Bool.or_assoc]
theorem WF.chas20 {C : Int → Bool} {R : Int → Option RV} (h : WF C R) : (chasP C).foldl Go.Proofs.YtimgnogacanifaaGreat.addK (fun _ => false) = C := by
  have hm : ∀ z, z ∈ chasP C ↔ C z = true := by
    intro z
    unfold chasP
    rw [List.mem_filter, List.mem_map]
    constructor
    · exact fun hz => hz.2
    · intro hz
      have := h.ch z hz
      exact ⟨⟨z.toNat, List.mem_range.2 (by omega), Int.toNat_of_nonneg this.1⟩, hz⟩
  rw [adds20 _ _ (fun z hz => h.ch z ((hm z).1 hz))]
  funext y
  have := hm y
  cases hy : C y
  · simp only [Bool.false_or]
    cases hc : (chasP C).contains y
    · rfl
    · rw [List.contains_iff_mem, this, hy] at hc; cases hc
  · simp only [Bool.false_or]
    rw [List.contains_iff_mem, this]
    exact hy
def cpR20 (C : Int → Bool) (R : Int → Option RV) (x : RV) : Int → Option RV := doR C R ⟨x, 0⟩
theorem copies20 {C : Int → Bool} {R : Int → Option RV} (h : WF C R) : ∀ (l : List RV) (S : Int → Option RV), WF C S → (∀ z x, S z = some x → R z = some x) → l.Pairwise (fun x y => x.po ≠ y.po) → (∀ x ∈ l, R x.po = some x ∧ S x.po = none) →
    ∀ z, (l.foldl (cpR20 C) S) z = if (∃ x ∈ l, x.po = z) then R z else S z
  | [], S, _, _, _, _ => fun z => by simp
  | x :: l, S, hS, hsub, hp, hm => fun z => by
    rw [List.pairwise_cons] at hp
    obtain ⟨hx, hn⟩ := hm x List.mem_cons_self
    obtain ⟨hok, -, hlk⟩ := h.row _ _ hx
    have hv := h.ver hx
    have hw : wrongP C S ⟨x, 0⟩ = 0 := by
      unfold wrongP
      rw [if_neg (by simp only [hok]; simp; omega)]
      rw [if_neg (by rw [hlk]; decide)]
      rw [if_neg (by unfold verP; rw [hn]; exact (by decide : ¬ ((0 : Int) != 0) = true))]
      rw [if_neg]
      intro ht
      obtain ⟨g, y, u, hy, hne, gu, hma⟩ := (hS.take x).1 ht
      exact hne (h.one y x.po u x (hsub _ _ hy) hx gu g hma)
    have hc : cpR20 C S x = putR S x := if_pos hw
    rw [List.foldl_cons, hc, copies20 h l (putR S x) (hS.put hw) (fun y u hu => by
      unfold putR at hu
      split at hu
      · rename_i e; injection hu with hu; subst hu; subst e; exact hx
      · exact hsub y u hu) hp.2 (fun y hy => ⟨(hm y (List.mem_cons_of_mem _ hy)).1, by
        unfold putR
        rw [if_neg (fun e => hp.1 y hy e.symm)]
        exact (hm y (List.mem_cons_of_mem _ hy)).2⟩) z]
    by_cases h1 : ∃ y ∈ l, y.po = z
    · obtain ⟨y, hy, e⟩ := h1
      rw [if_pos ⟨y, hy, e⟩, if_pos ⟨y, List.mem_cons_of_mem _ hy, e⟩]
    · rw [if_neg h1]
      by_cases h2 : z = x.po
      · subst h2
        rw [if_pos ⟨x, List.mem_cons_self, rfl⟩, hx]
        unfold putR
        rw [if_pos rfl]
      · rw [if_neg (by
          rintro ⟨y, hy, e⟩
          rcases List.mem_cons.1 hy with rfl | hy
          · exact h2 e.symm
          · exact h1 ⟨y, hy, e⟩)]
        unfold putR
        rw [if_neg h2]
theorem WF.rows20 {C : Int → Bool} {R : Int → Option RV} (h : WF C R) : (rowsP R).foldl (cpR20 C) (fun _ => none) = R := by
  funext z
  have hs : WF C (fun _ => none) := ⟨h.ch, by simp, by simp⟩
  rw [copies20 h (rowsP R) _ hs (by simp) (h.pair.imp (fun hxy => by have := hxy.1; omega)) (fun x hx => by
    obtain ⟨y, hy⟩ := h.mem.1 hx
    exact ⟨h.self20 hy, rfl⟩) z]
  cases hz : R z with
  | none =>
    split <;> rfl
  | some x =>
    rw [if_pos ⟨x, h.mem.2 ⟨z, hz⟩, (h.row z x hz).2.1⟩]

end Go.Proofs.YtimgnogacanifaaGreat
end

section
namespace Go.Proofs.YtimgnogacanifaaGreat
open Go.RowKit
set_option linter.unusedVariables false
set_option linter.unusedSimpArgs false

theorem CS.lt3 {B : Nat} {w : World} {p bc br : Nat} {C : Int → Bool} {R : Int → Option RV} (h : CS B w p bc br C R) : p < w.heap.size ∧ bc < w.heap.size ∧ br < w.heap.size := ⟨h.blk.lt, h.ch.lt, h.ro.lt⟩
/-- A box, and a value, behind a call that hands back both. -/
def BX17 (T : TypeId) (cs : Array Value) (v : Value) (w1 : World) (s5 s6 : Value) (wx : World) : Prop :=
  ∃ Q, s5 = .pointer (some ⟨Q, 0, none⟩) ∧ s6 = v ∧ Blk wx Q T cs ∧ Chg (fun _ => False) w1 wx ∧ w1.heap.size ≤ Q
theorem rv_put17 {w : World} {r : Nat} {T : TypeId} {cs : Array Value} (hb : Blk w r T cs) (hs : cs.size = 9) (po : Int) (ma : Int) (ow : Int) (ta : Int) (ol : Int) (ge : Int) (ph : Int) (ve : Int) (si : Int) :
    (w.setCell ⟨r, 0, none⟩ (.int .i64 po)).cell? ⟨r, 0, none⟩ = some (.int .i64 po) ∧ ((w.setCell ⟨r, 0, none⟩ (.int .i64 po)).setCell ⟨r, 1, none⟩ (.int .u64 ma)).cell? ⟨r, 1, none⟩ = some (.int .u64 ma) ∧ (((w.setCell ⟨r, 0, none⟩ (.int .i64 po)).setCell ⟨r, 1, none⟩ (.int .u64 ma)).setCell ⟨r, 2, none⟩ (.int .i64 ow)).cell? ⟨r, 2, none⟩ = some (.int .i64 ow) ∧ ((((w.setCell ⟨r, 0, none⟩ (.int .i64 po)).setCell ⟨r, 1, none⟩ (.int .u64 ma)).setCell ⟨r, 2, none⟩ (.int .i64 ow)).setCell ⟨r, 3, none⟩ (.int .i64 ta)).cell? ⟨r, 3, none⟩ = some (.int .i64 ta) ∧ (((((w.setCell ⟨r, 0, none⟩ (.int .i64 po)).setCell ⟨r, 1, none⟩ (.int .u64 ma)).setCell ⟨r, 2, none⟩ (.int .i64 ow)).setCell ⟨r, 3, none⟩ (.int .i64 ta)).setCell ⟨r, 4, none⟩ (.int .i64 ol)).cell? ⟨r, 4, none⟩ = some (.int .i64 ol) ∧ ((((((w.setCell ⟨r, 0, none⟩ (.int .i64 po)).setCell ⟨r, 1, none⟩ (.int .u64 ma)).setCell ⟨r, 2, none⟩ (.int .i64 ow)).setCell ⟨r, 3, none⟩ (.int .i64 ta)).setCell ⟨r, 4, none⟩ (.int .i64 ol)).setCell ⟨r, 5, none⟩ (.int .i64 ge)).cell? ⟨r, 5, none⟩ = some (.int .i64 ge) ∧ (((((((w.setCell ⟨r, 0, none⟩ (.int .i64 po)).setCell ⟨r, 1, none⟩ (.int .u64 ma)).setCell ⟨r, 2, none⟩ (.int .i64 ow)).setCell ⟨r, 3, none⟩ (.int .i64 ta)).setCell ⟨r, 4, none⟩ (.int .i64 ol)).setCell ⟨r, 5, none⟩ (.int .i64 ge)).setCell ⟨r, 6, none⟩ (.int .i64 ph)).cell? ⟨r, 6, none⟩ = some (.int .i64 ph) ∧ ((((((((w.setCell ⟨r, 0, none⟩ (.int .i64 po)).setCell ⟨r, 1, none⟩ (.int .u64 ma)).setCell ⟨r, 2, none⟩ (.int .i64 ow)).setCell ⟨r, 3, none⟩ (.int .i64 ta)).setCell ⟨r, 4, none⟩ (.int .i64 ol)).setCell ⟨r, 5, none⟩ (.int .i64 ge)).setCell ⟨r, 6, none⟩ (.int .i64 ph)).setCell ⟨r, 7, none⟩ (.int .i64 ve)).cell? ⟨r, 7, none⟩ = some (.int .i64 ve) ∧ (((((((((w.setCell ⟨r, 0, none⟩ (.int .i64 po)).setCell ⟨r, 1, none⟩ (.int .u64 ma)).setCell ⟨r, 2, none⟩ (.int .i64 ow)).setCell ⟨r, 3, none⟩ (.int .i64 ta)).setCell ⟨r, 4, none⟩ (.int .i64 ol)).setCell ⟨r, 5, none⟩ (.int .i64 ge)).setCell ⟨r, 6, none⟩ (.int .i64 ph)).setCell ⟨r, 7, none⟩ (.int .i64 ve)).setCell ⟨r, 8, none⟩ (.int .i64 si)).cell? ⟨r, 8, none⟩ = some (.int .i64 si) ∧ Chg (fun k => k = r) w (((((((((w.setCell ⟨r, 0, none⟩ (.int .i64 po)).setCell ⟨r, 1, none⟩ (.int .u64 ma)).setCell ⟨r, 2, none⟩ (.int .i64 ow)).setCell ⟨r, 3, none⟩ (.int .i64 ta)).setCell ⟨r, 4, none⟩ (.int .i64 ol)).setCell ⟨r, 5, none⟩ (.int .i64 ge)).setCell ⟨r, 6, none⟩ (.int .i64 ph)).setCell ⟨r, 7, none⟩ (.int .i64 ve)).setCell ⟨r, 8, none⟩ (.int .i64 si)) := by
  have h0 := hb.set 0 (.int .i64 po)
  have r0 := h0.cell 0
  rw [Array.getElem?_setIfInBounds_self_of_lt (by simp [hs])] at r0
  have h1 := h0.set 1 (.int .u64 ma)
  have r1 := h1.cell 1
  rw [Array.getElem?_setIfInBounds_self_of_lt (by simp [hs])] at r1
  have h2 := h1.set 2 (.int .i64 ow)
  have r2 := h2.cell 2
  rw [Array.getElem?_setIfInBounds_self_of_lt (by simp [hs])] at r2
  have h3 := h2.set 3 (.int .i64 ta)
  have r3 := h3.cell 3
  rw [Array.getElem?_setIfInBounds_self_of_lt (by simp [hs])] at r3
  have h4 := h3.set 4 (.int .i64 ol)
  have r4 := h4.cell 4
  rw [Array.getElem?_setIfInBounds_self_of_lt (by simp [hs])] at r4
  have h5 := h4.set 5 (.int .i64 ge)
  have r5 := h5.cell 5
  rw [Array.getElem?_setIfInBounds_self_of_lt (by simp [hs])] at r5
  have h6 := h5.set 6 (.int .i64 ph)
  have r6 := h6.cell 6
  rw [Array.getElem?_setIfInBounds_self_of_lt (by simp [hs])] at r6
  have h7 := h6.set 7 (.int .i64 ve)
  have r7 := h7.cell 7
  rw [Array.getElem?_setIfInBounds_self_of_lt (by simp [hs])] at r7
  have h8 := h7.set 8 (.int .i64 si)
  have r8 := h8.cell 8
  rw [Array.getElem?_setIfInBounds_self_of_lt (by simp [hs])] at r8
  exact ⟨r0, r1, r2, r3, r4, r5, r6, r7, r8, (((((((((Chg.refl (fun k => k = r) w).put r 0 (fun _ => rfl) _).put r 1 (fun _ => rfl) _).put r 2 (fun _ => rfl) _).put r 3 (fun _ => rfl) _).put r 4 (fun _ => rfl) _).put r 5 (fun _ => rfl) _).put r 6 (fun _ => rfl) _).put r 7 (fun _ => rfl) _).put r 8 (fun _ => rfl) _⟩
theorem rv_set17 {w : World} {r : Nat} {T : TypeId} {a0 a1 a2 a3 a4 a5 a6 a7 a8 : Int} (hb : Blk w r T (rvC a0 a1 a2 a3 a4 a5 a6 a7 a8)) (po : Int) (ma : Int) (ow : Int) (ta : Int) (ol : Int) (ge : Int) (ph : Int) (ve : Int) (si : Int) : Blk (((((((((w.setCell ⟨r, 0, none⟩ (.int .i64 po)).setCell ⟨r, 1, none⟩ (.int .u64 ma)).setCell ⟨r, 2, none⟩ (.int .i64 ow)).setCell ⟨r, 3, none⟩ (.int .i64 ta)).setCell ⟨r, 4, none⟩ (.int .i64 ol)).setCell ⟨r, 5, none⟩ (.int .i64 ge)).setCell ⟨r, 6, none⟩ (.int .i64 ph)).setCell ⟨r, 7, none⟩ (.int .i64 ve)).setCell ⟨r, 8, none⟩ (.int .i64 si)) r T #[.int .i64 po, .int .u64 ma, .int .i64 ow, .int .i64 ta, .int .i64 ol, .int .i64 ge, .int .i64 ph, .int .i64 ve, .int .i64 si] := by
  unfold rvC at hb
  have h0 := hb.set 0 (.int .i64 po)
  have h1 := h0.set 1 (.int .u64 ma)
  have h2 := h1.set 2 (.int .i64 ow)
  have h3 := h2.set 3 (.int .i64 ta)
  have h4 := h3.set 4 (.int .i64 ol)
  have h5 := h4.set 5 (.int .i64 ge)
  have h6 := h5.set 6 (.int .i64 ph)
  have h7 := h6.set 7 (.int .i64 ve)
  have h8 := h7.set 8 (.int .i64 si)
  simp only [List.setIfInBounds_toArray, List.set_cons_zero, List.set_cons_succ] at h8
  exact h8
theorem app_one17 (C : Int → Bool) (R : Int → Option RV) (c : CV) : (appP C [c] R).1 = wrongP C R c ∧ appK C [c] R = doR C R c := by
  have h : appP C [c] R = if wrongP C R c = 0 then appP C [] (putR R c.r) else (wrongP C R c, R) := rfl
  unfold appK doR
  by_cases hw : wrongP C R c = 0
  · rw [h, if_pos hw]
    exact ⟨hw.symm, by rw [if_pos (show (appP C [] (putR R c.r)).1 = 0 from rfl), if_pos hw]; rfl⟩
  · rw [h, if_neg hw]
    exact ⟨rfl, by rw [if_neg hw, if_neg hw]⟩
theorem Chg.widen17 {S S' : Nat → Prop} {a w w' : World} (h : Chg (fun _ => False) a w) (k : Chg S w w') (hs : ∀ i, S i → S' i) : Chg S' a w' :=
  (h.mono (fun _ _ e => e.elim)).trans k (fun i _ e => hs i e)
theorem sr_one17 {w : World} {q : Nat} {T : TypeId} {c : CV} (h : Blk w q T c.cs) : SR 10 CV.cs w (fun k => k = q) (some ⟨q, 0, none⟩) 1 [c] := by
  refine ⟨rfl, fun _ => ⟨_, rfl, rfl, h.lt, fun i x hx j u hu => ?_⟩⟩
  have hi : i = 0 := by have := (List.getElem?_eq_some_iff.1 hx).1; simpa using this
  subst hi
  simp only [List.getElem?_cons_zero, Option.some.injEq] at hx
  subst hx
  rw [show 0 * 10 + j = j by omega]
  have hc := (h.cell j).trans hu
  unfold Addr.add
  split
  · rename_i e; subst e; exact hc
  · rw [show (0 : Nat) + j = j by omega]; exact hc
theorem cl_cells17 {w : World} {q : Nat} {T : TypeId} {op po ch ma : Int} (h : Blk w q T #[.int .i64 op, .int .i64 po, .int .i64 ch, .int .u64 ma]) : w.cell? ⟨q, 0, none⟩ = some (.int .i64 op) ∧ w.cell? ⟨q, 1, none⟩ = some (.int .i64 po) ∧ w.cell? ⟨q, 2, none⟩ = some (.int .i64 ch) ∧ w.cell? ⟨q, 3, none⟩ = some (.int .u64 ma) := ⟨h.cell 0, h.cell 1, h.cell 2, h.cell 3⟩

end Go.Proofs.YtimgnogacanifaaGreat
end
