/-
  What each call of a controller leaves of its file and of its rows, plain. No condition.
-/
import Derived.Test.YtnojmbejedlilaaGreatQCw
set_option linter.unusedVariables false
set_option linter.unusedSimpArgs false
namespace Go.Proofs.YtnojmbejedlilaaGreat
open Go.Value (int)
open Go.IntKind (i64)
open Go.RowKit
theorem fin_up17 {x : RV} {now : Int} {may : Bool} {a : RV × Int} (ha : a.2 = 0 → a.1.po = x.po ∧ Up17 x a.1) (h : (fin9 x now may a).2 = 0) : (fin9 x now may a).1.po = x.po ∧ Up17 x (fin9 x now may a).1 ∧ a.2 = 0 ∧ (fin9 x now may a).1.ph = a.1.ph:=by
 unfold fin9 at h ⊢
 by_cases hc : may = true ∧ tm9 now = true ∧ x.ok = true
 ·rw [if_pos hc] at h ⊢
  by_cases h0 : a.2 = 0
  ·rw [if_pos h0] at h ⊢
   unfold chk9 at h ⊢
   by_cases hk : RV.ok { a.1 with ve:=x.ve + 1,si:=now } = true
   ·rw [if_pos hk]
    exact ⟨(ha h0).1,(ha h0).2,h0,rfl⟩
   ·rw [if_neg hk] at h
    cases h
  ·rw [if_neg h0] at h
   exact absurd h h0
 ·rw [if_neg hc] at h
  cases h
theorem ag_up17 {x : RV} {ma ow : Int} (h : (agA x ma ow).2 = 0) : (agA x ma ow).1.po = x.po ∧ Up17 x (agA x ma ow).1:=by
 unfold agA at h ⊢
 by_cases h1 : x.ph = 3
 ·rw [if_pos h1] at h ⊢
  by_cases h2 : spn9 x = true
  ·rw [if_pos h2] at h; cases h
  ·rw [if_neg h2]
   exact ⟨rfl, .inl (by show x.ge < x.ge + 1; omega)⟩
 ·rw [if_neg h1] at h; cases h
theorem sta_up17 {x : RV} {c : Int} (h : (stA9 x c).2 = 0) : (stA9 x c).1.po = x.po ∧ Up17 x (stA9 x c).1:=by
 unfold stA9 at h ⊢
 by_cases h1 : x.ph = 0
 ·rw [if_pos h1] at h ⊢
  by_cases h3 : c = x.ow
  ·rw [if_pos h3] at h; cases h
  ·rw [if_neg h3] at h ⊢
   by_cases h2 : spn9 x = true
   ·rw [if_pos h2] at h; cases h
   ·rw [if_neg h2]
    exact ⟨rfl, .inr ⟨rfl, .inl rfl⟩⟩
 ·rw [if_neg h1] at h; cases h
theorem arr_up17 (x : RV) : (arr9 x).po = x.po ∧ Up17 x (arr9 x):=⟨rfl, .inl (by show x.ge < x.ge + 1; omega)⟩
theorem aw_up17 {x : RV} {c ve : Int} (h : (awA x c ve).2 = 0) : (awA x c ve).1.po = x.po ∧ Up17 x (awA x c ve).1:=by
 unfold awA at h ⊢
 by_cases h1 : x.ph = 1
 ·rw [if_pos h1] at h ⊢
  by_cases h2 : ve = x.ve
  ·rw [if_pos h2] at h ⊢
   by_cases h3 : c = x.ta
   ·rw [if_pos h3]; exact arr_up17 x
   ·rw [if_neg h3] at h; cases h
  ·rw [if_neg h2] at h; cases h
 ·rw [if_neg h1] at h; cases h
theorem co_up17 {x : RV} (h : (coA x).2 = 0) : (coA x).1.po = x.po ∧ Up17 x (coA x).1:=by
 unfold coA at h ⊢
 by_cases h1 : x.ph = 1
 ·rw [if_pos h1]; exact arr_up17 x
 ·rw [if_neg h1] at h ⊢
  by_cases h2 : x.ph = 2
  ·rw [if_pos h2]; exact ⟨rfl, .inr ⟨rfl, .inl rfl⟩⟩
  ·rw [if_neg h2] at h; cases h
theorem ab_up17 {x : RV} (h : (abA x).2 = 0) : (abA x).1.po = x.po ∧ Up17 x (abA x).1:=by
 unfold abA at h ⊢
 by_cases h1 : x.ph = 1
 ·rw [if_pos h1]; exact ⟨rfl, .inr ⟨rfl, .inl rfl⟩⟩
 ·rw [if_neg h1] at h; cases h
theorem dr_up17 {x : RV} (h : (drA x).2 = 0) : (drA x).1.po = x.po ∧ Up17 x (drA x).1:=by
 unfold drA at h ⊢
 by_cases h1 : x.ph = 0
 ·rw [if_pos h1]; exact ⟨rfl, .inr ⟨rfl, .inr rfl⟩⟩
 ·rw [if_neg h1] at h; cases h
theorem nx_of17 {C : Int → Bool} {R : Int → Option RV} (hw : WF C R) {z : Int} {x y : RV} (hx : R z = some x) (h : y.po = x.po ∧ Up17 x y) : Nx17 R y:=by
 intro u hu
 have e:=(hw.row z x hx).2.1
 rw [h.1,e,hx] at hu
 injection hu with hu
 rw [← hu]
 exact h.2
theorem liv_some17 {R : Int → Option RV} {po : Int} (h : livE17 R po = 0) : R po = some (livR17 R po):=by
 unfold livE17 at h
 unfold livR17
 cases hR : R po with
 | none=>rw [hR] at h; cases h
 | some r =>
  rw [hR] at h
  simp only at h ⊢
  by_cases hp : r.ph = 3
  ·rw [if_pos hp] at h; cases h
  ·rw [if_neg hp]
theorem bind_nx17 {C : Int → Bool} {R : Int → Option RV} (hw : WF C R) (po c ma now : Int) (h : (bind17 R po c ma now).2 = 0) : Nx17 R (bind17 R po c ma now).1:=by
 unfold bind17 at h ⊢
 cases hR : R po with
 | none =>
  rw [hR] at h
  simp only at h ⊢
  unfold new9 chk9 at h ⊢
  by_cases hk : RV.ok ⟨po,ma,c, -1, -1,1,0,1,now⟩ = true
  ·rw [if_pos hk]
   intro u hu
   have hu : R po = some u:=hu
   rw [hR] at hu
   cases hu
  ·rw [if_neg hk] at h; cases h
 | some r =>
  rw [hR] at h
  simp only at h ⊢
  by_cases hp : r.ph = 3
  ·rw [if_pos hp] at h ⊢
   have:=fin_up17 (fun e=>ag_up17 e) h
   exact nx_of17 hw hR ⟨this.1,this.2.1⟩
  ·rw [if_neg hp] at h; cases h
theorem move_nx17 {C : Int → Bool} {R : Int → Option RV} (hw : WF C R) (op po c now : Int) (h : (move17 R op po c now).2 = 0) : Nx17 R (move17 R op po c now).1:=by
 unfold move17 at h ⊢
 by_cases h0 : livE17 R po = 0
 ·have hR:=liv_some17 h0
  rw [if_pos h0] at h ⊢
  generalize livR17 R po = r at *
  by_cases h3 : op = 3
  ·rw [if_pos h3] at h ⊢
   have:=fin_up17 (fun e=>dr_up17 e) h
   exact nx_of17 hw hR ⟨this.1,this.2.1⟩
  ·rw [if_neg h3] at h ⊢
   by_cases h4 : op = 4
   ·rw [if_pos h4] at h ⊢
    have:=fin_up17 (fun e=>sta_up17 e) h
    exact nx_of17 hw hR ⟨this.1,this.2.1⟩
   ·rw [if_neg h4] at h ⊢
    by_cases h5 : op = 5
    ·rw [if_pos h5] at h ⊢
     have:=fin_up17 (fun e=>co_up17 e) h
     exact nx_of17 hw hR ⟨this.1,this.2.1⟩
    ·rw [if_neg h5] at h ⊢
     have:=fin_up17 (fun e=>ab_up17 e) h
     exact nx_of17 hw hR ⟨this.1,this.2.1⟩
 ·rw [if_neg h0] at h
  exact absurd h h0
theorem ask_cases17 {C : Int → Bool} {R : Int → Option RV} (hw : WF C R) (op po c ma now : Int) (h : (ask17 R op po c ma now).2 = 0) : ((ask17 R op po c ma now).1.k = 0) ∨ (∃ r,(ask17 R op po c ma now).1 = rowR17 r ∧ Nx17 R r) ∨ (∃ z,(ask17 R op po c ma now).1 = ⟨4,z9,z,0⟩ ∨ (ask17 R op po c ma now).1 = ⟨5,z9,z,0⟩):=by
 unfold ask17 at h ⊢
 by_cases h0 : op = 0
 ·rw [if_pos h0]; exact .inr (.inr ⟨c, .inl rfl⟩)
 ·rw [if_neg h0] at h ⊢
  by_cases h1 : op = 1
  ·rw [if_pos h1]; exact .inr (.inr ⟨c, .inr rfl⟩)
  ·rw [if_neg h1] at h ⊢
   by_cases h7 : op = 7
   ·rw [if_pos h7]; exact .inl rfl
   ·rw [if_neg h7] at h ⊢
    by_cases h2 : op = 2
    ·rw [if_pos h2] at h ⊢
     exact .inr (.inl ⟨_,rfl,bind_nx17 hw po c ma now h⟩)
    ·rw [if_neg h2] at h ⊢
     by_cases h3 : op = 3 ∨ op = 4 ∨ op = 5 ∨ op = 6
     ·rw [if_pos h3] at h ⊢
      exact .inr (.inl ⟨_,rfl,move_nx17 hw op po c now h⟩)
     ·rw [if_neg h3] at h
      cases h
theorem go_chas17 {x : KV} {j : Nat} (ho : KOk j x) {r : RcV17} (hk : r.k = 4 ∨ r.k = 5) : Go17 1 x (noteK17 x r):=by
 by_cases h0 : putX17 x r = 0
 ·obtain ⟨e1,e2⟩:=putX_yes17 h0
  have hok:=rc_ok17 (r:=r) ho.wf (by omega) (fun e=>by omega) e1
  have hl:=note_len17 hok h0
  rw [(noteK_yes17 h0).1]
  have hR : (bcS17 x.t r).R = x.t.R ∧ (bcS17 x.t r).bt = x.t.bt:=by
   unfold bcS17
   rw [if_neg (by omega)]
   rcases hk with e | e
   ·rw [if_pos e]; exact ⟨rfl,rfl⟩
   ·rw [if_neg (by omega),if_pos e]; exact ⟨rfl,rfl⟩
  refine ⟨fun hf=>fi_note17 hf hok h0, ?_,rfl,rfl,hR.2, ?_⟩
  ·unfold pot17
   show (putB x.rm x.bs r.bs).length + 35 * phi17 (bcS17 x.t r).R ≤ _
   rw [hR.1]
   omega
  ·show Ri17 x.t (bcS17 x.t r)
   unfold Ri17
   rw [hR.1,hR.2]
   exact Ri17.refl x.t
 ·rw [(noteK_no17 h0).1]
  exact (Go17.refl x).le (by omega)
theorem go_do17 {x : KV} {j : Nat} (ho : KOk j x) (op po c : Int) {ma : Int} (hma : 0 ≤ ma) : Go17 2 x (doK17 x op po c ma).2.2:=by
 have h0:=(Go17.refl x).le (show 0 ≤ 2 by omega)
 unfold doK17 doA17
 split
 ·exact h0
 ·split
  ·rename_i he
   have hm:=ask_ma17 ho.ma op po c hma x.no
   rcases ask_cases17 ho.wf op po c ma x.no he with hk | ⟨r,hr,hn⟩ | ⟨z,hr | hr⟩
   ·unfold doR17
    rw [if_neg (by omega),if_neg (by omega),if_neg (by omega)]
    exact h0
   ·rw [hr] at hm ⊢
    unfold doR17
    rw [if_pos (show (rowR17 r).k = 1 from rfl)]
    split
    ·exact go_chg17 ho hm hn
    ·exact h0
   ·rw [hr]
    unfold doR17
    rw [if_neg (by show ¬ (4 : Int) = 1; decide),if_pos rfl]
    split
    ·refine ((go_chas17 ho (r:=⟨4,z9,z,0⟩) (.inl rfl)).trans (.same (y := { noteK17 x ⟨4,z9,z,0⟩ with B:=at17 x.B z.toNat true }) rfl rfl rfl rfl rfl)).le (by omega)
    ·exact h0
   ·rw [hr]
    unfold doR17
    rw [if_neg (by show ¬ (5 : Int) = 1; decide),if_neg (by show ¬ (5 : Int) = 4; decide),if_pos rfl]
    split
    ·exact (go_chas17 ho (r:=⟨5,z9,z,0⟩) (.inr rfl)).le (by omega)
    ·exact h0
  ·exact h0
theorem late_is17 {C : Int → Bool} {R : Int → Option RV} (hw : WF C R) (now span : Int) {c : CV} (hc : c ∈ lateP R now span) : Nx17 R c.r ∧ lateB (R c.r.po) = true ∧ lateB (some c.r) = false := by
  unfold lateP at hc
  obtain ⟨x, hx, hl⟩ := List.mem_filterMap.1 hc
  obtain ⟨z, hz⟩ := hw.mem.1 hx
  have hpo := (hw.row z x hz).2.1
  unfold lateV at hl
  split at hl
  · rename_i ht
    injection hl with hl
    rw [← hl]
    show Nx17 R (lt9 x now span).1 ∧ lateB (R (lt9 x now span).1.po) = true ∧ lateB (some (lt9 x now span).1) = false
    unfold lt9 at ht ⊢
    split at ht
    · rename_i hh
      rw [if_pos hh]
      show Nx17 R (en9 x now).1 ∧ lateB (R (en9 x now).1.po) = true ∧ lateB (some (en9 x now).1) = false
      have he := hh.1
      unfold en9 at he ⊢
      by_cases h2 : x.ph = 2
      · rw [if_pos h2] at he ⊢
        obtain ⟨a1, a2, a3, a4⟩ := fin_up17 (fun e => co_up17 e) he
        refine ⟨nx_of17 hw hz ⟨a1, a2⟩, ?_, ?_⟩
        · rw [show (co9 x now).1.po = x.po from a1, hpo, hz]
          simp [lateB, h2]
        · have h0 : (co9 x now).1.ph = 0 := by
            rw [show (co9 x now).1.ph = (coA x).1.ph from a4]
            unfold coA
            rw [if_neg (by omega), if_pos h2]
          simp [lateB, h0]
      · rw [if_neg h2] at he ⊢
        obtain ⟨a1, a2, a3, a4⟩ := fin_up17 (fun e => ab_up17 e) he
        have h1 : x.ph = 1 := by
          unfold abA at a3
          by_cases e : x.ph = 1
          · exact e
          · rw [if_neg e] at a3; cases a3
        refine ⟨nx_of17 hw hz ⟨a1, a2⟩, ?_, ?_⟩
        · rw [show (ab9 x now).1.po = x.po from a1, hpo, hz]
          simp [lateB, h1]
        · have h0 : (ab9 x now).1.ph = 0 := by
            rw [show (ab9 x now).1.ph = (abA x).1.ph from a4]
            unfold abA
            rw [if_pos h1]
          simp [lateB, h0]
    · cases ht
  · cases hl
theorem late_po17 {C : Int → Bool} {R : Int → Option RV} (hw : WF C R) (now span : Int) : (lateP R now span).Pairwise (fun a b=>a.r.po ≠ b.r.po):=by
 unfold lateP
 rw [List.pairwise_filterMap]
 refine hw.pair.imp_of_mem ?_
 intro a b ha hb hab c hc d hd
 have hp : ∀ (x : RV) (c : CV),x ∈ rowsP R → lateV now span x = some c → c.r.po = x.po:=by
  intro x c hx hl
  unfold lateV at hl
  split at hl
  ·rename_i ht
   injection hl with hl
   rw [← hl]
   show (lt9 x now span).1.po = x.po
   unfold lt9 at ht ⊢
   split at ht
   ·rename_i hh
    rw [if_pos hh]
    have he:=hh.1
    show (en9 x now).1.po = x.po
    unfold en9 at he ⊢
    by_cases h2 : x.ph = 2
    ·rw [if_pos h2] at he ⊢
     exact (fin_up17 (fun e=>co_up17 e) he).1
    ·rw [if_neg h2] at he ⊢
     exact (fin_up17 (fun e=>ab_up17 e) he).1
   ·cases ht
  ·cases hl
 have h1:=hp a c ha hc
 have h2:=hp b d hb hd
 have h3:=hab.1
 omega
theorem go_exps17 {j : Nat} : ∀ (l : List CV) {x : KV},KOk j x → (∀ c ∈ l,0 ≤ c.r.ma ∧ Nx17 x.t.R c.r ∧ lateB (x.t.R c.r.po) = true ∧ lateB (some c.r) = false) → l.Pairwise (fun a b=>a.r.po ≠ b.r.po) → Go17 0 x (expL17 x l)
 | [],x,_,_,_=>Go17.refl x
 | c :: l,x,ho,hl,hp=>by
  obtain ⟨h1,h2,h3,h4⟩:=hl c (by simp)
  obtain ⟨g1,g2⟩:=go_late17 ho h1 h2 h3 h4
  rw [List.pairwise_cons] at hp
  have hn : ∀ d ∈ l,0 ≤ d.r.ma ∧ Nx17 (chgK17 x c.r).t.R d.r ∧ lateB ((chgK17 x c.r).t.R d.r.po) = true ∧ lateB (some d.r) = false:=by
   intro d hd
   obtain ⟨k1,k2,k3,k4⟩:=hl d (by simp [hd])
   have e:=g2 d.r.po (fun e=>hp.1 d hd e.symm)
   exact ⟨k1,fun u hu=>k2 u (by rw [← e]; exact hu),by rw [e]; exact k3,k4⟩
  exact g1.trans (go_exps17 l (ho.chg c.r h1) hn hp.2)
theorem go_exp17 {x : KV} {j : Nat} (ho : KOk j x) : Go17 0 x (expK17 x) :=
 go_exps17 _ ho (fun c hc=>⟨late_ma17 ho.ma _ _ c hc,late_is17 ho.wf _ _ hc⟩) (late_po17 ho.wf _ _)
theorem go_tick17 {x : KV} {j : Nat} (ho : KOk j x) (now : Int) : Go17 0 x (tickK17 x now).2:=by
 unfold tickK17
 split
 ·exact Go17.refl x
 ·split
  ·exact Go17.refl x
  ·rename_i h
   exact (Go17.same (x:=x) (y := { x with no:=now }) rfl rfl rfl rfl rfl).trans (go_exp17 (ho.now (now:=now) (by have:=ho.no; omega)))
theorem go_hearM17 {x : KV} {j : Nat} (ho : KOk j x) (c : Int) (m : MV) (b : List UInt8) : Go17 2 x (hearM17 x c m b):=by
 have h0:=(Go17.refl x).le (show 0 ≤ 2 by omega)
 unfold hearM17
 cases hR : x.t.R m.pt with
 | none=>exact h0
 | some r =>
  simp only
  split
  ·unfold awK17
   split
   ·rename_i he
    obtain ⟨a1,a2,a3,a4⟩:=fin_up17 (fun e=>aw_up17 e) he
    exact go_chg17 ho (aw_ma17 (ho.ma _ _ hR) _ _ _) (nx_of17 ho.wf hR ⟨a1,a2⟩)
   ·exact h0
  ·split
   ·unfold fwK17
    split
    ·exact h0
    ·split
     ·exact (Go17.same (x:=x) (y := { x with S:=at17 x.S r.ow.toNat (pushS (x.S r.ow.toNat) b) }) rfl rfl rfl rfl rfl).le (by omega)
     ·exact h0
   ·exact h0
theorem go_ref17 (x : KV) (i : Nat) : Go17 0 x (refK17 x i):=by
 unfold refK17
 split
 ·exact .same rfl rfl rfl rfl rfl
 ·exact .refl x
theorem go_take17 {x : KV} {j : Nat} (ho : KOk j x) (c : Int) (b : List UInt8) : Go17 2 x (takeK17 x c b).2.2:=by
 have h0:=(Go17.refl x).le (show 0 ≤ 2 by omega)
 unfold takeK17 takeA17
 split
 ·exact h0
 ·split
  ·split
   ·unfold takeL17
    split
    ·have g1 : Go17 0 x (tkK17 x c.toNat (jL b)) := .same rfl rfl rfl rfl rfl
     have g2:=g1.trans (go_ref17 _ c.toNat)
     have ho2:=(ho.tk c.toNat (jL b)).ref c.toNat
     generalize refK17 (tkK17 x c.toNat (jL b)) c.toNat = y at *
     show Go17 2 x (hearK17 y c _ _).2
     unfold hearK17
     split
     ·split
      ·exact (g2.trans (go_hearM17 ho2 c _ _)).le (by omega)
      ·exact g2.le (by omega)
     ·exact g2.le (by omega)
    ·exact h0
   ·exact h0
  ·exact h0
end Go.Proofs.YtnojmbejedlilaaGreat
