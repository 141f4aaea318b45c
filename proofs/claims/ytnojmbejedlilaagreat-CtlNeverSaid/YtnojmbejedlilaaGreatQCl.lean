/-
  Walks: ctl.tell, with its closure, change. Conditions: the controller lies in memory, and holds what always holds; the row may be.
-/
import Derived.Test.YtnojmbejedlilaaGreatQCk
import Derived.Test.YtnojmbejedlilaaGreatQCc
import Derived.Test.YtnojmbejedlilaaGreatQM8
import Derived.Deep.RegionHeld3
import Derived.RegionTactic
set_option maxRecDepth 100000
set_option maxHeartbeats 40000000
set_option linter.unusedVariables false
set_option linter.unusedSimpArgs false
namespace Go.Proofs.YtnojmbejedlilaaGreat
open Go.Value (int)
open Go.IntKind (i64)
open Go.RowKit
def tellI17 (x : KV) (i : Nat) (b : List UInt8) : KV:=if 0 < (x.S i).pe then { x with S:=at17 x.S i (pushS (x.S i) b),B:=if pushE (x.S i) b = 0 then x.B else at17 x.B i true } else x
def tellL17 (x : KV) (l : List Int) (b : List UInt8) : KV := { x with S:=fun i=>if decide ((i : Int) ∈ l) && decide (0 < (x.S i).pe) then pushS (x.S i) b else x.S i,B:=fun i=>x.B i || (decide ((i : Int) ∈ l) && decide (0 < (x.S i).pe) && pushE (x.S i) b != 0) }
theorem tellL_nil17 (x : KV) (b : List UInt8) : tellL17 x [] b = x:=by
 unfold tellL17
 simp
theorem tellL_snoc17 (x : KV) (l : List Int) (b : List UInt8) (i : Nat) (hn : ¬ (i : Int) ∈ l) : tellI17 (tellL17 x l b) i b = tellL17 x (l ++ [(i : Int)]) b := by
  have hS : (tellL17 x l b).S i = x.S i := by
    show (if decide ((i : Int) ∈ l) && decide (0 < (x.S i).pe) then pushS (x.S i) b else x.S i) = x.S i
    rw [decide_eq_false hn, Bool.false_and]
    rfl
  have hB : (tellL17 x l b).B i = x.B i := by
    show (x.B i || (decide ((i : Int) ∈ l) && decide (0 < (x.S i).pe) && pushE (x.S i) b != 0)) = x.B i
    rw [decide_eq_false hn]
    simp
  unfold tellI17
  rw [hS]
  by_cases hp : 0 < (x.S i).pe
  · rw [if_pos hp]
    have e1 : at17 (tellL17 x l b).S i (pushS (x.S i) b) = (tellL17 x (l ++ [(i : Int)]) b).S := by
      funext k
      by_cases hk : k = i
      · subst hk
        rw [at17_self]
        show _ = (if decide ((k : Int) ∈ l ++ [(k : Int)]) && decide (0 < (x.S k).pe) then pushS (x.S k) b else x.S k)
        rw [decide_eq_true (by simp), decide_eq_true hp]
        rfl
      · rw [at17_ne _ _ hk]
        show (if decide ((k : Int) ∈ l) && decide (0 < (x.S k).pe) then pushS (x.S k) b else x.S k) = (if decide ((k : Int) ∈ l ++ [(i : Int)]) && decide (0 < (x.S k).pe) then pushS (x.S k) b else x.S k)
        have : ((k : Int) ∈ l ++ [(i : Int)]) ↔ (k : Int) ∈ l := by simp; omega
        simp only [this]
    have e2 : (if pushE (x.S i) b = 0 then (tellL17 x l b).B else at17 (tellL17 x l b).B i true) = (tellL17 x (l ++ [(i : Int)]) b).B := by
      funext k
      by_cases hk : k = i
      · subst hk
        show _ = (x.B k || (decide ((k : Int) ∈ l ++ [(k : Int)]) && decide (0 < (x.S k).pe) && pushE (x.S k) b != 0))
        rw [decide_eq_true (show (k : Int) ∈ l ++ [(k : Int)] by simp), decide_eq_true hp]
        split
        · rename_i h0; rw [hB, h0]; simp
        · rename_i h0; rw [at17_self]; simp [h0]
      · have h1 : (tellL17 x (l ++ [(i : Int)]) b).B k = (tellL17 x l b).B k := by
          show (x.B k || (decide ((k : Int) ∈ l ++ [(i : Int)]) && decide (0 < (x.S k).pe) && pushE (x.S k) b != 0)) = (x.B k || (decide ((k : Int) ∈ l) && decide (0 < (x.S k).pe) && pushE (x.S k) b != 0))
          have : ((k : Int) ∈ l ++ [(i : Int)]) ↔ (k : Int) ∈ l := by simp; omega
          simp only [this]
        rw [h1]
        split
        · rfl
        · rw [at17_ne _ _ hk]
    rw [e1, e2]
    rfl
  · rw [if_neg hp]
    have e1 : (tellL17 x l b).S = (tellL17 x (l ++ [(i : Int)]) b).S := by
      funext k
      show (if decide ((k : Int) ∈ l) && decide (0 < (x.S k).pe) then pushS (x.S k) b else x.S k) = (if decide ((k : Int) ∈ l ++ [(i : Int)]) && decide (0 < (x.S k).pe) then pushS (x.S k) b else x.S k)
      by_cases hk : k = i
      · subst hk
        rw [decide_eq_false hp, Bool.and_false, Bool.and_false]
      · have : ((k : Int) ∈ l ++ [(i : Int)]) ↔ (k : Int) ∈ l := by simp; omega
        simp only [this]
    have e2 : (tellL17 x l b).B = (tellL17 x (l ++ [(i : Int)]) b).B := by
      funext k
      show (x.B k || (decide ((k : Int) ∈ l) && decide (0 < (x.S k).pe) && pushE (x.S k) b != 0)) = (x.B k || (decide ((k : Int) ∈ l ++ [(i : Int)]) && decide (0 < (x.S k).pe) && pushE (x.S k) b != 0))
      by_cases hk : k = i
      · subst hk
        rw [decide_eq_false hp, Bool.and_false, Bool.and_false]
      · have : ((k : Int) ∈ l ++ [(i : Int)]) ↔ (k : Int) ∈ l := by simp; omega
        simp only [this]
    show (⟨x.t, x.sp, x.no, (tellL17 x l b).S, (tellL17 x l b).B, x.st, x.bs, x.sf, x.rm⟩ : KV) = ⟨x.t, x.sp, x.no, (tellL17 x (l ++ [(i : Int)]) b).S, (tellL17 x (l ++ [(i : Int)]) b).B, x.st, x.bs, x.sf, x.rm⟩
    rw [e1, e2]
theorem tellL_all17 {x : KV} (hw : WF x.t.C x.t.R) (r : RV) : tellL17 x (chasP x.t.C) (rwM17 r) = tellK17 x r:=by
 have hm:=memC17_all hw
 have hi : ∀ i : Nat,decide ((i : Int) ∈ chasP x.t.C) = x.t.C (i : Int):=fun i=>congrFun hm (i : Int)
 unfold tellL17 tellK17 goes17
 simp only [hi]
def TlP17 (N : Nat → Prop) (lab : Nat → Nat) (c ps pj pf : Nat) (P : Nat → Nat) (y : KV) (w : World) (e : Ending) (w' : World) : Prop :=
 e = .returned (.tuple #[]) ∧ ∃ lab',KP w' lab' c ps pj pf P y ∧ Mv17 N lab lab' w w'
theorem tell1_any17 {w : World} {lab : Nat → Nat} {c ps pj pf : Nat} {P : Nat → Nat} {x : KV} (h : KP w lab c ps pj pf P x) (i : Nat) (hi : i < 16) (hq : (x.S i).q.length ≤ 64) (hp0 : 0 ≤ (x.S i).pe) (q1 q2 : Nat) (A : Option Addr) (m bc : Nat) (b : List UInt8) (Sb : Nat → Prop) (h1 : Blk w q1 37 #[.pointer (some ⟨c,0,none⟩)]) (h2 : Blk w q2 23 #[.slice A m bc]) (hl2 : lab q2 = 0) (hm : m = b.length) (hr : Rds w Sb A m (bcs b)) (hz : A = none → bc = 0) (hm2 : m ≤ 1000) : Calls Tryz.prog 175 #[int i64 (i : Int), .pointer (some ⟨q1,0,none⟩), .pointer (some ⟨q2,0,none⟩)] w (TlP17 (fun n=>n = 1 ∨ n = 5 + i) lab c ps pj pf P (tellI17 x i b) w):=by
 have HK:=hd_ h
 have HL:=hd_ (h.ln i hi)
 have HI:=hd_ hi
 have H2:=hd_ h2
 have HL2:=hd_ hl2
 have q10 : w.cell? ⟨q1,0,none⟩ = some (.pointer (some ⟨c,0,none⟩)):=h1.cell 0
 have hi16 : (i : Int) < 16:=by omega
 have HKEEP : Hid (∀ W : World,Chg (fun k=>lab k = 5 + i) w W → (W.cell? ⟨c,5 + i * 2,none⟩ = some (.pointer (some ⟨P i,0,none⟩)) ∧ W.cell? ⟨q2,0,none⟩ = some (.slice A m bc))):=hd_ (fun W hw=>⟨((HK.out.q.cb.chg hw (by rw [HK.out.q.lc]; omega)).line HI.out).1,(H2.out.chg hw (by rw [HL2.out]; omega)).cell 0⟩)
 have HYA:=hd_ (Chg.refl (fun k=>lab k = 5 + i) w).drew
 have HPE0:=hd_ (peer17_any ((HL.out.mv (Mv17.of (N:=fun _=>False) (Chg.refl (fun _=>False) w).drew) id id)))
 have HPU:=hd_ (push17_any ((HL.out.mv (Mv17.of (N:=fun _=>False) (Chg.refl (fun _=>False) w).drew) id id)) hq A m bc b Sb hm hr.drew hz (by omega))
 have HT : Hid (tellI17 x i b = if 0 < (x.S i).pe then { x with S:=at17 x.S i (pushS (x.S i) b),B:=if pushE (x.S i) b = 0 then x.B else at17 x.B i true } else x):=hd_ rfl
 clear h hi hq h1 h2 hl2 hm hr hz hm2
 generalize (x.S i).pe = pe at *
 generalize pushE (x.S i) b = er at *
 have HPE:=HPE0
 by_cases hp : 0 < pe
 ·replace HT:=hd_ (HT.out.trans (if_pos hp))
  go_in
  go_wp2_with fail
  obtain ⟨g0,g1⟩:=HKEEP.out _ HYA.out
  go_region_held3 (fun w'=>(w'.cell? ⟨c,5 + i * 2,none⟩ = some (.pointer (some ⟨P i,0,none⟩)) ∧ w'.cell? ⟨q2,0,none⟩ = some (.slice A m bc)))
   (first | with_reducible exact HKEEP.out _ HYA.out | with_reducible exact HKEEP.out _ HYB.out | fail)
   (first
    | (go_at_call 158; (with_reducible refine HPE.out.mono ?_); rintro e wb ⟨rfl,rfl⟩)
    | (go_at_call 127; (with_reducible refine HPU.out.mono ?_); rintro e wz ⟨rfl,lab1,hs,hm,hl⟩; have HK1:=hd_ ((HK.out.new (Chg.refl (fun _=>False) w).drew).sess HI.out hs hm hl); have HM1:=hd_ hm; have HYB:=hd_ (HYA.out.trans hm.1 (fun _ _ e=>e)); clear hs hm hl)
    | fail)
  all_goals
   have HMV : Hid (Mv17 (fun n=>n = 1 ∨ n = 5 + i) lab lab1 w wz):=hd_ ⟨HYB.out.mono (fun k _ e => .inr e),HM1.out.2⟩
   by_cases he : er = 0
   ·subst he
    replace HT:=hd_ (HT.out.trans (by rw [if_pos rfl]))
    go_wp2_with fail
    go_end0
    refine ⟨rfl,lab1, ?_,HMV.out⟩
    rw [HT.out]
    exact HK1.out
   ·have te : (er != 0) = true:=by simpa using he
    replace HT:=hd_ (HT.out.trans (by rw [if_neg he]))
    clear he
    have l1:=(HK1.out.q.cb.line HI.out).2
    have f1:=HK1.out.q.cb.free (5 + i * 2 + 1)
    go_wp2_with fail
    go_end0
    have hcs:=(Chg.refl (fun k=>k = c) wz).put c (5 + i * 2 + 1) (fun _=>rfl) (.bool true)
    refine ⟨rfl,lab1, ?_,HMV.out.put hcs (fun _=>by rw [HK.out.q.lc]; exact .inl rfl)⟩
    rw [HT.out]
    exact HK1.out.own hcs (HK1.out.q.cb.setB HI.out true) ⟨rfl,rfl⟩ ⟨rfl,rfl,rfl⟩ rfl
 ·replace HT:=hd_ (HT.out.trans (if_neg hp))
  obtain rfl : pe = 0:=by omega
  clear hp hp0
  go_in
  go_wp2_with fail
  have s2:=HKEEP.out _ HYA.out
  refine wp_region_noPanic ?_
  refine wp_region_held_drew (S:=fun w'=>(w'.cell? ⟨c,5 + i * 2,none⟩ = some (.pointer (some ⟨P i,0,none⟩)) ∧ w'.cell? ⟨q2,0,none⟩ = some (.slice A m bc))) (by kernel_rfl) s2 (fun hHeld => ?_)
  iterate 4
   first
    | refine wpAnyH_take (i:=0) (v := ?_) rfl (by kernel_rfl) (by kernel_rfl) (by decide +kernel) (fun _ _ _ h=>h) (Or.inl ⟨by rfl, ?_⟩) (by assumption) ?_
    | refine wpAnyH_take (i:=1) (v := ?_) rfl (by kernel_rfl) (by kernel_rfl) (by decide +kernel) (fun _ _ _ h=>h) (Or.inl ⟨by rfl, ?_⟩) (by assumption) ?_
    | refine wpAnyH_take (i:=2) (v := ?_) rfl (by kernel_rfl) (by kernel_rfl) (by decide +kernel) (fun _ _ _ h=>h) (Or.inl ⟨by rfl, ?_⟩) (by assumption) ?_
    | refine wpAnyH_take (i:=3) (v := ?_) rfl (by kernel_rfl) (by kernel_rfl) (by decide +kernel) (fun _ _ _ h=>h) (Or.inl ⟨by rfl, ?_⟩) (by assumption) ?_
   rotate_left
   ·intro w' hSw
    try dsimp only at hSw
    go_simp
    first | done | (with_reducible rfl)
   try simp only [List.getElem_toArray,List.getElem_cons_succ,List.getElem_cons_zero,Act.put,List.setIfInBounds_toArray,List.set_cons_zero,List.set_cons_succ]
  refine wpAnyH_ready (rs := [4]) (by kernel_rfl) (by simp) ?_
  refine AllReadyH.cons rfl (fun K hK => ?_) AllReadyH.nil
  go_simp
  refine (HPE.out).mono ?_
  rintro e wb ⟨rfl,rfl⟩
  go_wp2_with fail
  refine hK.out _ _ s2 (fun hHeld => ?_)
  clear hK K
  try simp only [List.getElem_toArray,List.getElem_cons_succ,List.getElem_cons_zero,Act.put,List.setIfInBounds_toArray,List.set_cons_zero,List.set_cons_succ]
  iterate 2
   first
    | refine wpAnyH_take (i:=5) (v := ?_) rfl (by kernel_rfl) (by kernel_rfl) (by decide +kernel) (fun _ _ _ h=>h) (Or.inl ⟨by rfl, ?_⟩) (by assumption) ?_
    | refine wpAnyH_take (i:=6) (v := ?_) rfl (by kernel_rfl) (by kernel_rfl) (by decide +kernel) (fun _ _ _ h=>h) (Or.inl ⟨by rfl, ?_⟩) (by assumption) ?_
   rotate_left
   ·intro w' hSw
    try dsimp only at hSw
    go_simp
    first | done | (with_reducible rfl)
   try simp only [List.getElem_toArray,List.getElem_cons_succ,List.getElem_cons_zero,Act.put,List.setIfInBounds_toArray,List.set_cons_zero,List.set_cons_succ]
  refine wpAnyH_take (i:=7) (v:=_) rfl (by kernel_rfl) (by kernel_rfl) (by kernel_rfl) (fun _ _ _ h=>h) (Or.inr ⟨by rfl,rfl⟩) (by assumption) ?_
  try simp only [List.getElem_toArray,List.getElem_cons_succ,List.getElem_cons_zero,Act.put,List.setIfInBounds_toArray,List.set_cons_zero,List.set_cons_succ]
  refine wpAnyH_take (i:=8) (v:=_) rfl (by kernel_rfl) (by kernel_rfl) (by kernel_rfl) (fun _ _ _ h=>h) (Or.inr ⟨by rfl,rfl⟩) (by assumption) ?_
  try simp only [List.getElem_toArray,List.getElem_cons_succ,List.getElem_cons_zero,Act.put,List.setIfInBounds_toArray,List.set_cons_zero,List.set_cons_succ]
  refine wpAnyH_take (i:=9) (v:=_) rfl (by kernel_rfl) (by kernel_rfl) (by kernel_rfl) (fun _ _ _ h=>h) (Or.inr ⟨by rfl,rfl⟩) (by assumption) ?_
  try simp only [List.getElem_toArray,List.getElem_cons_succ,List.getElem_cons_zero,Act.put,List.setIfInBounds_toArray,List.set_cons_zero,List.set_cons_succ]
  refine wpAnyH_take (i:=10) (v:=_) rfl (by kernel_rfl) (by kernel_rfl) (by kernel_rfl) (fun _ _ _ h=>h) (Or.inr ⟨by rfl,rfl⟩) (by assumption) ?_
  try simp only [List.getElem_toArray,List.getElem_cons_succ,List.getElem_cons_zero,Act.put,List.setIfInBounds_toArray,List.set_cons_zero,List.set_cons_succ]
  refine wpAnyH_take (i:=11) (v:=_) rfl (by kernel_rfl) (by kernel_rfl) (by kernel_rfl) (fun _ _ _ h=>h) (Or.inr ⟨by rfl,rfl⟩) (by assumption) ?_
  try simp only [List.getElem_toArray,List.getElem_cons_succ,List.getElem_cons_zero,Act.put,List.setIfInBounds_toArray,List.set_cons_zero,List.set_cons_succ]
  refine wpAnyH_take (i:=12) (v:=_) rfl (by kernel_rfl) (by kernel_rfl) (by kernel_rfl) (fun _ _ _ h=>h) (Or.inr ⟨by rfl,rfl⟩) (by assumption) ?_
  try simp only [List.getElem_toArray,List.getElem_cons_succ,List.getElem_cons_zero,Act.put,List.setIfInBounds_toArray,List.set_cons_zero,List.set_cons_succ]
  refine wpAnyH_take (i:=13) (v:=_) rfl (by kernel_rfl) (by kernel_rfl) (by kernel_rfl) (fun _ _ _ h=>h) (Or.inr ⟨by rfl,rfl⟩) (by assumption) ?_
  try simp only [List.getElem_toArray,List.getElem_cons_succ,List.getElem_cons_zero,Act.put,List.setIfInBounds_toArray,List.set_cons_zero,List.set_cons_succ]
  refine wpAnyH_take (i:=14) (v := ?_) rfl (by kernel_rfl) (by kernel_rfl) (by kernel_rfl) (fun _ _ _ h=>h) (Or.inl ⟨by rfl, ?_⟩) (by assumption) ?_
  rotate_left
  ·intro w' hSw
   try dsimp only at hSw
   go_simp
   first | done | (with_reducible rfl)
  try simp only [List.getElem_toArray,List.getElem_cons_succ,List.getElem_cons_zero,Act.put,List.setIfInBounds_toArray,List.set_cons_zero,List.set_cons_succ]
  refine wpAnyH_done (by kernel_rfl) ?_ _
  refine NoPanic.normal ?_
  go_wp2_with fail
  go_end0
  refine ⟨rfl,lab, ?_,Mv17.of (Chg.refl (fun _=>False) w).drew⟩
  rw [HT.out]
  exact HK.out.new (Chg.refl (fun _=>False) w).drew
theorem tell17_any {w : World} {lab : Nat → Nat} {c ps pj pf : Nat} {P : Nat → Nat} {x : KV} (h : KP w lab c ps pj pf P x) (hw : WF x.t.C x.t.R) (hq : ∀ i,i < 16 → (x.S i).q.length ≤ 64 ∧ 0 ≤ (x.S i).pe) (po ma ow ta ol ge ph ve si : Int) (hx : RV.ok ⟨po,ma,ow,ta,ol,ge,ph,ve,si⟩ = true) (hma : 0 ≤ ma) : Calls Tryz.prog 113 #[.pointer (some ⟨c,0,none⟩), .agg #[int i64 po,int .u64 ma,int i64 ow,int i64 ta,int i64 ol,int i64 ge,int i64 ph,int i64 ve,int i64 si]] w (TlP17 (fun n=>n = 1 ∨ (5 ≤ n ∧ n ≤ 20)) lab c ps pj pf P (tellK17 x ⟨po,ma,ow,ta,ol,ge,ph,ve,si⟩) w):=by
 have hmf : ∀ (fn : Fn) (first cap : Array Value) (w : World),(Instr.makeFunc fn first cap).run Tryz.prog w = .ok (.func fn first cap) w:=fun _ _ _ _=>rfl
 have hc0:=((Chg.refl (fun _=>False) w).alloc (.cells #[.pointer (some ⟨c,0,none⟩)] 37)).alloc (.cells #[int i64 po,int .u64 ma,int i64 ow,int i64 ta,int i64 ol,int i64 ge,int i64 ph,int i64 ve,int i64 si] 60)
 have HK:=hd_ (h.new hc0)
 have HB0 : Hid (Blk ((w.alloc (.cells #[.pointer (some ⟨c,0,none⟩)] 37)).alloc (.cells #[int i64 po,int .u64 ma,int i64 ow,int i64 ta,int i64 ol,int i64 ge,int i64 ph,int i64 ve,int i64 si] 60)) w.heap.size 37 #[.pointer (some ⟨c,0,none⟩)]):=hd_ ((blk_new rfl).alloc _)
 have HB1 : Hid (Blk ((w.alloc (.cells #[.pointer (some ⟨c,0,none⟩)] 37)).alloc (.cells #[int i64 po,int .u64 ma,int i64 ow,int i64 ta,int i64 ol,int i64 ge,int i64 ph,int i64 ve,int i64 si] 60)) (w.heap.size + 1) 60 (rvC po ma ow ta ol ge ph ve si)):=hd_ (blk_new (by simp))
 have HX:=hd_ hc0
 have HLT:=hd_ h.q.lt
 have HL0 : Hid (lab w.heap.size = 0):=hd_ (h.q.lt _ (Nat.le_refl _))
 have HW:=hd_ hw
 have HQ:=hd_ hq
 have HMS:=hd_ (fun W=>message17_any po ma ow ta ol ge ph ve si hx hma W)
 have HTE:=hd_ (tellL_all17 hw ⟨po,ma,ow,ta,ol,ge,ph,ve,si⟩)
 have HML:=hd_ (rwM17_len ⟨po,ma,ow,ta,ol,ge,ph,ve,si⟩)
 clear h hw hq hx hma hc0
 generalize rwM17 ⟨po,ma,ow,ta,ol,ge,ph,ve,si⟩ = mb at *
 go_in
 go_upto_region 1 with fail
 generalize (w.alloc (.cells #[.pointer (some ⟨c,0,none⟩)] 37)).alloc (.cells #[int i64 po,int .u64 ma,int i64 ow,int i64 ta,int i64 ol,int i64 ge,int i64 ph,int i64 ve,int i64 si] 60) = w1 at *
 generalize w.heap.size + 1 = Q1 at HB1 ⊢
 generalize hq0 : w.heap.size = Q0 at HB0 HL0 ⊢
 obtain ⟨y0,y1,y2,y3,y4,y5,y6,y7,y8⟩:=rv_cells HB1.out
 go_wp2_with fail
 refine (HMS.out w1).mono ?_
 rintro e w2 ⟨A,bc,rfl,hz,hr,hc⟩
 have HSW:=hd_ HX.out.size
 replace HK:=hd_ (HK.out.new hc)
 replace HB0:=hd_ (HB0.out.chg hc id)
 replace HX:=hd_ (HX.out.tr hc)
 have HR:=hd_ hr.old
 have HZ:=hd_ hz
 clear hz hr hc HB1 HMS y0 y1 y2 y3 y4 y5 y6 y7 y8
 have HS2:=hd_ HX.out.size
 go_upto_region 2 with fail
 have hc:=(Chg.refl (fun _=>False) w2).alloc (.cells #[.slice A mb.length bc] 23)
 have HB2 : Hid (Blk (w2.alloc (.cells #[.slice A mb.length bc] 23)) w2.heap.size 23 #[.slice A mb.length bc]):=hd_ (blk_new rfl)
 have HL2 : Hid (lab w2.heap.size = 0):=hd_ (HLT.out _ HS2.out)
 have HRL : Hid (∀ k,(w1.heap.size ≤ k ∧ k < w2.heap.size) → lab k = 0):=hd_ (fun k hk=>HLT.out _ (by have:=HSW.out; omega))
 replace HK:=hd_ (HK.out.new hc)
 replace HB0:=hd_ (HB0.out.chg hc id)
 replace HX:=hd_ (HX.out.tr hc)
 replace HR:=hd_ (HR.out.chg hc (fun _ _=>id))
 clear hc
 generalize w2.alloc (.cells #[.slice A mb.length bc] 23) = w3 at *
 generalize hq2 : w2.heap.size = Q2 at HB2 HL2 ⊢
 clear hq2
 obtain ⟨B,sbc,sbr,hs, -, -, -⟩:=HK.out.q.sr
 have HCH:=hd_ (schas_any hs)
 have b0 : w3.cell? ⟨Q0,0,none⟩ = some (.pointer (some ⟨c,0,none⟩)):=HB0.out.cell 0
 obtain ⟨c0, -, -, -, -⟩:=HK.out.q.cb.hd
 clear hs
 go_wp2_with fail
 refine HCH.out.mono ?_
 rintro e w4 ⟨AL,ln,lc,rfl,hln,hrl,hc⟩
 have hl16:=chas_len x.t.C
 replace HK:=hd_ (HK.out.new hc)
 replace HB0:=hd_ (HB0.out.chg hc id)
 replace HB2:=hd_ (HB2.out.chg hc id)
 have HS3:=hd_ HX.out.size
 replace HX:=hd_ (HX.out.tr hc)
 replace HR:=hd_ (HR.out.chg hc (fun _ _=>id))
 have hnd:=chas_nodup17 x.t.C
 have HEA:=hd_ (each_tell17 AL ln lc (chasP x.t.C) _ w4 (.pointer (some ⟨Q0,0,none⟩)) (.pointer (some ⟨Q2,0,none⟩)) (fun j W => ∃ lab',KP W lab' c ps pj pf P (tellL17 x ((chasP x.t.C).take j) mb) ∧ Mv17 (fun n=>n = 1 ∨ (5 ≤ n ∧ n ≤ 20)) lab lab' w4 W) (by omega)
  ⟨lab,by rw [List.take_zero,tellL_nil17]; exact HK.out,Mv17.refl _ _ _⟩ hln
  (fun j W hI=>by
   obtain ⟨lab',hk,hm⟩:=hI
   exact hrl.chg hm.1 (fun k hk e=>by rw [HLT.out k (by have:=HS3.out; omega)] at e; omega))
  (fun j W W' hI hc'=>by
   obtain ⟨lab',hk,hm⟩:=hI
   exact ⟨lab',hk.new hc',hm.trans (Mv17.of hc')⟩)
  (fun j n W hx hI=>by
   obtain ⟨lab',hk,hm⟩:=hI
   have hb:=chas_in17 HW.out hx
   obtain ⟨i,rfl⟩:=Int.eq_ofNat_of_zero_le hb.1
   have hi : i < 16:=by omega
   have hnm : ¬ (i : Int) ∈ (chasP x.t.C).take j:=by
    intro hmm
    obtain ⟨i',hi'⟩:=List.getElem?_of_mem hmm
    have hil : i' < j:=by have:=(List.getElem?_eq_some_iff.1 hi').1; rw [List.length_take] at this; omega
    rw [List.getElem?_take,if_pos hil] at hi'
    have:=(List.getElem?_inj (by exact (List.getElem?_eq_some_iff.1 hi').1) hnd).1 (hi'.trans hx.symm)
    omega
   have hqi : ((tellL17 x ((chasP x.t.C).take j) mb).S i).q.length ≤ 64 ∧ 0 ≤ ((tellL17 x ((chasP x.t.C).take j) mb).S i).pe:=by
    show (if decide ((i : Int) ∈ (chasP x.t.C).take j) && decide (0 < (x.S i).pe) then pushS (x.S i) mb else x.S i).q.length ≤ 64 ∧ 0 ≤ (if decide ((i : Int) ∈ (chasP x.t.C).take j) && decide (0 < (x.S i).pe) then pushS (x.S i) mb else x.S i).pe
    rw [decide_eq_false hnm,Bool.false_and]
    exact HQ.out i hi
   have hl0 : ∀ {k : Nat},lab k = 0 → ¬ (lab k = 1 ∨ (5 ≤ lab k ∧ lab k ≤ 20)):=fun {k} e=>by rw [e]; omega
   refine (tell1_any17 hk i hi hqi.1 hqi.2 Q0 Q2 A mb.length bc mb _ (HB0.out.chg hm.1 (hl0 HL0.out)) (HB2.out.chg hm.1 (hl0 HL2.out)) ((hm.2 _ HB2.out.lt).trans HL2.out) rfl (HR.out.chg hm.1 (fun k hk=>hl0 (HRL.out k hk))) HZ.out (by rw [HML.out]; decide)).mono ?_
   rintro e W' ⟨he,lab2,hk2,hm2⟩
   rw [tellL_snoc17 _ _ _ _ hnm] at hk2
   rw [take_succ' hx]
   exact ⟨he,lab2,hk2,hm.trans (hm2.mono (fun n hn=>by omega))⟩))
 have HLN:=hd_ hln
 clear hln hrl hc hl16 hnd HCH b0 c0
 go_wp2_with fail
 refine HEA.out.mono ?_
 rintro e w5 ⟨rfl,lab',hk,hm⟩
 rw [List.take_of_length_le (by have:=HLN.out; omega),HTE.out] at hk
 go_wp2_with fail
 go_end0
 exact ⟨rfl,lab',hk,(Mv17.of HX.out).trans hm⟩
def ChP17 (lab : Nat → Nat) (c pj pf : Nat) (P : Nat → Nat) (er : Int) (y : KV) (w : World) (e : Ending) (w' : World) : Prop :=
 ∃ (ps' : Nat) (lab' : Nat → Nat),e = .returned (int i64 er) ∧ KP w' lab' c ps' pj pf P y ∧ Mv17 (fun n=>1 ≤ n ∧ n ≤ 20) lab lab' w w'
theorem change17_any {w : World} {lab : Nat → Nat} {c ps pj pf : Nat} {P : Nat → Nat} {x : KV} {j : Nat} (h : KP w lab c ps pj pf P x) (ho : KOk j x) (po ma ow ta ol ge ph ve si : Int) (hma : 0 ≤ ma) : Calls Tryz.prog 59 #[.pointer (some ⟨c,0,none⟩), .agg #[int i64 po,int .u64 ma,int i64 ow,int i64 ta,int i64 ol,int i64 ge,int i64 ph,int i64 ve,int i64 si]] w (ChP17 lab c pj pf P (chgX17 x ⟨po,ma,ow,ta,ol,ge,ph,ve,si⟩) (chgK17 x ⟨po,ma,ow,ta,ol,ge,ph,ve,si⟩) w):=by
 have hc0:=(Chg.refl (fun _=>False) w).alloc (.cells #[int i64 po,int .u64 ma,int i64 ow,int i64 ta,int i64 ol,int i64 ge,int i64 ph,int i64 ve,int i64 si] 60)
 have HK:=hd_ (h.new hc0)
 have HB1 : Hid (Blk (w.alloc (.cells #[int i64 po,int .u64 ma,int i64 ow,int i64 ta,int i64 ol,int i64 ge,int i64 ph,int i64 ve,int i64 si] 60)) w.heap.size 60 (rvC po ma ow ta ol ge ph ve si)):=hd_ (blk_new rfl)
 have HX:=hd_ hc0
 have HL1 : Hid (lab w.heap.size = 0):=hd_ (h.q.lt _ (Nat.le_refl _))
 have HO:=hd_ ho
 have HMA:=hd_ hma
 clear h ho hma hc0
 go_in
 go_upto_region 1 with fail
 generalize w.alloc (.cells #[int i64 po,int .u64 ma,int i64 ow,int i64 ta,int i64 ol,int i64 ge,int i64 ph,int i64 ve,int i64 si] 60) = w1 at *
 generalize w.heap.size = Q0 at HB1 HL1 ⊢
 have HNO:=hd_ (note17_any HK.out.q HO.out.wf HO.out.b HO.out.m 1 po ma ow ta ol ge ph ve si 0 0 (rc_ok17 HO.out.wf (.inl rfl) (fun _=>HMA.out)))
 obtain ⟨y0,y1,y2,y3,y4,y5,y6,y7,y8⟩:=rv_cells HB1.out
 go_wp2_with fail
 refine HNO.out.mono ?_
 rintro e w2 ⟨ps2,lab2,rfl,hk,hm⟩
 have HCX : Hid (putX17 x ⟨1,⟨po,ma,ow,ta,ol,ge,ph,ve,si⟩,0,0⟩ = chgX17 x ⟨po,ma,ow,ta,ol,ge,ph,ve,si⟩):=hd_ rfl
 rw [HCX.out]
 have HK2:=hd_ (HK.out.ofq17 hk hm (fun i=>by omega) (by decide) (note_S17 _ _))
 replace HB1:=hd_ (HB1.out.chg hm.1 (by rw [HL1.out]; omega))
 have HMV:=hd_ ((Mv17.of (N:=fun n=>1 ≤ n ∧ n ≤ 20) HX.out).trans (hm.mono (fun n e=>by omega)))
 clear hk hm HNO HK y0 y1 y2 y3 y4 y5 y6 y7 y8
 by_cases he : chgX17 x ⟨po,ma,ow,ta,ol,ge,ph,ve,si⟩ = 0
 ·have HE:=hd_ he
  have HCK : Hid (chgK17 x ⟨po,ma,ow,ta,ol,ge,ph,ve,si⟩ = tellK17 (noteK17 x (rowR17 ⟨po,ma,ow,ta,ol,ge,ph,ve,si⟩)) ⟨po,ma,ow,ta,ol,ge,ph,ve,si⟩):=hd_ (if_pos he)
  have hok : RV.ok ⟨po,ma,ow,ta,ol,ge,ph,ve,si⟩ = true:=by
   have h0:=he
   unfold chgX17 putX17 at h0
   split at h0
   ·rename_i hb
    unfold bcE17 at hb
    rw [if_pos (show (rowR17 ⟨po,ma,ow,ta,ol,ge,ph,ve,si⟩).k = 1 from rfl)] at hb
    exact (wrong_zero hb).1
   ·rename_i hb
    exact absurd h0 hb
  have HO2:=hd_ (HO.out.note (rowR17 ⟨po,ma,ow,ta,ol,ge,ph,ve,si⟩) (fun _=>HMA.out) (by show (0 : Int) ≤ 4294967296; decide))
  have HTE:=hd_ (tell17_any HK2.out HO2.out.wf (fun i hi=>⟨(HO2.out.s i hi).len,(HO2.out.s i hi).pe0⟩) po ma ow ta ol ge ph ve si hok HMA.out)
  rw [he]
  clear he hok
  obtain ⟨y0,y1,y2,y3,y4,y5,y6,y7,y8⟩:=rv_cells HB1.out
  go_wp2_with fail
  refine HTE.out.mono ?_
  rintro e w3 ⟨rfl,lab3,hk,hm⟩
  go_wp2_with fail
  go_ret
  refine ⟨ps2,lab3,by rw [HE.out]; rfl, ?_,HMV.out.trans (hm.mono (fun n e=>by omega))⟩
  rw [HCK.out]
  exact hk
 ·have te : (chgX17 x ⟨po,ma,ow,ta,ol,ge,ph,ve,si⟩ == 0) = false:=by simpa using he
  have HNK : Hid (noteK17 x ⟨1,⟨po,ma,ow,ta,ol,ge,ph,ve,si⟩,0,0⟩ = x):=hd_ (if_neg he)
  have HCK : Hid (chgK17 x ⟨po,ma,ow,ta,ol,ge,ph,ve,si⟩ = x):=hd_ (if_neg he)
  clear he
  generalize chgX17 x ⟨po,ma,ow,ta,ol,ge,ph,ve,si⟩ = er at *
  go_wp2_with fail
  go_ret
  refine ⟨ps2,lab2,rfl, ?_,HMV.out⟩
  have hk:=HK2.out
  rw [HNK.out] at hk
  rw [HCK.out]
  exact hk
end Go.Proofs.YtnojmbejedlilaaGreat
