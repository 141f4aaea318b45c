/-
  The document's law of a table of flows, plain: alike, what lives, what a note and an import make and tell. No condition.
-/
import Derived.Test.YtfajcdobikjcdaaGreatDoorM4
import Derived.Test.YtfajcdobikjcdaaGreatDoorM1
import Derived.Lib.SliceRun
import Derived.Deep.RegionHeld3
import Derived.RegionTactic
import Derived.BigQuiet
import Derived.Deep.LoopGhost
import Derived.Lib.SmallJoins
import Derived.Deep.Cut
import Derived.Deep.DeepCutAuto
import Derived.Deep.RegionLaw
import Derived.Laws.BitsAllLaws
import Derived.Laws.StructEq
import Derived.ProofKit
import Derived.OpenShut
import Derived.ChangeOld
set_option maxRecDepth 100000
set_option maxHeartbeats 40000000
set_option linter.unusedVariables false
set_option linter.unusedSimpArgs false
section
namespace Go.Proofs.YtfajcdobikjcdaaGreatDoor
open Go.Value (int)
open Go.IntKind (i64)
open Go.RowKit
def flE (p s d sp dp p2 s2 d2 sp2 dp2 : Int) : Bool:=p == p2 && (s == s2 && (d == d2 && (sp == sp2 && dp == dp2)))
def alB (p s d sp dp p2 s2 d2 sp2 dp2 : Int) : Bool:=flE p s d sp dp p2 s2 d2 sp2 dp2 || flE p s d sp dp p2 d2 s2 dp2 sp2
def al12 (x y : Rc) : Bool:=alB x.pr x.sr x.ds x.sp x.dp y.pr y.sr y.ds y.sp y.dp
def lv12 (t : Int) (x : Rc) : Bool:=decide (t < x.un)
def ex12 (t : Int) (l : List Rc) : List Rc:=l.filter (lv12 t)
def mx12 (x r : Rc) : Rc:=⟨x.pr,x.sr,x.ds,x.sp,x.dp,max x.un r.un⟩
def up12 (r : Rc) : List Rc → List Rc
 | [] => []
 | x :: l=>if al12 x r then mx12 x r :: l else x :: up12 r l
def has12 (l : List Rc) (r : Rc) : Bool:=l.any fun x=>al12 x r
def pu12 (l : List Rc) (r : Rc) : List Rc:=if has12 l r then up12 r l else if 16 ≤ l.length then l else l ++ [r]
def pb12 (l : List Rc) (r : Rc) : Bool:=has12 l r || decide (l.length < 16)
def tmB (t : Int) : Bool:=decide (0 ≤ t) && decide (t ≤ 1099511627776)
def nr12 (life t p s d sp dp : Int) : Rc:=⟨p,s,d,sp,dp,min (t + life) 1099511627776⟩
def noL (life t : Int) (l : List Rc) (p s d sp dp : Int) : List Rc:=if flR p sp dp && tmB t then pu12 (ex12 t l) (nr12 life t p s d sp dp) else l
def noA (life t : Int) (l : List Rc) (p s d sp dp : Int) : Int:=if flR p sp dp && tmB t then (if pb12 (ex12 t l) (nr12 life t p s d sp dp) then 0 else 3) else 1
def imR (t : Int) (r : Rc) : Bool:=flR r.pr r.sp r.dp && (lv12 t r && decide (r.un ≤ 1099511627776))
def imS (t : Int) (st : List Rc × Nat) (r : Rc) : List Rc × Nat:=if imR t r then (pu12 st.1 r,if pb12 st.1 r then st.2 + 1 else st.2) else st
def imF (t : Int) (l rs : List Rc) : List Rc × Nat:=rs.foldl (imS t) (l,0)
def imL (t : Int) (l rs : List Rc) : List Rc:=if tmB t then (imF t (ex12 t l) rs).1 else l
def imA (t : Int) (l rs : List Rc) : Nat:=if tmB t then (imF t (ex12 t l) rs).2 else 0
theorem has12_at {l : List Rc} {j : Nat} {x r : Rc} (h : l[j]? = some x) (ha : al12 x r = true) : has12 l r = true :=
 List.any_eq_true.2 ⟨x,List.mem_of_getElem? h,ha⟩
theorem has12_no {l : List Rc} {r : Rc} (h : ∀ (i : Nat) (y : Rc),i < l.length → l[i]? = some y → al12 y r = false) : has12 l r = false:=by
 unfold has12
 rw [List.any_eq_false]
 intro y hy
 obtain ⟨i,hi⟩:=List.getElem?_of_mem hy
 rw [h i y (List.getElem?_eq_some_iff.1 hi).1 hi]
 decide
theorem up12_at : ∀ {l : List Rc} {j : Nat} {x r : Rc},l[j]? = some x → al12 x r = true → (∀ (i : Nat) (y : Rc),i < j → l[i]? = some y → al12 y r = false) → up12 r l = l.set j (mx12 x r)
 | [],j,x,r,h,_,_=>by simp at h
 | y :: l,0,x,r,h,ha,_=>by
  simp only [List.getElem?_cons_zero,Option.some.injEq] at h
  subst h
  simp [up12,ha]
 | y :: l,j + 1,x,r,h,ha,hn=>by
  have h0:=hn 0 y (by omega) rfl
  simp only [List.getElem?_cons_succ] at h
  have ih:=up12_at (l:=l) h ha (fun i z hi hz=>hn (i + 1) z (by omega) (by simpa using hz))
  simp [up12,h0,ih]
theorem pu12_at {l : List Rc} {j : Nat} {x r : Rc} (h : l[j]? = some x) (ha : al12 x r = true) (hn : ∀ (i : Nat) (y : Rc),i < j → l[i]? = some y → al12 y r = false) :
  pu12 l r = l.set j (mx12 x r) ∧ pb12 l r = true:=by
 have h1:=has12_at h ha
 refine ⟨?_,by simp [pb12,h1]⟩
 rw [pu12,if_pos h1]
 exact up12_at h ha hn
theorem pu12_full {l : List Rc} {r : Rc} (hn : ∀ (i : Nat) (y : Rc),i < l.length → l[i]? = some y → al12 y r = false) (h16 : 16 ≤ l.length) : pu12 l r = l ∧ pb12 l r = false:=by
 have h1:=has12_no hn
 refine ⟨by simp [pu12,h1,h16],by simp [pb12,h1]; omega⟩
theorem pu12_new {l : List Rc} {r : Rc} (hn : ∀ (i : Nat) (y : Rc),i < l.length → l[i]? = some y → al12 y r = false) (h16 : ¬ 16 ≤ l.length) : pu12 l r = l ++ [r] ∧ pb12 l r = true:=by
 have h1:=has12_no hn
 refine ⟨by simp [pu12,h1,h16],by simp [pb12]; omega⟩
theorem up12_len (r : Rc) : ∀ l : List Rc,(up12 r l).length = l.length
 | []=>rfl
 | x :: l=>by
  unfold up12
  split
  ·rfl
  ·simp [up12_len r l]
theorem pu12_len {l : List Rc} {r : Rc} (h : l.length ≤ 16) : (pu12 l r).length ≤ 16:=by
 unfold pu12
 split
 ·rw [up12_len]; exact h
 ·split
  ·exact h
  ·simp; omega
theorem ex12_len {t : Int} {l : List Rc} (h : l.length ≤ 16) : (ex12 t l).length ≤ 16:=Nat.le_trans (List.length_filter_le _ _) h
theorem noL_len {life t : Int} {l : List Rc} {p s d sp dp : Int} (h : l.length ≤ 16) : (noL life t l p s d sp dp).length ≤ 16:=by
 unfold noL
 split
 ·exact pu12_len (ex12_len h)
 ·exact h
theorem imS_len {t : Int} {st : List Rc × Nat} {r : Rc} (h : st.1.length ≤ 16) : (imS t st r).1.length ≤ 16:=by
 unfold imS
 split
 ·exact pu12_len h
 ·exact h
theorem imF_len {t : Int} {l rs : List Rc} (h : l.length ≤ 16) : (imF t l rs).1.length ≤ 16:=by
 unfold imF
 suffices hh : ∀ (st : List Rc × Nat),st.1.length ≤ 16 → (rs.foldl (imS t) st).1.length ≤ 16 from hh _ h
 induction rs with
 | nil=>exact fun st h=>h
 | cons r rs ih=>exact fun st h=>ih _ (imS_len h)
theorem imL_len {t : Int} {l rs : List Rc} (h : l.length ≤ 16) : (imL t l rs).length ≤ 16:=by
 unfold imL
 split
 ·exact imF_len (ex12_len h)
 ·exact h
theorem imF_take {t : Int} {l rs : List Rc} {k : Nat} {r : Rc} (h : rs[k]? = some r) : imF t l (rs.take (k + 1)) = imS t (imF t l (rs.take k)) r:=by
 unfold imF
 rw [List.take_add_one,h,List.foldl_append]
 rfl
theorem ex12_take {t : Int} {l : List Rc} {k : Nat} {x : Rc} (h : l[k]? = some x) : ex12 t (l.take (k + 1)) = ex12 t (l.take k) ++ (if lv12 t x then [x] else []):=by
 unfold ex12
 rw [List.take_add_one,h,List.filter_append]
 congr 1
 simp only [Option.toList_some,List.filter_cons,List.filter_nil]
def rcF (l : List Rc) : List Value:=l.flatMap fun x=>x.cs.toList
theorem rcF_len : ∀ l : List Rc,(rcF l).length = l.length * 6
 | []=>rfl
 | x :: l=>by
  have:=rcF_len l
  unfold rcF at *
  simp only [List.flatMap_cons,List.length_append,this,List.length_cons]
  simp [Rc.cs,rcC]
  omega
theorem rcF_app (l r : List Rc) : rcF (l ++ r) = rcF l ++ rcF r:=by simp [rcF]
theorem rcF_one (l : List Rc) : ∀ u ∈ rcF l,u.oneCell' = true:=by
 intro u hu
 simp only [rcF,List.mem_flatMap] at hu
 obtain ⟨x,_,hx⟩:=hu
 simp only [Rc.cs,rcC,List.mem_cons,List.not_mem_nil,or_false] at hx
 rcases hx with rfl | rfl | rfl | rfl | rfl | rfl <;> rfl
theorem rcF_at : ∀ (l : List Rc) (i : Nat) (x : Rc),l[i]? = some x → ∀ j,j < 6 → (rcF l)[i * 6 + j]? = x.cs[j]?
 | [],i,x,h,_,_=>by simp at h
 | y :: l,0,x,h,j,hj=>by
  simp only [List.getElem?_cons_zero,Option.some.injEq] at h
  subst h
  simp only [rcF,List.flatMap_cons]
  rw [List.getElem?_append_left (by simp [Rc.cs,rcC]; omega)]
  simp
 | y :: l,i + 1,x,h,j,hj=>by
  simp only [List.getElem?_cons_succ] at h
  have ih:=rcF_at l i x h j hj
  simp only [rcF,List.flatMap_cons] at *
  rw [List.getElem?_append_right (by simp [Rc.cs,rcC]; omega)]
  have e : (i + 1) * 6 + j - y.cs.toList.length = i * 6 + j:=by simp [Rc.cs,rcC]; omega
  rw [e]
  exact ih
theorem rcF_set : ∀ (l : List Rc) (i : Nat) (x : Rc),i < l.length → rcF (l.set i x) = (((((((rcF l).set (i * 6) (int i64 x.pr)).set (i * 6 + 1) (int .u32 x.sr)).set (i * 6 + 2) (int .u32 x.ds)).set (i * 6 + 3) (int i64 x.sp)).set (i * 6 + 4) (int i64 x.dp)).set (i * 6 + 5) (int i64 x.un))
 | [],i,x,h=>by simp at h
 | y :: l,0,x,h=>by simp [rcF,Rc.cs,rcC]
 | y :: l,i + 1,x,h=>by
  have ih:=rcF_set l i x (by simpa using h)
  simp only [rcF,List.set_cons_succ,List.flatMap_cons] at *
  rw [ih]
  have e0 : (i + 1) * 6 = i * 6 + 6:=by omega
  simp only [e0,Rc.cs,rcC,List.cons_append,List.nil_append,List.set_cons_succ]
theorem own_rcr {w : World} {base : Nat} {e : TypeId} {n c : Nat} {A : Option Addr} {l : List Rc} (h : w.ownsRow base e 6 (.slice A n c) n (rcF l)) (hn : n = l.length) :
  RcR w (fun k=>A.map (·.block) = some k) A n l:=by
 refine ⟨hn,fun hp => ?_⟩
 have hlt:=h.lt
 rcases h.2 with ⟨hv,rfl⟩ | ⟨g,cap,cur,hv,_⟩
 ·omega
 ·injection hv with hA hn hc
  subst hA
  have:=hlt g rfl
  refine ⟨⟨g,0,none⟩,rfl,rfl,this.2,fun i x hi j u hu=>h.cells (g:=g) rfl _ u ?_⟩
  have hj : j < 6:=(Array.getElem?_eq_some_iff.1 hu).1
  rw [rcF_at l i x hi j hj]
  exact hu
theorem own_low {w : World} {base : Nat} {e : TypeId} {size n c : Nat} {A : Option Addr} {xs : List Value} (h : w.ownsRow base e size (.slice A n c) n xs) {k : Nat} (hk : A.map (·.block) = some k) : base ≤ k ∧ k < w.heap.size :=
 h.lt k (by rw [own_block]; exact hk)
theorem own_cut12 {w : World} {base : Nat} {e : TypeId} {n c k : Nat} {A : Option Addr} {l : List Rc} (h : w.ownsRow base e 6 (.slice A n c) n (rcF l)) (hn : n = l.length) (hk : k ≤ n) : w.ownsRow base e 6 (.slice A k c) k (rcF (l.take k)):=by
 subst hn
 have hl : (l.take k).length = k:=by simp; omega
 refine ⟨by rw [rcF_len,hl], ?_⟩
 rcases h.2 with ⟨hv,hm⟩ | ⟨g,cap,cur,hv,h1,hh,h2,h3,h4,h5⟩
 ·injection hv with hA hn hc
  subst hA hc
  have hk0 : k = 0:=by omega
  subst hk0
  exact .inl ⟨rfl,rfl⟩
 ·injection hv with hA hn hc
  subst hA hc
  refine .inr ⟨g,c,cur,rfl,h1,hh,by omega,h3,h4, ?_⟩
  have e : cur.toList.take (k * 6) = (cur.toList.take (l.length * 6)).take (k * 6):=by rw [List.take_take,Nat.min_eq_left (by omega)]
  rw [e,h5]
  conv=>lhs; rw [← List.take_append_drop k l,rcF_app]
  rw [List.take_left' (by rw [rcF_len,hl])]
theorem own_cell12 {w : World} {base : Nat} {e : TypeId} {size n c g : Nat} {xs : List Value} (h : w.ownsRow base e size (.slice (some ⟨g,0,none⟩) n c) n xs) (j : Nat) (u : Value) :
  (w.setCell ⟨g,j,none⟩ u).ownsRow base e size (.slice (some ⟨g,0,none⟩) n c) n (xs.set j u):=by
 refine ⟨by rw [List.length_set]; exact h.1, ?_⟩
 rcases h.2 with ⟨hv,hm⟩ | ⟨g',cap,cur,hv,h1,hh,h2,h3,h4,h5⟩
 ·injection hv with hA
  cases hA
 ·injection hv with hA hn hc
  injection hA with hA
  injection hA with hA
  subst hA hc
  have hb : Blk w g e cur:=hh
  refine .inr ⟨g,c,cur.setIfInBounds j u,rfl,h1,hb.set j u,h2,h3,by simpa using h4, ?_⟩
  rw [Array.toList_setIfInBounds,List.take_set,h5]
theorem own_put12 {w : World} {base : Nat} {e : TypeId} {n c g : Nat} {l : List Rc} (h : w.ownsRow base e 6 (.slice (some ⟨g,0,none⟩) n c) n (rcF l)) (i : Nat) (hi : i < l.length) (x : Rc) :
  ((((((w.setCell ⟨g,i * 6,none⟩ (int i64 x.pr)).setCell ⟨g,i * 6 + 1,none⟩ (int .u32 x.sr)).setCell ⟨g,i * 6 + 2,none⟩ (int .u32 x.ds)).setCell ⟨g,i * 6 + 3,none⟩ (int i64 x.sp)).setCell ⟨g,i * 6 + 4,none⟩ (int i64 x.dp)).setCell ⟨g,i * 6 + 5,none⟩ (int i64 x.un)).ownsRow base e 6 (.slice (some ⟨g,0,none⟩) n c) n (rcF (l.set i x)):=by
 rw [rcF_set l i x hi]
 exact own_cell12 (own_cell12 (own_cell12 (own_cell12 (own_cell12 (own_cell12 h _ _) _ _) _ _) _ _) _ _) _ _
theorem mx12_set {l : List Rc} {i : Nat} {x : Rc} (r : Rc) (h : l[i]? = some x) : rcF (l.set i (mx12 x r)) = (rcF l).set (i * 6 + 5) (int i64 (max x.un r.un)):=by
 have hi : i < l.length:=(List.getElem?_eq_some_iff.1 h).1
 rw [rcF_set l i _ hi]
 have k : ∀ j u,j < 6 → x.cs[j]? = some u → (rcF l).set (i * 6 + j) u = rcF l:=by
  intro j u hj hu
  have e:=rcF_at l i x h j hj
  rw [hu] at e
  obtain ⟨hb,he⟩:=List.getElem?_eq_some_iff.1 e
  rw [← he,List.set_getElem_self]
 have k0:=k 0 (int i64 x.pr) (by omega) rfl
 rw [Nat.add_zero] at k0
 simp only [mx12]
 rw [k0,k 1 (int .u32 x.sr) (by omega) rfl,k 2 (int .u32 x.ds) (by omega) rfl,k 3 (int i64 x.sp) (by omega) rfl,k 4 (int i64 x.dp) (by omega) rfl]
def tbC (life : Int) (A : Option Addr) (n c : Nat) : Array Value:=#[int i64 life, .slice A n c]
def TN (T : TypeId) (w : World) (p : Nat) (o : Option Nat) (life : Int) (l : List Rc) : Prop :=
 ∃ A c,Blk w p T (tbC life A l.length c) ∧ w.ownsRow 0 131 6 (.slice A l.length c) l.length (rcF l) ∧ A.map (·.block) = o ∧ o ≠ some p
theorem tb_cells {w : World} {p : Nat} {life : Int} {A : Option Addr} {n c : Nat} {T : TypeId} (h : Blk w p T (tbC life A n c)) :
  w.cell? ⟨p,0,none⟩ = some (int i64 life) ∧ w.cell? ⟨p,1,none⟩ = some (.slice A n c) ∧ w.frozen? ⟨p,1,none⟩ = false:=by
 have h0:=h.cell 0
 have h1:=h.cell 1
 simp only [tbC,List.getElem?_toArray,List.getElem?_cons_zero,List.getElem?_cons_succ] at h0 h1
 exact ⟨h0,h1,h.frozen 1⟩
section
variable {T : TypeId} {w w' : World} {p : Nat} {o : Option Nat} {life : Int} {l : List Rc}
theorem TN.lt (h : TN T w p o life l) : p < w.heap.size ∧ ∀ k,o = some k → k < w.heap.size:=by
 obtain ⟨A,c,hb,hown,ho,_⟩:=h
 refine ⟨hb.lt,fun k hk => ?_⟩
 rw [hk] at ho
 exact (own_low hown ho).2
theorem TN.chg {S : Nat → Prop} (h : TN T w p o life l) (hc : Chg S w w') (hp : ¬ S p) (ho : ∀ k,o = some k → ¬ S k) : TN T w' p o life l:=by
 obtain ⟨A,c,hb,hown,h1,h2⟩:=h
 exact ⟨A,c,hb.chg hc hp,own_chg hown hc (fun k hk=>ho k (by rw [← h1]; exact hk)),h1,h2⟩
theorem TN.new (h : TN T w p o life l) (hc : Chg (fun _=>False) w w') : TN T w' p o life l:=h.chg hc id (fun _ _=>id)
end
theorem TN.made {w : World} {T : TypeId} {life : Int} : TN T (w.alloc (.cells (tbC life none 0 0) T)) w.heap.size none life [] :=
 ⟨none,0,blk_new rfl,World.ownsRow_nil _ 0 _ 6,rfl,by simp⟩
theorem TN.put {T : TypeId} {w : World} {p : Nat} {life : Int} {A A' : Option Addr} {n n' c c' : Nat} {l : List Rc} (hb : Blk w p T (tbC life A n c)) (ho : w.ownsRow 0 131 6 (.slice A' n' c') n' (rcF l)) (hn : n' = l.length)
  (hne : A'.map (·.block) ≠ some p) : TN T (w.setCell ⟨p,1,none⟩ (.slice A' n' c')) p (A'.map (·.block)) life l:=by
 subst hn
 refine ⟨A',c',hb.set 1 _, ?_,rfl,hne⟩
 exact own_chg ho ((Chg.refl (fun k=>k = p) w).put p 1 (fun _=>rfl) _) (fun k hk e=>by subst e; exact hne hk)
theorem own_tail12 {w : World} {base : Nat} {e : TypeId} {n c g k : Nat} {l : List Rc} (h : w.ownsRow base e 6 (.slice (some ⟨g,0,none⟩) n c) n (rcF l)) (hn : n = l.length) (hk : k ≤ n) : ∀ (vs : List Value) (o : Nat),k * 6 ≤ o →
  (w.setCells g o vs).ownsRow base e 6 (.slice (some ⟨g,0,none⟩) k c) k (rcF (l.take k))
 | vs,o,ho=>by
  have h0:=own_cut12 h hn hk
  have hs : ∀ (vs : List Value) (o : Nat) (w : World),k * 6 ≤ o → w.ownsRow base e 6 (.slice (some ⟨g,0,none⟩) k c) k (rcF (l.take k)) → (w.setCells g o vs).ownsRow base e 6 (.slice (some ⟨g,0,none⟩) k c) k (rcF (l.take k)):=by
   intro vs
   induction vs with
   | nil=>exact fun _ _ _ h=>h
   | cons v vs ih =>
    intro o w ho h
    refine ih (o + 1) _ (by omega) ?_
    have h2:=own_cell12 h o v
    rwa [List.set_eq_of_length_le (by rw [rcF_len]; simp; omega)] at h2
  exact hs vs o w ho h0
theorem chg_cells12 {g : Nat} {a : World} {S : Nat → Prop} (hg : S g) : ∀ (vs : List Value) (o : Nat) (w : World),Chg S a w → Chg S a (w.setCells g o vs)
 | [],_,_,h=>h
 | v :: r,o,w,h=>chg_cells12 hg r (o + 1) _ (h.put g o (fun _=>hg) v)
theorem step_app12 {P : Program} (w : World) {ops : Array Oper} {o : Oper} {a : Act} {K : Act → World → Prop} {Q : Exit → Act → World → Prop} {E : Prop} (hgd : o.guard = none) (s x : Operand) (t : TypeId)
  (ho : o.op = .call { callee := .builtin .append,args:=#[s,x],argTypes:=#[t,t] })
  (base : Nat) (e : TypeId) (i : TypeInfo) (z : Value) (size bytes : Nat) (ht : P.underlying t = some (.slice e)) (hi : P.info? e = some i) (hz : i.zero = some z)
  (hsize : i.size = size) (hby : i.bytes = bytes) (hzs : z.cells.size = size) (hpos : 0 < size)
  (v : Value) (n : Nat) (xs : List Value) (hs : a.eval s = v) (hown : w.ownsRow base e size v n xs)
  (ad : Addr) (m c : Nat) (news : List Value) (hx : a.eval x = .slice (some ad) m c) (hl : news.length = m * size) (hnews : ∀ j u,news[j]? = some u → w.cell? (ad.add j) = some u) (h1 : ∀ u ∈ news,u.oneCell' = true)
  (h63 : n + m ≤ maxLen) (hbytes : (n + m) * bytes ≤ 140737488355328) (hbase : base ≤ w.heap.size)
  (h : ∀ v' w',w'.ownsRow base e size v' (n + m) (xs ++ news) → w.grownBy w' v.ownBlock → (v'.ownBlock = v.ownBlock ∨ v'.ownBlock = some w.heap.size) → K (a.put o.dst v') w') :
  if Region.wanted o (yielded ops a.tmps) = true then Oper.wp P o a w K Q else E:=by
 rw [if_pos (by simp [Region.wanted,hgd])]
 obtain ⟨v',w',hrun,h2,h3,_,h4⟩:=run_append_own_at (P:=P) w base t o.type e i z size bytes ht hi hz hsize hby hzs hpos v n xs hown ad m c news hl hnews h1 h63 hbytes hbase
 unfold Oper.wp execOp
 simp only [ho,resolve,invoke,builtin,Sem.run_bind,Sem.run_pure,Result.andThen_ok,List.map_toArray,List.map_cons,List.map_nil,hs,hx,hrun]
 exact h v' w' h2 h3 h4
theorem stFl : Tryz.prog.underlying 129 = some (.struct (Tryz.prog.fieldsOf 129)):=by kernel_rfl
theorem hpFl : Tryz.prog.stoodInHeld 129 = false:=by kernel_rfl
theorem eqFl12 (W : World) (p s d sp dp p2 s2 d2 sp2 dp2 : Int) : (binOp .eql 129 (.agg #[int i64 p,int .u32 s,int .u32 d,int i64 sp,int i64 dp]) (.agg #[int i64 p2,int .u32 s2,int .u32 d2,int i64 sp2,int i64 dp2])).run Tryz.prog W = .ok (.bool (flE p s d sp dp p2 s2 d2 sp2 dp2)) W:=by
 rw [run_eql_struct,show (10000 : Nat) = 9999 + 1 from rfl,run_equalIn_agg W 9999 129 _ _ stFl hpFl]
 unfold flE
 go_simp
 by_cases h0 : p = p2
 case neg=>simp [h0]
 subst h0
 by_cases h1 : s = s2
 case neg=>simp [h1]
 subst h1
 by_cases h2 : d = d2
 case neg=>simp [h2]
 subst h2
 by_cases h3 : sp = sp2
 case neg=>simp [h3]
 subst h3
 by_cases h4 : dp = dp2
 case neg=>simp [h4]
 subst h4
 simp
theorem tlives_any (p s d sp dp un t : Int) (w : World) : Calls Tryz.prog 93 #[.agg (rcC p s d sp dp un),int i64 t] w fun e w'=>e = .returned (.bool (decide (t < un))) ∧ Chg (fun _=>False) w w':=by
 unfold rcC
 have HX:=hd_ ((Chg.refl (fun _=>False) w).alloc (.cells #[int i64 p,int .u32 s,int .u32 d,int i64 sp,int i64 dp,int i64 un] 131))
 go_enter Tryz.func93,Tryz.ntmps93
 go_wp2_with fail
 go_ret
 exact ⟨rfl,HX.out⟩
theorem ttimely_any (t : Int) (w : World) : Calls Tryz.prog 90 #[int i64 t] w fun e w'=>e = .returned (.bool (tmB t)) ∧ w = w':=by
 by_cases h : 0 ≤ t
 ·have HR:=hd_ (show tmB t = decide (t ≤ 1099511627776) by simp [tmB,h])
  go_enter Tryz.func90,Tryz.ntmps90
  go_wp2_with fail
  go_ret
  exact ⟨ret_b HR.out.symm,rfl⟩
 ·have HR:=hd_ (show tmB t = false by simp [tmB,h])
  go_enter Tryz.func90,Tryz.ntmps90
  go_wp2_with fail
  go_ret
  exact ⟨ret_b HR.out.symm,rfl⟩
theorem talike_any (p s d sp dp p2 s2 d2 sp2 dp2 : Int) (w : World) : Calls Tryz.prog 124 #[.agg (flC p s d sp dp), .agg (flC p2 s2 d2 sp2 dp2)] w fun e w'=>e = .returned (.bool (alB p s d sp dp p2 s2 d2 sp2 dp2)) ∧ Chg (fun _=>False) w w':=by
 have HQ0 : Blk ((w.alloc (.cells #[int i64 p,int .u32 s,int .u32 d,int i64 sp,int i64 dp] 129)).alloc (.cells #[int i64 p2,int .u32 s2,int .u32 d2,int i64 sp2,int i64 dp2] 129)) w.heap.size 129 (flC p s d sp dp):=Blk.alloc (blk_new rfl) _
 replace HQ0:=hd_ HQ0
 have HQ1 : Blk ((w.alloc (.cells #[int i64 p,int .u32 s,int .u32 d,int i64 sp,int i64 dp] 129)).alloc (.cells #[int i64 p2,int .u32 s2,int .u32 d2,int i64 sp2,int i64 dp2] 129)) (w.heap.size + 1) 129 (flC p2 s2 d2 sp2 dp2):=blk_new (by simp)
 replace HQ1:=hd_ HQ1
 have HX0:=hd_ (((Chg.refl (fun _=>False) w).alloc (.cells #[int i64 p,int .u32 s,int .u32 d,int i64 sp,int i64 dp] 129)).alloc (.cells #[int i64 p2,int .u32 s2,int .u32 d2,int i64 sp2,int i64 dp2] 129))
 have he:=fun W=>eqFl12 W p s d sp dp p2 s2 d2 sp2 dp2
 have he2:=fun W=>eqFl12 W p s d sp dp p2 d2 s2 dp2 sp2
 unfold alB
 cases hb : flE p s d sp dp p2 s2 d2 sp2 dp2 with
 | true =>
  rw [hb] at he
  clear hb he2
  unfold flC
  go_enter Tryz.func124,Tryz.ntmps124
  go_wp2_with fail
  generalize ((w.alloc (.cells #[int i64 p,int .u32 s,int .u32 d,int i64 sp,int i64 dp] 129)).alloc (.cells #[int i64 p2,int .u32 s2,int .u32 d2,int i64 sp2,int i64 dp2] 129)) = w1 at *
  have HKEEP : Hid (∀ n,(w1.drewN n).cell? ⟨w.heap.size,0,none⟩ = some (int i64 p) ∧ (w1.drewN n).cell? ⟨w.heap.size,1,none⟩ = some (int .u32 s) ∧ (w1.drewN n).cell? ⟨w.heap.size,2,none⟩ = some (int .u32 d) ∧ (w1.drewN n).cell? ⟨w.heap.size,3,none⟩ = some (int i64 sp) ∧ (w1.drewN n).cell? ⟨w.heap.size,4,none⟩ = some (int i64 dp) ∧ (w1.drewN n).cell? ⟨w.heap.size + 1,0,none⟩ = some (int i64 p2) ∧ (w1.drewN n).cell? ⟨w.heap.size + 1,1,none⟩ = some (int .u32 s2) ∧ (w1.drewN n).cell? ⟨w.heap.size + 1,2,none⟩ = some (int .u32 d2) ∧ (w1.drewN n).cell? ⟨w.heap.size + 1,3,none⟩ = some (int i64 sp2) ∧ (w1.drewN n).cell? ⟨w.heap.size + 1,4,none⟩ = some (int i64 dp2)):=hd_ (fun n=>by
   obtain ⟨x0,x1,x2,x3,x4⟩:=fl_cells (HQ0.out.drewN n)
   obtain ⟨z0,z1,z2,z3,z4⟩:=fl_cells (HQ1.out.drewN n)
   exact ⟨x0,x1,x2,x3,x4,z0,z1,z2,z3,z4⟩)
  obtain ⟨y0,y1,y2,y3,y4⟩:=fl_cells HQ0.out
  obtain ⟨u0,u1,u2,u3,u4⟩:=fl_cells HQ1.out
  go_quiet (fail)
  have HX1:=hd_ (HX0.out.drewN nq)
  go_wp2_with fail
  go_ret
  exact ⟨rfl,HX1.out⟩
 | false =>
  rw [hb] at he
  generalize hb2 : flE p s d sp dp p2 d2 s2 dp2 sp2 = b2 at *
  clear hb hb2
  unfold flC
  go_enter Tryz.func124,Tryz.ntmps124
  go_wp2_with fail
  generalize ((w.alloc (.cells #[int i64 p,int .u32 s,int .u32 d,int i64 sp,int i64 dp] 129)).alloc (.cells #[int i64 p2,int .u32 s2,int .u32 d2,int i64 sp2,int i64 dp2] 129)) = w1 at *
  have HKEEP : Hid (∀ W : World,Chg (fun _=>False) w1 W → (W.cell? ⟨w.heap.size,0,none⟩ = some (int i64 p) ∧ W.cell? ⟨w.heap.size,1,none⟩ = some (int .u32 s) ∧ W.cell? ⟨w.heap.size,2,none⟩ = some (int .u32 d) ∧ W.cell? ⟨w.heap.size,3,none⟩ = some (int i64 sp) ∧ W.cell? ⟨w.heap.size,4,none⟩ = some (int i64 dp) ∧ W.cell? ⟨w.heap.size + 1,0,none⟩ = some (int i64 p2) ∧ W.cell? ⟨w.heap.size + 1,1,none⟩ = some (int .u32 s2) ∧ W.cell? ⟨w.heap.size + 1,2,none⟩ = some (int .u32 d2) ∧ W.cell? ⟨w.heap.size + 1,3,none⟩ = some (int i64 sp2) ∧ W.cell? ⟨w.heap.size + 1,4,none⟩ = some (int i64 dp2))):=hd_ (fun W hw=>by
   obtain ⟨x0,x1,x2,x3,x4⟩:=fl_cells (HQ0.out.chg hw id)
   obtain ⟨z0,z1,z2,z3,z4⟩:=fl_cells (HQ1.out.chg hw id)
   exact ⟨x0,x1,x2,x3,x4,z0,z1,z2,z3,z4⟩)
  have HXA:=hd_ (Chg.refl (fun _=>False) w1).drew
  have HNA:=hd_ (iback_any p2 s2 d2 sp2 dp2 w1.drew)
  unfold flC at HNA
  obtain ⟨y0,y1,y2,y3,y4,u0,u1,u2,u3,u4⟩:=HKEEP.out _ HXA.out
  go_region_held3 (fun w'=>w'.cell? ⟨w.heap.size,0,none⟩ = some (int i64 p) ∧ w'.cell? ⟨w.heap.size,1,none⟩ = some (int .u32 s) ∧ w'.cell? ⟨w.heap.size,2,none⟩ = some (int .u32 d) ∧ w'.cell? ⟨w.heap.size,3,none⟩ = some (int i64 sp) ∧ w'.cell? ⟨w.heap.size,4,none⟩ = some (int i64 dp) ∧ w'.cell? ⟨w.heap.size + 1,0,none⟩ = some (int i64 p2) ∧ w'.cell? ⟨w.heap.size + 1,1,none⟩ = some (int .u32 s2) ∧ w'.cell? ⟨w.heap.size + 1,2,none⟩ = some (int .u32 d2) ∧ w'.cell? ⟨w.heap.size + 1,3,none⟩ = some (int i64 sp2) ∧ w'.cell? ⟨w.heap.size + 1,4,none⟩ = some (int i64 dp2))
   (first | with_reducible exact HKEEP.out _ HXA.out | with_reducible exact HKEEP.out _ HXB.out | fail)
   (first
    | (go_at_call 138; (with_reducible refine (HNA.out).mono ?_); rintro e wz ⟨rfl,hc⟩; have HXB:=hd_ (HXA.out.trans hc (fun _ _ e=>e)); clear hc)
    | fail)
  all_goals
   go_wp2_with fail
   go_ret
   exact ⟨rfl,HX0.out.trans HXB.out (fun _ _ e=>e)⟩
theorem tex1_any (p s d sp dp un t : Int) (q : Nat) (w : World) (h2 : Blk w q 3 #[int i64 t]) : Calls Tryz.prog 122 #[.agg (rcC p s d sp dp un), .pointer (some ⟨q,0,none⟩)] w fun e w'=>e = .returned (.bool (!decide (t < un))) ∧ Chg (fun _=>False) w w':=by
 have HLV:=hd_ (fun W=>tlives_any p s d sp dp un t W)
 have HX:=hd_ (Chg.refl (fun _=>False) (w.alloc (.cells #[int i64 p,int .u32 s,int .u32 d,int i64 sp,int i64 dp,int i64 un] 131)))
 have HB0 : Hid (Blk (w.alloc (.cells #[int i64 p,int .u32 s,int .u32 d,int i64 sp,int i64 dp,int i64 un] 131)) w.heap.size 131 (rcC p s d sp dp un)):=hd_ (blk_new rfl)
 have HB2:=hd_ (h2.alloc (.cells #[int i64 p,int .u32 s,int .u32 d,int i64 sp,int i64 dp,int i64 un] 131))
 have HC0:=hd_ ((Chg.refl (fun _=>False) w).alloc (.cells #[int i64 p,int .u32 s,int .u32 d,int i64 sp,int i64 dp,int i64 un] 131))
 obtain ⟨y0,y1,y2,y3,y4,y5⟩:=rc_cells HB0.out
 have v0:=HB2.out.cell 0
 simp only [List.getElem?_toArray,List.getElem?_cons_zero] at v0
 clear h2
 unfold rcC
 unfold rcC at HLV
 generalize decide (t < un) = b at *
 go_enter Tryz.func122,Tryz.ntmps122
 go_wp2_with fail
 refine (HLV.out _).mono ?_
 rintro e w2 ⟨rfl,hc⟩
 have HX1:=hd_ (HC0.out.trans hc (fun _ _ e=>e))
 clear hc
 go_wp2_with fail
 go_ret
 exact ⟨rfl,HX1.out⟩
def FirstP (g : Rc → Bool) (l : List Rc) (z : Int) : Prop:=(z = -1 ∧ l.any g = false) ∨ ∃ (j : Nat) (x : Rc),z = (j : Int) ∧ l[j]? = some x ∧ g x = true ∧ ∀ (i : Nat) (y : Rc),i < j → l[i]? = some y → g y = false
theorem FirstP.none {g : Rc → Bool} {l : List Rc} (h : ∀ (i : Nat) (x : Rc),i < l.length → l[i]? = some x → g x = false) : FirstP g l (-1):=by
 refine .inl ⟨rfl, ?_⟩
 rw [List.any_eq_false]
 intro y hy
 obtain ⟨i,hi⟩:=List.getElem?_of_mem hy
 rw [h i y (List.getElem?_eq_some_iff.1 hi).1 hi]
 decide
theorem tindexe_any (L : Option Addr) (m lc : Nat) (l : List Rc) (t : Int) (q : Nat) (w : World) (S : Nat → Prop) (h : RcR w S L m l) (hmc : m ≤ 9223372036854775807) (h2 : Blk w q 3 #[int i64 t]) : Calls Tryz.prog 137 #[.slice L m lc, .func (.func 122) #[] #[.pointer (some ⟨q,0,none⟩)]] w fun e w' => ∃ z : Int,e = .returned (int i64 z) ∧ FirstP (fun x : Rc => !lv12 t x) l z ∧ Chg (fun _=>False) w w':=by
 have HH:=hd_ h
 have hl:=h.1
 have HL:=hd_ hl
 have H2:=hd_ h2
 clear h2
 clear h hl
 go_enter Tryz.func137,Tryz.ntmps137
 go_wp2_with fail
 go_loopg [5,8] m (fun g s5 i wr => ∃ j : Nat,g = m - j ∧ j ≤ m ∧ i = int i64 (j : Int) ∧ Hid (∀ (i : Nat) (x : Rc),i < j → l[i]? = some x → (fun x : Rc => !lv12 t x) x = false) ∧ Hid (Chg (fun _=>False) w wr))
 case atStart=>exact ⟨0,rfl,Nat.zero_le _,rfl,hd_ (fun i x hi=>absurd hi (by omega)),hd_ (Chg.refl _ _)⟩
 case round =>
  obtain ⟨j,rfl,hj,rfl,HA,HX⟩:=hrel
  by_cases hlt : j < m
  ·have hh:=HH.out.chg HX.out (fun _ _=>id)
   obtain ⟨ad,rfl, -⟩:=hh.2 (by omega)
   have hjl : j < l.length:=by have:=HL.out; omega
   have hx : l[j]? = some l[j]:=List.getElem?_eq_getElem hjl
   generalize l[j] = x at *
   obtain ⟨z0,z1,z2,z3,z4,z5⟩:=hh.at hx
   have hk:=fun W (hw : Chg (fun _=>False) w W)=>tex1_any x.pr x.sr x.ds x.sp x.dp x.un t q W (H2.out.chg hw id)
   replace hk : ∀ W,Chg (fun _=>False) w W → Calls _ _ _ W (fun e w'=>e = .returned (.bool ((fun x : Rc => !lv12 t x) x)) ∧ Chg (fun _=>False) W w'):=hk
   unfold rcC at hk
   have HJ:=hd_ hx
   clear hx hh hjl
   cases hb : (fun x : Rc => !lv12 t x) x with
   | false =>
    rw [hb] at hk
    have HK:=hd_ hk
    have HB:=hd_ hb
    clear hk hb
    go_wp2_with fail
    refine (HK.out _ HX.out).mono ?_
    rintro e w1 ⟨rfl,hc1⟩
    have HX:=hd_ (HX.out.trans hc1 (fun _ _ e=>e))
    clear hc1
    go_wp2_with fail
    go_roundg (m - (j + 1))
    case measure=>omega
    case rel =>
     refine ⟨j + 1,rfl,by omega,by go_num,hd_ (fun i y hi hy => ?_),HX⟩
     by_cases e : i < j
     ·exact HA.out i y e hy
     ·have : i = j:=by omega
      subst this
      have:=HJ.out
      rw [hy] at this
      injection this with this
      subst this
      exact HB.out
   | true =>
    rw [hb] at hk
    have HK:=hd_ hk
    have HB:=hd_ hb
    clear hk hb
    go_wp2_with fail
    refine (HK.out _ HX.out).mono ?_
    rintro e w1 ⟨rfl,hc1⟩
    have HX:=hd_ (HX.out.trans hc1 (fun _ _ e=>e))
    clear hc1
    go_wp2_with fail
    go_ret
    exact ⟨(j : Int),rfl, .inr ⟨j,x,rfl,HJ.out,HB.out,HA.out⟩,HX.out⟩
  ·have : j = m:=by omega
   subst this
   go_wp2_with fail
   go_ret
   exact ⟨-1,rfl,FirstP.none (fun i y hi hy=>HA.out i y (by have:=HL.out; omega) hy),HX.out⟩
theorem infoRc12 : (Tryz.prog.info? 131).map (fun i=>(i.zero,i.size,i.bytes)) = some (some (.agg #[int i64 0,int .u32 0,int .u32 0,int i64 0,int i64 0,int i64 0]),6,40):=by kernel_rfl
theorem zeroRc12 (w : World) : (zeroValue 131).run Tryz.prog w = .ok (.agg #[int i64 0,int .u32 0,int .u32 0,int i64 0,int i64 0,int i64 0]) w:=Tryz.zeroValue131 w
def zr12 (m : Nat) : List Value:=(Builtin.zeroCells #[int i64 0,int .u32 0,int .u32 0,int i64 0,int i64 0,int i64 0] m).toList
theorem zr12_len (m : Nat) : (zr12 m).length = m * 6:=by simp [zr12,Builtin.zeroCells]
theorem zr12_one (m : Nat) : ∀ v ∈ zr12 m,v.oneCell' = true:=by
 intro v hv
 simp only [zr12,Builtin.zeroCells,Array.toList_map,List.mem_map] at hv
 obtain ⟨i,_,rfl⟩:=hv
 have h6 : i % 6 = 0 ∨ i % 6 = 1 ∨ i % 6 = 2 ∨ i % 6 = 3 ∨ i % 6 = 4 ∨ i % 6 = 5:=by omega
 have e : (#[int i64 0,int .u32 0,int .u32 0,int i64 0,int i64 0,int i64 0] : Array Value).size = 6:=rfl
 rw [e]
 rcases h6 with h | h | h | h | h | h <;> rw [h] <;> rfl
theorem run_clear12 (w : World) (ty : TypeId) (g o m c : Nat) (hm : 0 < m) (hc : ∀ j,j < m * 6 → (w.cell? ⟨g,o + j,none⟩).isSome = true) (hf : ∀ j,j < m * 6 → w.frozen? ⟨g,o + j,none⟩ = false) :
  (Builtin.clear_ #[69] ty #[.slice (some ⟨g,o,none⟩) m c]).run Tryz.prog w = .ok (.tuple #[]) (w.setCells g o (zr12 m)):=by
 have hst:=run_storeCells_cells (P:=Tryz.prog) g o (zr12 m) 0 w (by simpa [zr12_len] using hc) (by simpa [zr12_len] using hf) (zr12_one m)
 simp only [Nat.add_zero] at hst
 obtain ⟨m',rfl⟩ : ∃ m',m = m' + 1:=⟨m - 1,by omega⟩
 have e : (Builtin.zeroCells #[int i64 0,int .u32 0,int .u32 0,int i64 0,int i64 0,int i64 0] (m' + 1)).toList = zr12 (m' + 1):=rfl
 simp [Builtin.clear_,run_underlying Tryz.underlying69,zeroRc12,Value.cells,e,hst]
theorem own_at12 {w : World} {base g n c i : Nat} {l : List Rc} {x : Rc} (h : w.ownsRow base 131 6 (.slice (some ⟨g,0,none⟩) n c) n (rcF l)) (hi : l[i]? = some x) :
  w.cell? ⟨g,i * 6,none⟩ = some (int i64 x.pr) ∧ w.cell? ⟨g,i * 6 + 1,none⟩ = some (int .u32 x.sr) ∧ w.cell? ⟨g,i * 6 + 2,none⟩ = some (int .u32 x.ds) ∧ w.cell? ⟨g,i * 6 + 3,none⟩ = some (int i64 x.sp) ∧ w.cell? ⟨g,i * 6 + 4,none⟩ = some (int i64 x.dp) ∧ w.cell? ⟨g,i * 6 + 5,none⟩ = some (int i64 x.un):=by
 have k : ∀ j u,j < 6 → x.cs[j]? = some u → w.cell? ⟨g,i * 6 + j,none⟩ = some u:=fun j u hj hu=>by
  have e : (⟨g,0,none⟩ : Addr).add (i * 6 + j) = ⟨g,i * 6 + j,none⟩:=by unfold Addr.add; split <;> simp_all
  rw [← e]
  exact h.cells (g:=g) rfl _ u (by rw [rcF_at l i x hi j hj,hu])
 exact ⟨k 0 _ (by omega) rfl,k 1 _ (by omega) rfl,k 2 _ (by omega) rfl,k 3 _ (by omega) rfl,k 4 _ (by omega) rfl,k 5 _ (by omega) rfl⟩
theorem own_blk12 {w : World} {base g n c : Nat} {xs : List Value} (h : w.ownsRow base 131 6 (.slice (some ⟨g,0,none⟩) n c) n xs) : ∃ cur,Blk w g 131 cur ∧ cur.size = c * 6 ∧ n ≤ c:=by
 rcases h.2 with ⟨hv,hm⟩ | ⟨g',cap,cur,hv,h1,hh,h2,h3,h4,h5⟩
 ·injection hv with hA
  cases hA
 ·injection hv with hA hn hc
  injection hA with hA
  injection hA with hA
  subst hA hc
  exact ⟨cur,hh,h4,h2⟩
theorem own_free12 {w : World} {base g n c : Nat} {xs : List Value} (h : w.ownsRow base 131 6 (.slice (some ⟨g,0,none⟩) n c) n xs) (i : Nat) : w.frozen? ⟨g,i,none⟩ = false:=by
 obtain ⟨cur,hb,_⟩:=own_blk12 h
 exact hb.frozen i
theorem own_form12 {w : World} {base n c : Nat} {A : Option Addr} {xs : List Value} (h : w.ownsRow base 131 6 (.slice A n c) n xs) (hn : 0 < n) : ∃ g,A = some ⟨g,0,none⟩:=by
 rcases h.2 with ⟨hv,hm⟩ | ⟨g',cap,cur,hv,_⟩
 ·omega
 ·injection hv with hA
  exact ⟨g',hA⟩
def DelP12 (w : World) (A : Option Addr) (c : Nat) (t : Int) (l : List Rc) (e : Ending) (w' : World) : Prop :=
 ∃ k : Nat,e = .returned (.slice A k c) ∧ k = (ex12 t l).length ∧ w'.ownsRow 0 131 6 (.slice A k c) k (rcF (ex12 t l)) ∧ Chg (fun b=>A.map (·.block) = some b) w w'
theorem ex12_all {t : Int} {l : List Rc} (h : (l.any fun x : Rc => !lv12 t x) = false) : ex12 t l = l:=by
 unfold ex12
 rw [List.filter_eq_self]
 intro x hx
 rw [List.any_eq_false] at h
 have:=h x hx
 simpa using this
theorem ex12_bef {t : Int} {l : List Rc} {j : Nat} (h : ∀ (i : Nat) (y : Rc),i < j → l[i]? = some y → (!lv12 t y) = false) : ex12 t (l.take j) = l.take j:=by
 unfold ex12
 rw [List.filter_eq_self]
 intro x hx
 obtain ⟨i,hi⟩:=List.getElem?_of_mem hx
 rw [List.getElem?_take] at hi
 split at hi
 ·next hj =>
  have:=h i x hj hi
  simpa using this
 ·cases hi
theorem tdelete_any {w : World} {A : Option Addr} {n c : Nat} {l : List Rc} {t : Int} {q : Nat} (h : w.ownsRow 0 131 6 (.slice A n c) n (rcF l)) (hn : n = l.length) (hq : Blk w q 3 #[int i64 t]) (hne : A.map (·.block) ≠ some q) : Calls Tryz.prog 121 #[.slice A n c, .func (.func 122) #[] #[.pointer (some ⟨q,0,none⟩)]] w (DelP12 w A c t l):=by
 have hcap:=own_cap h
 have HI:=hd_ (tindexe_any A n c l t q w _ (own_rcr h hn) (by unfold maxLen at hcap; omega) hq)
 have HOWN:=hd_ h
 have HQ:=hd_ hq
 have HN:=hd_ hn
 have HNE:=hd_ hne
 have hcm : c ≤ 9223372036854775807:=hcap.2
 have hnc:=hcap.1
 clear h hq hn hne hcap
 go_enter Tryz.func121,Tryz.ntmps121
 go_wp2_with fail
 refine HI.out.mono ?_
 rintro e w1 ⟨z,rfl,hz,hc⟩
 have HX1:=hd_ hc
 clear hc HI
 rcases hz with ⟨rfl,hall⟩ | ⟨j0,x0,rfl,hj0,hx0,hbef⟩
 ·have HE:=hd_ (ex12_all hall)
  clear hall
  go_wp2_with fail
  go_ret
  exact ⟨n,rfl,by rw [HE.out]; exact HN.out,by rw [HE.out]; exact own_chg HOWN.out HX1.out (fun _ _=>id),HX1.out.mono (fun _ _ e=>e.elim)⟩
 ·have hjn : j0 < n:=by have:=(List.getElem?_eq_some_iff.1 hj0).1; have:=HN.out; omega
  have HB:=hd_ (show ex12 t (l.take j0) = l.take j0 from ex12_bef hbef)
  have HB1:=hd_ (show ex12 t (l.take (j0 + 1)) = l.take j0 by
   rw [ex12_take hj0,HB.out,show lv12 t x0 = false by simpa using hx0]
   simp)
  clear hbef hx0 hj0
  obtain ⟨g,rfl⟩:=own_form12 HOWN.out (by omega)
  replace HOWN:=hd_ (own_chg HOWN.out HX1.out (fun _ _=>id))
  replace HQ:=hd_ (HQ.out.chg HX1.out id)
  replace HX1 : Hid (Chg (fun b=>b = g) w w1):=hd_ (HX1.out.mono (fun _ _ e=>e.elim))
  replace HNE:=hd_ (show q ≠ g from fun e=>HNE.out (by rw [e]; rfl))
  have tz : ((j0 : Int) == -1) = false:=by simp
  go_wp2_with fail
  go_loopg [5,6,7] (n - (j0 + 1)) (fun g' s5 s6 s7 wr => ∃ (j k : Nat) (l' : List Rc),g' = n - j ∧ j ≤ n ∧ s5 = int i64 (k : Int) ∧ s6 = int i64 (j : Int) ∧ k < j ∧ Hid (n = l'.length ∧ l'.take k = ex12 t (l.take j) ∧ l'.drop j = l.drop j) ∧ Hid (wr.ownsRow 0 131 6 (.slice (some ⟨g,0,none⟩) n c) n (rcF l')) ∧ Hid (Chg (fun b=>b = g) w wr) ∧ Hid (Blk wr q 3 #[int i64 t]))
  case atStart=>exact ⟨j0 + 1,j0,l,rfl,by omega,rfl,by go_num,by omega,hd_ ⟨HN.out,HB1.out.symm,rfl⟩,HOWN,HX1,HQ⟩
  case round =>
   obtain ⟨j,k,l',rfl,hj,rfl,rfl,hkj,HL,HO,HX,HQ⟩:=hrel
   by_cases hlt : j < n
   ·have hjl : j < l.length:=by have:=HN.out; omega
    have hx : l[j]? = some l[j]:=List.getElem?_eq_getElem hjl
    generalize l[j] = x at *
    have hx' : l'[j]? = some x:=by
     have e:=HL.out.2.2
     have e2 : (l'.drop j)[0]? = (l.drop j)[0]? := by rw [e]
     rw [List.getElem?_drop,List.getElem?_drop] at e2
     simpa [hx] using e2
    have hkl : k < l'.length:=by have:=HL.out.1; omega
    have hy : l'[k]? = some l'[k]:=List.getElem?_eq_getElem hkl
    generalize l'[k] = y at *
    obtain ⟨z0,z1,z2,z3,z4,z5⟩:=own_at12 HO.out hx'
    have HX2:=hd_ (show ex12 t (l.take (j + 1)) = ex12 t (l.take j) ++ (if lv12 t x then [x] else []) from ex12_take hx)
    have HY:=hd_ hy
    clear hx hx' hy hjl
    have HB0 : Hid (Blk (wr.alloc (.cells #[int i64 x.pr,int .u32 x.sr,int .u32 x.ds,int i64 x.sp,int i64 x.dp,int i64 x.un] 131)) wr.heap.size 131 (rcC x.pr x.sr x.ds x.sp x.dp x.un)):=hd_ (blk_new rfl)
    have HC0:=hd_ ((Chg.refl (fun _=>False) wr).alloc (.cells #[int i64 x.pr,int .u32 x.sr,int .u32 x.ds,int i64 x.sp,int i64 x.dp,int i64 x.un] 131))
    have hk:=fun W (hw : Chg (fun _=>False) wr W)=>tex1_any x.pr x.sr x.ds x.sp x.dp x.un t q W (HQ.out.chg hw id)
    replace hk : ∀ W,Chg (fun _=>False) wr W → Calls _ _ _ W (fun e w'=>e = .returned (.bool (!lv12 t x)) ∧ Chg (fun _=>False) W w'):=hk
    unfold rcC at hk
    have hgw : g < wr.heap.size:=(own_low HO.out rfl).2
    obtain ⟨b0,b1,b2,b3,b4,b5⟩:=rc_cells HB0.out
    cases hb : lv12 t x with
    | false =>
     rw [hb] at hk HX2
     have HK:=hd_ hk
     clear hk hb
     go_wp2_with fail
     refine (HK.out _ HC0.out).mono ?_
     rintro e w2 ⟨rfl,hc1⟩
     have HC:=hd_ (HC0.out.trans hc1 (fun _ _ e=>e))
     clear hc1
     go_wp2_with fail
     go_roundg (n - (j + 1))
     case measure=>omega
     case rel =>
      refine ⟨j + 1,k,l',rfl,by omega,rfl,by go_num,by omega,hd_ ⟨HL.out.1, ?_, ?_⟩,hd_ (own_chg HO.out HC.out (fun _ _=>id)),hd_ (HX.out.trans HC.out (fun _ _ e=>e.elim)),hd_ (HQ.out.chg HC.out id)⟩
      ·rw [HX2.out,HL.out.2.1]
       simp
      ·have e:=congrArg (List.drop 1) HL.out.2.2
       simpa [List.drop_drop,Nat.add_comm] using e
    | true =>
     rw [hb] at hk HX2
     have HK:=hd_ hk
     clear hk hb
     go_wp2_with fail
     refine (HK.out _ HC0.out).mono ?_
     rintro e w2 ⟨rfl,hc1⟩
     have HC:=hd_ (HC0.out.trans hc1 (fun _ _ e=>e))
     have HBB:=hd_ (HB0.out.chg hc1 id)
     clear hc1 b0 b1 b2 b3 b4 b5
     have HO2:=hd_ (own_chg HO.out HC.out (fun _ _=>id))
     obtain ⟨b0,b1,b2,b3,b4,b5⟩:=rc_cells HBB.out
     obtain ⟨a0,a1,a2,a3,a4,a5⟩:=own_at12 HO2.out HY.out
     have f0:=own_free12 HO2.out (k * 6)
     have f1:=own_free12 HO2.out (k * 6 + 1)
     have f2:=own_free12 HO2.out (k * 6 + 2)
     have f3:=own_free12 HO2.out (k * 6 + 3)
     have f4:=own_free12 HO2.out (k * 6 + 4)
     have f5:=own_free12 HO2.out (k * 6 + 5)
     have HP:=hd_ (own_put12 HO2.out k hkl x)
     have HC3 : Hid (Chg (fun b=>b = g) wr ((((((w2.setCell ⟨g,k * 6,none⟩ (int i64 x.pr)).setCell ⟨g,k * 6 + 1,none⟩ (int .u32 x.sr)).setCell ⟨g,k * 6 + 2,none⟩ (int .u32 x.ds)).setCell ⟨g,k * 6 + 3,none⟩ (int i64 x.sp)).setCell ⟨g,k * 6 + 4,none⟩ (int i64 x.dp)).setCell ⟨g,k * 6 + 5,none⟩ (int i64 x.un))) :=
      hd_ ((((((((HC.out.mono (fun _ _ e=>e.elim) : Chg (fun b=>b = g) wr w2).put g _ (fun _=>rfl) _).put g _ (fun _=>rfl) _).put g _ (fun _=>rfl) _).put g _ (fun _=>rfl) _).put g _ (fun _=>rfl) _).put g _ (fun _=>rfl) _))
     go_wp2_with fail
     generalize (((((w2.setCell ⟨g,k * 6,none⟩ (int i64 x.pr)).setCell ⟨g,k * 6 + 1,none⟩ (int .u32 x.sr)).setCell ⟨g,k * 6 + 2,none⟩ (int .u32 x.ds)).setCell ⟨g,k * 6 + 3,none⟩ (int i64 x.sp)).setCell ⟨g,k * 6 + 4,none⟩ (int i64 x.dp)).setCell ⟨g,k * 6 + 5,none⟩ (int i64 x.un) = w6 at *
     go_roundg (n - (j + 1))
     case measure=>omega
     case rel =>
      refine ⟨j + 1,k + 1,l'.set k x,rfl,by omega,by go_num,by go_num,by omega,hd_ ⟨by simp; exact HL.out.1, ?_, ?_⟩,HP,hd_ (HX.out.trans HC3.out (fun _ _ e=>e)),hd_ (HQ.out.chg HC3.out HNE.out)⟩
      ·rw [HX2.out, ← HL.out.2.1,List.take_add_one,List.take_set,List.getElem?_set_self hkl,List.set_eq_of_length_le (by rw [List.length_take]; omega)]
       simp
      ·rw [List.drop_set,if_pos (by omega)]
       have e:=congrArg (List.drop 1) HL.out.2.2
       simpa [List.drop_drop,Nat.add_comm] using e
   ·have hjn : j = n:=by omega
    subst hjn
    have HE:=hd_ (show l'.take k = ex12 t l by rw [HL.out.2.1,List.take_of_length_le (by have:=HN.out; omega)])
    have HKL:=hd_ (show k = (ex12 t l).length by rw [← HE.out,List.length_take]; have:=HL.out.1; omega)
    have HT:=hd_ (own_tail12 (k:=k) HO.out HL.out.1 (by omega) (zr12 (j - k)) (k * 6) (Nat.le_refl _))
    have HCT:=hd_ (chg_cells12 (g:=g) (S:=fun b=>b = g) rfl (zr12 (j - k)) (k * 6) _ HX.out)
    have hcl : ∀ ty,(Builtin.clear_ #[69] ty #[.slice (some ⟨g,k * 6,none⟩) (j - k) (c - k)]).run Tryz.prog wr = .ok (.tuple #[]) (wr.setCells g (k * 6) (zr12 (j - k))):=fun ty=>by
     obtain ⟨cur,hb,hs,hnc⟩:=own_blk12 HO.out
     refine run_clear12 wr ty g (k * 6) (j - k) (c - k) (by omega) (fun i hi => ?_) (fun i hi=>hb.frozen _)
     rw [hb.cell,Array.getElem?_eq_getElem (by omega)]
     rfl
    have hkc : k ≤ c:=by omega
    have hkne : ¬ c = k:=by omega
    have hkj2 : k ≤ j:=by omega
    generalize wr.setCells g (k * 6) (zr12 (j - k)) = w9 at *
    go_wp2_with fail
    go_ret
    refine ⟨k,rfl,HKL.out, ?_,HCT.out.mono (fun _ _ e=>by rw [e]; rfl)⟩
    rw [← HE.out]
    exact HT.out
theorem TN.pushed {T : TypeId} {w0 w4 w5 : World} {q m c c5 : Nat} {o : Option Nat} {life : Int} {l : List Rc} {LA A5 : Option Addr} (r : Rc) (hb : Blk w0 q T (tbC life LA m c)) (hA : LA.map (·.block) = o) (hoq : o ≠ some q) (hl : l.length = m) (hc : Chg (fun _=>False) w0 w4)
  (hg : w4.grownBy w5 (Value.slice LA m c).ownBlock) (hat : (Value.slice A5 (m + 1) c5).ownBlock = (Value.slice LA m c).ownBlock ∨ (Value.slice A5 (m + 1) c5).ownBlock = some w4.heap.size)
  (hown : w5.ownsRow 0 131 6 (.slice A5 (m + 1) c5) (m + 1) (rcF l ++ r.cs.toList)) :
  (w5.cell? ⟨q,0,none⟩ = some (int i64 life) ∧ w5.cell? ⟨q,1,none⟩ = some (.slice LA m c) ∧ w5.frozen? ⟨q,1,none⟩ = false) ∧ TN T (w5.setCell ⟨q,1,none⟩ (.slice A5 (m + 1) c5)) q (A5.map (·.block)) life (l ++ [r]) ∧ Mvd q o (A5.map (·.block)) w0 (w5.setCell ⟨q,1,none⟩ (.slice A5 (m + 1) c5)):=by
 rw [own_block,own_block,hA] at hat
 rw [own_block,hA] at hg
 have hq:=hb.lt
 have hz:=hc.size
 have hb5:=blk_grown (hb.chg hc id) hg hoq
 have hne : A5.map (·.block) ≠ some q:=by
  rcases hat with e | e
  ·rw [e]; exact hoq
  ·rw [e]
   intro e
   injection e with e
   omega
 have hown' : w5.ownsRow 0 131 6 (.slice A5 (m + 1) c5) (m + 1) (rcF (l ++ [r])):=by
  rw [rcF_app]
  have e : rcF [r] = r.cs.toList:=by simp [rcF]
  rw [e]
  exact hown
 refine ⟨tb_cells hb5,TN.put hb5 hown' (by simp [hl]) hne,⟨((hc.mono (fun _ _ h=>h.elim)).grown hg (fun k hk _ => .inr hk)).put q 1 (fun _ => .inl rfl) _, ?_⟩⟩
 rcases hat with e | e
 ·exact .inl e
 ·exact .inr (.inr ⟨_,e,hz⟩)
theorem texpire_any {w : World} {q : Nat} {o : Option Nat} {life : Int} {l : List Rc} (h : TN 106 w q o life l) (t : Int) : Calls Tryz.prog 91 #[.pointer (some ⟨q,0,none⟩),int i64 t] w fun e w'=>e = .returned (.tuple #[]) ∧ TN 106 w' q o life (ex12 t l) ∧ Chg (fun k=>k = q ∨ o = some k) w w':=by
 obtain ⟨LA,c,hb,hown,hA,hoq⟩:=h
 have HX0:=hd_ ((Chg.refl (fun _=>False) w).alloc (.cells #[int i64 t] 3))
 have HB0 : Hid (Blk (w.alloc (.cells #[int i64 t] 3)) w.heap.size 3 #[int i64 t]):=hd_ (blk_new rfl)
 have hw0:=hb.lt
 have HA:=hd_ hA
 have HOQ:=hd_ hoq
 have hol : ∀ k,o = some k → k < w.heap.size:=fun k hk=>(own_low hown (by rw [hA]; exact hk)).2
 have HP:=hd_ (hb.chg HX0.out id)
 have HD:=hd_ (tdelete_any (own_chg hown HX0.out (fun _ _=>id)) rfl HB0.out (by rw [hA]; intro e; have:=hol _ e; omega))
 generalize hm : l.length = m at *
 clear hb hown hA hoq hol hm
 go_enter Tryz.func91,Tryz.ntmps91
 go_upto_region 1 with fail
 generalize w.alloc (.cells #[int i64 t] 3) = w1 at *
 obtain ⟨c0,c1,f1⟩:=tb_cells HP.out
 go_wp2_with fail
 refine HD.out.mono ?_
 rintro e w2 ⟨k,rfl,hk,hown,hc⟩
 have hc' : Chg (fun k=>o = some k) w1 w2:=by rw [← HA.out]; exact hc
 have HP2:=hd_ (HP.out.chg hc' HOQ.out)
 have HR:=hd_ (TN.put HP2.out hown hk (by rw [HA.out]; exact HOQ.out))
 have HC:=hd_ ((HX0.out.mono (S':=fun k=>k = q ∨ o = some k) (fun _ _ e=>e.elim)).trans ((hc'.mono (S':=fun k=>k = q ∨ o = some k) (fun _ _ e => .inr e)).put q 1 (fun _ => .inl rfl) (.slice LA k c)) (fun _ _ e=>e))
 have HK:=hd_ hk
 clear c0 c1 f1 hown hc hc' hk
 obtain ⟨c0,c1,f1⟩:=tb_cells HP2.out
 go_wp2_with fail
 exact bodyPost_end (results_none rfl _ _ _) rfl ⟨rfl,by rw [← HA.out]; exact HR.out,HC.out⟩
theorem ttake_any {w : World} {q : Nat} {o : Option Nat} {life : Int} {l : List Rc} (h : TN 106 w q o life l) (h16 : l.length ≤ 16) (p s d sp dp un : Int) : Calls Tryz.prog 94 #[.pointer (some ⟨q,0,none⟩), .agg (rcC p s d sp dp un)] w fun e w'=>e = .returned (.bool (pb12 l (⟨p,s,d,sp,dp,un⟩ : Rc))) ∧ ∃ o',TN 106 w' q o' life (pu12 l (⟨p,s,d,sp,dp,un⟩ : Rc)) ∧ Mvd q o o' w w':=by
 obtain ⟨i0,hi0,hz0,hz1,hz2⟩:=info_parts infoRc12
 obtain ⟨LA,c,hb,hown,hA,hoq⟩:=h
 have HX0:=hd_ ((Chg.refl (fun _=>False) w).alloc (.cells #[int i64 p,int .u32 s,int .u32 d,int i64 sp,int i64 dp,int i64 un] 131))
 have HB0 : Hid (Blk (w.alloc (.cells #[int i64 p,int .u32 s,int .u32 d,int i64 sp,int i64 dp,int i64 un] 131)) w.heap.size 131 (rcC p s d sp dp un)):=hd_ (blk_new rfl)
 have hq0:=hb.lt
 have HA:=hd_ hA
 have HOQ:=hd_ hoq
 have hol : ∀ k,o = some k → k < w.heap.size:=fun k hk=>(own_low hown (by rw [hA]; exact hk)).2
 have HOL:=hd_ hol
 have HP:=hd_ (hb.chg HX0.out id)
 have HO:=hd_ (own_chg hown HX0.out (fun _ _=>id))
 have HR:=hd_ (own_rcr HO.out rfl)
 have hcap:=own_cap hown
 have HCAP:=hd_ hcap
 generalize hm : l.length = m at *
 have HL:=hd_ hm
 clear hb hown hA hoq hol hm hcap
 unfold rcC
 go_enter Tryz.func94,Tryz.ntmps94
 go_upto_region 1 with fail
 generalize (w.alloc (.cells #[int i64 p,int .u32 s,int .u32 d,int i64 sp,int i64 dp,int i64 un] 131)) = w1 at *
 generalize w.heap.size = B at *
 obtain ⟨c0,c1,f1⟩:=tb_cells HP.out
 go_wp2_with fail
 go_loopg [5,6,12] m (fun g' s5 s6 i wr => ∃ j : Nat,g' = m - j ∧ j ≤ m ∧ i = int i64 (j : Int) ∧ Hid (∀ (i : Nat) (y : Rc),i < j → l[i]? = some y → al12 y (⟨p,s,d,sp,dp,un⟩ : Rc) = false) ∧ Hid (Chg (fun _=>False) w1 wr))
 case atStart=>exact ⟨0,rfl,Nat.zero_le _,rfl,hd_ (fun i x hi=>absurd hi (by omega)),hd_ (Chg.refl _ _)⟩
 case round =>
  obtain ⟨j,rfl,hj,rfl,HN,HX⟩:=hrel
  by_cases hlt : j < m
  ·obtain ⟨g,rfl⟩:=own_form12 HO.out (by omega)
   have hjl : j < l.length:=by have:=HL.out; omega
   have hx : l[j]? = some l[j]:=List.getElem?_eq_getElem hjl
   generalize l[j] = x at *
   have HOr:=hd_ (own_chg HO.out HX.out (fun _ _=>id))
   obtain ⟨z0,z1,z2,z3,z4,z5⟩:=own_at12 HOr.out hx
   have HJ:=hd_ hx
   clear hx hjl c0 c1 f1
   have HXB : Hid (Blk (wr.alloc (.cells #[int i64 x.pr,int .u32 x.sr,int .u32 x.ds,int i64 x.sp,int i64 x.dp,int i64 x.un] 131)) wr.heap.size 131 (rcC x.pr x.sr x.ds x.sp x.dp x.un)):=hd_ (blk_new rfl)
   have HC0:=hd_ (HX.out.alloc (.cells #[int i64 x.pr,int .u32 x.sr,int .u32 x.ds,int i64 x.sp,int i64 x.dp,int i64 x.un] 131))
   have HB1:=hd_ (HB0.out.chg HC0.out id)
   obtain ⟨x0,x1,x2,x3,x4,x5⟩:=rc_cells HXB.out
   obtain ⟨y0,y1,y2,y3,y4,y5⟩:=rc_cells HB1.out
   have HAL:=hd_ (show ∀ W,Calls _ _ _ W _ from fun W=>talike_any x.pr x.sr x.ds x.sp x.dp p s d sp dp W)
   have hal : alB x.pr x.sr x.ds x.sp x.dp p s d sp dp = al12 x (⟨p,s,d,sp,dp,un⟩ : Rc):=rfl
   rw [hal] at HAL
   clear hal
   unfold flC at HAL
   cases hb : al12 x (⟨p,s,d,sp,dp,un⟩ : Rc) with
   | false =>
    rw [hb] at HAL
    have HBF:=hd_ hb
    clear hb
    go_wp2_with fail
    refine (HAL.out _).mono ?_
    rintro e w2 ⟨rfl,hc1⟩
    have HX2:=hd_ (HC0.out.trans hc1 (fun _ _ e=>e))
    clear hc1
    go_wp2_with fail
    go_roundg (m - (j + 1))
    case measure=>omega
    case rel =>
     refine ⟨j + 1,rfl,by omega,by go_num,hd_ (fun i y hi hy => ?_),HX2⟩
     by_cases e : i < j
     ·exact HN.out i y e hy
     ·have : i = j:=by omega
      subst this
      have:=HJ.out
      rw [hy] at this
      injection this with this
      subst this
      exact HBF.out
   | true =>
    rw [hb] at HAL
    have HPU:=hd_ (pu12_at HJ.out hb HN.out)
    clear hb
    have HG:=hd_ (show o = some g from HA.out.symm)
    have HQG:=hd_ (show q ≠ g from fun e=>HOQ.out (by rw [HG.out,e]))
    have hwr:=HX.out.size
    have hw1:=HO.out
    have hB1:=HB0.out.lt
    go_wp2_with fail
    refine (HAL.out _).mono ?_
    rintro e w2 ⟨rfl,hc1⟩
    have HX2:=hd_ (HC0.out.trans hc1 (fun _ _ e=>e))
    have HXB2:=hd_ (HXB.out.chg hc1 id)
    have HB2:=hd_ (HB0.out.chg HX2.out id)
    have HP2:=HP
    have HP3:=hd_ (HP.out.chg HX2.out id)
    have HO2:=hd_ (own_chg HO.out HX2.out (fun _ _=>id))
    clear hc1 x0 x1 x2 x3 x4 x5 y0 y1 y2 y3 y4 y5 z0 z1 z2 z3 z4 z5 hw1
    obtain ⟨-, -, -, -, -,x5⟩:=rc_cells HXB2.out
    obtain ⟨-, -, -, -, -,y5⟩:=rc_cells HB2.out
    obtain ⟨c0,c1,f1⟩:=tb_cells HP3.out
    obtain ⟨-, -, -, -, -,z5⟩:=own_at12 HO2.out HJ.out
    have f5:=own_free12 HO2.out (j * 6 + 5)
    rcases Int.lt_trichotomy x.un un with hmax | hmax | hmax
    ·skip
     have HP:=hd_ (own_cell12 HO2.out (j * 6 + 5) (int i64 (un)))
     have hmx : max x.un un = un:=by omega
     have HST:=hd_ (show rcF (l.set j (mx12 x (⟨p,s,d,sp,dp,un⟩ : Rc))) = (rcF l).set (j * 6 + 5) (int i64 (un)) by rw [mx12_set _ HJ.out]; simp [hmx])
     have HC3 : Hid (Chg (fun k=>k = q ∨ o = some k) w1 (w2.setCell ⟨g,j * 6 + 5,none⟩ (int i64 (un)))):=hd_ ((HX2.out.mono (fun _ _ e=>e.elim)).put g _ (fun _ => .inr HG.out) _)
     clear hmx
     go_wp2_with fail
     go_region
     all_goals (try (exfalso; omega))
     all_goals go_wp2_with fail
     all_goals (try (exfalso; omega))
     all_goals
      go_ret
      refine ⟨ret_b HPU.out.2.symm,o, ?_,⟨(HX0.out.mono (fun _ _ e=>e.elim)).trans HC3.out.drew (fun _ _ e=>e), .inl rfl⟩⟩
      rw [HPU.out.1]
      refine ⟨some ⟨g,0,none⟩,c, ?_, ?_,HG.out.symm,HOQ.out⟩
      ·rw [List.length_set,HL.out]
       exact ((HP2.out.chg HX2.out id).chg ((Chg.refl (fun k=>k = g) w2).put g _ (fun _=>rfl) _) HQG.out).drew
      ·rw [HST.out,List.length_set,HL.out]
       exact HP.out.drew
    ·subst hmax
     have HP:=hd_ (own_cell12 HO2.out (j * 6 + 5) (int i64 (x.un)))
     have hmx : max x.un x.un = x.un:=by omega
     have HST:=hd_ (show rcF (l.set j (mx12 x (⟨p,s,d,sp,dp,x.un⟩ : Rc))) = (rcF l).set (j * 6 + 5) (int i64 (x.un)) by rw [mx12_set _ HJ.out]; simp [hmx])
     have HC3 : Hid (Chg (fun k=>k = q ∨ o = some k) w1 (w2.setCell ⟨g,j * 6 + 5,none⟩ (int i64 (x.un)))):=hd_ ((HX2.out.mono (fun _ _ e=>e.elim)).put g _ (fun _ => .inr HG.out) _)
     clear hmx
     go_wp2_with fail
     go_region
     all_goals (try (exfalso; omega))
     all_goals go_wp2_with fail
     all_goals (try (exfalso; omega))
     all_goals
      go_ret
      refine ⟨ret_b HPU.out.2.symm,o, ?_,⟨(HX0.out.mono (fun _ _ e=>e.elim)).trans HC3.out.drew (fun _ _ e=>e), .inl rfl⟩⟩
      rw [HPU.out.1]
      refine ⟨some ⟨g,0,none⟩,c, ?_, ?_,HG.out.symm,HOQ.out⟩
      ·rw [List.length_set,HL.out]
       exact ((HP2.out.chg HX2.out id).chg ((Chg.refl (fun k=>k = g) w2).put g _ (fun _=>rfl) _) HQG.out).drew
      ·rw [HST.out,List.length_set,HL.out]
       exact HP.out.drew
    ·skip
     have HP:=hd_ (own_cell12 HO2.out (j * 6 + 5) (int i64 (x.un)))
     have hmx : max x.un un = x.un:=by omega
     have HST:=hd_ (show rcF (l.set j (mx12 x (⟨p,s,d,sp,dp,un⟩ : Rc))) = (rcF l).set (j * 6 + 5) (int i64 (x.un)) by rw [mx12_set _ HJ.out]; simp [hmx])
     have HC3 : Hid (Chg (fun k=>k = q ∨ o = some k) w1 (w2.setCell ⟨g,j * 6 + 5,none⟩ (int i64 (x.un)))):=hd_ ((HX2.out.mono (fun _ _ e=>e.elim)).put g _ (fun _ => .inr HG.out) _)
     clear hmx
     go_wp2_with fail
     go_region
     all_goals (try (exfalso; omega))
     all_goals go_wp2_with fail
     all_goals (try (exfalso; omega))
     all_goals
      go_ret
      refine ⟨ret_b HPU.out.2.symm,o, ?_,⟨(HX0.out.mono (fun _ _ e=>e.elim)).trans HC3.out.drew (fun _ _ e=>e), .inl rfl⟩⟩
      rw [HPU.out.1]
      refine ⟨some ⟨g,0,none⟩,c, ?_, ?_,HG.out.symm,HOQ.out⟩
      ·rw [List.length_set,HL.out]
       exact ((HP2.out.chg HX2.out id).chg ((Chg.refl (fun k=>k = g) w2).put g _ (fun _=>rfl) _) HQG.out).drew
      ·rw [HST.out,List.length_set,HL.out]
       exact HP.out.drew
  ·have hjm : j = m:=by omega
   subst hjm
   have HNN:=hd_ (show ∀ (i : Nat) (y : Rc),i < l.length → l[i]? = some y → al12 y (⟨p,s,d,sp,dp,un⟩ : Rc) = false from fun i y hi hy=>HN.out i y (by have:=HL.out; omega) hy)
   clear c0 c1 f1
   have HP3:=hd_ (HP.out.chg HX.out id)
   have HO2:=hd_ (own_chg HO.out HX.out (fun _ _=>id))
   have HB2:=hd_ (HB0.out.chg HX.out id)
   obtain ⟨c0,c1,f1⟩:=tb_cells HP3.out
   obtain ⟨y0,y1,y2,y3,y4,y5⟩:=rc_cells HB2.out
   by_cases hfull : 16 ≤ j
   ·have HPU:=hd_ (pu12_full HNN.out (by have:=HL.out; omega))
    go_wp2_with fail
    go_ret
    refine ⟨ret_b HPU.out.2.symm,o, ?_,⟨(HX0.out.mono (fun _ _ e=>e.elim)).trans (HX.out.mono (S':=fun k=>k = q ∨ o = some k) (fun _ _ e=>e.elim)) (fun _ _ e=>e), .inl rfl⟩⟩
    rw [HPU.out.1]
    exact ⟨LA,c,by rw [HL.out]; exact HP3.out,by rw [HL.out]; exact HO2.out,HA.out,HOQ.out⟩
   ·have HPU:=hd_ (pu12_new HNN.out (by have:=HL.out; omega))
    have HQ:=hd_ hq0
    have c1a : (wr.alloc (.cells #[int i64 p,int .u32 s,int .u32 d,int i64 sp,int i64 dp,int i64 un] 131)).drew.cell? ⟨q,1,none⟩ = some (.slice LA j c):=(tb_cells (HP3.out.alloc (.cells #[int i64 p,int .u32 s,int .u32 d,int i64 sp,int i64 dp,int i64 un] 131))).2.1
    go_wp2_with fail
    go_region_law (refine step_app12 _ rfl (.tmp 45) (.tmp 47) 69 rfl 0 131 i0 _ 6 40 Tryz.underlying69 hi0 hz0 hz1 hz2 rfl (by decide) (.slice LA j c) j (rcF l) (by simp [Act.eval,Act.put]) (own_chg HO2.out ((Chg.refl (fun _=>False) wr).alloc _).drew (fun _ _=>id)) ⟨wr.heap.size,0,none⟩ 1 1 (rcC p s d sp dp un).toList (by simp [Act.eval,Act.put]) rfl (fun j u hu=>by rw [show (⟨wr.heap.size,0,none⟩ : Addr).add j = ⟨wr.heap.size,j,none⟩ from by unfold Addr.add; split <;> simp_all]; exact ((Blk.new wr 131 (rcC p s d sp dp un)).cell j).trans (by simpa using hu)) (by simp [rcC,Value.oneCell']) (by unfold maxLen; omega) (by omega) (Nat.zero_le _) ?_; intro v5 w5 hown5 hg5 hat5; obtain ⟨A5,c5,rfl, -, -⟩:=own_form hown5; have HBP5:=hd_ (TN.pushed (⟨p,s,d,sp,dp,un⟩ : Rc) HP3.out HA.out HOQ.out HL.out ((Chg.refl (fun _=>False) wr).alloc _).drew hg5 hat5 hown5); obtain ⟨⟨v0,v1,v2⟩, -⟩:=HBP5.out; clear hown5 hg5 hat5)
    all_goals
     go_wp2_with fail
     go_ret
     refine ⟨ret_b HPU.out.2.symm,_,by rw [HPU.out.1]; exact HBP5.out.2.1, ?_⟩
     exact Mvd.pre (HX0.out.trans HX.out (fun _ _ e=>e)) HBP5.out.2.2
theorem ret_i12 {x y : Int} (h : x = y) : Ending.returned (int i64 y) = Ending.returned (int i64 x):=by rw [h]
theorem TN.life0 {T : TypeId} {w : World} {q : Nat} {o : Option Nat} {life : Int} {l : List Rc} (h : TN T w q o life l) : w.cell? ⟨q,0,none⟩ = some (int i64 life):=by
 obtain ⟨A,c,hb, -⟩:=h
 exact (tb_cells hb).1
theorem Mvd.pre2 {q : Nat} {o o1 : Option Nat} {w w1 w2 : World} (h : Chg (fun k=>k = q ∨ o = some k) w w1) (m : Mvd q o o1 w1 w2) : Mvd q o o1 w w2:=Mvd.trans ⟨h, .inl rfl⟩ m
theorem tnew_ok (life : Int) (h1 : 1 ≤ life) (h2 : life ≤ 2147483648) (w : World) : Calls Tryz.prog 17 #[int i64 life] w fun e w'=>e = .returned (.tuple #[.pointer (some ⟨w.heap.size,0,none⟩),int i64 0]) ∧ w' = w.alloc (.cells (tbC life none 0 0) 106):=by
 have h3 : ¬ life < 1:=by omega
 have h4 : ¬ 2147483648 < life:=by omega
 unfold tbC
 go_enter Tryz.func17,Tryz.ntmps17
 go_wp2_with fail
 exact bodyPost_ret (v := .tuple #[.pointer (some ⟨w.heap.size,0,none⟩),int i64 0]) (by simp [results,Tryz.results17,go_sem]) rfl ⟨rfl,rfl⟩
theorem tnote_any {w : World} {q : Nat} {o : Option Nat} {life : Int} {l : List Rc} (h : TN 106 w q o life l) (h16 : l.length ≤ 16) (hl : 0 ≤ life ∧ life ≤ 2147483648) (p s d sp dp t : Int) : Calls Tryz.prog 68 #[.pointer (some ⟨q,0,none⟩), .agg (flC p s d sp dp),int i64 t] w fun e w'=>e = .returned (int i64 (noA life t l p s d sp dp)) ∧ ∃ o',TN 106 w' q o' life (noL life t l p s d sp dp) ∧ Mvd q o o' w w':=by
 have HX0:=hd_ ((Chg.refl (fun _=>False) w).alloc (.cells #[int i64 p,int .u32 s,int .u32 d,int i64 sp,int i64 dp] 129))
 have HQ0 : Hid (Blk (w.alloc (.cells #[int i64 p,int .u32 s,int .u32 d,int i64 sp,int i64 dp] 129)) w.heap.size 129 (flC p s d sp dp)):=hd_ (blk_new rfl)
 have HT:=hd_ (h.new HX0.out)
 have HRI:=hd_ (fun W=>iright_any p s d sp dp W)
 have HTM:=hd_ (fun W=>ttimely_any t W)
 have HBN:=hd_ (show ¬ (w.heap.size = q ∨ o = some w.heap.size) from fun e=>by
  have h1:=h.lt
  rcases e with e | e
  ·omega
  ·have:=h1.2 _ e
   omega)
 have HQN:=hd_ h.lt.1
 clear h
 unfold flC
 unfold flC at HRI
 generalize hfr : flR p sp dp = b1 at *
 have HFR:=hd_ hfr
 clear hfr
 cases b1 with
 | false =>
  go_enter Tryz.func68,Tryz.ntmps68
  go_upto_region 1 with fail
  generalize (w.alloc (.cells #[int i64 p,int .u32 s,int .u32 d,int i64 sp,int i64 dp] 129)) = w1 at *
  generalize w.heap.size = B at *
  obtain ⟨y0,y1,y2,y3,y4⟩:=fl_cells HQ0.out
  go_wp2_with fail
  refine (HRI.out _).mono ?_
  rintro e w2 ⟨rfl,hc⟩
  have HX2:=hd_ (HX0.out.trans hc (fun _ _ e=>e))
  have HQ2:=hd_ (HQ0.out.chg hc id)
  have HT2:=hd_ (HT.out.new hc)
  clear hc y0 y1 y2 y3 y4
  go_wp2_with fail
  go_ret
  exact ⟨ret_i12 (by unfold noA; rw [HFR.out]; rfl),o,by unfold noL; rw [HFR.out]; exact HT2.out,⟨HX2.out.mono (fun _ _ e=>e.elim), .inl rfl⟩⟩
 | true =>
  generalize htm : tmB t = b2 at *
  have HTB:=hd_ htm
  cases b2 with
  | false =>
   clear htm
   go_enter Tryz.func68,Tryz.ntmps68
   go_upto_region 1 with fail
   generalize (w.alloc (.cells #[int i64 p,int .u32 s,int .u32 d,int i64 sp,int i64 dp] 129)) = w1 at *
   generalize w.heap.size = B at *
   obtain ⟨y0,y1,y2,y3,y4⟩:=fl_cells HQ0.out
   go_wp2_with fail
   refine (HRI.out _).mono ?_
   rintro e w2 ⟨rfl,hc⟩
   have HX2:=hd_ (HX0.out.trans hc (fun _ _ e=>e))
   have HQ2:=hd_ (HQ0.out.chg hc id)
   have HT2:=hd_ (HT.out.new hc)
   clear hc y0 y1 y2 y3 y4
   go_wp2_with fail
   refine (HTM.out _).mono ?_
   rintro e w3 ⟨rfl,rfl⟩
   go_wp2_with fail
   go_ret
   exact ⟨ret_i12 (by unfold noA; rw [HFR.out,HTB.out]; rfl),o,by unfold noL; rw [HFR.out,HTB.out]; exact HT2.out,⟨HX2.out.mono (fun _ _ e=>e.elim), .inl rfl⟩⟩
  | true =>
   have htt : 0 ≤ t ∧ t ≤ 1099511627776:=by simpa [tmB] using htm
   clear htm
   have HRI2:=hd_ (show (flR p sp dp && tmB t) = true by rw [HFR.out,HTB.out]; rfl)
   have HL16:=hd_ (ex12_len (t:=t) h16)
   have hwr : IntKind.i64.wrap (t + life) = t + life:=IntWalk.i64_in _ (by omega)
   go_enter Tryz.func68,Tryz.ntmps68
   go_upto_region 1 with fail
   generalize (w.alloc (.cells #[int i64 p,int .u32 s,int .u32 d,int i64 sp,int i64 dp] 129)) = w1 at *
   generalize w.heap.size = B at *
   obtain ⟨y0,y1,y2,y3,y4⟩:=fl_cells HQ0.out
   go_wp2_with fail
   refine (HRI.out _).mono ?_
   rintro e w2 ⟨rfl,hc⟩
   have HX2:=hd_ (HX0.out.trans hc (fun _ _ e=>e))
   have HQ2:=hd_ (HQ0.out.chg hc id)
   have HT2:=hd_ (HT.out.new hc)
   clear hc y0 y1 y2 y3 y4
   go_wp2_with fail
   refine (HTM.out _).mono ?_
   rintro e w3 ⟨rfl,rfl⟩
   have HEX:=hd_ (texpire_any HT2.out t)
   go_wp2_with fail
   refine HEX.out.mono ?_
   rintro e w4 ⟨rfl,hT4,hc4⟩
   have HT4:=hd_ hT4
   have HQ4:=hd_ (HQ2.out.chg hc4 HBN.out)
   have HC4:=hd_ ((HX2.out.mono (S':=fun k=>k = q ∨ o = some k) (fun _ _ e=>e.elim)).trans hc4 (fun _ _ e=>e))
   clear hT4 hc4 HEX
   by_cases htl : 1099511627776 < t + life
   ·skip
    have htk:=fun (W : World) (hT : TN 106 W q o life (ex12 t l))=>ttake_any hT HL16.out p s d sp dp 1099511627776
    unfold rcC at htk
    have HNR:=hd_ (show nr12 life t p s d sp dp = ⟨p,s,d,sp,dp,1099511627776⟩ by unfold nr12; congr 1; omega)
    have HS4:=hd_ (show ∀ W : World,W.cell? ⟨q,0,none⟩ = some (int i64 life) → Blk W B 129 (flC p s d sp dp) → (W.cell? ⟨q,0,none⟩ = some (int i64 life) ∧ W.cell? ⟨B,0,none⟩ = some (int i64 p) ∧ W.cell? ⟨B,1,none⟩ = some (int .u32 s) ∧ W.cell? ⟨B,2,none⟩ = some (int .u32 d) ∧ W.cell? ⟨B,3,none⟩ = some (int i64 sp) ∧ W.cell? ⟨B,4,none⟩ = some (int i64 dp)) from fun W h1 h2=>⟨h1,fl_cells h2⟩)
    go_wp2_with fail
    have HT4 : Hid (TN 106 w4.drew q o life (ex12 t l)):=hd_ HT4.out
    have HQ4 : Hid (Blk w4.drew B 129 (flC p s d sp dp)):=hd_ HQ4.out
    have hS0:=HS4.out _ (TN.life0 HT4.out) HQ4.out
    obtain ⟨s0,s1,s2,s3,s4,s5⟩:=hS0
    cases hpb : pb12 (ex12 t l) ⟨p,s,d,sp,dp,1099511627776⟩ with
    | false =>
     rw [hpb] at htk
     have HTK:=hd_ htk
     have HPB:=hd_ hpb
     clear htk hpb
     go_region_held3 (fun w'=>w'.cell? ⟨q,0,none⟩ = some (int i64 life) ∧ w'.cell? ⟨B,0,none⟩ = some (int i64 p) ∧ w'.cell? ⟨B,1,none⟩ = some (int .u32 s) ∧ w'.cell? ⟨B,2,none⟩ = some (int .u32 d) ∧ w'.cell? ⟨B,3,none⟩ = some (int i64 sp) ∧ w'.cell? ⟨B,4,none⟩ = some (int i64 dp))
      (first | with_reducible exact HS4.out _ (TN.life0 HT4.out) HQ4.out | with_reducible exact HS4.out _ (TN.life0 HT5.out) HQ5.out | fail)
      (first
       | (go_at_call 94; (with_reducible refine (HTK.out _ HT4.out).mono ?_); rintro e w5 ⟨rfl,o5,hT5,hM5⟩; have HT5:=hd_ hT5; have HM5:=hd_ hM5; have HQ5:=hd_ (HQ4.out.chg hM5.1 HBN.out); clear hT5 hM5)
       | fail)
     all_goals
      go_wp2_with fail
      go_ret
      refine ⟨ret_i12 (by unfold noA; rw [HRI2.out,HNR.out,HPB.out]; rfl),o5, ?_, ?_⟩
      ·unfold noL
       rw [HRI2.out,HNR.out]
       exact HT5.out
      ·exact Mvd.pre2 HC4.out.drew HM5.out
    | true =>
     rw [hpb] at htk
     have HTK:=hd_ htk
     have HPB:=hd_ hpb
     clear htk hpb
     go_region_held3 (fun w'=>w'.cell? ⟨q,0,none⟩ = some (int i64 life) ∧ w'.cell? ⟨B,0,none⟩ = some (int i64 p) ∧ w'.cell? ⟨B,1,none⟩ = some (int .u32 s) ∧ w'.cell? ⟨B,2,none⟩ = some (int .u32 d) ∧ w'.cell? ⟨B,3,none⟩ = some (int i64 sp) ∧ w'.cell? ⟨B,4,none⟩ = some (int i64 dp))
      (first | with_reducible exact HS4.out _ (TN.life0 HT4.out) HQ4.out | with_reducible exact HS4.out _ (TN.life0 HT5.out) HQ5.out | fail)
      (first
       | (go_at_call 94; (with_reducible refine (HTK.out _ HT4.out).mono ?_); rintro e w5 ⟨rfl,o5,hT5,hM5⟩; have HT5:=hd_ hT5; have HM5:=hd_ hM5; have HQ5:=hd_ (HQ4.out.chg hM5.1 HBN.out); clear hT5 hM5)
       | fail)
     all_goals
      go_wp2_with fail
      go_ret
      refine ⟨ret_i12 (by unfold noA; rw [HRI2.out,HNR.out,HPB.out]; rfl),o5, ?_, ?_⟩
      ·unfold noL
       rw [HRI2.out,HNR.out]
       exact HT5.out
      ·exact Mvd.pre2 HC4.out.drew HM5.out
   ·have htn : (1099511627776 < t + life) = False:=eq_false htl
    have htk:=fun (W : World) (hT : TN 106 W q o life (ex12 t l))=>ttake_any hT HL16.out p s d sp dp (t + life)
    unfold rcC at htk
    have HNR:=hd_ (show nr12 life t p s d sp dp = ⟨p,s,d,sp,dp,t + life⟩ by unfold nr12; congr 1; omega)
    have HS4:=hd_ (show ∀ W : World,W.cell? ⟨q,0,none⟩ = some (int i64 life) → Blk W B 129 (flC p s d sp dp) → (W.cell? ⟨q,0,none⟩ = some (int i64 life) ∧ W.cell? ⟨B,0,none⟩ = some (int i64 p) ∧ W.cell? ⟨B,1,none⟩ = some (int .u32 s) ∧ W.cell? ⟨B,2,none⟩ = some (int .u32 d) ∧ W.cell? ⟨B,3,none⟩ = some (int i64 sp) ∧ W.cell? ⟨B,4,none⟩ = some (int i64 dp)) from fun W h1 h2=>⟨h1,fl_cells h2⟩)
    go_wp2_with fail
    have HT4 : Hid (TN 106 w4.drew q o life (ex12 t l)):=hd_ HT4.out
    have HQ4 : Hid (Blk w4.drew B 129 (flC p s d sp dp)):=hd_ HQ4.out
    have hS0:=HS4.out _ (TN.life0 HT4.out) HQ4.out
    obtain ⟨s0,s1,s2,s3,s4,s5⟩:=hS0
    cases hpb : pb12 (ex12 t l) ⟨p,s,d,sp,dp,t + life⟩ with
    | false =>
     rw [hpb] at htk
     have HTK:=hd_ htk
     have HPB:=hd_ hpb
     clear htk hpb
     go_region_held3 (fun w'=>w'.cell? ⟨q,0,none⟩ = some (int i64 life) ∧ w'.cell? ⟨B,0,none⟩ = some (int i64 p) ∧ w'.cell? ⟨B,1,none⟩ = some (int .u32 s) ∧ w'.cell? ⟨B,2,none⟩ = some (int .u32 d) ∧ w'.cell? ⟨B,3,none⟩ = some (int i64 sp) ∧ w'.cell? ⟨B,4,none⟩ = some (int i64 dp))
      (first | with_reducible exact HS4.out _ (TN.life0 HT4.out) HQ4.out | with_reducible exact HS4.out _ (TN.life0 HT5.out) HQ5.out | fail)
      (first
       | (go_at_call 94; (with_reducible refine (HTK.out _ HT4.out).mono ?_); rintro e w5 ⟨rfl,o5,hT5,hM5⟩; have HT5:=hd_ hT5; have HM5:=hd_ hM5; have HQ5:=hd_ (HQ4.out.chg hM5.1 HBN.out); clear hT5 hM5)
       | fail)
     all_goals
      go_wp2_with fail
      go_ret
      refine ⟨ret_i12 (by unfold noA; rw [HRI2.out,HNR.out,HPB.out]; rfl),o5, ?_, ?_⟩
      ·unfold noL
       rw [HRI2.out,HNR.out]
       exact HT5.out
      ·exact Mvd.pre2 HC4.out.drew HM5.out
    | true =>
     rw [hpb] at htk
     have HTK:=hd_ htk
     have HPB:=hd_ hpb
     clear htk hpb
     go_region_held3 (fun w'=>w'.cell? ⟨q,0,none⟩ = some (int i64 life) ∧ w'.cell? ⟨B,0,none⟩ = some (int i64 p) ∧ w'.cell? ⟨B,1,none⟩ = some (int .u32 s) ∧ w'.cell? ⟨B,2,none⟩ = some (int .u32 d) ∧ w'.cell? ⟨B,3,none⟩ = some (int i64 sp) ∧ w'.cell? ⟨B,4,none⟩ = some (int i64 dp))
      (first | with_reducible exact HS4.out _ (TN.life0 HT4.out) HQ4.out | with_reducible exact HS4.out _ (TN.life0 HT5.out) HQ5.out | fail)
      (first
       | (go_at_call 94; (with_reducible refine (HTK.out _ HT4.out).mono ?_); rintro e w5 ⟨rfl,o5,hT5,hM5⟩; have HT5:=hd_ hT5; have HM5:=hd_ hM5; have HQ5:=hd_ (HQ4.out.chg hM5.1 HBN.out); clear hT5 hM5)
       | fail)
     all_goals
      go_wp2_with fail
      go_ret
      refine ⟨ret_i12 (by unfold noA; rw [HRI2.out,HNR.out,HPB.out]; rfl),o5, ?_, ?_⟩
      ·unfold noL
       rw [HRI2.out,HNR.out]
       exact HT5.out
      ·exact Mvd.pre2 HC4.out.drew HM5.out
theorem wpList_app12 {P : Program} (w : World) {ops : Array Oper} {rest : List Oper} {o : Oper} {a : Act} {Q : Exit → Act → World → Prop} (hgd : o.guard = none) (s x : Operand) (t : TypeId)
  (ho : o.op = .call { callee := .builtin .append,args:=#[s,x],argTypes:=#[t,t] })
  (base : Nat) (e : TypeId) (i : TypeInfo) (z : Value) (size bytes : Nat) (ht : P.underlying t = some (.slice e)) (hi : P.info? e = some i) (hz : i.zero = some z)
  (hsize : i.size = size) (hby : i.bytes = bytes) (hzs : z.cells.size = size) (hpos : 0 < size)
  (v : Value) (n : Nat) (xs : List Value) (hs : a.eval s = v) (hown : w.ownsRow base e size v n xs)
  (ad : Addr) (m c : Nat) (news : List Value) (hx : a.eval x = .slice (some ad) m c) (hl : news.length = m * size) (hnews : ∀ j u,news[j]? = some u → w.cell? (ad.add j) = some u) (h1 : ∀ u ∈ news,u.oneCell' = true)
  (h63 : n + m ≤ maxLen) (hbytes : (n + m) * bytes ≤ 140737488355328) (hbase : base ≤ w.heap.size)
  (h : ∀ v' w',w'.ownsRow base e size v' (n + m) (xs ++ news) → w.grownBy w' v.ownBlock → (v'.ownBlock = v.ownBlock ∨ v'.ownBlock = some w.heap.size) → wpList P ops Q rest (a.put o.dst v') w') : wpList P ops Q (o :: rest) a w:=by
 refine wpList_plain hgd fun _ hK => ?_
 obtain ⟨v',w',hrun,h2,h3,_,h4⟩:=run_append_own_at (P:=P) w base t o.type e i z size bytes ht hi hz hsize hby hzs hpos v n xs hown ad m c news hl hnews h1 h63 hbytes hbase
 unfold Oper.wp execOp
 simp only [ho,resolve,invoke,builtin,Sem.run_bind,Sem.run_pure,Result.andThen_ok,List.map_toArray,List.map_cons,List.map_nil,hs,hx,hrun]
 exact hK _ _ (h v' w' h2 h3 h4)
def RecP12 (l : List Rc) (w : World) (e : Ending) (w' : World) : Prop := ∃ E k d,e = .returned (.slice E k d) ∧ k = l.length ∧ w'.ownsRow w.heap.size 131 6 (.slice E k d) k (rcF l) ∧ Chg (fun _=>False) w w'
theorem trecords_any {w : World} {q : Nat} {o : Option Nat} {life : Int} {l : List Rc} (h : TN 106 w q o life l) (h16 : l.length ≤ 16) (t : Int) : Calls Tryz.prog 61 #[.pointer (some ⟨q,0,none⟩),int i64 t] w (RecP12 (ex12 t l) w):=by
 obtain ⟨i0,hi0,hz0,hz1,hz2⟩:=info_parts infoRc12
 obtain ⟨LA,c,hb,hown, -, -⟩:=h
 have HR:=hd_ (own_rcr hown rfl)
 obtain ⟨c0,c1, -⟩:=tb_cells hb
 have HS0:=hd_ (Chg.refl (fun _=>False) w).size
 have H16:=hd_ h16
 have hm16:=h16
 generalize hm : l.length = m at *
 have HL:=hd_ hm
 clear hb hown hm h16
 go_enter Tryz.func61,Tryz.ntmps61
 go_wp2_with fail
 go_loopg [5,7,15] m (fun g' s5 s7 i wr => ∃ (j k d : Nat) (E : Option Addr),g' = m - j ∧ j ≤ m ∧ i = int i64 (j : Int) ∧ s5 = .slice E k d ∧ k ≤ j ∧ Hid (k = (ex12 t (l.take j)).length) ∧ Hid (wr.ownsRow w.heap.size 131 6 (.slice E k d) k (rcF (ex12 t (l.take j)))) ∧ Hid (Chg (fun _=>False) w wr))
 case atStart=>exact ⟨0,0,0,none,rfl,Nat.zero_le _,rfl,rfl,Nat.le_refl _,hd_ rfl,hd_ (World.ownsRow_nil _ _ _ _),hd_ (Chg.refl _ _)⟩
 case round =>
  obtain ⟨j,k,d,E,rfl,hj,rfl,rfl,hkj,HK,HO,HX⟩:=hrel
  by_cases hlt : j < m
  ·have hh:=HR.out.chg HX.out (fun _ _=>id)
   obtain ⟨ad,rfl, -⟩:=hh.2 (by omega)
   have hjl : j < l.length:=by have:=HL.out; omega
   have hx : l[j]? = some l[j]:=List.getElem?_eq_getElem hjl
   generalize l[j] = x at *
   obtain ⟨z0,z1,z2,z3,z4,z5⟩:=hh.at hx
   have HE:=hd_ (ex12_take (t:=t) hx)
   clear hx hh hjl
   have HXB : Hid (Blk (wr.alloc (.cells #[int i64 x.pr,int .u32 x.sr,int .u32 x.ds,int i64 x.sp,int i64 x.dp,int i64 x.un] 131)) wr.heap.size 131 (rcC x.pr x.sr x.ds x.sp x.dp x.un)):=hd_ (blk_new rfl)
   have HC0:=hd_ ((Chg.refl (fun _=>False) wr).alloc (.cells #[int i64 x.pr,int .u32 x.sr,int .u32 x.ds,int i64 x.sp,int i64 x.dp,int i64 x.un] 131))
   obtain ⟨x0,x1,x2,x3,x4,x5⟩:=rc_cells HXB.out
   have hlv:=fun W=>tlives_any x.pr x.sr x.ds x.sp x.dp x.un t W
   replace hlv : ∀ W,Calls _ _ _ W (fun e w'=>e = .returned (.bool (lv12 t x)) ∧ Chg (fun _=>False) W w'):=hlv
   unfold rcC at hlv
   cases hb : lv12 t x with
   | false =>
    rw [hb] at hlv HE
    have HLV:=hd_ hlv
    clear hlv hb
    go_wp2_with fail
    refine (HLV.out _).mono ?_
    rintro e w2 ⟨rfl,hc⟩
    have HC:=hd_ (HC0.out.trans hc (fun _ _ e=>e))
    clear hc
    go_wp2_with fail
    go_roundg (m - (j + 1))
    case measure=>omega
    case rel =>
     have e1 : ex12 t (l.take (j + 1)) = ex12 t (l.take j):=by rw [HE.out]; simp
     refine ⟨j + 1,k,d,E,rfl,by omega,by go_num,rfl,by omega,hd_ (by rw [e1]; exact HK.out),hd_ ?_,hd_ (HX.out.trans HC.out (fun _ _ e=>e))⟩
     rw [e1]
     exact own_chg HO.out HC.out (fun _ _=>id)
   | true =>
    rw [hb] at hlv HE
    have HLV:=hd_ hlv
    clear hlv hb
    go_wp2_with fail
    refine (HLV.out _).mono ?_
    rintro e w2 ⟨rfl,hc⟩
    have HC:=hd_ (HC0.out.trans hc (fun _ _ e=>e))
    have HXB2:=hd_ (HXB.out.chg hc id)
    clear hc x0 x1 x2 x3 x4 x5
    obtain ⟨x0,x1,x2,x3,x4,x5⟩:=rc_cells HXB2.out
    have HO2:=hd_ (own_chg HO.out HC.out (fun _ _=>id))
    have HZ:=hd_ (show w.heap.size ≤ (w2.alloc (.cells #[int i64 x.pr,int .u32 x.sr,int .u32 x.ds,int i64 x.sp,int i64 x.dp,int i64 x.un] 131)).heap.size by have:=HX.out.size; have:=HC.out.size; simp; omega)
    have HG:=hd_ (HX.out.trans HC.out (fun _ _ e=>e))
    generalize ex12 t (l.take j) = l1 at *
    go_wp2_with (at_builtin; refine wpList_app12 _ rfl (.tmp 22) (.tmp 24) 69 rfl w.heap.size 131 i0 _ 6 40 Tryz.underlying69 hi0 hz0 hz1 hz2 rfl (by decide) (.slice E k d) k (rcF l1) rfl (own_chg HO2.out ((Chg.refl (fun _=>False) w2).alloc _) (fun _ _=>id)) ⟨w2.heap.size,0,none⟩ 1 1 x.cs.toList rfl rfl (fun j u hu=>by rw [show (⟨w2.heap.size,0,none⟩ : Addr).add j = ⟨w2.heap.size,j,none⟩ from by unfold Addr.add; split <;> simp_all]; exact ((Blk.new w2 131 x.cs).cell j).trans (by simpa using hu)) (by simp [Rc.cs,rcC,Value.oneCell']) (by unfold maxLen; omega) (by omega) HZ.out ?_; intro v5 w5 hown5 hg5 hat5; obtain ⟨A5,c5,rfl, -, -⟩:=own_form hown5; have HO5:=hd_ hown5; have HX5:=hd_ (grown_fresh (HG.out.alloc _) hg5 (own_chg HO2.out ((Chg.refl (fun _=>False) w2).alloc (.cells #[int i64 x.pr,int .u32 x.sr,int .u32 x.ds,int i64 x.sp,int i64 x.dp,int i64 x.un] 131)) (fun _ _=>id)) (Nat.le_refl _)); clear hown5 hg5 hat5)
    go_roundg (m - (j + 1))
    case measure=>omega
    case rel =>
     have e1 : ex12 t (l.take (j + 1)) = l1 ++ [x]:=by rw [HE.out]; simp
     have e2 : rcF (l1 ++ [x]) = rcF l1 ++ x.cs.toList:=by rw [rcF_app]; simp [rcF]
     exact ⟨j + 1,k + 1,c5,A5,rfl,by omega,by go_num,rfl,by omega,hd_ (by rw [e1,List.length_append, ← HK.out]; rfl),hd_ (by rw [e1,e2]; exact HO5.out),HX5⟩
  ·have hjm : j = m:=by omega
   subst hjm
   have e1:=hd_ (show ex12 t (l.take j) = ex12 t l by rw [List.take_of_length_le (by have:=HL.out; omega)])
   go_wp2_with fail
   go_ret
   exact ⟨E,k,d,rfl,by rw [← e1.out]; exact HK.out,by rw [← e1.out]; exact HO.out,HX.out⟩
theorem timport_any {w : World} {q : Nat} {o : Option Nat} {life : Int} {l : List Rc} (h : TN 106 w q o life l) (h16 : l.length ≤ 16) (t : Int) (L : Option Addr) (m lc : Nat) (rs : List Rc) (S : Nat → Prop) (hr : RcR w S L m rs) (hS : ∀ k,S k → ¬ (k = q ∨ o = some k)) (hmc : m ≤ 9223372036854775806) : Calls Tryz.prog 57 #[.pointer (some ⟨q,0,none⟩),int i64 t, .slice L m lc] w fun e w'=>e = .returned (int i64 (imA t l rs : Int)) ∧ ∃ o',TN 106 w' q o' life (imL t l rs) ∧ Mvd q o o' w w':=by
 have HTM:=hd_ (fun W=>ttimely_any t W)
 have HRR:=hd_ hr
 have HS:=hd_ hS
 have HH:=hd_ h
 have HRL:=hd_ hr.1
 generalize htm : tmB t = b2 at *
 have HTB:=hd_ htm
 clear h hr hS htm
 cases b2 with
 | false =>
  go_enter Tryz.func57,Tryz.ntmps57
  go_wp2_with fail
  refine (HTM.out _).mono ?_
  rintro e w3 ⟨rfl,rfl⟩
  go_wp2_with fail
  go_ret
  exact ⟨ret_i12 (by unfold imA; rw [HTB.out]; rfl),o,by unfold imL; rw [HTB.out]; exact HH.out,Mvd.refl _ _ _⟩
 | true =>
  have H16:=hd_ (ex12_len (t:=t) h16)
  go_enter Tryz.func57,Tryz.ntmps57
  go_wp2_with fail
  refine (HTM.out _).mono ?_
  rintro e w3 ⟨rfl,rfl⟩
  have HEX:=hd_ (texpire_any HH.out t)
  go_wp2_with fail
  refine HEX.out.mono ?_
  rintro e w4 ⟨rfl,hT4,hc4⟩
  have HT4:=hd_ hT4
  have HM4:=hd_ (show Mvd q o o w w4 from ⟨hc4, .inl rfl⟩)
  clear hT4 hc4 HEX
  go_wp2_with fail
  go_loopg [7,9,22] m (fun g' s7 s9 i wr => ∃ (j n : Nat) (o1 : Option Nat) (l1 : List Rc),g' = m - j ∧ j ≤ m ∧ i = int i64 (j : Int) ∧ s7 = int i64 (n : Int) ∧ n ≤ j ∧ Hid (imF t (ex12 t l) (rs.take j) = (l1,n)) ∧ Hid (TN 106 wr q o1 life l1) ∧ Hid (Mvd q o o1 w wr))
  case atStart=>exact ⟨0,0,o,ex12 t l,rfl,Nat.zero_le _,rfl,rfl,Nat.le_refl _,hd_ rfl,HT4,HM4⟩
  case round =>
   obtain ⟨j,n,o1,l1,rfl,hj,rfl,rfl,hnj,HMF,HT,HM⟩:=hrel
   by_cases hlt : j < m
   ·have hh:=HRR.out.chg HM.out.1 HS.out
    obtain ⟨ad,rfl, -⟩:=hh.2 (by omega)
    have hjl : j < rs.length:=by have:=HRL.out; omega
    have hx : rs[j]? = some rs[j]:=List.getElem?_eq_getElem hjl
    generalize rs[j] = x at *
    obtain ⟨z0,z1,z2,z3,z4,z5⟩:=hh.at hx
    have HIF:=hd_ (imF_take (t:=t) (l:=ex12 t l) hx)
    clear hx hh hjl
    have HXB : Hid (Blk (wr.alloc (.cells #[int i64 x.pr,int .u32 x.sr,int .u32 x.ds,int i64 x.sp,int i64 x.dp,int i64 x.un] 131)) wr.heap.size 131 (rcC x.pr x.sr x.ds x.sp x.dp x.un)):=hd_ (blk_new rfl)
    have HC0:=hd_ ((Chg.refl (fun _=>False) wr).alloc (.cells #[int i64 x.pr,int .u32 x.sr,int .u32 x.ds,int i64 x.sp,int i64 x.dp,int i64 x.un] 131))
    obtain ⟨x0,x1,x2,x3,x4,x5⟩:=rc_cells HXB.out
    have hri:=fun W=>iright_any x.pr x.sr x.ds x.sp x.dp W
    unfold flC at hri
    have hlv:=fun W=>tlives_any x.pr x.sr x.ds x.sp x.dp x.un t W
    replace hlv : ∀ W,Calls _ _ _ W (fun e w'=>e = .returned (.bool (lv12 t x)) ∧ Chg (fun _=>False) W w'):=hlv
    unfold rcC at hlv
    cases hb : flR x.pr x.sp x.dp with
    | false =>
     have HIR:=hd_ (show imR t x = false by unfold imR; rw [hb]; rfl)
     rw [hb] at hri
     have HRI:=hd_ hri
     clear hri hlv hb
     go_wp2_with fail
     refine (HRI.out _).mono ?_
     rintro e w5 ⟨rfl,hc⟩
     have HC:=hd_ (HC0.out.trans hc (fun _ _ e=>e))
     clear hc
     go_wp2_with fail
     go_roundg (m - (j + 1))
     case measure=>omega
     case rel=>exact ⟨j + 1,n,o1,l1,rfl,by omega,by go_num,by go_num,by omega,hd_ (by rw [HIF.out,HMF.out]; unfold imS; rw [HIR.out]; rfl),hd_ (HT.out.new HC.out),hd_ (HM.out.post HC.out)⟩
    | true =>
     rw [hb] at hri
     have HRI:=hd_ hri
     have HFR:=hd_ hb
     clear hri hb
     cases hb2 : lv12 t x with
     | false =>
      have HIR:=hd_ (show imR t x = false by unfold imR; rw [hb2]; simp)
      rw [hb2] at hlv
      have HLV:=hd_ hlv
      clear hlv hb2
      go_wp2_with fail
      refine (HRI.out _).mono ?_
      rintro e w5 ⟨rfl,hc⟩
      have HC:=hd_ (HC0.out.trans hc (fun _ _ e=>e))
      have HXB5:=hd_ (HXB.out.chg hc id)
      clear hc x0 x1 x2 x3 x4 x5
      obtain ⟨x0,x1,x2,x3,x4,x5⟩:=rc_cells HXB5.out
      go_wp2_with fail
      refine (HLV.out _).mono ?_
      rintro e w6 ⟨rfl,hc⟩
      have HC6:=hd_ (HC.out.trans hc (fun _ _ e=>e))
      clear hc
      go_wp2_with fail
      go_roundg (m - (j + 1))
      case measure=>omega
      case rel=>exact ⟨j + 1,n,o1,l1,rfl,by omega,by go_num,by go_num,by omega,hd_ (by rw [HIF.out,HMF.out]; unfold imS; rw [HIR.out]; rfl),hd_ (HT.out.new HC6.out),hd_ (HM.out.post HC6.out)⟩
     | true =>
      have HL2:=hd_ hb2
      rw [hb2] at hlv
      have HLV:=hd_ hlv
      clear hlv hb2
      go_wp2_with fail
      refine (HRI.out _).mono ?_
      rintro e w5 ⟨rfl,hc⟩
      have HC:=hd_ (HC0.out.trans hc (fun _ _ e=>e))
      have HXB5:=hd_ (HXB.out.chg hc id)
      clear hc x0 x1 x2 x3 x4 x5
      obtain ⟨x0,x1,x2,x3,x4,x5⟩:=rc_cells HXB5.out
      go_wp2_with fail
      refine (HLV.out _).mono ?_
      rintro e w6 ⟨rfl,hc⟩
      have HC6:=hd_ (HC.out.trans hc (fun _ _ e=>e))
      have HXB6:=hd_ (HXB5.out.chg hc id)
      clear hc x0 x1 x2 x3 x4 x5
      obtain ⟨x0,x1,x2,x3,x4,x5⟩:=rc_cells HXB6.out
      by_cases hun : x.un ≤ 1099511627776
      ·have HIR:=hd_ (show imR t x = true by unfold imR; rw [HFR.out,HL2.out]; simp [hun])
       have h1 : l1.length ≤ 16:=by have h2:=imF_len (t:=t) (l:=ex12 t l) (rs:=rs.take j) H16.out; rw [HMF.out] at h2; exact h2
       have htk:=ttake_any (HT.out.new HC6.out) h1 x.pr x.sr x.ds x.sp x.dp x.un
       replace htk : Calls _ _ _ w6 (fun e w'=>e = .returned (.bool (pb12 l1 x)) ∧ ∃ o',TN 106 w' q o' life (pu12 l1 x) ∧ Mvd q o1 o' w6 w'):=htk
       unfold rcC at htk
       clear h1
       cases hpb : pb12 l1 x with
       | false =>
        rw [hpb] at htk
        have HTK:=hd_ htk
        have HPB:=hd_ hpb
        clear htk hpb
        go_wp2_with fail
        refine HTK.out.mono ?_
        rintro e w7 ⟨rfl,o7,hT7,hM7⟩
        have HT7:=hd_ hT7
        have HM7:=hd_ ((HM.out.post HC6.out).trans hM7)
        clear hT7 hM7 HTK
        go_wp2_with fail
        go_roundg (m - (j + 1))
        case measure=>omega
        case rel=>exact ⟨j + 1,n,o7,pu12 l1 x,rfl,by omega,by go_num,by go_num,by omega,hd_ (by rw [HIF.out,HMF.out]; unfold imS; rw [HIR.out,HPB.out]; rfl),hd_ (HT7.out),hd_ (HM7.out)⟩
       | true =>
        rw [hpb] at htk
        have HTK:=hd_ htk
        have HPB:=hd_ hpb
        clear htk hpb
        go_wp2_with fail
        refine HTK.out.mono ?_
        rintro e w7 ⟨rfl,o7,hT7,hM7⟩
        have HT7:=hd_ hT7
        have HM7:=hd_ ((HM.out.post HC6.out).trans hM7)
        clear hT7 hM7 HTK
        go_wp2_with fail
        go_roundg (m - (j + 1))
        case measure=>omega
        case rel=>exact ⟨j + 1,n + 1,o7,pu12 l1 x,rfl,by omega,by go_num,by go_num,by omega,hd_ (by rw [HIF.out,HMF.out]; unfold imS; rw [HIR.out,HPB.out]; rfl),hd_ (HT7.out),hd_ (HM7.out)⟩
      ·have HIR:=hd_ (show imR t x = false by unfold imR; simp [hun])
       go_wp2_with fail
       go_roundg (m - (j + 1))
       case measure=>omega
       case rel=>exact ⟨j + 1,n,o1,l1,rfl,by omega,by go_num,by go_num,by omega,hd_ (by rw [HIF.out,HMF.out]; unfold imS; rw [HIR.out]; rfl),hd_ (HT.out.new HC6.out),hd_ (HM.out.post HC6.out)⟩
   ·have hjm : j = m:=by omega
    subst hjm
    have e1:=hd_ (show imF t (ex12 t l) rs = (l1,n) by rw [← HMF.out,List.take_of_length_le (by have:=HRL.out; omega)])
    go_wp2_with fail
    go_ret
    exact ⟨ret_i12 (by unfold imA; rw [HTB.out,e1.out]; rfl),o1,by unfold imL; rw [HTB.out,e1.out]; exact HT.out,HM.out⟩
structure En where
 pr : Int
 ins : Int
 ma : Int
 po : Int
 fr : Int
 up : Int
 no : Int
 ak : Int
 ap : Int
 ao : Int
 ag : Int
structure Ky where
 ki : Int
 km : Int
 kp : Int
 ks : Int
 ko : Int
def bit13 (a : Int) (k : Nat) : Bool:=decide (a / 2 ^ k % 2 = 1)
def inB13 (a i : Int) : Bool:=(decide (i = 0) && bit13 a 0) || (decide (i = 1) && bit13 a 1) || (decide (i = 2) && bit13 a 2)
def toB13 (ma po ki km kp : Int) : Bool:=if ki = 0 then ma == km else po == kp
def fB13 (ins ma po fr up no ki km kp ks ko : Int) : Bool:=inB13 ins ki && (toB13 ma po ki km kp && (decide (fr ≤ ks) && (decide (ks ≤ up) && (no != ko))))
def fit13 (e : En) (k : Ky) : Bool:=fB13 e.ins e.ma e.po e.fr e.up e.no k.ki k.km k.kp k.ks k.ko
theorem inB13_0 (a : Int) : inB13 a 0 = bit13 a 0:=by simp [inB13]
theorem inB13_1 (a : Int) : inB13 a 1 = bit13 a 1:=by simp [inB13]
theorem inB13_2 (a : Int) : inB13 a 2 = bit13 a 2:=by simp [inB13]
theorem inB13_no (a i : Int) (h0 : ¬ i = 0) (h1 : ¬ i = 1) (h2 : ¬ i = 2) : inB13 a i = false:=by simp [inB13,h0,h1,h2]
theorem and13 (a : Int) (k : Nat) (hk : k < 3) : bits .and .i64 a ((2 ^ k : Nat) : Int) = a / ((2 ^ k : Nat) : Int) % 2 * ((2 ^ k : Nat) : Int):=by
 show IntKind.i64.wrap ((BitVec.ofInt 64 a &&& BitVec.ofInt 64 ((2 ^ k : Nat) : Int)).toNat : Int) = _
 have h64 : (2 ^ k : Nat) % 2 ^ 64 = 2 ^ k:=Nat.mod_eq_of_lt (Nat.pow_lt_pow_right (by decide) (by omega))
 rw [BitVec.toNat_and,BitVec.ofInt_natCast,BitVec.toNat_ofNat,h64,nat_bit,BitVec.toNat_ofInt]
 have h3 : k = 0 ∨ k = 1 ∨ k = 2:=by omega
 rcases h3 with rfl | rfl | rfl
 all_goals
  rw [IntWalk.i64_in _ (by omega)]
  omega
theorem and13_1 (a : Int) : bits .and .i64 a 1 = a % 2:=by
 have h:=and13 a 0 (by decide)
 simpa using h
theorem eq13 (a : Int) (k : Nat) : (bits .and .i64 (a / 2 ^ k) 1 == 1) = bit13 a k:=by
 rw [and13_1]
 unfold bit13
 by_cases h : a / 2 ^ k % 2 = 1 <;> simp [h]
theorem eq13_0 (a : Int) : (bits .and .i64 a 1 == 1) = bit13 a 0:=by
 have h:=eq13 a 0
 rwa [show a / 2 ^ 0 = a from by simp] at h
theorem eq13_1 (a : Int) : (bits .and .i64 (a / 2) 1 == 1) = bit13 a 1:=eq13 a 1
theorem eq13_2 (a : Int) : (bits .and .i64 (a / 4) 1 == 1) = bit13 a 2:=eq13 a 2
theorem ret_b13 {a b : Bool} (h : a = b) : Ending.returned (.bool a) = .returned (.bool b):=by rw [h]
/-! ### which one is looked up -/
def bt13 (b : Option En) (e : En) : Bool:=match b with | none=>true | some b=>decide (b.pr < e.pr)
def up13 (k : Ky) (b : Option En) (e : En) : Option En:=if fit13 e k && bt13 b e then some e else b
def lk13 (k : Ky) (l : List En) : Option En:=l.foldl (up13 k) none
theorem lk13_take {k : Ky} {l : List En} {j : Nat} {x : En} (h : l[j]? = some x) : lk13 k (l.take (j + 1)) = up13 k (lk13 k (l.take j)) x:=by
 unfold lk13
 rw [List.take_add_one,h,List.foldl_append]
 rfl
theorem up13_no {k : Ky} {b : Option En} {x : En} (h : fit13 x k = false) : up13 k b x = b:=by simp [up13,h]
theorem up13_le {k : Ky} {b x : En} (h : ¬ b.pr < x.pr) : up13 k (some b) x = some b:=by simp [up13,bt13,h]
theorem up13_lt {k : Ky} {b x : En} (hf : fit13 x k = true) (h : b.pr < x.pr) : up13 k (some b) x = some x:=by simp [up13,bt13,h,hf]
theorem up13_none {k : Ky} {x : En} (hf : fit13 x k = true) : up13 k none x = some x:=by simp [up13,bt13,hf]
def at13 (k : Ky) (m : Int) (e : En) : Bool:=fit13 e k && decide (e.pr = m)
theorem fold13_keep {k : Ky} {b : En} : ∀ l : List En,(∀ e ∈ l,fit13 e k = true → e.pr ≤ b.pr) → l.foldl (up13 k) (some b) = some b
 | [],_=>rfl
 | x :: l,h=>by
  have e : up13 k (some b) x = some b:=by
   cases hf : fit13 x k with
   | false=>exact up13_no hf
   | true=>exact up13_le (by have:=h x (by simp) hf; omega)
  rw [List.foldl_cons,e]
  exact fold13_keep l (fun e he=>h e (by simp [he]))
theorem fold13_find {k : Ky} {m : Int} {b : En} : ∀ (l : List En) (s : Option En),(∀ c,s = some c → c.pr < m) → (∀ e ∈ l,fit13 e k = true → e.pr ≤ m) → l.find? (at13 k m) = some b → l.foldl (up13 k) s = some b
 | [],s,_,_,h=>by simp at h
 | x :: l,s,hs,ha,h=>by
  rw [List.foldl_cons]
  cases hx : at13 k m x with
  | true =>
   rw [List.find?_cons_of_pos hx] at h
   injection h with h
   subst h
   unfold at13 at hx
   simp only [Bool.and_eq_true,decide_eq_true_eq] at hx
   obtain ⟨hf,rfl⟩:=hx
   have e : up13 k s x = some x:=by
    cases s with
    | none=>exact up13_none hf
    | some c=>exact up13_lt hf (hs c rfl)
   rw [e]
   exact fold13_keep l (fun e he=>ha e (by simp [he]))
  | false =>
   rw [List.find?_cons_of_neg (by rw [hx]; decide)] at h
   refine fold13_find l _ (fun c hc => ?_) (fun e he=>ha e (by simp [he])) h
   cases hf : fit13 x k with
   | false=>rw [up13_no hf] at hc; exact hs c hc
   | true =>
    have h1 : x.pr < m:=by
     have h2:=ha x (by simp) hf
     unfold at13 at hx
     simp only [hf,Bool.true_and,decide_eq_false_iff_not] at hx
     omega
    unfold up13 at hc
    split at hc
    ·injection hc with hc
     subst hc
     exact h1
    ·exact hs c hc
theorem lk13_find {k : Ky} {m : Int} {l : List En} {b : En} (h1 : ∀ e ∈ l,fit13 e k = true → e.pr ≤ m) (h2 : l.find? (at13 k m) = some b) : lk13 k l = some b :=
 fold13_find l none (fun c hc=>by cases hc) h1 h2
def low13 (m : Int) (l : List En) : List En:=l.filter fun e=>decide (e.pr < m)
def high13 (m : Int) (l : List En) : List En:=l.filter fun e => !decide (e.pr < m)
theorem sum13 (m : Int) : ∀ l : List En,(low13 m l).length + (high13 m l).length = l.length
 | []=>rfl
 | x :: l=>by
  have:=sum13 m l
  unfold low13 high13 at *
  by_cases hx : x.pr < m
  ·simp [hx]; omega
  ·simp [hx]; omega
/-! ### memory -/
def enC (pr ins ma po fr up no ak ap ao ag : Int) : Array Value:=#[int i64 pr,int i64 ins,int .u64 ma,int i64 po,int i64 fr,int i64 up,int i64 no,int i64 ak,int i64 ap,int i64 ao,int i64 ag]
def kyC (ki km kp ks ko : Int) : Array Value:=#[int i64 ki,int .u64 km,int i64 kp,int i64 ks,int i64 ko]
def acC (ak ap ao ag : Int) : Array Value:=#[int i64 ak,int i64 ap,int i64 ao,int i64 ag]
def En.cs (x : En) : Array Value:=enC x.pr x.ins x.ma x.po x.fr x.up x.no x.ak x.ap x.ao x.ag
def En.ac (x : En) : Array Value:=acC x.ak x.ap x.ao x.ag
def acO13 : Option En → Array Value
 | none=>acC 0 0 0 0
 | some x=>x.ac
theorem en_cells13 {w : World} {q : Nat} {T : TypeId} {pr ins ma po fr up no ak ap ao ag : Int} (h : Blk w q T (enC pr ins ma po fr up no ak ap ao ag)) : w.cell? ⟨q,0,none⟩ = some (int i64 pr) ∧ w.cell? ⟨q,1,none⟩ = some (int i64 ins) ∧ w.cell? ⟨q,2,none⟩ = some (int .u64 ma) ∧ w.cell? ⟨q,3,none⟩ = some (int i64 po) ∧ w.cell? ⟨q,4,none⟩ = some (int i64 fr) ∧ w.cell? ⟨q,5,none⟩ = some (int i64 up) ∧ w.cell? ⟨q,6,none⟩ = some (int i64 no) ∧ w.cell? ⟨q,7,none⟩ = some (int i64 ak) ∧ w.cell? ⟨q,8,none⟩ = some (int i64 ap) ∧ w.cell? ⟨q,9,none⟩ = some (int i64 ao) ∧ w.cell? ⟨q,10,none⟩ = some (int i64 ag):=by
 have h0:=h.cell 0
 have h1:=h.cell 1
 have h2:=h.cell 2
 have h3:=h.cell 3
 have h4:=h.cell 4
 have h5:=h.cell 5
 have h6:=h.cell 6
 have h7:=h.cell 7
 have h8:=h.cell 8
 have h9:=h.cell 9
 have h10:=h.cell 10
 simp only [enC,List.getElem?_toArray,List.getElem?_cons_zero,List.getElem?_cons_succ] at h0 h1 h2 h3 h4 h5 h6 h7 h8 h9 h10
 exact ⟨h0,h1,h2,h3,h4,h5,h6,h7,h8,h9,h10⟩
theorem ky_cells13 {w : World} {q : Nat} {T : TypeId} {ki km kp ks ko : Int} (h : Blk w q T (kyC ki km kp ks ko)) : w.cell? ⟨q,0,none⟩ = some (int i64 ki) ∧ w.cell? ⟨q,1,none⟩ = some (int .u64 km) ∧ w.cell? ⟨q,2,none⟩ = some (int i64 kp) ∧ w.cell? ⟨q,3,none⟩ = some (int i64 ks) ∧ w.cell? ⟨q,4,none⟩ = some (int i64 ko):=by
 have h0:=h.cell 0
 have h1:=h.cell 1
 have h2:=h.cell 2
 have h3:=h.cell 3
 have h4:=h.cell 4
 simp only [kyC,List.getElem?_toArray,List.getElem?_cons_zero,List.getElem?_cons_succ] at h0 h1 h2 h3 h4
 exact ⟨h0,h1,h2,h3,h4⟩
theorem ac_cells13 {w : World} {q : Nat} {T : TypeId} {ak ap ao ag : Int} (h : Blk w q T (acC ak ap ao ag)) : w.cell? ⟨q,0,none⟩ = some (int i64 ak) ∧ w.cell? ⟨q,1,none⟩ = some (int i64 ap) ∧ w.cell? ⟨q,2,none⟩ = some (int i64 ao) ∧ w.cell? ⟨q,3,none⟩ = some (int i64 ag):=by
 have h0:=h.cell 0
 have h1:=h.cell 1
 have h2:=h.cell 2
 have h3:=h.cell 3
 simp only [acC,List.getElem?_toArray,List.getElem?_cons_zero,List.getElem?_cons_succ] at h0 h1 h2 h3
 exact ⟨h0,h1,h2,h3⟩
def EnR (w : World) (L : Option Addr) (m : Nat) (l : List En) : Prop :=
 m = l.length ∧ (0 < m → ∃ ad,L = some ad ∧ ad.block < w.heap.size ∧ ∀ (i : Nat) (x : En),l[i]? = some x → ∀ (j : Nat) (u : Value),x.cs[j]? = some u → w.cell? (ad.add (i * 11 + j)) = some u)
section
variable {w w' : World} {L : Option Addr} {m : Nat} {l : List En}
theorem EnR.chg (h : EnR w L m l) (hc : Chg (fun _=>False) w w') : EnR w' L m l:=by
 refine ⟨h.1,fun hm => ?_⟩
 obtain ⟨ad,e,hb,hcell⟩:=h.2 hm
 refine ⟨ad,e,Nat.lt_of_lt_of_le hb hc.size,fun i x hi j u hu => ?_⟩
 rw [← hcell i x hi j u hu]
 exact World.cell?_of_block (by rw [block_add]; exact hc.block _ hb id)
theorem EnR.alloc (h : EnR w L m l) (o : Obj) : EnR (w.alloc o) L m l:=h.chg ((Chg.refl (fun _=>False) w).alloc o)
theorem EnR.nil (w : World) (L : Option Addr) : EnR w L 0 []:=⟨rfl,fun h=>absurd h (by omega)⟩
theorem EnR.at {ad : Addr} {i : Nat} {x : En} (h : EnR w (some ad) m l) (hi : l[i]? = some x) :
  w.cell? (ad.add (i * 11)) = some (int i64 x.pr) ∧ w.cell? ⟨(ad.add (i * 11)).block,(ad.add (i * 11)).off + 1,none⟩ = some (int i64 x.ins) ∧ w.cell? ⟨(ad.add (i * 11)).block,(ad.add (i * 11)).off + 2,none⟩ = some (int .u64 x.ma) ∧ w.cell? ⟨(ad.add (i * 11)).block,(ad.add (i * 11)).off + 3,none⟩ = some (int i64 x.po) ∧ w.cell? ⟨(ad.add (i * 11)).block,(ad.add (i * 11)).off + 4,none⟩ = some (int i64 x.fr) ∧ w.cell? ⟨(ad.add (i * 11)).block,(ad.add (i * 11)).off + 5,none⟩ = some (int i64 x.up) ∧ w.cell? ⟨(ad.add (i * 11)).block,(ad.add (i * 11)).off + 6,none⟩ = some (int i64 x.no) ∧ w.cell? ⟨(ad.add (i * 11)).block,(ad.add (i * 11)).off + 7,none⟩ = some (int i64 x.ak) ∧ w.cell? ⟨(ad.add (i * 11)).block,(ad.add (i * 11)).off + 8,none⟩ = some (int i64 x.ap) ∧ w.cell? ⟨(ad.add (i * 11)).block,(ad.add (i * 11)).off + 9,none⟩ = some (int i64 x.ao) ∧ w.cell? ⟨(ad.add (i * 11)).block,(ad.add (i * 11)).off + 10,none⟩ = some (int i64 x.ag):=by
 have hl : i < l.length:=(List.getElem?_eq_some_iff.1 hi).1
 obtain ⟨ad',e,_,hc⟩:=h.2 (by have:=h.1; omega)
 injection e with e
 subst e
 have k : ∀ j u,x.cs[j]? = some u → w.cell? ((ad.add (i * 11)).add j) = some u:=fun j u hu=>by rw [off_add]; exact hc i x hi j u hu
 exact ⟨k 0 _ rfl,k 1 _ rfl,k 2 _ rfl,k 3 _ rfl,k 4 _ rfl,k 5 _ rfl,k 6 _ rfl,k 7 _ rfl,k 8 _ rfl,k 9 _ rfl,k 10 _ rfl⟩
end
def enF (l : List En) : List Value:=l.flatMap fun x=>x.cs.toList
theorem enF_len : ∀ l : List En,(enF l).length = l.length * 11
 | []=>rfl
 | x :: l=>by
  have:=enF_len l
  unfold enF at *
  simp only [List.flatMap_cons,List.length_append,this,List.length_cons]
  simp [En.cs,enC]
  omega
theorem enF_app (l r : List En) : enF (l ++ r) = enF l ++ enF r:=by simp [enF]
theorem enF_one (l : List En) : ∀ u ∈ enF l,u.oneCell' = true:=by
 intro u hu
 simp only [enF,List.mem_flatMap] at hu
 obtain ⟨x,_,hx⟩:=hu
 simp only [En.cs,enC,List.mem_cons,List.not_mem_nil,or_false] at hx
 rcases hx with rfl | rfl | rfl | rfl | rfl | rfl | rfl | rfl | rfl | rfl | rfl <;> rfl
theorem enF_at : ∀ (l : List En) (i : Nat) (x : En),l[i]? = some x → ∀ j,j < 11 → (enF l)[i * 11 + j]? = x.cs[j]?
 | [],i,x,h,_,_=>by simp at h
 | y :: l,0,x,h,j,hj=>by
  simp only [List.getElem?_cons_zero,Option.some.injEq] at h
  subst h
  simp only [enF,List.flatMap_cons]
  rw [List.getElem?_append_left (by simp [En.cs,enC]; omega)]
  simp
 | y :: l,i + 1,x,h,j,hj=>by
  simp only [List.getElem?_cons_succ] at h
  have ih:=enF_at l i x h j hj
  simp only [enF,List.flatMap_cons] at *
  rw [List.getElem?_append_right (by simp [En.cs,enC]; omega)]
  have e : (i + 1) * 11 + j - y.cs.toList.length = i * 11 + j:=by simp [En.cs,enC]; omega
  rw [e]
  exact ih
theorem own_enr {w : World} {base : Nat} {e : TypeId} {n c : Nat} {A : Option Addr} {l : List En} (h : w.ownsRow base e 11 (.slice A n c) n (enF l)) (hn : n = l.length) : EnR w A n l:=by
 refine ⟨hn,fun hp => ?_⟩
 have hlt:=h.lt
 rcases h.2 with ⟨hv,rfl⟩ | ⟨g,cap,cur,hv,_⟩
 ·omega
 ·injection hv with hA hn hc
  subst hA
  have:=hlt g rfl
  refine ⟨⟨g,0,none⟩,rfl,this.2,fun i x hi j u hu=>h.cells (g:=g) rfl _ u ?_⟩
  have hj : j < 11:=(Array.getElem?_eq_some_iff.1 hu).1
  rw [enF_at l i x hi j hj]
  exact hu
theorem enr_flat {w : World} {L : Option Addr} {m : Nat} {l : List En} (h : EnR w L m l) : ∀ ad,L = some ad → ∀ (j : Nat) (u : Value),(enF l)[j]? = some u → w.cell? (ad.add j) = some u:=by
 intro ad e j u hu
 have hj : j < l.length * 11:=by rw [← enF_len]; exact (List.getElem?_eq_some_iff.1 hu).1
 obtain ⟨ad',e',_,hc⟩:=h.2 (by have:=h.1; omega)
 rw [e] at e'
 injection e' with e'
 subst e'
 have hi : j / 11 < l.length:=by omega
 have hx : l[j / 11]? = some l[j / 11]:=List.getElem?_eq_getElem hi
 have h1:=enF_at l (j / 11) _ hx (j % 11) (by omega)
 have h2 : j / 11 * 11 + j % 11 = j:=by omega
 rw [h2] at h1
 rw [h1] at hu
 have h3:=hc (j / 11) _ hx (j % 11) u hu
 rwa [h2] at h3
theorem enr_none {w : World} {L : Option Addr} {m : Nat} {l : List En} (h : EnR w L m l) : L = none → m = 0:=by
 rintro rfl
 rcases Nat.eq_zero_or_pos m with h0 | h0
 ·exact h0
 ·obtain ⟨ad,e,_⟩:=h.2 h0
  cases e
def TF (w : World) (p : Nat) (l : List En) : Prop := ∃ A c,Blk w p 219 #[.slice A l.length c] ∧ EnR w A l.length l ∧ l.length ≤ c ∧ c ≤ maxLen ∧ (A = none → c = 0)
theorem TF.chg {w w' : World} {p : Nat} {l : List En} (h : TF w p l) (hc : Chg (fun _=>False) w w') : TF w' p l:=by
 obtain ⟨A,c,hb,hr,r⟩:=h
 exact ⟨A,c,hb.chg hc id,hr.chg hc,r⟩
theorem fisfor13_any (pr ins ma po fr up no ak ap ao ag ki : Int) (w : World) : Calls Tryz.prog 139 #[.agg (enC pr ins ma po fr up no ak ap ao ag),int i64 ki] w fun e w'=>e = .returned (.bool (inB13 ins ki)) ∧ Chg (fun _=>False) w w':=by
 have HB0 : Hid (Blk (w.alloc (.cells #[int i64 pr,int i64 ins,int .u64 ma,int i64 po,int i64 fr,int i64 up,int i64 no,int i64 ak,int i64 ap,int i64 ao,int i64 ag] 217)) w.heap.size 217 (enC pr ins ma po fr up no ak ap ao ag)):=hd_ (blk_new rfl)
 have HC0:=hd_ ((Chg.refl (fun _=>False) w).alloc (.cells #[int i64 pr,int i64 ins,int .u64 ma,int i64 po,int i64 fr,int i64 up,int i64 no,int i64 ak,int i64 ap,int i64 ao,int i64 ag] 217))
 obtain ⟨y0,y1,y2,y3,y4,y5,y6,y7,y8,y9,y10⟩:=en_cells13 HB0.out
 unfold enC
 by_cases h0 : ki = 0
 ·subst h0
  rw [inB13_0]
  go_enter Tryz.func139,Tryz.ntmps139
  go_upto_region 1 with fail
  generalize w.alloc (.cells #[int i64 pr,int i64 ins,int .u64 ma,int i64 po,int i64 fr,int i64 up,int i64 no,int i64 ak,int i64 ap,int i64 ao,int i64 ag] 217) = w1 at *
  generalize w.heap.size = q at *
  go_wp2_with fail
  go_ret
  exact ⟨ret_b13 (eq13_0 ins),HC0.out⟩
 by_cases h1 : ki = 1
 ·subst h1
  rw [inB13_1]
  go_enter Tryz.func139,Tryz.ntmps139
  go_upto_region 1 with fail
  generalize w.alloc (.cells #[int i64 pr,int i64 ins,int .u64 ma,int i64 po,int i64 fr,int i64 up,int i64 no,int i64 ak,int i64 ap,int i64 ao,int i64 ag] 217) = w1 at *
  generalize w.heap.size = q at *
  go_wp2_with fail
  go_ret
  exact ⟨ret_b13 (eq13_1 ins),HC0.out⟩
 by_cases h2 : ki = 2
 ·subst h2
  rw [inB13_2]
  go_enter Tryz.func139,Tryz.ntmps139
  go_upto_region 1 with fail
  generalize w.alloc (.cells #[int i64 pr,int i64 ins,int .u64 ma,int i64 po,int i64 fr,int i64 up,int i64 no,int i64 ak,int i64 ap,int i64 ao,int i64 ag] 217) = w1 at *
  generalize w.heap.size = q at *
  go_wp2_with fail
  go_ret
  exact ⟨ret_b13 (eq13_2 ins),HC0.out⟩
 rw [inB13_no ins ki h0 h1 h2]
 by_cases h3 : 0 ≤ ki
 ·have h4 : ¬ ki ≤ 2:=by omega
  go_enter Tryz.func139,Tryz.ntmps139
  go_upto_region 1 with fail
  generalize w.alloc (.cells #[int i64 pr,int i64 ins,int .u64 ma,int i64 po,int i64 fr,int i64 up,int i64 no,int i64 ak,int i64 ap,int i64 ao,int i64 ag] 217) = w1 at *
  generalize w.heap.size = q at *
  go_wp2_with fail
  go_ret
  exact ⟨rfl,HC0.out⟩
 ·have h4 : ki < 0:=by omega
  go_enter Tryz.func139,Tryz.ntmps139
  go_upto_region 1 with fail
  generalize w.alloc (.cells #[int i64 pr,int i64 ins,int .u64 ma,int i64 po,int i64 fr,int i64 up,int i64 no,int i64 ak,int i64 ap,int i64 ao,int i64 ag] 217) = w1 at *
  generalize w.heap.size = q at *
  go_wp2_with fail
  go_ret
  exact ⟨rfl,HC0.out⟩
theorem fgoes13_any (pr ins ma po fr up no ak ap ao ag ki km kp ks ko : Int) (w : World) : Calls Tryz.prog 140 #[.agg (enC pr ins ma po fr up no ak ap ao ag), .agg (kyC ki km kp ks ko)] w fun e w'=>e = .returned (.bool (toB13 ma po ki km kp)) ∧ Chg (fun _=>False) w w':=by
 have HB0 : Hid (Blk ((w.alloc (.cells #[int i64 pr,int i64 ins,int .u64 ma,int i64 po,int i64 fr,int i64 up,int i64 no,int i64 ak,int i64 ap,int i64 ao,int i64 ag] 217)).alloc (.cells #[int i64 ki,int .u64 km,int i64 kp,int i64 ks,int i64 ko] 146)) w.heap.size 217 (enC pr ins ma po fr up no ak ap ao ag)):=hd_ (Blk.alloc (blk_new rfl) _)
 have HB1 : Hid (Blk ((w.alloc (.cells #[int i64 pr,int i64 ins,int .u64 ma,int i64 po,int i64 fr,int i64 up,int i64 no,int i64 ak,int i64 ap,int i64 ao,int i64 ag] 217)).alloc (.cells #[int i64 ki,int .u64 km,int i64 kp,int i64 ks,int i64 ko] 146)) (w.heap.size + 1) 146 (kyC ki km kp ks ko)):=hd_ (blk_new (by simp))
 have HC0:=hd_ (((Chg.refl (fun _=>False) w).alloc (.cells #[int i64 pr,int i64 ins,int .u64 ma,int i64 po,int i64 fr,int i64 up,int i64 no,int i64 ak,int i64 ap,int i64 ao,int i64 ag] 217)).alloc (.cells #[int i64 ki,int .u64 km,int i64 kp,int i64 ks,int i64 ko] 146))
 obtain ⟨y0,y1,y2,y3,y4,y5,y6,y7,y8,y9,y10⟩:=en_cells13 HB0.out
 obtain ⟨u0,u1,u2,u3,u4⟩:=ky_cells13 HB1.out
 unfold enC kyC
 by_cases h0 : ki = 0
 ·skip
  have t0 : (ki == 0) = true:=by simp [h0]
  have HH:=hd_ h0
  clear h0
  go_enter Tryz.func140,Tryz.ntmps140
  go_upto_region 1 with fail
  generalize (w.alloc (.cells #[int i64 pr,int i64 ins,int .u64 ma,int i64 po,int i64 fr,int i64 up,int i64 no,int i64 ak,int i64 ap,int i64 ao,int i64 ag] 217)).alloc (.cells #[int i64 ki,int .u64 km,int i64 kp,int i64 ks,int i64 ko] 146) = w1 at *
  generalize w.heap.size = q at *
  go_wp2_with fail
  go_ret
  exact ⟨ret_b13 (by simp [toB13,HH.out]),HC0.out⟩
 ·skip
  have t0 : (ki == 0) = false:=by simp [h0]
  have HH:=hd_ h0
  clear h0
  go_enter Tryz.func140,Tryz.ntmps140
  go_upto_region 1 with fail
  generalize (w.alloc (.cells #[int i64 pr,int i64 ins,int .u64 ma,int i64 po,int i64 fr,int i64 up,int i64 no,int i64 ak,int i64 ap,int i64 ao,int i64 ag] 217)).alloc (.cells #[int i64 ki,int .u64 km,int i64 kp,int i64 ks,int i64 ko] 146) = w1 at *
  generalize w.heap.size = q at *
  go_wp2_with fail
  go_ret
  exact ⟨ret_b13 (by simp [toB13,HH.out]),HC0.out⟩
theorem ffits13_any (pr ins ma po fr up no ak ap ao ag ki km kp ks ko : Int) (w : World) : Calls Tryz.prog 128 #[.agg (enC pr ins ma po fr up no ak ap ao ag), .agg (kyC ki km kp ks ko)] w fun e w'=>e = .returned (.bool (fB13 ins ma po fr up no ki km kp ks ko)) ∧ Chg (fun _=>False) w w':=by
 have HB0 : Hid (Blk ((w.alloc (.cells #[int i64 pr,int i64 ins,int .u64 ma,int i64 po,int i64 fr,int i64 up,int i64 no,int i64 ak,int i64 ap,int i64 ao,int i64 ag] 217)).alloc (.cells #[int i64 ki,int .u64 km,int i64 kp,int i64 ks,int i64 ko] 146)) w.heap.size 217 (enC pr ins ma po fr up no ak ap ao ag)):=hd_ (Blk.alloc (blk_new rfl) _)
 have HB1 : Hid (Blk ((w.alloc (.cells #[int i64 pr,int i64 ins,int .u64 ma,int i64 po,int i64 fr,int i64 up,int i64 no,int i64 ak,int i64 ap,int i64 ao,int i64 ag] 217)).alloc (.cells #[int i64 ki,int .u64 km,int i64 kp,int i64 ks,int i64 ko] 146)) (w.heap.size + 1) 146 (kyC ki km kp ks ko)):=hd_ (blk_new (by simp))
 have HC0:=hd_ (((Chg.refl (fun _=>False) w).alloc (.cells #[int i64 pr,int i64 ins,int .u64 ma,int i64 po,int i64 fr,int i64 up,int i64 no,int i64 ak,int i64 ap,int i64 ao,int i64 ag] 217)).alloc (.cells #[int i64 ki,int .u64 km,int i64 kp,int i64 ks,int i64 ko] 146))
 obtain ⟨y0,y1,y2,y3,y4,y5,y6,y7,y8,y9,y10⟩:=en_cells13 HB0.out
 obtain ⟨u0,u1,u2,u3,u4⟩:=ky_cells13 HB1.out
 unfold enC kyC
 have his:=fun W=>fisfor13_any pr ins ma po fr up no ak ap ao ag ki W
 have hgo:=fun W=>fgoes13_any pr ins ma po fr up no ak ap ao ag ki km kp ks ko W
 unfold enC at his
 unfold enC kyC at hgo
 generalize hi : inB13 ins ki = bi at *
 generalize ht : toB13 ma po ki km kp = bt at *
 have HI:=hd_ hi
 have HT:=hd_ ht
 clear hi ht
 cases bi with
 | false =>
  have HIS:=hd_ his
  clear his
  go_enter Tryz.func128,Tryz.ntmps128
  go_upto_region 1 with fail
  generalize (w.alloc (.cells #[int i64 pr,int i64 ins,int .u64 ma,int i64 po,int i64 fr,int i64 up,int i64 no,int i64 ak,int i64 ap,int i64 ao,int i64 ag] 217)).alloc (.cells #[int i64 ki,int .u64 km,int i64 kp,int i64 ks,int i64 ko] 146) = w1 at *
  generalize w.heap.size = q at *
  go_wp2_with fail
  refine (HIS.out _).mono ?_
  rintro e w2 ⟨rfl,hc⟩
  have HX:=hd_ (hc)
  clear hc y0 y1 y2 y3 y4 y5 y6 y7 y8 y9 y10 u0 u1 u2 u3 u4
  obtain ⟨y0,y1,y2,y3,y4,y5,y6,y7,y8,y9,y10⟩:=en_cells13 (HB0.out.chg HX.out id)
  obtain ⟨u0,u1,u2,u3,u4⟩:=ky_cells13 (HB1.out.chg HX.out id)
  go_wp2_with fail
  go_ret
  exact ⟨ret_b13 (by unfold fB13; rw [HI.out]; simp),HC0.out.trans HX.out (fun _ _ e=>e)⟩
 | true =>
  cases bt with
  | false =>
   have HGO:=hd_ hgo
   clear hgo
   have HIS:=hd_ his
   clear his
   go_enter Tryz.func128,Tryz.ntmps128
   go_upto_region 1 with fail
   generalize (w.alloc (.cells #[int i64 pr,int i64 ins,int .u64 ma,int i64 po,int i64 fr,int i64 up,int i64 no,int i64 ak,int i64 ap,int i64 ao,int i64 ag] 217)).alloc (.cells #[int i64 ki,int .u64 km,int i64 kp,int i64 ks,int i64 ko] 146) = w1 at *
   generalize w.heap.size = q at *
   go_wp2_with fail
   refine (HIS.out _).mono ?_
   rintro e w2 ⟨rfl,hc⟩
   have HX:=hd_ (hc)
   clear hc y0 y1 y2 y3 y4 y5 y6 y7 y8 y9 y10 u0 u1 u2 u3 u4
   obtain ⟨y0,y1,y2,y3,y4,y5,y6,y7,y8,y9,y10⟩:=en_cells13 (HB0.out.chg HX.out id)
   obtain ⟨u0,u1,u2,u3,u4⟩:=ky_cells13 (HB1.out.chg HX.out id)
   go_wp2_with fail
   refine (HGO.out _).mono ?_
   rintro e w3 ⟨rfl,hc⟩
   replace HX:=hd_ (HX.out.trans hc (fun _ _ e=>e))
   clear hc y0 y1 y2 y3 y4 y5 y6 y7 y8 y9 y10 u0 u1 u2 u3 u4
   obtain ⟨y0,y1,y2,y3,y4,y5,y6,y7,y8,y9,y10⟩:=en_cells13 (HB0.out.chg HX.out id)
   obtain ⟨u0,u1,u2,u3,u4⟩:=ky_cells13 (HB1.out.chg HX.out id)
   go_wp2_with fail
   go_ret
   exact ⟨ret_b13 (by unfold fB13; rw [HI.out,HT.out]; simp),HC0.out.trans HX.out (fun _ _ e=>e)⟩
  | true =>
   have HGO:=hd_ hgo
   clear hgo
   by_cases h1 : fr ≤ ks
   ·by_cases h2 : ks ≤ up
    ·have HF1:=hd_ (show decide (fr ≤ ks) = true from by simp [h1])
     have HF2:=hd_ (show decide (ks ≤ up) = true from by simp [h2])
     have HIS:=hd_ his
     clear his
     go_enter Tryz.func128,Tryz.ntmps128
     go_upto_region 1 with fail
     generalize (w.alloc (.cells #[int i64 pr,int i64 ins,int .u64 ma,int i64 po,int i64 fr,int i64 up,int i64 no,int i64 ak,int i64 ap,int i64 ao,int i64 ag] 217)).alloc (.cells #[int i64 ki,int .u64 km,int i64 kp,int i64 ks,int i64 ko] 146) = w1 at *
     generalize w.heap.size = q at *
     go_wp2_with fail
     refine (HIS.out _).mono ?_
     rintro e w2 ⟨rfl,hc⟩
     have HX:=hd_ (hc)
     clear hc y0 y1 y2 y3 y4 y5 y6 y7 y8 y9 y10 u0 u1 u2 u3 u4
     obtain ⟨y0,y1,y2,y3,y4,y5,y6,y7,y8,y9,y10⟩:=en_cells13 (HB0.out.chg HX.out id)
     obtain ⟨u0,u1,u2,u3,u4⟩:=ky_cells13 (HB1.out.chg HX.out id)
     go_wp2_with fail
     refine (HGO.out _).mono ?_
     rintro e w3 ⟨rfl,hc⟩
     replace HX:=hd_ (HX.out.trans hc (fun _ _ e=>e))
     clear hc y0 y1 y2 y3 y4 y5 y6 y7 y8 y9 y10 u0 u1 u2 u3 u4
     obtain ⟨y0,y1,y2,y3,y4,y5,y6,y7,y8,y9,y10⟩:=en_cells13 (HB0.out.chg HX.out id)
     obtain ⟨u0,u1,u2,u3,u4⟩:=ky_cells13 (HB1.out.chg HX.out id)
     go_wp2_with fail
     go_ret
     exact ⟨ret_b13 (by unfold fB13; rw [HI.out,HT.out,HF1.out,HF2.out]; simp),HC0.out.trans HX.out (fun _ _ e=>e)⟩
    ·have HF1:=hd_ (show decide (fr ≤ ks) = true from by simp [h1])
     have HF2:=hd_ (show decide (ks ≤ up) = false from by simp; omega)
     have HIS:=hd_ his
     clear his
     go_enter Tryz.func128,Tryz.ntmps128
     go_upto_region 1 with fail
     generalize (w.alloc (.cells #[int i64 pr,int i64 ins,int .u64 ma,int i64 po,int i64 fr,int i64 up,int i64 no,int i64 ak,int i64 ap,int i64 ao,int i64 ag] 217)).alloc (.cells #[int i64 ki,int .u64 km,int i64 kp,int i64 ks,int i64 ko] 146) = w1 at *
     generalize w.heap.size = q at *
     go_wp2_with fail
     refine (HIS.out _).mono ?_
     rintro e w2 ⟨rfl,hc⟩
     have HX:=hd_ (hc)
     clear hc y0 y1 y2 y3 y4 y5 y6 y7 y8 y9 y10 u0 u1 u2 u3 u4
     obtain ⟨y0,y1,y2,y3,y4,y5,y6,y7,y8,y9,y10⟩:=en_cells13 (HB0.out.chg HX.out id)
     obtain ⟨u0,u1,u2,u3,u4⟩:=ky_cells13 (HB1.out.chg HX.out id)
     go_wp2_with fail
     refine (HGO.out _).mono ?_
     rintro e w3 ⟨rfl,hc⟩
     replace HX:=hd_ (HX.out.trans hc (fun _ _ e=>e))
     clear hc y0 y1 y2 y3 y4 y5 y6 y7 y8 y9 y10 u0 u1 u2 u3 u4
     obtain ⟨y0,y1,y2,y3,y4,y5,y6,y7,y8,y9,y10⟩:=en_cells13 (HB0.out.chg HX.out id)
     obtain ⟨u0,u1,u2,u3,u4⟩:=ky_cells13 (HB1.out.chg HX.out id)
     go_wp2_with fail
     go_ret
     exact ⟨ret_b13 (by unfold fB13; rw [HI.out,HT.out,HF1.out,HF2.out]; simp),HC0.out.trans HX.out (fun _ _ e=>e)⟩
   ·have HF1:=hd_ (show decide (fr ≤ ks) = false from by simp; omega)
    have HIS:=hd_ his
    clear his
    go_enter Tryz.func128,Tryz.ntmps128
    go_upto_region 1 with fail
    generalize (w.alloc (.cells #[int i64 pr,int i64 ins,int .u64 ma,int i64 po,int i64 fr,int i64 up,int i64 no,int i64 ak,int i64 ap,int i64 ao,int i64 ag] 217)).alloc (.cells #[int i64 ki,int .u64 km,int i64 kp,int i64 ks,int i64 ko] 146) = w1 at *
    generalize w.heap.size = q at *
    go_wp2_with fail
    refine (HIS.out _).mono ?_
    rintro e w2 ⟨rfl,hc⟩
    have HX:=hd_ (hc)
    clear hc y0 y1 y2 y3 y4 y5 y6 y7 y8 y9 y10 u0 u1 u2 u3 u4
    obtain ⟨y0,y1,y2,y3,y4,y5,y6,y7,y8,y9,y10⟩:=en_cells13 (HB0.out.chg HX.out id)
    obtain ⟨u0,u1,u2,u3,u4⟩:=ky_cells13 (HB1.out.chg HX.out id)
    go_wp2_with fail
    refine (HGO.out _).mono ?_
    rintro e w3 ⟨rfl,hc⟩
    replace HX:=hd_ (HX.out.trans hc (fun _ _ e=>e))
    clear hc y0 y1 y2 y3 y4 y5 y6 y7 y8 y9 y10 u0 u1 u2 u3 u4
    obtain ⟨y0,y1,y2,y3,y4,y5,y6,y7,y8,y9,y10⟩:=en_cells13 (HB0.out.chg HX.out id)
    obtain ⟨u0,u1,u2,u3,u4⟩:=ky_cells13 (HB1.out.chg HX.out id)
    go_wp2_with fail
    go_ret
    exact ⟨ret_b13 (by unfold fB13; rw [HI.out,HT.out,HF1.out]; simp),HC0.out.trans HX.out (fun _ _ e=>e)⟩
theorem wpList_app13 {P : Program} (w : World) {ops : Array Oper} {rest : List Oper} {o : Oper} {a : Act} {Q : Exit → Act → World → Prop} (hgd : o.guard = none) (s x : Operand) (t : TypeId)
  (ho : o.op = .call { callee := .builtin .append,args:=#[s,x],argTypes:=#[t,t] })
  (base : Nat) (e : TypeId) (i : TypeInfo) (z : Value) (size bytes : Nat) (ht : P.underlying t = some (.slice e)) (hi : P.info? e = some i) (hz : i.zero = some z)
  (hsize : i.size = size) (hby : i.bytes = bytes) (hzs : z.cells.size = size) (hpos : 0 < size)
  (v : Value) (n : Nat) (xs : List Value) (hs : a.eval s = v) (hown : w.ownsRow base e size v n xs)
  (A : Option Addr) (m c : Nat) (news : List Value) (hx : a.eval x = .slice A m c) (hl : news.length = m * size) (hA : A = none → m = 0) (hnews : ∀ ad,A = some ad → ∀ j u,news[j]? = some u → w.cell? (ad.add j) = some u) (h1 : ∀ u ∈ news,u.oneCell' = true)
  (h63 : n + m ≤ maxLen) (hbytes : (n + m) * bytes ≤ 140737488355328) (hbase : base ≤ w.heap.size)
  (h : ∀ v' w',w'.ownsRow base e size v' (n + m) (xs ++ news) → w.grownBy w' v.ownBlock → (v'.ownBlock = v.ownBlock ∨ v'.ownBlock = some w.heap.size) → wpList P ops Q rest (a.put o.dst v') w') : wpList P ops Q (o :: rest) a w:=by
 rcases A with _ | ad
 ·obtain rfl:=hA rfl
  have hn : news = []:=List.eq_nil_of_length_eq_zero (by simpa using hl)
  subst hn
  have hrun : (Builtin.append_ #[t,t] o.type #[v, .slice none 0 c]).run P w = .ok v w:=by
   rcases hown.2 with ⟨rfl,rfl⟩ | ⟨g,cap,cur,rfl,_,_,hnc,_⟩
   ·simp [Builtin.append_,run_underlying ht,sizeOf,typeInfo,hi,Builtin.lenOf,Builtin.firstCells]
   ·simp [Builtin.append_,run_underlying ht,sizeOf,typeInfo,hi,Builtin.lenOf,Builtin.firstCells,hnc,storeCells]
  refine wpList_plain hgd fun _ hK => ?_
  unfold Oper.wp execOp
  simp only [ho,resolve,invoke,builtin,Sem.run_bind,Sem.run_pure,Result.andThen_ok,List.map_toArray,List.map_cons,List.map_nil,hs,hx,hrun]
  exact hK _ _ (h v w (by simpa using hown) ⟨rfl,rfl,rfl,Nat.le_refl _,fun _ _ _=>rfl⟩ (.inl rfl))
 ·refine wpList_plain hgd fun _ hK => ?_
  obtain ⟨v',w',hrun,h2,h3,_,h4⟩:=run_append_own_at (P:=P) w base t o.type e i z size bytes ht hi hz hsize hby hzs hpos v n xs hown ad m c news hl (hnews ad rfl) h1 h63 hbytes hbase
  unfold Oper.wp execOp
  simp only [ho,resolve,invoke,builtin,Sem.run_bind,Sem.run_pure,Result.andThen_ok,List.map_toArray,List.map_cons,List.map_nil,hs,hx,hrun]
  exact hK _ _ (h v' w' h2 h3 h4)
theorem infoEn13 : (Tryz.prog.info? 217).map (fun i=>(i.zero,i.size,i.bytes)) = some (some (.agg #[int i64 0,int i64 0,int .u64 0,int i64 0,int i64 0,int i64 0,int i64 0,int i64 0,int i64 0,int i64 0,int i64 0]),11,88):=by kernel_rfl
theorem own_empty13 (w : World) (T : TypeId) (size : Nat) : (w.alloc (.cells #[] T)).ownsRow w.heap.size T size (.slice (some ⟨w.heap.size,0,none⟩) 0 0) 0 [] :=
 ⟨by simp, .inr ⟨w.heap.size,0,#[],rfl,Nat.le_refl _,heap_alloc_new w _,Nat.le_refl _,Nat.zero_le _,by simp,by simp⟩⟩
theorem own_nil13 {w : World} {base : Nat} {e : TypeId} {size n c : Nat} {A : Option Addr} {xs : List Value} (h : w.ownsRow base e size (.slice A n c) n xs) : A = none → c = 0:=by
 rintro rfl
 rcases h.2 with ⟨e,_⟩ | ⟨g,cap,cur,e,_⟩
 ·injection e
 ·injection e with e
  cases e
theorem ac_put13 {w : World} {r : Nat} {T : TypeId} {ak ap ao ag : Int} (hb : Blk w r T (acC ak ap ao ag)) (a b c d : Int) :
  (w.setCell ⟨r,0,none⟩ (int i64 a)).cell? ⟨r,0,none⟩ = some (int i64 a) ∧
  ((w.setCell ⟨r,0,none⟩ (int i64 a)).setCell ⟨r,1,none⟩ (int i64 b)).cell? ⟨r,1,none⟩ = some (int i64 b) ∧
  (((w.setCell ⟨r,0,none⟩ (int i64 a)).setCell ⟨r,1,none⟩ (int i64 b)).setCell ⟨r,2,none⟩ (int i64 c)).cell? ⟨r,2,none⟩ = some (int i64 c) ∧
  ((((w.setCell ⟨r,0,none⟩ (int i64 a)).setCell ⟨r,1,none⟩ (int i64 b)).setCell ⟨r,2,none⟩ (int i64 c)).setCell ⟨r,3,none⟩ (int i64 d)).cell? ⟨r,3,none⟩ = some (int i64 d) ∧
  Chg (fun k=>k = r) w ((((w.setCell ⟨r,0,none⟩ (int i64 a)).setCell ⟨r,1,none⟩ (int i64 b)).setCell ⟨r,2,none⟩ (int i64 c)).setCell ⟨r,3,none⟩ (int i64 d)):=by
 have h0:=(hb.set 0 (int i64 a))
 have r0:=h0.cell 0
 have h1:=h0.set 1 (int i64 b)
 have r1:=h1.cell 1
 have h2:=h1.set 2 (int i64 c)
 have r2:=h2.cell 2
 have h3:=h2.set 3 (int i64 d)
 have r3:=h3.cell 3
 simp only [acC,List.setIfInBounds_toArray,List.set_cons_succ,List.set_cons_zero,List.getElem?_toArray,List.getElem?_cons_zero,List.getElem?_cons_succ] at r0 r1 r2 r3
 exact ⟨r0,r1,r2,r3,(((((Chg.refl (fun k=>k = r) w).put r 0 (fun _=>rfl) _).put r 1 (fun _=>rfl) _).put r 2 (fun _=>rfl) _).put r 3 (fun _=>rfl) _)⟩
theorem ac_free13 {w : World} {r : Nat} {T : TypeId} {cs : Array Value} (h : Blk w r T cs) : w.frozen? ⟨r,0,none⟩ = false ∧ w.frozen? ⟨r,1,none⟩ = false ∧ w.frozen? ⟨r,2,none⟩ = false ∧ w.frozen? ⟨r,3,none⟩ = false:=⟨h.frozen 0,h.frozen 1,h.frozen 2,h.frozen 3⟩
def ClP13 (m : Nat) (l : List En) (w : World) (e : Ending) (w' : World) : Prop := ∃ E d,e = .returned (.slice E m d) ∧ EnR w' E m l ∧ m ≤ d ∧ d ≤ maxLen ∧ (E = none → d = 0) ∧ Chg (fun _=>False) w w'
theorem fclone13_nil (w : World) : Calls Tryz.prog 129 #[.slice none 0 0] w fun e w'=>e = .returned (.slice none 0 0) ∧ w = w':=by
 have he:=fun W : World=>Lib.run_eql_slice_nil (P:=Tryz.prog) W 195 217 none 0 0 0 0 Tryz.underlying195
 go_enter Tryz.func129,Tryz.ntmps129
 go_wp2_with fail
 go_ret
 exact ⟨rfl,rfl⟩
theorem fclone13_any {w : World} {L : Option Addr} {m lc : Nat} {l : List En} (h : EnR w L m l) (hz : L = none → lc = 0) (hb : m ≤ 256) : Calls Tryz.prog 129 #[.slice L m lc] w (ClP13 m l w):=by
 rcases L with _ | a
 ·obtain rfl:=hz rfl
  obtain rfl:=enr_none h rfl
  have hl : l = []:=List.eq_nil_of_length_eq_zero h.1.symm
  subst hl
  refine (fclone13_nil w).mono ?_
  rintro e w' ⟨rfl,rfl⟩
  exact ⟨none,0,rfl,EnR.nil _ _,Nat.le_refl _,Nat.zero_le _,fun _=>rfl,Chg.refl _ _⟩
 ·obtain ⟨i0,hi0,hz0,hz1,hz2⟩:=info_parts infoEn13
  have HH:=hd_ h
  have HL:=hd_ h.1
  clear h hz
  have he:=fun W : World=>Lib.run_eql_slice_nil (P:=Tryz.prog) W 195 217 (some a) m lc 0 0 Tryz.underlying195
  have HSRC:=hd_ (enr_flat (HH.out.alloc (.cells #[] 217)))
  go_enter Tryz.func129,Tryz.ntmps129
  go_wp2_with (at_builtin; refine wpList_app13 _ rfl (.tmp 5) (.tmp 6) 195 rfl w.heap.size 217 i0 _ 11 88 Tryz.underlying195 hi0 hz0 hz1 hz2 rfl (by decide) (.slice (some ⟨w.heap.size,0,none⟩) 0 0) 0 [] rfl (own_empty13 w 217 11) (some a) m lc (enF l) rfl (by rw [enF_len,HL.out]) (fun e=>by cases e) HSRC.out (enF_one l) (by unfold maxLen; omega) (by omega) (by simp) ?_; intro v5 w5 hown5 hg5 hat5; (simp only [Nat.zero_add,List.nil_append] at hown5 ⊢); obtain ⟨E,dd,rfl, -, -⟩:=own_form hown5; have HO5:=hd_ hown5; have HX5:=hd_ (grown_fresh ((Chg.refl (fun _=>False) w).alloc _) hg5 (own_empty13 w 217 11) (Nat.le_refl _)); clear hown5 hg5 hat5)
  go_ret
  exact ⟨E,dd,rfl,own_enr HO5.out HL.out,(own_cap HO5.out).1,(own_cap HO5.out).2,own_nil13 HO5.out,HX5.out⟩
def NwP13 (l : List En) (w : World) (e : Ending) (w' : World) : Prop := ∃ p : Nat,e = .returned (.tuple #[.pointer (some ⟨p,0,none⟩),int i64 0]) ∧ TF w' p l ∧ Chg (fun _=>False) w w'
theorem fnew13_any {w : World} {L : Option Addr} {m lc : Nat} {l : List En} (h : EnR w L m l) (hz : L = none → lc = 0) (hb : m ≤ 256) : Calls Tryz.prog 105 #[.slice L m lc] w (NwP13 l w):=by
 have HC:=hd_ (fclone13_any h hz hb)
 have HM:=hd_ h.1
 clear h hz
 have h256 : ¬ 256 < m:=by omega
 go_enter Tryz.func105,Tryz.ntmps105
 go_wp2_with fail
 refine HC.out.mono ?_
 rintro e w1 ⟨E,d,rfl,hr,h1,h2,h3,hc⟩
 have HR:=hd_ hr
 have HD:=hd_ (And.intro h1 (And.intro h2 h3))
 have HX:=hd_ hc
 clear hr h1 h2 h3 hc
 go_wp2_with fail
 go_ret2
 refine ⟨w1.heap.size,rfl,⟨E,d, ?_, ?_, ?_,HD.out.2.1,HD.out.2.2⟩,HX.out.alloc _⟩
 ·rw [← HM.out]
  exact blk_new rfl
 ·rw [← HM.out]
  exact HR.out.alloc _
 ·rw [← HM.out]
  exact HD.out.1
theorem en_put13 {w : World} {q : Nat} {T : TypeId} {y : En} (hb : Blk w q T y.cs) (x : En) : Blk (((((((((((w.setCell ⟨q,0,none⟩ (int i64 x.pr)).setCell ⟨q,1,none⟩ (int i64 x.ins)).setCell ⟨q,2,none⟩ (int .u64 x.ma)).setCell ⟨q,3,none⟩ (int i64 x.po)).setCell ⟨q,4,none⟩ (int i64 x.fr)).setCell ⟨q,5,none⟩ (int i64 x.up)).setCell ⟨q,6,none⟩ (int i64 x.no)).setCell ⟨q,7,none⟩ (int i64 x.ak)).setCell ⟨q,8,none⟩ (int i64 x.ap)).setCell ⟨q,9,none⟩ (int i64 x.ao)).setCell ⟨q,10,none⟩ (int i64 x.ag)) q T x.cs ∧ Chg (fun k=>k = q) w (((((((((((w.setCell ⟨q,0,none⟩ (int i64 x.pr)).setCell ⟨q,1,none⟩ (int i64 x.ins)).setCell ⟨q,2,none⟩ (int .u64 x.ma)).setCell ⟨q,3,none⟩ (int i64 x.po)).setCell ⟨q,4,none⟩ (int i64 x.fr)).setCell ⟨q,5,none⟩ (int i64 x.up)).setCell ⟨q,6,none⟩ (int i64 x.no)).setCell ⟨q,7,none⟩ (int i64 x.ak)).setCell ⟨q,8,none⟩ (int i64 x.ap)).setCell ⟨q,9,none⟩ (int i64 x.ao)).setCell ⟨q,10,none⟩ (int i64 x.ag)):=by
 have h0:=hb.set 0 (int i64 x.pr)
 have h1:=h0.set 1 (int i64 x.ins)
 have h2:=h1.set 2 (int .u64 x.ma)
 have h3:=h2.set 3 (int i64 x.po)
 have h4:=h3.set 4 (int i64 x.fr)
 have h5:=h4.set 5 (int i64 x.up)
 have h6:=h5.set 6 (int i64 x.no)
 have h7:=h6.set 7 (int i64 x.ak)
 have h8:=h7.set 8 (int i64 x.ap)
 have h9:=h8.set 9 (int i64 x.ao)
 have h10:=h9.set 10 (int i64 x.ag)
 simp only [En.cs,enC,List.setIfInBounds_toArray,List.set_cons_succ,List.set_cons_zero] at h10
 refine ⟨h10, ?_⟩
 exact (((((((((((Chg.refl (fun k=>k = q) w).put q 0 (fun _=>rfl) _).put q 1 (fun _=>rfl) _).put q 2 (fun _=>rfl) _).put q 3 (fun _=>rfl) _).put q 4 (fun _=>rfl) _).put q 5 (fun _=>rfl) _).put q 6 (fun _=>rfl) _).put q 7 (fun _=>rfl) _).put q 8 (fun _=>rfl) _).put q 9 (fun _=>rfl) _).put q 10 (fun _=>rfl) _
theorem en_free13 {w : World} {q : Nat} {T : TypeId} {cs : Array Value} (h : Blk w q T cs) : w.frozen? ⟨q,0,none⟩ = false ∧ w.frozen? ⟨q,1,none⟩ = false ∧ w.frozen? ⟨q,2,none⟩ = false ∧ w.frozen? ⟨q,3,none⟩ = false ∧ w.frozen? ⟨q,4,none⟩ = false ∧ w.frozen? ⟨q,5,none⟩ = false ∧ w.frozen? ⟨q,6,none⟩ = false ∧ w.frozen? ⟨q,7,none⟩ = false ∧ w.frozen? ⟨q,8,none⟩ = false ∧ w.frozen? ⟨q,9,none⟩ = false ∧ w.frozen? ⟨q,10,none⟩ = false:=⟨h.frozen 0,h.frozen 1,h.frozen 2,h.frozen 3,h.frozen 4,h.frozen 5,h.frozen 6,h.frozen 7,h.frozen 8,h.frozen 9,h.frozen 10⟩
def LkP13 (o : Option En) (w : World) (e : Ending) (w' : World) : Prop:=e = .returned (.tuple #[.agg (acO13 o), .bool o.isSome]) ∧ Chg (fun _=>False) w w'
def ze13 : En:=⟨0,0,0,0,0,0,0,0,0,0,0⟩
def bx13 : Option En → Array Value
 | none=>ze13.cs
 | some y=>y.cs
theorem bx13_ac : ∀ o : Option En, ∃ a b c d : Int,acO13 o = acC a b c d ∧ (bx13 o)[7]? = some (int i64 a) ∧ (bx13 o)[8]? = some (int i64 b) ∧ (bx13 o)[9]? = some (int i64 c) ∧ (bx13 o)[10]? = some (int i64 d)
 | none=>⟨0,0,0,0,rfl,rfl,rfl,rfl,rfl⟩
 | some y=>⟨y.ak,y.ap,y.ao,y.ag,rfl,rfl,rfl,rfl,rfl⟩
theorem flook13_any {w : World} {p : Nat} {l : List En} (h : TF w p l) (hb : l.length ≤ 256) (ki km kp ks ko : Int) : Calls Tryz.prog 98 #[.pointer (some ⟨p,0,none⟩), .agg (kyC ki km kp ks ko)] w (LkP13 (lk13 ⟨ki,km,kp,ks,ko⟩ l) w):=by
 obtain ⟨A,c,hblk,hr, -, -, -⟩:=h
 have HRD:=hd_ hr
 have HX0:=hd_ ((((Chg.refl (fun _=>False) w).alloc (.cells #[int i64 ki,int .u64 km,int i64 kp,int i64 ks,int i64 ko] 146)).alloc (.cells #[int i64 0,int i64 0,int i64 0,int i64 0] 188)).alloc (.cells #[int i64 0,int i64 0,int .u64 0,int i64 0,int i64 0,int i64 0,int i64 0,int i64 0,int i64 0,int i64 0,int i64 0] 217))
 have HK0 : Hid (Blk (((w.alloc (.cells #[int i64 ki,int .u64 km,int i64 kp,int i64 ks,int i64 ko] 146)).alloc (.cells #[int i64 0,int i64 0,int i64 0,int i64 0] 188)).alloc (.cells #[int i64 0,int i64 0,int .u64 0,int i64 0,int i64 0,int i64 0,int i64 0,int i64 0,int i64 0,int i64 0,int i64 0] 217)) w.heap.size 146 (kyC ki km kp ks ko)):=hd_ (Blk.alloc (Blk.alloc (blk_new rfl) _) _)
 have HR0 : Hid (Blk (((w.alloc (.cells #[int i64 ki,int .u64 km,int i64 kp,int i64 ks,int i64 ko] 146)).alloc (.cells #[int i64 0,int i64 0,int i64 0,int i64 0] 188)).alloc (.cells #[int i64 0,int i64 0,int .u64 0,int i64 0,int i64 0,int i64 0,int i64 0,int i64 0,int i64 0,int i64 0,int i64 0] 217)) (w.heap.size + 1) 188 (acC 0 0 0 0)):=hd_ (Blk.alloc (blk_new (by simp)) _)
 have HB0 : Hid (Blk (((w.alloc (.cells #[int i64 ki,int .u64 km,int i64 kp,int i64 ks,int i64 ko] 146)).alloc (.cells #[int i64 0,int i64 0,int i64 0,int i64 0] 188)).alloc (.cells #[int i64 0,int i64 0,int .u64 0,int i64 0,int i64 0,int i64 0,int i64 0,int i64 0,int i64 0,int i64 0,int i64 0] 217)) (w.heap.size + 1 + 1) 217 ze13.cs):=hd_ (blk_new (by simp))
 have c0:=(hblk.chg HX0.out id).cell 0
 simp only [List.getElem?_toArray,List.getElem?_cons_zero] at c0
 clear hblk hr
 generalize hm : l.length = m at *
 have HL:=hd_ hm.symm
 clear hm
 unfold kyC
 go_enter Tryz.func98,Tryz.ntmps98
 go_upto_region 4 with fail
 generalize ((w.alloc (.cells #[int i64 ki,int .u64 km,int i64 kp,int i64 ks,int i64 ko] 146)).alloc (.cells #[int i64 0,int i64 0,int i64 0,int i64 0] 188)).alloc (.cells #[int i64 0,int i64 0,int .u64 0,int i64 0,int i64 0,int i64 0,int i64 0,int i64 0,int i64 0,int i64 0,int i64 0] 217) = w2 at *
 have HQ : Hid (w.heap.size ≠ w.heap.size + 1 + 1 ∧ w.heap.size + 1 ≠ w.heap.size + 1 + 1 ∧ w.heap.size ≤ w.heap.size + 1 ∧ w.heap.size ≤ w.heap.size + 1 + 1):=hd_ (by omega)
 generalize hq2 : w.heap.size + 1 + 1 = Q2 at *
 generalize hq1 : w.heap.size + 1 = Q1 at *
 generalize hq0 : w.heap.size = Q0 at HK0 HQ ⊢
 have HQ0:=hd_ hq0
 clear hq2 hq1 hq0
 go_wp2_with fail
 go_loopg [7,9,18] m (fun g s7 s9 i wr => ∃ (j : Nat) (b : Option En),g = m - j ∧ j ≤ m ∧ i = int i64 (j : Int) ∧ s7 = .bool b.isSome ∧ Hid (lk13 ⟨ki,km,kp,ks,ko⟩ (l.take j) = b) ∧ Hid (Blk wr Q0 146 (kyC ki km kp ks ko)) ∧ Hid (Blk wr Q2 217 (bx13 b)) ∧ Hid (Blk wr Q1 188 (acC 0 0 0 0)) ∧ Hid (Chg (fun _=>False) w wr))
 case atStart=>exact ⟨0,none,rfl,Nat.zero_le _,rfl,rfl,hd_ rfl,HK0,HB0,HR0,HX0⟩
 case round =>
  clear HK0 HB0 HR0 HX0 c0
  obtain ⟨j,b,rfl,hj,rfl,rfl,HLK,HK0,HB0,HR0,HX0⟩:=hrel
  by_cases hlt : j < m
  ·have hh:=HRD.out.chg HX0.out
   obtain ⟨ad,rfl, -⟩:=hh.2 (by omega)
   have hjl : j < l.length:=by have:=HL.out; omega
   have hx : l[j]? = some l[j]:=List.getElem?_eq_getElem hjl
   generalize l[j] = x at *
   obtain ⟨z0,z1,z2,z3,z4,z5,z6,z7,z8,z9,z10⟩:=hh.at hx
   have HJ:=hd_ (lk13_take (k:=⟨ki,km,kp,ks,ko⟩) hx)
   clear hx hh hjl
   have hca:=(Chg.refl (fun _=>False) wr).alloc (.cells #[int i64 x.pr,int i64 x.ins,int .u64 x.ma,int i64 x.po,int i64 x.fr,int i64 x.up,int i64 x.no,int i64 x.ak,int i64 x.ap,int i64 x.ao,int i64 x.ag] 217)
   have HEA : Hid (Blk (wr.alloc (.cells #[int i64 x.pr,int i64 x.ins,int .u64 x.ma,int i64 x.po,int i64 x.fr,int i64 x.up,int i64 x.no,int i64 x.ak,int i64 x.ap,int i64 x.ao,int i64 x.ag] 217)) wr.heap.size 217 (enC x.pr x.ins x.ma x.po x.fr x.up x.no x.ak x.ap x.ao x.ag)):=hd_ (blk_new rfl)
   have HXA:=hd_ (HX0.out.trans hca (fun _ _ e=>e))
   have HKA:=hd_ (HK0.out.chg hca id)
   have HBA:=hd_ (HB0.out.chg hca id)
   have HRA:=hd_ (HR0.out.chg hca id)
   clear hca
   have hft:=fun W=>ffits13_any x.pr x.ins x.ma x.po x.fr x.up x.no x.ak x.ap x.ao x.ag ki km kp ks ko W
   replace hft : ∀ W,Calls _ _ _ W (fun e w'=>e = .returned (.bool (fit13 x ⟨ki,km,kp,ks,ko⟩)) ∧ Chg (fun _=>False) W w'):=hft
   unfold enC kyC at hft
   cases b with
   | none =>
    go_upto_region 8 with fail
    generalize wr.alloc (.cells #[int i64 x.pr,int i64 x.ins,int .u64 x.ma,int i64 x.po,int i64 x.fr,int i64 x.up,int i64 x.no,int i64 x.ak,int i64 x.ap,int i64 x.ao,int i64 x.ag] 217) = wa at *
    generalize wr.heap.size = Q3 at *
    clear z0 z1 z2 z3 z4 z5 z6 z7 z8 z9 z10
    obtain ⟨y0,y1,y2,y3,y4,y5,y6,y7,y8,y9,y10⟩:=en_cells13 HEA.out
    obtain ⟨u0,u1,u2,u3,u4⟩:=ky_cells13 HKA.out
    cases hf : fit13 x ⟨ki,km,kp,ks,ko⟩ with
    | false =>
     rw [hf] at hft
     have HFT:=hd_ hft
     have HFF:=hd_ hf
     clear hft hf
     go_wp2_with fail
     refine (HFT.out _).mono ?_
     rintro e w5 ⟨rfl,hc⟩
     have HX5:=hd_ (HXA.out.trans hc (fun _ _ e=>e))
     have HK5:=hd_ (HKA.out.chg hc id)
     have HB5 : Hid (Blk w5 Q2 217 ze13.cs):=hd_ (HBA.out.chg hc id)
     have HR5:=hd_ (HRA.out.chg hc id)
     have HE5:=hd_ (HEA.out.chg hc id)
     clear hc y0 y1 y2 y3 y4 y5 y6 y7 y8 y9 y10 u0 u1 u2 u3 u4
     obtain ⟨y0,y1,y2,y3,y4,y5,y6,y7,y8,y9,y10⟩:=en_cells13 HE5.out
     go_wp2_with fail
     go_roundg (m - (j + 1))
     case measure=>omega
     case rel=>exact ⟨j + 1,none,rfl,by omega,by go_num,rfl,hd_ (by rw [HJ.out,HLK.out]; exact up13_no HFF.out),HK5,HB5,HR5,HX5⟩
    | true =>
     rw [hf] at hft
     have HFT:=hd_ hft
     have HFF:=hd_ hf
     clear hft hf
     go_wp2_with fail
     refine (HFT.out _).mono ?_
     rintro e w5 ⟨rfl,hc⟩
     have HX5:=hd_ (HXA.out.trans hc (fun _ _ e=>e))
     have HK5:=hd_ (HKA.out.chg hc id)
     have HB5 : Hid (Blk w5 Q2 217 ze13.cs):=hd_ (HBA.out.chg hc id)
     have HR5:=hd_ (HRA.out.chg hc id)
     have HE5:=hd_ (HEA.out.chg hc id)
     clear hc y0 y1 y2 y3 y4 y5 y6 y7 y8 y9 y10 u0 u1 u2 u3 u4
     obtain ⟨y0,y1,y2,y3,y4,y5,y6,y7,y8,y9,y10⟩:=en_cells13 HE5.out
     obtain ⟨g0,g1,g2,g3,g4,g5,g6,g7,g8,g9,g10⟩:=en_cells13 (show Blk w5 Q2 217 (enC 0 0 0 0 0 0 0 0 0 0 0) from HB5.out)
     obtain ⟨f0,f1,f2,f3,f4,f5,f6,f7,f8,f9,f10⟩:=en_free13 HB5.out
     have HP:=hd_ (en_put13 HB5.out x)
     go_wp2_with fail
     generalize (((((((((((w5.setCell ⟨Q2,0,none⟩ (int i64 x.pr)).setCell ⟨Q2,1,none⟩ (int i64 x.ins)).setCell ⟨Q2,2,none⟩ (int .u64 x.ma)).setCell ⟨Q2,3,none⟩ (int i64 x.po)).setCell ⟨Q2,4,none⟩ (int i64 x.fr)).setCell ⟨Q2,5,none⟩ (int i64 x.up)).setCell ⟨Q2,6,none⟩ (int i64 x.no)).setCell ⟨Q2,7,none⟩ (int i64 x.ak)).setCell ⟨Q2,8,none⟩ (int i64 x.ap)).setCell ⟨Q2,9,none⟩ (int i64 x.ao)).setCell ⟨Q2,10,none⟩ (int i64 x.ag)) = w6 at *
     replace HX5:=hd_ (fresh_set HX5.out HP.out.2 (by have:=HQ.out; have:=HQ0.out; omega))
     have HK6:=hd_ (HK5.out.chg HP.out.2 (by have:=HQ.out; omega))
     have HR6:=hd_ (HR5.out.chg HP.out.2 (by have:=HQ.out; omega))
     go_roundg (m - (j + 1))
     case measure=>omega
     case rel=>exact ⟨j + 1,some x,rfl,by omega,by go_num,rfl,hd_ (by rw [HJ.out,HLK.out]; exact up13_none HFF.out),HK6,hd_ HP.out.1,HR6,HX5⟩
   | some y =>
    go_upto_region 8 with fail
    generalize wr.alloc (.cells #[int i64 x.pr,int i64 x.ins,int .u64 x.ma,int i64 x.po,int i64 x.fr,int i64 x.up,int i64 x.no,int i64 x.ak,int i64 x.ap,int i64 x.ao,int i64 x.ag] 217) = wa at *
    generalize wr.heap.size = Q3 at *
    clear z0 z1 z2 z3 z4 z5 z6 z7 z8 z9 z10
    obtain ⟨y0,y1,y2,y3,y4,y5,y6,y7,y8,y9,y10⟩:=en_cells13 HEA.out
    obtain ⟨u0,u1,u2,u3,u4⟩:=ky_cells13 HKA.out
    cases hf : fit13 x ⟨ki,km,kp,ks,ko⟩ with
    | false =>
     rw [hf] at hft
     have HFT:=hd_ hft
     have HFF:=hd_ hf
     clear hft hf
     go_wp2_with fail
     refine (HFT.out _).mono ?_
     rintro e w5 ⟨rfl,hc⟩
     have HX5:=hd_ (HXA.out.trans hc (fun _ _ e=>e))
     have HK5:=hd_ (HKA.out.chg hc id)
     have HB5 : Hid (Blk w5 Q2 217 y.cs):=hd_ (HBA.out.chg hc id)
     have HR5:=hd_ (HRA.out.chg hc id)
     have HE5:=hd_ (HEA.out.chg hc id)
     clear hc y0 y1 y2 y3 y4 y5 y6 y7 y8 y9 y10 u0 u1 u2 u3 u4
     obtain ⟨y0,y1,y2,y3,y4,y5,y6,y7,y8,y9,y10⟩:=en_cells13 HE5.out
     go_wp2_with fail
     go_roundg (m - (j + 1))
     case measure=>omega
     case rel=>exact ⟨j + 1,some y,rfl,by omega,by go_num,rfl,hd_ (by rw [HJ.out,HLK.out]; exact up13_no HFF.out),HK5,HB5,HR5,HX5⟩
    | true =>
     rw [hf] at hft
     have HFT:=hd_ hft
     have HFF:=hd_ hf
     clear hft hf
     go_wp2_with fail
     refine (HFT.out _).mono ?_
     rintro e w5 ⟨rfl,hc⟩
     have HX5:=hd_ (HXA.out.trans hc (fun _ _ e=>e))
     have HK5:=hd_ (HKA.out.chg hc id)
     have HB5 : Hid (Blk w5 Q2 217 y.cs):=hd_ (HBA.out.chg hc id)
     have HR5:=hd_ (HRA.out.chg hc id)
     have HE5:=hd_ (HEA.out.chg hc id)
     clear hc y0 y1 y2 y3 y4 y5 y6 y7 y8 y9 y10 u0 u1 u2 u3 u4
     obtain ⟨y0,y1,y2,y3,y4,y5,y6,y7,y8,y9,y10⟩:=en_cells13 HE5.out
     obtain ⟨g0,g1,g2,g3,g4,g5,g6,g7,g8,g9,g10⟩:=en_cells13 (show Blk w5 Q2 217 (enC y.pr y.ins y.ma y.po y.fr y.up y.no y.ak y.ap y.ao y.ag) from HB5.out)
     by_cases hpr : y.pr < x.pr
     ·have HPR:=hd_ hpr
      obtain ⟨f0,f1,f2,f3,f4,f5,f6,f7,f8,f9,f10⟩:=en_free13 HB5.out
      have HP:=hd_ (en_put13 HB5.out x)
      go_wp2_with fail
      generalize (((((((((((w5.setCell ⟨Q2,0,none⟩ (int i64 x.pr)).setCell ⟨Q2,1,none⟩ (int i64 x.ins)).setCell ⟨Q2,2,none⟩ (int .u64 x.ma)).setCell ⟨Q2,3,none⟩ (int i64 x.po)).setCell ⟨Q2,4,none⟩ (int i64 x.fr)).setCell ⟨Q2,5,none⟩ (int i64 x.up)).setCell ⟨Q2,6,none⟩ (int i64 x.no)).setCell ⟨Q2,7,none⟩ (int i64 x.ak)).setCell ⟨Q2,8,none⟩ (int i64 x.ap)).setCell ⟨Q2,9,none⟩ (int i64 x.ao)).setCell ⟨Q2,10,none⟩ (int i64 x.ag)) = w6 at *
      replace HX5:=hd_ (fresh_set HX5.out HP.out.2 (by have:=HQ.out; have:=HQ0.out; omega))
      have HK6:=hd_ (HK5.out.chg HP.out.2 (by have:=HQ.out; omega))
      have HR6:=hd_ (HR5.out.chg HP.out.2 (by have:=HQ.out; omega))
      go_roundg (m - (j + 1))
      case measure=>omega
      case rel=>exact ⟨j + 1,some x,rfl,by omega,by go_num,rfl,hd_ (by rw [HJ.out,HLK.out]; exact up13_lt HFF.out HPR.out),HK6,hd_ HP.out.1,HR6,HX5⟩
     ·have HPR:=hd_ hpr
      go_wp2_with fail
      go_roundg (m - (j + 1))
      case measure=>omega
      case rel=>exact ⟨j + 1,some y,rfl,by omega,by go_num,rfl,hd_ (by rw [HJ.out,HLK.out]; exact up13_le (by have:=HPR.out; omega)),HK5,HB5,HR5,HX5⟩
  ·have hjm : j = m:=by omega
   subst hjm
   obtain ⟨a0,a1,a2,a3,hac,b7,b8,b9,b10⟩:=bx13_ac b
   have g7:=HB0.out.cell 7
   have g8:=HB0.out.cell 8
   have g9:=HB0.out.cell 9
   have g10:=HB0.out.cell 10
   rw [b7] at g7
   rw [b8] at g8
   rw [b9] at g9
   rw [b10] at g10
   have HAC:=hd_ (show lk13 ⟨ki,km,kp,ks,ko⟩ l = b from by rw [← HLK.out,List.take_of_length_le (by have:=HL.out; omega)])
   have HA2:=hd_ hac
   obtain ⟨x0,x1,x2,x3⟩:=ac_cells13 HR0.out
   obtain ⟨f0,f1,f2,f3⟩:=ac_free13 HR0.out
   obtain ⟨r0,r1,r2,r3,hcs⟩:=ac_put13 HR0.out a0 a1 a2 a3
   have RR:=hd_ (And.intro r0 (And.intro r1 (And.intro r2 r3)))
   have HF:=hd_ (fresh_set HX0.out hcs (by have:=HQ.out; have:=HQ0.out; omega))
   clear r0 r1 r2 r3 hcs b7 b8 b9 b10 hac
   go_wp2_with fail
   obtain ⟨r0,r1,r2,r3⟩:=RR.out
   exact bodyPost_ret (v := .tuple #[.agg (acC a0 a1 a2 a3), .bool b.isSome]) (by simp [results,Tryz.results98,go_sem,acC,r0,r1,r2,r3]) rfl ⟨by rw [HAC.out,HA2.out],HF.out⟩
theorem enr_blk13 {w : World} {g : Nat} {T : TypeId} {l : List En} (h : Blk w g T (enF l).toArray) : EnR w (some ⟨g,0,none⟩) l.length l:=by
 refine ⟨rfl,fun _=>⟨⟨g,0,none⟩,rfl,h.lt,fun i x hi j u hu => ?_⟩⟩
 have hj : j < 11:=(Array.getElem?_eq_some_iff.1 hu).1
 have e : (⟨g,0,none⟩ : Addr).add (i * 11 + j) = ⟨g,i * 11 + j,none⟩:=by unfold Addr.add; split <;> simp_all
 rw [e,h.cell]
 have h2:=enF_at l i x hi j hj
 rw [hu] at h2
 simpa using h2
end Go.Proofs.YtfajcdobikjcdaaGreatDoor
end
section
namespace Go.Proofs.YtfajcdobikjcdaaGreatDoor
open Go.Value (int)
open Go.IntKind (i64)
open Go.RowKit Go.ChangeShapes Go.WideShapes Go.ChangeAt
theorem fld13 {α : Type} {ys : List α} {n j : Nat} {e : Option α} (h : e = ys[j]?) (hl : ys.length = n) (hj : j < n) : ∃ y,e = some y:=⟨_,h.trans (List.getElem?_eq_getElem (by omega))⟩
end Go.Proofs.YtfajcdobikjcdaaGreatDoor
end
