/-
  What always holds of a controller; its sessions behind calls. No condition.
-/
import Derived.Test.YtnojmbejedlilaaGreatQCj
set_option linter.unusedVariables false
set_option linter.unusedSimpArgs false
namespace Go.Proofs.YtnojmbejedlilaaGreat
open Go.Value (int)
open Go.IntKind (i64)
open Go.RowKit
structure SIn17 (j : Nat) (x : SV) : Prop where
 len : x.q.length ≤ 64
 bod : ∀ b ∈ x.q,1 ≤ b.length ∧ b.length ≤ 1000
 nx1 : 1 ≤ x.nx
 n : x.nx ≤ 1 + 64 * (j : Int)
 go0 : 0 ≤ x.go ∧ x.go ≤ 1099511627776
 pe0 : 0 ≤ x.pe
section
variable {j : Nat} {x : SV}
theorem SIn17.ok (h : SIn17 j x) (hj : j ≤ 1000000) : SOk x:=⟨h.len,h.bod,by have:=h.nx1; have:=h.n; omega,h.go0⟩
theorem SIn17.le (h : SIn17 j x) {k : Nat} (hk : j ≤ k) : SIn17 k x:=⟨h.len,h.bod,h.nx1,by have:=h.n; omega,h.go0,h.pe0⟩
theorem SIn17.push (h : SIn17 j x) (b : List UInt8) : SIn17 j (pushS x b):=by
 unfold pushS
 split
 case isFalse=>exact h
 case isTrue he =>
  unfold pushE at he
  split at he
  case isFalse=>omega
  case isTrue hb =>
   split at he
   case isTrue=>omega
   case isFalse h64 =>
    have hb2 : 1 ≤ b.length ∧ b.length ≤ 1000:=by
     unfold withinB at hb
     simp at hb
     omega
    refine ⟨by have:=h.len; simp; omega,fun c hc => ?_,h.nx1,h.n,h.go0,h.pe0⟩
    rcases List.mem_append.1 hc with hc | hc
    ·exact h.bod c hc
    ·rw [List.mem_singleton.1 hc]; exact hb2
theorem SIn17.ack (h : SIn17 j x) (a : Int) : SIn17 (j + 1) (ackS x a):=by
 have hk : ackK x.nx a x.q.length ≤ x.q.length:=Nat.min_le_left _ _
 have hl:=h.len
 refine ⟨?_,fun b hb=>h.bod b (List.mem_of_mem_drop hb), ?_, ?_,h.go0,h.pe0⟩
 ·show (x.q.drop _).length ≤ 64
  rw [List.length_drop]
  omega
 ·show 1 ≤ x.nx + _
  have:=h.nx1
  omega
 ·show x.nx + _ ≤ _
  have:=h.n
  omega
theorem SIn17.new (m p : Int) (hp : 0 ≤ p) : SIn17 0 ⟨m,p,1,0, []⟩:=⟨by simp,fun b hb=>by simp at hb,by show (1 : Int) ≤ 1; omega,by show (1 : Int) ≤ 1 + 64 * ((0 : Nat) : Int); omega,by show (0 : Int) ≤ 0 ∧ (0 : Int) ≤ 1099511627776; omega,hp⟩
theorem SIn17.s1 (h : SIn17 j x) (l : LV) : SIn17 j (tkS1 x l):=by
 unfold tkS1
 split
 ·rename_i hl
  exact (SIn17.new _ _ (by have:=h.pe0; omega)).le (by omega)
 ·exact h
theorem SIn17.take (h : SIn17 j x) (l : LV) : SIn17 (j + 1) (tkS x l):=by
 have h2 : SIn17 (j + 1) (tkS2 x l):=by
  unfold tkS2
  split
  ·exact (h.s1 l).ack _
  ·exact (h.s1 l).le (by omega)
 unfold tkS
 split
 case isFalse=>exact h.le (by omega)
 case isTrue hok =>
  split
  ·unfold tkOk at hok
   rw [Bool.and_eq_true] at hok
   have hs:=(ltR_parts hok.1).2.2.2.1
   exact ⟨h2.len,h2.bod,h2.nx1,h2.n,hs,h2.pe0⟩
  ·exact h2
end
structure KOk (j : Nat) (x : KV) : Prop where
 wf : WF x.t.C x.t.R
 ma : ∀ z r,x.t.R z = some r → 0 ≤ r.ma
 bt : 0 ≤ x.t.bt ∧ x.t.bt ≤ 4294967296
 sp : 1 ≤ x.sp ∧ x.sp ≤ 2147483648
 no : 0 ≤ x.no ∧ x.no ≤ 1099511627776
 s : ∀ i,i < 16 → SIn17 j (x.S i)
 b : x.bs.length ≤ x.rm
 m : x.rm ≤ 16777216
 sf : x.sf ≤ x.bs.length
theorem KOk.le {j k : Nat} {x : KV} (h : KOk j x) (hk : j ≤ k) : KOk k x:=⟨h.wf,h.ma,h.bt,h.sp,h.no,fun i hi=>(h.s i hi).le hk,h.b,h.m,h.sf⟩
theorem bcS_ma17 {t : TS17} {r : RcV17} (h : ∀ z u,t.R z = some u → 0 ≤ u.ma) (hr : r.k = 1 → 0 ≤ r.x.ma) : ∀ z u,(bcS17 t r).R z = some u → 0 ≤ u.ma:=by
 intro z u hz
 unfold bcS17 at hz
 split at hz
 ·rename_i hk
  simp only [doR] at hz
  split at hz
  ·unfold putR at hz
   split at hz
   ·injection hz with hz
    rw [← hz]
    exact hr hk
   ·exact h z u hz
  ·exact h z u hz
 ·split at hz
  ·exact h z u hz
  ·split at hz
   ·exact h z u hz
   ·split at hz <;> exact h z u hz
theorem rc_ok17 {t : TS17} {r : RcV17} (hw : WF t.C t.R) (hk : r.k = 1 ∨ r.k = 4 ∨ r.k = 5 ∨ (r.k = 6 ∧ 0 ≤ r.n ∧ r.n ≤ 4294967296)) (hma : r.k = 1 → 0 ≤ r.x.ma) (h : bcE17 t r = 0) : r.ok:=by
 unfold bcE17 at h
 rcases hk with e | e | e | e
 ·rw [if_pos e] at h
  exact .inl ⟨e,(wrong_zero h).1,hma e⟩
 ·rw [if_neg (by omega),if_pos e] at h
  refine .inr (.inr ⟨.inl e, ?_⟩)
  unfold addP at h
  split at h
  ·omega
  ·rename_i hh
   simp only [Bool.or_eq_true,decide_eq_true_eq] at hh
   omega
 ·rw [if_neg (by omega),if_neg (by omega),if_pos e] at h
  refine .inr (.inr ⟨.inr e, ?_⟩)
  unfold remP at h
  split at h
  ·omega
  ·rename_i hh
   exact hw.ch _ (by cases hc : t.C r.z with | true=>rfl | false=>exact absurd hc hh)
 ·exact .inr (.inl e)
theorem KOk.note {j : Nat} {x : KV} (h : KOk j x) (r : RcV17) (hma : r.k = 1 → 0 ≤ r.x.ma) (hbt : r.n ≤ 4294967296) : KOk j (noteK17 x r):=by
 unfold noteK17
 split
 ·have hp:=putB_le17 (b:=r.bs) h.b
  refine ⟨bcS_wf17 h.wf r,bcS_ma17 h.ma hma, ?_,h.sp,h.no,h.s,hp.1,h.m,Nat.le_refl _⟩
  show 0 ≤ (bcS17 x.t r).bt ∧ (bcS17 x.t r).bt ≤ 4294967296
  have:=h.bt
  unfold bcS17
  split
  ·exact h.bt
  ·split
   ·exact h.bt
   ·split
    ·exact h.bt
    ·split
     ·exact h.bt
     ·simp only; omega
 ·exact h
theorem KOk.put {j : Nat} {x : KV} (h : KOk j x) (r : RcV17) : KOk j (putK17 x r):=by
 unfold putK17
 split
 ·have hp:=putB_le17 (b:=r.bs) h.b
  exact ⟨h.wf,h.ma,h.bt,h.sp,h.no,h.s,hp.1,h.m,Nat.le_trans h.sf hp.2⟩
 ·exact h
theorem KOk.tell {j : Nat} {x : KV} (h : KOk j x) (r : RV) : KOk j (tellK17 x r):=by
 refine ⟨h.wf,h.ma,h.bt,h.sp,h.no,fun i hi => ?_,h.b,h.m,h.sf⟩
 show SIn17 j (if goes17 x i then pushS (x.S i) (rwM17 r) else x.S i)
 split
 ·exact (h.s i hi).push _
 ·exact h.s i hi
theorem KOk.chg {j : Nat} {x : KV} (h : KOk j x) (r : RV) (hma : 0 ≤ r.ma) : KOk j (chgK17 x r):=by
 unfold chgK17
 split
 ·exact (h.note (rowR17 r) (fun _=>hma) (by show (0 : Int) ≤ 4294967296; decide)).tell r
 ·exact h
theorem KOk.exps {j : Nat} : ∀ (l : List CV) {x : KV} (h : KOk j x) (hl : ∀ c ∈ l,0 ≤ c.r.ma),KOk j (expL17 x l)
 | [],_,h,_=>h
 | c :: l,_,h,hl=>KOk.exps l (h.chg c.r (hl c (by simp))) (fun d hd=>hl d (by simp [hd]))
theorem fin_ma17 {x : RV} (hx : 0 ≤ x.ma) {now : Int} {may : Bool} {a : RV × Int} (ha : a.2 = 0 → 0 ≤ a.1.ma) : 0 ≤ (fin9 x now may a).1.ma:=by
 unfold fin9
 split
 ·split
  ·rename_i h0
   unfold chk9
   split
   ·exact ha h0
   ·exact Int.le_refl 0
  ·exact Int.le_refl 0
 ·exact Int.le_refl 0
theorem en_ma17 {x : RV} (hx : 0 ≤ x.ma) (now : Int) : 0 ≤ (en9 x now).1.ma:=by
 unfold en9
 split
 ·refine fin_ma17 hx (fun _ => ?_)
  unfold coA arr9
  repeat' (first | exact hx | split)
 ·refine fin_ma17 hx (fun _ => ?_)
  unfold abA
  repeat' (first | exact hx | split)
theorem late_ma17 {R : Int → Option RV} (h : ∀ z r,R z = some r → 0 ≤ r.ma) (now span : Int) : ∀ c ∈ lateP R now span,0 ≤ c.r.ma:=by
 intro c hc
 unfold lateP at hc
 obtain ⟨x,hx,hl⟩:=List.mem_filterMap.1 hc
 unfold rowsP at hx
 obtain ⟨i,_,hi⟩:=List.mem_filterMap.1 hx
 have hm:=h _ _ hi
 unfold lateV at hl
 split at hl
 ·injection hl with hl
  rw [← hl]
  show 0 ≤ (lt9 x now span).1.ma
  unfold lt9
  split
  ·exact en_ma17 hm now
  ·exact hm
 ·cases hl
theorem KOk.exp {j : Nat} {x : KV} (h : KOk j x) : KOk j (expK17 x):=KOk.exps _ h (late_ma17 h.ma _ _)
section
variable {w w' : World} {lab : Nat → Nat} {n p : Nat} {s : SV}
theorem push17_any (h : Sn17 w lab n p s) (hq : s.q.length ≤ 64) (A : Option Addr) (m c : Nat) (b : List UInt8) (S : Nat → Prop) (hm : m = b.length) (hr : Rds w S A m (bcs b)) (hz : A = none → c = 0) (hm2 : m ≤ 9223372036854775807) :
  Calls Tryz.prog 127 #[.pointer (some ⟨p,0,none⟩), .slice A m c] w fun e w'=>e = .returned (int i64 (pushE s b)) ∧ ∃ lab',Sn17 w' lab' n p (pushS s b) ∧ Mv17 (fun k=>k = n) lab lab' w w' ∧ Lt17 lab' w':=by
 obtain ⟨o,G,hs,h1,h2,h3⟩:=h
 refine (spush_any p o G s A m c b S w hs hq hm hr hz hm2).mono ?_
 rintro e w' ⟨he,hsm⟩
 exact ⟨he,sn17_sm hs h1 h2 h3 hsm⟩
theorem peer17_any (h : Sn17 w lab n p s) : Calls Tryz.prog 158 #[.pointer (some ⟨p,0,none⟩)] w fun e w'=>e = .returned (int i64 s.pe) ∧ w = w':=by
 obtain ⟨o,G,hs,_⟩:=h
 exact speer_any p o G s w hs
theorem len17_any (h : Sn17 w lab n p s) : Calls Tryz.prog 124 #[.pointer (some ⟨p,0,none⟩)] w fun e w'=>e = .returned (int i64 (s.q.length : Int)) ∧ w = w':=by
 obtain ⟨o,G,hs,_⟩:=h
 exact slen_any p o G s w hs
end
theorem KP.ofq17 {N : Nat → Prop} {lab lab1 : Nat → Nat} {w w1 : World} {c ps ps' pj pf : Nat} {P : Nat → Nat} {x y : KV} (h : KP w lab c ps pj pf P x) (q : KQ w1 lab1 c ps' pj pf (pv17 P) y) (m : Mv17 N lab lab1 w w1) (hN : ∀ i, ¬ N (5 + i)) (h30 : ¬ N 30) (hs : y.S = x.S) : KP w1 lab1 c ps' pj pf P y :=
 ⟨q,fun i hi=>by rw [hs]; exact (h.ln i hi).mv m (hN i) h30⟩
theorem note_S17 (x : KV) (r : RcV17) : (noteK17 x r).S = x.S:=by unfold noteK17; split <;> rfl
theorem put_S17 (x : KV) (r : RcV17) : (putK17 x r).S = x.S:=by unfold putK17; split <;> rfl
end Go.Proofs.YtnojmbejedlilaaGreat
