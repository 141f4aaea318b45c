/-
  A controller that is new, and its file: what each call asks and leaves; what acts make of it, plain. Conditions: it lies in memory.
-/
import Derived.Test.YtnojmbejedlilaaGreatQCz
import Derived.Test.YtnojmbejedlilaaGreatQCp
import Derived.Test.YtnojmbejedlilaaGreatQCs
set_option linter.unusedVariables false
set_option linter.unusedSimpArgs false
namespace Go.Proofs.YtnojmbejedlilaaGreat
open Go.Value (int)
open Go.IntKind (i64)
open Go.RowKit
section
variable {G : Nat → Prop} {W w : World} {c pf : Nat} {x : KV} {j : Nat}
def ErL17 (G : Nat → Prop) (W : World) (c pf : Nat) (er : Int) (y : KV) (e : Ending) (w' : World) : Prop:=e = .returned (int i64 er) ∧ LV17 G W w' c pf y
theorem lv_do17 (hG : ∀ k,G k → k < W.heap.size) (h : LV17 G W w c pf x) (ho : KOk j x) (op po ch ma : Int) (hma : 0 ≤ ma) : Calls Tryz.prog 23 #[.pointer (some ⟨c,0,none⟩), .agg #[int i64 op,int i64 po,int i64 ch,int .u64 ma]] w fun e w'=>e = .returned (.tuple #[.agg (doK17 x op po ch ma).1.cs,int i64 (doK17 x op po ch ma).2.1]) ∧ LV17 G W w' c pf (doK17 x op po ch ma).2.2:=by
 obtain ⟨lab,ps,pj,P,h1,h2,h3⟩:=h
 refine (do17_any h1 ho op po ch ma hma).mono ?_
 rintro e w' ⟨ps',lab',rfl,hk,hm⟩
 exact ⟨rfl,lv_step17 hG h2 h3 hk hm⟩
theorem lv_take17 (hG : ∀ k,G k → k < W.heap.size) (h : LV17 G W w c pf x) (ho : KOk j x) (hj : j ≤ 100000) (ch : Int) (A : Option Addr) (n bc : Nat) (b : List UInt8) (hb : Bs17 w A n bc b) : Calls Tryz.prog 31 #[.pointer (some ⟨c,0,none⟩),int i64 ch, .slice A n bc] w fun e w'=>(∃ (A : Option Addr) (rc : Nat),e = .returned (.tuple #[.agg (msC (takeK17 x ch b).1.kd (takeK17 x ch b).1.po (takeK17 x ch b).1.ma (takeK17 x ch b).1.ow (takeK17 x ch b).1.ta (takeK17 x ch b).1.ol (takeK17 x ch b).1.ge (takeK17 x ch b).1.ph (takeK17 x ch b).1.ve (takeK17 x ch b).1.si (takeK17 x ch b).1.pt (takeK17 x ch b).1.vr A (takeK17 x ch b).1.l.length rc),int i64 (takeK17 x ch b).2.1])) ∧ LV17 G W w' c pf (takeK17 x ch b).2.2:=by
 obtain ⟨lab,ps,pj,P,h1,h2,h3⟩:=h
 refine (take17_any h1 ho hj ch A n bc b _ hb.2.1 hb.2.2.2 hb.1 hb.2.2.1).mono ?_
 rintro e w' ⟨ps',lab',A',rc,rfl,hr,hk,hm⟩
 exact ⟨⟨A',rc,rfl⟩,lv_step17 hG h2 h3 hk hm⟩
theorem lv_tick17 (hG : ∀ k,G k → k < W.heap.size) (h : LV17 G W w c pf x) (ho : KOk j x) (now : Int) : Calls Tryz.prog 33 #[.pointer (some ⟨c,0,none⟩),int i64 now] w (ErL17 G W c pf (tickK17 x now).1 (tickK17 x now).2):=by
 obtain ⟨lab,ps,pj,P,h1,h2,h3⟩:=h
 refine (tick17_any h1 ho now).mono ?_
 rintro e w' ⟨ps',lab',rfl,hk,hm⟩
 exact ⟨rfl,lv_step17 hG h2 h3 hk hm⟩
theorem lv_half17 (hG : ∀ k,G k → k < W.heap.size) (h : LV17 G W w c pf x) (ho : KOk j x) (op po ch ma : Int) (hma : 0 ≤ ma) : Calls Tryz.prog 24 #[.pointer (some ⟨c,0,none⟩), .agg #[int i64 op,int i64 po,int i64 ch,int .u64 ma]] w (ErL17 G W c pf (halfK17 x op po ch ma).1 (halfK17 x op po ch ma).2):=by
 obtain ⟨lab,ps,pj,P,h1,h2,h3⟩:=h
 refine (half17_any h1 ho op po ch ma hma).mono ?_
 rintro e w' ⟨ps',lab',rfl,hk,hm⟩
 exact ⟨rfl,lv_step17 hG h2 h3 hk hm⟩
def RwP17 (l : List RV) (w : World) (e : Ending) (w' : World) : Prop := ∃ A n d,e = .returned (.slice A n d) ∧ n = l.length ∧ SR 9 RV.cs w' (fun k=>w.heap.size ≤ k ∧ k < w'.heap.size) A n l ∧ Chg (fun _=>False) w w'
theorem lv_rows17 (h : LV17 G W w c pf x) : Calls Tryz.prog 21 #[.pointer (some ⟨c,0,none⟩)] w (RwP17 (rowsP x.t.R) w):=by
 obtain ⟨lab,ps,pj,P,h1,h2,h3⟩:=h
 refine (crows17_any h1).mono ?_
 rintro e w' ⟨A,n,d,rfl,hn,ho,hc⟩
 exact ⟨A,n,d,rfl,hn,own_sr rv_size ho hn,hc⟩
theorem lv_chas17 (h : LV17 G W w c pf x) : Calls Tryz.prog 22 #[.pointer (some ⟨c,0,none⟩)] w (NumP (chasP x.t.C) w):=by
 obtain ⟨lab,ps,pj,P,h1,h2,h3⟩:=h
 exact cchas17_any h1
theorem lv_boot17 (h : LV17 G W w c pf x) : Calls Tryz.prog 28 #[.pointer (some ⟨c,0,none⟩)] w fun e w'=>e = .returned (int i64 x.t.bt) ∧ w = w':=by
 obtain ⟨lab,ps,pj,P,h1,h2,h3⟩:=h
 exact cboot17_any h1
theorem lv_crash17 (hG : ∀ k,G k → k < W.heap.size) (h : LV17 G W w c pf x) (ho : KOk j x) (keep : Int) : Calls Tryz.prog 25 #[.pointer (some ⟨pf,0,none⟩),int i64 keep] w fun e w'=>(∃ n : Int,e = .returned (int i64 n)) ∧ DG17 G W pf (crB17 x keep) (crN x.bs x.sf keep) x.rm w':=by
 obtain ⟨h1,h2,o,h3,h4⟩:=h.file
 refine (dcrash_any pf o x.bs x.sf x.rm keep w h3 ho.sf ho.b ho.m).mono ?_
 rintro e w' ⟨rfl,hf,hm⟩
 exact ⟨⟨_,rfl⟩,dg_set17 hG h1 h2 h4 hf hm⟩
theorem cr_len17 (ho : KOk j x) (keep : Int) : crN x.bs x.sf keep = (crB17 x keep).length ∧ (crB17 x keep).length ≤ x.rm:=by
 have h1:=ho.sf
 have h2:=ho.b
 have h3 : crN x.bs x.sf keep ≤ x.bs.length:=by unfold crN; omega
 unfold crB17
 rw [List.length_take]
 omega
theorem lv_open17 (hG : ∀ k,G k → k < W.heap.size) {y : KV} {keep : Int} (h : DG17 G W pf (crB17 y keep) (crN y.bs y.sf keep) y.rm w) (ho : KOk j y) {sp no : Int} (he : reE17 y keep sp no = 0) : Calls Tryz.prog 18 #[.pointer (some ⟨pf,0,none⟩),int i64 sp,int i64 no] w fun e w' => ∃ c,e = .returned (.tuple #[.pointer (some ⟨c,0,none⟩),int i64 0]) ∧ LV17 G W w' c pf (reK17 y keep sp no):=by
 have hl:=cr_len17 ho keep
 refine (open17_any G W hG pf _ _ y.rm sp no w h hl.2 ho.m (by omega)).mono ?_
 rintro e w' ⟨pv,rfl,h1,h2⟩
 have he2 : opnE17 (crB17 y keep) (crN y.bs y.sf keep) y.rm sp no = 0:=he
 obtain ⟨c,rfl,g1,g2⟩:=h1 he2
 exact ⟨c,by rw [he2],g1⟩
end
def drN17 (no : Int) (a : At17) : Int:=max no (min a.now 1099511627776)
def drv17 (sp : Int) (p : KV × Int) (a : At17) : KV × Int :=
 if a.k % 16 < 7 then ((doK17 p.1 a.op a.po a.ch a.ma).2.2,p.2) else if a.k % 16 < 13 then ((takeK17 p.1 a.who a.b).2.2,p.2)
 else if a.k % 16 = 13 then ((tickK17 p.1 (drN17 p.2 a)).2,drN17 p.2 a)
 else if a.k % 16 = 14 then (reK17 (halfK17 p.1 a.op a.po a.ch a.ma).2 a.keep sp p.2,p.2) else (reK17 p.1 0 sp p.2,p.2)
theorem in_drv17 {n : Nat} {sp : Int} {p : KV × Int} (h : In17 n n p.1) (hn : n ≤ 1000) (hsp : 1 ≤ sp ∧ sp ≤ 2147483648) (hno : 0 ≤ p.2 ∧ p.2 ≤ 1099511627776) (a : At17) (hma : 0 ≤ a.ma) : In17 (n + 3) (n + 3) (drv17 sp p a).1 ∧ (0 ≤ (drv17 sp p a).2 ∧ (drv17 sp p a).2 ≤ 1099511627776) ∧ Ri17 p.1.t (drv17 sp p a).1.t:=by
 have up : ∀ {m : Nat} {y : KV},In17 m m y → m ≤ n + 3 → In17 (n + 3) (n + 3) y:=fun g e=>⟨g.ok.le e,g.fi,g.rm,g.st,by have:=g.pot; omega,by have:=g.bt; omega⟩
 have up0 : ∀ {m : Nat} {y : KV},In17 0 m y → m ≤ n + 3 → In17 (n + 3) (n + 3) y:=fun g e=>⟨g.ok.le (by omega),g.fi,g.rm,g.st,by have:=g.pot; omega,by have:=g.bt; omega⟩
 have step : ∀ {m j' : Nat} {y : KV},Go17 m p.1 y → m ≤ 2 → KOk j' y → j' ≤ n + 3 → In17 (n + 3) (n + 3) y:=fun g e ho hj=>⟨ho.le hj,g.f h.fi,g.r.trans h.rm,g.s.trans h.st,by have h1:=h.pot; have h2:=g.p; omega,by have h1:=h.bt; have h2:=g.b; omega⟩
 unfold drv17
 by_cases h1 : a.k % 16 < 7
 ·rw [if_pos h1]
  have g:=go_do17 h.ok a.op a.po a.ch hma
  exact ⟨step g (by omega) (h.ok.do_ a.op a.po a.ch hma) (by omega),hno,g.t⟩
 ·rw [if_neg h1]
  by_cases h2 : a.k % 16 < 13
  ·rw [if_pos h2]
   have g:=go_take17 h.ok a.who a.b
   exact ⟨step g (by omega) (h.ok.take a.who a.b) (by omega),hno,g.t⟩
  ·rw [if_neg h2]
   by_cases h3 : a.k % 16 = 13
   ·rw [if_pos h3]
    have g:=go_tick17 h.ok (drN17 p.2 a)
    exact ⟨step g (by omega) (h.ok.tick _) (by omega),by show 0 ≤ drN17 p.2 a ∧ drN17 p.2 a ≤ 1099511627776; unfold drN17; omega,g.t⟩
   ·rw [if_neg h3]
    by_cases h4 : a.k % 16 = 14
    ·rw [if_pos h4]
     obtain ⟨a1,a2,a3,a4⟩:=in_half17 h hn a.op a.po a.ch hma a.keep hsp hno
     exact ⟨up0 a2 (by omega),hno,a3⟩
    ·rw [if_neg h4]
     obtain ⟨a1,a2,a3,a4⟩:=in_open17 h hn 0 hsp hno
     exact ⟨up0 a2 (by omega),hno,a3⟩
end Go.Proofs.YtnojmbejedlilaaGreat
