/-
  A controller, its file, and what a walk put next to them: each call by a contract. Conditions: they lie in memory, apart.
-/
import Derived.Test.YtnojmbejedlilaaGreatQIt
set_option linter.unusedVariables false
set_option linter.unusedSimpArgs false
namespace Go.Proofs.YtnojmbejedlilaaGreat
open Go.Value (int)
open Go.IntKind (i64)
open Go.RowKit
abbrev Bx17:=List (Nat × TypeId × Array Value)
def Bs_17 (G : Nat → Prop) (w0 Wb : World) (bl : Bx17) : Prop:=(∀ k,G k → k < Wb.heap.size) ∧ (∀ w',Chg (fun k => ¬ G k) Wb w' → Chg (fun _=>False) w0 w') ∧ ∀ b ∈ bl,G b.1 ∧ Blk Wb b.1 b.2.1 b.2.2
def AL17 (w0 w : World) (c pf : Nat) (x : KV) (bl : Bx17) : Prop := ∃ (G : Nat → Prop) (Wb : World),LV17 G Wb w c pf x ∧ Bs_17 G w0 Wb bl
def AF17 (w0 w : World) (pf : Nat) (bs : List UInt8) (sf rm : Nat) (bl : Bx17) : Prop := ∃ (G : Nat → Prop) (Wb : World),DG17 G Wb pf bs sf rm w ∧ Bs_17 G w0 Wb bl
section
variable {w0 w : World} {c pf : Nat} {x : KV} {bl : Bx17} {j : Nat}
theorem AL17.was (h : AL17 w0 w c pf x bl) : Chg (fun _=>False) w0 w:=by
 obtain ⟨G,Wb,h1,h2,h3,h4⟩:=h
 exact h3 _ h1.was
theorem AL17.new {w' : World} (h : AL17 w0 w c pf x bl) (hc : Chg (fun _=>False) w w') : AL17 w0 w' c pf x bl:=by
 obtain ⟨G,Wb,h1,h2⟩:=h
 exact ⟨G,Wb,h1.new hc,h2⟩
theorem AL17.blk (h : AL17 w0 w c pf x bl) {b : Nat × TypeId × Array Value} (hb : b ∈ bl) : Blk w b.1 b.2.1 b.2.2:=by
 obtain ⟨G,Wb,h1,h2,h3,h4⟩:=h
 exact blk_keep17 (h4 b hb).2 h1.was (h4 b hb).1
theorem AL17.box (h : AL17 w0 w c pf x bl) (T : TypeId) (cs : Array Value) : AL17 w0 (w.alloc (.cells cs T)) c pf x ((w.heap.size,T,cs) :: bl):=by
 obtain ⟨G,Wb,h1,h2,h3,h4⟩:=h
 have hc:=(Chg.refl (fun _=>False) w).alloc (.cells cs T)
 have hn : Blk (w.alloc (.cells cs T)) w.heap.size T cs:=blk_new rfl
 have hlt:=hn.lt
 have hw : Chg (fun k => ¬ G k) Wb (w.alloc (.cells cs T)):=h1.was.trans hc (fun _ _ e=>False.elim e)
 refine ⟨fun k=>G k ∨ k = w.heap.size,w.alloc (.cells cs T),h1.more (fun k=>k = w.heap.size) hc (fun k e=>by omega),fun k e => ?_,fun w' e=>h3 _ (hw.trans e (fun i _ e2 g=>e2 (.inl g))),fun b hb => ?_⟩
 ·have:=hw.size
  rcases e with e | e
  ·have:=h2 k e; omega
  ·omega
 ·rcases List.mem_cons.1 hb with rfl | hb
  ·exact ⟨.inr rfl,hn⟩
  ·exact ⟨.inl (h4 b hb).1,blk_keep17 (h4 b hb).2 hw (h4 b hb).1⟩
theorem al_do17 (h : AL17 w0 w c pf x bl) (ho : KOk j x) (op po ch ma : Int) (hma : 0 ≤ ma) : Calls Tryz.prog 23 #[.pointer (some ⟨c,0,none⟩), .agg #[int i64 op,int i64 po,int i64 ch,int .u64 ma]] w fun e w'=>e = .returned (.tuple #[.agg (doK17 x op po ch ma).1.cs,int i64 (doK17 x op po ch ma).2.1]) ∧ AL17 w0 w' c pf (doK17 x op po ch ma).2.2 bl:=by
 obtain ⟨G,Wb,h1,h2⟩:=h
 refine (lv_do17 h2.1 h1 ho op po ch ma hma).mono ?_
 rintro e w' ⟨rfl,hk⟩
 exact ⟨rfl,G,Wb,hk,h2⟩
theorem al_take17 (h : AL17 w0 w c pf x bl) (ho : KOk j x) (hj : j ≤ 100000) (ch : Int) (A : Option Addr) (n bc : Nat) (b : List UInt8) (hb : Bs17 w A n bc b) : Calls Tryz.prog 31 #[.pointer (some ⟨c,0,none⟩),int i64 ch, .slice A n bc] w fun e w'=>(∃ (A : Option Addr) (rc : Nat),e = .returned (.tuple #[.agg (msC (takeK17 x ch b).1.kd (takeK17 x ch b).1.po (takeK17 x ch b).1.ma (takeK17 x ch b).1.ow (takeK17 x ch b).1.ta (takeK17 x ch b).1.ol (takeK17 x ch b).1.ge (takeK17 x ch b).1.ph (takeK17 x ch b).1.ve (takeK17 x ch b).1.si (takeK17 x ch b).1.pt (takeK17 x ch b).1.vr A (takeK17 x ch b).1.l.length rc),int i64 (takeK17 x ch b).2.1])) ∧ AL17 w0 w' c pf (takeK17 x ch b).2.2 bl:=by
 obtain ⟨G,Wb,h1,h2⟩:=h
 refine (lv_take17 h2.1 h1 ho hj ch A n bc b hb).mono ?_
 rintro e w' ⟨he,hk⟩
 exact ⟨he,G,Wb,hk,h2⟩
theorem al_tick17 (h : AL17 w0 w c pf x bl) (ho : KOk j x) (now : Int) : Calls Tryz.prog 33 #[.pointer (some ⟨c,0,none⟩),int i64 now] w fun e w'=>e = .returned (int i64 (tickK17 x now).1) ∧ AL17 w0 w' c pf (tickK17 x now).2 bl:=by
 obtain ⟨G,Wb,h1,h2⟩:=h
 refine (lv_tick17 h2.1 h1 ho now).mono ?_
 rintro e w' ⟨rfl,hk⟩
 exact ⟨rfl,G,Wb,hk,h2⟩
theorem al_half17 (h : AL17 w0 w c pf x bl) (ho : KOk j x) (op po ch ma : Int) (hma : 0 ≤ ma) : Calls Tryz.prog 24 #[.pointer (some ⟨c,0,none⟩), .agg #[int i64 op,int i64 po,int i64 ch,int .u64 ma]] w fun e w'=>e = .returned (int i64 (halfK17 x op po ch ma).1) ∧ AL17 w0 w' c pf (halfK17 x op po ch ma).2 bl:=by
 obtain ⟨G,Wb,h1,h2⟩:=h
 refine (lv_half17 h2.1 h1 ho op po ch ma hma).mono ?_
 rintro e w' ⟨rfl,hk⟩
 exact ⟨rfl,G,Wb,hk,h2⟩
theorem al_chas17 (h : AL17 w0 w c pf x bl) : Calls Tryz.prog 22 #[.pointer (some ⟨c,0,none⟩)] w (NumP (chasP x.t.C) w):=by
 obtain ⟨G,Wb,h1,h2⟩:=h
 exact lv_chas17 h1
theorem al_rows17 (h : AL17 w0 w c pf x bl) : Calls Tryz.prog 21 #[.pointer (some ⟨c,0,none⟩)] w (RwP17 (rowsP x.t.R) w):=by
 obtain ⟨G,Wb,h1,h2⟩:=h
 exact lv_rows17 h1
theorem al_boot17 (h : AL17 w0 w c pf x bl) : Calls Tryz.prog 28 #[.pointer (some ⟨c,0,none⟩)] w fun e w'=>e = .returned (int i64 x.t.bt) ∧ w = w':=by
 obtain ⟨G,Wb,h1,h2⟩:=h
 exact lv_boot17 h1
theorem al_crash17 (h : AL17 w0 w c pf x bl) (ho : KOk j x) (keep : Int) : Calls Tryz.prog 25 #[.pointer (some ⟨pf,0,none⟩),int i64 keep] w fun e w'=>(∃ n : Int,e = .returned (int i64 n)) ∧ AF17 w0 w' pf (crB17 x keep) (crN x.bs x.sf keep) x.rm bl:=by
 obtain ⟨G,Wb,h1,h2⟩:=h
 refine (lv_crash17 h2.1 h1 ho keep).mono ?_
 rintro e w' ⟨he,hk⟩
 exact ⟨he,G,Wb,hk,h2⟩
theorem al_open17 {y : KV} {keep : Int} (h : AF17 w0 w pf (crB17 y keep) (crN y.bs y.sf keep) y.rm bl) (ho : KOk j y) {sp no : Int} (he : reE17 y keep sp no = 0) : Calls Tryz.prog 18 #[.pointer (some ⟨pf,0,none⟩),int i64 sp,int i64 no] w fun e w' => ∃ c,e = .returned (.tuple #[.pointer (some ⟨c,0,none⟩),int i64 0]) ∧ AL17 w0 w' c pf (reK17 y keep sp no) bl:=by
 obtain ⟨G,Wb,h1,h2⟩:=h
 refine (lv_open17 h2.1 h1 ho he).mono ?_
 rintro e w' ⟨c,rfl,hk⟩
 exact ⟨c,rfl,G,Wb,hk,h2⟩
theorem af_new17 (hc : Chg (fun _=>False) w0 w) : Calls Tryz.prog 8 #[int i64 65536] w fun e w' => ∃ pf,e = .returned (.tuple #[.pointer (some ⟨pf,0,none⟩),int i64 0]) ∧ AF17 w0 w' pf [] 0 65536 []:=by
 refine Calls.mono (da_new (W:=w) 65536 (by decide)) ?_
 rintro e w' ⟨rfl,h1,h2,o,h3,h4⟩
 exact ⟨_,rfl,fun k=>k < w.heap.size,w,⟨h1.mono (fun _ _ e=>False.elim e),by omega,o,h3,fun k hk e=>by have:=h4 k hk; omega⟩,fun k e=>e,fun w' e=>hc.trans (e.mono (S':=fun _=>False) (fun k hk e2=>e2 hk)) (fun _ _ e=>e),fun b hb=>by cases hb⟩
theorem af_open17 (h : AF17 w0 w pf [] 0 65536 bl) {sp no : Int} (he : opnE17 [] 0 65536 sp no = 0) : Calls Tryz.prog 18 #[.pointer (some ⟨pf,0,none⟩),int i64 sp,int i64 no] w fun e w' => ∃ c,e = .returned (.tuple #[.pointer (some ⟨c,0,none⟩),int i64 0]) ∧ AL17 w0 w' c pf (opnK17 [] 0 65536 sp no) bl:=by
 obtain ⟨G,Wb,h1,h2⟩:=h
 refine (open17_any G Wb h2.1 pf [] 0 65536 sp no w h1 (by decide) (by decide) (by decide)).mono ?_
 rintro e w' ⟨pv,rfl,g1,g2⟩
 obtain ⟨c,rfl,g3,g4⟩:=g1 he
 exact ⟨c,by rw [he],G,Wb,g3,h2⟩
theorem AF17.new {w' : World} {bs : List UInt8} {sf rm : Nat} (h : AF17 w0 w pf bs sf rm bl) (hc : Chg (fun _=>False) w w') : AF17 w0 w' pf bs sf rm bl:=by
 obtain ⟨G,Wb,h1,h2⟩:=h
 exact ⟨G,Wb,h1.new hc,h2⟩
end
end Go.Proofs.YtnojmbejedlilaaGreat
