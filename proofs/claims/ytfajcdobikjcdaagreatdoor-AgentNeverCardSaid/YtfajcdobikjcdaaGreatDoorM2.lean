/-
  Walks: the document's writer: (*rutterref01.Writer).Put, Puts, Bytes, Done. Conditions: the receiver is such a writer in memory, its bytes are bounded.
-/
import Derived.Test.YtfajcdobikjcdaaGreatDoorM1
import Derived.Deep.RegionHeld3
import Derived.Deep.DeepCutAuto
import Derived.Carry
import Derived.MapKept
import Derived.ChangeMaps4
import Derived.ChangeMaps5
import Derived.LoopTactic
set_option maxRecDepth 100000
set_option maxHeartbeats 40000000
set_option linter.unusedVariables false
set_option linter.unusedSimpArgs false
section
namespace Go.Proofs.YtfajcdobikjcdaaGreatDoor
open Go.Value (int)
open Go.IntKind (i64)
open Go.RowKit
def rput1 (n : Int) (st : Option (List UInt8)) (x : Int) : Option (List UInt8):=if fitsR n x then st.map (· ++ be n.toNat x.toNat) else none
theorem wr_flag {T e : TypeId} {w : World} {p : Nat} {o : Option Nat} {st : Option (List UInt8)} {N : Nat} (h : Wr T e w p o st N) :
  Wr T e (w.setCell ⟨p,1,none⟩ (.bool true)) p o none N ∧ Mvd p o o w (w.setCell ⟨p,1,none⟩ (.bool true)):=by
 obtain ⟨bs,f,A,c,hob,hN,_⟩:=h
 have hb : Blk w p T _:=hob.blk
 have hc:=(Chg.refl (fun k=>k = p) w).put p 1 (fun _=>rfl) (.bool true)
 refine ⟨⟨bs,true,A,c,⟨hb.set 1 _,own_chg hob.own hc (fun k hk e => ?_),hob.at_,hob.ne⟩,hN,rfl⟩,hc.mono (fun _ _ e => .inl e), .inl rfl⟩
 subst e
 rw [hob.at_] at hk
 exact hob.ne hk
theorem rput_no (p : Nat) (o : Option Nat) (st : Option (List UInt8)) (N : Nat) (n x : Int) (w : World) (h : Wr 126 5 w p o st N) (hx : x ≤ 9223372036854775807) (hf : fitsR n x = false) :
  Calls Tryz.prog 46 #[.pointer (some ⟨p,0,none⟩),int i64 n,int i64 x] w fun e w'=>e = .returned (.tuple #[]) ∧
   Wr 126 5 w' p o none N ∧ Mvd p o o w w':=by
 have hres:=wr_flag h
 have HR:=hd_ hres
 have hfit:=rfits_any n x w hx
 rw [hf] at hfit
 have HF:=hd_ hfit
 obtain ⟨bs,f,A,c,hob,hN,_⟩:=h
 have hb : Blk w p _ _:=hob.blk
 have c1:=hb.cell 1
 have f1:=hb.frozen 1
 simp only [List.getElem?_toArray,List.getElem?_cons_zero,List.getElem?_cons_succ] at c1
 clear hres hfit hf hob
 go_enter Tryz.func46,Tryz.ntmps46
 go_wp2_with fail
 refine HF.out.mono ?_
 rintro e w1 ⟨rfl,rfl⟩
 go_wp2_with fail
 refine bodyPost_ret (results_none rfl _ _ _) rfl ?_
 exact ⟨rfl,HR.out.1,HR.out.2⟩
theorem rput_yes (p : Nat) (o : Option Nat) (st : Option (List UInt8)) (N : Nat) (n : Nat) (x : Int) (w : World) (h : Wr 126 5 w p o st N) (hx0 : 0 ≤ x) (hx : x ≤ 9223372036854775807) (h1 : 1 ≤ n) (h8 : n ≤ 8) (hf : fitsR (n : Int) x = true) (hN2 : N + 8 ≤ 1000000000000) :
  Calls Tryz.prog 46 #[.pointer (some ⟨p,0,none⟩),int i64 n,int i64 x] w fun e w'=>e = .returned (.tuple #[]) ∧
   ∃ o',Wr 126 5 w' p o' (st.map (· ++ be n x.toNat)) (N + 8) ∧ Mvd p o o' w w':=by
 obtain ⟨i0,hi0,hz0,hz1,hz2⟩:=info_parts infoByte
 have hfit:=rfits_any n x w hx
 rw [hf] at hfit
 have HF:=hd_ hfit
 have hone:=one_any n x w.drew h1 h8 hx0
 have HO:=hd_ hone
 obtain ⟨bs,f,A,c,hob,hN,hst⟩:=h
 have hb : Blk w p _ _:=hob.blk
 have hplt:=hb.lt
 have hne2 : (Value.slice A bs.length c).ownBlock ≠ some p:=by rw [own_block,hob.at_]; exact hob.ne
 have c0:=hb.cell 0
 have c1:=hb.cell 1
 have f0:=hb.frozen 0
 simp only [List.getElem?_toArray,List.getElem?_cons_zero,List.getElem?_cons_succ] at c0 c1
 have hNl : bs.length ≤ 1000000000000:=by omega
 have HST:=hd_ hst
 clear hfit hf hst hone
 go_enter Tryz.func46,Tryz.ntmps46
 go_wp2_with fail
 refine HF.out.mono ?_
 rintro e w1 ⟨rfl,rfl⟩
 clear HF
 go_wp2_with fail
 go_region_law (first
  | (refine step_own_append _ rfl (.tmp 19) (.tmp 22) 31 rfl 0 5 i0 (int .u8 0) 1 Tryz.underlying31 hi0 hz0 hz1 hz2 rfl (.slice A bs.length c) bs.length (bcs bs) rfl (own_chg hob.own hC2 (fun _ _=>id)) _ A2 k2 c2 (bcs (be n x.toNat)) rfl (own_rds2 hown2) (bcs_one _) (by unfold maxLen; omega) (by omega) (Nat.zero_le _) ?_; intro v' w3 hown3 hg3 hat3; obtain ⟨A3,c3,rfl,_,_⟩:=own_form hown3; have hb3:=blk_grown (hb.chg hC2 id) hg3 hne2; have z0:=hb3.cell 0; have z1:=hb3.frozen 0; simp only [List.getElem?_toArray,List.getElem?_cons_zero] at z0)
  | (go_simp; go_at_call 73; refine HO.out.mono ?_; rintro e w2 ⟨A2,k2,c2,rfl,hk2,hown2,hC20⟩; have hC2:=(Chg.refl (fun _=>False) w).drew.trans hC20 (fun _ _ e=>e); clear hC20; have HK2:=hd_ hk2; have hk8 : k2 ≤ 8:=(by omega); clear hk2; have y0:=(hb.chg hC2 id).cell 0; simp only [List.getElem?_toArray,List.getElem?_cons_zero] at y0))
 all_goals
  go_end0
  obtain ⟨hob3,hm3⟩:=ob_grown hob hC2 (be n x.toNat) rfl (by rw [be_len]; exact HK2.out) hown3 hg3 hat3
  refine ⟨rfl,_,⟨bs ++ be n x.toNat,f,A3,c3,hob3,by rw [List.length_append,be_len]; omega, ?_⟩,hm3⟩
  have hst:=HST.out
  rcases st with _ | b1
  ·exact hst
  ·obtain ⟨hf1,rfl⟩ : f = false ∧ b1 = bs:=hst
   exact ⟨hf1,rfl⟩
theorem rput_any (p : Nat) (o : Option Nat) (st : Option (List UInt8)) (N : Nat) (n x : Int) (w : World) (h : Wr 126 5 w p o st N) (hx : x ≤ 9223372036854775807) (hN2 : N + 8 ≤ 1000000000000) :
    Calls Tryz.prog 46 #[.pointer (some ⟨p, 0, none⟩), .int .i64 n, .int .i64 x] w fun e w' => e = .returned (.tuple #[]) ∧
      ∃ o', Wr 126 5 w' p o' (rput1 n st x) (N + 8) ∧ Mvd p o o' w w' := by
  by_cases hf : fitsR n x = true
  · have hn : 1 ≤ n ∧ n ≤ 8 ∧ 0 ≤ x := by
      unfold fitsR fits at hf
      simp only [Bool.and_eq_true, decide_eq_true_eq] at hf
      exact ⟨hf.1.1, hf.1.2, hf.2.1⟩
    obtain ⟨q, rfl⟩ := Int.eq_ofNat_of_zero_le (show 0 ≤ n by omega)
    have e : rput1 (q : Int) st x = st.map (· ++ be q x.toNat) := by unfold rput1; rw [if_pos hf, Int.toNat_natCast]
    rw [e]
    exact rput_yes p o st N q x w h hn.2.2 hx (by omega) (by omega) hf hN2
  · have hf' : fitsR n x = false := by simpa using hf
    have e : rput1 n st x = none := by unfold rput1; rw [hf']; rfl
    rw [e]
    exact (rput_no p o st N n x w h hx hf').mono fun _ _ ⟨he, hr, hm⟩ => ⟨he, o, hr.more (by omega), hm⟩
theorem encode_bad (d s t : Int) (A : Option Addr) (n c : Nat) (w : World) (hd : 0 ≤ d) (hs : 0 ≤ s) (hn : n ≤ 9223372036854775807) (hr : rightB d s t n = false) :
  Calls Tryz.prog 62 #[.agg #[int .u64 d,int .u64 s,int i64 t, .slice A n c]] w fun e w'=>e = .returned (.tuple #[.slice none 0 0,int i64 1]) ∧ Chg (fun _=>False) w w':=by
 have HR:=hd_ hr
 clear hr
 go_enter Tryz.func62,Tryz.ntmps62
 go_wp2_with fail
 refine (right_any d s t A n c _ hd hs hn).mono ?_
 rw [HR.out]
 rintro e w' ⟨rfl,hc⟩
 go_wp2_with fail
 go_ret2
 exact ⟨rfl,((Chg.refl _ w).alloc _).trans hc (fun _ _ e=>e)⟩
def P1 (d s : Int) (p : Nat) (w1 W w' : World) : Prop := ∃ o,Wr 166 5 w' p o (some (be 6 d.toNat ++ be 6 s.toNat)) 16 ∧ Mvd p none o W w' ∧ Chg (fun _=>False) w1 w' ∧ w1.heap.size ≤ p ∧ (∀ k,o = some k → w1.heap.size ≤ k) ∧ Blk W p 166 #[.slice none 0 0, .bool false]
def P2 (d s t : Int) (p : Nat) (w1 w' : World) : Prop := ∃ o,Wr 166 5 w' p o (some (be 6 d.toNat ++ be 6 s.toNat ++ be 2 t.toNat)) 24 ∧ Chg (fun _=>False) w1 w'
theorem P1.keep {d s : Int} {p : Nat} {w1 W w' : World} (h : P1 d s p w1 W w') {g : Nat} {cs : Array Value} (hb : Blk W g 3 cs) : Blk w' g 3 cs:=by
 obtain ⟨o,_,hm,_,_,_,hp⟩:=h
 refine hb.chg hm.1 ?_
 rintro (rfl | e)
 ·have h:=hp.symm.trans hb
  simp at h
 ·cases e
theorem P1.chg {d s : Int} {p : Nat} {w1 W w' : World} (h : P1 d s p w1 W w') : Chg (fun _=>False) w1 w':=by
 obtain ⟨o,_,_,hc,_⟩:=h
 exact hc
theorem P2.chg {d s t : Int} {p : Nat} {w1 w' : World} (h : P2 d s t p w1 w') : Chg (fun _=>False) w1 w':=by
 obtain ⟨o,_,hc⟩:=h
 exact hc
theorem box_cells {w1 w' : World} {g : Nat} {d s t : Int} {v : Value} (hb : Blk w1 g 34 #[int .u64 d,int .u64 s,int i64 t,v]) (h : Chg (fun _=>False) w1 w') :
  w'.cell? ⟨g,0,none⟩ = some (int .u64 d) ∧ w'.cell? ⟨g,1,none⟩ = some (int .u64 s) ∧ w'.cell? ⟨g,2,none⟩ = some (int i64 t):=by
 have hb1:=hb.chg h id
 have x0:=hb1.cell 0
 have x1:=hb1.cell 1
 have x2:=hb1.cell 2
 simp only [List.getElem?_toArray,List.getElem?_cons_zero,List.getElem?_cons_succ] at x0 x1 x2
 exact ⟨x0,x1,x2⟩
theorem fits6 {x : Int} (h1 : 0 ≤ x) (h2 : x ≤ 281474976710655) : fits 6 x = true:=by
 unfold fits
 simp only [Bool.and_eq_true,decide_eq_true_eq]
 exact ⟨h1,by omega⟩
theorem fits2 {x : Int} (h1 : 0 ≤ x) (h2 : x ≤ 65535) : fits 2 x = true:=by
 unfold fits
 simp only [Bool.and_eq_true,decide_eq_true_eq]
 exact ⟨h1,by omega⟩
theorem enc_put1 (p q : Nat) (d s : Int) (w1 W : World) (hd : 0 ≤ d) (hd2 : d ≤ 281474976710655) (hs : 0 ≤ s) (hs2 : s ≤ 281474976710655) (hC : Chg (fun _=>False) w1 W) (hpw : w1.heap.size ≤ p) (hp : Blk W p 166 #[.slice none 0 0, .bool false]) (hq : Blk W q 3 #[int i64 d,int i64 s]) :
  Calls Tryz.prog 76 #[.pointer (some ⟨p,0,none⟩),int i64 6, .slice (some ⟨q,0,none⟩) 2 2] W fun e w'=>e = .returned (.pointer (some ⟨p,0,none⟩)) ∧ P1 d s p w1 W w':=by
 have hpq : q ≠ p:=by
  rintro rfl
  have h:=hp.symm.trans hq
  simp at h
 have hw : Wr 166 5 W p none (some []) 0:=⟨[],false,none,0,⟨hp,World.ownsRow_nil _ 0 _ 1,rfl,by simp⟩,Nat.le_refl _,rfl,rfl⟩
 have h:=put_any p none (some []) 0 6 [d,s] (some ⟨q,0,none⟩) 2 2 W (fun k=>k = q) hw rfl hq.rds (fun k hk=>⟨by rw [hk]; exact hpq,by simp⟩) (by simp; omega) (by decide)
 have e : putS 6 [d,s] (some []) = some (be 6 d.toNat ++ be 6 s.toNat):=by
  simp [putS,puts,put1,fits6 hd hd2,fits6 hs hs2]
 rw [e] at h
 refine h.mono fun e w' ⟨he,o,hw,hm⟩ => ?_
 obtain ⟨h1,h2⟩:=fresh_mvd hC hm hpw (fun k hk=>by cases hk)
 exact ⟨he,o,hw,hm,h1,hpw,h2,hp⟩
theorem enc_put2 (p q : Nat) (d s t : Int) (w1 Wa Wb W : World) (ht : 0 ≤ t) (ht2 : t ≤ 65535) (h1 : P1 d s p w1 Wa Wb) (hc : Chg (fun _=>False) Wb W) (hq : Blk W q 3 #[int i64 t]) :
  Calls Tryz.prog 76 #[.pointer (some ⟨p,0,none⟩),int i64 2, .slice (some ⟨q,0,none⟩) 1 1] W fun e w'=>e = .returned (.pointer (some ⟨p,0,none⟩)) ∧ P2 d s t p w1 w':=by
 obtain ⟨o,hw,hm,hC,hpw,ho,_⟩:=h1
 have hw2:=hw.chg hc id (fun _ _=>id)
 have hpq : q ≠ p:=by
  rintro rfl
  obtain ⟨bs,f,A,c,hob,_⟩:=hw2
  have h : Blk W q _ _:=hob.blk
  have h:=h.symm.trans hq
  simp at h
 have hoq : o ≠ some q:=by
  rintro rfl
  obtain ⟨bs,f,A,c,hob,_⟩:=hw2
  have ha:=hob.at_
  rcases hob.own.2 with ⟨e,_⟩ | ⟨g,cap,cur,e,_,hh,_⟩
  ·injection e with e
   subst e
   cases ha
  ·injection e with e
   subst e
   injection ha with ha
   have ha : g = q:=ha
   subst ha
   have h:=hh.symm.trans hq
   simp at h
 have h:=put_any p o _ 16 2 [t] (some ⟨q,0,none⟩) 1 1 W (fun k=>k = q) hw2 rfl hq.rds (fun k hk=>⟨by rw [hk]; exact hpq,by rw [hk]; exact hoq⟩) (by simp; omega) (by decide)
 have e : putS 2 [t] (some (be 6 d.toNat ++ be 6 s.toNat)) = some (be 6 d.toNat ++ be 6 s.toNat ++ be 2 t.toNat):=by
  simp [putS,puts,put1,fits2 ht ht2]
 rw [e] at h
 refine h.mono fun e w' ⟨he,o',hw',hm'⟩ => ?_
 obtain ⟨h1,h2⟩:=fresh_mvd (hC.trans hc (fun _ _ e=>e)) hm' hpw ho
 exact ⟨he,o',hw',h1⟩
theorem enc_done (p : Nat) (d s t : Int) (w1 W : World) (h : P2 d s t p w1 W) :
  Calls Tryz.prog 78 #[.pointer (some ⟨p,0,none⟩)] W fun e w' => ∃ A' k c',e = .returned (.tuple #[.slice A' k c',int i64 0]) ∧
   k = 14 ∧ w'.ownsRow w1.heap.size 5 1 (.slice A' k c') k (bcs (be 6 d.toNat ++ be 6 s.toNat ++ be 2 t.toNat)) ∧ Chg (fun _=>False) w1 w':=by
 obtain ⟨o,hw,hC⟩:=h
 refine (wdone_some p o _ _ W hw (by decide)).mono ?_
 rintro e w' ⟨A',k,c',rfl,hk,hown,hc⟩
 exact ⟨A',k,c',rfl,by simpa [be_len] using hk,own_base hown hC.size,hC.trans hc (fun _ _ e=>e)⟩
theorem encode_ok (d s t : Int) (A : Option Addr) (n c : Nat) (l : List UInt8) (S : Nat → Prop) (w : World) (hn : n = l.length) (h : Rds w S A n (bcs l)) (hd : 0 ≤ d) (hs : 0 ≤ s) (hr : rightB d s t n = true) :
  Calls Tryz.prog 62 #[.agg #[int .u64 d,int .u64 s,int i64 t, .slice A n c]] w fun e w' => ∃ A' k c',e = .returned (.tuple #[.slice A' k c',int i64 0]) ∧
   k = (frameB d s t l).length ∧ (A' = none → c' = 0) ∧ Rds w' (fun k=>w.heap.size ≤ k ∧ k < w'.heap.size) A' k (bcs (frameB d s t l)) ∧ Chg (fun _=>False) w w':=by
 obtain ⟨i0,hi0,hz0,hz1,hz2⟩:=info_parts infoByte
 have HN:=hd_ hn
 have hrr:=hr
 unfold rightB at hrr
 simp only [Bool.and_eq_true,decide_eq_true_eq] at hrr
 obtain ⟨⟨⟨⟨hd2,hs2⟩,ht⟩,ht2⟩,hn2⟩:=hrr
 have HR:=hd_ hr
 have hb0 : Blk (w.alloc (.cells #[int .u64 d,int .u64 s,int i64 t, .slice A n c] 34)) w.heap.size _ _:=Blk.new _ _ _
 have HB0:=hd_ hb0
 clear hn hr hb0
 go_enter Tryz.func62,Tryz.ntmps62
 go_wp2_with fail
 refine (right_any d s t A n c _ hd hs (by omega)).mono ?_
 rw [HR.out]
 rintro e w1 ⟨rfl,hc1⟩
 have hb1:=HB0.out.chg hc1 id
 obtain ⟨x0,x1,x2⟩:=box_cells hb1 (Chg.refl _ w1)
 have hzz:=hc1.size
 have wd : IntKind.i64.wrap d = d:=IntWalk.i64_in _ (by omega)
 have ws : IntKind.i64.wrap s = s:=IntWalk.i64_in _ (by omega)
 go_upto_region 3 with fail
 go_cut [4,5] (fun s4 s5 wx=>s5 = int i64 0 ∧ ∃ A' k c',s4 = .slice A' k c' ∧ k = 14 ∧ wx.ownsRow w1.heap.size 5 1 (.slice A' k c') k (bcs (be 6 d.toNat ++ be 6 s.toNat ++ be 2 t.toNat)) ∧ Chg (fun _=>False) w1 wx)
 case first =>
  go_region_held3 (fun w'=>w'.cell? ⟨w.heap.size,0,none⟩ = some (int .u64 d) ∧ w'.cell? ⟨w.heap.size,1,none⟩ = some (int .u64 s) ∧ w'.cell? ⟨w.heap.size,2,none⟩ = some (int i64 t))
   (first | exact ⟨x0,x1,x2⟩ | exact box_cells hb1 (((Chg.refl _ _).alloc _).drew) | exact box_cells hb1 (((Chg.refl _ _).alloc _).alloc _).drew | exact box_cells hb1 ((((Chg.refl _ _).alloc _).alloc _).alloc _).drew | exact box_cells hb1 h1.chg | exact box_cells hb1 (h1.chg.alloc _) | exact box_cells hb1 h2.chg | exact box_cells hb1 h3)
   (first
    | (go_at_call 76; (with_reducible refine (enc_put2 _ _ d s t w1 _ w4 _ ht ht2 h1 (by first | exact Chg.refl _ _ | exact (Chg.refl _ _).alloc _) (by first | exact blk_new rfl | exact h1.keep (by first | exact (blk_new (by first | rfl | (simp; done) | (simp; omega))).drew | exact ((blk_new (by first | rfl | (simp; done) | (simp; omega))).alloc _).drew | exact (((blk_new (by first | rfl | (simp; done) | (simp; omega))).alloc _).alloc _).drew))).mono ?_); rintro e w5 ⟨rfl,h2⟩)
    | (go_at_call 78; (with_reducible refine (enc_done _ d s t w1 _ h2).mono ?_); rintro e w6 ⟨A',k,c',rfl,rfl,hown,h3⟩)
    | (go_at_call 76; (with_reducible refine (enc_put1 _ _ d s w1 _ hd hd2 hs hs2 (by first | exact ((Chg.refl _ _).alloc _).drew | exact (((Chg.refl _ _).alloc _).alloc _).drew | exact ((((Chg.refl _ _).alloc _).alloc _).alloc _).drew) (by first | omega | (simp; done) | (simp; omega)) (by first | exact (blk_new (by first | rfl | (simp; done) | (simp; omega))).drew | exact ((blk_new (by first | rfl | (simp; done) | (simp; omega))).alloc _).drew | exact (((blk_new (by first | rfl | (simp; done) | (simp; omega))).alloc _).alloc _).drew) (by first | exact (blk_new (by first | rfl | (simp; done) | (simp; omega))).drew | exact ((blk_new (by first | rfl | (simp; done) | (simp; omega))).alloc _).drew | exact (((blk_new (by first | rfl | (simp; done) | (simp; omega))).alloc _).alloc _).drew)).mono ?_); rintro e w4 ⟨rfl,h1⟩))
  all_goals
   go_wp2_with fail
   go_meet
   exact ⟨rfl,A',14,c',rfl,rfl,hown,h3⟩
 case rest =>
  obtain ⟨rfl,A',k,c',rfl,rfl,hown,hC⟩:=hcut
  have hc0:=(((Chg.refl (fun _=>False) w).alloc (.cells #[int .u64 d,int .u64 s,int i64 t, .slice A n c] 34)).trans hc1 (fun _ _ e=>e)).trans hC (fun _ _ e=>e)
  have hb2:=hb1.chg hC id
  have y3:=hb2.cell 3
  simp only [List.getElem?_toArray,List.getElem?_cons_zero,List.getElem?_cons_succ] at y3
  have hl:=h.chg hc0 (fun _ _=>id)
  have hsz:=hC.size
  have HC0:=hd_ hc0
  have HC:=hd_ hC
  clear hb2 hc0 hC x0 x1 x2 hb1 h
  go_wp2_with (at_builtin; go_loud (refine wpList_own_append _ rfl (.tmp 27) (.tmp 29) 31 rfl _ 5 i0 (int .u8 0) 1 Tryz.underlying31 hi0 hz0 hz1 hz2 rfl (.slice A' 14 c') 14 _ rfl hown _ A n c _ rfl hl (bcs_one _) (by unfold maxLen; omega) (by omega) hsz ?_; intro v6 w6 hown6 hg6 hat6; obtain ⟨D6,dc6,rfl,_,_⟩:=own_form hown6; have hC6:=grown_fresh HC.out hg6 hown (Nat.le_refl _); have HO6:=hd_ hown6; have HC6:=hd_ hC6; clear hown6 hC6 hg6 hat6 hown hsz hl y3))
  go_ret2
  have hz0 : (w.alloc (.cells #[int .u64 d,int .u64 s,int i64 t, .slice A n c] 34)).heap.size = w.heap.size + 1:=by simp
  have e : bcs (frameB d s t l) = bcs (be 6 d.toNat ++ be 6 s.toNat ++ be 2 t.toNat) ++ bcs l:=by
   unfold frameB
   simp only [bcs_app,List.append_assoc]
  refine ⟨D6,_,dc6,rfl, ?_,own_nil HO6.out, ?_, ?_⟩
  ·have:=HN.out
   unfold frameB
   simp only [List.length_append,be_len]
   omega
  ·rw [e]
   exact (own_rds2 HO6.out).mono (fun k hk=>⟨by omega,hk.2⟩)
  ·exact (((Chg.refl (fun _=>False) w).alloc (.cells #[int .u64 d,int .u64 s,int i64 t, .slice A n c] 34)).trans hc1 (fun _ _ e=>e)).trans HC6.out (fun _ _ e=>e)
def cntF : List Bool → Nat
 | []=>0
 | b :: r=>(if b then 0 else 1) + cntF r
theorem cntF_set : ∀ (l : List Bool) (i : Nat),l[i]? = some false → cntF (l.set i true) + 1 = cntF l
 | [],i,h=>by simp at h
 | b :: r,0,h=>by
  simp at h
  subst h
  simp [cntF]
  omega
 | b :: r,i + 1,h=>by
  simp only [List.getElem?_cons_succ] at h
  have:=cntF_set r i h
  simp only [List.set_cons_succ,cntF]
  omega
theorem cntF_zero : ∀ (l : List Bool),cntF l = 0 → ∀ i : Nat,l[i]? ≠ some false
 | [],_,i=>by simp
 | b :: r,h,0=>by
  cases b
  ·simp [cntF] at h
  ·simp
 | b :: r,h,i + 1=>by
  simp only [cntF] at h
  have:=cntF_zero r (by omega) i
  simpa using this
theorem getD_list {l : Array Bool} {i : Nat} (h : l.getD i true = false) : l.toList[i]? = some false:=by
 by_cases hi : i < l.size
 ·simp [hi] at h
  simp [hi,h]
 ·simp [hi] at h
def AllOps (φ : Nat → Oper → Prop) : Nat → List Oper → Prop
 | _, []=>True
 | k,o :: L => φ k o ∧ AllOps φ (k + 1) L
theorem AllOps.at_ {φ : Nat → Oper → Prop} : ∀ (L : List Oper) (k : Nat),AllOps φ k L → ∀ (i : Nat) (o : Oper),L[i]? = some o → φ (k + i) o
 | [],_,_,i,o,h=>by simp at h
 | x :: L,k,hL,0,o,h=>by
  simp at h
  subst h
  exact hL.1
 | x :: L,k,hL,i + 1,o,h=>by
  have:=AllOps.at_ L (k + 1) hL.2 i o (by simpa using h)
  rwa [show k + 1 + i = k + (i + 1) by omega] at this
def acyc : Nat → List Oper → Bool
 | _, []=>true
 | k,o :: L=>o.after.toList.all (fun e=>decide (e.on < k)) && acyc (k + 1) L
theorem acyc_at : ∀ (L : List Oper) (k : Nat),acyc k L = true → ∀ (i : Nat) (o : Oper),L[i]? = some o → ∀ e ∈ o.after,e.on < k + i
 | [],_,_,i,o,h,_,_=>by simp at h
 | x :: L,k,hL,0,o,h,e,he=>by
  simp at h
  subst h
  simp only [acyc,Bool.and_eq_true,List.all_eq_true] at hL
  have:=hL.1 e (by simpa using he)
  simpa using this
 | x :: L,k,hL,i + 1,o,h,e,he=>by
  simp only [acyc,Bool.and_eq_true] at hL
  have:=acyc_at L (k + 1) hL.2 i o (by simpa using h) e he
  omega
section
variable {P : Program} {ops : Array Oper} {Q : Exit → Act → World → Prop} {md : Region.Mode} {S : World → Prop}
def StepH (P : Program) (md : Region.Mode) (ops : Array Oper) (Q : Exit → Act → World → Prop) (I : Array Bool → Act → World → Prop) (i : Nat) (o : Oper) : Prop :=
 ∀ (l : Array Bool) (a : Act) (w : World),I l a w → l.getD i true = false → (∀ e ∈ o.after,Region.binds md e = true → l.getD e.on false = true) →
  ∀ K' : Act → World → Prop,Shut (∀ a' w',I (l.setIfInBounds i true) a' w' → K' a' w') → if Region.wanted o (yielded ops a.tmps) = true then Oper.wp P o a w K' Q else K' (a.put o.dst undef) w
theorem wpAnyH_inv (I : Array Bool → Act → World → Prop) (hsz : ∀ l a w,I l a w → l.size = ops.size) (hS : ∀ l a w,I l a w → S w) (hac : acyc 0 ops.toList = true)
  (hend : ∀ l a w,I l a w → (∀ i,i < ops.size → l.getD i true = true) → Q .normal a w) (hops : AllOps (StepH P md ops Q I) 0 ops.toList) :
  ∀ (fuel : Nat) (l : Array Bool) (a : Act) (w : World),cntF l.toList ≤ fuel → I l a w → wpAnyH P md ops Q S fuel l a w:=by
 have hready : ∀ l a w,I l a w → Region.ready md ops l = [] → Q .normal a w:=by
  intro l a w hI hr
  have hz:=hsz l a w hI
  refine hend l a w hI (fun i => ?_)
  induction i using Nat.strongRecOn with
  | ind i ih =>
   intro hi
   cases hg : l.getD i true with
   | true=>rfl
   | false =>
    exfalso
    have ho : ops[i]? = some ops[i]:=Array.getElem?_eq_getElem hi
    have hm : i ∈ Region.ready md ops l:=by
     refine mem_ready.2 ⟨hg,ops[i],ho,fun e he _ => ?_⟩
     have hlt:=acyc_at ops.toList 0 hac i ops[i] (by simp) e he
     have h1:=ih e.on (by omega) (by omega)
     have h2 : e.on < l.size:=by omega
     simp only [Array.getD,h2,dite_true] at h1 ⊢
     exact h1
    rw [hr] at hm
    cases hm
 intro fuel
 induction fuel with
 | zero =>
  intro l a w hc hI
  have hr : Region.ready md ops l = []:=by
   refine List.eq_nil_iff_forall_not_mem.2 (fun i hi => ?_)
   exact cntF_zero _ (by omega) i (getD_list (mem_ready.1 hi).1)
  exact ⟨hr,hready l a w hI hr⟩
 | succ fuel ih =>
  intro l a w hc hI
  refine ⟨hready l a w hI,fun i hi => ?_⟩
  obtain ⟨hun,o,ho,hdep⟩:=mem_ready.1 hi
  have hst:=AllOps.at_ ops.toList 0 hops i o (by simpa using ho)
  rw [Nat.zero_add] at hst
  refine wpOp_step ho (fun K' hK=>hst l a w hI hun hdep K' (fun a' w' hI'=>hK a' w' ⟨hS _ _ _ hI',ih _ a' w' ?_ hI'⟩))
  have:=cntF_set l.toList i (getD_list hun)
  rw [Array.toList_setIfInBounds]
  omega
end
def Wat (w1 : World) (p : Nat) (st : Option (List UInt8)) (N : Nat) (w : World) : Prop :=
 ∃ o,Wr 166 5 w p o st N ∧ Chg (fun _=>False) w1 w ∧ w1.heap.size ≤ p ∧ (∀ k,o = some k → w1.heap.size ≤ k)
def Kp (w w' : World) : Prop := ∀ (q : Nat) (cs : Array Value),Blk w q 3 cs → Blk w' q 3 cs
theorem Kp.blk {w w' : World} {q : Nat} {cs : Array Value} (k : Kp w w') (h : Blk w q 3 cs) : Blk w' q 3 cs:=k q cs h
section
variable {w1 w w' : World} {p : Nat} {st : Option (List UInt8)} {N : Nat}
theorem Wat.was (h : Wat w1 p st N w) : Chg (fun _=>False) w1 w:=by
 obtain ⟨o,_,hc,_⟩:=h
 exact hc
theorem Wat.chg (h : Wat w1 p st N w) (hc : Chg (fun _=>False) w w') : Wat w1 p st N w':=by
 obtain ⟨o,hw,hC,hp,ho⟩:=h
 exact ⟨o,hw.chg hc id (fun _ _=>id),hC.trans hc (fun _ _ e=>e),hp,ho⟩
theorem Wat.drew (h : Wat w1 p st N w) : Wat w1 p st N w.drew:=h.chg (Chg.refl _ w).drew
theorem Wat.alloc (h : Wat w1 p st N w) (o : Obj) : Wat w1 p st N (w.alloc o):=h.chg ((Chg.refl _ w).alloc o)
theorem Wat.start (hC : Chg (fun _=>False) w1 w) (hp : w1.heap.size ≤ p) (hb : Blk w p 166 #[.slice none 0 0, .bool false]) : Wat w1 p (some []) 0 w :=
 ⟨none,⟨[],false,none,0,⟨hb,World.ownsRow_nil _ 0 _ 1,rfl,by simp⟩,Nat.le_refl _,rfl,rfl⟩,hC,hp,fun k hk=>by cases hk⟩
end
theorem wat_put (p q N : Nat) (n : Int) (l : List Int) (st : Option (List UInt8)) (w1 W : World) (h : Wat w1 p st N W) (hq : Blk W q 3 (ics l).toArray) (hw : ∀ x ∈ l, -9223372036854775808 ≤ x ∧ x ≤ 9223372036854775807) (hN : N + 8 * l.length ≤ 1000000) :
  Calls Tryz.prog 76 #[.pointer (some ⟨p,0,none⟩),int i64 n, .slice (some ⟨q,0,none⟩) l.length l.length] W fun e w'=>e = .returned (.pointer (some ⟨p,0,none⟩)) ∧ Wat w1 p (putS n l st) (N + 8 * l.length) w' ∧ Kp W w':=by
 obtain ⟨o,hwr,hC,hp,ho⟩:=h
 have hkeep : ∀ (q : Nat) (cs : Array Value),Blk W q 3 cs → q ≠ p ∧ o ≠ some q:=by
  intro q cs hq
  obtain ⟨bs,f,A,c,hob,_⟩:=hwr
  refine ⟨?_, ?_⟩
  ·rintro rfl
   have h : Blk W q _ _:=hob.blk
   have h:=h.symm.trans hq
   simp at h
  ·rintro rfl
   have ha:=hob.at_
   rcases hob.own.2 with ⟨e,_⟩ | ⟨g,cap,cur,e,_,hh,_⟩
   ·injection e with e
    subst e
    cases ha
   ·injection e with e
    subst e
    injection ha with ha
    have ha : g = q:=ha
    subst ha
    have h:=hh.symm.trans hq
    simp at h
 have hr:=hq.rds
 rw [List.size_toArray,List.toList_toArray,ics_len] at hr
 have hput:=put_any p o st N n l (some ⟨q,0,none⟩) l.length l.length W (fun k=>k = q) hwr rfl hr (fun k hk=>by subst hk; exact hkeep _ _ hq) hw (by omega)
 refine hput.mono fun e w' ⟨he,o',hw',hm'⟩ => ?_
 obtain ⟨h1,h2⟩:=fresh_mvd hC hm' hp ho
 refine ⟨he,⟨o',hw',h1,hp,h2⟩,fun q' cs hb=>hb.chg hm'.1 ?_⟩
 obtain ⟨e1,e2⟩:=hkeep q' cs hb
 rintro (h | h)
 ·exact e1 h
 ·exact e2 h
theorem wat_two (p q N : Nat) (n x y : Int) (st : Option (List UInt8)) (w1 W : World) (hx : -9223372036854775808 ≤ x ∧ x ≤ 9223372036854775807) (hy : -9223372036854775808 ≤ y ∧ y ≤ 9223372036854775807) (hN : N ≤ 1000) (h : Wat w1 p st N W) (hq : Blk W q 3 #[int i64 x,int i64 y]) :
  Calls Tryz.prog 76 #[.pointer (some ⟨p,0,none⟩),int i64 n, .slice (some ⟨q,0,none⟩) 2 2] W fun e w'=>e = .returned (.pointer (some ⟨p,0,none⟩)) ∧ Wat w1 p (putS n [x,y] st) (N + 16) w' ∧ Kp W w' :=
 wat_put p q N n [x,y] st w1 W h hq (fun z hz=>by simp only [List.mem_cons,List.not_mem_nil,or_false] at hz; rcases hz with rfl | rfl; exact hx; exact hy) (by simp only [List.length_cons,List.length_nil]; omega)
structure CS where
 al : Bool
 cl : Bool
 v : Value
 c : Value
 q : Nat
 n : Int
 xs : List Int
def Ch (w1 w : World) (p : Nat) : Bool → Value → Option (List UInt8) → Nat → List CS → Prop
  | b, u, st, N, [] => b = true → (u = .pointer (some ⟨p, 0, none⟩) ∧ Wat w1 p st N w)
  | b, u, st, N, s :: r => (b = true → u = .pointer (some ⟨p, 0, none⟩)) ∧ (s.al = true → s.v = .slice (some ⟨s.q, 0, none⟩) s.xs.length s.xs.length ∧ Blk w s.q 3 (ics s.xs).toArray) ∧ (s.cl = true → b = true) ∧
      (b = true → s.cl = false → Wat w1 p st N w) ∧ Ch w1 w p s.cl s.c (putS s.n s.xs st) (N + 8 * s.xs.length) r
theorem Ch.chg {w1 w w' : World} {p : Nat} (hc : Chg (fun _=>False) w w') : ∀ (L : List CS) (b : Bool) (u : Value) (st : Option (List UInt8)) (N : Nat),Ch w1 w p b u st N L → Ch w1 w' p b u st N L
 | [],_,_,_,_,h=>fun hb=>⟨(h hb).1,(h hb).2.chg hc⟩
 | s :: r,_,_,_,_,⟨h1,h2,h3,h4,h5⟩=>⟨h1,fun ha=>⟨(h2 ha).1,(h2 ha).2.chg hc id⟩,h3,fun hb hs=>(h4 hb hs).chg hc,Ch.chg hc r _ _ _ _ h5⟩
theorem Ch.idle {w1 w w' : World} {p p' : Nat} (hc : Chg (fun _=>False) w w') : ∀ (L : List CS) (u u' : Value) (st st' : Option (List UInt8)) (N N' : Nat),Ch w1 w p false u st N L → Ch w1 w' p' false u' st' N' L
 | [],_,_,_,_,_,_,_=>fun hb=>by cases hb
 | s :: r,_,_,_,_,_,_,⟨h1,h2,h3,h4,h5⟩=>by
  refine ⟨fun hb=>(by cases hb),fun ha=>⟨(h2 ha).1,(h2 ha).2.chg hc id⟩,h3,fun hb=>(by cases hb), ?_⟩
  have hs : s.cl = false:=by
   cases hcl : s.cl
   ·rfl
   ·exact absurd (h3 hcl) (by decide)
  rw [hs] at h5 ⊢
  exact Ch.idle hc r _ _ _ _ _ _ h5
theorem Ch.idle' {w1 w w' : World} {p p' : Nat} (hk : Kp w w') : ∀ (L : List CS) (u u' : Value) (st st' : Option (List UInt8)) (N N' : Nat),Ch w1 w p false u st N L → Ch w1 w' p' false u' st' N' L
 | [],_,_,_,_,_,_,_=>fun hb=>by cases hb
 | s :: r,_,_,_,_,_,_,⟨h1,h2,h3,h4,h5⟩=>by
  refine ⟨fun hb=>(by cases hb),fun ha=>⟨(h2 ha).1,hk.blk (h2 ha).2⟩,h3,fun hb=>(by cases hb), ?_⟩
  have hs : s.cl = false:=by
   cases hcl : s.cl
   ·rfl
   ·exact absurd (h3 hcl) (by decide)
  rw [hs] at h5 ⊢
  exact Ch.idle' hk r _ _ _ _ _ _ h5
theorem Ch.begin' {w1 w w' : World} {p p' : Nat} {u : Value} {st st' : Option (List UInt8)} {N N' : Nat} {L : List CS} (hk : Kp w w') (h : Ch w1 w p false u st N L) (hw : Wat w1 p' st' N' w') :
  Ch w1 w' p' true (.pointer (some ⟨p',0,none⟩)) st' N' L:=by
 cases L with
 | nil=>exact fun _=>⟨rfl,hw⟩
 | cons s r =>
  obtain ⟨h1,h2,h3,h4,h5⟩:=h
  refine ⟨fun _=>rfl,fun ha=>⟨(h2 ha).1,hk.blk (h2 ha).2⟩,fun _=>rfl,fun _ _=>hw, ?_⟩
  have hs : s.cl = false:=by
   cases hcl : s.cl
   ·rfl
   ·exact absurd (h3 hcl) (by decide)
  rw [hs] at h5 ⊢
  exact Ch.idle' hk r _ _ _ _ _ _ h5
theorem Ch.lay {w1 w w' : World} {p : Nat} (hc : Chg (fun _=>False) w w') (q : Nat) (s : CS) (l2 : List CS) (hq : Blk w' q 3 (ics s.xs).toArray) : ∀ (l1 : List CS) (b : Bool) (u : Value) (st : Option (List UInt8)) (N : Nat),
  Ch w1 w p b u st N (l1 ++ s :: l2) → Ch w1 w' p b u st N (l1 ++ { s with al:=true,v := .slice (some ⟨q,0,none⟩) s.xs.length s.xs.length,q:=q } :: l2)
 | [],_,_,_,_,⟨h1,h2,h3,h4,h5⟩=>⟨h1,fun _=>⟨rfl,hq⟩,h3,fun hb hs=>(h4 hb hs).chg hc,Ch.chg hc l2 _ _ _ _ h5⟩
 | x :: r,_,_,_,_,⟨h1,h2,h3,h4,h5⟩=>⟨h1,fun ha=>⟨(h2 ha).1,(h2 ha).2.chg hc id⟩,h3,fun hb hs=>(h4 hb hs).chg hc,Ch.lay hc q s l2 hq r _ _ _ _ h5⟩
def prevB : Bool → List CS → Bool
 | b, []=>b
 | _,s :: r=>prevB s.cl r
def prevV : Value → List CS → Value
 | u, []=>u
 | _,s :: r=>prevV s.c r
def stOf : Option (List UInt8) → List CS → Option (List UInt8)
 | st, []=>st
 | st,s :: r=>stOf (putS s.n s.xs st) r
def nOf : Nat → List CS → Nat
 | N, []=>N
 | N,s :: r=>nOf (N + 8 * s.xs.length) r
theorem Ch.back {w1 w : World} {p : Nat} : ∀ (l1 l2 : List CS) (b : Bool) (u : Value) (st : Option (List UInt8)) (N : Nat),Ch w1 w p b u st N (l1 ++ l2) → prevB b l1 = true → b = true
 | [],_,_,_,_,_,_,hb=>hb
 | x :: r,l2,_,_,_,_,⟨_,_,h3,_,h5⟩,hb=>h3 (Ch.back r l2 _ _ _ _ h5 hb)
theorem Ch.find {w1 w : World} {p : Nat} (s : CS) (l2 : List CS) (ha : s.al = true) (hs : s.cl = false) : ∀ (l1 : List CS) (b : Bool) (u : Value) (st : Option (List UInt8)) (N : Nat),Ch w1 w p b u st N (l1 ++ s :: l2) → prevB b l1 = true →
  prevV u l1 = .pointer (some ⟨p,0,none⟩) ∧ s.v = .slice (some ⟨s.q,0,none⟩) s.xs.length s.xs.length ∧ Blk w s.q 3 (ics s.xs).toArray ∧ Wat w1 p (stOf st l1) (nOf N l1) w
 | [],_,_,_,_,⟨h1,h2,_,h4,_⟩,hb=>⟨h1 hb,(h2 ha).1,(h2 ha).2,h4 hb hs⟩
 | x :: r,_,_,_,_,⟨_,_,_,_,h5⟩,hb=>Ch.find s l2 ha hs r _ _ _ _ h5 hb
theorem Ch.call {w1 w w' : World} {p : Nat} (hk : Kp w w') (s : CS) (l2 : List CS) (hs : s.cl = false) : ∀ (l1 : List CS) (b : Bool) (u : Value) (st : Option (List UInt8)) (N : Nat),Ch w1 w p b u st N (l1 ++ s :: l2) → prevB b l1 = true →
  Wat w1 p (putS s.n s.xs (stOf st l1)) (nOf N l1 + 8 * s.xs.length) w' → Ch w1 w' p b u st N (l1 ++ { s with cl:=true,c := .pointer (some ⟨p,0,none⟩) } :: l2)
 | [],b,u,st,N,⟨h1,h2,h3,h4,h5⟩,hb,hw=>by
  refine ⟨h1,fun ha=>⟨(h2 ha).1,hk.blk (h2 ha).2⟩,fun _=>hb,fun _ h=>(by cases h), ?_⟩
  rw [hs] at h5
  show Ch w1 w' p true (.pointer (some ⟨p,0,none⟩)) (putS s.n s.xs st) (N + 8 * s.xs.length) l2
  exact Ch.begin' hk h5 hw
 | x :: r,b,u,st,N,⟨h1,h2,h3,h4,h5⟩,hb,hw=>by
  have hx : x.cl = true:=Ch.back r _ _ _ _ _ h5 hb
  exact ⟨h1,fun ha=>⟨(h2 ha).1,hk.blk (h2 ha).2⟩,h3,fun _ h=>(by rw [hx] at h; cases h),Ch.call hk s l2 hs r _ _ _ _ h5 hb hw⟩
theorem Ch.last {w1 w : World} {p : Nat} : ∀ (L : List CS) (b : Bool) (u : Value) (st : Option (List UInt8)) (N : Nat),Ch w1 w p b u st N L → prevB b L = true → prevV u L = .pointer (some ⟨p,0,none⟩) ∧ Wat w1 p (stOf st L) (nOf N L) w
 | [],_,_,_,_,h,hb=>h hb
 | s :: r,_,_,_,_,⟨_,_,_,_,h5⟩,hb=>Ch.last r _ _ _ _ h5 hb
theorem Chg.setBlock {S : Nat → Prop} {a w : World} (h : Chg S a w) (b : Nat) (o : Obj) (hb : b < a.heap.size → S b) : Chg S a (ChangeMaps.setBlock w b o) :=
 ⟨h.os,h.tape,h.output,by simpa [ChangeMaps.setBlock] using h.size,fun k hk hn=>by
  have hne : b ≠ k:=by rintro rfl; exact hn (hb hk)
  refine Eq.trans ?_ (h.block k hk hn)
  simp [ChangeMaps.setBlock,hne]⟩
def Mp (w : World) (b : Nat) (es : Array MapEntry) (clock : Nat) : Prop:=w.heap[b]? = some (.map es clock)
theorem Mp.new (w : World) : Mp (w.alloc (.map #[] 0)) w.heap.size #[] 0:=(MapKept.heap_alloc w _).1
theorem Mp.set {w : World} {b : Nat} {es es' : Array MapEntry} {clock clock' : Nat} (h : Mp w b es clock) : Mp (ChangeMaps.setBlock w b (.map es' clock')) b es' clock':=(MapKept.heap_set h).1
section
variable {P : Program} {w : World} {t kt et : TypeId} {k : IntKind} {b clock : Nat} {es : Array MapEntry} {x : Int}
theorem Mp.add (h : Mp w b es clock) (ht : P.underlying t = some (.map kt et)) (hk : P.underlying kt = some (.int k)) (hf : Instr.findNow (.int k) (.int k x) es.toList 0 = some none) (v : Value) :
  (Instr.mapUpdate t (.map (some b)) (.int k x) v).run P w = .ok () (ChangeMaps.setBlock w b (.map (es.push ⟨.int k x,v,clock⟩) (clock + 1))):=by
 have hc : (Instr.checkKey false 10000 kt (.int k x)).run P w = .ok () w:=MapKept.run_checkKey (k := .int k x) hk (by simp [MapKept.IsKey]) false 9999
 simp [Instr.mapUpdate,run_underlying ht,MapKept.run_getObj_map h,hc,MapKept.run_findKey hk hf,MapKept.run_setObj_map _ h,Result.andThen,ChangeMaps.setBlock]
theorem Mp.hit (h : Mp w b es clock) (ht : P.underlying t = some (.map kt et)) (hk : P.underlying kt = some (.int k)) {i : Nat} {v : Value} (hf : Instr.findNow (.int k) (.int k x) es.toList 0 = some (some (i,v))) :
  (Instr.lookup t (.map (some b)) (.int k x) true).run P w = .ok (.tuple #[v, .bool true]) w:=by
 have hc : (Instr.checkKey es.isEmpty 10000 kt (.int k x)).run P w = .ok () w:=MapKept.run_checkKey (k := .int k x) hk (by simp [MapKept.IsKey]) _ 9999
 simp [Instr.lookup,run_underlying ht,MapKept.run_getObj_map h,hc,MapKept.run_findKey hk hf,Result.andThen]
theorem Mp.miss (h : Mp w b es clock) (ht : P.underlying t = some (.map kt et)) (hk : P.underlying kt = some (.int k)) {z : Value} (hz : (zeroValue et).run P w = .ok z w) (hf : Instr.findNow (.int k) (.int k x) es.toList 0 = some none) :
  (Instr.lookup t (.map (some b)) (.int k x) true).run P w = .ok (.tuple #[z, .bool false]) w:=by
 have hc : (Instr.checkKey es.isEmpty 10000 kt (.int k x)).run P w = .ok () w:=MapKept.run_checkKey (k := .int k x) hk (by simp [MapKept.IsKey]) _ 9999
 simp [Instr.lookup,run_underlying ht,MapKept.run_getObj_map h,hc,MapKept.run_findKey hk hf,Result.andThen,hz]
end
def sayers (q : Nat) : Array MapEntry:=#[⟨int i64 32821, .func (.func 131) #[] #[.pointer (some ⟨q,0,none⟩)],0⟩,⟨int i64 2054, .func (.func 132) #[] #[.pointer (some ⟨q,0,none⟩)],1⟩]
theorem sayers_any (op sha tha spa tpa : Int) (w : World) :
  Calls Tryz.prog 108 #[.agg (arpC op sha tha spa tpa)] w fun e w' => ∃ q m,e = .returned (.map (some m)) ∧ Blk w' q 197 (arpC op sha tha spa tpa) ∧ Mp w' m (sayers q) 2 ∧ Chg (fun _=>False) w w':=by
 unfold arpC
 have hmm := @run_makeMap Tryz.prog
 have hmf : ∀ (fn : Fn) (first cap : Array Value) (w : World),(Instr.makeFunc fn first cap).run Tryz.prog w = .ok (.func fn first cap) w:=fun _ _ _ _=>rfl
 generalize hq : w.heap.size = q at *
 have hb0 : Blk (w.alloc (.cells #[int i64 op,int .u64 sha,int .u64 tha,int .u32 spa,int .u32 tpa] 197)) q 197 (arpC op sha tha spa tpa):=blk_new hq.symm
 have hb1:=hb0.alloc (.map #[] 0)
 have hz : (w.alloc (.cells #[int i64 op,int .u64 sha,int .u64 tha,int .u32 spa,int .u32 tpa] 197)).heap.size = q + 1:=by simp [hq]
 have hm0:=Mp.new (w.alloc (.cells #[int i64 op,int .u64 sha,int .u64 tha,int .u32 spa,int .u32 tpa] 197))
 rw [hz] at hm0
 have hu1:=hm0.add (P:=Tryz.prog) (x:=32821) Tryz.underlying201 Tryz.underlying3 rfl (.func (.func 131) #[] #[.pointer (some ⟨q,0,none⟩)])
 have hm1:=hm0.set (es':=#[⟨int i64 32821, .func (.func 131) #[] #[.pointer (some ⟨q,0,none⟩)],0⟩]) (clock':=1)
 have hu2:=hm1.add (P:=Tryz.prog) (x:=2054) Tryz.underlying201 Tryz.underlying3 rfl (.func (.func 132) #[] #[.pointer (some ⟨q,0,none⟩)])
 have hm2 : Mp _ (q + 1) (sayers q) 2:=hm1.set (es':=sayers q) (clock':=2)
 have hc:=((((Chg.refl (fun _=>False) w).alloc (.cells #[int i64 op,int .u64 sha,int .u64 tha,int .u32 spa,int .u32 tpa] 197)).alloc (.map #[] 0)).setBlock (q + 1) (.map #[⟨int i64 32821, .func (.func 131) #[] #[.pointer (some ⟨q,0,none⟩)],0⟩] 1) (fun h=>by omega)).setBlock (q + 1) (.map (sayers q) 2) (fun h=>by omega)
 have hbc:=(((Chg.refl (fun k=>k = q + 1) ((w.alloc (.cells #[int i64 op,int .u64 sha,int .u64 tha,int .u32 spa,int .u32 tpa] 197)).alloc (.map #[] 0))).setBlock (q + 1) (.map #[⟨int i64 32821, .func (.func 131) #[] #[.pointer (some ⟨q,0,none⟩)],0⟩] 1) (fun _=>rfl)).setBlock (q + 1) (.map (sayers q) 2) (fun _=>rfl))
 have hb2:=hb1.chg hbc (by omega)
 have HH:=hd_ (And.intro hb2 (And.intro hm2 hc))
 clear hb0 hb1 hm0 hm1 hm2 hc hbc hb2
 simp only [List.push_toArray,List.nil_append,List.cons_append,Nat.zero_add] at hu1 hu2
 go_enter Tryz.func108,Tryz.ntmps108
 go_wp2_with fail
 go_ret
 exact ⟨q,q + 1,rfl,HH.out.1,HH.out.2.1,HH.out.2.2⟩
theorem arp_kept {w w' : World} {q : Nat} {op sha tha spa tpa : Int} {T : TypeId} (hb : Blk w q T (arpC op sha tha spa tpa)) (h : Chg (fun _=>False) w w') :
  w'.cell? ⟨q,0,none⟩ = some (int i64 op) ∧ w'.cell? ⟨q,1,none⟩ = some (int .u64 sha) ∧ w'.cell? ⟨q,2,none⟩ = some (int .u64 tha) ∧ w'.cell? ⟨q,3,none⟩ = some (int .u32 spa) ∧ w'.cell? ⟨q,4,none⟩ = some (int .u32 tpa):=arp_cells (hb.chg h id)
theorem arp_put {w : World} {r : Nat} {T : TypeId} {o s t p q : Int} (hb : Blk w r T (arpC o s t p q)) (o' s' t' p' q' : Int) :
  (w.setCell ⟨r,0,none⟩ (int i64 o')).cell? ⟨r,0,none⟩ = some (int i64 o') ∧
  ((w.setCell ⟨r,0,none⟩ (int i64 o')).setCell ⟨r,1,none⟩ (int .u64 s')).cell? ⟨r,1,none⟩ = some (int .u64 s') ∧
  (((w.setCell ⟨r,0,none⟩ (int i64 o')).setCell ⟨r,1,none⟩ (int .u64 s')).setCell ⟨r,2,none⟩ (int .u64 t')).cell? ⟨r,2,none⟩ = some (int .u64 t') ∧
  ((((w.setCell ⟨r,0,none⟩ (int i64 o')).setCell ⟨r,1,none⟩ (int .u64 s')).setCell ⟨r,2,none⟩ (int .u64 t')).setCell ⟨r,3,none⟩ (int .u32 p')).cell? ⟨r,3,none⟩ = some (int .u32 p') ∧
  (((((w.setCell ⟨r,0,none⟩ (int i64 o')).setCell ⟨r,1,none⟩ (int .u64 s')).setCell ⟨r,2,none⟩ (int .u64 t')).setCell ⟨r,3,none⟩ (int .u32 p')).setCell ⟨r,4,none⟩ (int .u32 q')).cell? ⟨r,4,none⟩ = some (int .u32 q') ∧
  Blk (((((w.setCell ⟨r,0,none⟩ (int i64 o')).setCell ⟨r,1,none⟩ (int .u64 s')).setCell ⟨r,2,none⟩ (int .u64 t')).setCell ⟨r,3,none⟩ (int .u32 p')).setCell ⟨r,4,none⟩ (int .u32 q')) r T (arpC o' s' t' p' q') ∧
  Chg (fun k=>k = r) w (((((w.setCell ⟨r,0,none⟩ (int i64 o')).setCell ⟨r,1,none⟩ (int .u64 s')).setCell ⟨r,2,none⟩ (int .u64 t')).setCell ⟨r,3,none⟩ (int .u32 p')).setCell ⟨r,4,none⟩ (int .u32 q')):=by
 have r0:=(hb.set 0 (int i64 o')).cell 0
 have r1:=((hb.set 0 (int i64 o')).set 1 (int .u64 s')).cell 1
 have r2:=(((hb.set 0 (int i64 o')).set 1 (int .u64 s')).set 2 (int .u64 t')).cell 2
 have r3:=((((hb.set 0 (int i64 o')).set 1 (int .u64 s')).set 2 (int .u64 t')).set 3 (int .u32 p')).cell 3
 have h5:=(((((hb.set 0 (int i64 o')).set 1 (int .u64 s')).set 2 (int .u64 t')).set 3 (int .u32 p')).set 4 (int .u32 q'))
 have r4:=h5.cell 4
 simp only [arpC,List.setIfInBounds_toArray,List.set_cons_succ,List.set_cons_zero,List.getElem?_toArray,List.getElem?_cons_zero,List.getElem?_cons_succ] at r0 r1 r2 r3 r4 h5
 exact ⟨r0,r1,r2,r3,r4,h5,(((((Chg.refl (fun k=>k = r) w).put r 0 (fun _=>rfl) _).put r 1 (fun _=>rfl) _).put r 2 (fun _=>rfl) _).put r 3 (fun _=>rfl) _).put r 4 (fun _=>rfl) _⟩
theorem arp_free {w : World} {r : Nat} {T : TypeId} {cs : Array Value} (hb : Blk w r T cs) : w.frozen? ⟨r,0,none⟩ = false ∧ w.frozen? ⟨r,1,none⟩ = false ∧ w.frozen? ⟨r,2,none⟩ = false ∧ w.frozen? ⟨r,3,none⟩ = false ∧ w.frozen? ⟨r,4,none⟩ = false :=
 ⟨hb.frozen 0,hb.frozen 1,hb.frozen 2,hb.frozen 3,hb.frozen 4⟩
theorem get_step (p : Nat) (S : Nat → Prop) (b : List UInt8) (m i k : Nat) (w : World) (h : Rd 173 true w p S (some ((b.take m).drop i))) (h1 : 1 ≤ k) (h7 : k ≤ 7) (hik : i + k ≤ m) (hm : m ≤ b.length) :
  Calls Tryz.prog 50 #[.pointer (some ⟨p,0,none⟩),int i64 (k : Int)] w fun e w'=>e = .returned (int i64 (nAt b i k)) ∧ Rd 173 true w' p S (some ((b.take m).drop (i + k))) ∧ Chg (fun k=>k = p) w w':=by
 have hg:=get_any p S _ (k : Int) w h
 rw [get_upto b m i k h1 h7 hik hm] at hg
 exact hg
def zeroA : Value := .agg #[int i64 0,int .u64 0,int .u64 0,int .u32 0,int .u32 0]
theorem adec_short (A : Option Addr) (n c : Nat) (w : World) (hn : n < 28) :
  Calls Tryz.prog 107 #[.slice A n c] w fun e w'=>e = .returned (.tuple #[zeroA,int i64 2]) ∧ Chg (fun _=>False) w w':=by
 go_enter Tryz.func107,Tryz.ntmps107
 go_wp2_with fail
 exact bodyPost_ret (v := .tuple #[zeroA,int i64 2]) (by simp [results,Tryz.results107,go_sem,zeroA]) rfl ⟨rfl,(Chg.refl _ w).alloc _⟩
def arpV (b : List UInt8) : Value := .agg #[int i64 (aO b),int .u64 (aS b),int .u64 (aT b),int .u32 (aP b),int .u32 (aQ b)]
def decV (b : List UInt8) : Value:=if headB b then .tuple #[arpV b,int i64 0] else .tuple #[zeroA,int i64 2]
theorem decV_no {b : List UInt8} (h : headB b = false) : decV b = .tuple #[zeroA,int i64 2]:=by unfold decV; rw [h]; rfl
theorem decV_yes {b : List UInt8} (h : headB b = true) : decV b = .tuple #[arpV b,int i64 0]:=by unfold decV; rw [h]; rfl
theorem adec_long (A : Option Addr) (n c : Nat) (b : List UInt8) (S : Nat → Prop) (w : World) (hn : n = b.length) (h : Rds w S A n (bcs b)) (h28 : 28 ≤ n) (hc : n ≤ c) (hcm : c ≤ maxLen) :
  Calls Tryz.prog 107 #[.slice A n c] w fun e w'=>e = .returned (decV b) ∧ Chg (fun _=>False) w w':=by
 have hlen : 28 ≤ b.length:=by omega
 have hR0 : Blk (w.alloc (.cells #[int i64 0,int .u64 0,int .u64 0,int .u32 0,int .u32 0] 197)) w.heap.size 197 (arpC 0 0 0 0 0):=blk_new rfl
 have hC0:=(Chg.refl (fun _=>False) w).alloc (.cells #[int i64 0,int .u64 0,int .u64 0,int .u32 0,int .u32 0] 197)
 have hz0 : (w.alloc (.cells #[int i64 0,int .u64 0,int .u64 0,int .u32 0,int .u32 0] 197)).heap.size = w.heap.size + 1:=by simp
 have h28r:=(h.take 28 (by omega)).alloc (.cells #[int i64 0,int .u64 0,int .u64 0,int .u32 0,int .u32 0] 197)
 rw [← bcs_take] at h28r
 have hrd:=read_any A 28 c (b.take 28) _ _ (by rw [List.length_take]; omega) h28r (rds_nil_ok h (by omega)) (by decide)
 have hcm' : (c : Int) ≤ 9223372036854775807:=by unfold maxLen at hcm; omega
 have HRD:=hd_ hrd
 have HR0:=hd_ hR0
 have HC0:=hd_ hC0
 have HZ0:=hd_ hz0
 have HLEN:=hd_ hlen
 have hHead : Hid (headB b = (nAt b 0 2 == 1 && (nAt b 2 2 == 2048 && (nAt b 4 1 == 6 && nAt b 5 1 == 4)))):=rfl
 have HV : Hid (arpV b = .agg #[int i64 (nAt b 6 2),int .u64 (nAt b 8 6),int .u64 (nAt b 18 6),int .u32 (nAt b 14 4),int .u32 (nAt b 24 4)]):=rfl
 have g1:=nAt_nonneg b 8 6
 have g1' : nAt b 8 6 ≤ 281474976710655:=(aS_lt b).2
 have g2:=nAt_nonneg b 14 4
 have g2' : nAt b 14 4 ≤ 4294967295:=(aP_lt b).2
 have g3:=nAt_nonneg b 18 6
 have g3' : nAt b 18 6 ≤ 281474976710655:=(aT_lt b).2
 have g4:=nAt_nonneg b 24 4
 have g4' : nAt b 24 4 ≤ 4294967295:=(aQ_lt b).2
 clear hrd hR0 hC0 hz0 h28r h hn hlen hcm
 go_enter Tryz.func107,Tryz.ntmps107
 go_wp2_with fail
 refine HRD.out.mono ?_
 rintro e w1 ⟨p,rfl,hp,hrd,hc1⟩
 have hz:=HZ0.out
 have hrp : w.heap.size < p:=by omega
 have hrd:=hrd.mono (S':=fun k=>w.heap.size < k ∧ k < p) (fun k hk=>by omega) (by omega)
 have hR:=HR0.out.chg hc1 id
 have hC:=HC0.out.trans hc1 (fun _ _ e=>e)
 have hlen:=HLEN.out
 clear HRD HR0 HC0 HZ0 hz hp hc1
 have HG:=hd_ (get_step p _ b 28 0 2 _ hrd (by decide) (by decide) (by decide) hlen)
 have HR:=hd_ hR
 have HC:=hd_ hC
 have HLEN:=hd_ hlen
 clear hrd hR hC hlen
 go_wp2_with fail
 refine HG.out.mono ?_
 rintro e w2 ⟨rfl,hrd,hc'⟩
 have hC:=fresh_set HC.out hc' (by omega)
 have hR:=HR.out.chg hc' (by omega)
 have hlen:=HLEN.out
 clear HG HR HC HLEN
 clear hc'
 by_cases q0 : nAt b 0 2 = 1
 case neg =>
  have t0 : (nAt b 0 2 == 1) = false:=by simpa using q0
  have s0 : (nAt b 0 2 != 1) = true:=by simpa using q0
  have HE : Hid (headB b = false):=by unfold Hid; rw [hHead.out]; simp [t0]
  obtain ⟨x0,x1,x2,x3,x4⟩:=arp_cells hR
  obtain ⟨u0,u1,u2,u3,u4⟩:=arp_free hR
  obtain ⟨r0,r1,r2,r3,r4,hR',hcs⟩:=arp_put hR 0 0 0 0 0
  have HF:=hd_ (fresh_set hC hcs (Nat.le_refl _))
  have RR:=hd_ (And.intro r0 (And.intro r1 (And.intro r2 (And.intro r3 r4))))
  clear r0 r1 r2 r3 r4 hR' hcs hR hC hrd hlen
  go_wp2_with fail
  obtain ⟨r0,r1,r2,r3,r4⟩:=RR.out
  exact bodyPost_ret (v := .tuple #[zeroA,int i64 2]) (by simp [results,Tryz.results107,go_sem,zeroA,r0,r1,r2,r3,r4]) rfl ⟨by rw [decV_no HE.out],HF.out⟩
 have Q0:=hd_ q0
 have t0 : (nAt b 0 2 == 1) = true:=by simpa using q0
 have s0 : (nAt b 0 2 != 1) = false:=by simpa using q0
 clear q0
 have HG:=hd_ (get_step p _ b 28 2 2 _ hrd (by decide) (by decide) (by decide) hlen)
 have HR:=hd_ hR
 have HC:=hd_ hC
 have HLEN:=hd_ hlen
 clear hrd hR hC hlen
 go_wp2_with fail
 refine HG.out.mono ?_
 rintro e w3 ⟨rfl,hrd,hc'⟩
 have hC:=fresh_set HC.out hc' (by omega)
 have hR:=HR.out.chg hc' (by omega)
 have hlen:=HLEN.out
 clear HG HR HC HLEN
 clear hc'
 by_cases q2 : nAt b 2 2 = 2048
 case neg =>
  have t2 : (nAt b 2 2 == 2048) = false:=by simpa using q2
  have s2 : (nAt b 2 2 != 2048) = true:=by simpa using q2
  have HE : Hid (headB b = false):=by unfold Hid; rw [hHead.out]; simp [t2]
  obtain ⟨x0,x1,x2,x3,x4⟩:=arp_cells hR
  obtain ⟨u0,u1,u2,u3,u4⟩:=arp_free hR
  obtain ⟨r0,r1,r2,r3,r4,hR',hcs⟩:=arp_put hR 0 0 0 0 0
  have HF:=hd_ (fresh_set hC hcs (Nat.le_refl _))
  have RR:=hd_ (And.intro r0 (And.intro r1 (And.intro r2 (And.intro r3 r4))))
  clear r0 r1 r2 r3 r4 hR' hcs hR hC hrd hlen
  go_wp2_with fail
  obtain ⟨r0,r1,r2,r3,r4⟩:=RR.out
  exact bodyPost_ret (v := .tuple #[zeroA,int i64 2]) (by simp [results,Tryz.results107,go_sem,zeroA,r0,r1,r2,r3,r4]) rfl ⟨by rw [decV_no HE.out],HF.out⟩
 have Q2:=hd_ q2
 have t2 : (nAt b 2 2 == 2048) = true:=by simpa using q2
 have s2 : (nAt b 2 2 != 2048) = false:=by simpa using q2
 clear q2
 have HG:=hd_ (get_step p _ b 28 4 1 _ hrd (by decide) (by decide) (by decide) hlen)
 have HR:=hd_ hR
 have HC:=hd_ hC
 have HLEN:=hd_ hlen
 clear hrd hR hC hlen
 go_wp2_with fail
 refine HG.out.mono ?_
 rintro e w4 ⟨rfl,hrd,hc'⟩
 have hC:=fresh_set HC.out hc' (by omega)
 have hR:=HR.out.chg hc' (by omega)
 have hlen:=HLEN.out
 clear HG HR HC HLEN
 clear hc'
 by_cases q4 : nAt b 4 1 = 6
 case neg =>
  have t4 : (nAt b 4 1 == 6) = false:=by simpa using q4
  have s4 : (nAt b 4 1 != 6) = true:=by simpa using q4
  have HE : Hid (headB b = false):=by unfold Hid; rw [hHead.out]; simp [t4]
  obtain ⟨x0,x1,x2,x3,x4⟩:=arp_cells hR
  obtain ⟨u0,u1,u2,u3,u4⟩:=arp_free hR
  obtain ⟨r0,r1,r2,r3,r4,hR',hcs⟩:=arp_put hR 0 0 0 0 0
  have HF:=hd_ (fresh_set hC hcs (Nat.le_refl _))
  have RR:=hd_ (And.intro r0 (And.intro r1 (And.intro r2 (And.intro r3 r4))))
  clear r0 r1 r2 r3 r4 hR' hcs hR hC hrd hlen
  go_wp2_with fail
  obtain ⟨r0,r1,r2,r3,r4⟩:=RR.out
  exact bodyPost_ret (v := .tuple #[zeroA,int i64 2]) (by simp [results,Tryz.results107,go_sem,zeroA,r0,r1,r2,r3,r4]) rfl ⟨by rw [decV_no HE.out],HF.out⟩
 have Q4:=hd_ q4
 have t4 : (nAt b 4 1 == 6) = true:=by simpa using q4
 have s4 : (nAt b 4 1 != 6) = false:=by simpa using q4
 clear q4
 have HG:=hd_ (get_step p _ b 28 5 1 _ hrd (by decide) (by decide) (by decide) hlen)
 have HR:=hd_ hR
 have HC:=hd_ hC
 have HLEN:=hd_ hlen
 clear hrd hR hC hlen
 go_wp2_with fail
 refine HG.out.mono ?_
 rintro e w5 ⟨rfl,hrd,hc'⟩
 have hC:=fresh_set HC.out hc' (by omega)
 have hR:=HR.out.chg hc' (by omega)
 have hlen:=HLEN.out
 clear HG HR HC HLEN
 clear hc'
 by_cases q5 : nAt b 5 1 = 4
 case neg =>
  have t5 : (nAt b 5 1 == 4) = false:=by simpa using q5
  have s5 : (nAt b 5 1 != 4) = true:=by simpa using q5
  have HE : Hid (headB b = false):=by unfold Hid; rw [hHead.out]; simp [t5]
  obtain ⟨x0,x1,x2,x3,x4⟩:=arp_cells hR
  obtain ⟨u0,u1,u2,u3,u4⟩:=arp_free hR
  obtain ⟨r0,r1,r2,r3,r4,hR',hcs⟩:=arp_put hR 0 0 0 0 0
  have HF:=hd_ (fresh_set hC hcs (Nat.le_refl _))
  have RR:=hd_ (And.intro r0 (And.intro r1 (And.intro r2 (And.intro r3 r4))))
  clear r0 r1 r2 r3 r4 hR' hcs hR hC hrd hlen
  go_wp2_with fail
  obtain ⟨r0,r1,r2,r3,r4⟩:=RR.out
  exact bodyPost_ret (v := .tuple #[zeroA,int i64 2]) (by simp [results,Tryz.results107,go_sem,zeroA,r0,r1,r2,r3,r4]) rfl ⟨by rw [decV_no HE.out],HF.out⟩
 have Q5:=hd_ q5
 have t5 : (nAt b 5 1 == 4) = true:=by simpa using q5
 have s5 : (nAt b 5 1 != 4) = false:=by simpa using q5
 clear q5
 have HE : Hid (headB b = true):=by unfold Hid; rw [hHead.out,t0,t2,t4,t5]; rfl
 have HG:=hd_ (get_step p _ b 28 6 2 _ hrd (by decide) (by decide) (by decide) hlen)
 have HR:=hd_ hR
 have HC:=hd_ hC
 have HLEN:=hd_ hlen
 clear hrd hR hC hlen
 go_wp2_with fail
 refine HG.out.mono ?_
 rintro e w6 ⟨rfl,hrd,hc'⟩
 have hC:=fresh_set HC.out hc' (by omega)
 have hR:=HR.out.chg hc' (by omega)
 have hlen:=HLEN.out
 clear HG HR HC HLEN
 clear hc'
 have hA : Blk (w6.alloc (.cells #[int i64 (nAt b 6 2),int .u64 0,int .u64 0,int .u32 0,int .u32 0] 197)) w6.heap.size 197 (arpC (nAt b 6 2) 0 0 0 0):=blk_new rfl
 have hpq:=hrd.lt
 have hR:=hR.alloc (.cells #[int i64 (nAt b 6 2),int .u64 0,int .u64 0,int .u32 0,int .u32 0] 197)
 have hC:=hC.alloc (.cells #[int i64 (nAt b 6 2),int .u64 0,int .u64 0,int .u32 0,int .u32 0] 197)
 have hrd:=hrd.chg ((Chg.refl (fun _=>False) w6).alloc (.cells #[int i64 (nAt b 6 2),int .u64 0,int .u64 0,int .u32 0,int .u32 0] 197)) id (fun _ _=>id)
 have HG:=hd_ (get_step p _ b 28 8 6 _ hrd (by decide) (by decide) (by decide) hlen)
 have HR:=hd_ hR
 have HA:=hd_ hA
 have HC:=hd_ hC
 have HLEN:=hd_ hlen
 clear hrd hR hC hlen hA
 go_wp2_with fail
 refine HG.out.mono ?_
 rintro e w7 ⟨rfl,hrd,hc'⟩
 have hC:=fresh_set HC.out hc' (by omega)
 have hR:=HR.out.chg hc' (by omega)
 have hlen:=HLEN.out
 have hA:=HA.out.chg hc' (by omega)
 clear HG HR HC HLEN HA hc'
 have HG:=hd_ (get_step p _ b 28 14 4 _ hrd (by decide) (by decide) (by decide) hlen)
 have HR:=hd_ hR
 have HA:=hd_ hA
 have HC:=hd_ hC
 have HLEN:=hd_ hlen
 clear hrd hR hC hlen hA
 go_wp2_with fail
 refine HG.out.mono ?_
 rintro e w8 ⟨rfl,hrd,hc'⟩
 have hC:=fresh_set HC.out hc' (by omega)
 have hR:=HR.out.chg hc' (by omega)
 have hlen:=HLEN.out
 have hA:=HA.out.chg hc' (by omega)
 clear HG HR HC HLEN HA hc'
 have hz6 : w.heap.size < w6.heap.size:=by omega
 obtain ⟨y0,y1,y2,y3,y4⟩:=arp_cells hA
 obtain ⟨f0,f1,f2,f3,f4⟩:=arp_free hA
 have hcs:=((Chg.refl (fun k=>k = w6.heap.size) w8).put w6.heap.size 1 (fun _=>rfl) (int .u64 (nAt b 8 6))).put w6.heap.size 3 (fun _=>rfl) (int .u32 (nAt b 14 4))
 have hC:=fresh_set hC hcs (by omega)
 have hR:=hR.chg hcs (by omega)
 have hA:=(hA.set 1 (int .u64 (nAt b 8 6))).set 3 (int .u32 (nAt b 14 4))
 have hrd:=hrd.chg hcs (by omega) (fun k hk=>by have:=hk.2; omega)
 simp only [arpC,List.setIfInBounds_toArray,List.set_cons_succ,List.set_cons_zero] at hA
 have hA : Blk _ _ 197 (arpC (nAt b 6 2) (nAt b 8 6) 0 (nAt b 14 4) 0):=hA
 clear hcs
 have HG:=hd_ (get_step p _ b 28 18 6 _ hrd (by decide) (by decide) (by decide) hlen)
 have HR:=hd_ hR
 have HA:=hd_ hA
 have HC:=hd_ hC
 have HLEN:=hd_ hlen
 clear hrd hR hC hlen hA
 go_wp2_with fail
 clear y0 y1 y2 y3 y4 f0 f1 f2 f3 f4
 refine HG.out.mono ?_
 rintro e w9 ⟨rfl,hrd,hc'⟩
 have hC:=fresh_set HC.out hc' (by omega)
 have hR:=HR.out.chg hc' (by omega)
 have hlen:=HLEN.out
 have hA:=HA.out.chg hc' (by omega)
 clear HG HR HC HLEN HA hc'
 have HG:=hd_ (get_step p _ b 28 24 4 _ hrd (by decide) (by decide) (by decide) hlen)
 have HR:=hd_ hR
 have HA:=hd_ hA
 have HC:=hd_ hC
 have HLEN:=hd_ hlen
 clear hrd hR hC hlen hA
 go_wp2_with fail
 refine HG.out.mono ?_
 rintro e w10 ⟨rfl,hrd,hc'⟩
 have hC:=fresh_set HC.out hc' (by omega)
 have hR:=HR.out.chg hc' (by omega)
 have hlen:=HLEN.out
 have hA:=HA.out.chg hc' (by omega)
 clear HG HR HC HLEN HA hc'
 obtain ⟨y0,y1,y2,y3,y4⟩:=arp_cells hA
 obtain ⟨f0,f1,f2,f3,f4⟩:=arp_free hA
 have hcs:=((Chg.refl (fun k=>k = w6.heap.size) w10).put w6.heap.size 2 (fun _=>rfl) (int .u64 (nAt b 18 6))).put w6.heap.size 4 (fun _=>rfl) (int .u32 (nAt b 24 4))
 have hC:=fresh_set hC hcs (by omega)
 have hR:=hR.chg hcs (by omega)
 have hA:=(hA.set 2 (int .u64 (nAt b 18 6))).set 4 (int .u32 (nAt b 24 4))
 have hrd:=hrd.chg hcs (by omega) (fun k hk=>by have:=hk.2; omega)
 simp only [arpC,List.setIfInBounds_toArray,List.set_cons_succ,List.set_cons_zero] at hA
 have hA : Blk _ _ 197 (arpC (nAt b 6 2) (nAt b 8 6) (nAt b 18 6) (nAt b 14 4) (nAt b 24 4)):=hA
 clear hcs
 obtain ⟨z0,z1,z2,z3,z4⟩:=arp_cells hA
 obtain ⟨x0,x1,x2,x3,x4⟩:=arp_cells hR
 obtain ⟨u0,u1,u2,u3,u4⟩:=arp_free hR
 obtain ⟨r0,r1,r2,r3,r4,hR',hcs⟩:=arp_put hR (nAt b 6 2) (nAt b 8 6) (nAt b 18 6) (nAt b 14 4) (nAt b 24 4)
 have HF:=hd_ (fresh_set hC hcs (Nat.le_refl _))
 have RR:=hd_ (And.intro r0 (And.intro r1 (And.intro r2 (And.intro r3 r4))))
 clear r0 r1 r2 r3 r4 hR' hcs hR hC hrd hlen hA
 go_wp2_with fail
 obtain ⟨r0,r1,r2,r3,r4⟩:=RR.out
 exact bodyPost_ret (v := .tuple #[.agg #[int i64 (nAt b 6 2),int .u64 (nAt b 8 6),int .u64 (nAt b 18 6),int .u32 (nAt b 14 4),int .u32 (nAt b 24 4)],int i64 0]) (by simp [results,Tryz.results107,go_sem,r0,r1,r2,r3,r4]) rfl ⟨by rw [decV_yes HE.out,HV.out],HF.out⟩
def decR (b : List UInt8) : Value:=if okA b then .tuple #[arpV b,int i64 0] else .tuple #[zeroA,int i64 2]
theorem decR_no {b : List UInt8} (h : okA b = false) : decR b = .tuple #[zeroA,int i64 2]:=by unfold decR; rw [h]; rfl
theorem decR_yes {b : List UInt8} (h : okA b = true) : decR b = .tuple #[arpV b,int i64 0]:=by unfold decR; rw [h]; rfl
theorem decR_short {b : List UInt8} (h : b.length < 28) : decR b = .tuple #[zeroA,int i64 2]:=decR_no (by unfold okA; simp; omega)
theorem decR_long {b : List UInt8} (h : 28 ≤ b.length) : decR b = decV b:=by
 unfold decR decV okA
 simp [h]
theorem adec_any (A : Option Addr) (n c : Nat) (b : List UInt8) (S : Nat → Prop) (w : World) (hn : n = b.length) (h : Rds w S A n (bcs b)) (hc : n ≤ c) (hcm : c ≤ maxLen) :
  Calls Tryz.prog 107 #[.slice A n c] w fun e w'=>e = .returned (decR b) ∧ Chg (fun _=>False) w w':=by
 by_cases h28 : n < 28
 ·rw [decR_short (by omega)]
  exact adec_short A n c w h28
 ·rw [decR_long (by omega)]
  exact adec_long A n c b S w hn h (by omega) hc hcm
def saysB (t op spa tpa : Int) : Bool:=(t == 32821 && saysR op) || (t == 2054 && saysA op spa tpa)
def annV (d s t : Int) (n : Nat) (l : List UInt8) : Value:=if rightB d s t n && (okA l && saysB t (aO l) (aP l) (aQ l)) then .tuple #[int .u64 (aS l), .bool true] else .tuple #[int .u64 0, .bool false]
theorem annV_no {d s t : Int} {n : Nat} {l : List UInt8} (h : (rightB d s t n && (okA l && saysB t (aO l) (aP l) (aQ l))) = false) : annV d s t n l = .tuple #[int .u64 0, .bool false]:=by unfold annV; rw [h]; rfl
theorem annV_yes {d s t : Int} {n : Nat} {l : List UInt8} (h : (rightB d s t n && (okA l && saysB t (aO l) (aP l) (aQ l))) = true) : annV d s t n l = .tuple #[int .u64 (aS l), .bool true]:=by unfold annV; rw [h]; rfl
theorem frame_kept {w w' : World} {g : Nat} {d s t : Int} {v : Value} (hb : Blk w g 34 #[int .u64 d,int .u64 s,int i64 t,v]) (h : Chg (fun _=>False) w w') :
  w'.cell? ⟨g,0,none⟩ = some (int .u64 d) ∧ w'.cell? ⟨g,1,none⟩ = some (int .u64 s) ∧ w'.cell? ⟨g,2,none⟩ = some (int i64 t) ∧ w'.cell? ⟨g,3,none⟩ = some v:=by
 have hb1:=hb.chg h id
 have x0:=hb1.cell 0
 have x1:=hb1.cell 1
 have x2:=hb1.cell 2
 have x3:=hb1.cell 3
 simp only [List.getElem?_toArray,List.getElem?_cons_zero,List.getElem?_cons_succ] at x0 x1 x2 x3
 exact ⟨x0,x1,x2,x3⟩
theorem ann_wrong (d s t : Int) (A : Option Addr) (n c : Nat) (l : List UInt8) (w : World) (hd : 0 ≤ d) (hs : 0 ≤ s) (hn : n ≤ 9223372036854775807) (hr : rightB d s t n = false) :
  Calls Tryz.prog 66 #[.agg #[int .u64 d,int .u64 s,int i64 t, .slice A n c]] w fun e w'=>e = .returned (annV d s t n l) ∧ Chg (fun _=>False) w w':=by
 rw [annV_no (by rw [hr]; rfl)]
 have HR:=hd_ hr
 clear hr
 go_enter Tryz.func66,Tryz.ntmps66
 go_wp2_with fail
 refine (right_any d s t A n c _ hd hs hn).mono ?_
 rw [HR.out]
 rintro e w' ⟨rfl,hc⟩
 go_wp2_with fail
 go_ret2
 exact ⟨rfl,((Chg.refl _ w).alloc _).trans hc (fun _ _ e=>e)⟩
theorem ann_none (d s t : Int) (A : Option Addr) (n c : Nat) (l : List UInt8) (S : Nat → Prop) (w : World) (hn : n = l.length) (h : Rds w S A n (bcs l)) (hc : n ≤ c) (hcm : c ≤ maxLen) (hd : 0 ≤ d) (hs : 0 ≤ s) (hr : rightB d s t n = true) (ho : okA l = false) :
  Calls Tryz.prog 66 #[.agg #[int .u64 d,int .u64 s,int i64 t, .slice A n c]] w fun e w'=>e = .returned (annV d s t n l) ∧ Chg (fun _=>False) w w':=by
 rw [annV_no (by rw [ho]; simp)]
 have HR:=hd_ hr
 have HO:=hd_ ho
 have hn2 : n ≤ 9223372036854775807:=by unfold maxLen at hcm; omega
 have hb0 : Blk (w.alloc (.cells #[int .u64 d,int .u64 s,int i64 t, .slice A n c] 34)) w.heap.size _ _:=Blk.new _ _ _
 have hC0:=(Chg.refl (fun _=>False) w).alloc (.cells #[int .u64 d,int .u64 s,int i64 t, .slice A n c] 34)
 have h0:=h.alloc (.cells #[int .u64 d,int .u64 s,int i64 t, .slice A n c] 34)
 have HB0:=hd_ hb0
 have HC0:=hd_ hC0
 have H0:=hd_ h0
 have HN:=hd_ hn
 clear hr ho hb0 hC0 h0 h hn
 go_enter Tryz.func66,Tryz.ntmps66
 go_wp2_with fail
 refine (right_any d s t A n c _ hd hs hn2).mono ?_
 rw [HR.out]
 rintro e w1 ⟨rfl,hc1⟩
 obtain ⟨x0,x1,x2,x3⟩:=frame_kept HB0.out hc1
 have HD:=hd_ (adec_any A n c l _ w1 HN.out (H0.out.chg hc1 (fun _ _=>id)) hc hcm)
 go_wp2_with fail
 refine HD.out.mono ?_
 rw [decR_no HO.out]
 unfold zeroA
 rintro e w2 ⟨rfl,hc2⟩
 have hC:=hd_ ((HC0.out.trans hc1 (fun _ _ e=>e)).trans hc2 (fun _ _ e=>e))
 clear hc1 hc2 x0 x1 x2 x3
 go_wp2_with fail
 go_ret2
 exact ⟨rfl,hC.out.alloc _⟩
theorem ann_kept {w w' : World} {q : Nat} {op sha tha spa tpa : Int} {T : TypeId} (hb : Blk w q T (arpC op sha tha spa tpa)) (h : Chg (fun _=>False) w w') :
  w'.cell? ⟨q,0,none⟩ = some (int i64 op) ∧ w'.cell? ⟨q,1,none⟩ = some (int .u64 sha) ∧ w'.cell? ⟨q,2,none⟩ = some (int .u64 tha) ∧ w'.cell? ⟨q,3,none⟩ = some (int .u32 spa) ∧ w'.cell? ⟨q,4,none⟩ = some (int .u32 tpa):=arp_cells (hb.chg h id)
theorem ann_some (d s t : Int) (A : Option Addr) (n c : Nat) (l : List UInt8) (S : Nat → Prop) (w : World) (hn : n = l.length) (h : Rds w S A n (bcs l)) (hc : n ≤ c) (hcm : c ≤ maxLen) (hd : 0 ≤ d) (hs : 0 ≤ s) (hr : rightB d s t n = true) (ho : okA l = true) :
  Calls Tryz.prog 66 #[.agg #[int .u64 d,int .u64 s,int i64 t, .slice A n c]] w fun e w'=>e = .returned (annV d s t n l) ∧ Chg (fun _=>False) w w':=by
 have HR:=hd_ hr
 have HO:=hd_ ho
 have hn2 : n ≤ 9223372036854775807:=by unfold maxLen at hcm; omega
 have hb0 : Blk (w.alloc (.cells #[int .u64 d,int .u64 s,int i64 t, .slice A n c] 34)) w.heap.size _ _:=Blk.new _ _ _
 have hC0:=(Chg.refl (fun _=>False) w).alloc (.cells #[int .u64 d,int .u64 s,int i64 t, .slice A n c] 34)
 have h0:=h.alloc (.cells #[int .u64 d,int .u64 s,int i64 t, .slice A n c] 34)
 have HB0:=hd_ hb0
 have HC0:=hd_ hC0
 have H0:=hd_ h0
 have HN:=hd_ hn
 have HV0 : Hid (saysB t (aO l) (aP l) (aQ l) = false → annV d s t n l = .tuple #[int .u64 0, .bool false]):=fun hf=>annV_no (by rw [hf]; simp)
 have HV1 : Hid (saysB t (aO l) (aP l) (aQ l) = true → annV d s t n l = .tuple #[int .u64 (aS l), .bool true]):=fun hf=>annV_yes (by rw [hf,hr,ho]; rfl)
 have HAV : Hid (decR l = .tuple #[.agg #[int i64 (aO l),int .u64 (aS l),int .u64 (aT l),int .u32 (aP l),int .u32 (aQ l)],int i64 0]):=decR_yes ho
 generalize annV d s t n l = V at *
 generalize aO l = op at *
 generalize aS l = sha at *
 generalize aT l = tha at *
 generalize aP l = spa at *
 generalize aQ l = tpa at *
 clear hr ho hb0 hC0 h0 h hn
 go_enter Tryz.func66,Tryz.ntmps66
 go_wp2_with fail
 refine (right_any d s t A n c _ hd hs hn2).mono ?_
 rw [HR.out]
 rintro e w1 ⟨rfl,hc1⟩
 obtain ⟨x0,x1,x2,x3⟩:=frame_kept HB0.out hc1
 have HD:=hd_ (adec_any A n c l _ w1 HN.out (H0.out.chg hc1 (fun _ _=>id)) hc hcm)
 go_wp2_with fail
 refine HD.out.mono ?_
 rw [HAV.out]
 rintro e w2 ⟨rfl,hc2⟩
 have hC:=(HC0.out.trans hc1 (fun _ _ e=>e)).trans hc2 (fun _ _ e=>e)
 have hF:=HB0.out.chg (hc1.trans hc2 (fun _ _ e=>e)) id
 clear hc1 hc2 x0 x1 x2 x3 HB0 HC0 H0 HN HD HAV HR HO
 have hq0 : Blk (w2.alloc (.cells #[int i64 op,int .u64 sha,int .u64 tha,int .u32 spa,int .u32 tpa] 197)) w2.heap.size 197 (arpC op sha tha spa tpa):=blk_new rfl
 have hF:=hF.alloc (.cells #[int i64 op,int .u64 sha,int .u64 tha,int .u32 spa,int .u32 tpa] 197)
 have hC:=hC.alloc (.cells #[int i64 op,int .u64 sha,int .u64 tha,int .u32 spa,int .u32 tpa] 197)
 go_wp2_with fail
 generalize (w2.alloc (.cells #[int i64 op,int .u64 sha,int .u64 tha,int .u32 spa,int .u32 tpa] 197)) = w3 at *
 obtain ⟨x0,x1,x2,x3⟩:=frame_kept hF (Chg.refl _ w3)
 obtain ⟨y0,y1,y2,y3,y4⟩:=arp_cells hq0
 by_cases t1 : t = 32821
 ·subst t1
  have HS : Hid (saysB 32821 op spa tpa = saysR op):=by unfold Hid saysB; simp
  go_region_held3 (fun w'=>w'.cell? ⟨w.heap.size,2,none⟩ = some (int i64 32821) ∧ w'.cell? ⟨w2.heap.size,0,none⟩ = some (int i64 op) ∧ w'.cell? ⟨w2.heap.size,1,none⟩ = some (int .u64 sha) ∧ w'.cell? ⟨w2.heap.size,2,none⟩ = some (int .u64 tha) ∧ w'.cell? ⟨w2.heap.size,3,none⟩ = some (int .u32 spa) ∧ w'.cell? ⟨w2.heap.size,4,none⟩ = some (int .u32 tpa))
   (first | exact ⟨x2,y0,y1,y2,y3,y4⟩ | exact ⟨(frame_kept hF (Chg.refl _ _).drew).2.2.1,ann_kept hq0 (Chg.refl _ _).drew⟩ | exact ⟨(frame_kept hF hc4).2.2.1,ann_kept hq0 hc4⟩ | exact ⟨(frame_kept hF ((Chg.refl _ _).drew.trans hc4 (fun _ _ e=>e))).2.2.1,ann_kept hq0 ((Chg.refl _ _).drew.trans hc4 (fun _ _ e=>e))⟩ | fail)
   (first | (go_at_call 108; refine (sayers_any op sha tha spa tpa _).mono ?_; rintro e w4 ⟨q,m,rfl,hbq,hmm,hc4⟩; have hl:=hmm.hit (P:=Tryz.prog) (x:=32821) (i:=0) (v := .func (.func 131) #[] #[.pointer (some ⟨q,0,none⟩)]) Tryz.underlying201 Tryz.underlying3 rfl) | fail)
  have hcx : Chg (fun _=>False) w3 w4:=by first | exact hc4 | exact (Chg.refl _ _).drew.trans hc4 (fun _ _ e=>e)
  obtain ⟨z0,z1,z2,z3,z4⟩:=ann_kept hq0 hcx
  have hCC:=hC.trans hcx (fun _ _ e=>e)
  go_wp2_with fail
  refine (says_r q op sha tha spa tpa w4 hbq).mono ?_
  rintro e w5 ⟨rfl,rfl⟩
  rcases hv : saysR op with _ | _
  ·go_wp2_with fail
   go_ret2
   exact ⟨by rw [HV0.out (HS.out.trans hv)]; rfl,hCC⟩
  ·go_wp2_with fail
   go_ret2
   exact ⟨by rw [HV1.out (HS.out.trans hv)]; rfl,hCC⟩
 ·by_cases t2 : t = 2054
  ·subst t2
   have HS : Hid (saysB 2054 op spa tpa = saysA op spa tpa):=by unfold Hid saysB; simp
   go_region_held3 (fun w'=>w'.cell? ⟨w.heap.size,2,none⟩ = some (int i64 2054) ∧ w'.cell? ⟨w2.heap.size,0,none⟩ = some (int i64 op) ∧ w'.cell? ⟨w2.heap.size,1,none⟩ = some (int .u64 sha) ∧ w'.cell? ⟨w2.heap.size,2,none⟩ = some (int .u64 tha) ∧ w'.cell? ⟨w2.heap.size,3,none⟩ = some (int .u32 spa) ∧ w'.cell? ⟨w2.heap.size,4,none⟩ = some (int .u32 tpa))
    (first | exact ⟨x2,y0,y1,y2,y3,y4⟩ | exact ⟨(frame_kept hF (Chg.refl _ _).drew).2.2.1,ann_kept hq0 (Chg.refl _ _).drew⟩ | exact ⟨(frame_kept hF hc4).2.2.1,ann_kept hq0 hc4⟩ | exact ⟨(frame_kept hF ((Chg.refl _ _).drew.trans hc4 (fun _ _ e=>e))).2.2.1,ann_kept hq0 ((Chg.refl _ _).drew.trans hc4 (fun _ _ e=>e))⟩ | fail)
    (first | (go_at_call 108; refine (sayers_any op sha tha spa tpa _).mono ?_; rintro e w4 ⟨q,m,rfl,hbq,hmm,hc4⟩; have hl:=hmm.hit (P:=Tryz.prog) (x:=2054) (i:=1) (v := .func (.func 132) #[] #[.pointer (some ⟨q,0,none⟩)]) Tryz.underlying201 Tryz.underlying3 rfl) | fail)
   have hcx : Chg (fun _=>False) w3 w4:=by first | exact hc4 | exact (Chg.refl _ _).drew.trans hc4 (fun _ _ e=>e)
   obtain ⟨z0,z1,z2,z3,z4⟩:=ann_kept hq0 hcx
   have hCC:=hC.trans hcx (fun _ _ e=>e)
   go_wp2_with fail
   refine (says_a q op sha tha spa tpa w4 hbq).mono ?_
   rintro e w5 ⟨rfl,rfl⟩
   rcases hv : saysA op spa tpa with _ | _
   ·go_wp2_with fail
    go_ret2
    exact ⟨by rw [HV0.out (HS.out.trans hv)]; rfl,hCC⟩
   ·go_wp2_with fail
    go_ret2
    exact ⟨by rw [HV1.out (HS.out.trans hv)]; rfl,hCC⟩
  ·have HS:=hd_ (show saysB t op spa tpa = false by unfold saysB; simp [t1,t2])
   have hfn : ∀ q,Instr.findNow (.int .i64) (int i64 t) (sayers q).toList 0 = some none:=by intro q; have e1 : (t == 32821) = false:=(by simpa using t1); have e2 : (t == 2054) = false:=(by simpa using t2); simp [sayers,Instr.findNow,Instr.sameNow,e1,e2]
   have hzf : ∀ W : World,(zeroValue 28).run Tryz.prog W = .ok .nilFunc W:=fun _=>by kernel_rfl
   have HFN:=hd_ hfn
   have HZF:=hd_ hzf
   clear hfn hzf t1 t2
   go_region_held3 (fun w'=>w'.cell? ⟨w.heap.size,2,none⟩ = some (int i64 t) ∧ w'.cell? ⟨w2.heap.size,0,none⟩ = some (int i64 op) ∧ w'.cell? ⟨w2.heap.size,1,none⟩ = some (int .u64 sha) ∧ w'.cell? ⟨w2.heap.size,2,none⟩ = some (int .u64 tha) ∧ w'.cell? ⟨w2.heap.size,3,none⟩ = some (int .u32 spa) ∧ w'.cell? ⟨w2.heap.size,4,none⟩ = some (int .u32 tpa))
    (first | exact ⟨x2,y0,y1,y2,y3,y4⟩ | exact ⟨(frame_kept hF (Chg.refl _ _).drew).2.2.1,ann_kept hq0 (Chg.refl _ _).drew⟩ | exact ⟨(frame_kept hF hc4).2.2.1,ann_kept hq0 hc4⟩ | exact ⟨(frame_kept hF ((Chg.refl _ _).drew.trans hc4 (fun _ _ e=>e))).2.2.1,ann_kept hq0 ((Chg.refl _ _).drew.trans hc4 (fun _ _ e=>e))⟩ | fail)
    (first | (go_at_call 108; refine (sayers_any op sha tha spa tpa _).mono ?_; rintro e w4 ⟨q,m,rfl,hbq,hmm,hc4⟩; have hl:=hmm.miss (P:=Tryz.prog) (x:=t) (z := .nilFunc) Tryz.underlying201 Tryz.underlying3 (HZF.out w4) (HFN.out q)) | fail)
   have hcx : Chg (fun _=>False) w3 w4:=by first | exact hc4 | exact (Chg.refl _ _).drew.trans hc4 (fun _ _ e=>e)
   have hCC:=hC.trans hcx (fun _ _ e=>e)
   go_wp2_with fail
   go_ret2
   exact ⟨by rw [HV0.out HS.out]; rfl,hCC⟩
theorem ann_any (d s t : Int) (A : Option Addr) (n c : Nat) (l : List UInt8) (S : Nat → Prop) (w : World) (hn : n = l.length) (h : Rds w S A n (bcs l)) (hc : n ≤ c) (hcm : c ≤ maxLen) (hd : 0 ≤ d) (hs : 0 ≤ s) :
  Calls Tryz.prog 66 #[.agg #[int .u64 d,int .u64 s,int i64 t, .slice A n c]] w fun e w'=>e = .returned (annV d s t n l) ∧ Chg (fun _=>False) w w':=by
 by_cases hr : rightB d s t n = true
 ·by_cases ho : okA l = true
  ·exact ann_some d s t A n c l S w hn h hc hcm hd hs hr ho
  ·exact ann_none d s t A n c l S w hn h hc hcm hd hs hr (by simpa using ho)
 ·exact ann_wrong d s t A n c l w hd hs (by unfold maxLen at hcm; omega) (by simpa using hr)
theorem fr_put {w : World} {r : Nat} {T : TypeId} {d s t : Int} {v : Value} (hb : Blk w r T #[int .u64 d,int .u64 s,int i64 t,v]) (d' s' t' : Int) (v' : Value) :
  (w.setCell ⟨r,0,none⟩ (int .u64 d')).cell? ⟨r,0,none⟩ = some (int .u64 d') ∧
  ((w.setCell ⟨r,0,none⟩ (int .u64 d')).setCell ⟨r,1,none⟩ (int .u64 s')).cell? ⟨r,1,none⟩ = some (int .u64 s') ∧
  (((w.setCell ⟨r,0,none⟩ (int .u64 d')).setCell ⟨r,1,none⟩ (int .u64 s')).setCell ⟨r,2,none⟩ (int i64 t')).cell? ⟨r,2,none⟩ = some (int i64 t') ∧
  ((((w.setCell ⟨r,0,none⟩ (int .u64 d')).setCell ⟨r,1,none⟩ (int .u64 s')).setCell ⟨r,2,none⟩ (int i64 t')).setCell ⟨r,3,none⟩ v').cell? ⟨r,3,none⟩ = some v' ∧
  Blk ((((w.setCell ⟨r,0,none⟩ (int .u64 d')).setCell ⟨r,1,none⟩ (int .u64 s')).setCell ⟨r,2,none⟩ (int i64 t')).setCell ⟨r,3,none⟩ v') r T #[int .u64 d',int .u64 s',int i64 t',v'] ∧
  Chg (fun k=>k = r) w ((((w.setCell ⟨r,0,none⟩ (int .u64 d')).setCell ⟨r,1,none⟩ (int .u64 s')).setCell ⟨r,2,none⟩ (int i64 t')).setCell ⟨r,3,none⟩ v'):=by
 have r0:=(hb.set 0 (int .u64 d')).cell 0
 have r1:=((hb.set 0 (int .u64 d')).set 1 (int .u64 s')).cell 1
 have r2:=(((hb.set 0 (int .u64 d')).set 1 (int .u64 s')).set 2 (int i64 t')).cell 2
 have h4:=((((hb.set 0 (int .u64 d')).set 1 (int .u64 s')).set 2 (int i64 t')).set 3 v')
 have r3:=h4.cell 3
 simp only [List.setIfInBounds_toArray,List.set_cons_succ,List.set_cons_zero,List.getElem?_toArray,List.getElem?_cons_zero,List.getElem?_cons_succ] at r0 r1 r2 r3 h4
 exact ⟨r0,r1,r2,r3,h4,((((Chg.refl (fun k=>k = r) w).put r 0 (fun _=>rfl) _).put r 1 (fun _=>rfl) _).put r 2 (fun _=>rfl) _).put r 3 (fun _=>rfl) _⟩
theorem fr_cells {w : World} {r : Nat} {T : TypeId} {d s t : Int} {v : Value} (hb : Blk w r T #[int .u64 d,int .u64 s,int i64 t,v]) :
  (w.cell? ⟨r,0,none⟩ = some (int .u64 d) ∧ w.cell? ⟨r,1,none⟩ = some (int .u64 s) ∧ w.cell? ⟨r,2,none⟩ = some (int i64 t) ∧ w.cell? ⟨r,3,none⟩ = some v) ∧
  w.frozen? ⟨r,0,none⟩ = false ∧ w.frozen? ⟨r,1,none⟩ = false ∧ w.frozen? ⟨r,2,none⟩ = false ∧ w.frozen? ⟨r,3,none⟩ = false:=by
 have x0:=hb.cell 0
 have x1:=hb.cell 1
 have x2:=hb.cell 2
 have x3:=hb.cell 3
 simp only [List.getElem?_toArray,List.getElem?_cons_zero,List.getElem?_cons_succ] at x0 x1 x2 x3
 exact ⟨⟨x0,x1,x2,x3⟩,hb.frozen 0,hb.frozen 1,hb.frozen 2,hb.frozen 3⟩
def Rarped (mac : Int) (w : World) (e : Ending) (w' : World) : Prop :=
 ∃ A c,e = .returned (.tuple #[.agg #[int .u64 281474976710655,int .u64 mac,int i64 32821, .slice A 28 c],int i64 0]) ∧ w'.ownsRow w.heap.size 5 1 (.slice A 28 c) 28 (bcs (arpB 3 mac mac 0 0)) ∧ Chg (fun _=>False) w w'
theorem rbytes3_any (op sha tha spa tpa : Int) (w : World) (ho : 0 ≤ op) (ho2 : op ≤ 65535) (hs : 0 ≤ sha) (hs2 : sha ≤ 281474976710655) (ht : 0 ≤ tha) (ht2 : tha ≤ 281474976710655) (hp : 0 ≤ spa) (hp2 : spa ≤ 4294967295) (hq : 0 ≤ tpa) (hq2 : tpa ≤ 4294967295) :
  Calls Tryz.prog 39 #[.agg (arpC op sha tha spa tpa)] w fun e w' => ∃ A c,e = .returned (.slice A 28 c) ∧ w'.ownsRow w.heap.size 5 1 (.slice A 28 c) 28 (bcs (arpB op sha tha spa tpa)) ∧ Chg (fun _=>False) w w':=by
 obtain ⟨i0,hi0,hz0,hz1,hz2⟩:=info_parts infoByte
 unfold arpC
 have hb0 : Blk (w.alloc (.cells #[int i64 op,int .u64 sha,int .u64 tha,int .u32 spa,int .u32 tpa] 110)) w.heap.size 110 (arpC op sha tha spa tpa):=blk_new rfl
 have hC:=((Chg.refl (fun _=>False) w).alloc (.cells #[int i64 op,int .u64 sha,int .u64 tha,int .u32 spa,int .u32 tpa] 110)).alloc (.cells #[int .u8 0,int .u8 1,int .u8 8,int .u8 0,int .u8 6,int .u8 4] 5)
 have hCb:=(Chg.refl (fun _=>False) (w.alloc (.cells #[int i64 op,int .u64 sha,int .u64 tha,int .u32 spa,int .u32 tpa] 110))).alloc (.cells #[int .u8 0,int .u8 1,int .u8 8,int .u8 0,int .u8 6,int .u8 4] 5)
 have hown : ((w.alloc (.cells #[int i64 op,int .u64 sha,int .u64 tha,int .u32 spa,int .u32 tpa] 110)).alloc (.cells #[int .u8 0,int .u8 1,int .u8 8,int .u8 0,int .u8 6,int .u8 4] 5)).ownsRow (w.heap.size + 1) 5 1 (.slice (some ⟨w.heap.size + 1,0,none⟩) 6 6) 6 (bcs head6) :=
  ⟨rfl, .inr ⟨w.heap.size + 1,6,#[int .u8 0,int .u8 1,int .u8 8,int .u8 0,int .u8 6,int .u8 4],rfl,Nat.le_refl _,by simpa using heap_alloc_new (w.alloc (.cells #[int i64 op,int .u64 sha,int .u64 tha,int .u32 spa,int .u32 tpa] 110)) (.cells #[int .u8 0,int .u8 1,int .u8 8,int .u8 0,int .u8 6,int .u8 4] 5),by decide,by decide,rfl,rfl⟩⟩
 have hz : (w.alloc (.cells #[int i64 op,int .u64 sha,int .u64 tha,int .u32 spa,int .u32 tpa] 110)).heap.size = w.heap.size + 1:=by simp
 have HB:=hd_ hb0
 obtain ⟨y0,y1,y2,y3,y4⟩:=arp_kept hb0 hCb
 have HC:=hd_ hC
 have HCb:=hd_ hCb
 have HO:=hd_ hown
 clear hb0 hC hCb hown
 go_enter Tryz.func39,Tryz.ntmps39
 go_wp2_with fail
 refine (one_any 2 op _ (by decide) (by decide) (by omega)).mono ?_
 rintro e v0 ⟨A0,k0,c0,rfl,rfl,hown0,hc0⟩
 have hC:=HC.out.trans hc0 (fun _ _ e=>e)
 have hCb:=HCb.out.trans hc0 (fun _ _ e=>e)
 have hown:=own_chg HO.out hc0 (fun _ _=>id)
 have hsz:=hCb.size
 rw [hz] at hsz
 have hr:=own_rds2 hown0
 clear hc0 hown0 HC HCb HO
 clear y0 y1 y2 y3 y4
 go_wp2_with (at_builtin; refine wpList_own_append _ rfl (.tmp 5) (.tmp 8) 31 rfl _ 5 i0 (int .u8 0) 1 Tryz.underlying31 hi0 hz0 hz1 hz2 rfl (.slice (some ⟨w.heap.size + 1,0,none⟩) 6 6) 6 _ rfl hown _ A0 2 c0 _ rfl hr (bcs_one _) (by decide) (by decide) hsz ?_; intro vv u0 hown' hg hat; obtain ⟨D0,dc0,rfl,_,_⟩:=own_form hown'; have hC':=grown_fresh hC hg hown (Nat.le_succ _); have hCb':=grown_fresh hCb hg hown (by rw [hz]; exact Nat.le_refl _); have HO:=hd_ hown'; have HC:=hd_ hC'; have HCb:=hd_ hCb'; obtain ⟨y0,y1,y2,y3,y4⟩:=arp_kept HB.out hCb'; clear hown' hC' hCb' hg hat hown hr hC hCb hsz)
 refine (one_any 6 sha _ (by decide) (by decide) (by omega)).mono ?_
 rintro e v1 ⟨A1,k1,c1,rfl,rfl,hown1,hc1⟩
 have hC:=HC.out.trans hc1 (fun _ _ e=>e)
 have hCb:=HCb.out.trans hc1 (fun _ _ e=>e)
 have hown:=own_chg HO.out hc1 (fun _ _=>id)
 have hsz:=hCb.size
 rw [hz] at hsz
 have hr:=own_rds2 hown1
 clear hc1 hown1 HC HCb HO
 clear y0 y1 y2 y3 y4
 go_wp2_with (at_builtin; refine wpList_own_append _ rfl (.tmp 10) (.tmp 14) 31 rfl _ 5 i0 (int .u8 0) 1 Tryz.underlying31 hi0 hz0 hz1 hz2 rfl (.slice D0 8 dc0) 8 _ rfl hown _ A1 6 c1 _ rfl hr (bcs_one _) (by decide) (by decide) hsz ?_; intro vv u1 hown' hg hat; obtain ⟨D1,dc1,rfl,_,_⟩:=own_form hown'; have hC':=grown_fresh hC hg hown (Nat.le_succ _); have hCb':=grown_fresh hCb hg hown (by rw [hz]; exact Nat.le_refl _); have HO:=hd_ hown'; have HC:=hd_ hC'; have HCb:=hd_ hCb'; obtain ⟨y0,y1,y2,y3,y4⟩:=arp_kept HB.out hCb'; clear hown' hC' hCb' hg hat hown hr hC hCb hsz)
 refine (one_any 4 spa _ (by decide) (by decide) (by omega)).mono ?_
 rintro e v2 ⟨A2,k2,c2,rfl,rfl,hown2,hc2⟩
 have hC:=HC.out.trans hc2 (fun _ _ e=>e)
 have hCb:=HCb.out.trans hc2 (fun _ _ e=>e)
 have hown:=own_chg HO.out hc2 (fun _ _=>id)
 have hsz:=hCb.size
 rw [hz] at hsz
 have hr:=own_rds2 hown2
 clear hc2 hown2 HC HCb HO
 clear y0 y1 y2 y3 y4
 go_wp2_with (at_builtin; refine wpList_own_append _ rfl (.tmp 16) (.tmp 20) 31 rfl _ 5 i0 (int .u8 0) 1 Tryz.underlying31 hi0 hz0 hz1 hz2 rfl (.slice D1 14 dc1) 14 _ rfl hown _ A2 4 c2 _ rfl hr (bcs_one _) (by decide) (by decide) hsz ?_; intro vv u2 hown' hg hat; obtain ⟨D2,dc2,rfl,_,_⟩:=own_form hown'; have hC':=grown_fresh hC hg hown (Nat.le_succ _); have hCb':=grown_fresh hCb hg hown (by rw [hz]; exact Nat.le_refl _); have HO:=hd_ hown'; have HC:=hd_ hC'; have HCb:=hd_ hCb'; obtain ⟨y0,y1,y2,y3,y4⟩:=arp_kept HB.out hCb'; clear hown' hC' hCb' hg hat hown hr hC hCb hsz)
 refine (one_any 6 tha _ (by decide) (by decide) (by omega)).mono ?_
 rintro e v3 ⟨A3,k3,c3,rfl,rfl,hown3,hc3⟩
 have hC:=HC.out.trans hc3 (fun _ _ e=>e)
 have hCb:=HCb.out.trans hc3 (fun _ _ e=>e)
 have hown:=own_chg HO.out hc3 (fun _ _=>id)
 have hsz:=hCb.size
 rw [hz] at hsz
 have hr:=own_rds2 hown3
 clear hc3 hown3 HC HCb HO
 clear y0 y1 y2 y3 y4
 go_wp2_with (at_builtin; refine wpList_own_append _ rfl (.tmp 22) (.tmp 26) 31 rfl _ 5 i0 (int .u8 0) 1 Tryz.underlying31 hi0 hz0 hz1 hz2 rfl (.slice D2 18 dc2) 18 _ rfl hown _ A3 6 c3 _ rfl hr (bcs_one _) (by decide) (by decide) hsz ?_; intro vv u3 hown' hg hat; obtain ⟨D3,dc3,rfl,_,_⟩:=own_form hown'; have hC':=grown_fresh hC hg hown (Nat.le_succ _); have hCb':=grown_fresh hCb hg hown (by rw [hz]; exact Nat.le_refl _); have HO:=hd_ hown'; have HC:=hd_ hC'; have HCb:=hd_ hCb'; obtain ⟨y0,y1,y2,y3,y4⟩:=arp_kept HB.out hCb'; clear hown' hC' hCb' hg hat hown hr hC hCb hsz)
 refine (one_any 4 tpa _ (by decide) (by decide) (by omega)).mono ?_
 rintro e v4 ⟨A4,k4,c4,rfl,rfl,hown4,hc4⟩
 have hC:=HC.out.trans hc4 (fun _ _ e=>e)
 have hCb:=HCb.out.trans hc4 (fun _ _ e=>e)
 have hown:=own_chg HO.out hc4 (fun _ _=>id)
 have hsz:=hCb.size
 rw [hz] at hsz
 have hr:=own_rds2 hown4
 clear hc4 hown4 HC HCb HO
 clear y0 y1 y2 y3 y4
 go_wp2_with (at_builtin; refine wpList_own_append _ rfl (.tmp 28) (.tmp 32) 31 rfl _ 5 i0 (int .u8 0) 1 Tryz.underlying31 hi0 hz0 hz1 hz2 rfl (.slice D3 24 dc3) 24 _ rfl hown _ A4 4 c4 _ rfl hr (bcs_one _) (by decide) (by decide) hsz ?_; intro vv u4 hown' hg hat; obtain ⟨D4,dc4,rfl,_,_⟩:=own_form hown'; have hC':=grown_fresh hC hg hown (Nat.le_succ _); have hCb':=grown_fresh hCb hg hown (by rw [hz]; exact Nat.le_refl _); have HO:=hd_ hown'; have HC:=hd_ hC'; have HCb:=hd_ hCb'; obtain ⟨y0,y1,y2,y3,y4⟩:=arp_kept HB.out hCb'; clear hown' hC' hCb' hg hat hown hr hC hCb hsz)
 go_ret
 refine ⟨D4,dc4,rfl, ?_,HC.out⟩
 have e : bcs (arpB op sha tha spa tpa) = bcs head6 ++ bcs (be 2 op.toNat) ++ bcs (be 6 sha.toNat) ++ bcs (be 4 spa.toNat) ++ bcs (be 6 tha.toNat) ++ bcs (be 4 tpa.toNat):=by
  unfold arpB
  simp only [bcs_app,List.append_assoc]
 rw [e]
 exact own_base HO.out (Nat.le_succ _)
theorem rrarp_no (mac : Int) (w : World) (hm : 281474976710655 < mac) (hm2 : mac ≤ 18446744073709551615) :
  Calls Tryz.prog 19 #[int .u64 mac] w fun e w'=>e = .returned (.tuple #[zeroF,int i64 1]) ∧ Chg (fun _=>False) w w':=by
 have hE:=fun W=>rright3_any 3 mac mac 0 0 W (by omega) (by omega)
 rw [show arpR 3 mac mac = false by unfold arpR; simp; omega] at hE
 have HE:=hd_ hE
 have hR0 : Blk (w.alloc (.cells #[int .u64 0,int .u64 0,int i64 0, .slice none 0 0] 34)) w.heap.size 34 _:=Blk.new _ _ _
 have hR1:=hR0.alloc (.cells #[int i64 3,int .u64 mac,int .u64 mac,int .u32 0,int .u32 0] 110)
 have hC0:=((Chg.refl (fun _=>False) w).alloc (.cells #[int .u64 0,int .u64 0,int i64 0, .slice none 0 0] 34)).alloc (.cells #[int i64 3,int .u64 mac,int .u64 mac,int .u32 0,int .u32 0] 110)
 have hA0 : Blk ((w.alloc (.cells #[int .u64 0,int .u64 0,int i64 0, .slice none 0 0] 34)).alloc (.cells #[int i64 3,int .u64 mac,int .u64 mac,int .u32 0,int .u32 0] 110)) (w.heap.size + 1) 110 (arpC 3 mac mac 0 0):=blk_new (by simp)
 have HR0:=hd_ hR1
 have HC0:=hd_ hC0
 obtain ⟨a0,a1,a2,a3,a4⟩:=arp_cells hA0
 clear hE hR0 hR1 hC0 hA0
 go_enter Tryz.func19,Tryz.ntmps19
 go_wp2_with fail
 refine (HE.out _).mono ?_
 rintro e w1 ⟨rfl,hc1⟩
 have hC:=HC0.out.trans hc1 (fun _ _ e=>e)
 have hR:=HR0.out.chg hc1 id
 obtain ⟨⟨x0,x1,x2,x3⟩,u0,u1,u2,u3⟩:=fr_cells hR
 obtain ⟨r0,r1,r2,r3,_,hcs⟩:=fr_put hR 0 0 0 (.slice none 0 0)
 have HF:=hd_ (fresh_set hC hcs (Nat.le_refl _))
 have RR:=hd_ (And.intro r0 (And.intro r1 (And.intro r2 r3)))
 clear r0 r1 r2 r3 hcs hC hR hc1 HE HR0 HC0 a0 a1 a2 a3 a4
 go_wp2_with fail
 obtain ⟨r0,r1,r2,r3⟩:=RR.out
 exact bodyPost_ret (v := .tuple #[zeroF,int i64 1]) (by simp [results,Tryz.results19,go_sem,zeroF,r0,r1,r2,r3]) rfl ⟨rfl,HF.out⟩
theorem rrarp_yes (mac : Int) (w : World) (h0 : 0 ≤ mac) (hm : mac ≤ 281474976710655) :
  Calls Tryz.prog 19 #[int .u64 mac] w (Rarped mac w):=by
 have hE:=fun W=>rright3_any 3 mac mac 0 0 W (by omega) (by omega)
 rw [show arpR 3 mac mac = true by unfold arpR; simp; omega] at hE
 have hB:=fun W=>rbytes3_any 3 mac mac 0 0 W (by omega) (by omega) h0 hm h0 hm (by omega) (by omega) (by omega) (by omega)
 have HE:=hd_ hE
 have HBY:=hd_ hB
 have hR0 : Blk (w.alloc (.cells #[int .u64 0,int .u64 0,int i64 0, .slice none 0 0] 34)) w.heap.size 34 _:=Blk.new _ _ _
 have hR1:=hR0.alloc (.cells #[int i64 3,int .u64 mac,int .u64 mac,int .u32 0,int .u32 0] 110)
 have hC0:=((Chg.refl (fun _=>False) w).alloc (.cells #[int .u64 0,int .u64 0,int i64 0, .slice none 0 0] 34)).alloc (.cells #[int i64 3,int .u64 mac,int .u64 mac,int .u32 0,int .u32 0] 110)
 have hA0 : Blk ((w.alloc (.cells #[int .u64 0,int .u64 0,int i64 0, .slice none 0 0] 34)).alloc (.cells #[int i64 3,int .u64 mac,int .u64 mac,int .u32 0,int .u32 0] 110)) (w.heap.size + 1) 110 (arpC 3 mac mac 0 0):=blk_new (by simp)
 have HR0:=hd_ hR1
 have HC0:=hd_ hC0
 have HA0:=hd_ hA0
 have HZ : Hid (((w.alloc (.cells #[int .u64 0,int .u64 0,int i64 0, .slice none 0 0] 34)).alloc (.cells #[int i64 3,int .u64 mac,int .u64 mac,int .u32 0,int .u32 0] 110)).heap.size = w.heap.size + 2):=by unfold Hid; simp
 obtain ⟨a0,a1,a2,a3,a4⟩:=arp_cells hA0
 clear hE hB hR0 hR1 hC0 hA0
 go_enter Tryz.func19,Tryz.ntmps19
 go_wp2_with fail
 refine (HE.out _).mono ?_
 rintro e w1 ⟨rfl,hc1⟩
 clear a0 a1 a2 a3 a4
 obtain ⟨a0,a1,a2,a3,a4⟩:=arp_kept HA0.out hc1
 have HC1:=hd_ hc1
 clear hc1
 go_wp2_with fail
 refine (HBY.out _).mono ?_
 rintro e w2 ⟨A,c,rfl,hown,hc2⟩
 have hc1:=HC1.out
 have hC:=(HC0.out.trans hc1 (fun _ _ e=>e)).trans hc2 (fun _ _ e=>e)
 have hR:=(HR0.out.chg hc1 id).chg hc2 id
 have hz:=HZ.out
 have hz1:=hc1.size
 obtain ⟨⟨x0,x1,x2,x3⟩,u0,u1,u2,u3⟩:=fr_cells hR
 obtain ⟨r0,r1,r2,r3,_,hcs⟩:=fr_put hR 281474976710655 mac 32821 (.slice A 28 c)
 have hown2:=own_base (own_chg hown hcs (fun k hk e=>by have:=(hown.lt k (by rw [own_block]; exact hk)).1; omega)) (b':=w.heap.size) (by omega)
 have HF:=hd_ (And.intro hown2 (fresh_set hC hcs (Nat.le_refl _)))
 have RR:=hd_ (And.intro r0 (And.intro r1 (And.intro r2 r3)))
 clear r0 r1 r2 r3 hcs hC hR hc1 hc2 HE HR0 HC0 hown hown2 hz HZ hz1 HBY a0 a1 a2 a3 a4 HA0 HC1
 go_wp2_with fail
 obtain ⟨r0,r1,r2,r3⟩:=RR.out
 exact bodyPost_ret (v := .tuple #[.agg #[int .u64 281474976710655,int .u64 mac,int i64 32821, .slice A 28 c],int i64 0]) (by simp [results,Tryz.results19,go_sem,r0,r1,r2,r3]) rfl ⟨A,c,rfl,HF.out.1,HF.out.2⟩
def Gw (w : World) : Prop:=0 < w.heap.size ∧ ∀ k,k < 12 → w.cell? ⟨0,k,none⟩ = some (int i64 ((wds.getD k 0 : Nat) : Int))
theorem Gw.chg {S : Nat → Prop} {w w' : World} (h : Gw w) (hc : Chg S w w') (hs : ¬ S 0) : Gw w' :=
 ⟨Nat.lt_of_lt_of_le h.1 hc.size,fun k hk=>(hc.cell (p:=⟨0,k,none⟩) h.1 hs).trans (h.2 k hk)⟩
theorem wd_le (k : Nat) (h : k < 12) : 1 ≤ wds.getD k 0 ∧ wds.getD k 0 ≤ 4:=by
 have hk' : k = 0 ∨ k = 1 ∨ k = 2 ∨ k = 3 ∨ k = 4 ∨ k = 5 ∨ k = 6 ∨ k = 7 ∨ k = 8 ∨ k = 9 ∨ k = 10 ∨ k = 11:=by omega
 rcases hk' with rfl | rfl | rfl | rfl | rfl | rfl | rfl | rfl | rfl | rfl | rfl | rfl <;> decide
theorem bclone_nil (w : World) : Calls Tryz.prog 55 #[.slice none 0 0] w fun e w'=>e = .returned (.slice none 0 0) ∧ w = w':=by
 have he:=fun W : World=>Lib.run_eql_slice_nil (P:=Tryz.prog) W 31 5 none 0 0 0 0 Tryz.underlying31
 go_enter Tryz.func55,Tryz.ntmps55
 go_wp2
 go_ret
 exact ⟨rfl,rfl⟩
theorem bclone_some (a : Addr) (n c : Nat) (bs : List UInt8) (S : Nat → Prop) (w : World) (hn : n = bs.length) (h : Rds w S (some a) n (bcs bs)) (hbig : n ≤ 140737488355328) :
  Calls Tryz.prog 55 #[.slice (some a) n c] w fun e w' => ∃ A' c',e = .returned (.slice A' n c') ∧
   w'.ownsRow w.heap.size 5 1 (.slice A' n c') n (bcs bs) ∧ Chg (fun _=>False) w w':=by
 obtain ⟨i0,hi0,hz0,hz1,hz2⟩:=info_parts infoByte
 have HN:=hd_ hn
 clear hn
 have he:=fun W : World=>Lib.run_eql_slice_nil (P:=Tryz.prog) W 31 5 (some a) n c 0 0 Tryz.underlying31
 go_enter Tryz.func55,Tryz.ntmps55
 have hmade:=World.ownsRow_made (e:=5) (size:=1) w #[] 0 (Nat.le_refl _) (by decide) rfl
 go_wp2_with (at_builtin; refine wpList_own_append _ rfl (.tmp 5) (.tmp 6) 31 rfl w.heap.size 5 i0 (int .u8 0) 1 Tryz.underlying31 hi0 hz0 hz1 hz2 rfl (.slice (some ⟨w.heap.size,0,none⟩) 0 0) 0 [] rfl hmade S (some a) n c (bcs bs) rfl (h.alloc _) (bcs_one bs) (by unfold maxLen; omega) (by omega) (by simp) ?_; intro v' w' hown' hg hat; obtain ⟨A3,c3,rfl,_,_⟩:=own_form hown')
 go_ret
 refine ⟨A3,c3,by simp,by simpa using hown', ?_⟩
 exact ((Chg.refl _ w).alloc _).grown hg (fun k hk hlt=>by simp only [Value.ownBlock,Option.some.injEq] at hk; subst hk; exact absurd hlt (Nat.lt_irrefl _))
theorem bclone_any (A : Option Addr) (n c : Nat) (bs : List UInt8) (S : Nat → Prop) (w : World) (hn : n = bs.length) (h : Rds w S A n (bcs bs)) (hz : A = none → c = 0) (hbig : n ≤ 140737488355328) :
    Calls Tryz.prog 55 #[.slice A n c] w fun e w' => ∃ A' c', e = .returned (.slice A' n c') ∧
      w'.ownsRow w.heap.size 5 1 (.slice A' n c') n (bcs bs) ∧ Chg (fun _ => False) w w' := by
  rcases A with _ | a
  · have h0 : n = 0 := by
      rcases Nat.eq_zero_or_pos n with h0 | h0
      · exact h0
      · obtain ⟨ad, e, _⟩ := h.2 h0
        cases e
    have hc := hz rfl
    subst hc
    subst h0
    have hb : bs = [] := List.eq_nil_of_length_eq_zero hn.symm
    subst hb
    refine (bclone_nil w).mono ?_
    rintro e w' ⟨rfl, rfl⟩
    exact ⟨none, 0, rfl, World.ownsRow_nil w _ _ _, Chg.refl _ _⟩
  · exact bclone_some a n c bs S w hn h hbig
def ofs : List Nat := [0,1,2,4,6,8,9,10,12,16,20,22,24]
def numK (b : List UInt8) (k : Nat) : Array Value:=((List.range 12).map fun j=>if j < k then Value.int .i64 (nAt b (ofs.getD j 0) (wds.getD j 0)) else Value.int .i64 0).toArray
theorem get_stepK (p : Nat) (S : Nat → Prop) (b : List UInt8) (m i k : Nat) (w : World) (h : Rd 173 true w p S (some ((b.take m).drop i))) (h1 : 1 ≤ k) (h7 : k ≤ 7) (hik : i + k ≤ m) (hm : m ≤ b.length) :
  Calls Tryz.prog 50 #[.pointer (some ⟨p,0,none⟩),int i64 (k : Int)] w fun e w'=>e = .returned (int i64 (nAt b i k)) ∧ Rd 173 true w' p S (some ((b.take m).drop (i + k))) ∧ Chg (fun k=>k = p) w w':=by
 have hg:=get_any p S _ (k : Int) w h
 rw [get_upto b m i k h1 h7 hik hm] at hg
 exact hg
theorem gw_cells {w : World} (h : Gw w) : w.cell? ⟨0,0,none⟩ = some (int i64 1) ∧ w.cell? ⟨0,1,none⟩ = some (int i64 1) ∧ w.cell? ⟨0,2,none⟩ = some (int i64 2) ∧ w.cell? ⟨0,3,none⟩ = some (int i64 2) ∧ w.cell? ⟨0,4,none⟩ = some (int i64 2) ∧ w.cell? ⟨0,5,none⟩ = some (int i64 1) ∧ w.cell? ⟨0,6,none⟩ = some (int i64 1) ∧ w.cell? ⟨0,7,none⟩ = some (int i64 2) ∧ w.cell? ⟨0,8,none⟩ = some (int i64 4) ∧ w.cell? ⟨0,9,none⟩ = some (int i64 4) ∧ w.cell? ⟨0,10,none⟩ = some (int i64 2) ∧ w.cell? ⟨0,11,none⟩ = some (int i64 2) :=
 ⟨h.2 0 (by decide),h.2 1 (by decide),h.2 2 (by decide),h.2 3 (by decide),h.2 4 (by decide),h.2 5 (by decide),h.2 6 (by decide),h.2 7 (by decide),h.2 8 (by decide),h.2 9 (by decide),h.2 10 (by decide),h.2 11 (by decide)⟩
theorem num_cells {w : World} {q : Nat} {T : TypeId} {x0 x1 x2 x3 x4 x5 x6 x7 x8 x9 x10 x11 : Int} (hb : Blk w q T #[int i64 x0,int i64 x1,int i64 x2,int i64 x3,int i64 x4,int i64 x5,int i64 x6,int i64 x7,int i64 x8,int i64 x9,int i64 x10,int i64 x11]) :
  w.cell? ⟨q,0,none⟩ = some (int i64 x0) ∧ w.cell? ⟨q,1,none⟩ = some (int i64 x1) ∧ w.cell? ⟨q,2,none⟩ = some (int i64 x2) ∧ w.cell? ⟨q,3,none⟩ = some (int i64 x3) ∧ w.cell? ⟨q,4,none⟩ = some (int i64 x4) ∧ w.cell? ⟨q,5,none⟩ = some (int i64 x5) ∧ w.cell? ⟨q,6,none⟩ = some (int i64 x6) ∧ w.cell? ⟨q,7,none⟩ = some (int i64 x7) ∧ w.cell? ⟨q,8,none⟩ = some (int i64 x8) ∧ w.cell? ⟨q,9,none⟩ = some (int i64 x9) ∧ w.cell? ⟨q,10,none⟩ = some (int i64 x10) ∧ w.cell? ⟨q,11,none⟩ = some (int i64 x11):=by
 have c0:=hb.cell 0
 have c1:=hb.cell 1
 have c2:=hb.cell 2
 have c3:=hb.cell 3
 have c4:=hb.cell 4
 have c5:=hb.cell 5
 have c6:=hb.cell 6
 have c7:=hb.cell 7
 have c8:=hb.cell 8
 have c9:=hb.cell 9
 have c10:=hb.cell 10
 have c11:=hb.cell 11
 simp only [List.getElem?_toArray,List.getElem?_cons_zero,List.getElem?_cons_succ] at c0 c1 c2 c3 c4 c5 c6 c7 c8 c9 c10 c11
 exact ⟨c0,c1,c2,c3,c4,c5,c6,c7,c8,c9,c10,c11⟩
theorem num_put {w : World} {q : Nat} {T : TypeId} (hb : Blk w q T #[int i64 0,int i64 0,int i64 0,int i64 0,int i64 0,int i64 0,int i64 0,int i64 0,int i64 0,int i64 0,int i64 0,int i64 0]) (v0 v1 v2 v3 v4 v5 v6 v7 v8 v9 v10 v11 : Int) :
  (w.setCell ⟨q,0,none⟩ (int i64 v0)).cell? ⟨q,0,none⟩ = some (int i64 v0) ∧ ((w.setCell ⟨q,0,none⟩ (int i64 v0)).setCell ⟨q,1,none⟩ (int i64 v1)).cell? ⟨q,1,none⟩ = some (int i64 v1) ∧ (((w.setCell ⟨q,0,none⟩ (int i64 v0)).setCell ⟨q,1,none⟩ (int i64 v1)).setCell ⟨q,2,none⟩ (int i64 v2)).cell? ⟨q,2,none⟩ = some (int i64 v2) ∧ ((((w.setCell ⟨q,0,none⟩ (int i64 v0)).setCell ⟨q,1,none⟩ (int i64 v1)).setCell ⟨q,2,none⟩ (int i64 v2)).setCell ⟨q,3,none⟩ (int i64 v3)).cell? ⟨q,3,none⟩ = some (int i64 v3) ∧ (((((w.setCell ⟨q,0,none⟩ (int i64 v0)).setCell ⟨q,1,none⟩ (int i64 v1)).setCell ⟨q,2,none⟩ (int i64 v2)).setCell ⟨q,3,none⟩ (int i64 v3)).setCell ⟨q,4,none⟩ (int i64 v4)).cell? ⟨q,4,none⟩ = some (int i64 v4) ∧ ((((((w.setCell ⟨q,0,none⟩ (int i64 v0)).setCell ⟨q,1,none⟩ (int i64 v1)).setCell ⟨q,2,none⟩ (int i64 v2)).setCell ⟨q,3,none⟩ (int i64 v3)).setCell ⟨q,4,none⟩ (int i64 v4)).setCell ⟨q,5,none⟩ (int i64 v5)).cell? ⟨q,5,none⟩ = some (int i64 v5) ∧ (((((((w.setCell ⟨q,0,none⟩ (int i64 v0)).setCell ⟨q,1,none⟩ (int i64 v1)).setCell ⟨q,2,none⟩ (int i64 v2)).setCell ⟨q,3,none⟩ (int i64 v3)).setCell ⟨q,4,none⟩ (int i64 v4)).setCell ⟨q,5,none⟩ (int i64 v5)).setCell ⟨q,6,none⟩ (int i64 v6)).cell? ⟨q,6,none⟩ = some (int i64 v6) ∧ ((((((((w.setCell ⟨q,0,none⟩ (int i64 v0)).setCell ⟨q,1,none⟩ (int i64 v1)).setCell ⟨q,2,none⟩ (int i64 v2)).setCell ⟨q,3,none⟩ (int i64 v3)).setCell ⟨q,4,none⟩ (int i64 v4)).setCell ⟨q,5,none⟩ (int i64 v5)).setCell ⟨q,6,none⟩ (int i64 v6)).setCell ⟨q,7,none⟩ (int i64 v7)).cell? ⟨q,7,none⟩ = some (int i64 v7) ∧ (((((((((w.setCell ⟨q,0,none⟩ (int i64 v0)).setCell ⟨q,1,none⟩ (int i64 v1)).setCell ⟨q,2,none⟩ (int i64 v2)).setCell ⟨q,3,none⟩ (int i64 v3)).setCell ⟨q,4,none⟩ (int i64 v4)).setCell ⟨q,5,none⟩ (int i64 v5)).setCell ⟨q,6,none⟩ (int i64 v6)).setCell ⟨q,7,none⟩ (int i64 v7)).setCell ⟨q,8,none⟩ (int i64 v8)).cell? ⟨q,8,none⟩ = some (int i64 v8) ∧ ((((((((((w.setCell ⟨q,0,none⟩ (int i64 v0)).setCell ⟨q,1,none⟩ (int i64 v1)).setCell ⟨q,2,none⟩ (int i64 v2)).setCell ⟨q,3,none⟩ (int i64 v3)).setCell ⟨q,4,none⟩ (int i64 v4)).setCell ⟨q,5,none⟩ (int i64 v5)).setCell ⟨q,6,none⟩ (int i64 v6)).setCell ⟨q,7,none⟩ (int i64 v7)).setCell ⟨q,8,none⟩ (int i64 v8)).setCell ⟨q,9,none⟩ (int i64 v9)).cell? ⟨q,9,none⟩ = some (int i64 v9) ∧ (((((((((((w.setCell ⟨q,0,none⟩ (int i64 v0)).setCell ⟨q,1,none⟩ (int i64 v1)).setCell ⟨q,2,none⟩ (int i64 v2)).setCell ⟨q,3,none⟩ (int i64 v3)).setCell ⟨q,4,none⟩ (int i64 v4)).setCell ⟨q,5,none⟩ (int i64 v5)).setCell ⟨q,6,none⟩ (int i64 v6)).setCell ⟨q,7,none⟩ (int i64 v7)).setCell ⟨q,8,none⟩ (int i64 v8)).setCell ⟨q,9,none⟩ (int i64 v9)).setCell ⟨q,10,none⟩ (int i64 v10)).cell? ⟨q,10,none⟩ = some (int i64 v10) ∧ ((((((((((((w.setCell ⟨q,0,none⟩ (int i64 v0)).setCell ⟨q,1,none⟩ (int i64 v1)).setCell ⟨q,2,none⟩ (int i64 v2)).setCell ⟨q,3,none⟩ (int i64 v3)).setCell ⟨q,4,none⟩ (int i64 v4)).setCell ⟨q,5,none⟩ (int i64 v5)).setCell ⟨q,6,none⟩ (int i64 v6)).setCell ⟨q,7,none⟩ (int i64 v7)).setCell ⟨q,8,none⟩ (int i64 v8)).setCell ⟨q,9,none⟩ (int i64 v9)).setCell ⟨q,10,none⟩ (int i64 v10)).setCell ⟨q,11,none⟩ (int i64 v11)).cell? ⟨q,11,none⟩ = some (int i64 v11) ∧ Chg (fun k=>k = q) w ((((((((((((w.setCell ⟨q,0,none⟩ (int i64 v0)).setCell ⟨q,1,none⟩ (int i64 v1)).setCell ⟨q,2,none⟩ (int i64 v2)).setCell ⟨q,3,none⟩ (int i64 v3)).setCell ⟨q,4,none⟩ (int i64 v4)).setCell ⟨q,5,none⟩ (int i64 v5)).setCell ⟨q,6,none⟩ (int i64 v6)).setCell ⟨q,7,none⟩ (int i64 v7)).setCell ⟨q,8,none⟩ (int i64 v8)).setCell ⟨q,9,none⟩ (int i64 v9)).setCell ⟨q,10,none⟩ (int i64 v10)).setCell ⟨q,11,none⟩ (int i64 v11)):=by
 have r0:=(hb.set 0 (int i64 v0)).cell 0
 have r1:=((hb.set 0 (int i64 v0)).set 1 (int i64 v1)).cell 1
 have r2:=(((hb.set 0 (int i64 v0)).set 1 (int i64 v1)).set 2 (int i64 v2)).cell 2
 have r3:=((((hb.set 0 (int i64 v0)).set 1 (int i64 v1)).set 2 (int i64 v2)).set 3 (int i64 v3)).cell 3
 have r4:=(((((hb.set 0 (int i64 v0)).set 1 (int i64 v1)).set 2 (int i64 v2)).set 3 (int i64 v3)).set 4 (int i64 v4)).cell 4
 have r5:=((((((hb.set 0 (int i64 v0)).set 1 (int i64 v1)).set 2 (int i64 v2)).set 3 (int i64 v3)).set 4 (int i64 v4)).set 5 (int i64 v5)).cell 5
 have r6:=(((((((hb.set 0 (int i64 v0)).set 1 (int i64 v1)).set 2 (int i64 v2)).set 3 (int i64 v3)).set 4 (int i64 v4)).set 5 (int i64 v5)).set 6 (int i64 v6)).cell 6
 have r7:=((((((((hb.set 0 (int i64 v0)).set 1 (int i64 v1)).set 2 (int i64 v2)).set 3 (int i64 v3)).set 4 (int i64 v4)).set 5 (int i64 v5)).set 6 (int i64 v6)).set 7 (int i64 v7)).cell 7
 have r8:=(((((((((hb.set 0 (int i64 v0)).set 1 (int i64 v1)).set 2 (int i64 v2)).set 3 (int i64 v3)).set 4 (int i64 v4)).set 5 (int i64 v5)).set 6 (int i64 v6)).set 7 (int i64 v7)).set 8 (int i64 v8)).cell 8
 have r9:=((((((((((hb.set 0 (int i64 v0)).set 1 (int i64 v1)).set 2 (int i64 v2)).set 3 (int i64 v3)).set 4 (int i64 v4)).set 5 (int i64 v5)).set 6 (int i64 v6)).set 7 (int i64 v7)).set 8 (int i64 v8)).set 9 (int i64 v9)).cell 9
 have r10:=(((((((((((hb.set 0 (int i64 v0)).set 1 (int i64 v1)).set 2 (int i64 v2)).set 3 (int i64 v3)).set 4 (int i64 v4)).set 5 (int i64 v5)).set 6 (int i64 v6)).set 7 (int i64 v7)).set 8 (int i64 v8)).set 9 (int i64 v9)).set 10 (int i64 v10)).cell 10
 have r11:=((((((((((((hb.set 0 (int i64 v0)).set 1 (int i64 v1)).set 2 (int i64 v2)).set 3 (int i64 v3)).set 4 (int i64 v4)).set 5 (int i64 v5)).set 6 (int i64 v6)).set 7 (int i64 v7)).set 8 (int i64 v8)).set 9 (int i64 v9)).set 10 (int i64 v10)).set 11 (int i64 v11)).cell 11
 simp only [List.setIfInBounds_toArray,List.set_cons_succ,List.set_cons_zero,List.getElem?_toArray,List.getElem?_cons_zero,List.getElem?_cons_succ] at r0 r1 r2 r3 r4 r5 r6 r7 r8 r9 r10 r11
 exact ⟨r0,r1,r2,r3,r4,r5,r6,r7,r8,r9,r10,r11,(((((((((((((Chg.refl (fun k=>k = q) w).put q 0 (fun _=>rfl) _).put q 1 (fun _=>rfl) _).put q 2 (fun _=>rfl) _).put q 3 (fun _=>rfl) _).put q 4 (fun _=>rfl) _).put q 5 (fun _=>rfl) _).put q 6 (fun _=>rfl) _).put q 7 (fun _=>rfl) _).put q 8 (fun _=>rfl) _).put q 9 (fun _=>rfl) _).put q 10 (fun _=>rfl) _).put q 11 (fun _=>rfl) _)⟩
theorem numK_at (b : List UInt8) (k : Nat) (h : k < 12) : (numK b k)[k]? = some (int i64 0):=by
 have hk' : k = 0 ∨ k = 1 ∨ k = 2 ∨ k = 3 ∨ k = 4 ∨ k = 5 ∨ k = 6 ∨ k = 7 ∨ k = 8 ∨ k = 9 ∨ k = 10 ∨ k = 11:=by omega
 rcases hk' with rfl | rfl | rfl | rfl | rfl | rfl | rfl | rfl | rfl | rfl | rfl | rfl <;> rfl
theorem numK_all (b : List UInt8) : numK b 12 = #[int i64 (nAt b 0 1),int i64 (nAt b 1 1),int i64 (nAt b 2 2),int i64 (nAt b 4 2),int i64 (nAt b 6 2),int i64 (nAt b 8 1),int i64 (nAt b 9 1),int i64 (nAt b 10 2),int i64 (nAt b 12 4),int i64 (nAt b 16 4),int i64 (nAt b 20 2),int i64 (nAt b 22 2)]:=rfl
theorem numbers_any (A : Option Addr) (c : Nat) (b : List UInt8) (S : Nat → Prop) (w : World) (hg : Gw w) (hl : b.length = 24) (h : Rds w S A 24 (bcs b)) (hc : 24 ≤ c) (hcm : c ≤ maxLen) :
  Calls Tryz.prog 109 #[.slice A 24 c] w fun e w'=>e = .returned (.agg (numK b 12)) ∧ Chg (fun _=>False) w w':=by
 have hz2 : ((w.alloc (.cells #[int i64 0,int i64 0,int i64 0,int i64 0,int i64 0,int i64 0,int i64 0,int i64 0,int i64 0,int i64 0,int i64 0,int i64 0] 203)).alloc (.cells #[int i64 0,int i64 0,int i64 0,int i64 0,int i64 0,int i64 0,int i64 0,int i64 0,int i64 0,int i64 0,int i64 0,int i64 0] 203)).heap.size = w.heap.size + 2:=by simp
 have hb1 : Blk ((w.alloc (.cells #[int i64 0,int i64 0,int i64 0,int i64 0,int i64 0,int i64 0,int i64 0,int i64 0,int i64 0,int i64 0,int i64 0,int i64 0] 203)).alloc (.cells #[int i64 0,int i64 0,int i64 0,int i64 0,int i64 0,int i64 0,int i64 0,int i64 0,int i64 0,int i64 0,int i64 0,int i64 0] 203)) w.heap.size 203 _:=(Blk.new _ _ _).alloc _
 have hb2 : Blk ((w.alloc (.cells #[int i64 0,int i64 0,int i64 0,int i64 0,int i64 0,int i64 0,int i64 0,int i64 0,int i64 0,int i64 0,int i64 0,int i64 0] 203)).alloc (.cells #[int i64 0,int i64 0,int i64 0,int i64 0,int i64 0,int i64 0,int i64 0,int i64 0,int i64 0,int i64 0,int i64 0,int i64 0] 203)) (w.heap.size + 1) 203 #[int i64 0,int i64 0,int i64 0,int i64 0,int i64 0,int i64 0,int i64 0,int i64 0,int i64 0,int i64 0,int i64 0,int i64 0]:=blk_new (by simp)
 have hC:=((Chg.refl (fun _=>False) w).alloc (.cells #[int i64 0,int i64 0,int i64 0,int i64 0,int i64 0,int i64 0,int i64 0,int i64 0,int i64 0,int i64 0,int i64 0,int i64 0] 203)).alloc (.cells #[int i64 0,int i64 0,int i64 0,int i64 0,int i64 0,int i64 0,int i64 0,int i64 0,int i64 0,int i64 0,int i64 0,int i64 0] 203)
 have hrd:=read_any A 24 c b S ((w.alloc (.cells #[int i64 0,int i64 0,int i64 0,int i64 0,int i64 0,int i64 0,int i64 0,int i64 0,int i64 0,int i64 0,int i64 0,int i64 0] 203)).alloc (.cells #[int i64 0,int i64 0,int i64 0,int i64 0,int i64 0,int i64 0,int i64 0,int i64 0,int i64 0,int i64 0,int i64 0,int i64 0] 203)) hl.symm ((h.alloc (.cells #[int i64 0,int i64 0,int i64 0,int i64 0,int i64 0,int i64 0,int i64 0,int i64 0,int i64 0,int i64 0,int i64 0,int i64 0] 203)).alloc (.cells #[int i64 0,int i64 0,int i64 0,int i64 0,int i64 0,int i64 0,int i64 0,int i64 0,int i64 0,int i64 0,int i64 0,int i64 0] 203)) (rds_nil_ok h (by omega)) (by decide)
 have HRD:=hd_ hrd
 have HB1:=hd_ hb1
 have HB2:=hd_ hb2
 have HC0:=hd_ hC
 have HG:=hd_ hg
 have HL:=hd_ hl
 have HZ:=hd_ hz2
 clear hrd hb1 hb2 hC hg hl hz2 h
 go_enter Tryz.func109,Tryz.ntmps109
 go_wp2_with fail
 refine HRD.out.mono ?_
 rintro e w1 ⟨p,rfl,hp,hrd,hc1⟩
 rw [HZ.out] at hp hrd
 have hG:=HG.out.chg (HC0.out.trans hc1 (fun _ _ e=>e)) id
 have HB1':=hd_ (HB1.out.chg hc1 id)
 have HB2':=hd_ (HB2.out.chg hc1 id)
 have HC1:=hd_ (HC0.out.trans hc1 (fun _ _ e=>e))
 have HRD1:=hd_ hrd
 obtain ⟨g0,g1,g2,g3,g4,g5,g6,g7,g8,g9,g10,g11⟩:=gw_cells hG
 clear hG hc1 HRD HB1 HB2 HC0 hrd
 go_wp2_with fail
 go_loopg [10] 12 (fun g i wr => ∃ (k : Nat) (z : Int),g = 12 - k ∧ k ≤ 12 ∧ i = int i64 z ∧ z = (k : Int) ∧ Hid (Rd 173 true wr p (fun k=>w.heap.size + 2 ≤ k ∧ k < p) (some ((b.take 24).drop (ofs.getD k 0)))) ∧ Hid (Blk wr w.heap.size 203 #[int i64 0,int i64 0,int i64 0,int i64 0,int i64 0,int i64 0,int i64 0,int i64 0,int i64 0,int i64 0,int i64 0,int i64 0]) ∧ Hid (Blk wr (w.heap.size + 1) 203 (numK b k)) ∧ Hid (Chg (fun _=>False) w wr))
 case atStart =>
  refine ⟨0,0,rfl,Nat.zero_le _,rfl,rfl, ?_,HB1',HB2',HC1⟩
  have e : (b.take 24).drop (ofs.getD 0 0) = b:=by
   have:=HL.out
   rw [List.take_of_length_le (by omega)]
   rfl
  rw [e]
  exact HRD1
 case round =>
  obtain ⟨k,z,rfl,hk,rfl,hz,HR,HBa,HBb,HC⟩:=hrel
  clear HB1' HB2' HC1 HRD1 g0 g1 g2 g3 g4 g5 g6 g7 g8 g9 g10 g11
  by_cases hlt : k < 12
  ·have hk' : k = 0 ∨ k = 1 ∨ k = 2 ∨ k = 3 ∨ k = 4 ∨ k = 5 ∨ k = 6 ∨ k = 7 ∨ k = 8 ∨ k = 9 ∨ k = 10 ∨ k = 11:=by omega
   rcases hk' with rfl | rfl | rfl | rfl | rfl | rfl | rfl | rfl | rfl | rfl | rfl | rfl
   ·obtain rfl : z = 0:=by omega
    clear hz
    have hix : ∀ W,(Instr.index 203 (.agg #[int i64 1,int i64 1,int i64 2,int i64 2,int i64 2,int i64 1,int i64 1,int i64 2,int i64 4,int i64 4,int i64 2,int i64 2]) (int i64 0)).run Tryz.prog W = .ok (int i64 1) W:=fun _=>by kernel_rfl
    have HGET:=hd_ (get_stepK p _ b 24 0 1 wr HR.out (by decide) (by decide) (by decide) (Nat.le_of_eq HL.out.symm))
    go_wp2_with fail
    refine HGET.out.mono ?_
    rintro e w2 ⟨rfl,hrd2,hcg⟩
    have hb:=HBb.out.chg hcg (by omega)
    have y0:=(hb.cell 0).trans (numK_at b 0 (by decide))
    have u0:=hb.frozen 0
    have hcp:=(Chg.refl (fun j=>j = w.heap.size + 1) w2).put (w.heap.size + 1) 0 (fun _=>rfl) (int i64 (nAt b 0 1))
    have HB3:=hd_ (hb.set 0 (int i64 (nAt b 0 1)))
    have HR3:=hd_ (hrd2.chg hcp (by omega) (fun j hj=>by omega))
    have HA3:=hd_ ((HBa.out.chg hcg (by omega)).chg hcp (by omega))
    have HC3:=hd_ (fresh_set (fresh_set HC.out hcg (by omega)) hcp (by omega))
    clear HR HBa HBb HC hrd2 hcg hb hcp HGET
    go_wp2_with fail
    go_roundg 11
    case measure=>omega
    case rel=>exact ⟨1,1,rfl,by decide,by go_num,rfl,HR3,HA3,HB3,HC3⟩
   ·obtain rfl : z = 1:=by omega
    clear hz
    have hix : ∀ W,(Instr.index 203 (.agg #[int i64 1,int i64 1,int i64 2,int i64 2,int i64 2,int i64 1,int i64 1,int i64 2,int i64 4,int i64 4,int i64 2,int i64 2]) (int i64 1)).run Tryz.prog W = .ok (int i64 1) W:=fun _=>by kernel_rfl
    have HGET:=hd_ (get_stepK p _ b 24 1 1 wr HR.out (by decide) (by decide) (by decide) (Nat.le_of_eq HL.out.symm))
    go_wp2_with fail
    refine HGET.out.mono ?_
    rintro e w2 ⟨rfl,hrd2,hcg⟩
    have hb:=HBb.out.chg hcg (by omega)
    have y0:=(hb.cell 1).trans (numK_at b 1 (by decide))
    have u0:=hb.frozen 1
    have hcp:=(Chg.refl (fun j=>j = w.heap.size + 1) w2).put (w.heap.size + 1) 1 (fun _=>rfl) (int i64 (nAt b 1 1))
    have HB3:=hd_ (hb.set 1 (int i64 (nAt b 1 1)))
    have HR3:=hd_ (hrd2.chg hcp (by omega) (fun j hj=>by omega))
    have HA3:=hd_ ((HBa.out.chg hcg (by omega)).chg hcp (by omega))
    have HC3:=hd_ (fresh_set (fresh_set HC.out hcg (by omega)) hcp (by omega))
    clear HR HBa HBb HC hrd2 hcg hb hcp HGET
    go_wp2_with fail
    go_roundg 10
    case measure=>omega
    case rel=>exact ⟨2,2,rfl,by decide,by go_num,rfl,HR3,HA3,HB3,HC3⟩
   ·obtain rfl : z = 2:=by omega
    clear hz
    have hix : ∀ W,(Instr.index 203 (.agg #[int i64 1,int i64 1,int i64 2,int i64 2,int i64 2,int i64 1,int i64 1,int i64 2,int i64 4,int i64 4,int i64 2,int i64 2]) (int i64 2)).run Tryz.prog W = .ok (int i64 2) W:=fun _=>by kernel_rfl
    have HGET:=hd_ (get_stepK p _ b 24 2 2 wr HR.out (by decide) (by decide) (by decide) (Nat.le_of_eq HL.out.symm))
    go_wp2_with fail
    refine HGET.out.mono ?_
    rintro e w2 ⟨rfl,hrd2,hcg⟩
    have hb:=HBb.out.chg hcg (by omega)
    have y0:=(hb.cell 2).trans (numK_at b 2 (by decide))
    have u0:=hb.frozen 2
    have hcp:=(Chg.refl (fun j=>j = w.heap.size + 1) w2).put (w.heap.size + 1) 2 (fun _=>rfl) (int i64 (nAt b 2 2))
    have HB3:=hd_ (hb.set 2 (int i64 (nAt b 2 2)))
    have HR3:=hd_ (hrd2.chg hcp (by omega) (fun j hj=>by omega))
    have HA3:=hd_ ((HBa.out.chg hcg (by omega)).chg hcp (by omega))
    have HC3:=hd_ (fresh_set (fresh_set HC.out hcg (by omega)) hcp (by omega))
    clear HR HBa HBb HC hrd2 hcg hb hcp HGET
    go_wp2_with fail
    go_roundg 9
    case measure=>omega
    case rel=>exact ⟨3,3,rfl,by decide,by go_num,rfl,HR3,HA3,HB3,HC3⟩
   ·obtain rfl : z = 3:=by omega
    clear hz
    have hix : ∀ W,(Instr.index 203 (.agg #[int i64 1,int i64 1,int i64 2,int i64 2,int i64 2,int i64 1,int i64 1,int i64 2,int i64 4,int i64 4,int i64 2,int i64 2]) (int i64 3)).run Tryz.prog W = .ok (int i64 2) W:=fun _=>by kernel_rfl
    have HGET:=hd_ (get_stepK p _ b 24 4 2 wr HR.out (by decide) (by decide) (by decide) (Nat.le_of_eq HL.out.symm))
    go_wp2_with fail
    refine HGET.out.mono ?_
    rintro e w2 ⟨rfl,hrd2,hcg⟩
    have hb:=HBb.out.chg hcg (by omega)
    have y0:=(hb.cell 3).trans (numK_at b 3 (by decide))
    have u0:=hb.frozen 3
    have hcp:=(Chg.refl (fun j=>j = w.heap.size + 1) w2).put (w.heap.size + 1) 3 (fun _=>rfl) (int i64 (nAt b 4 2))
    have HB3:=hd_ (hb.set 3 (int i64 (nAt b 4 2)))
    have HR3:=hd_ (hrd2.chg hcp (by omega) (fun j hj=>by omega))
    have HA3:=hd_ ((HBa.out.chg hcg (by omega)).chg hcp (by omega))
    have HC3:=hd_ (fresh_set (fresh_set HC.out hcg (by omega)) hcp (by omega))
    clear HR HBa HBb HC hrd2 hcg hb hcp HGET
    go_wp2_with fail
    go_roundg 8
    case measure=>omega
    case rel=>exact ⟨4,4,rfl,by decide,by go_num,rfl,HR3,HA3,HB3,HC3⟩
   ·obtain rfl : z = 4:=by omega
    clear hz
    have hix : ∀ W,(Instr.index 203 (.agg #[int i64 1,int i64 1,int i64 2,int i64 2,int i64 2,int i64 1,int i64 1,int i64 2,int i64 4,int i64 4,int i64 2,int i64 2]) (int i64 4)).run Tryz.prog W = .ok (int i64 2) W:=fun _=>by kernel_rfl
    have HGET:=hd_ (get_stepK p _ b 24 6 2 wr HR.out (by decide) (by decide) (by decide) (Nat.le_of_eq HL.out.symm))
    go_wp2_with fail
    refine HGET.out.mono ?_
    rintro e w2 ⟨rfl,hrd2,hcg⟩
    have hb:=HBb.out.chg hcg (by omega)
    have y0:=(hb.cell 4).trans (numK_at b 4 (by decide))
    have u0:=hb.frozen 4
    have hcp:=(Chg.refl (fun j=>j = w.heap.size + 1) w2).put (w.heap.size + 1) 4 (fun _=>rfl) (int i64 (nAt b 6 2))
    have HB3:=hd_ (hb.set 4 (int i64 (nAt b 6 2)))
    have HR3:=hd_ (hrd2.chg hcp (by omega) (fun j hj=>by omega))
    have HA3:=hd_ ((HBa.out.chg hcg (by omega)).chg hcp (by omega))
    have HC3:=hd_ (fresh_set (fresh_set HC.out hcg (by omega)) hcp (by omega))
    clear HR HBa HBb HC hrd2 hcg hb hcp HGET
    go_wp2_with fail
    go_roundg 7
    case measure=>omega
    case rel=>exact ⟨5,5,rfl,by decide,by go_num,rfl,HR3,HA3,HB3,HC3⟩
   ·obtain rfl : z = 5:=by omega
    clear hz
    have hix : ∀ W,(Instr.index 203 (.agg #[int i64 1,int i64 1,int i64 2,int i64 2,int i64 2,int i64 1,int i64 1,int i64 2,int i64 4,int i64 4,int i64 2,int i64 2]) (int i64 5)).run Tryz.prog W = .ok (int i64 1) W:=fun _=>by kernel_rfl
    have HGET:=hd_ (get_stepK p _ b 24 8 1 wr HR.out (by decide) (by decide) (by decide) (Nat.le_of_eq HL.out.symm))
    go_wp2_with fail
    refine HGET.out.mono ?_
    rintro e w2 ⟨rfl,hrd2,hcg⟩
    have hb:=HBb.out.chg hcg (by omega)
    have y0:=(hb.cell 5).trans (numK_at b 5 (by decide))
    have u0:=hb.frozen 5
    have hcp:=(Chg.refl (fun j=>j = w.heap.size + 1) w2).put (w.heap.size + 1) 5 (fun _=>rfl) (int i64 (nAt b 8 1))
    have HB3:=hd_ (hb.set 5 (int i64 (nAt b 8 1)))
    have HR3:=hd_ (hrd2.chg hcp (by omega) (fun j hj=>by omega))
    have HA3:=hd_ ((HBa.out.chg hcg (by omega)).chg hcp (by omega))
    have HC3:=hd_ (fresh_set (fresh_set HC.out hcg (by omega)) hcp (by omega))
    clear HR HBa HBb HC hrd2 hcg hb hcp HGET
    go_wp2_with fail
    go_roundg 6
    case measure=>omega
    case rel=>exact ⟨6,6,rfl,by decide,by go_num,rfl,HR3,HA3,HB3,HC3⟩
   ·obtain rfl : z = 6:=by omega
    clear hz
    have hix : ∀ W,(Instr.index 203 (.agg #[int i64 1,int i64 1,int i64 2,int i64 2,int i64 2,int i64 1,int i64 1,int i64 2,int i64 4,int i64 4,int i64 2,int i64 2]) (int i64 6)).run Tryz.prog W = .ok (int i64 1) W:=fun _=>by kernel_rfl
    have HGET:=hd_ (get_stepK p _ b 24 9 1 wr HR.out (by decide) (by decide) (by decide) (Nat.le_of_eq HL.out.symm))
    go_wp2_with fail
    refine HGET.out.mono ?_
    rintro e w2 ⟨rfl,hrd2,hcg⟩
    have hb:=HBb.out.chg hcg (by omega)
    have y0:=(hb.cell 6).trans (numK_at b 6 (by decide))
    have u0:=hb.frozen 6
    have hcp:=(Chg.refl (fun j=>j = w.heap.size + 1) w2).put (w.heap.size + 1) 6 (fun _=>rfl) (int i64 (nAt b 9 1))
    have HB3:=hd_ (hb.set 6 (int i64 (nAt b 9 1)))
    have HR3:=hd_ (hrd2.chg hcp (by omega) (fun j hj=>by omega))
    have HA3:=hd_ ((HBa.out.chg hcg (by omega)).chg hcp (by omega))
    have HC3:=hd_ (fresh_set (fresh_set HC.out hcg (by omega)) hcp (by omega))
    clear HR HBa HBb HC hrd2 hcg hb hcp HGET
    go_wp2_with fail
    go_roundg 5
    case measure=>omega
    case rel=>exact ⟨7,7,rfl,by decide,by go_num,rfl,HR3,HA3,HB3,HC3⟩
   ·obtain rfl : z = 7:=by omega
    clear hz
    have hix : ∀ W,(Instr.index 203 (.agg #[int i64 1,int i64 1,int i64 2,int i64 2,int i64 2,int i64 1,int i64 1,int i64 2,int i64 4,int i64 4,int i64 2,int i64 2]) (int i64 7)).run Tryz.prog W = .ok (int i64 2) W:=fun _=>by kernel_rfl
    have HGET:=hd_ (get_stepK p _ b 24 10 2 wr HR.out (by decide) (by decide) (by decide) (Nat.le_of_eq HL.out.symm))
    go_wp2_with fail
    refine HGET.out.mono ?_
    rintro e w2 ⟨rfl,hrd2,hcg⟩
    have hb:=HBb.out.chg hcg (by omega)
    have y0:=(hb.cell 7).trans (numK_at b 7 (by decide))
    have u0:=hb.frozen 7
    have hcp:=(Chg.refl (fun j=>j = w.heap.size + 1) w2).put (w.heap.size + 1) 7 (fun _=>rfl) (int i64 (nAt b 10 2))
    have HB3:=hd_ (hb.set 7 (int i64 (nAt b 10 2)))
    have HR3:=hd_ (hrd2.chg hcp (by omega) (fun j hj=>by omega))
    have HA3:=hd_ ((HBa.out.chg hcg (by omega)).chg hcp (by omega))
    have HC3:=hd_ (fresh_set (fresh_set HC.out hcg (by omega)) hcp (by omega))
    clear HR HBa HBb HC hrd2 hcg hb hcp HGET
    go_wp2_with fail
    go_roundg 4
    case measure=>omega
    case rel=>exact ⟨8,8,rfl,by decide,by go_num,rfl,HR3,HA3,HB3,HC3⟩
   ·obtain rfl : z = 8:=by omega
    clear hz
    have hix : ∀ W,(Instr.index 203 (.agg #[int i64 1,int i64 1,int i64 2,int i64 2,int i64 2,int i64 1,int i64 1,int i64 2,int i64 4,int i64 4,int i64 2,int i64 2]) (int i64 8)).run Tryz.prog W = .ok (int i64 4) W:=fun _=>by kernel_rfl
    have HGET:=hd_ (get_stepK p _ b 24 12 4 wr HR.out (by decide) (by decide) (by decide) (Nat.le_of_eq HL.out.symm))
    go_wp2_with fail
    refine HGET.out.mono ?_
    rintro e w2 ⟨rfl,hrd2,hcg⟩
    have hb:=HBb.out.chg hcg (by omega)
    have y0:=(hb.cell 8).trans (numK_at b 8 (by decide))
    have u0:=hb.frozen 8
    have hcp:=(Chg.refl (fun j=>j = w.heap.size + 1) w2).put (w.heap.size + 1) 8 (fun _=>rfl) (int i64 (nAt b 12 4))
    have HB3:=hd_ (hb.set 8 (int i64 (nAt b 12 4)))
    have HR3:=hd_ (hrd2.chg hcp (by omega) (fun j hj=>by omega))
    have HA3:=hd_ ((HBa.out.chg hcg (by omega)).chg hcp (by omega))
    have HC3:=hd_ (fresh_set (fresh_set HC.out hcg (by omega)) hcp (by omega))
    clear HR HBa HBb HC hrd2 hcg hb hcp HGET
    go_wp2_with fail
    go_roundg 3
    case measure=>omega
    case rel=>exact ⟨9,9,rfl,by decide,by go_num,rfl,HR3,HA3,HB3,HC3⟩
   ·obtain rfl : z = 9:=by omega
    clear hz
    have hix : ∀ W,(Instr.index 203 (.agg #[int i64 1,int i64 1,int i64 2,int i64 2,int i64 2,int i64 1,int i64 1,int i64 2,int i64 4,int i64 4,int i64 2,int i64 2]) (int i64 9)).run Tryz.prog W = .ok (int i64 4) W:=fun _=>by kernel_rfl
    have HGET:=hd_ (get_stepK p _ b 24 16 4 wr HR.out (by decide) (by decide) (by decide) (Nat.le_of_eq HL.out.symm))
    go_wp2_with fail
    refine HGET.out.mono ?_
    rintro e w2 ⟨rfl,hrd2,hcg⟩
    have hb:=HBb.out.chg hcg (by omega)
    have y0:=(hb.cell 9).trans (numK_at b 9 (by decide))
    have u0:=hb.frozen 9
    have hcp:=(Chg.refl (fun j=>j = w.heap.size + 1) w2).put (w.heap.size + 1) 9 (fun _=>rfl) (int i64 (nAt b 16 4))
    have HB3:=hd_ (hb.set 9 (int i64 (nAt b 16 4)))
    have HR3:=hd_ (hrd2.chg hcp (by omega) (fun j hj=>by omega))
    have HA3:=hd_ ((HBa.out.chg hcg (by omega)).chg hcp (by omega))
    have HC3:=hd_ (fresh_set (fresh_set HC.out hcg (by omega)) hcp (by omega))
    clear HR HBa HBb HC hrd2 hcg hb hcp HGET
    go_wp2_with fail
    go_roundg 2
    case measure=>omega
    case rel=>exact ⟨10,10,rfl,by decide,by go_num,rfl,HR3,HA3,HB3,HC3⟩
   ·obtain rfl : z = 10:=by omega
    clear hz
    have hix : ∀ W,(Instr.index 203 (.agg #[int i64 1,int i64 1,int i64 2,int i64 2,int i64 2,int i64 1,int i64 1,int i64 2,int i64 4,int i64 4,int i64 2,int i64 2]) (int i64 10)).run Tryz.prog W = .ok (int i64 2) W:=fun _=>by kernel_rfl
    have HGET:=hd_ (get_stepK p _ b 24 20 2 wr HR.out (by decide) (by decide) (by decide) (Nat.le_of_eq HL.out.symm))
    go_wp2_with fail
    refine HGET.out.mono ?_
    rintro e w2 ⟨rfl,hrd2,hcg⟩
    have hb:=HBb.out.chg hcg (by omega)
    have y0:=(hb.cell 10).trans (numK_at b 10 (by decide))
    have u0:=hb.frozen 10
    have hcp:=(Chg.refl (fun j=>j = w.heap.size + 1) w2).put (w.heap.size + 1) 10 (fun _=>rfl) (int i64 (nAt b 20 2))
    have HB3:=hd_ (hb.set 10 (int i64 (nAt b 20 2)))
    have HR3:=hd_ (hrd2.chg hcp (by omega) (fun j hj=>by omega))
    have HA3:=hd_ ((HBa.out.chg hcg (by omega)).chg hcp (by omega))
    have HC3:=hd_ (fresh_set (fresh_set HC.out hcg (by omega)) hcp (by omega))
    clear HR HBa HBb HC hrd2 hcg hb hcp HGET
    go_wp2_with fail
    go_roundg 1
    case measure=>omega
    case rel=>exact ⟨11,11,rfl,by decide,by go_num,rfl,HR3,HA3,HB3,HC3⟩
   ·obtain rfl : z = 11:=by omega
    clear hz
    have hix : ∀ W,(Instr.index 203 (.agg #[int i64 1,int i64 1,int i64 2,int i64 2,int i64 2,int i64 1,int i64 1,int i64 2,int i64 4,int i64 4,int i64 2,int i64 2]) (int i64 11)).run Tryz.prog W = .ok (int i64 2) W:=fun _=>by kernel_rfl
    have HGET:=hd_ (get_stepK p _ b 24 22 2 wr HR.out (by decide) (by decide) (by decide) (Nat.le_of_eq HL.out.symm))
    go_wp2_with fail
    refine HGET.out.mono ?_
    rintro e w2 ⟨rfl,hrd2,hcg⟩
    have hb:=HBb.out.chg hcg (by omega)
    have y0:=(hb.cell 11).trans (numK_at b 11 (by decide))
    have u0:=hb.frozen 11
    have hcp:=(Chg.refl (fun j=>j = w.heap.size + 1) w2).put (w.heap.size + 1) 11 (fun _=>rfl) (int i64 (nAt b 22 2))
    have HB3:=hd_ (hb.set 11 (int i64 (nAt b 22 2)))
    have HR3:=hd_ (hrd2.chg hcp (by omega) (fun j hj=>by omega))
    have HA3:=hd_ ((HBa.out.chg hcg (by omega)).chg hcp (by omega))
    have HC3:=hd_ (fresh_set (fresh_set HC.out hcg (by omega)) hcp (by omega))
    clear HR HBa HBb HC hrd2 hcg hb hcp HGET
    go_wp2_with fail
    go_roundg 0
    case measure=>omega
    case rel=>exact ⟨12,12,rfl,by decide,by go_num,rfl,HR3,HA3,HB3,HC3⟩
  ·obtain rfl : k = 12:=by omega
   obtain rfl : z = 12:=by omega
   clear hz
   have hb:=HBb.out
   rw [numK_all] at hb
   have ha:=HBa.out
   obtain ⟨x0,x1,x2,x3,x4,x5,x6,x7,x8,x9,x10,x11⟩:=num_cells hb
   obtain ⟨y0,y1,y2,y3,y4,y5,y6,y7,y8,y9,y10,y11⟩:=num_cells ha
   have u0:=ha.frozen 0
   have u1:=ha.frozen 1
   have u2:=ha.frozen 2
   have u3:=ha.frozen 3
   have u4:=ha.frozen 4
   have u5:=ha.frozen 5
   have u6:=ha.frozen 6
   have u7:=ha.frozen 7
   have u8:=ha.frozen 8
   have u9:=ha.frozen 9
   have u10:=ha.frozen 10
   have u11:=ha.frozen 11
   obtain ⟨r0,r1,r2,r3,r4,r5,r6,r7,r8,r9,r10,r11,hcs⟩:=num_put ha (nAt b 0 1) (nAt b 1 1) (nAt b 2 2) (nAt b 4 2) (nAt b 6 2) (nAt b 8 1) (nAt b 9 1) (nAt b 10 2) (nAt b 12 4) (nAt b 16 4) (nAt b 20 2) (nAt b 22 2)
   have HF:=hd_ (fresh_set HC.out hcs (Nat.le_refl _))
   have RR:=hd_ (And.intro r0 (And.intro r1 (And.intro r2 (And.intro r3 (And.intro r4 (And.intro r5 (And.intro r6 (And.intro r7 (And.intro r8 (And.intro r9 (And.intro r10 r11)))))))))))
   clear HBa HBb r0 r1 r2 r3 r4 r5 r6 r7 r8 r9 r10 r11 hcs ha hb HC
   go_wp2_with fail
   obtain ⟨r0,r1,r2,r3,r4,r5,r6,r7,r8,r9,r10,r11⟩:=RR.out
   exact bodyPost_ret (v := .agg (numK b 12)) (by rw [numK_all]; simp [results,Tryz.results109,go_sem,r0,r1,r2,r3,r4,r5,r6,r7,r8,r9,r10,r11]) rfl ⟨rfl,HF.out⟩
theorem nAt_take (b : List UInt8) (m i k : Nat) (h : i + k ≤ m) : nAt (b.take m) i k = nAt b i k:=by
 unfold nAt
 rw [List.drop_take,List.take_take,Nat.min_eq_left (by omega)]
def okF (b : List UInt8) : Bool:=nAt b 0 1 == 69 && nAt b 2 2 == (b.length : Int)
def parC (b : List UInt8) : Int :=
 if decide (24 ≤ b.length) && okF b then (if chkB (b.take 20) == 0 then (if nAt b 9 1 == 6 || nAt b 9 1 == 17 then 0 else 14) else 6) else 2
def pN (b : List UInt8) (i k : Nat) : Int:=if parC b = 0 then nAt b i k else 0
def pB (b : List UInt8) : List UInt8:=if parC b = 0 then b.drop 24 else []
def Parsed (b : List UInt8) (w : World) (e : Ending) (w' : World) : Prop :=
 ∃ A k c,e = .returned (.tuple #[.agg (flC (pN b 9 1) (pN b 12 4) (pN b 16 4) (pN b 20 2) (pN b 22 2)), .slice A k c,int i64 (parC b)]) ∧ k = (pB b).length ∧ Rds w' (fun j=>w.heap.size ≤ j) A k (bcs (pB b)) ∧ Chg (fun _=>False) w w'
theorem parsed_no {b : List UInt8} {w w' : World} {e : Ending} {x : Int} (hx : parC b = x) (h0 : x ≠ 0) (he : e = .returned (.tuple #[.agg #[int i64 0,int .u32 0,int .u32 0,int i64 0,int i64 0], .slice none 0 0,int i64 x])) (hc : Chg (fun _=>False) w w') : Parsed b w e w':=by
 have e1 : ∀ i k,pN b i k = 0:=fun i k=>by unfold pN; rw [if_neg (by rw [hx]; exact h0)]
 have e2 : pB b = []:=by unfold pB; rw [if_neg (by rw [hx]; exact h0)]
 refine ⟨none,0,0, ?_,by rw [e2]; rfl,by rw [e2]; exact Rds.nil _ _ _,hc⟩
 rw [e1,e1,e1,e1,e1,hx]
 exact he
theorem parsed_yes {b : List UInt8} {w w' : World} {e : Ending} {A : Option Addr} {k c : Nat} (hx : parC b = 0) (he : e = .returned (.tuple #[.agg #[int i64 (nAt b 9 1),int .u32 (nAt b 12 4),int .u32 (nAt b 16 4),int i64 (nAt b 20 2),int i64 (nAt b 22 2)], .slice A k c,int i64 0]))
  (hk : k = b.length - 24) (hr : Rds w' (fun j=>w.heap.size ≤ j) A k (bcs (b.drop 24))) (hc : Chg (fun _=>False) w w') : Parsed b w e w':=by
 have e1 : ∀ i k,pN b i k = nAt b i k:=fun i k=>by unfold pN; rw [if_pos hx]
 have e2 : pB b = b.drop 24:=by unfold pB; rw [if_pos hx]
 refine ⟨A,k,c, ?_,by rw [e2,List.length_drop,hk],by rw [e2]; exact hr,hc⟩
 rw [e1,e1,e1,e1,e1,hx]
 exact he
theorem parC_short {b : List UInt8} (h : b.length < 24) : parC b = 2:=by
 unfold parC
 have : decide (24 ≤ b.length) = false:=by simpa using h
 rw [this]
 rfl
theorem parC_form {b : List UInt8} (h : okF b = false) : parC b = 2:=by
 unfold parC
 rw [h,Bool.and_false]
 rfl
theorem parC_sum {b : List UInt8} (hl : 24 ≤ b.length) (h : okF b = true) (h2 : (chkB (b.take 20) == 0) = false) : parC b = 6:=by
 unfold parC
 have : decide (24 ≤ b.length) = true:=by simpa using hl
 rw [this,h,h2]
 rfl
theorem parC_kind {b : List UInt8} (hl : 24 ≤ b.length) (h : okF b = true) (h2 : (chkB (b.take 20) == 0) = true) (h3 : (nAt b 9 1 == 6 || nAt b 9 1 == 17) = false) : parC b = 14:=by
 unfold parC
 have : decide (24 ≤ b.length) = true:=by simpa using hl
 rw [this,h,h2,h3]
 rfl
theorem parC_ok {b : List UInt8} (hl : 24 ≤ b.length) (h : okF b = true) (h2 : (chkB (b.take 20) == 0) = true) (h3 : (nAt b 9 1 == 6 || nAt b 9 1 == 17) = true) : parC b = 0:=by
 unfold parC
 have : decide (24 ≤ b.length) = true:=by simpa using hl
 rw [this,h,h2,h3]
 rfl
theorem fl_put {w : World} {r : Nat} {T : TypeId} {o s t p q : Int} (hb : Blk w r T (flC o s t p q)) (o' s' t' p' q' : Int) :
  (w.setCell ⟨r,0,none⟩ (int i64 o')).cell? ⟨r,0,none⟩ = some (int i64 o') ∧
  ((w.setCell ⟨r,0,none⟩ (int i64 o')).setCell ⟨r,1,none⟩ (int .u32 s')).cell? ⟨r,1,none⟩ = some (int .u32 s') ∧
  (((w.setCell ⟨r,0,none⟩ (int i64 o')).setCell ⟨r,1,none⟩ (int .u32 s')).setCell ⟨r,2,none⟩ (int .u32 t')).cell? ⟨r,2,none⟩ = some (int .u32 t') ∧
  ((((w.setCell ⟨r,0,none⟩ (int i64 o')).setCell ⟨r,1,none⟩ (int .u32 s')).setCell ⟨r,2,none⟩ (int .u32 t')).setCell ⟨r,3,none⟩ (int i64 p')).cell? ⟨r,3,none⟩ = some (int i64 p') ∧
  (((((w.setCell ⟨r,0,none⟩ (int i64 o')).setCell ⟨r,1,none⟩ (int .u32 s')).setCell ⟨r,2,none⟩ (int .u32 t')).setCell ⟨r,3,none⟩ (int i64 p')).setCell ⟨r,4,none⟩ (int i64 q')).cell? ⟨r,4,none⟩ = some (int i64 q') ∧
  Chg (fun k=>k = r) w (((((w.setCell ⟨r,0,none⟩ (int i64 o')).setCell ⟨r,1,none⟩ (int .u32 s')).setCell ⟨r,2,none⟩ (int .u32 t')).setCell ⟨r,3,none⟩ (int i64 p')).setCell ⟨r,4,none⟩ (int i64 q')):=by
 have r0:=(hb.set 0 (int i64 o')).cell 0
 have r1:=((hb.set 0 (int i64 o')).set 1 (int .u32 s')).cell 1
 have r2:=(((hb.set 0 (int i64 o')).set 1 (int .u32 s')).set 2 (int .u32 t')).cell 2
 have r3:=((((hb.set 0 (int i64 o')).set 1 (int .u32 s')).set 2 (int .u32 t')).set 3 (int i64 p')).cell 3
 have r4:=(((((hb.set 0 (int i64 o')).set 1 (int .u32 s')).set 2 (int .u32 t')).set 3 (int i64 p')).set 4 (int i64 q')).cell 4
 simp only [flC,List.setIfInBounds_toArray,List.set_cons_succ,List.set_cons_zero,List.getElem?_toArray,List.getElem?_cons_zero,List.getElem?_cons_succ] at r0 r1 r2 r3 r4
 exact ⟨r0,r1,r2,r3,r4,(((((Chg.refl (fun k=>k = r) w).put r 0 (fun _=>rfl) _).put r 1 (fun _=>rfl) _).put r 2 (fun _=>rfl) _).put r 3 (fun _=>rfl) _).put r 4 (fun _=>rfl) _⟩
theorem fl_free {w : World} {r : Nat} {T : TypeId} {cs : Array Value} (hb : Blk w r T cs) : w.frozen? ⟨r,0,none⟩ = false ∧ w.frozen? ⟨r,1,none⟩ = false ∧ w.frozen? ⟨r,2,none⟩ = false ∧ w.frozen? ⟨r,3,none⟩ = false ∧ w.frozen? ⟨r,4,none⟩ = false :=
 ⟨hb.frozen 0,hb.frozen 1,hb.frozen 2,hb.frozen 3,hb.frozen 4⟩
def zeroL4 : Value := .agg #[int i64 0,int .u32 0,int .u32 0,int i64 0,int i64 0]
theorem iparse_short (A : Option Addr) (n c : Nat) (b : List UInt8) (w : World) (hn : n = b.length) (hn2 : n < 24) :
  Calls Tryz.prog 67 #[.slice A n c] w (Parsed b w):=by
 have HP:=hd_ (parC_short (b:=b) (by omega))
 clear hn
 go_enter Tryz.func67,Tryz.ntmps67
 go_wp2_with fail
 exact bodyPost_ret (v := .tuple #[zeroL4, .slice none 0 0,int i64 2]) (by simp [results,Tryz.results67,go_sem,zeroL4]) rfl (parsed_no HP.out (by decide) rfl ((Chg.refl _ w).alloc _))
theorem iparse_long (A : Option Addr) (n c : Nat) (b : List UInt8) (S : Nat → Prop) (w : World) (hg : Gw w) (hn : n = b.length) (h : Rds w S A n (bcs b)) (h24 : 24 ≤ n) (hc : n ≤ c) (hcm : c ≤ maxLen) (hb : n ≤ 100000) :
  Calls Tryz.prog 67 #[.slice A n c] w (Parsed b w):=by
 have hcm' : (c : Int) ≤ 9223372036854775807:=by unfold maxLen at hcm; omega
 have hR0 : Blk (w.alloc (.cells #[int i64 0,int .u32 0,int .u32 0,int i64 0,int i64 0] 129)) w.heap.size 129 (flC 0 0 0 0 0):=blk_new rfl
 have hC0:=(Chg.refl (fun _=>False) w).alloc (.cells #[int i64 0,int .u32 0,int .u32 0,int i64 0,int i64 0] 129)
 have h24r:=(h.take 24 h24).chg hC0 (fun _ _=>id)
 rw [← bcs_take] at h24r
 have hnum:=numbers_any A c (b.take 24) S _ (hg.chg hC0 id) (by rw [List.length_take]; omega) h24r (by omega) hcm
 rw [numK_all,nAt_take _ _ _ _ (by decide),nAt_take _ _ _ _ (by decide),nAt_take _ _ _ _ (by decide),nAt_take _ _ _ _ (by decide),nAt_take _ _ _ _ (by decide),nAt_take _ _ _ _ (by decide),nAt_take _ _ _ _ (by decide),nAt_take _ _ _ _ (by decide),nAt_take _ _ _ _ (by decide),nAt_take _ _ _ _ (by decide),nAt_take _ _ _ _ (by decide),nAt_take _ _ _ _ (by decide)] at hnum
 have HNUM:=hd_ hnum
 have HR0:=hd_ hR0
 have HC0:=hd_ hC0
 have HN:=hd_ hn
 have HH:=hd_ h
 have HG:=hd_ hg
 have HCM:=hd_ hcm
 have HOK : Hid (okF b = (nAt b 0 1 == 69 && nAt b 2 2 == (b.length : Int))):=rfl
 have g1:=nAt_nonneg b 12 4
 have g1' : nAt b 12 4 ≤ 4294967295:=by have:=nAt_lt b 12 4; omega
 have g2:=nAt_nonneg b 16 4
 have g2' : nAt b 16 4 ≤ 4294967295:=by have:=nAt_lt b 16 4; omega
 have HPT:=hd_ (And.intro (nAt_nonneg b 20 2) (And.intro (nAt_lt b 20 2) (And.intro (nAt_nonneg b 22 2) (nAt_lt b 22 2))))
 clear hnum hR0 hC0 hn h hg hcm h24r
 go_enter Tryz.func67,Tryz.ntmps67
 go_wp2_with fail
 refine HNUM.out.mono ?_
 rintro e w1 ⟨rfl,hc1⟩
 have HR1:=hd_ (HR0.out.chg hc1 id)
 have HC1:=hd_ (HC0.out.trans hc1 (fun _ _ e=>e))
 clear HR0 HC0 hc1 HNUM
 go_wp2_with fail
 have hb5 : Blk (w1.alloc (.cells #[int i64 (nAt b 0 1),int i64 (nAt b 1 1),int i64 (nAt b 2 2),int i64 (nAt b 4 2),int i64 (nAt b 6 2),int i64 (nAt b 8 1),int i64 (nAt b 9 1),int i64 (nAt b 10 2),int i64 (nAt b 12 4),int i64 (nAt b 16 4),int i64 (nAt b 20 2),int i64 (nAt b 22 2)] 203)) w1.heap.size 203 _:=blk_new rfl
 have hR2:=HR1.out.alloc (.cells #[int i64 (nAt b 0 1),int i64 (nAt b 1 1),int i64 (nAt b 2 2),int i64 (nAt b 4 2),int i64 (nAt b 6 2),int i64 (nAt b 8 1),int i64 (nAt b 9 1),int i64 (nAt b 10 2),int i64 (nAt b 12 4),int i64 (nAt b 16 4),int i64 (nAt b 20 2),int i64 (nAt b 22 2)] 203)
 have hC2:=HC1.out.alloc (.cells #[int i64 (nAt b 0 1),int i64 (nAt b 1 1),int i64 (nAt b 2 2),int i64 (nAt b 4 2),int i64 (nAt b 6 2),int i64 (nAt b 8 1),int i64 (nAt b 9 1),int i64 (nAt b 10 2),int i64 (nAt b 12 4),int i64 (nAt b 16 4),int i64 (nAt b 20 2),int i64 (nAt b 22 2)] 203)
 generalize (w1.alloc (.cells #[int i64 (nAt b 0 1),int i64 (nAt b 1 1),int i64 (nAt b 2 2),int i64 (nAt b 4 2),int i64 (nAt b 6 2),int i64 (nAt b 8 1),int i64 (nAt b 9 1),int i64 (nAt b 10 2),int i64 (nAt b 12 4),int i64 (nAt b 16 4),int i64 (nAt b 20 2),int i64 (nAt b 22 2)] 203)) = wz at *
 obtain ⟨x0,x1,x2,x3,x4,x5,x6,x7,x8,x9,x10,x11⟩:=num_cells hb5
 go_region_held3 (fun w'=>w'.cell? ⟨w1.heap.size,0,none⟩ = some (int i64 (nAt b 0 1)) ∧ w'.cell? ⟨w1.heap.size,2,none⟩ = some (int i64 (nAt b 2 2)))
  (first | exact ⟨x0,x2⟩ | fail)
  (fail)
 clear x0 x1 x2 x3 x4 x5 x6 x7 x8 x9 x10 x11
 have hb5:=hb5.drew
 have hR:=hR2.drew.alloc (.cells #[int i64 (nAt b 9 1),int .u32 (nAt b 12 4),int .u32 (nAt b 16 4),int i64 (nAt b 20 2),int i64 (nAt b 22 2)] 129)
 have hC:=hC2.drew.alloc (.cells #[int i64 (nAt b 9 1),int .u32 (nAt b 12 4),int .u32 (nAt b 16 4),int i64 (nAt b 20 2),int i64 (nAt b 22 2)] 129)
 have hF8 : Blk (wz.drew.alloc (.cells #[int i64 (nAt b 9 1),int .u32 (nAt b 12 4),int .u32 (nAt b 16 4),int i64 (nAt b 20 2),int i64 (nAt b 22 2)] 129)) wz.drew.heap.size 129 (flC (nAt b 9 1) (nAt b 12 4) (nAt b 16 4) (nAt b 20 2) (nAt b 22 2)):=blk_new rfl
 have HZ:=hd_ (show w.heap.size < wz.drew.heap.size from hR2.lt)
 clear hR2 hC2 HR1 HC1
 generalize wz.drew = wd at *
 obtain ⟨x0,x1,x2,x3,x4,x5,x6,x7,x8,x9,x10,x11⟩:=num_cells hb5
 clear hb5
 by_cases q0 : nAt b 0 1 = 69
 case neg =>
  have t0 : (nAt b 0 1 == 69) = false:=by simpa using q0
  have s0 : (nAt b 0 1 != 69) = true:=by simpa using q0
  have HP:=hd_ (parC_form (b:=b) (by rw [HOK.out,t0]; rfl))
  clear q0 t0
  obtain ⟨y0,y1,y2,y3,y4⟩:=fl_cells hR
  obtain ⟨u0,u1,u2,u3,u4⟩:=fl_free hR
  obtain ⟨r0,r1,r2,r3,r4,hcs⟩:=fl_put hR 0 0 0 0 0
  have HF:=hd_ (fresh_set hC hcs (Nat.le_refl _))
  have RR:=hd_ (And.intro r0 (And.intro r1 (And.intro r2 (And.intro r3 r4))))
  clear r0 r1 r2 r3 r4 hcs hR hC
  go_wp2_with fail
  obtain ⟨r0,r1,r2,r3,r4⟩:=RR.out
  exact bodyPost_ret (v := .tuple #[zeroL4, .slice none 0 0,int i64 2]) (by simp [results,Tryz.results67,go_sem,zeroL4,r0,r1,r2,r3,r4]) rfl (parsed_no HP.out (by decide) rfl HF.out)
 by_cases q2 : nAt b 2 2 = (n : Int)
 case neg =>
  have t2 : (nAt b 2 2 == (n : Int)) = false:=by simpa using q2
  have s2 : (nAt b 2 2 != (n : Int)) = true:=by simpa using q2
  have s0 : (nAt b 0 1 != 69) = false:=by simpa using q0
  have HP:=hd_ (parC_form (b:=b) (by rw [HOK.out, ← HN.out,t2,Bool.and_false]))
  clear q0 q2 t2
  obtain ⟨y0,y1,y2,y3,y4⟩:=fl_cells hR
  obtain ⟨u0,u1,u2,u3,u4⟩:=fl_free hR
  obtain ⟨r0,r1,r2,r3,r4,hcs⟩:=fl_put hR 0 0 0 0 0
  have HF:=hd_ (fresh_set hC hcs (Nat.le_refl _))
  have RR:=hd_ (And.intro r0 (And.intro r1 (And.intro r2 (And.intro r3 r4))))
  clear r0 r1 r2 r3 r4 hcs hR hC
  go_wp2_with fail
  obtain ⟨r0,r1,r2,r3,r4⟩:=RR.out
  exact bodyPost_ret (v := .tuple #[zeroL4, .slice none 0 0,int i64 2]) (by simp [results,Tryz.results67,go_sem,zeroL4,r0,r1,r2,r3,r4]) rfl (parsed_no HP.out (by decide) rfl HF.out)
 have HF8:=hd_ hF8
 have HR:=hd_ hR
 have HC:=hd_ hC
 have s0 : (nAt b 0 1 != 69) = false:=by simpa using q0
 have s2 : (nAt b 2 2 != (n : Int)) = false:=by simpa using q2
 have HO:=hd_ (show okF b = true by rw [HOK.out,q0,q2,HN.out]; simp)
 have HS:=hd_ (show Rds (wd.alloc (.cells #[int i64 (nAt b 9 1),int .u32 (nAt b 12 4),int .u32 (nAt b 16 4),int i64 (nAt b 20 2),int i64 (nAt b 22 2)] 129)) S A 20 (bcs (b.take 20)) by rw [bcs_take]; exact (HH.out.take 20 (by omega)).chg hC (fun _ _=>id))
 have HL20:=hd_ (show 20 = (b.take 20).length by have:=HN.out; rw [List.length_take]; omega)
 have HL:=hd_ (show 24 ≤ b.length by have:=HN.out; omega)
 clear hF8 hR hC q0 q2
 go_wp2_with fail
 refine (check_any A 20 c (b.take 20) S _ HL20.out HS.out (by decide)).mono ?_
 rintro e w3 ⟨rfl,hw3⟩
 subst hw3
 clear HS x0 x1 x2 x3 x4 x5 x6 x7 x8 x9 x10 x11
 by_cases qc : (chkB (b.take 20) == 0) = true
 case neg =>
  have qc : (chkB (b.take 20) == 0) = false:=by simpa using qc
  have sc : (chkB (b.take 20) != 0) = true:=by simpa using qc
  have HP:=hd_ (parC_sum HL.out HO.out qc)
  have hR:=HR.out
  have hC:=HC.out
  generalize chkB (b.take 20) = ck at *
  clear qc HR HC HF8
  obtain ⟨y0,y1,y2,y3,y4⟩:=fl_cells hR
  obtain ⟨u0,u1,u2,u3,u4⟩:=fl_free hR
  obtain ⟨r0,r1,r2,r3,r4,hcs⟩:=fl_put hR 0 0 0 0 0
  have HF:=hd_ (fresh_set hC hcs (Nat.le_refl _))
  have RR:=hd_ (And.intro r0 (And.intro r1 (And.intro r2 (And.intro r3 r4))))
  clear r0 r1 r2 r3 r4 hcs hR hC
  go_wp2_with fail
  obtain ⟨r0,r1,r2,r3,r4⟩:=RR.out
  exact bodyPost_ret (v := .tuple #[zeroL4, .slice none 0 0,int i64 6]) (by simp [results,Tryz.results67,go_sem,zeroL4,r0,r1,r2,r3,r4]) rfl (parsed_no HP.out (by decide) rfl HF.out)
 have sc : (chkB (b.take 20) != 0) = false:=by simpa using qc
 have HKIND:=hd_ (fun h=>parC_kind HL.out HO.out qc h)
 have HYES:=hd_ (fun h=>parC_ok HL.out HO.out qc h)
 generalize chkB (b.take 20) = ck at *
 obtain ⟨y0,y1,y2,y3,y4⟩:=fl_cells HF8.out
 have HK : Hid (flR (nAt b 9 1) (nAt b 20 2) (nAt b 22 2) = (nAt b 9 1 == 6 || nAt b 9 1 == 17)):=by
  obtain ⟨p1,p2,p3,p4⟩:=HPT.out
  unfold Hid flR portB
  have e1 : decide (0 ≤ nAt b 20 2) = true:=by simpa using p1
  have e2 : decide (nAt b 20 2 ≤ 65535) = true:=by simp; omega
  have e3 : decide (0 ≤ nAt b 22 2) = true:=by simpa using p3
  have e4 : decide (nAt b 22 2 ≤ 65535) = true:=by simp; omega
  rw [e1,e2,e3,e4]
  simp
 clear qc
 go_wp2_with fail
 refine (iright_any _ _ _ _ _ _).mono ?_
 rw [HK.out]
 rintro e w4 ⟨rfl,hc4⟩
 have HR4:=hd_ (HR.out.chg hc4 id)
 have HC4:=hd_ (HC.out.trans hc4 (fun _ _ e=>e))
 have HF9:=hd_ (HF8.out.chg hc4 id)
 clear hc4 HR HC HF8 y0 y1 y2 y3 y4
 by_cases qk : (nAt b 9 1 == 6 || nAt b 9 1 == 17) = true
 case neg =>
  have qk : (nAt b 9 1 == 6 || nAt b 9 1 == 17) = false:=by simpa using qk
  have HP:=hd_ (HKIND.out qk)
  rw [qk]
  have hR:=HR4.out
  have hC:=HC4.out
  clear qk HR4 HC4
  obtain ⟨y0,y1,y2,y3,y4⟩:=fl_cells hR
  obtain ⟨u0,u1,u2,u3,u4⟩:=fl_free hR
  obtain ⟨r0,r1,r2,r3,r4,hcs⟩:=fl_put hR 0 0 0 0 0
  have HF:=hd_ (fresh_set hC hcs (Nat.le_refl _))
  have RR:=hd_ (And.intro r0 (And.intro r1 (And.intro r2 (And.intro r3 r4))))
  clear r0 r1 r2 r3 r4 hcs hR hC
  go_wp2_with fail
  obtain ⟨r0,r1,r2,r3,r4⟩:=RR.out
  exact bodyPost_ret (v := .tuple #[zeroL4, .slice none 0 0,int i64 14]) (by simp [results,Tryz.results67,go_sem,zeroL4,r0,r1,r2,r3,r4]) rfl (parsed_no HP.out (by decide) rfl HF.out)
 have HP:=hd_ (HYES.out qk)
 rw [qk]
 obtain ⟨y0,y1,y2,y3,y4⟩:=fl_cells HF9.out
 obtain ⟨a,rfl,_⟩:=HH.out.2 (by omega)
 have hd24:=HH.out.drop 24 c h24 hc
 rw [← bcs_drop] at hd24
 have HN24:=hd_ (show n - 24 = (b.drop 24).length by have:=HN.out; rw [List.length_drop]; omega)
 have hn24 : (24 : Int) ≤ (n : Int):=by omega
 clear qk
 have hne : ¬ wd.heap.size = w.heap.size:=by have:=HZ.out; omega
 have hd24' : Rds _ S (if c = 24 then some a else some { block:=a.block,off:=a.off + 24 }) (n - 24) (bcs (b.drop 24)):=hd24
 have HS24:=hd_ (hd24'.chg HC4.out (fun _ _=>id))
 have HA24 : Hid (∀ A24,(if c = 24 then some a else some ({ block:=a.block,off:=a.off + 24 } : Addr)) = A24 → Rds w4 S A24 (n - 24) (bcs (b.drop 24)) ∧ (A24 = none → c - 24 = 0)):=by
  rintro A24 rfl
  refine ⟨HS24.out,fun e => ?_⟩
  split at e <;> cases e
 clear HS24
 clear hd24 hd24'
 go_wp2_with fail
 refine wp_region_noPanic ?_
 refine wp_region_held_drew (S:=(fun w'=>w'.cell? ⟨wd.heap.size,0,none⟩ = some (int i64 (nAt b 9 1)) ∧ w'.cell? ⟨wd.heap.size,1,none⟩ = some (int .u32 (nAt b 12 4)) ∧ w'.cell? ⟨wd.heap.size,2,none⟩ = some (int .u32 (nAt b 16 4)) ∧ w'.cell? ⟨wd.heap.size,3,none⟩ = some (int i64 (nAt b 20 2)) ∧ w'.cell? ⟨wd.heap.size,4,none⟩ = some (int i64 (nAt b 22 2)))) (by kernel_rfl) ⟨y0,y1,y2,y3,y4⟩ (fun hHeld => ?_)
 iterate 3
  first
   | refine wpAnyH_take (i:=0) (v := ?_) rfl (by kernel_rfl) (by kernel_rfl) (by decide +kernel) (fun _ _ _ h=>h) (Or.inl ⟨by rfl, ?_⟩) (by assumption) ?_
   | refine wpAnyH_take (i:=1) (v := ?_) rfl (by kernel_rfl) (by kernel_rfl) (by decide +kernel) (fun _ _ _ h=>h) (Or.inl ⟨by rfl, ?_⟩) (by assumption) ?_
   | refine wpAnyH_take (i:=2) (v := ?_) rfl (by kernel_rfl) (by kernel_rfl) (by decide +kernel) (fun _ _ _ h=>h) (Or.inl ⟨by rfl, ?_⟩) (by assumption) ?_
  rotate_left
  ·intro w' hSw
   try dsimp only at hSw
   go_simp
   first | done | (with_reducible rfl)
  try simp only [List.getElem_toArray,List.getElem_cons_succ,List.getElem_cons_zero,Act.put,List.setIfInBounds_toArray,List.set_cons_zero,List.set_cons_succ]
 refine wpAnyH_ready (rs := [3]) (by kernel_rfl) (by simp) ?_
 refine AllReadyH.cons rfl (fun K hK => ?_) AllReadyH.nil
 go_simp
 generalize hA24 : (if c = 24 then some a else some ({ block:=a.block,off:=a.off + 24 } : Addr)) = A24
 have hr24:=HA24.out _ hA24
 clear hA24 HA24
 refine (bclone_any A24 _ _ (b.drop 24) _ _ HN24.out (hr24.1.drew) hr24.2 (by omega)).mono ?_
 clear hr24
 rintro e w5 ⟨D,dc,rfl,hown5,hc5⟩
 have HC5:=hd_ ((Chg.refl (fun _=>False) w4).drew.trans hc5 (fun _ _ e=>e))
 have HO5:=hd_ hown5
 have HR5:=hd_ (HR4.out.chg HC5.out id)
 clear hc5 hown5 y0 y1 y2 y3 y4
 go_wp2_with fail
 refine hK.out _ _ (fl_kept HF9.out HC5.out) (fun hHeld => ?_)
 clear hK K
 try simp only [List.getElem_toArray,List.getElem_cons_succ,List.getElem_cons_zero,Act.put,List.setIfInBounds_toArray,List.set_cons_zero,List.set_cons_succ]
 obtain ⟨z0,z1,z2,z3,z4⟩:=fl_cells HR5.out
 obtain ⟨u0,u1,u2,u3,u4⟩:=fl_free HR5.out
 obtain ⟨r0,r1,r2,r3,r4,hcs5⟩:=fl_put HR5.out (nAt b 9 1) (nAt b 12 4) (nAt b 16 4) (nAt b 20 2) (nAt b 22 2)
 have RR:=hd_ (And.intro r0 (And.intro r1 (And.intro r2 (And.intro r3 r4))))
 have HCS:=hd_ hcs5
 clear r0 r1 r2 r3 r4 hcs5
 refine wpAnyH_ready (rs := [4]) (by kernel_rfl) (by simp) ?_
 refine AllReadyH.cons rfl (fun K hK => ?_) AllReadyH.nil
 go_simp
 refine hK.out _ _ (fl_cells ((HF9.out.chg HC5.out id).chg HCS.out hne)) (fun hHeld => ?_)
 clear hK K
 try simp only [List.getElem_toArray,List.getElem_cons_succ,List.getElem_cons_zero,Act.put,List.setIfInBounds_toArray,List.set_cons_zero,List.set_cons_succ]
 iterate 2
  first
   | refine wpAnyH_take (i:=5) (v := ?_) rfl (by kernel_rfl) (by kernel_rfl) (by decide +kernel) (fun _ _ _ h=>h) (Or.inl ⟨by rfl, ?_⟩) (by assumption) ?_
   | refine wpAnyH_take (i:=6) (v := ?_) rfl (by kernel_rfl) (by kernel_rfl) (by decide +kernel) (fun _ _ _ h=>h) (Or.inl ⟨by rfl, ?_⟩) (by assumption) ?_
  rotate_left
  ·intro w' hSw
   try dsimp only at hSw
   go_simp
   first | done | (with_reducible rfl)
  try simp only [List.getElem_toArray,List.getElem_cons_succ,List.getElem_cons_zero,Act.put,List.setIfInBounds_toArray,List.set_cons_zero,List.set_cons_succ]
 refine wpAnyH_done (by kernel_rfl) ?_ _
 refine NoPanic.normal ?_
 clear z0 z1 z2 z3 z4 u0 u1 u2 u3 u4
 go_wp2_with fail
 obtain ⟨r0,r1,r2,r3,r4⟩:=RR.out
 have hown:=own_chg HO5.out HCS.out (fun k hk e=>by have:=(HO5.out.lt k (by rw [own_block]; exact hk)).1; have:=HC4.out.size; have:=HR4.out.lt; have e2 : w4.drew.heap.size = w4.heap.size:=rfl; omega)
 exact bodyPost_ret (v := .tuple #[.agg #[int i64 (nAt b 9 1),int .u32 (nAt b 12 4),int .u32 (nAt b 16 4),int i64 (nAt b 20 2),int i64 (nAt b 22 2)], .slice D (n - 24) dc,int i64 0]) (by simp [results,Tryz.results67,go_sem,r0,r1,r2,r3,r4]) rfl
  (parsed_yes HP.out rfl (by have:=HN.out; omega) ((own_rds2 hown).mono (fun k hk=>Nat.le_trans HC4.out.size hk.1)) (fresh_set (HC4.out.trans HC5.out (fun _ _ e=>e)) HCS.out (Nat.le_refl _)))
theorem iparse_any (A : Option Addr) (n c : Nat) (b : List UInt8) (S : Nat → Prop) (w : World) (hg : Gw w) (hn : n = b.length) (h : Rds w S A n (bcs b)) (hc : n ≤ c) (hcm : c ≤ maxLen) (hb : n ≤ 100000) :
  Calls Tryz.prog 67 #[.slice A n c] w (Parsed b w):=by
 by_cases h24 : n < 24
 ·exact iparse_short A n c b w hn h24
 ·exact iparse_long A n c b S w hg hn h (by omega) hc hcm hb
end Go.Proofs.YtfajcdobikjcdaaGreatDoor
end
