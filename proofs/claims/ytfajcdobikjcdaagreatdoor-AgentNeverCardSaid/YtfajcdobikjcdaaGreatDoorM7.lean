/-
  Plain lemmas: a letter's bytes, there and back. No condition.
-/
import Derived.Test.YtfajcdobikjcdaaGreatDoorM6
import Derived.Test.YtfajcdobikjcdaaGreatDoorM3
import Derived.Test.YtfajcdobikjcdaaGreatDoorM1
import Derived.Test.YtfajcdobikjcdaaGreatDoorM2
import Derived.Deep.RegionHeld3
import Derived.Lib.ConvBytes
set_option maxRecDepth 100000
set_option maxHeartbeats 40000000
set_option linter.unusedVariables false
set_option linter.unusedSimpArgs false
section
namespace Go.Proofs.YtfajcdobikjcdaaGreatDoor
open Go.Value (int)
open Go.IntKind (i64)
open Go.RowKit
def ltB (m p a s : Int) (l : List UInt8) : List UInt8:=be 5 m.toNat ++ (be 5 p.toNat ++ (be 6 a.toNat ++ (be 6 s.toNat ++ (be 2 l.length ++ l))))
theorem ltB_len (m p a s : Int) (l : List UInt8) : (ltB m p a s l).length = 24 + l.length:=by
 unfold ltB
 simp only [List.length_append,be_len]
 omega
theorem lt_state {m p a s : Int} {l : List UInt8} (h : ltR m p a s l.length = true) : bytesS l (putS 6 [a,s] (putS 5 [m,p] (some []))) = some (ltB m p a s l):=by
 obtain ⟨hm,hp,ha,hs,hn,_⟩:=ltR_parts h
 have e1 : fits 5 m = true:=fits_w 5 (by omega) (by omega)
 have e2 : fits 5 p = true:=fits_w 5 (by omega) (by omega)
 have e3 : fits 6 a = true:=fits_w 6 (by omega) (by omega)
 have e4 : fits 6 s = true:=fits_w 6 (by omega) (by omega)
 have e9 : fits 2 (l.length : Int) = true:=fits_w 2 (by omega) (by omega)
 simp [bytesS,putS,puts,put1,e1,e2,e3,e4,e9,ltB]
def jW : List Nat := [5,5,6,6]
def jst (b : List UInt8) (j : Nat) : Option (List UInt8):=stAt (jW.take j) (some b)
def jvl (b : List UInt8) (j : Nat) : Int:=(getS (jW.getD j 0 : Nat) (jst b j)).1
def jF (b : List UInt8) : List UInt8:=(bytesR 1000 (jst b 4)).1
def jE (b : List UInt8) : Option (List UInt8):=(bytesR 1000 (jst b 4)).2
def jOK (b : List UInt8) : Bool:=doneS (jE b) == 0 && ltR (jvl b 0) (jvl b 1) (jvl b 2) (jvl b 3) (jF b).length
theorem jd_long (b : List UInt8) (h : 22 ≤ b.length) : (jvl b 0 = nAt b 0 5 ∧ jvl b 1 = nAt b 5 5 ∧ jvl b 2 = nAt b 10 6 ∧ jvl b 3 = nAt b 16 6) ∧ jst b 4 = some (b.drop 22):=by
 have g : ∀ j i k : Nat,jst b j = some (b.drop i) → jW.getD j 0 = k → 1 ≤ k → k ≤ 7 → i + k ≤ b.length → jvl b j = nAt b i k ∧ (getS (k : Int) (jst b j)).2 = some (b.drop (i + k)):=by
  intro j i k hs hw h1 h7 hl
  unfold jvl
  rw [hw,hs,get_from b i k h1 h7 hl]
  exact ⟨rfl,rfl⟩
 have s0 : jst b 0 = some (b.drop 0):=rfl
 obtain ⟨v0,s1⟩:=g 0 0 5 s0 rfl (by decide) (by decide) (by omega)
 have s1 : jst b 1 = some (b.drop 5):=s1
 obtain ⟨v1,s2⟩:=g 1 5 5 s1 rfl (by decide) (by decide) (by omega)
 have s2 : jst b 2 = some (b.drop 10):=s2
 obtain ⟨v2,s3⟩:=g 2 10 6 s2 rfl (by decide) (by decide) (by omega)
 have s3 : jst b 3 = some (b.drop 16):=s3
 obtain ⟨v3,s4⟩:=g 3 16 6 s3 rfl (by decide) (by decide) (by omega)
 have s4 : jst b 4 = some (b.drop 22):=s4
 exact ⟨⟨v0,v1,v2,v3⟩,s4⟩
theorem jd_short (b : List UInt8) (h : b.length < 22) : jst b 4 = none:=stAt_short jW b (by decide) h
theorem jd_body (b : List UInt8) (h : 22 ≤ b.length) (hd : doneS (jE b) = 0) : 24 ≤ b.length ∧ b.length ≤ 1024 ∧ nAt b 22 2 = ((b.length - 24 : Nat) : Int) ∧ jF b = b.drop 24:=by
 have hs:=(jd_long b h).2
 have e : bytesR 1000 (jst b 4) = (jF b,jE b):=rfl
 rw [hs] at e
 by_cases h2 : 24 ≤ b.length
 ·have hg:=get_from b 22 2 (by decide) (by decide) h2
  have hg : getS 2 (some (b.drop 22)) = (nAt b 22 2,some (b.drop 24)):=hg
  unfold bytesR at e
  rw [hg] at e
  simp only at e
  have h0:=nAt_nonneg b 22 2
  by_cases h3 : 1000 < nAt b 22 2
  ·rw [if_pos h3] at e
   injection e with e1 e2
   rw [← e2] at hd
   cases hd
  ·rw [if_neg h3] at e
   unfold takeS at e
   simp only at e
   by_cases h4 : (nAt b 22 2).toNat ≤ (b.drop 24).length
   ·rw [if_pos h4] at e
    injection e with e1 e2
    rw [← e2] at hd
    have h5 : ((b.drop 24).drop (nAt b 22 2).toNat) = []:=by
     cases hh : (b.drop 24).drop (nAt b 22 2).toNat with
     | nil=>rfl
     | cons x r=>rw [hh] at hd; cases hd
    have h6 : (b.drop 24).length ≤ (nAt b 22 2).toNat:=List.drop_eq_nil_iff.1 h5
    rw [List.length_drop] at h4 h6
    refine ⟨h2,by omega,by omega, ?_⟩
    rw [← e1]
    exact List.take_of_length_le (by rw [List.length_drop]; omega)
   ·rw [if_neg h4] at e
    injection e with e1 e2
    rw [← e2] at hd
    cases hd
 ·exfalso
  have hg:=get_short (b.drop 22) 2 (by rw [List.length_drop]; omega)
  have hg : getS 2 (some (b.drop 22)) = (0,none):=hg
  unfold bytesR at e
  rw [hg] at e
  rw [if_neg (by decide)] at e
  have e : (([] : List UInt8),(none : Option (List UInt8))) = (jF b,jE b):=e
  injection e with e1 e2
  rw [← e2] at hd
  cases hd
theorem jd_len (b : List UInt8) (hd : doneS (jE b) = 0) : 22 ≤ b.length:=by
 by_cases h : 22 ≤ b.length
 ·exact h
 ·exfalso
  have e : bytesR 1000 (jst b 4) = (jF b,jE b):=rfl
  rw [jd_short b (by omega),bytesR_none 1000 (by decide)] at e
  injection e with e1 e2
  rw [← e2] at hd
  cases hd
theorem jOK_parts {b : List UInt8} (h : jOK b = true) : doneS (jE b) = 0 ∧ ltR (jvl b 0) (jvl b 1) (jvl b 2) (jvl b 3) (jF b).length = true:=by
 unfold jOK at h
 simp only [Bool.and_eq_true,beq_iff_eq] at h
 exact h
theorem jd_le {b : List UInt8} (h : 1024 < b.length) : jOK b = false:=by
 cases e : jOK b
 ·rfl
 ·exfalso
  have hd:=(jOK_parts e).1
  have:=(jd_body b (jd_len b hd) hd).2.1
  omega
theorem jd_back {m p a s : Int} {l : List UInt8} (h : ltR m p a s l.length = true) :
  jOK (ltB m p a s l) = true ∧ jvl (ltB m p a s l) 0 = m ∧ jvl (ltB m p a s l) 1 = p ∧ jvl (ltB m p a s l) 2 = a ∧ jvl (ltB m p a s l) 3 = s ∧ jF (ltB m p a s l) = l:=by
 obtain ⟨hm,hp,ha,hs,hn,_⟩:=ltR_parts h
 have hlen:=ltB_len m p a s l
 generalize hb : ltB m p a s l = b at *
 obtain ⟨⟨v0,v1,v2,v3⟩,s8⟩:=jd_long b (by omega)
 have p0 : b = [] ++ (be 5 m.toNat ++ (be 5 p.toNat ++ (be 6 a.toNat ++ (be 6 s.toNat ++ (be 2 ((l.length : Int)).toNat ++ l))))):=hb.symm
 have app : ∀ (pre : List UInt8) (x : List UInt8) (r : List UInt8),pre ++ (x ++ r) = (pre ++ x) ++ r:=fun _ _ _=>(List.append_assoc _ _ _).symm
 have q0:=p0
 rw [app] at q0
 have q1:=q0
 rw [app] at q1
 have q2:=q1
 rw [app] at q2
 have q3:=q2
 rw [app] at q3
 have q4:=q3
 rw [app] at q4
 have n0 : nAt b 0 5 = m:=by rw [p0]; exact nAt_pk _ _ _ 0 5 rfl (by omega) (by omega)
 have n1 : nAt b 5 5 = p:=by rw [q0]; exact nAt_pk _ _ _ 5 5 (by simp only [List.length_append,be_len,List.length_nil]) (by omega) (by omega)
 have n2 : nAt b 10 6 = a:=by rw [q1]; exact nAt_pk _ _ _ 10 6 (by simp only [List.length_append,be_len,List.length_nil]) (by omega) (by omega)
 have n3 : nAt b 16 6 = s:=by rw [q2]; exact nAt_pk _ _ _ 16 6 (by simp only [List.length_append,be_len,List.length_nil]) (by omega) (by omega)
 have n8 : nAt b 22 2 = (l.length : Int):=by rw [q3]; exact nAt_pk _ _ _ 22 2 (by simp only [List.length_append,be_len,List.length_nil]) (by omega) (by omega)
 have d24 : b.drop 24 = l:=by
  rw [q4]
  exact List.drop_left' (by simp only [List.length_append,be_len,List.length_nil])
 have hg2 : getS 2 (some (b.drop 22)) = (nAt b 22 2,some (b.drop 24)):=get_from b 22 2 (by decide) (by decide) (by omega)
 have e : bytesR 1000 (jst b 4) = (l,some []):=by
  rw [s8]
  unfold bytesR
  rw [hg2,n8,d24]
  simp only
  rw [if_neg (by omega)]
  unfold takeS
  simp only [Int.toNat_natCast]
  rw [if_pos (Nat.le_refl _),List.take_of_length_le (Nat.le_refl _),List.drop_of_length_le (Nat.le_refl _)]
 have eF : jF b = l:=by unfold jF; rw [e]
 have eE : jE b = some []:=by unfold jE; rw [e]
 have w0:=v0.trans n0
 have w1:=v1.trans n1
 have w2:=v2.trans n2
 have w3:=v3.trans n3
 refine ⟨?_,w0,w1,w2,w3,eF⟩
 unfold jOK
 rw [eE,eF,w0,w1,w2,w3,h]
 rfl
def jL (b : List UInt8) : LV:=if jOK b then ⟨jvl b 0,jvl b 1,jvl b 2,jvl b 3,jF b⟩ else ⟨0,0,0,0, []⟩
def jX (b : List UInt8) : Int:=if jOK b then 0 else 2
theorem jL_yes {b : List UInt8} (h : jOK b = true) : jL b = ⟨jvl b 0,jvl b 1,jvl b 2,jvl b 3,jF b⟩:=if_pos h
theorem jL_no {b : List UInt8} (h : jOK b = false) : jL b = ⟨0,0,0,0, []⟩:=by unfold jL; rw [h]; rfl
theorem jX_yes {b : List UInt8} (h : jOK b = true) : jX b = 0:=if_pos h
theorem jX_no {b : List UInt8} (h : jOK b = false) : jX b = 2:=by unfold jX; rw [h]; rfl
theorem jF_len (b : List UInt8) : (jF b).length ≤ 1000:=by
 unfold jF bytesR
 by_cases h : 1000 < (getS 2 (jst b 4)).1
 ·rw [if_pos h]
  decide
 ·rw [if_neg h]
  have:=take_len8 (getS 2 (jst b 4)).1.toNat (getS 2 (jst b 4)).2
  omega
theorem jOK_eq (b : List UInt8) : jOK b = (doneS (jE b) == 0 && ltR (jvl b 0) (jvl b 1) (jvl b 2) (jvl b 3) (jF b).length):=rfl
theorem jL_len (b : List UInt8) : (jL b).b.length ≤ 1000:=by
 unfold jL
 split
 ·exact jF_len b
 ·decide
theorem lt_cells5 {w : World} {q : Nat} {T : TypeId} {m p a s : Int} {A : Option Addr} {n c : Nat} (h : Blk w q T (ltC m p a s A n c)) :
  w.cell? ⟨q,0,none⟩ = some (int i64 m) ∧ w.cell? ⟨q,1,none⟩ = some (int i64 p) ∧ w.cell? ⟨q,2,none⟩ = some (int i64 a) ∧ w.cell? ⟨q,3,none⟩ = some (int i64 s) ∧ w.cell? ⟨q,4,none⟩ = some (.slice A n c):=by
 have h0:=h.cell 0
 have h1:=h.cell 1
 have h2:=h.cell 2
 have h3:=h.cell 3
 have h4:=h.cell 4
 simp only [ltC,List.getElem?_toArray,List.getElem?_cons_zero,List.getElem?_cons_succ] at h0 h1 h2 h3 h4
 exact ⟨h0,h1,h2,h3,h4⟩
theorem jok_in {x hi : Int} (h : 0 ≤ x ∧ x ≤ hi) (hh : hi ≤ 9223372036854775807) : -9223372036854775808 ≤ x ∧ x ≤ 9223372036854775807:=by omega
theorem enc11_bad (m p a s : Int) (A : Option Addr) (n c : Nat) (w : World) (hn : n ≤ 9223372036854775807) (hr : ltR m p a s n = false) : Calls Tryz.prog 41 #[.agg (ltC m p a s A n c)] w (Mk5 [] 1 w):=by
 have HC0:=hd_ ((Chg.refl (fun _=>False) w).alloc (.cells #[int i64 m,int i64 p,int i64 a,int i64 s, .slice A n c] 85))
 have hrt:=fun W=>right11_any m p a s A n c W hn
 rw [hr] at hrt
 have HRT:=hd_ hrt
 clear hr hrt
 unfold ltC at HRT ⊢
 go_enter Tryz.func41,Tryz.ntmps41
 go_wp2_with fail
 refine (HRT.out _).mono ?_
 rintro e w1 ⟨rfl,hc1⟩
 go_wp2_with fail
 go_ret2
 exact mk5_no ⟨rfl,HC0.out.trans hc1 (fun _ _ e=>e)⟩
theorem enc11_ok (m p a s : Int) (A : Option Addr) (n c : Nat) (l : List UInt8) (S : Nat → Prop) (w : World) (hl : n = l.length) (h : Rds w S A n (bcs l)) (hr : ltR m p a s n = true) : Calls Tryz.prog 41 #[.agg (ltC m p a s A n c)] w (Mk5 (ltB m p a s l) 0 w):=by
 obtain ⟨hm,hp,ha,hs,hn,_⟩:=ltR_parts hr
 have HMM:=hd_ (jok_in (x:=m) ⟨by omega,hm.2⟩ (by decide))
 have HPP:=hd_ (jok_in hp (by decide))
 have HAA:=hd_ (jok_in ha (by decide))
 have HSS:=hd_ (jok_in hs (by decide))
 have HN2:=hd_ hn
 have hrt:=fun W=>right11_any m p a s A n c W (by omega)
 have HST:=hd_ (lt_state (l:=l) (by rw [← hl]; exact hr))
 rw [hr] at hrt
 have HRT:=hd_ hrt
 have HC0:=hd_ ((Chg.refl (fun _=>False) w).alloc (.cells #[int i64 m,int i64 p,int i64 a,int i64 s, .slice A n c] 85))
 have HQ0 : Hid (Blk (w.alloc (.cells #[int i64 m,int i64 p,int i64 a,int i64 s, .slice A n c] 85)) w.heap.size 85 (ltC m p a s A n c)):=hd_ (blk_new rfl)
 have HL:=hd_ hl
 have HH:=hd_ h
 clear hr hrt hl h hm hp ha hs hn
 unfold ltC at HRT ⊢
 go_enter Tryz.func41,Tryz.ntmps41
 go_wp2_with fail
 refine (HRT.out _).mono ?_
 rintro e w1 ⟨rfl,hc1⟩
 have HC1:=hd_ (HC0.out.trans hc1 (fun _ _ e=>e))
 have HQ1:=hd_ (HQ0.out.chg hc1 id)
 have HKEEP:=hd_ (fun (w' : World) (hw : Chg (fun _=>False) w1 w')=>(show w'.cell? ⟨w.heap.size,0,none⟩ = some (int i64 m) ∧ w'.cell? ⟨w.heap.size,1,none⟩ = some (int i64 p) ∧ w'.cell? ⟨w.heap.size,2,none⟩ = some (int i64 a) ∧ w'.cell? ⟨w.heap.size,3,none⟩ = some (int i64 s) ∧ w'.cell? ⟨w.heap.size,4,none⟩ = some (.slice A n c) from lt_cells5 (HQ1.out.chg hw id)))
 have hzz:=hc1.size
 clear hc1 HRT HC0 HQ0
 go_upto_region 3 with fail
 go_region_held3 (fun w'=>w'.cell? ⟨w.heap.size,0,none⟩ = some (int i64 m) ∧ w'.cell? ⟨w.heap.size,1,none⟩ = some (int i64 p) ∧ w'.cell? ⟨w.heap.size,2,none⟩ = some (int i64 a) ∧ w'.cell? ⟨w.heap.size,3,none⟩ = some (int i64 s) ∧ w'.cell? ⟨w.heap.size,4,none⟩ = some (.slice A n c))
  (first | with_reducible exact HKEEP.out _ HX5.out | with_reducible exact HKEEP.out _ HX.out | with_reducible exact HKEEP.out _ (HX.out.alloc _) | exact HKEEP.out _ (Chg.refl _ _) | exact HKEEP.out _ (Chg.refl _ _).drew | exact HKEEP.out _ ((Chg.refl _ _).alloc _).drew | exact HKEEP.out _ (((Chg.refl _ _).alloc _).alloc _).drew | exact HKEEP.out _ ((((Chg.refl _ _).alloc _).alloc _).alloc _).drew | fail)
  (first
   | (go_at_call 76; (with_reducible refine (wat_two _ _ 16 6 a s _ w1 _ HAA.out HSS.out (by decide) (by first | with_reducible exact HW4.out | with_reducible exact HW4.out.alloc _) (by first | with_reducible exact blk_new rfl | exact HK4.out.blk (by first | exact blk_new rfl | exact (blk_new (by first | rfl | (simp; done) | (simp; omega))).drew | exact ((blk_new (by first | rfl | (simp; done) | (simp; omega))).alloc _).drew | exact (((blk_new (by first | rfl | (simp; done) | (simp; omega))).alloc _).alloc _).drew))).mono ?_); rintro e w5 ⟨rfl,hw5,_⟩; have HW5:=hd_ hw5; have HX5:=hd_ hw5.was; clear hw5)
   | (go_at_call 77; (with_reducible refine (wat_bytes5 _ 32 _ A n c l S w w1 _ (by have:=HN2.out; omega) HW5.out HL.out HH.out HC1.out).mono ?_); rintro e w6 ⟨rfl,hw6⟩; have HW6:=hd_ (HST.out ▸ hw6); have HX5:=hd_ hw6.was; clear hw6)
   | (go_at_call 78; (with_reducible refine (wat_done5 _ _ _ w1 _ (by have:=HN2.out; omega) HW6.out).mono ?_); rintro e w7 ⟨D,dc,rfl,hown7,hc7⟩; have HO7:=hd_ hown7; have HX5:=hd_ hc7; clear hown7 hc7)
   | (go_at_call 76; (with_reducible refine (wat_two _ _ 0 5 m p (some []) w1 _ HMM.out HPP.out (by decide) (Wat.start (by first | exact (((Chg.refl _ _).alloc _).alloc _).drew | exact ((((Chg.refl _ _).alloc _).alloc _).alloc _).drew) (by first | omega | (simp; done) | (simp; omega)) (by first | exact blk_new rfl | exact (blk_new (by first | rfl | (simp; done) | (simp; omega))).drew | exact ((blk_new (by first | rfl | (simp; done) | (simp; omega))).alloc _).drew | exact (((blk_new (by first | rfl | (simp; done) | (simp; omega))).alloc _).alloc _).drew)) (by first | exact blk_new rfl | exact (blk_new (by first | rfl | (simp; done) | (simp; omega))).drew | exact ((blk_new (by first | rfl | (simp; done) | (simp; omega))).alloc _).drew | exact (((blk_new (by first | rfl | (simp; done) | (simp; omega))).alloc _).alloc _).drew)).mono ?_); rintro e w4 ⟨rfl,hw4,hk4⟩; have HW4:=hd_ hw4; have HK4:=hd_ hk4; have HX:=hd_ hw4.was; clear hw4 hk4)
   | fail)
 all_goals
  go_wp2_with fail
  go_ret2
  exact ⟨D,dc,rfl,own_base HO7.out HC1.out.size,HC1.out.trans HX5.out (fun _ _ e=>e)⟩
theorem enc11_any (m p a s : Int) (A : Option Addr) (n c : Nat) (l : List UInt8) (S : Nat → Prop) (w : World) (hl : n = l.length) (h : Rds w S A n (bcs l)) (hn : n ≤ 9223372036854775807) :
  Calls Tryz.prog 41 #[.agg (ltC m p a s A n c)] w (Mk5 (if ltR m p a s n = true then ltB m p a s l else []) (if ltR m p a s n = true then 0 else 1) w):=by
 by_cases hr : ltR m p a s n = true
 ·rw [if_pos hr,if_pos hr]
  exact enc11_ok m p a s A n c l S w hl h hr
 ·rw [if_neg hr,if_neg hr]
  exact enc11_bad m p a s A n c w hn (by simpa using hr)
def zeroL : Value := .agg (ltC 0 0 0 0 none 0 0)
def Hd11 (l : LV) (x : Int) (w : World) (e : Ending) (w' : World) : Prop :=
 ∃ A c,e = .returned (.tuple #[.agg (ltC l.mi l.pe l.ac l.se A l.b.length c),int i64 x]) ∧ Rds w' (fun k=>w.heap.size ≤ k) A l.b.length (bcs l.b) ∧ Chg (fun _=>False) w w'
def Dec11 (b : List UInt8) (w : World) (e : Ending) (w' : World) : Prop:=Hd11 (jL b) (jX b) w e w'
theorem dec11_no {b : List UInt8} (h : jOK b = false) {w w' : World} {e : Ending} (hh : e = .returned (.tuple #[zeroL,int i64 2]) ∧ Chg (fun _=>False) w w') : Dec11 b w e w':=by
 unfold Dec11
 rw [jL_no h,jX_no h]
 exact ⟨none,0,hh.1,Rds.nil _ _ _,hh.2⟩
theorem dec11_hd {b : List UInt8} (h : jOK b = true) {w w' : World} {e : Ending} (hh : Hd11 ⟨jvl b 0,jvl b 1,jvl b 2,jvl b 3,jF b⟩ 0 w e w') : Dec11 b w e w':=by
 unfold Dec11
 rw [jL_yes h,jX_yes h]
 exact hh
theorem jget11 (p : Nat) (S : Nat → Prop) (b : List UInt8) (j : Nat) (k : Int) (w : World) (h : Rd 173 true w p S (jst b j)) (h1 : (getS k (jst b j)).1 = jvl b j) (h2 : (getS k (jst b j)).2 = jst b (j + 1)) :
  Calls Tryz.prog 50 #[.pointer (some ⟨p,0,none⟩),int i64 k] w fun e w'=>e = .returned (int i64 (jvl b j)) ∧ Rd 173 true w' p S (jst b (j + 1)) ∧ Chg (fun k=>k = p) w w':=by
 have hg:=get_any p S _ k w h
 rw [h1,h2] at hg
 exact hg
theorem dec11_long (A : Option Addr) (n c : Nat) (b : List UInt8) (w : World) (hn : n = b.length) (h15 : 1024 < n) (hn2 : n ≤ 9223372036854775807) : Calls Tryz.prog 26 #[.slice A n c] w (Dec11 b w):=by
 have HNO:=hd_ (jd_le (b:=b) (by omega))
 clear hn
 go_enter Tryz.func26,Tryz.ntmps26
 go_wp2_with fail
 exact bodyPost_ret (v := .tuple #[zeroL,int i64 2]) (by simp [results,Tryz.results26,go_sem,zeroL,ltC]) rfl (dec11_no HNO.out ⟨rfl,(Chg.refl _ w).alloc _⟩)
theorem dec11_short (A : Option Addr) (n c : Nat) (b : List UInt8) (S : Nat → Prop) (w : World) (hn : n = b.length) (h : Rds w S A n (bcs b)) (hz : A = none → c = 0) (h15 : n ≤ 1024) : Calls Tryz.prog 26 #[.slice A n c] w (Dec11 b w):=by
 have hR0 : Blk (w.alloc (.cells #[int i64 0,int i64 0,int i64 0,int i64 0, .slice none 0 0] 85)) w.heap.size 85 (ltC 0 0 0 0 none 0 0):=blk_new rfl
 have hC0:=(Chg.refl (fun _=>False) w).alloc (.cells #[int i64 0,int i64 0,int i64 0,int i64 0, .slice none 0 0] 85)
 have hz0 : (w.alloc (.cells #[int i64 0,int i64 0,int i64 0,int i64 0, .slice none 0 0] 85)).heap.size = w.heap.size + 1:=by simp
 have HRD:=hd_ (read_any A n c b _ _ hn (h.alloc (.cells #[int i64 0,int i64 0,int i64 0,int i64 0, .slice none 0 0] 85)) hz (by omega))
 have HR:=hd_ hR0
 have HC:=hd_ hC0
 have HZ:=hd_ hz0
 have HDOK:=hd_ (jOK_eq b)
 clear hR0 hC0 hz0 h hn hz
 go_enter Tryz.func26,Tryz.ntmps26
 go_wp2_with fail
 refine HRD.out.mono ?_
 rintro e w0 ⟨p,rfl,hp,hrd,hc1⟩
 have hz:=HZ.out
 have hrp : w.heap.size < p:=by omega
 have hrd : Rd _ _ _ _ _ (jst b 0):=hrd.mono (S':=fun k=>w.heap.size < k ∧ k < p) (fun k hk=>by omega) (by omega)
 have hR:=HR.out.chg hc1 id
 have hC:=HC.out.trans hc1 (fun _ _ e=>e)
 clear HRD HR HC HZ hz hp hc1
 have HG:=hd_ (jget11 p _ b 0 5 _ hrd rfl rfl)
 have HR:=hd_ hR
 have HC:=hd_ hC
 clear hrd hR hC
 go_wp2_with fail
 refine HG.out.mono ?_
 rintro e w1 ⟨rfl,hrd,hc'⟩
 have hC:=fresh_set HC.out hc' (by omega)
 have hR:=HR.out.chg hc' (by omega)
 clear HG HR HC hc'
 have HG:=hd_ (jget11 p _ b 1 5 _ hrd rfl rfl)
 have HR:=hd_ hR
 have HC:=hd_ hC
 clear hrd hR hC
 go_wp2_with fail
 refine HG.out.mono ?_
 rintro e w2 ⟨rfl,hrd,hc'⟩
 have hC:=fresh_set HC.out hc' (by omega)
 have hR:=HR.out.chg hc' (by omega)
 clear HG HR HC hc'
 have HG:=hd_ (jget11 p _ b 2 6 _ hrd rfl rfl)
 have HR:=hd_ hR
 have HC:=hd_ hC
 clear hrd hR hC
 go_wp2_with fail
 refine HG.out.mono ?_
 rintro e w3 ⟨rfl,hrd,hc'⟩
 have hC:=fresh_set HC.out hc' (by omega)
 have hR:=HR.out.chg hc' (by omega)
 clear HG HR HC hc'
 have HG:=hd_ (jget11 p _ b 3 6 _ hrd rfl rfl)
 have HR:=hd_ hR
 have HC:=hd_ hC
 clear hrd hR hC
 go_wp2_with fail
 refine HG.out.mono ?_
 rintro e w4 ⟨rfl,hrd,hc'⟩
 have hC:=fresh_set HC.out hc' (by omega)
 have hR:=HR.out.chg hc' (by omega)
 clear HG HR HC hc'
 have HG:=hd_ (rbytes_any p _ _ 1000 _ hrd)
 have HR:=hd_ hR
 have HC:=hd_ hC
 clear hrd hR hC
 go_wp2_with fail
 refine HG.out.mono ?_
 rintro e w9 ⟨D,k,dc,rfl,hm,_,_,hfr,hrd,hc'⟩
 replace hm : k = (jF b).length:=hm
 replace hfr : Rds w9 _ D k (bcs (jF b)):=hfr
 replace hrd : Rd _ _ _ _ _ (jE b):=hrd
 have hC:=fresh_set HC.out hc' (by omega)
 have hR:=HR.out.chg hc' (by omega)
 clear HG HR HC hc'
 have hQ : Blk (w9.alloc (.cells #[int i64 ((jvl b 0)),int i64 ((jvl b 1)),int i64 ((jvl b 2)),int i64 ((jvl b 3)), .slice D k dc] 85)) w9.heap.size 85 (ltC (jvl b 0) (jvl b 1) (jvl b 2) (jvl b 3) D k dc):=blk_new rfl
 have hca:=(Chg.refl (fun _=>False) w9).alloc (.cells #[int i64 ((jvl b 0)),int i64 ((jvl b 1)),int i64 ((jvl b 2)),int i64 ((jvl b 3)), .slice D k dc] 85)
 have hrd:=hrd.chg hca id (fun _ _=>id)
 have hC:=hC.trans hca (fun _ _ e=>e)
 have hR:=hR.chg hca id
 have hfr:=hfr.chg hca (fun _ _=>id)
 have HG:=hd_ (rdone_any p _ _ _ hrd)
 have HR:=hd_ hR
 have HC:=hd_ hC
 have HQ:=hd_ hQ
 have HFR:=hd_ hfr
 clear hrd hR hC hQ hca hfr
 generalize hdn : doneS (jE b) = dn at *
 have HM:=hd_ hm
 clear hm hdn
 go_wp2_with fail
 refine HG.out.mono ?_
 rintro e w10 ⟨rfl,hw10⟩
 rw [hw10] at HR HC HQ HFR
 clear hw10 HG
 obtain ⟨y0,y1,y2,y3,y4⟩:=lt_cells HQ.out
 by_cases q0 : dn = 0
 case neg =>
  have t0 : (dn == 0) = false:=by simpa using q0
  have s0 : (dn != 0) = true:=by simpa using q0
  have HNO:=hd_ (show jOK b = false by rw [HDOK.out,t0]; rfl)
  clear q0
  have hR:=HR.out
  have hC:=HC.out
  obtain ⟨x0,x1,x2,x3,x4⟩:=lt_cells hR
  obtain ⟨u0,u1,u2,u3,u4⟩:=lt_free hR
  obtain ⟨r0,r1,r2,r3,r4,_,hcs⟩:=lt_put hR 0 0 0 0 none 0 0
  have HF:=hd_ (fresh_set hC hcs (Nat.le_refl _))
  have RR:=hd_ (And.intro r0 (And.intro r1 (And.intro r2 (And.intro r3 r4))))
  clear r0 r1 r2 r3 r4 hcs hR hC
  go_wp2_with fail
  obtain ⟨r0,r1,r2,r3,r4⟩:=RR.out
  exact bodyPost_ret (v := .tuple #[zeroL,int i64 2]) (by simp [results,Tryz.results26,go_sem,zeroL,ltC,r0,r1,r2,r3,r4]) rfl (dec11_no HNO.out ⟨rfl,HF.out⟩)
 subst q0
 have hmx : k ≤ 9223372036854775807:=by have:=jF_len b; have:=HM.out; omega
 have hrt:=fun W=>right11_any (jvl b 0) (jvl b 1) (jvl b 2) (jvl b 3) D k dc W hmx
 have HD2:=hd_ (show jOK b = ltR (jvl b 0) (jvl b 1) (jvl b 2) (jvl b 3) k by rw [HDOK.out,HM.out]; rfl)
 generalize hpr : ltR (jvl b 0) (jvl b 1) (jvl b 2) (jvl b 3) k = r at *
 have HPR:=hd_ hpr
 clear hpr
 cases r with
 | false =>
  have HNO:=hd_ HD2.out
  unfold ltC at hrt
  have HRT:=hd_ hrt
  clear hrt
  go_wp2_with fail
  refine (HRT.out _).mono ?_
  rintro e w11 ⟨rfl,hc'⟩
  have HR:=hd_ (HR.out.chg hc' id)
  have HC:=hd_ (HC.out.trans hc' (fun _ _ e=>e))
  clear hc' HRT
  have hR:=HR.out
  have hC:=HC.out
  obtain ⟨x0,x1,x2,x3,x4⟩:=lt_cells hR
  obtain ⟨u0,u1,u2,u3,u4⟩:=lt_free hR
  obtain ⟨r0,r1,r2,r3,r4,_,hcs⟩:=lt_put hR 0 0 0 0 none 0 0
  have HF:=hd_ (fresh_set hC hcs (Nat.le_refl _))
  have RR:=hd_ (And.intro r0 (And.intro r1 (And.intro r2 (And.intro r3 r4))))
  clear r0 r1 r2 r3 r4 hcs hR hC
  go_wp2_with fail
  obtain ⟨r0,r1,r2,r3,r4⟩:=RR.out
  exact bodyPost_ret (v := .tuple #[zeroL,int i64 2]) (by simp [results,Tryz.results26,go_sem,zeroL,ltC,r0,r1,r2,r3,r4]) rfl (dec11_no HNO.out ⟨rfl,HF.out⟩)
 | true =>
  unfold ltC at hrt
  have HRT:=hd_ hrt
  clear hrt
  go_wp2_with fail
  refine (HRT.out _).mono ?_
  rintro e w11 ⟨rfl,hc'⟩
  have hR:=HR.out.chg hc' id
  have hC:=HC.out.trans hc' (fun _ _ e=>e)
  have hQ:=HQ.out.chg hc' id
  have hfr:=HFR.out.chg hc' (fun _ _=>id)
  clear hc' HRT HR HC HQ HFR y0 y1 y2 y3 y4
  obtain ⟨y0,y1,y2,y3,y4⟩:=lt_cells hQ
  obtain ⟨x0,x1,x2,x3,x4⟩:=lt_cells hR
  obtain ⟨u0,u1,u2,u3,u4⟩:=lt_free hR
  obtain ⟨r0,r1,r2,r3,r4,_,hcs⟩:=lt_put hR (jvl b 0) (jvl b 1) (jvl b 2) (jvl b 3) D k dc
  have hF:=fresh_set hC hcs (Nat.le_refl _)
  have hfr:=hfr.chg hcs (fun k hk e=>by have:=hk.1; omega)
  have HF : Hid (Dec11 b w (.returned (.tuple #[.agg (ltC (jvl b 0) (jvl b 1) (jvl b 2) (jvl b 3) D k dc),int i64 0])) _):=dec11_hd HD2.out ⟨D,dc,by rw [HM.out],by rw [← HM.out]; exact hfr.mono (fun k hk=>Nat.le_of_lt hk.1),hF⟩
  have RR:=hd_ (And.intro r0 (And.intro r1 (And.intro r2 (And.intro r3 r4))))
  clear r0 r1 r2 r3 r4 hcs hF hfr hR hC hQ
  go_wp2_with fail
  obtain ⟨r0,r1,r2,r3,r4⟩:=RR.out
  exact bodyPost_ret (v := .tuple #[.agg (ltC (jvl b 0) (jvl b 1) (jvl b 2) (jvl b 3) D k dc),int i64 0]) (by simp [results,Tryz.results26,go_sem,ltC,r0,r1,r2,r3,r4]) rfl HF.out
theorem dec11_any (A : Option Addr) (n c : Nat) (b : List UInt8) (S : Nat → Prop) (w : World) (hn : n = b.length) (h : Rds w S A n (bcs b)) (hz : A = none → c = 0) (hn2 : n ≤ 9223372036854775807) :
  Calls Tryz.prog 26 #[.slice A n c] w (Dec11 b w):=by
 by_cases h15 : n ≤ 1024
 ·exact dec11_short A n c b S w hn h hz h15
 ·exact dec11_long A n c b w hn (by omega) hn2
theorem conv_back11 (w : World) (l : List UInt8) : ∃ A c w',(convert 9 31 (.string ⟨l.toArray⟩)).run Tryz.prog w = .ok (.slice A l.length c) w' ∧ Chg (fun _=>False) w w' ∧ Rds w' (fun k=>w.heap.size ≤ k) A l.length (bcs l):=by
 refine ⟨_,_,_,Lib.run_convert_string_bytes (P:=Tryz.prog) w 9 31 5 ⟨l.toArray⟩ Tryz.underlying9 Tryz.underlying31 Tryz.underlying5, ?_, ?_⟩
 ·exact ⟨rfl,rfl,rfl,by rw [Lib.bytesWorld_size]; omega,fun k hk _=>Lib.bytesWorld_at_old w _ _ k hk⟩
 ·refine ⟨by rw [bcs_len],fun hn=>⟨_,rfl,Nat.le_refl _,by rw [Lib.bytesWorld_size]; show w.heap.size < _; omega,fun j u hu => ?_⟩⟩
  have hj : j < l.length:=by
   have:=(List.getElem?_eq_some_iff.1 hu).1
   rwa [bcs_len] at this
  rw [show (⟨w.heap.size,0,none⟩ : Addr).add j = ⟨w.heap.size,j,none⟩ from by unfold Addr.add; split <;> simp_all]
  rw [Lib.bytesWorld_cell w 5 ⟨l.toArray⟩ j hj, ← hu]
  simp [bcs,List.getD,hj]
theorem ltB_parts (m p a s : Int) (l : List UInt8) : bcs (ltB m p a s l) = bcs (be 5 m.toNat) ++ bcs (be 5 p.toNat) ++ bcs (be 6 a.toNat) ++ bcs (be 6 s.toNat) ++ bcs (be 2 ((l.length : Int)).toNat) ++ bcs l:=by
 unfold ltB
 simp only [bcs_app,List.append_assoc,Int.toNat_natCast]
theorem rbytes11_any (m p a s : Int) (l : List UInt8) (w : World) (hr : ltR m p a s l.length = true) : Calls Tryz.prog 37 #[.agg (rlC m p a s ⟨l.toArray⟩)] w fun e w' => ∃ E k d,e = .returned (.slice E k d) ∧ k = (ltB m p a s l).length ∧ w'.ownsRow w.heap.size 5 1 (.slice E k d) k (bcs (ltB m p a s l)) ∧ Chg (fun _=>False) w w':=by
 obtain ⟨i0,hi0,hz0,hz1,hz2⟩:=info_parts infoByte
 obtain ⟨hm,hp,ha,hs,hn,_⟩:=ltR_parts hr
 have HR:=hd_ (And.intro hm (And.intro hp (And.intro ha (And.intro hs hn))))
 have HB : Hid (Blk (w.alloc (.cells #[int i64 m,int i64 p,int i64 a,int i64 s, .string ⟨l.toArray⟩] 77)) w.heap.size 77 (rlC m p a s ⟨l.toArray⟩)):=hd_ (blk_new rfl)
 have HC:=hd_ ((Chg.refl (fun _=>False) w).alloc (.cells #[int i64 m,int i64 p,int i64 a,int i64 s, .string ⟨l.toArray⟩] 77))
 have hz : (w.alloc (.cells #[int i64 m,int i64 p,int i64 a,int i64 s, .string ⟨l.toArray⟩] 77)).heap.size = w.heap.size + 1:=by simp
 have HZ:=hd_ hz
 clear hm hp ha hs hn hr hz
 unfold rlC
 go_enter Tryz.func37,Tryz.ntmps37
 go_wp2_with fail
 refine (one_any 5 m _ (by decide) (by decide) (by have:=HR.out; omega)).mono ?_
 rintro e v0 ⟨A0,k0,c0,rfl,rfl,hown,hc0⟩
 rw [HZ.out] at hown
 replace HC:=hd_ (HC.out.trans hc0 (fun _ _ e=>e))
 replace HB:=hd_ (HB.out.chg hc0 id)
 have HO:=hd_ hown
 obtain ⟨y0,y1,y2,y3,y4⟩:=rl_cells HB.out
 clear hown hc0 HZ
 go_wp2_with fail
 refine (one_any 5 p _ (by decide) (by decide) (by have:=HR.out; omega)).mono ?_
 rintro e v1 ⟨A1,k1,c1,rfl,rfl,hown2,hc1⟩
 have hC:=HC.out.trans hc1 (fun _ _ e=>e)
 have hB:=HB.out.chg hc1 id
 have hown:=own_chg HO.out hc1 (fun _ _=>id)
 have hsz : w.heap.size + 1 ≤ v1.heap.size:=hB.lt
 have hr:=own_rds2 hown2
 clear hc1 hown2 HC HB HO
 clear y0 y1 y2 y3 y4
 go_wp2_with (at_builtin; refine wpList_own_append _ rfl (.tmp 7) (.tmp 10) 31 rfl _ 5 i0 (int .u8 0) 1 Tryz.underlying31 hi0 hz0 hz1 hz2 rfl (.slice A0 5 c0) 5 _ rfl hown _ A1 5 c1 _ rfl hr (bcs_one _) (by decide) (by decide) hsz ?_; intro vv u1 hown' hg hat; obtain ⟨D1,dc1,rfl,_,_⟩:=own_form hown'; have hC':=grown_fresh hC hg hown (Nat.le_succ _); have hB':=blk_grown hB hg (fun e=>by have:=(hown.lt _ e).1; omega); have HO:=hd_ hown'; have HC:=hd_ hC'; have HB:=hd_ hB'; obtain ⟨y0,y1,y2,y3,y4⟩:=rl_cells HB.out; clear hown' hC' hB' hg hat hown hr hC hB hsz)
 refine (one_any 6 a _ (by decide) (by decide) (by have:=HR.out; omega)).mono ?_
 rintro e v2 ⟨A2,k2,c2,rfl,rfl,hown2,hc2⟩
 have hC:=HC.out.trans hc2 (fun _ _ e=>e)
 have hB:=HB.out.chg hc2 id
 have hown:=own_chg HO.out hc2 (fun _ _=>id)
 have hsz : w.heap.size + 1 ≤ v2.heap.size:=hB.lt
 have hr:=own_rds2 hown2
 clear hc2 hown2 HC HB HO
 clear y0 y1 y2 y3 y4
 go_wp2_with (at_builtin; refine wpList_own_append _ rfl (.tmp 12) (.tmp 15) 31 rfl _ 5 i0 (int .u8 0) 1 Tryz.underlying31 hi0 hz0 hz1 hz2 rfl (.slice D1 10 dc1) 10 _ rfl hown _ A2 6 c2 _ rfl hr (bcs_one _) (by decide) (by decide) hsz ?_; intro vv u2 hown' hg hat; obtain ⟨D2,dc2,rfl,_,_⟩:=own_form hown'; have hC':=grown_fresh hC hg hown (Nat.le_succ _); have hB':=blk_grown hB hg (fun e=>by have:=(hown.lt _ e).1; omega); have HO:=hd_ hown'; have HC:=hd_ hC'; have HB:=hd_ hB'; obtain ⟨y0,y1,y2,y3,y4⟩:=rl_cells HB.out; clear hown' hC' hB' hg hat hown hr hC hB hsz)
 refine (one_any 6 s _ (by decide) (by decide) (by have:=HR.out; omega)).mono ?_
 rintro e v3 ⟨A3,k3,c3,rfl,rfl,hown2,hc3⟩
 have hC:=HC.out.trans hc3 (fun _ _ e=>e)
 have hB:=HB.out.chg hc3 id
 have hown:=own_chg HO.out hc3 (fun _ _=>id)
 have hsz : w.heap.size + 1 ≤ v3.heap.size:=hB.lt
 have hr:=own_rds2 hown2
 clear hc3 hown2 HC HB HO
 clear y0 y1 y2 y3 y4
 go_wp2_with (at_builtin; refine wpList_own_append _ rfl (.tmp 17) (.tmp 20) 31 rfl _ 5 i0 (int .u8 0) 1 Tryz.underlying31 hi0 hz0 hz1 hz2 rfl (.slice D2 16 dc2) 16 _ rfl hown _ A3 6 c3 _ rfl hr (bcs_one _) (by decide) (by decide) hsz ?_; intro vv u3 hown' hg hat; obtain ⟨D3,dc3,rfl,_,_⟩:=own_form hown'; have hC':=grown_fresh hC hg hown (Nat.le_succ _); have hB':=blk_grown hB hg (fun e=>by have:=(hown.lt _ e).1; omega); have HO:=hd_ hown'; have HC:=hd_ hC'; have HB:=hd_ hB'; obtain ⟨y0,y1,y2,y3,y4⟩:=rl_cells HB.out; clear hown' hC' hB' hg hat hown hr hC hB hsz)
 refine (one_any 2 (l.length : Int) _ (by decide) (by decide) (by have:=HR.out; omega)).mono ?_
 rintro e v4 ⟨A4,k4,c4,rfl,rfl,hown2,hc4⟩
 have hC:=HC.out.trans hc4 (fun _ _ e=>e)
 have hB:=HB.out.chg hc4 id
 have hown:=own_chg HO.out hc4 (fun _ _=>id)
 have hsz : w.heap.size + 1 ≤ v4.heap.size:=hB.lt
 have hr:=own_rds2 hown2
 clear hc4 hown2 HC HB HO
 clear y0 y1 y2 y3 y4
 go_upto_region 6 with (at_builtin; refine wpList_own_append _ rfl (.tmp 22) (.tmp 26) 31 rfl _ 5 i0 (int .u8 0) 1 Tryz.underlying31 hi0 hz0 hz1 hz2 rfl (.slice D3 22 dc3) 22 _ rfl hown _ A4 2 c4 _ rfl hr (bcs_one _) (by decide) (by decide) hsz ?_; intro vv u4 hown' hg hat; obtain ⟨D4,dc4,rfl,_,_⟩:=own_form hown'; have hC':=grown_fresh hC hg hown (Nat.le_succ _); have hB':=blk_grown hB hg (fun e=>by have:=(hown.lt _ e).1; omega); have HO:=hd_ hown'; have HC:=hd_ hC'; have HB:=hd_ hB'; obtain ⟨y0,y1,y2,y3,y4⟩:=rl_cells HB.out; clear hown' hC' hB' hg hat hown hr hC hB hsz)
 obtain ⟨X,xc,u5,hcv,hxc,hxr⟩:=conv_back11 u4 l
 have hC:=HC.out.trans hxc (fun _ _ e=>e)
 have hB:=HB.out.chg hxc id
 have hown:=own_chg HO.out hxc (fun _ _=>id)
 have hsz : w.heap.size + 1 ≤ u5.heap.size:=hB.lt
 have hnm:=HR.out.2.2.2.2
 clear HC HB HO hxc
 go_wp2_with (at_builtin; refine wpList_own_append _ rfl (.tmp 28) (.tmp 31) 31 rfl _ 5 i0 (int .u8 0) 1 Tryz.underlying31 hi0 hz0 hz1 hz2 rfl (.slice D4 24 dc4) 24 _ rfl hown _ X l.length xc _ rfl hxr (bcs_one _) (by unfold maxLen; omega) (by omega) hsz ?_; intro vv u6 hown' hg hat; obtain ⟨D5,dc5,rfl,_,_⟩:=own_form hown'; have hC':=grown_fresh hC hg hown (Nat.le_succ _); have HO:=hd_ hown'; have HC:=hd_ hC'; clear hown' hC' hg hat hown hC hB hsz)
 go_ret
 refine ⟨D5,_,dc5,rfl, ?_, ?_,HC.out⟩
 ·rw [ltB_len]
 ·rw [ltB_parts]
  exact own_base HO.out (Nat.le_succ _)
def zeroR : Value := .agg (rlC 0 0 0 0 ⟨#[]⟩)
def Par11 (b : List UInt8) (w : World) (e : Ending) (w' : World) : Prop:=e = .returned (.tuple #[.agg (rlC (jL b).mi (jL b).pe (jL b).ac (jL b).se ⟨(jL b).b.toArray⟩),int i64 (jX b)]) ∧ Chg (fun _=>False) w w'
theorem par11_no {b : List UInt8} (h : jOK b = false) {w w' : World} {e : Ending} (hh : e = .returned (.tuple #[zeroR,int i64 2]) ∧ Chg (fun _=>False) w w') : Par11 b w e w':=by
 unfold Par11
 rw [jL_no h,jX_no h]
 exact hh
theorem par11_yes {b : List UInt8} (h : jOK b = true) {w w' : World} {e : Ending} (hh : e = .returned (.tuple #[.agg (rlC (jvl b 0) (jvl b 1) (jvl b 2) (jvl b 3) ⟨(jF b).toArray⟩),int i64 0]) ∧ Chg (fun _=>False) w w') : Par11 b w e w':=by
 unfold Par11
 rw [jL_yes h,jX_yes h]
 exact hh
theorem rjget11 (p : Nat) (S : Nat → Prop) (b : List UInt8) (j : Nat) (k : Int) (w : World) (h : Rd 119 false w p S (jst b j)) (h1 : (getS k (jst b j)).1 = jvl b j) (h2 : (getS k (jst b j)).2 = jst b (j + 1)) :
  Calls Tryz.prog 42 #[.pointer (some ⟨p,0,none⟩),int i64 k] w fun e w'=>e = .returned (int i64 (jvl b j)) ∧ Rd 119 false w' p S (jst b (j + 1)) ∧ Chg (fun k=>k = p) w w':=by
 have hg:=rget_any p S _ k w h
 rw [h1,h2] at hg
 exact hg
theorem rjdone11 (p : Nat) (S : Nat → Prop) (st : Option (List UInt8)) (w0 w : World) (h : Rd 119 false w0 p S st) (hc : Chg (fun _=>False) w0 w) :
  Calls Tryz.prog 45 #[.pointer (some ⟨p,0,none⟩)] w fun e w'=>e = .returned (int i64 (doneS st)) ∧ w = w' :=
 rrdone_any p S st w (h.chg hc id (fun _ _=>id))
theorem rparse11_any (A : Option Addr) (n c : Nat) (b : List UInt8) (S : Nat → Prop) (w : World) (hn : n = b.length) (h : Rds w S A n (bcs b)) (hb : n ≤ 100000) : Calls Tryz.prog 21 #[.slice A n c] w (Par11 b w):=by
 obtain ⟨i0,hi0,hz0,hz1,hz2⟩:=info_parts infoByte
 have hR0 : Blk ((w.alloc (.cells #[int i64 0,int i64 0,int i64 0,int i64 0, .string (⟨#[]⟩)] 77)).alloc (.cells #[] 5)) w.heap.size 77 (rlC 0 0 0 0 ⟨#[]⟩):=(blk_new rfl).alloc _
 have hC0:=((Chg.refl (fun _=>False) w).alloc (.cells #[int i64 0,int i64 0,int i64 0,int i64 0, .string (⟨#[]⟩)] 77)).alloc (.cells #[] 5)
 have hmade : ((w.alloc (.cells #[int i64 0,int i64 0,int i64 0,int i64 0, .string (⟨#[]⟩)] 77)).alloc (.cells #[] 5)).ownsRow (w.heap.size + 1) 5 1 (.slice (some ⟨w.heap.size + 1,0,none⟩) 0 0) 0 []:=by
  have h:=World.ownsRow_made (e:=5) (size:=1) (w.alloc (.cells #[int i64 0,int i64 0,int i64 0,int i64 0, .string (⟨#[]⟩)] 77)) #[] 0 (Nat.le_refl _) (by decide) rfl
  simpa using h
 have hsz : ((w.alloc (.cells #[int i64 0,int i64 0,int i64 0,int i64 0, .string (⟨#[]⟩)] 77)).alloc (.cells #[] 5)).heap.size = w.heap.size + 2:=by simp
 have hh:=(h.alloc (.cells #[int i64 0,int i64 0,int i64 0,int i64 0, .string (⟨#[]⟩)] 77)).alloc (.cells #[] 5)
 have HN:=hd_ hn
 have HR0:=hd_ hR0
 have HC0:=hd_ hC0
 have HDOK:=hd_ (jOK_eq b)
 clear hR0 hC0 hn h
 go_enter Tryz.func21,Tryz.ntmps21
 go_wp2_with (at_builtin; refine wpList_own_append _ rfl (.tmp 7) (.tmp 8) 31 rfl (w.heap.size + 1) 5 i0 (int .u8 0) 1 Tryz.underlying31 hi0 hz0 hz1 hz2 rfl (.slice (some ⟨w.heap.size + 1,0,none⟩) 0 0) 0 [] rfl hmade S A n c (bcs b) rfl hh (bcs_one b) (by unfold maxLen; omega) (by omega) (by omega) ?_; intro v' wa hown hg hat; rw [Nat.zero_add,List.nil_append] at hown; obtain ⟨D,dc,rfl,hdc1,hdc2⟩:=own_form hown; have hC:=grown_fresh HC0.out hg hmade (by omega); have hR:=blk_grown HR0.out hg (by simp [Value.ownBlock]); clear hg hat hmade hh HR0 HC0)
 have hrd : Rd 119 false (wa.alloc (.cells #[.slice D n dc, .bool false] 119)) wa.heap.size (fun k=>w.heap.size < k ∧ k < wa.heap.size) (jst b 0) :=
  ⟨fun h=>absurd h.2 (Nat.lt_irrefl _),D,n,dc,false,b,heap_alloc_new wa _,hdc1,hdc2,HN.out,((own_rds2 hown).mono (fun k hk=>⟨by omega,hk.2⟩)).alloc _,rfl,rfl⟩
 have hrp:=hR.lt
 have hC:=hC.alloc (.cells #[.slice D n dc, .bool false] 119)
 have hR:=hR.alloc (.cells #[.slice D n dc, .bool false] 119)
 clear hown hdc1 hdc2
 generalize hpp : wa.heap.size = p at *
 have HPP:=hd_ hpp
 clear hpp
 have HG:=hd_ (rjget11 p _ b 0 5 _ hrd rfl rfl)
 have HR:=hd_ hR
 have HC:=hd_ hC
 clear hrd hR hC
 go_wp2_with fail
 refine HG.out.mono ?_
 rintro e w1 ⟨rfl,hrd,hc'⟩
 have hC:=fresh_set HC.out hc' (by omega)
 have hR:=HR.out.chg hc' (by omega)
 clear HG HR HC hc'
 have hpq : p < w1.heap.size:=hrd.lt
 have hQ : Blk (w1.alloc (.cells #[int i64 (jvl b 0),int i64 0,int i64 0,int i64 0, .string (⟨#[]⟩)] 77)) w1.heap.size 77 (rlC (jvl b 0) 0 0 0 ⟨#[]⟩):=blk_new rfl
 have hca:=(Chg.refl (fun _=>False) w1).alloc (.cells #[int i64 (jvl b 0),int i64 0,int i64 0,int i64 0, .string (⟨#[]⟩)] 77)
 have hrd:=hrd.chg hca id (fun _ _=>id)
 have hC:=hC.trans hca (fun _ _ e=>e)
 have hR:=hR.chg hca id
 clear hca
 have HG:=hd_ (rjget11 p _ b 1 5 _ hrd rfl rfl)
 have HR:=hd_ hR
 have HC:=hd_ hC
 have HQ:=hd_ hQ
 clear hrd hR hC hQ
 go_wp2_with fail
 refine HG.out.mono ?_
 rintro e w2 ⟨rfl,hrd,hc'⟩
 have hC:=fresh_set HC.out hc' (by omega)
 have hR:=HR.out.chg hc' (by omega)
 have hQ:=HQ.out.chg hc' (by omega)
 clear HG HR HC hc' HQ
 obtain ⟨y0,y1,y2,y3,y4⟩:=rl_cells hQ
 obtain ⟨f0,f1,f2,f3,f4⟩:=lt_free hQ
 have hcs:=(Chg.refl (fun k=>k = w1.heap.size) w2).put w1.heap.size 1 (fun _=>rfl) (int i64 (jvl b 1))
 have hC:=fresh_set hC hcs (by omega)
 have hR:=hR.chg hcs (by omega)
 have hQ:=hQ.set 1 (int i64 (jvl b 1))
 have hrd:=hrd.chg hcs (by omega) (fun k hk=>by have:=hk.2; omega)
 simp only [rlC,List.setIfInBounds_toArray,List.set_cons_succ,List.set_cons_zero] at hQ
 have hQ : Blk _ _ 77 (rlC (jvl b 0) (jvl b 1) 0 0 ⟨#[]⟩):=hQ
 clear hcs
 have HG:=hd_ (rjget11 p _ b 2 6 _ hrd rfl rfl)
 have HR:=hd_ hR
 have HC:=hd_ hC
 have HQ:=hd_ hQ
 clear hrd hR hC hQ
 go_wp2_with fail
 clear y0 y1 y2 y3 y4 f0 f1 f2 f3 f4
 refine HG.out.mono ?_
 rintro e w3 ⟨rfl,hrd,hc'⟩
 have hC:=fresh_set HC.out hc' (by omega)
 have hR:=HR.out.chg hc' (by omega)
 have hQ:=HQ.out.chg hc' (by omega)
 clear HG HR HC hc' HQ
 obtain ⟨y0,y1,y2,y3,y4⟩:=rl_cells hQ
 obtain ⟨f0,f1,f2,f3,f4⟩:=lt_free hQ
 have hcs:=(Chg.refl (fun k=>k = w1.heap.size) w3).put w1.heap.size 2 (fun _=>rfl) (int i64 (jvl b 2))
 have hC:=fresh_set hC hcs (by omega)
 have hR:=hR.chg hcs (by omega)
 have hQ:=hQ.set 2 (int i64 (jvl b 2))
 have hrd:=hrd.chg hcs (by omega) (fun k hk=>by have:=hk.2; omega)
 simp only [rlC,List.setIfInBounds_toArray,List.set_cons_succ,List.set_cons_zero] at hQ
 have hQ : Blk _ _ 77 (rlC (jvl b 0) (jvl b 1) (jvl b 2) 0 ⟨#[]⟩):=hQ
 clear hcs
 have HG:=hd_ (rjget11 p _ b 3 6 _ hrd rfl rfl)
 have HR:=hd_ hR
 have HC:=hd_ hC
 have HQ:=hd_ hQ
 clear hrd hR hC hQ
 go_wp2_with fail
 clear y0 y1 y2 y3 y4 f0 f1 f2 f3 f4
 refine HG.out.mono ?_
 rintro e w4 ⟨rfl,hrd,hc'⟩
 have hC:=fresh_set HC.out hc' (by omega)
 have hR:=HR.out.chg hc' (by omega)
 have hQ:=HQ.out.chg hc' (by omega)
 clear HG HR HC hc' HQ
 obtain ⟨y0,y1,y2,y3,y4⟩:=rl_cells hQ
 obtain ⟨f0,f1,f2,f3,f4⟩:=lt_free hQ
 have hcs:=(Chg.refl (fun k=>k = w1.heap.size) w4).put w1.heap.size 3 (fun _=>rfl) (int i64 (jvl b 3))
 have hC:=fresh_set hC hcs (by omega)
 have hR:=hR.chg hcs (by omega)
 have hQ:=hQ.set 3 (int i64 (jvl b 3))
 have hrd:=hrd.chg hcs (by omega) (fun k hk=>by have:=hk.2; omega)
 simp only [rlC,List.setIfInBounds_toArray,List.set_cons_succ,List.set_cons_zero] at hQ
 have hQ : Blk _ _ 77 (rlC (jvl b 0) (jvl b 1) (jvl b 2) (jvl b 3) ⟨#[]⟩):=hQ
 clear hcs
 have HG:=hd_ (rrbytes_any p _ _ 1000 _ hrd)
 have HR:=hd_ hR
 have HC:=hd_ hC
 have HQ:=hd_ hQ
 clear hrd hR hC hQ
 go_wp2_with fail
 clear y0 y1 y2 y3 y4 f0 f1 f2 f3 f4
 refine HG.out.mono ?_
 rintro e w8 ⟨E,k,ec,rfl,hm,hfr,hrd,hc'⟩
 replace hm : k = (jF b).length:=hm
 replace hfr : Rds w8 _ E k (bcs (jF b)):=hfr
 replace hrd : Rd _ _ _ _ _ (jE b):=hrd
 have hC:=fresh_set HC.out hc' (by omega)
 have hR:=HR.out.chg hc' (by omega)
 have hQ:=HQ.out.chg hc' (by omega)
 clear HG HR HC HQ hc'
 have s1:=conv_any (c:=ec) hfr
 obtain ⟨y0,y1,y2,y3,y4⟩:=rl_cells hQ
 obtain ⟨f0,f1,f2,f3,f4⟩:=lt_free hQ
 have hcs:=(Chg.refl (fun k=>k = w1.heap.size) w8).put w1.heap.size 4 (fun _=>rfl) (.string ⟨(jF b).toArray⟩)
 have hC:=fresh_set hC hcs (by omega)
 have hR:=hR.chg hcs (by omega)
 have hQ:=hQ.set 4 (.string ⟨(jF b).toArray⟩)
 have hrd:=hrd.chg hcs (by omega) (fun k hk=>by have:=hk.2; omega)
 simp only [rlC,List.setIfInBounds_toArray,List.set_cons_succ,List.set_cons_zero] at hQ
 have hQ : Blk _ _ 77 (rlC (jvl b 0) (jvl b 1) (jvl b 2) (jvl b 3) ⟨(jF b).toArray⟩):=hQ
 clear hcs hfr
 have hmx : k ≤ 9223372036854775807:=by have:=jF_len b; omega
 have hrt:=fun W=>rright11_any (jvl b 0) (jvl b 1) (jvl b 2) (jvl b 3) ⟨(jF b).toArray⟩ k W (by rw [hm]; rfl) hmx
 have HD2:=hd_ (show jOK b = (doneS (jE b) == 0 && ltR (jvl b 0) (jvl b 1) (jvl b 2) (jvl b 3) k) by rw [HDOK.out,hm])
 generalize hpr : ltR (jvl b 0) (jvl b 1) (jvl b 2) (jvl b 3) k = r at *
 have HPR:=hd_ hpr
 unfold rlC at hrt
 have HRT:=hd_ hrt
 have HG:=hd_ (fun W hw=>rjdone11 p _ _ _ W hrd hw)
 obtain ⟨z0,z1,z2,z3,z4⟩:=rl_cells hQ
 have HR:=hd_ hR
 have HC:=hd_ hC
 have HQ:=hd_ hQ
 clear hpr hrt hrd hR hC hQ hm
 generalize hdn : doneS (jE b) = dn at *
 clear hdn
 go_wp2_with fail
 clear y0 y1 y2 y3 y4 f0 f1 f2 f3 f4 z0 z1 z2 z3 z4 s1
 refine (HRT.out _).mono ?_
 rintro e w9 ⟨rfl,hc'⟩
 have HG:=hd_ (HG.out _ hc')
 have HR:=hd_ (HR.out.chg hc' id)
 have HC:=hd_ (HC.out.trans hc' (fun _ _ e=>e))
 have HQ:=hd_ (HQ.out.chg hc' id)
 clear hc' HRT
 go_wp2_with fail
 refine HG.out.mono ?_
 rintro e w10 ⟨rfl,hw10⟩
 rw [hw10] at HR HC HQ
 clear hw10 HG
 by_cases q0 : dn = 0
 case neg =>
  have t0 : (dn == 0) = false:=by simpa using q0
  have s0 : (dn != 0) = true:=by simpa using q0
  have HNO:=hd_ (show jOK b = false by rw [HD2.out,t0]; rfl)
  clear q0
  have hR:=HR.out
  have hC:=HC.out
  obtain ⟨x0,x1,x2,x3,x4⟩:=rl_cells hR
  obtain ⟨u0,u1,u2,u3,u4⟩:=lt_free hR
  obtain ⟨r0,r1,r2,r3,r4,_,hcs⟩:=rl_put hR 0 0 0 0 ⟨#[]⟩
  have HF:=hd_ (fresh_set hC hcs (Nat.le_refl _))
  have RR:=hd_ (And.intro r0 (And.intro r1 (And.intro r2 (And.intro r3 r4))))
  clear r0 r1 r2 r3 r4 hcs hR hC
  go_wp2_with fail
  obtain ⟨r0,r1,r2,r3,r4⟩:=RR.out
  exact bodyPost_ret (v := .tuple #[zeroR,int i64 2]) (by simp [results,Tryz.results21,go_sem,zeroR,rlC,r0,r1,r2,r3,r4]) rfl (par11_no HNO.out ⟨rfl,HF.out⟩)
 subst q0
 have HD3:=hd_ (show jOK b = r by rw [HD2.out]; rfl)
 cases r with
 | false =>
  have HNO:=hd_ HD3.out
  have hR:=HR.out
  have hC:=HC.out
  obtain ⟨x0,x1,x2,x3,x4⟩:=rl_cells hR
  obtain ⟨u0,u1,u2,u3,u4⟩:=lt_free hR
  obtain ⟨r0,r1,r2,r3,r4,_,hcs⟩:=rl_put hR 0 0 0 0 ⟨#[]⟩
  have HF:=hd_ (fresh_set hC hcs (Nat.le_refl _))
  have RR:=hd_ (And.intro r0 (And.intro r1 (And.intro r2 (And.intro r3 r4))))
  clear r0 r1 r2 r3 r4 hcs hR hC
  go_wp2_with fail
  obtain ⟨r0,r1,r2,r3,r4⟩:=RR.out
  exact bodyPost_ret (v := .tuple #[zeroR,int i64 2]) (by simp [results,Tryz.results21,go_sem,zeroR,rlC,r0,r1,r2,r3,r4]) rfl (par11_no HNO.out ⟨rfl,HF.out⟩)
 | true =>
  have hR:=HR.out
  have hC:=HC.out
  have hQ:=HQ.out
  obtain ⟨y0,y1,y2,y3,y4⟩:=rl_cells hQ
  obtain ⟨x0,x1,x2,x3,x4⟩:=rl_cells hR
  obtain ⟨u0,u1,u2,u3,u4⟩:=lt_free hR
  obtain ⟨r0,r1,r2,r3,r4,_,hcs⟩:=rl_put hR (jvl b 0) (jvl b 1) (jvl b 2) (jvl b 3) ⟨(jF b).toArray⟩
  have HF : Hid (Par11 b w (.returned (.tuple #[.agg (rlC (jvl b 0) (jvl b 1) (jvl b 2) (jvl b 3) ⟨(jF b).toArray⟩),int i64 0])) _):=hd_ (par11_yes HD3.out ⟨rfl,fresh_set hC hcs (Nat.le_refl _)⟩)
  have RR:=hd_ (And.intro r0 (And.intro r1 (And.intro r2 (And.intro r3 r4))))
  clear r0 r1 r2 r3 r4 hcs hR hC hQ
  go_wp2_with fail
  obtain ⟨r0,r1,r2,r3,r4⟩:=RR.out
  exact bodyPost_ret (v := .tuple #[.agg (rlC (jvl b 0) (jvl b 1) (jvl b 2) (jvl b 3) ⟨(jF b).toArray⟩),int i64 0]) (by simp [results,Tryz.results21,go_sem,rlC,r0,r1,r2,r3,r4]) rfl HF.out
end Go.Proofs.YtfajcdobikjcdaaGreatDoor
end
