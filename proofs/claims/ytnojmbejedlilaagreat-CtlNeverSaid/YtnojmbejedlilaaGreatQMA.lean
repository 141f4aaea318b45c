/-
  Plain lemmas: a letter's bytes, there and back. No condition.
-/
import Derived.Test.YtnojmbejedlilaaGreatQM9
import Derived.Test.YtnojmbejedlilaaGreatQM2
import Derived.Test.YtnojmbejedlilaaGreatQM1
import Derived.Deep.RegionHeld3
set_option maxRecDepth 100000
set_option maxHeartbeats 40000000
set_option linter.unusedVariables false
set_option linter.unusedSimpArgs false
section
namespace Go.Proofs.YtnojmbejedlilaaGreat
open Go.Value (int)
open Go.IntKind (i64)
open Go.RowKit
def ltB (m p a s : Int) (l : List UInt8) : List UInt8:=be 5 m.toNat ++ (be 5 p.toNat ++ (be 6 a.toNat ++ (be 6 s.toNat ++ (be 2 l.length ++ l))))
theorem ltB_len (m p a s : Int) (l : List UInt8) : (ltB m p a s l).length = 24 + l.length:=by
 unfold ltB
 simp only [List.length_append,be_len]
 omega
def jW : List Nat := [5,5,6,6]
def jst (b : List UInt8) (j : Nat) : Option (List UInt8):=stAt (jW.take j) (some b)
def jvl (b : List UInt8) (j : Nat) : Int:=(getS (jW.getD j 0 : Nat) (jst b j)).1
def jF (b : List UInt8) : List UInt8:=(bytesR 1000 (jst b 4)).1
def jE (b : List UInt8) : Option (List UInt8):=(bytesR 1000 (jst b 4)).2
def jOK (b : List UInt8) : Bool:=doneS (jE b) == 0 && ltR (jvl b 0) (jvl b 1) (jvl b 2) (jvl b 3) (jF b).length
theorem jd_long (b : List UInt8) (h : 22 ≤ b.length) : (jvl b 0 = nAt b 0 5 ∧ jvl b 1 = nAt b 5 5 ∧ jvl b 2 = nAt b 10 6 ∧ jvl b 3 = nAt b 16 6) ∧ jst b 4 = some (b.drop 22):=by
 have g : ∀ j i k : Nat,jst b j = some (b.drop i) → jW.getD j 0 = k → 1 ≤ k → k ≤ 7 → i + k ≤ b.length → jvl b j = nAt b i k ∧ (getS (k : Int) (jst b j)).2 = some (b.drop (i + k)):=by
  intro j i k hs hw h1 h7 hl
  unfold jvl
  rw [hw,hs,get_from b i k h1 h7 hl]
  exact ⟨rfl,rfl⟩
 have s0 : jst b 0 = some (b.drop 0):=rfl
 obtain ⟨v0,s1⟩:=g 0 0 5 s0 rfl (by decide) (by decide) (by omega)
 have s1 : jst b 1 = some (b.drop 5):=s1
 obtain ⟨v1,s2⟩:=g 1 5 5 s1 rfl (by decide) (by decide) (by omega)
 have s2 : jst b 2 = some (b.drop 10):=s2
 obtain ⟨v2,s3⟩:=g 2 10 6 s2 rfl (by decide) (by decide) (by omega)
 have s3 : jst b 3 = some (b.drop 16):=s3
 obtain ⟨v3,s4⟩:=g 3 16 6 s3 rfl (by decide) (by decide) (by omega)
 have s4 : jst b 4 = some (b.drop 22):=s4
 exact ⟨⟨v0,v1,v2,v3⟩,s4⟩
theorem jd_short (b : List UInt8) (h : b.length < 22) : jst b 4 = none:=stAt_short jW b (by decide) h
theorem jd_body (b : List UInt8) (h : 22 ≤ b.length) (hd : doneS (jE b) = 0) : 24 ≤ b.length ∧ b.length ≤ 1024 ∧ nAt b 22 2 = ((b.length - 24 : Nat) : Int) ∧ jF b = b.drop 24:=by
 have hs:=(jd_long b h).2
 have e : bytesR 1000 (jst b 4) = (jF b,jE b):=rfl
 rw [hs] at e
 by_cases h2 : 24 ≤ b.length
 ·have hg:=get_from b 22 2 (by decide) (by decide) h2
  have hg : getS 2 (some (b.drop 22)) = (nAt b 22 2,some (b.drop 24)):=hg
  unfold bytesR at e
  rw [hg] at e
  simp only at e
  have h0:=nAt_nonneg b 22 2
  by_cases h3 : 1000 < nAt b 22 2
  ·rw [if_pos h3] at e
   injection e with e1 e2
   rw [← e2] at hd
   cases hd
  ·rw [if_neg h3] at e
   unfold takeS at e
   simp only at e
   by_cases h4 : (nAt b 22 2).toNat ≤ (b.drop 24).length
   ·rw [if_pos h4] at e
    injection e with e1 e2
    rw [← e2] at hd
    have h5 : ((b.drop 24).drop (nAt b 22 2).toNat) = []:=by
     cases hh : (b.drop 24).drop (nAt b 22 2).toNat with
     | nil=>rfl
     | cons x r=>rw [hh] at hd; cases hd
    have h6 : (b.drop 24).length ≤ (nAt b 22 2).toNat:=List.drop_eq_nil_iff.1 h5
    rw [List.length_drop] at h4 h6
    refine ⟨h2,by omega,by omega, ?_⟩
    rw [← e1]
    exact List.take_of_length_le (by rw [List.length_drop]; omega)
   ·rw [if_neg h4] at e
    injection e with e1 e2
    rw [← e2] at hd
    cases hd
 ·exfalso
  have hg:=get_short (b.drop 22) 2 (by rw [List.length_drop]; omega)
  have hg : getS 2 (some (b.drop 22)) = (0,none):=hg
  unfold bytesR at e
  rw [hg] at e
  rw [if_neg (by decide)] at e
  have e : (([] : List UInt8),(none : Option (List UInt8))) = (jF b,jE b):=e
  injection e with e1 e2
  rw [← e2] at hd
  cases hd
theorem jd_len (b : List UInt8) (hd : doneS (jE b) = 0) : 22 ≤ b.length:=by
 by_cases h : 22 ≤ b.length
 ·exact h
 ·exfalso
  have e : bytesR 1000 (jst b 4) = (jF b,jE b):=rfl
  rw [jd_short b (by omega),bytesR_none 1000 (by decide)] at e
  injection e with e1 e2
  rw [← e2] at hd
  cases hd
theorem jOK_parts {b : List UInt8} (h : jOK b = true) : doneS (jE b) = 0 ∧ ltR (jvl b 0) (jvl b 1) (jvl b 2) (jvl b 3) (jF b).length = true:=by
 unfold jOK at h
 simp only [Bool.and_eq_true,beq_iff_eq] at h
 exact h
theorem jd_le {b : List UInt8} (h : 1024 < b.length) : jOK b = false:=by
 cases e : jOK b
 ·rfl
 ·exfalso
  have hd:=(jOK_parts e).1
  have:=(jd_body b (jd_len b hd) hd).2.1
  omega
def jL (b : List UInt8) : LV:=if jOK b then ⟨jvl b 0,jvl b 1,jvl b 2,jvl b 3,jF b⟩ else ⟨0,0,0,0, []⟩
def jX (b : List UInt8) : Int:=if jOK b then 0 else 2
theorem jL_yes {b : List UInt8} (h : jOK b = true) : jL b = ⟨jvl b 0,jvl b 1,jvl b 2,jvl b 3,jF b⟩:=if_pos h
theorem jL_no {b : List UInt8} (h : jOK b = false) : jL b = ⟨0,0,0,0, []⟩:=by unfold jL; rw [h]; rfl
theorem jX_yes {b : List UInt8} (h : jOK b = true) : jX b = 0:=if_pos h
theorem jX_no {b : List UInt8} (h : jOK b = false) : jX b = 2:=by unfold jX; rw [h]; rfl
theorem jF_len (b : List UInt8) : (jF b).length ≤ 1000:=by
 unfold jF bytesR
 by_cases h : 1000 < (getS 2 (jst b 4)).1
 ·rw [if_pos h]
  decide
 ·rw [if_neg h]
  have:=take_len8 (getS 2 (jst b 4)).1.toNat (getS 2 (jst b 4)).2
  omega
theorem jOK_eq (b : List UInt8) : jOK b = (doneS (jE b) == 0 && ltR (jvl b 0) (jvl b 1) (jvl b 2) (jvl b 3) (jF b).length):=rfl
theorem jL_len (b : List UInt8) : (jL b).b.length ≤ 1000:=by
 unfold jL
 split
 ·exact jF_len b
 ·decide
def zeroL : Value := .agg (ltC 0 0 0 0 none 0 0)
def Hd11 (l : LV) (x : Int) (w : World) (e : Ending) (w' : World) : Prop :=
 ∃ A c,e = .returned (.tuple #[.agg (ltC l.mi l.pe l.ac l.se A l.b.length c),int i64 x]) ∧ Rds w' (fun k=>w.heap.size ≤ k) A l.b.length (bcs l.b) ∧ Chg (fun _=>False) w w'
def Dec11 (b : List UInt8) (w : World) (e : Ending) (w' : World) : Prop:=Hd11 (jL b) (jX b) w e w'
theorem dec11_no {b : List UInt8} (h : jOK b = false) {w w' : World} {e : Ending} (hh : e = .returned (.tuple #[zeroL,int i64 2]) ∧ Chg (fun _=>False) w w') : Dec11 b w e w':=by
 unfold Dec11
 rw [jL_no h,jX_no h]
 exact ⟨none,0,hh.1,Rds.nil _ _ _,hh.2⟩
theorem dec11_hd {b : List UInt8} (h : jOK b = true) {w w' : World} {e : Ending} (hh : Hd11 ⟨jvl b 0,jvl b 1,jvl b 2,jvl b 3,jF b⟩ 0 w e w') : Dec11 b w e w':=by
 unfold Dec11
 rw [jL_yes h,jX_yes h]
 exact hh
theorem jget11 (p : Nat) (S : Nat → Prop) (b : List UInt8) (j : Nat) (k : Int) (w : World) (h : Rd 259 true w p S (jst b j)) (h1 : (getS k (jst b j)).1 = jvl b j) (h2 : (getS k (jst b j)).2 = jst b (j + 1)) :
  Calls Tryz.prog 119 #[.pointer (some ⟨p,0,none⟩),int i64 k] w fun e w'=>e = .returned (int i64 (jvl b j)) ∧ Rd 259 true w' p S (jst b (j + 1)) ∧ Chg (fun k=>k = p) w w':=by
 have hg:=get_any p S _ k w h
 rw [h1,h2] at hg
 exact hg
theorem dec11_long (A : Option Addr) (n c : Nat) (b : List UInt8) (w : World) (hn : n = b.length) (h15 : 1024 < n) (hn2 : n ≤ 9223372036854775807) : Calls Tryz.prog 64 #[.slice A n c] w (Dec11 b w):=by
 have HNO:=hd_ (jd_le (b:=b) (by omega))
 clear hn
 go_in
 go_wp2_with fail
 exact bodyPost_ret (v := .tuple #[zeroL,int i64 2]) (by simp [results,Tryz.results64,go_sem,zeroL,ltC]) rfl (dec11_no HNO.out ⟨rfl,(Chg.refl _ w).alloc _⟩)
theorem dec11_short (A : Option Addr) (n c : Nat) (b : List UInt8) (S : Nat → Prop) (w : World) (hn : n = b.length) (h : Rds w S A n (bcs b)) (hz : A = none → c = 0) (h15 : n ≤ 1024) : Calls Tryz.prog 64 #[.slice A n c] w (Dec11 b w):=by
 have hR0 : Blk (w.alloc (.cells #[int i64 0,int i64 0,int i64 0,int i64 0, .slice none 0 0] 122)) w.heap.size 122 (ltC 0 0 0 0 none 0 0):=blk_new rfl
 have hC0:=(Chg.refl (fun _=>False) w).alloc (.cells #[int i64 0,int i64 0,int i64 0,int i64 0, .slice none 0 0] 122)
 have hz0 : (w.alloc (.cells #[int i64 0,int i64 0,int i64 0,int i64 0, .slice none 0 0] 122)).heap.size = w.heap.size + 1:=by simp
 have HRD:=hd_ (read_any A n c b _ _ hn (h.alloc (.cells #[int i64 0,int i64 0,int i64 0,int i64 0, .slice none 0 0] 122)) hz (by omega))
 have HR:=hd_ hR0
 have HC:=hd_ hC0
 have HZ:=hd_ hz0
 have HDOK:=hd_ (jOK_eq b)
 clear hR0 hC0 hz0 h hn hz
 go_in
 go_wp2_with fail
 refine HRD.out.mono ?_
 rintro e w0 ⟨p,rfl,hp,hrd,hc1⟩
 have hz:=HZ.out
 have hrp : w.heap.size < p:=by omega
 have hrd : Rd _ _ _ _ _ (jst b 0):=hrd.mono (S':=fun k=>w.heap.size < k ∧ k < p) (fun k hk=>by omega) (by omega)
 have hR:=HR.out.chg hc1 id
 have hC:=HC.out.tr hc1
 clear HRD HR HC HZ hz hp hc1
 have HG:=hd_ (jget11 p _ b 0 5 _ hrd rfl rfl)
 have HR:=hd_ hR
 have HC:=hd_ hC
 clear hrd hR hC
 go_wp2_with fail
 refine HG.out.mono ?_
 rintro e w1 ⟨rfl,hrd,hc'⟩
 have hC:=fresh_set HC.out hc' (by omega)
 have hR:=HR.out.chg hc' (by omega)
 clear HG HR HC hc'
 have HG:=hd_ (jget11 p _ b 1 5 _ hrd rfl rfl)
 have HR:=hd_ hR
 have HC:=hd_ hC
 clear hrd hR hC
 go_wp2_with fail
 refine HG.out.mono ?_
 rintro e w2 ⟨rfl,hrd,hc'⟩
 have hC:=fresh_set HC.out hc' (by omega)
 have hR:=HR.out.chg hc' (by omega)
 clear HG HR HC hc'
 have HG:=hd_ (jget11 p _ b 2 6 _ hrd rfl rfl)
 have HR:=hd_ hR
 have HC:=hd_ hC
 clear hrd hR hC
 go_wp2_with fail
 refine HG.out.mono ?_
 rintro e w3 ⟨rfl,hrd,hc'⟩
 have hC:=fresh_set HC.out hc' (by omega)
 have hR:=HR.out.chg hc' (by omega)
 clear HG HR HC hc'
 have HG:=hd_ (jget11 p _ b 3 6 _ hrd rfl rfl)
 have HR:=hd_ hR
 have HC:=hd_ hC
 clear hrd hR hC
 go_wp2_with fail
 refine HG.out.mono ?_
 rintro e w4 ⟨rfl,hrd,hc'⟩
 have hC:=fresh_set HC.out hc' (by omega)
 have hR:=HR.out.chg hc' (by omega)
 clear HG HR HC hc'
 have HG:=hd_ (rbytes_any p _ _ 1000 _ hrd)
 have HR:=hd_ hR
 have HC:=hd_ hC
 clear hrd hR hC
 go_wp2_with fail
 refine HG.out.mono ?_
 rintro e w9 ⟨D,k,dc,rfl,hm,_,_,hfr,hrd,hc'⟩
 replace hm : k = (jF b).length:=hm
 replace hfr : Rds w9 _ D k (bcs (jF b)):=hfr
 replace hrd : Rd _ _ _ _ _ (jE b):=hrd
 have hC:=fresh_set HC.out hc' (by omega)
 have hR:=HR.out.chg hc' (by omega)
 clear HG HR HC hc'
 have hQ : Blk (w9.alloc (.cells #[int i64 ((jvl b 0)),int i64 ((jvl b 1)),int i64 ((jvl b 2)),int i64 ((jvl b 3)), .slice D k dc] 122)) w9.heap.size 122 (ltC (jvl b 0) (jvl b 1) (jvl b 2) (jvl b 3) D k dc):=blk_new rfl
 have hca:=(Chg.refl (fun _=>False) w9).alloc (.cells #[int i64 ((jvl b 0)),int i64 ((jvl b 1)),int i64 ((jvl b 2)),int i64 ((jvl b 3)), .slice D k dc] 122)
 have hrd:=hrd.chg hca id (fun _ _=>id)
 have hC:=hC.tr hca
 have hR:=hR.chg hca id
 have hfr:=hfr.chg hca (fun _ _=>id)
 have HG:=hd_ (rdone_any p _ _ _ hrd)
 have HR:=hd_ hR
 have HC:=hd_ hC
 have HQ:=hd_ hQ
 have HFR:=hd_ hfr
 clear hrd hR hC hQ hca hfr
 generalize hdn : doneS (jE b) = dn at *
 have HM:=hd_ hm
 clear hm hdn
 go_wp2_with fail
 refine HG.out.mono ?_
 rintro e w10 ⟨rfl,hw10⟩
 rw [hw10] at HR HC HQ HFR
 clear hw10 HG
 obtain ⟨y0,y1,y2,y3,y4⟩:=lt_cells HQ.out
 by_cases q0 : dn = 0
 case neg =>
  have t0 : (dn == 0) = false:=by simpa using q0
  have s0 : (dn != 0) = true:=by simpa using q0
  have HNO:=hd_ (show jOK b = false by rw [HDOK.out,t0]; rfl)
  clear q0
  have hR:=HR.out
  have hC:=HC.out
  obtain ⟨x0,x1,x2,x3,x4⟩:=lt_cells hR
  obtain ⟨u0,u1,u2,u3,u4⟩:=lt_free hR
  obtain ⟨r0,r1,r2,r3,r4,_,hcs⟩:=lt_put hR 0 0 0 0 none 0 0
  have HF:=hd_ (fresh_set hC hcs (Nat.le_refl _))
  have RR:=cj5 r0 r1 r2 r3 r4
  clear r0 r1 r2 r3 r4 hcs hR hC
  go_wp2_with fail
  obtain ⟨r0,r1,r2,r3,r4⟩:=RR.out
  exact bodyPost_ret (v := .tuple #[zeroL,int i64 2]) (by simp [results,Tryz.results64,go_sem,zeroL,ltC,r0,r1,r2,r3,r4]) rfl (dec11_no HNO.out ⟨rfl,HF.out⟩)
 subst q0
 have hmx : k ≤ 9223372036854775807:=by have:=jF_len b; have:=HM.out; omega
 have hrt:=fun W=>right11_any (jvl b 0) (jvl b 1) (jvl b 2) (jvl b 3) D k dc W hmx
 have HD2:=hd_ (show jOK b = ltR (jvl b 0) (jvl b 1) (jvl b 2) (jvl b 3) k by rw [HDOK.out,HM.out]; rfl)
 generalize hpr : ltR (jvl b 0) (jvl b 1) (jvl b 2) (jvl b 3) k = r at *
 have HPR:=hd_ hpr
 clear hpr
 cases r with
 | false =>
  have HNO:=hd_ HD2.out
  unfold ltC at hrt
  have HRT:=hd_ hrt
  clear hrt
  go_wp2_with fail
  refine (HRT.out _).mono ?_
  rintro e w11 ⟨rfl,hc'⟩
  have HR:=hd_ (HR.out.chg hc' id)
  have HC:=hd_ (HC.out.tr hc')
  clear hc' HRT
  have hR:=HR.out
  have hC:=HC.out
  obtain ⟨x0,x1,x2,x3,x4⟩:=lt_cells hR
  obtain ⟨u0,u1,u2,u3,u4⟩:=lt_free hR
  obtain ⟨r0,r1,r2,r3,r4,_,hcs⟩:=lt_put hR 0 0 0 0 none 0 0
  have HF:=hd_ (fresh_set hC hcs (Nat.le_refl _))
  have RR:=cj5 r0 r1 r2 r3 r4
  clear r0 r1 r2 r3 r4 hcs hR hC
  go_wp2_with fail
  obtain ⟨r0,r1,r2,r3,r4⟩:=RR.out
  exact bodyPost_ret (v := .tuple #[zeroL,int i64 2]) (by simp [results,Tryz.results64,go_sem,zeroL,ltC,r0,r1,r2,r3,r4]) rfl (dec11_no HNO.out ⟨rfl,HF.out⟩)
 | true =>
  unfold ltC at hrt
  have HRT:=hd_ hrt
  clear hrt
  go_wp2_with fail
  refine (HRT.out _).mono ?_
  rintro e w11 ⟨rfl,hc'⟩
  have hR:=HR.out.chg hc' id
  have hC:=HC.out.tr hc'
  have hQ:=HQ.out.chg hc' id
  have hfr:=HFR.out.chg hc' (fun _ _=>id)
  clear hc' HRT HR HC HQ HFR y0 y1 y2 y3 y4
  obtain ⟨y0,y1,y2,y3,y4⟩:=lt_cells hQ
  obtain ⟨x0,x1,x2,x3,x4⟩:=lt_cells hR
  obtain ⟨u0,u1,u2,u3,u4⟩:=lt_free hR
  obtain ⟨r0,r1,r2,r3,r4,_,hcs⟩:=lt_put hR (jvl b 0) (jvl b 1) (jvl b 2) (jvl b 3) D k dc
  have hF:=fresh_set hC hcs (Nat.le_refl _)
  have hfr:=hfr.chg hcs (fun k hk e=>by have:=hk.1; omega)
  have HF : Hid (Dec11 b w (.returned (.tuple #[.agg (ltC (jvl b 0) (jvl b 1) (jvl b 2) (jvl b 3) D k dc),int i64 0])) _):=dec11_hd HD2.out ⟨D,dc,by rw [HM.out],by rw [← HM.out]; exact hfr.mono (fun k hk=>Nat.le_of_lt hk.1),hF⟩
  have RR:=cj5 r0 r1 r2 r3 r4
  clear r0 r1 r2 r3 r4 hcs hF hfr hR hC hQ
  go_wp2_with fail
  obtain ⟨r0,r1,r2,r3,r4⟩:=RR.out
  exact bodyPost_ret (v := .tuple #[.agg (ltC (jvl b 0) (jvl b 1) (jvl b 2) (jvl b 3) D k dc),int i64 0]) (by simp [results,Tryz.results64,go_sem,ltC,r0,r1,r2,r3,r4]) rfl HF.out
theorem dec11_any (A : Option Addr) (n c : Nat) (b : List UInt8) (S : Nat → Prop) (w : World) (hn : n = b.length) (h : Rds w S A n (bcs b)) (hz : A = none → c = 0) (hn2 : n ≤ 9223372036854775807) :
  Calls Tryz.prog 64 #[.slice A n c] w (Dec11 b w):=by
 by_cases h15 : n ≤ 1024
 ·exact dec11_short A n c b S w hn h hz h15
 ·exact dec11_long A n c b w hn (by omega) hn2
end Go.Proofs.YtnojmbejedlilaaGreat
end
