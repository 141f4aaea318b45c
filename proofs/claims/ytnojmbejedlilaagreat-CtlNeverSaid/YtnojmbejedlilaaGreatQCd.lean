/-
  Walks: ctl.message, record.bytes. Conditions: the row may be; the record may become so.
-/
import Derived.Test.YtnojmbejedlilaaGreatQCb
import Derived.Test.YtnojmbejedlilaaGreatQM4
set_option maxRecDepth 100000
set_option maxHeartbeats 40000000
set_option linter.unusedVariables false
set_option linter.unusedSimpArgs false
namespace Go.Proofs.YtnojmbejedlilaaGreat
open Go.Value (int)
open Go.IntKind (i64)
open Go.RowKit
def MkB17 (m : List UInt8) (w : World) (e : Ending) (w' : World) : Prop :=
 ∃ A c,e = .returned (.slice A m.length c) ∧ (A = none → c = 0) ∧ Rds w' (fun k=>w.heap.size ≤ k) A m.length (bcs m) ∧ Chg (fun _=>False) w w'
theorem own_mk17 {w' : World} {base : Nat} {A : Option Addr} {c : Nat} {m : List UInt8} (h : w'.ownsRow base 5 1 (.slice A m.length c) m.length (bcs m)) : Rds w' (fun k=>base ≤ k) A m.length (bcs m) :=
 (own_rds h).mono (fun k hk=>(h.lt k (by rw [own_block]; exact hk)).1)
theorem rwM17_len (x : RV) : (rwM17 x).length = 29:=by
 unfold rwM17 msB
 rw [if_pos rfl]
 simp only [List.length_append,rowB,be_len]
theorem rcB17_len {k : Int} {x : RV} {z n : Int} : 1 ≤ (rcB17 k x z n).length ∧ (rcB17 k x z n).length ≤ 29:=by
 unfold rcB17
 split
 ·rw [rwM17_len]; omega
 ·split <;> simp only [List.length_append,be_len] <;> omega
def RcV17.ok (r : RcV17) : Prop:=(r.k = 1 ∧ r.x.ok = true ∧ 0 ≤ r.x.ma) ∨ (r.k = 6 ∧ 0 ≤ r.n ∧ r.n ≤ 4294967296) ∨ ((r.k = 4 ∨ r.k = 5) ∧ 0 ≤ r.z ∧ r.z ≤ 15)
theorem message17_any (po ma ow ta ol ge ph ve si : Int) (hx : RV.ok ⟨po,ma,ow,ta,ol,ge,ph,ve,si⟩ = true) (hm : 0 ≤ ma) (w : World) : Calls Tryz.prog 128 #[.agg #[int i64 po,int .u64 ma,int i64 ow,int i64 ta,int i64 ol,int i64 ge,int i64 ph,int i64 ve,int i64 si]] w (MkB17 (rwM17 ⟨po,ma,ow,ta,ol,ge,ph,ve,si⟩) w):=by
 have hma : 0 ≤ ma ∧ ma ≤ 18446744073709551615:=⟨hm,by have:=(RV.bd hx).2.2.1; simp only at this; omega⟩
 have hr : msR 1 po ma ow ta ol ge ph ve si 0 0 [] = true:=by
  have : rwR po ma ow ta ol ge ph ve si = true:=hx
  simp [msR,this]
 have HE : Hid (∀ W,Calls _ _ _ W (Mk6 (rwM17 ⟨po,ma,ow,ta,ol,ge,ph,ve,si⟩) 0 W)):=hd_ (fun W=>by
  have:=cenc_any 1 po ma ow ta ol ge ph ve si 0 0 none 0 0 [] (fun _=>False) W ⟨rfl,fun h=>absurd h (by omega)⟩ (by omega) ⟨hma,by simp⟩
  rw [hr,if_pos rfl,if_pos rfl] at this
  exact this)
 clear hr hma hx hm
 have HL:=hd_ (rwM17_len ⟨po,ma,ow,ta,ol,ge,ph,ve,si⟩)
 generalize rwM17 ⟨po,ma,ow,ta,ol,ge,ph,ve,si⟩ = M at *
 generalize hml : M.length = ml at *
 have HML:=hd_ hml
 clear hml
 go_in
 go_upto_region 1 with fail
 have HC:=hd_ ((Chg.refl (fun _=>False) w).alloc (.cells #[int i64 po,int .u64 ma,int i64 ow,int i64 ta,int i64 ol,int i64 ge,int i64 ph,int i64 ve,int i64 si] 60))
 have HQ : Hid (Blk (w.alloc (.cells #[int i64 po,int .u64 ma,int i64 ow,int i64 ta,int i64 ol,int i64 ge,int i64 ph,int i64 ve,int i64 si] 60)) w.heap.size 60 (rvC po ma ow ta ol ge ph ve si)):=hd_ (blk_new rfl)
 generalize w.alloc (.cells #[int i64 po,int .u64 ma,int i64 ow,int i64 ta,int i64 ol,int i64 ge,int i64 ph,int i64 ve,int i64 si] 60) = w1 at *
 obtain ⟨y0,y1,y2,y3,y4,y5,y6,y7,y8⟩:=rv_cells HQ.out
 go_wp2_with fail
 refine (HE.out _).mono ?_
 rintro e w2 ⟨A,c,rfl,hown,hc⟩
 have HO:=hd_ hown
 have HC2:=hd_ (HC.out.tr hc)
 have HSZ:=hd_ HC.out.size
 clear hown hc HE
 go_wp2_with fail
 go_ret
 have hl:=HML.out
 subst hl
 refine ⟨A,c,rfl, ?_, ?_,HC2.out⟩
 ·have h:=own_mk17 HO.out
  exact rds_nil_ok h (by rw [HL.out]; decide)
 ·exact (own_mk17 HO.out).mono (fun k hk=>Nat.le_trans HSZ.out hk)
theorem fits17 {k : Nat} {x : Int} (h : 0 ≤ x) (h2 : x < 256 ^ k) : fits k x = true:=fits_w6 k h h2
theorem rc_cells17 {w : World} {q : Nat} {T : TypeId} {k po ma ow ta ol ge ph ve si z n : Int} (h : Blk w q T #[int i64 k,int i64 po,int .u64 ma,int i64 ow,int i64 ta,int i64 ol,int i64 ge,int i64 ph,int i64 ve,int i64 si,int i64 z,int i64 n]) : w.cell? ⟨q,0,none⟩ = some (int i64 k) ∧ w.cell? ⟨q,1,none⟩ = some (int i64 po) ∧ w.cell? ⟨q,2,none⟩ = some (int .u64 ma) ∧ w.cell? ⟨q,3,none⟩ = some (int i64 ow) ∧ w.cell? ⟨q,4,none⟩ = some (int i64 ta) ∧ w.cell? ⟨q,5,none⟩ = some (int i64 ol) ∧ w.cell? ⟨q,6,none⟩ = some (int i64 ge) ∧ w.cell? ⟨q,7,none⟩ = some (int i64 ph) ∧ w.cell? ⟨q,8,none⟩ = some (int i64 ve) ∧ w.cell? ⟨q,9,none⟩ = some (int i64 si) ∧ w.cell? ⟨q,10,none⟩ = some (int i64 z) ∧ w.cell? ⟨q,11,none⟩ = some (int i64 n):=by
 have h0:=h.cell 0
 have h1:=h.cell 1
 have h2:=h.cell 2
 have h3:=h.cell 3
 have h4:=h.cell 4
 have h5:=h.cell 5
 have h6:=h.cell 6
 have h7:=h.cell 7
 have h8:=h.cell 8
 have h9:=h.cell 9
 have h10:=h.cell 10
 have h11:=h.cell 11
 simp only [List.getElem?_toArray,List.getElem?_cons_zero,List.getElem?_cons_succ] at h0 h1 h2 h3 h4 h5 h6 h7 h8 h9 h10 h11
 exact ⟨h0,h1,h2,h3,h4,h5,h6,h7,h8,h9,h10,h11⟩
theorem bytes17_any (k po ma ow ta ol ge ph ve si z n : Int) (hr : RcV17.ok ⟨k,⟨po,ma,ow,ta,ol,ge,ph,ve,si⟩,z,n⟩) (w : World) : Calls Tryz.prog 117 #[.agg #[int i64 k,int i64 po,int .u64 ma,int i64 ow,int i64 ta,int i64 ol,int i64 ge,int i64 ph,int i64 ve,int i64 si,int i64 z,int i64 n]] w (MkB17 (rcB17 k ⟨po,ma,ow,ta,ol,ge,ph,ve,si⟩ z n) w):=by
 by_cases h1 : k = 1
 ·subst h1
  have hx : RV.ok ⟨po,ma,ow,ta,ol,ge,ph,ve,si⟩ = true ∧ 0 ≤ ma:=by
   rcases hr with h | h | h
   ·exact ⟨h.2.1,h.2.2⟩
   ·exact absurd (show (1 : Int) = 6 from h.1) (by decide)
   ·rcases h.1 with e | e
    ·exact absurd (show (1 : Int) = 4 from e) (by decide)
    ·exact absurd (show (1 : Int) = 5 from e) (by decide)
  have HM:=hd_ (fun W=>message17_any po ma ow ta ol ge ph ve si hx.1 hx.2 W)
  have HV:=hd_ (show rcB17 1 ⟨po,ma,ow,ta,ol,ge,ph,ve,si⟩ z n = rwM17 ⟨po,ma,ow,ta,ol,ge,ph,ve,si⟩ from if_pos rfl)
  clear hr hx
  have HC:=hd_ ((Chg.refl (fun _=>False) w).alloc (.cells #[int i64 1,int i64 po,int .u64 ma,int i64 ow,int i64 ta,int i64 ol,int i64 ge,int i64 ph,int i64 ve,int i64 si,int i64 z,int i64 n] 110))
  have HQ : Hid (Blk (w.alloc (.cells #[int i64 1,int i64 po,int .u64 ma,int i64 ow,int i64 ta,int i64 ol,int i64 ge,int i64 ph,int i64 ve,int i64 si,int i64 z,int i64 n] 110)) w.heap.size 110 #[int i64 1,int i64 po,int .u64 ma,int i64 ow,int i64 ta,int i64 ol,int i64 ge,int i64 ph,int i64 ve,int i64 si,int i64 z,int i64 n]):=hd_ (blk_new rfl)
  go_in
  go_upto_region 1 with fail
  generalize w.alloc (.cells #[int i64 1,int i64 po,int .u64 ma,int i64 ow,int i64 ta,int i64 ol,int i64 ge,int i64 ph,int i64 ve,int i64 si,int i64 z,int i64 n] 110) = w1 at *
  generalize w.heap.size = Q at HQ ⊢
  obtain ⟨y0,y1,y2,y3,y4,y5,y6,y7,y8,y9,y10,y11⟩:=rc_cells17 HQ.out
  go_wp2_with fail
  refine (HM.out _).mono ?_
  rintro e w2 ⟨A,c,rfl,hn,hr2,hc⟩
  have HR:=hd_ hr2
  have HN:=hd_ hn
  have HC2:=hd_ (HC.out.tr hc)
  have HSZ:=hd_ HC.out.size
  clear hr2 hc HM hn
  generalize hml : (rwM17 ⟨po,ma,ow,ta,ol,ge,ph,ve,si⟩).length = ml at *
  have HML:=hd_ hml
  clear hml
  go_wp2_with fail
  go_ret
  have hl:=HML.out
  subst hl
  rw [HV.out]
  exact ⟨A,c,rfl,HN.out,HR.out.mono (fun k hk=>Nat.le_trans HSZ.out hk),HC2.out⟩
 ·have t1 : (k == 1) = false:=by simpa using h1
  have hk : (k = 6 ∧ 0 ≤ n ∧ n ≤ 4294967296) ∨ ((k = 4 ∨ k = 5) ∧ 0 ≤ z ∧ z ≤ 15):=by
   rcases hr with h | h | h
   ·exact absurd h.1 h1
   ·exact .inl h
   ·exact .inr h
  clear hr
  rcases hk with ⟨rfl,hn0,hn1⟩ | ⟨rfl | rfl,hz0,hz1⟩
  ·clear h1 t1
   have HS1 : putS 1 [6] (some []) = some ([] ++ be 1 (6 : Int).toNat):=put_one 1 6 [] (by decide) (by decide)
   have HS2 : putS 5 [n] (some ([] ++ be 1 (6 : Int).toNat)) = some ([] ++ be 1 (6 : Int).toNat ++ be 5 n.toNat):=put_one 5 n ([] ++ be 1 (6 : Int).toNat) (by decide) (fits17 (k:=5) (by omega) (by omega))
   have HV : rcB17 6 ⟨po,ma,ow,ta,ol,ge,ph,ve,si⟩ z n = [] ++ be 1 (6 : Int).toNat ++ be 5 n.toNat:=rfl
   have HL:=(rcB17_len (k:=6) (x:=⟨po,ma,ow,ta,ol,ge,ph,ve,si⟩) (z:=z) (n:=n)).1
   rw [HV] at HL ⊢
   clear HV
   generalize [] ++ be 1 (6 : Int).toNat ++ be 5 n.toNat = M at *
   generalize [] ++ be 1 (6 : Int).toNat = M1 at *
   replace HS1:=hd_ HS1
   replace HS2:=hd_ HS2
   replace HL:=hd_ HL
   have HC:=hd_ ((Chg.refl (fun _=>False) w).alloc (.cells #[int i64 6,int i64 po,int .u64 ma,int i64 ow,int i64 ta,int i64 ol,int i64 ge,int i64 ph,int i64 ve,int i64 si,int i64 z,int i64 n] 110))
   have HQ : Hid (Blk (w.alloc (.cells #[int i64 6,int i64 po,int .u64 ma,int i64 ow,int i64 ta,int i64 ol,int i64 ge,int i64 ph,int i64 ve,int i64 si,int i64 z,int i64 n] 110)) w.heap.size 110 #[int i64 6,int i64 po,int .u64 ma,int i64 ow,int i64 ta,int i64 ol,int i64 ge,int i64 ph,int i64 ve,int i64 si,int i64 z,int i64 n]):=hd_ (blk_new rfl)
   have HSZ:=hd_ HC.out.size
   go_in
   go_upto_region 1 with fail
   generalize w.alloc (.cells #[int i64 6,int i64 po,int .u64 ma,int i64 ow,int i64 ta,int i64 ol,int i64 ge,int i64 ph,int i64 ve,int i64 si,int i64 z,int i64 n] 110) = w1 at *
   generalize w.heap.size = Q at HQ ⊢
   obtain ⟨y0,y1,y2,y3,y4,y5,y6,y7,y8,y9,y10,y11⟩:=rc_cells17 HQ.out
   go_upto_region 3 with fail
   clear y0 y1 y2 y3 y4 y5 y6 y7 y8 y9 y10 y11
   have HWA:=hd_ (Wat.start ((Chg.refl (fun _=>False) w1).alloc (.cells #[.slice none 0 0, .bool false] 243)) (Nat.le_refl _) (blk_new rfl))
   have HQ2:=hd_ (HQ.out.chg ((Chg.refl (fun _=>False) w1).alloc (.cells #[.slice none 0 0, .bool false] 243)) id)
   obtain ⟨y0,y1,y2,y3,y4,y5,y6,y7,y8,y9,y10,y11⟩:=rc_cells17 HQ2.out
   have HP:=wat_one w1.heap.size (w1.heap.size + 1) 0 1 6 _ w1 ((w1.alloc (.cells #[.slice none 0 0, .bool false] 243)).alloc (.cells #[int i64 6] 3)) (by omega) (by omega) (HWA.out.alloc _) (blk_new (by simp))
   rw [HS1.out] at HP
   replace HP:=hd_ HP
   clear HWA
   go_wp2_with fail
   refine HP.out.mono ?_
   rintro e w2 ⟨rfl,hw2, -⟩
   have HW2:=hd_ hw2
   have HQ3:=hd_ (HQ.out.chg hw2.was id)
   clear hw2 HP HQ2 y0 y1 y2 y3 y4 y5 y6 y7 y8 y9 y10 y11
   obtain ⟨y0,y1,y2,y3,y4,y5,y6,y7,y8,y9,y10,y11⟩:=rc_cells17 HQ3.out
   have HP2:=wat_one w1.heap.size w2.heap.size (0 + 8) 5 n _ w1 (w2.alloc (.cells #[int i64 n] 3)) (by omega) (by omega) (HW2.out.alloc _) (blk_new rfl)
   rw [HS2.out] at HP2
   replace HP2:=hd_ HP2
   clear HW2
   go_wp2_with fail
   refine HP2.out.mono ?_
   rintro e w3 ⟨rfl,hw3, -⟩
   have HD:=wat_done6 w1.heap.size _ _ w1 w3 (by omega) hw3
   generalize hml : M.length = ml at *
   have HML:=hd_ hml
   replace HD:=hd_ HD
   clear hml hw3 HP2 HQ3 y0 y1 y2 y3 y4 y5 y6 y7 y8 y9 y10 y11
   go_wp2_with fail
   refine HD.out.mono ?_
   rintro e w4 ⟨A,c,rfl,hown,hc⟩
   have HO:=hd_ hown
   have HC4:=hd_ (HC.out.tr hc)
   clear hown hc HD
   go_wp2_with fail
   go_ret
   have hl:=HML.out
   subst hl
   have h:=own_mk17 HO.out
   exact ⟨A,c,rfl,rds_nil_ok h HL.out,h.mono (fun k hk=>Nat.le_trans HSZ.out hk),HC4.out⟩
  ·clear h1 t1
   have HS1 : putS 1 [4] (some []) = some ([] ++ be 1 (4 : Int).toNat):=put_one 1 4 [] (by decide) (by decide)
   have HS2 : putS 1 [z] (some ([] ++ be 1 (4 : Int).toNat)) = some ([] ++ be 1 (4 : Int).toNat ++ be 1 z.toNat):=put_one 1 z ([] ++ be 1 (4 : Int).toNat) (by decide) (fits17 (k:=1) (by omega) (by omega))
   have HV : rcB17 4 ⟨po,ma,ow,ta,ol,ge,ph,ve,si⟩ z n = [] ++ be 1 (4 : Int).toNat ++ be 1 z.toNat:=rfl
   have HL:=(rcB17_len (k:=4) (x:=⟨po,ma,ow,ta,ol,ge,ph,ve,si⟩) (z:=z) (n:=n)).1
   rw [HV] at HL ⊢
   clear HV
   generalize [] ++ be 1 (4 : Int).toNat ++ be 1 z.toNat = M at *
   generalize [] ++ be 1 (4 : Int).toNat = M1 at *
   replace HS1:=hd_ HS1
   replace HS2:=hd_ HS2
   replace HL:=hd_ HL
   have HC:=hd_ ((Chg.refl (fun _=>False) w).alloc (.cells #[int i64 4,int i64 po,int .u64 ma,int i64 ow,int i64 ta,int i64 ol,int i64 ge,int i64 ph,int i64 ve,int i64 si,int i64 z,int i64 n] 110))
   have HQ : Hid (Blk (w.alloc (.cells #[int i64 4,int i64 po,int .u64 ma,int i64 ow,int i64 ta,int i64 ol,int i64 ge,int i64 ph,int i64 ve,int i64 si,int i64 z,int i64 n] 110)) w.heap.size 110 #[int i64 4,int i64 po,int .u64 ma,int i64 ow,int i64 ta,int i64 ol,int i64 ge,int i64 ph,int i64 ve,int i64 si,int i64 z,int i64 n]):=hd_ (blk_new rfl)
   have HSZ:=hd_ HC.out.size
   go_in
   go_upto_region 1 with fail
   generalize w.alloc (.cells #[int i64 4,int i64 po,int .u64 ma,int i64 ow,int i64 ta,int i64 ol,int i64 ge,int i64 ph,int i64 ve,int i64 si,int i64 z,int i64 n] 110) = w1 at *
   generalize w.heap.size = Q at HQ ⊢
   obtain ⟨y0,y1,y2,y3,y4,y5,y6,y7,y8,y9,y10,y11⟩:=rc_cells17 HQ.out
   go_upto_region 3 with fail
   clear y0 y1 y2 y3 y4 y5 y6 y7 y8 y9 y10 y11
   have HWA:=hd_ (Wat.start ((Chg.refl (fun _=>False) w1).alloc (.cells #[.slice none 0 0, .bool false] 243)) (Nat.le_refl _) (blk_new rfl))
   have HQ2:=hd_ (HQ.out.chg ((Chg.refl (fun _=>False) w1).alloc (.cells #[.slice none 0 0, .bool false] 243)) id)
   obtain ⟨y0,y1,y2,y3,y4,y5,y6,y7,y8,y9,y10,y11⟩:=rc_cells17 HQ2.out
   have HP:=wat_one w1.heap.size (w1.heap.size + 1) 0 1 4 _ w1 ((w1.alloc (.cells #[.slice none 0 0, .bool false] 243)).alloc (.cells #[int i64 4] 3)) (by omega) (by omega) (HWA.out.alloc _) (blk_new (by simp))
   rw [HS1.out] at HP
   replace HP:=hd_ HP
   clear HWA
   go_wp2_with fail
   refine HP.out.mono ?_
   rintro e w2 ⟨rfl,hw2, -⟩
   have HW2:=hd_ hw2
   have HQ3:=hd_ (HQ.out.chg hw2.was id)
   clear hw2 HP HQ2 y0 y1 y2 y3 y4 y5 y6 y7 y8 y9 y10 y11
   obtain ⟨y0,y1,y2,y3,y4,y5,y6,y7,y8,y9,y10,y11⟩:=rc_cells17 HQ3.out
   have HP2:=wat_one w1.heap.size w2.heap.size (0 + 8) 1 z _ w1 (w2.alloc (.cells #[int i64 z] 3)) (by omega) (by omega) (HW2.out.alloc _) (blk_new rfl)
   rw [HS2.out] at HP2
   replace HP2:=hd_ HP2
   clear HW2
   go_wp2_with fail
   refine HP2.out.mono ?_
   rintro e w3 ⟨rfl,hw3, -⟩
   have HD:=wat_done6 w1.heap.size _ _ w1 w3 (by omega) hw3
   generalize hml : M.length = ml at *
   have HML:=hd_ hml
   replace HD:=hd_ HD
   clear hml hw3 HP2 HQ3 y0 y1 y2 y3 y4 y5 y6 y7 y8 y9 y10 y11
   go_wp2_with fail
   refine HD.out.mono ?_
   rintro e w4 ⟨A,c,rfl,hown,hc⟩
   have HO:=hd_ hown
   have HC4:=hd_ (HC.out.tr hc)
   clear hown hc HD
   go_wp2_with fail
   go_ret
   have hl:=HML.out
   subst hl
   have h:=own_mk17 HO.out
   exact ⟨A,c,rfl,rds_nil_ok h HL.out,h.mono (fun k hk=>Nat.le_trans HSZ.out hk),HC4.out⟩
  ·clear h1 t1
   have HS1 : putS 1 [5] (some []) = some ([] ++ be 1 (5 : Int).toNat):=put_one 1 5 [] (by decide) (by decide)
   have HS2 : putS 1 [z] (some ([] ++ be 1 (5 : Int).toNat)) = some ([] ++ be 1 (5 : Int).toNat ++ be 1 z.toNat):=put_one 1 z ([] ++ be 1 (5 : Int).toNat) (by decide) (fits17 (k:=1) (by omega) (by omega))
   have HV : rcB17 5 ⟨po,ma,ow,ta,ol,ge,ph,ve,si⟩ z n = [] ++ be 1 (5 : Int).toNat ++ be 1 z.toNat:=rfl
   have HL:=(rcB17_len (k:=5) (x:=⟨po,ma,ow,ta,ol,ge,ph,ve,si⟩) (z:=z) (n:=n)).1
   rw [HV] at HL ⊢
   clear HV
   generalize [] ++ be 1 (5 : Int).toNat ++ be 1 z.toNat = M at *
   generalize [] ++ be 1 (5 : Int).toNat = M1 at *
   replace HS1:=hd_ HS1
   replace HS2:=hd_ HS2
   replace HL:=hd_ HL
   have HC:=hd_ ((Chg.refl (fun _=>False) w).alloc (.cells #[int i64 5,int i64 po,int .u64 ma,int i64 ow,int i64 ta,int i64 ol,int i64 ge,int i64 ph,int i64 ve,int i64 si,int i64 z,int i64 n] 110))
   have HQ : Hid (Blk (w.alloc (.cells #[int i64 5,int i64 po,int .u64 ma,int i64 ow,int i64 ta,int i64 ol,int i64 ge,int i64 ph,int i64 ve,int i64 si,int i64 z,int i64 n] 110)) w.heap.size 110 #[int i64 5,int i64 po,int .u64 ma,int i64 ow,int i64 ta,int i64 ol,int i64 ge,int i64 ph,int i64 ve,int i64 si,int i64 z,int i64 n]):=hd_ (blk_new rfl)
   have HSZ:=hd_ HC.out.size
   go_in
   go_upto_region 1 with fail
   generalize w.alloc (.cells #[int i64 5,int i64 po,int .u64 ma,int i64 ow,int i64 ta,int i64 ol,int i64 ge,int i64 ph,int i64 ve,int i64 si,int i64 z,int i64 n] 110) = w1 at *
   generalize w.heap.size = Q at HQ ⊢
   obtain ⟨y0,y1,y2,y3,y4,y5,y6,y7,y8,y9,y10,y11⟩:=rc_cells17 HQ.out
   go_upto_region 3 with fail
   clear y0 y1 y2 y3 y4 y5 y6 y7 y8 y9 y10 y11
   have HWA:=hd_ (Wat.start ((Chg.refl (fun _=>False) w1).alloc (.cells #[.slice none 0 0, .bool false] 243)) (Nat.le_refl _) (blk_new rfl))
   have HQ2:=hd_ (HQ.out.chg ((Chg.refl (fun _=>False) w1).alloc (.cells #[.slice none 0 0, .bool false] 243)) id)
   obtain ⟨y0,y1,y2,y3,y4,y5,y6,y7,y8,y9,y10,y11⟩:=rc_cells17 HQ2.out
   have HP:=wat_one w1.heap.size (w1.heap.size + 1) 0 1 5 _ w1 ((w1.alloc (.cells #[.slice none 0 0, .bool false] 243)).alloc (.cells #[int i64 5] 3)) (by omega) (by omega) (HWA.out.alloc _) (blk_new (by simp))
   rw [HS1.out] at HP
   replace HP:=hd_ HP
   clear HWA
   go_wp2_with fail
   refine HP.out.mono ?_
   rintro e w2 ⟨rfl,hw2, -⟩
   have HW2:=hd_ hw2
   have HQ3:=hd_ (HQ.out.chg hw2.was id)
   clear hw2 HP HQ2 y0 y1 y2 y3 y4 y5 y6 y7 y8 y9 y10 y11
   obtain ⟨y0,y1,y2,y3,y4,y5,y6,y7,y8,y9,y10,y11⟩:=rc_cells17 HQ3.out
   have HP2:=wat_one w1.heap.size w2.heap.size (0 + 8) 1 z _ w1 (w2.alloc (.cells #[int i64 z] 3)) (by omega) (by omega) (HW2.out.alloc _) (blk_new rfl)
   rw [HS2.out] at HP2
   replace HP2:=hd_ HP2
   clear HW2
   go_wp2_with fail
   refine HP2.out.mono ?_
   rintro e w3 ⟨rfl,hw3, -⟩
   have HD:=wat_done6 w1.heap.size _ _ w1 w3 (by omega) hw3
   generalize hml : M.length = ml at *
   have HML:=hd_ hml
   replace HD:=hd_ HD
   clear hml hw3 HP2 HQ3 y0 y1 y2 y3 y4 y5 y6 y7 y8 y9 y10 y11
   go_wp2_with fail
   refine HD.out.mono ?_
   rintro e w4 ⟨A,c,rfl,hown,hc⟩
   have HO:=hd_ hown
   have HC4:=hd_ (HC.out.tr hc)
   clear hown hc HD
   go_wp2_with fail
   go_ret
   have hl:=HML.out
   subst hl
   have h:=own_mk17 HO.out
   exact ⟨A,c,rfl,rds_nil_ok h HL.out,h.mono (fun k hk=>Nat.le_trans HSZ.out hk),HC4.out⟩
end Go.Proofs.YtnojmbejedlilaaGreat
