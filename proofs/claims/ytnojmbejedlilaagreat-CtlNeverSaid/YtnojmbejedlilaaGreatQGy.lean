/-
  Walk: rutterref11.Bytes. Conditions: the letter may be.
-/
import Derived.Test.YtnojmbejedlilaaGreatQMA
import Derived.Test.YtnojmbejedlilaaGreatQGk
import Derived.Test.YtnojmbejedlilaaGreatQM1
import Derived.Lib.ConvBytes
set_option maxRecDepth 100000
set_option maxHeartbeats 40000000
set_option linter.unusedVariables false
set_option linter.unusedSimpArgs false
namespace Go.Proofs.YtnojmbejedlilaaGreat
open Go.Value (int)
open Go.IntKind (i64)
open Go.RowKit
theorem conv_back11 (w : World) (l : List UInt8) : ∃ A c w',(convert 9 23 (.string ⟨l.toArray⟩)).run Tryz.prog w = .ok (.slice A l.length c) w' ∧ Chg (fun _=>False) w w' ∧ Rds w' (fun k=>w.heap.size ≤ k) A l.length (bcs l):=by
 refine ⟨_,_,_,Lib.run_convert_string_bytes (P:=Tryz.prog) w 9 23 5 ⟨l.toArray⟩ Tryz.underlying9 Tryz.underlying23 Tryz.underlying5, ?_, ?_⟩
 ·exact ⟨rfl,rfl,rfl,by rw [Lib.bytesWorld_size]; omega,fun k hk _=>Lib.bytesWorld_at_old w _ _ k hk⟩
 ·refine ⟨by rw [bcs_len],fun hn=>⟨_,rfl,Nat.le_refl _,by rw [Lib.bytesWorld_size]; show w.heap.size < _; omega,fun j u hu => ?_⟩⟩
  have hj : j < l.length:=by
   have:=(List.getElem?_eq_some_iff.1 hu).1
   rwa [bcs_len] at this
  rw [show (⟨w.heap.size,0,none⟩ : Addr).add j = ⟨w.heap.size,j,none⟩ from by unfold Addr.add; split <;> simp_all]
  rw [Lib.bytesWorld_cell w 5 ⟨l.toArray⟩ j hj, ← hu]
  simp [bcs,List.getD,hj]
theorem ltB_parts (m p a s : Int) (l : List UInt8) : bcs (ltB m p a s l) = bcs (be 5 m.toNat) ++ bcs (be 5 p.toNat) ++ bcs (be 6 a.toNat) ++ bcs (be 6 s.toNat) ++ bcs (be 2 ((l.length : Int)).toNat) ++ bcs l:=by
 unfold ltB
 simp only [bcs_app,List.append_assoc,Int.toNat_natCast]
theorem rbytes11_any (m p a s : Int) (l : List UInt8) (w : World) (hr : ltR m p a s l.length = true) : Calls Tryz.prog 69 #[.agg (rlC m p a s ⟨l.toArray⟩)] w fun e w' => ∃ E k d,e = .returned (.slice E k d) ∧ k = (ltB m p a s l).length ∧ w'.ownsRow w.heap.size 5 1 (.slice E k d) k (bcs (ltB m p a s l)) ∧ Chg (fun _=>False) w w':=by
 obtain ⟨i0,hi0,hz0,hz1,hz2⟩:=info_parts infoByte
 obtain ⟨hm,hp,ha,hs,hn,_⟩:=ltR_parts hr
 have HR:=cj5 hm hp ha hs hn
 have HB : Hid (Blk (w.alloc (.cells #[int i64 m,int i64 p,int i64 a,int i64 s, .string ⟨l.toArray⟩] 133)) w.heap.size 133 (rlC m p a s ⟨l.toArray⟩)):=hd_ (blk_new rfl)
 have HC:=hd_ ((Chg.refl (fun _=>False) w).alloc (.cells #[int i64 m,int i64 p,int i64 a,int i64 s, .string ⟨l.toArray⟩] 133))
 have hz : (w.alloc (.cells #[int i64 m,int i64 p,int i64 a,int i64 s, .string ⟨l.toArray⟩] 133)).heap.size = w.heap.size + 1:=by simp
 have HZ:=hd_ hz
 clear hm hp ha hs hn hr hz
 unfold rlC
 go_in
 go_wp2_with fail
 refine (one_any 5 m _ (by decide) (by decide) (by have:=HR.out; omega)).mono ?_
 rintro e v0 ⟨A0,k0,c0,rfl,rfl,hown,hc0⟩
 rw [HZ.out] at hown
 replace HC:=hd_ (HC.out.tr hc0)
 replace HB:=hd_ (HB.out.chg hc0 id)
 have HO:=hd_ hown
 obtain ⟨y0,y1,y2,y3,y4⟩:=rl_cells HB.out
 clear hown hc0 HZ
 go_wp2_with fail
 refine (one_any 5 p _ (by decide) (by decide) (by have:=HR.out; omega)).mono ?_
 rintro e v1 ⟨A1,k1,c1,rfl,rfl,hown2,hc1⟩
 have hC:=HC.out.tr hc1
 have hB:=HB.out.chg hc1 id
 have hown:=own_chg HO.out hc1 (fun _ _=>id)
 have hsz : w.heap.size + 1 ≤ v1.heap.size:=hB.lt
 have hr:=own_rds2 hown2
 clear hc1 hown2 HC HB HO
 clear y0 y1 y2 y3 y4
 go_wp2_with (at_builtin; refine wpList_own_append _ rfl (.tmp 7) (.tmp 10) 23 rfl _ 5 i0 (int .u8 0) 1 Tryz.underlying23 hi0 hz0 hz1 hz2 rfl (.slice A0 5 c0) 5 _ rfl hown _ A1 5 c1 _ rfl hr (bcs_one _) (by decide) (by decide) hsz ?_; intro vv u1 hown' hg hat; obtain ⟨D1,dc1,rfl,_,_⟩:=own_form hown'; have hC':=grown_fresh hC hg hown (Nat.le_succ _); have hB':=blk_grown hB hg (fun e=>by have:=(hown.lt _ e).1; omega); have HO:=hd_ hown'; have HC:=hd_ hC'; have HB:=hd_ hB'; obtain ⟨y0,y1,y2,y3,y4⟩:=rl_cells HB.out; clear hown' hC' hB' hg hat hown hr hC hB hsz)
 refine (one_any 6 a _ (by decide) (by decide) (by have:=HR.out; omega)).mono ?_
 rintro e v2 ⟨A2,k2,c2,rfl,rfl,hown2,hc2⟩
 have hC:=HC.out.tr hc2
 have hB:=HB.out.chg hc2 id
 have hown:=own_chg HO.out hc2 (fun _ _=>id)
 have hsz : w.heap.size + 1 ≤ v2.heap.size:=hB.lt
 have hr:=own_rds2 hown2
 clear hc2 hown2 HC HB HO
 clear y0 y1 y2 y3 y4
 go_wp2_with (at_builtin; refine wpList_own_append _ rfl (.tmp 12) (.tmp 15) 23 rfl _ 5 i0 (int .u8 0) 1 Tryz.underlying23 hi0 hz0 hz1 hz2 rfl (.slice D1 10 dc1) 10 _ rfl hown _ A2 6 c2 _ rfl hr (bcs_one _) (by decide) (by decide) hsz ?_; intro vv u2 hown' hg hat; obtain ⟨D2,dc2,rfl,_,_⟩:=own_form hown'; have hC':=grown_fresh hC hg hown (Nat.le_succ _); have hB':=blk_grown hB hg (fun e=>by have:=(hown.lt _ e).1; omega); have HO:=hd_ hown'; have HC:=hd_ hC'; have HB:=hd_ hB'; obtain ⟨y0,y1,y2,y3,y4⟩:=rl_cells HB.out; clear hown' hC' hB' hg hat hown hr hC hB hsz)
 refine (one_any 6 s _ (by decide) (by decide) (by have:=HR.out; omega)).mono ?_
 rintro e v3 ⟨A3,k3,c3,rfl,rfl,hown2,hc3⟩
 have hC:=HC.out.tr hc3
 have hB:=HB.out.chg hc3 id
 have hown:=own_chg HO.out hc3 (fun _ _=>id)
 have hsz : w.heap.size + 1 ≤ v3.heap.size:=hB.lt
 have hr:=own_rds2 hown2
 clear hc3 hown2 HC HB HO
 clear y0 y1 y2 y3 y4
 go_wp2_with (at_builtin; refine wpList_own_append _ rfl (.tmp 17) (.tmp 20) 23 rfl _ 5 i0 (int .u8 0) 1 Tryz.underlying23 hi0 hz0 hz1 hz2 rfl (.slice D2 16 dc2) 16 _ rfl hown _ A3 6 c3 _ rfl hr (bcs_one _) (by decide) (by decide) hsz ?_; intro vv u3 hown' hg hat; obtain ⟨D3,dc3,rfl,_,_⟩:=own_form hown'; have hC':=grown_fresh hC hg hown (Nat.le_succ _); have hB':=blk_grown hB hg (fun e=>by have:=(hown.lt _ e).1; omega); have HO:=hd_ hown'; have HC:=hd_ hC'; have HB:=hd_ hB'; obtain ⟨y0,y1,y2,y3,y4⟩:=rl_cells HB.out; clear hown' hC' hB' hg hat hown hr hC hB hsz)
 refine (one_any 2 (l.length : Int) _ (by decide) (by decide) (by have:=HR.out; omega)).mono ?_
 rintro e v4 ⟨A4,k4,c4,rfl,rfl,hown2,hc4⟩
 have hC:=HC.out.tr hc4
 have hB:=HB.out.chg hc4 id
 have hown:=own_chg HO.out hc4 (fun _ _=>id)
 have hsz : w.heap.size + 1 ≤ v4.heap.size:=hB.lt
 have hr:=own_rds2 hown2
 clear hc4 hown2 HC HB HO
 clear y0 y1 y2 y3 y4
 go_upto_region 6 with (at_builtin; refine wpList_own_append _ rfl (.tmp 22) (.tmp 26) 23 rfl _ 5 i0 (int .u8 0) 1 Tryz.underlying23 hi0 hz0 hz1 hz2 rfl (.slice D3 22 dc3) 22 _ rfl hown _ A4 2 c4 _ rfl hr (bcs_one _) (by decide) (by decide) hsz ?_; intro vv u4 hown' hg hat; obtain ⟨D4,dc4,rfl,_,_⟩:=own_form hown'; have hC':=grown_fresh hC hg hown (Nat.le_succ _); have hB':=blk_grown hB hg (fun e=>by have:=(hown.lt _ e).1; omega); have HO:=hd_ hown'; have HC:=hd_ hC'; have HB:=hd_ hB'; obtain ⟨y0,y1,y2,y3,y4⟩:=rl_cells HB.out; clear hown' hC' hB' hg hat hown hr hC hB hsz)
 obtain ⟨X,xc,u5,hcv,hxc,hxr⟩:=conv_back11 u4 l
 have hC:=HC.out.tr hxc
 have hB:=HB.out.chg hxc id
 have hown:=own_chg HO.out hxc (fun _ _=>id)
 have hsz : w.heap.size + 1 ≤ u5.heap.size:=hB.lt
 have hnm:=HR.out.2.2.2.2
 clear HC HB HO hxc
 go_wp2_with (at_builtin; refine wpList_own_append _ rfl (.tmp 28) (.tmp 31) 23 rfl _ 5 i0 (int .u8 0) 1 Tryz.underlying23 hi0 hz0 hz1 hz2 rfl (.slice D4 24 dc4) 24 _ rfl hown _ X l.length xc _ rfl hxr (bcs_one _) (by unfold maxLen; omega) (by omega) hsz ?_; intro vv u6 hown' hg hat; obtain ⟨D5,dc5,rfl,_,_⟩:=own_form hown'; have hC':=grown_fresh hC hg hown (Nat.le_succ _); have HO:=hd_ hown'; have HC:=hd_ hC'; clear hown' hC' hg hat hown hC hB hsz)
 go_ret
 refine ⟨D5,_,dc5,rfl, ?_, ?_,HC.out⟩
 ·rw [ltB_len]
 ·rw [ltB_parts]
  exact own_base HO.out (Nat.le_succ _)
end Go.Proofs.YtnojmbejedlilaaGreat
