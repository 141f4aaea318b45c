/-
  Walk: rutterlaw17.CtlNever. Conditions: the acts lie in memory.
-/
import Derived.Test.YtnojmbejedlilaaGreatQIy
import Derived.Test.YtnojmbejedlilaaGreatQIv
set_option maxRecDepth 100000
set_option maxHeartbeats 40000000
set_option linter.unusedVariables false
set_option linter.unusedSimpArgs false
namespace Go.Proofs.YtnojmbejedlilaaGreat
open Go.Value (int)
open Go.IntKind (i64)
open Go.RowKit
theorem new_file17 (W : World) : Calls Tryz.prog 8 #[int i64 65536] W fun e w' => ∃ pf,e = .returned (.tuple #[.pointer (some ⟨pf,0,none⟩),int i64 0]) ∧ DG17 (fun k=>k < W.heap.size) W pf [] 0 65536 w':=by
 refine Calls.mono (da_new (W:=W) 65536 (by decide)) ?_
 rintro e w' ⟨rfl,h1,h2,o,h3,h4⟩
 exact ⟨_,rfl,h1.mono (fun _ _ e=>False.elim e),by omega,o,h3,fun k hk e=>by have:=h4 k hk; omega⟩
theorem phi_zero17 : phi17 ts0.R = 0:=by kernel_rfl
theorem in_new17 {sp : Int} (h : 1 ≤ sp ∧ sp ≤ 2147483648) : opnE17 [] 0 65536 sp 0 = 0 ∧ In17 1 1 (opnK17 [] 0 65536 sp 0):=by
 obtain ⟨f1,f2,f3,f4,f5,f6,f7,f8,f9⟩:=opn_ok17 (t:=ts0) (bs := []) (rm:=65536) (sp:=sp) (no:=0) (by rw [scan_nil]; rfl) (by decide) (by decide) (by decide) h (by decide)
 have f6 : pot17 (opnK17 [] 0 65536 sp 0) ≤ 0 + 35 * phi17 ts0.R + 35:=f6
 have f7 : (opnK17 [] 0 65536 sp 0).t.bt = 0 + 1:=f7
 rw [phi_zero17] at f6
 exact ⟨f1,f2.le (by omega),f3,f4,f5,by omega,by omega⟩
theorem new_open17 {W w : World} {pf : Nat} {sp : Int} (h : DG17 (fun k=>k < W.heap.size) W pf [] 0 65536 w) (hsp : 1 ≤ sp ∧ sp ≤ 2147483648) : Calls Tryz.prog 18 #[.pointer (some ⟨pf,0,none⟩),int i64 sp,int i64 0] w fun e w' => ∃ c,e = .returned (.tuple #[.pointer (some ⟨c,0,none⟩),int i64 0]) ∧ NV17 W w' c pf (opnK17 [] 0 65536 sp 0) (.slice none 0 0) 0 []:=by
 have he:=(in_new17 hsp).1
 refine (open17_any (fun k=>k < W.heap.size) W (fun k e=>e) pf [] 0 65536 sp 0 w h (by decide) (by decide) (by decide)).mono ?_
 rintro e w' ⟨pv,rfl,g1,g2⟩
 obtain ⟨c,rfl,⟨lab,ps,pj,P,k1,k2,k3⟩,g4⟩:=g1 he
 exact ⟨c,by rw [he],lab,ps,pj,P,k1,k2.mono (fun k hk e=>e hk),fun k hk=>Nat.le_of_not_lt (k3 k hk),⟨none,0,rfl,rfl,own_nilv⟩,fun k hk=>by cases hk⟩
theorem ctlNever_any (sp0 : Int) (hs : 0 ≤ sp0 ∧ sp0 ≤ 65535) (L : Option Addr) (m lc : Nat) (l : List At17) (W : World) (hl : AR17 W L m l) (hmc : m ≤ lc) (hlc : lc ≤ 9223372036854775807) : Calls Tryz.prog 5 #[.int .u16 sp0, .slice L m lc] W fun e w'=>e = .returned (.bool true) ∧ Chg (fun _=>False) W w':=by
 have HL:=hd_ hl
 have HMM:=hd_ hl.1
 have HFI:=hd_ (fits17_any L m lc l W hl (by omega))
 have HSP : Hid (1 ≤ sp0 + 1 ∧ sp0 + 1 ≤ 2147483648):=hd_ (by omega)
 have HNE:=hd_ (new_file17 W)
 have HIN0:=hd_ (in_new17 HSP.out).2
 clear hl
 go_in
 go_wp2_with fail
 refine HFI.out.mono ?_
 rintro e w0 ⟨b,rfl,hb,hw0⟩
 subst hw0
 cases b with
 | false =>
  clear hb HFI
  go_wp2_with fail
  refine (alive17_any _).mono ?_
  rintro e w2 ⟨rfl,hc⟩
  go_wp2_with fail
  go_ret
  exact ⟨rfl,hc⟩
 | true =>
  have HFT:=hd_ (hb rfl)
  clear hb HFI
  go_wp2_with fail
  refine HNE.out.mono ?_
  rintro e w1 ⟨pf,rfl,hd⟩
  have HOP:=hd_ (new_open17 hd HSP.out)
  clear hd HNE
  go_wp2_with fail
  refine HOP.out.mono ?_
  rintro e w2 ⟨c0,rfl,hn⟩
  have HNV:=hd_ hn
  clear hn HOP
  generalize opnK17 [] 0 65536 (sp0 + 1) 0 = X0 at *
  go_wp2_with fail
  go_loopg [8,10,11,12,13,14,15,16] m (fun g s8 s10 s11 s12 s13 s14 s15 s16 wr => ∃ (j c n d : Nat) (A : Option Addr) (X : KV) (K : List RV),g = m - j ∧ j ≤ m ∧ s8 = .pointer (some ⟨c,0,none⟩) ∧ s10 = .slice A n d ∧ s11 = int i64 (j : Int) ∧ Hid (NV17 W wr c pf X (.slice A n d) n K) ∧ Hid (In17 (1 + 3 * j) (1 + 3 * j) X) ∧ Hid (Kn17 K X.t.R) ∧ Hid (n ≤ 32 * j))
  case atStart=>exact ⟨0,c0,0,0,none,X0, [],rfl,Nat.zero_le _,rfl,rfl,rfl,HNV,HIN0,hd_ (kn_nil17 _),hd_ (Nat.zero_le _)⟩
  case round =>
   clear HNV HIN0
   obtain ⟨j,c,n,d,A,X,K,rfl,hj,rfl,rfl,rfl,HNV,HIN,HKN,HNN⟩:=hrel
   by_cases hlt : j < m
   ·obtain ⟨ad,rfl, -, -⟩:=HL.out.2 (by omega)
    have hmm:=HMM.out
    have hx : l[j]? = some (l[j]'(by omega)):=List.getElem?_eq_getElem (by omega)
    have HON:=hd_ (HL.out.one hx)
    have HMA:=hd_ (HL.out.at hx).2.2.1
    have HM80 : Hid (m ≤ 80):=hd_ (by have:=HFT.out.1; omega)
    generalize l[j]'(by omega) = x at *
    clear hx hmm
    have HRW:=hd_ (lv_rows17 HNV.out.lv)
    go_wp2_with fail
    refine HRW.out.mono ?_
    rintro e w3 ⟨E1,k1,d1,rfl,hk1,hr1,hc1⟩
    have HK1 : Hid (k1 ≤ 32):=hd_ (by have:=rows_len X.t.R; omega)
    have HBT:=hd_ (lv_boot17 (HNV.out.new hc1).lv)
    obtain ⟨G,gG,gL,gW,gN⟩:=HNV.out.open2 hc1 hr1
    have GN:=hd_ gN
    have HDR:=hd_ (drive17_any gG gL HIN.out (sp0 + 1) HSP.out (some (ad.add (j * 9))) 1 (lc - j) [x] HON.out gW (by decide) (by have:=HM80.out; omega))
    have HDI:=hd_ (in_drs17 HSP.out [x] (p:=(X,0)) HIN.out (by have:=HM80.out; simp; omega) ⟨Int.le_refl 0,by show (0 : Int) ≤ 1099511627776; decide⟩ (fun a ha=>by rw [List.mem_singleton] at ha; rw [ha]; exact HMA.out))
    have HWF:=hd_ HIN.out.ok.wf
    clear hk1 hr1 hc1 gG gL gW gN HRW HNV
    have HDE : Hid (List.foldl (drv17 (sp0 + 1)) (X,0) [x] = drs17 (sp0 + 1) X [x]):=hd_ rfl
    rw [HDE.out] at HDI
    generalize (drs17 (sp0 + 1) X [x]) = Y at *
    clear HDE
    go_wp2_with fail
    refine HBT.out.mono ?_
    rintro e wz ⟨rfl,hwz⟩
    subst hwz
    go_wp2_with fail
    refine HDR.out.mono ?_
    rintro e w4 ⟨c4,rfl,hlv⟩
    obtain ⟨hnv,hsr⟩:=GN.out _ _ _ hlv
    have HNV:=hd_ hnv
    have HSR:=hd_ hsr
    have HIN:=hd_ HDI.out.1
    have HRI:=hd_ HDI.out.2.2
    have HWY:=hd_ HDI.out.1.ok.wf
    have HBB:=hd_ HDI.out.2.2.1
    clear hlv hnv hsr HDR GN HBT HDI
    have HRW:=hd_ (lv_rows17 HNV.out.lv)
    go_wp2_with fail
    refine HRW.out.mono ?_
    rintro e w5 ⟨E2,k2,d2,rfl,hk2,hr2,hc2⟩
    have HK2 : Hid (k2 ≤ 32):=hd_ (by have:=rows_len Y.1.t.R; omega)
    have HRS:=hd_ (rises17_any (c:=d1) (c2:=d2) (HSR.out.chg hc2 (fun _ _=>id)) hr2 (by have:=HK1.out; omega) (by have:=HK2.out; omega) (ris_of17 HWF.out HWY.out HRI.out))
    have HNV2:=hd_ (HNV.out.new hc2)
    clear hk2 hr2 hc2 HRW HSR HNV
    go_wp2_with fail
    refine HRS.out.mono ?_
    rintro e w6 ⟨rfl,hc6⟩
    have HNV3:=hd_ (HNV2.out.new hc6)
    clear hc6 HRS HNV2
    have HRW:=hd_ (lv_rows17 HNV3.out.lv)
    go_wp2_with fail
    refine HRW.out.mono ?_
    rintro e w7 ⟨E3,k3,d3,rfl,hk3,hr3,hc7⟩
    have HK3 : Hid (k3 = (rowsP Y.1.t.R).length):=hd_ hk3
    have HK33 : Hid (k3 ≤ 32):=hd_ (by have:=rows_len Y.1.t.R; omega)
    have HNV4:=hd_ (HNV3.out.new hc7)
    have hown : n = K.length ∧ w7.ownsRow W.heap.size 60 9 (.slice A n d) n (flat17 K) ∧ (∀ k,(Value.slice A n d).ownBlock = some k → k < w6.heap.size):=by
     obtain ⟨_,_,_,_,_,_,_,⟨A9,d9,e9,hn9,ho9⟩,_⟩:=HNV3.out
     injection e9 with q1 q2 q3
     subst q1 q3
     exact ⟨hn9,own_chg ho9 hc7 (fun _ _=>id),fun k hk=>(ho9.lt k hk).2⟩
    have HOW:=hd_ (owner17_any (c:=d) (c2:=d3) hown.2.1 hown.1 hr3 HNV4.out.was.size (fun k hk e=>by have:=hown.2.2 k e; omega) (by have h1:=HNN.out; have h2:=HK33.out; have h3:=HM80.out; omega) ((HKN.out.step HRI.out).own HWY.out))
    have HLN:=hd_ hown.1
    clear hown hk3 hr3 hc7 HRW HNV3
    unfold OwP17 at HOW
    go_wp2_with fail
    refine HOW.out.mono ?_
    rintro e w8 ⟨A8,d8,rfl,ho8,hc8,hv8⟩
    have HNV5:=hd_ (HNV4.out.owner (by rw [List.length_append,HLN.out,HK3.out]) ho8 hc8 hv8)
    have HBT:=hd_ (lv_boot17 HNV5.out.lv)
    have HNB : Hid (¬ Y.1.t.bt < X.t.bt):=hd_ (by have:=HBB.out; omega)
    clear ho8 hc8 hv8 HOW HNV4
    have hnb:=HNB.out
    go_wp2_with fail
    refine HBT.out.mono ?_
    rintro e wy ⟨rfl,hwy⟩
    subst hwy
    go_wp2_with fail
    go_roundg (m - (j + 1))
    case measure=>omega
    case rel =>
     refine ⟨j + 1,c4,n + k3,d8,A8,Y.1,K ++ rowsP Y.1.t.R,rfl,by omega,rfl,rfl,by go_num,HNV5,hd_ ?_,hd_ ((HKN.out.step HRI.out).more HWY.out),hd_ (by have h1:=HNN.out; have h2:=HK33.out; omega)⟩
     rw [show 1 + 3 * (j + 1) = 1 + 3 * j + 3 * [x].length by simp; omega]
     exact HIN.out
   ·go_wp2_with fail
    refine (alive17_any _).mono ?_
    rintro e w3 ⟨rfl,hc⟩
    go_wp2_with fail
    go_ret
    exact ⟨rfl,HNV.out.was.tr hc⟩
end Go.Proofs.YtnojmbejedlilaaGreat
