/-
  Walk: rutterlaw16.AgentNever. Conditions: the acts lie in memory, and the table of widths.
-/
import Derived.Test.YtfajcdobikjcdaaGreatDoorAs
import Derived.Test.YtfajcdobikjcdaaGreatDoorAq
import Derived.Test.YtfajcdobikjcdaaGreatDoorMA
import Derived.Test.YtfajcdobikjcdaaGreatDoorAo
import Derived.RegionTactic
import Derived.BigQuiet
set_option maxRecDepth 100000
set_option maxHeartbeats 40000000
set_option linter.unusedVariables false
set_option linter.unusedSimpArgs false
namespace Go.Proofs.YtfajcdobikjcdaaGreatDoor
open Go.Value (int)
open Go.IntKind (i64)
open Go.RowKit
theorem ro_set16 {w : World} {r : Nat} {T : TypeId} {kd0 po0 ge0 st0 : Int} {b0 : List UInt8} {k0 o0 f0 t0 p0 g0 i0 : Int} {A20 : Option Addr} {n20 c20 : Nat} (hb : Blk w r T (roC15 kd0 po0 ge0 st0 b0 k0 o0 f0 t0 p0 g0 i0 A20 n20 c20)) (kd po ge st : Int) (b : List UInt8) (k o f t p g i : Int) (A2 : Option Addr) (n2 c2 : Nat) : Blk (((((((((((((w.setCell ⟨r,0,none⟩ (int i64 kd)).setCell ⟨r,1,none⟩ (int i64 po)).setCell ⟨r,2,none⟩ (int i64 ge)).setCell ⟨r,3,none⟩ (int i64 st)).setCell ⟨r,4,none⟩ (.string ⟨b.toArray⟩)).setCell ⟨r,5,none⟩ (int i64 k)).setCell ⟨r,6,none⟩ (int i64 o)).setCell ⟨r,7,none⟩ (int i64 f)).setCell ⟨r,8,none⟩ (int i64 t)).setCell ⟨r,9,none⟩ (int i64 p)).setCell ⟨r,10,none⟩ (int i64 g)).setCell ⟨r,11,none⟩ (int i64 i)).setCell ⟨r,12,none⟩ (.slice A2 n2 c2)) r T (roC15 kd po ge st b k o f t p g i A2 n2 c2):=by
 have h1 : Blk (w.setCell ⟨r,0,none⟩ (int i64 kd)) r T (roC15 kd po0 ge0 st0 b0 k0 o0 f0 t0 p0 g0 i0 A20 n20 c20):=hb.set 0 (int i64 kd)
 have h2 : Blk ((w.setCell ⟨r,0,none⟩ (int i64 kd)).setCell ⟨r,1,none⟩ (int i64 po)) r T (roC15 kd po ge0 st0 b0 k0 o0 f0 t0 p0 g0 i0 A20 n20 c20):=h1.set 1 (int i64 po)
 have h3 : Blk (((w.setCell ⟨r,0,none⟩ (int i64 kd)).setCell ⟨r,1,none⟩ (int i64 po)).setCell ⟨r,2,none⟩ (int i64 ge)) r T (roC15 kd po ge st0 b0 k0 o0 f0 t0 p0 g0 i0 A20 n20 c20):=h2.set 2 (int i64 ge)
 have h4 : Blk ((((w.setCell ⟨r,0,none⟩ (int i64 kd)).setCell ⟨r,1,none⟩ (int i64 po)).setCell ⟨r,2,none⟩ (int i64 ge)).setCell ⟨r,3,none⟩ (int i64 st)) r T (roC15 kd po ge st b0 k0 o0 f0 t0 p0 g0 i0 A20 n20 c20):=h3.set 3 (int i64 st)
 have h5 : Blk (((((w.setCell ⟨r,0,none⟩ (int i64 kd)).setCell ⟨r,1,none⟩ (int i64 po)).setCell ⟨r,2,none⟩ (int i64 ge)).setCell ⟨r,3,none⟩ (int i64 st)).setCell ⟨r,4,none⟩ (.string ⟨b.toArray⟩)) r T (roC15 kd po ge st b k0 o0 f0 t0 p0 g0 i0 A20 n20 c20):=h4.set 4 (.string ⟨b.toArray⟩)
 have h6 : Blk ((((((w.setCell ⟨r,0,none⟩ (int i64 kd)).setCell ⟨r,1,none⟩ (int i64 po)).setCell ⟨r,2,none⟩ (int i64 ge)).setCell ⟨r,3,none⟩ (int i64 st)).setCell ⟨r,4,none⟩ (.string ⟨b.toArray⟩)).setCell ⟨r,5,none⟩ (int i64 k)) r T (roC15 kd po ge st b k o0 f0 t0 p0 g0 i0 A20 n20 c20):=h5.set 5 (int i64 k)
 have h7 : Blk (((((((w.setCell ⟨r,0,none⟩ (int i64 kd)).setCell ⟨r,1,none⟩ (int i64 po)).setCell ⟨r,2,none⟩ (int i64 ge)).setCell ⟨r,3,none⟩ (int i64 st)).setCell ⟨r,4,none⟩ (.string ⟨b.toArray⟩)).setCell ⟨r,5,none⟩ (int i64 k)).setCell ⟨r,6,none⟩ (int i64 o)) r T (roC15 kd po ge st b k o f0 t0 p0 g0 i0 A20 n20 c20):=h6.set 6 (int i64 o)
 have h8 : Blk ((((((((w.setCell ⟨r,0,none⟩ (int i64 kd)).setCell ⟨r,1,none⟩ (int i64 po)).setCell ⟨r,2,none⟩ (int i64 ge)).setCell ⟨r,3,none⟩ (int i64 st)).setCell ⟨r,4,none⟩ (.string ⟨b.toArray⟩)).setCell ⟨r,5,none⟩ (int i64 k)).setCell ⟨r,6,none⟩ (int i64 o)).setCell ⟨r,7,none⟩ (int i64 f)) r T (roC15 kd po ge st b k o f t0 p0 g0 i0 A20 n20 c20):=h7.set 7 (int i64 f)
 have h9 : Blk (((((((((w.setCell ⟨r,0,none⟩ (int i64 kd)).setCell ⟨r,1,none⟩ (int i64 po)).setCell ⟨r,2,none⟩ (int i64 ge)).setCell ⟨r,3,none⟩ (int i64 st)).setCell ⟨r,4,none⟩ (.string ⟨b.toArray⟩)).setCell ⟨r,5,none⟩ (int i64 k)).setCell ⟨r,6,none⟩ (int i64 o)).setCell ⟨r,7,none⟩ (int i64 f)).setCell ⟨r,8,none⟩ (int i64 t)) r T (roC15 kd po ge st b k o f t p0 g0 i0 A20 n20 c20):=h8.set 8 (int i64 t)
 have h10 : Blk ((((((((((w.setCell ⟨r,0,none⟩ (int i64 kd)).setCell ⟨r,1,none⟩ (int i64 po)).setCell ⟨r,2,none⟩ (int i64 ge)).setCell ⟨r,3,none⟩ (int i64 st)).setCell ⟨r,4,none⟩ (.string ⟨b.toArray⟩)).setCell ⟨r,5,none⟩ (int i64 k)).setCell ⟨r,6,none⟩ (int i64 o)).setCell ⟨r,7,none⟩ (int i64 f)).setCell ⟨r,8,none⟩ (int i64 t)).setCell ⟨r,9,none⟩ (int i64 p)) r T (roC15 kd po ge st b k o f t p g0 i0 A20 n20 c20):=h9.set 9 (int i64 p)
 have h11 : Blk (((((((((((w.setCell ⟨r,0,none⟩ (int i64 kd)).setCell ⟨r,1,none⟩ (int i64 po)).setCell ⟨r,2,none⟩ (int i64 ge)).setCell ⟨r,3,none⟩ (int i64 st)).setCell ⟨r,4,none⟩ (.string ⟨b.toArray⟩)).setCell ⟨r,5,none⟩ (int i64 k)).setCell ⟨r,6,none⟩ (int i64 o)).setCell ⟨r,7,none⟩ (int i64 f)).setCell ⟨r,8,none⟩ (int i64 t)).setCell ⟨r,9,none⟩ (int i64 p)).setCell ⟨r,10,none⟩ (int i64 g)) r T (roC15 kd po ge st b k o f t p g i0 A20 n20 c20):=h10.set 10 (int i64 g)
 have h12 : Blk ((((((((((((w.setCell ⟨r,0,none⟩ (int i64 kd)).setCell ⟨r,1,none⟩ (int i64 po)).setCell ⟨r,2,none⟩ (int i64 ge)).setCell ⟨r,3,none⟩ (int i64 st)).setCell ⟨r,4,none⟩ (.string ⟨b.toArray⟩)).setCell ⟨r,5,none⟩ (int i64 k)).setCell ⟨r,6,none⟩ (int i64 o)).setCell ⟨r,7,none⟩ (int i64 f)).setCell ⟨r,8,none⟩ (int i64 t)).setCell ⟨r,9,none⟩ (int i64 p)).setCell ⟨r,10,none⟩ (int i64 g)).setCell ⟨r,11,none⟩ (int i64 i)) r T (roC15 kd po ge st b k o f t p g i A20 n20 c20):=h11.set 11 (int i64 i)
 have h13 : Blk (((((((((((((w.setCell ⟨r,0,none⟩ (int i64 kd)).setCell ⟨r,1,none⟩ (int i64 po)).setCell ⟨r,2,none⟩ (int i64 ge)).setCell ⟨r,3,none⟩ (int i64 st)).setCell ⟨r,4,none⟩ (.string ⟨b.toArray⟩)).setCell ⟨r,5,none⟩ (int i64 k)).setCell ⟨r,6,none⟩ (int i64 o)).setCell ⟨r,7,none⟩ (int i64 f)).setCell ⟨r,8,none⟩ (int i64 t)).setCell ⟨r,9,none⟩ (int i64 p)).setCell ⟨r,10,none⟩ (int i64 g)).setCell ⟨r,11,none⟩ (int i64 i)).setCell ⟨r,12,none⟩ (.slice A2 n2 c2)) r T (roC15 kd po ge st b k o f t p g i A2 n2 c2):=h12.set 12 (.slice A2 n2 c2)
 exact h13
def Row16 (B B2 : Nat) (w : World) (E : Option Addr) (n : Nat) (l : List RV) : Prop:=RwR w E n l ∧ ∀ ad,E = some ad → B ≤ ad.block ∧ ad.block < B2
theorem Row16.chg {S : Nat → Prop} {B B2 : Nat} {w w' : World} {E : Option Addr} {n : Nat} {l : List RV} (h : Row16 B B2 w E n l) (hc : Chg S w w') (hs : ∀ k,B ≤ k → k < B2 → ¬ S k) : Row16 B B2 w' E n l:=by
 refine ⟨⟨h.1.1,fun hm => ?_⟩,h.2⟩
 obtain ⟨ad,e,hb,hcell⟩:=h.1.2 hm
 obtain ⟨g1,g2⟩:=h.2 ad e
 refine ⟨ad,e,Nat.lt_of_lt_of_le hb hc.size,fun i x hi j u hu => ?_⟩
 rw [← hcell i x hi j u hu]
 exact World.cell?_of_block (by rw [block_add]; exact hc.block _ hb (hs _ g1 g2))
theorem rwA_len (R : Nat → RV) : (rwA R).length ≤ 32:=rwK_len R 32
theorem rows16 {w : World} {a ps q m : Nat} {D : Nat → Prop} {x : AV} (h : AM w a ps q m D x) : Calls Tryz.prog 7 #[.pointer (some ⟨a,0,none⟩)] w fun e w' => ∃ E k d,e = .returned (.slice E k d) ∧ Row16 w.heap.size w'.heap.size w' E k (rwA x.R) ∧ k ≤ 32 ∧ Chg (fun _=>False) w w':=by
 refine (arows_any h).mono ?_
 rintro e w' ⟨E,k,d,rfl,hk,ho,hc⟩
 refine ⟨E,k,d,rfl,⟨own_rwr ho hk,fun ad hE => ?_⟩,by have:=rwA_len x.R; omega,hc⟩
 subst hE
 rcases ho.2 with ⟨hv,h0⟩ | ⟨g,cap,cur,hv,_⟩
 ·injection hv with hv; cases hv
 ·injection hv with hv
  injection hv with hv
  subst hv
  exact ho.lt g rfl
theorem lrows16 {w0 w : World} {a ps q m : Nat} {x : AV} (h : LV16 w0 w a ps q m x) : Calls Tryz.prog 7 #[.pointer (some ⟨a,0,none⟩)] w fun e w' => ∃ E k d,e = .returned (.slice E k d) ∧ Row16 w.heap.size w'.heap.size w' E k (rwA x.R) ∧ k ≤ 32 ∧ Chg (fun _=>False) w w':=by
 obtain ⟨D,h1,_,_⟩:=h
 exact rows16 h1
theorem act_cells16 {w : World} {q : Nat} {T : TypeId} {x : At16} (h : Blk w q T x.cs) : w.cell? ⟨q,0,none⟩ = some (int .u8 x.k) ∧ w.cell? ⟨q,1,none⟩ = some (.slice x.BA x.bn x.bc) ∧ w.cell? ⟨q,2,none⟩ = some (int .u64 x.fd) ∧ w.cell? ⟨q,3,none⟩ = some (int .u64 x.fs) ∧ w.cell? ⟨q,4,none⟩ = some (int i64 x.ft) ∧ w.cell? ⟨q,5,none⟩ = some (.slice x.FA x.fn x.fc) ∧ w.cell? ⟨q,6,none⟩ = some (int i64 x.pk) ∧ w.cell? ⟨q,7,none⟩ = some (int i64 x.po) ∧ w.cell? ⟨q,8,none⟩ = some (int i64 x.pf) ∧ w.cell? ⟨q,9,none⟩ = some (int i64 x.pt) ∧ w.cell? ⟨q,10,none⟩ = some (int i64 x.pp) ∧ w.cell? ⟨q,11,none⟩ = some (int i64 x.pg) ∧ w.cell? ⟨q,12,none⟩ = some (int i64 x.pi) ∧ w.cell? ⟨q,13,none⟩ = some (.slice x.PA x.pn x.pc) ∧ w.cell? ⟨q,14,none⟩ = some (int i64 x.now) ∧ w.cell? ⟨q,15,none⟩ = some (int i64 x.id) :=
 ⟨h.cell 0,h.cell 1,h.cell 2,h.cell 3,h.cell 4,h.cell 5,h.cell 6,h.cell 7,h.cell 8,h.cell 9,h.cell 10,h.cell 11,h.cell 12,h.cell 13,h.cell 14,h.cell 15⟩
theorem agentNever_any (ch : Int) (hch : 0 ≤ ch ∧ ch ≤ 255) (L : Option Addr) (mm lc : Nat) (l : List At16) (W : World) (hg : Gw W) (hl : AR16 W L mm l) (hmc : mm ≤ 9223372036854775807) : Calls Tryz.prog 3 #[int .u8 ch, .slice L mm lc] W fun e w'=>e = .returned (.bool true) ∧ Chg (fun _=>False) W w':=by
 have HGW:=hd_ hg
 have HL:=hd_ hl
 have HFI:=hd_ (fits16_any L mm lc l W hl hmc)
 have HAL:=hd_ (fun w' (hc : Chg (fun _=>False) W w')=>alive16_any w' (hg.chg hc id))
 have hcc : 0 ≤ ch % 16 ∧ ch % 16 ≤ 15:=by omega
 have HNEW:=hd_ (fun w'=>anew_any (ch % 16) 4 10 w' hcc (by omega) (by omega))
 have HOK0:=hd_ (new16_ok (c:=ch % 16) (mi:=4) (life:=10) hcc (by omega))
 have HC0:=hd_ (show (new16 (ch % 16) 4 10).c = ch % 16 from rfl)
 clear hg hl hcc
 go_enter Tryz.func3,Tryz.ntmps3
 go_wp2_with fail
 refine HFI.out.mono ?_
 rintro e w0 ⟨b,rfl,hb,hc0⟩
 have HX0:=hd_ hc0
 clear HFI hc0
 go_wp2_with fail
 refine (HNEW.out _).mono ?_
 rintro e w1 ⟨a,ps,q,m,D,rfl,hA,hc,hD⟩
 have HA : Hid (LV16 W w1 a ps q m (new16 (ch % 16) 4 10)):=hd_ ⟨D,hA,HX0.out.trans hc (fun _ _ e=>e),fun k hk=>Nat.le_trans HX0.out.size (hD k hk)⟩
 clear hA hc hD D HNEW HX0
 generalize new16 (ch % 16) 4 10 = X0 at *
 generalize ch % 16 = cc at *
 cases b with
 | false =>
  clear hb
  go_wp2_with fail
  refine (HAL.out _ HA.out.out).mono ?_
  rintro e w2 ⟨rfl,hc⟩
  go_wp2_with fail
  go_ret
  exact ⟨rfl,HA.out.out.trans hc (fun _ _ e=>e)⟩
 | true =>
  have HFT:=hd_ (hb rfl)
  clear hb
  go_wp2_with fail
  go_loopg [9,10,11,12,13,14,15,16,17,18] mm (fun g s9 s10 s11 s12 s13 s14 s15 s16 s17 s18 wr => ∃ (j : Nat) (X : AV),g = mm - j ∧ j ≤ mm ∧ j ≤ 40 ∧ s9 = int i64 (j : Int) ∧ Hid (LV16 W wr a ps q m X) ∧ Hid (AOk j X) ∧ Hid (X.c = cc))
  case atStart=>exact ⟨0,X0,rfl,Nat.zero_le _,Nat.zero_le _,rfl,HA,HOK0,HC0⟩
  case round =>
   clear HA HOK0 HC0
   obtain ⟨j,X,rfl,hj,hj2,rfl,HA,HOK,HCC⟩:=hrel
   have HMM:=hd_ HL.out.1
   by_cases hlt : j < mm
   ·have HML : Hid (mm ≤ 40):=hd_ (by have:=HFT.out.1; have:=HMM.out; omega)
    obtain ⟨D,hA,hC,hF⟩:=HA.out
    have HD:=hd_ hA
    have HC:=hd_ hC
    have HF:=hd_ hF
    have HLT:=hd_ hA.lt
    have HSZ:=hd_ hC.size
    have HRW:=hd_ (rows16 hA)
    clear hA hC hF HA
    go_wp2_with fail
    refine HRW.out.mono ?_
    rintro e w1 ⟨E,k1,d1,rfl,hr,hk1,hc⟩
    have HROW:=hd_ hr
    have HRK:=hd_ hk1
    have HBB:=hd_ hc.size
    replace HD:=hd_ (HD.out.new hc)
    replace HC:=hd_ (HC.out.trans hc (fun _ _ e=>e))
    clear hr hk1 hc HRW
    generalize wr.heap.size = B at *
    obtain ⟨ad,rfl, -, -⟩:=HL.out.2 (by omega)
    have hmm:=HMM.out
    have hx : l[j]? = some (l[j]'(by omega)):=List.getElem?_eq_getElem (by omega)
    obtain ⟨⟨z0,z1,z2,z3,z4,z5,z6,z7,z8,z9,z10,z11,z12,z13,z14,z15⟩, -⟩:=(HL.out.chg HC.out).at hx
    have HXX:=hd_ hx
    generalize l[j]'(by omega) = x at *
    clear hx hmm
    have HXB : Hid (Blk (w1.alloc (.cells #[int .u8 x.k, .slice x.BA x.bn x.bc,int .u64 x.fd,int .u64 x.fs,int i64 x.ft, .slice x.FA x.fn x.fc,int i64 x.pk,int i64 x.po,int i64 x.pf,int i64 x.pt,int i64 x.pp,int i64 x.pg,int i64 x.pi, .slice x.PA x.pn x.pc,int i64 x.now,int i64 x.id] 39)) w1.heap.size 39 x.cs):=hd_ (blk_new rfl)
    have hc:=(Chg.refl (fun _=>False) w1).alloc (.cells #[int .u8 x.k, .slice x.BA x.bn x.bc,int .u64 x.fd,int .u64 x.fs,int i64 x.ft, .slice x.FA x.fn x.fc,int i64 x.pk,int i64 x.po,int i64 x.pf,int i64 x.pt,int i64 x.pp,int i64 x.pg,int i64 x.pi, .slice x.PA x.pn x.pc,int i64 x.now,int i64 x.id] 39)
    have HQX:=hd_ (Nat.le_refl w1.heap.size)
    have HSZ1:=hd_ hc.size
    replace HD:=hd_ (HD.out.new hc)
    replace HC:=hd_ (HC.out.trans hc (fun _ _ e=>e))
    replace HROW:=hd_ (HROW.out.chg hc (fun _ _ _ e=>e))
    clear hc
    go_upto_region 13 with fail
    clear z0 z1 z2 z3 z4 z5 z6 z7 z8 z9 z10 z11 z12 z13 z14 z15
    generalize w1.alloc (.cells #[int .u8 x.k, .slice x.BA x.bn x.bc,int .u64 x.fd,int .u64 x.fs,int i64 x.ft, .slice x.FA x.fn x.fc,int i64 x.pk,int i64 x.po,int i64 x.pf,int i64 x.pt,int i64 x.pp,int i64 x.pg,int i64 x.pi, .slice x.PA x.pn x.pc,int i64 x.now,int i64 x.id] 39) = w2 at *
    generalize w1.heap.size = B2 at *
    have HO : Hid (Blk (w2.alloc (.cells #[int i64 0,int i64 0,int i64 0,int i64 0, .string ⟨#[]⟩,int i64 0,int i64 0,int i64 0,int i64 0,int i64 0,int i64 0,int i64 0, .slice none 0 0] 41)) w2.heap.size 41 (roC15 0 0 0 0 ([]) 0 0 0 0 0 0 0 none 0 0)):=hd_ (blk_new rfl)
    have hc:=(Chg.refl (fun _=>False) w2).alloc (.cells #[int i64 0,int i64 0,int i64 0,int i64 0, .string ⟨#[]⟩,int i64 0,int i64 0,int i64 0,int i64 0,int i64 0,int i64 0,int i64 0, .slice none 0 0] 41)
    have HQO:=hd_ HSZ1.out
    replace HD:=hd_ (HD.out.new hc)
    replace HC:=hd_ (HC.out.trans hc (fun _ _ e=>e))
    replace HROW:=hd_ (HROW.out.chg hc (fun _ _ _ e=>e))
    replace HXB:=hd_ (HXB.out.chg hc id)
    clear hc HSZ1
    go_upto_region 16 with fail
    generalize w2.alloc (.cells #[int i64 0,int i64 0,int i64 0,int i64 0, .string ⟨#[]⟩,int i64 0,int i64 0,int i64 0,int i64 0,int i64 0,int i64 0,int i64 0, .slice none 0 0] 41) = w3 at *
    generalize w2.heap.size = QO at *
    obtain ⟨hfb,hff,hfp⟩:=HFT.out.2 j x HXX.out
    obtain ⟨hk,hfd,hb,hf,hp⟩:=((HL.out.chg HC.out).at HXX.out).2
    obtain ⟨x0,x1,x2,x3,x4,x5,x6,x7,x8,x9,x10,x11,x12,x13,x14,x15⟩:=act_cells16 HXB.out
    by_cases h5 : x.k % 9 < 5
    ·clear hf hp hfd hff hfp
     obtain ⟨y,er,hg⟩ : ∃ y er,take16 X x.b x.now = (y,er):=⟨_,_,rfl⟩
     have hok2:=HOK.out.take x.b x.now
     have hup:=take_up X x.b x.now
     have hcl:=atake_any HD.out HOK.out (by omega) x.BA x.bn x.bc x.b _ hb.1.2.1 hb.1.2.2 hb.1.1 (by have h1:=hb.2; unfold maxLen at h1; omega) x.now
     rw [hg] at hok2 hup hcl
     dsimp only at hok2 hup hcl
     have HCY : Hid (y.c = cc):=hd_ (hup.1.symm.trans HCC.out)
     have HOK2 : Hid (AOk (j + 1) y):=hd_ (hok2.le (by omega))
     have HKP : Hid (KeptP16 (rwA X.R) (rwA y.R)):=hd_ (kept_up HOK.out hok2 hup)
     have HBY : Hid (ByP16 (rwA X.R) cc zOV):=hd_ (by_zero _ _)
     have HCL:=hd_ hcl
     clear hg hok2 hup hcl
     go_wp2_with fail
     refine HCL.out.mono ?_
     rintro e w4 ⟨rfl,D2,hA2,hmc,hmf⟩
     replace HO:=hd_ (HO.out.chg hmc (fun e=>by have h1:=HLT.out _ e; have h2:=HBB.out; have h3:=HQO.out; omega))
     replace HXB:=hd_ (HXB.out.chg hmc (fun e=>by have h1:=HLT.out _ e; have h2:=HBB.out; have h3:=HQX.out; omega))
     replace HROW:=hd_ (HROW.out.chg hmc (fun q h1 _ e=>by have h3:=HLT.out _ e; omega))
     have HA : Hid (LV16 W w4 a ps q m y):=hd_ (lv_step HD.out HC.out HF.out ⟨D2,hA2,hmc,hmf⟩).1
     clear hA2 hmc hmf HCL HD HC HF HOK HCC
     clear x0 x1 x2 x3 x4 x5 x6 x7 x8 x9 x10 x11 x12 x13 x14 x15 hb hfb hk h5
     obtain ⟨n0,n1,n2,n3,n4,n5,n6,n7,n8,n9,n10,n11,n12⟩:=ro_cells15 HO.out
     have hbc:=by16_any (c:=d1) zOV [] none 0 0 cc HROW.out.1 (by have:=HRK.out; omega) HBY.out
     unfold roC15 at hbc
     unfold zOV at hbc
     dsimp only at hbc
     have HBC:=hd_ hbc
     clear hbc
     go_wp2_with fail
     refine HBC.out.mono ?_
     rintro e wb ⟨rfl,hc⟩
     replace HA:=hd_ (HA.out.new hc)
     replace HO:=hd_ (HO.out.chg hc id)
     replace HROW:=hd_ (HROW.out.chg hc (fun _ _ _ e=>e))
     clear hc HBC n0 n1 n2 n3 n4 n5 n6 n7 n8 n9 n10 n11 n12
     have HRW:=hd_ (lrows16 HA.out)
     go_wp2_with fail
     refine HRW.out.mono ?_
     rintro e wc ⟨E2,k2,d2,rfl,hr,hk2,hc⟩
     replace HA:=hd_ (HA.out.new hc)
     replace HO:=hd_ (HO.out.chg hc id)
     replace HROW:=hd_ (HROW.out.chg hc (fun _ _ _ e=>e))
     have HKC:=hd_ (kept16_any (c:=d1) (c2:=d2) HROW.out.1 hr.1 (by have:=HRK.out; omega) (by omega) HKP.out)
     clear hr hk2 hc HRW
     go_wp2_with fail
     refine HKC.out.mono ?_
     rintro e wd ⟨rfl,hc⟩
     replace HA:=hd_ (HA.out.new hc)
     replace HO:=hd_ (HO.out.chg hc id)
     clear hc HKC HROW HKP HBY
     obtain ⟨n0,n1,n2,n3,n4,n5,n6,n7,n8,n9,n10,n11,n12⟩:=ro_cells15 HO.out
     clear n1 n4 n5 n6 n7 n8 n9 n10 n11 n12
     go_wp2_with fail
     go_roundg (mm - (j + 1))
     case measure=>omega
     case rel=>exact ⟨j + 1,y,rfl,by omega,by have:=HML.out; omega,by go_num,HA,HOK2,HCY⟩
    ·by_cases h7 : x.k % 9 < 7
     ·clear hb hp hfb hfp
      obtain ⟨y,v,er,hg⟩ : ∃ y v er,guest16 X x.fd x.fs x.ft x.fn x.fb x.now x.id = (y,v,er):=⟨_,_,_,rfl⟩
      have hok2:=HOK.out.guest x.fd x.fs x.ft x.fn x.fb x.now x.id
      have hup:=guest_up X x.fd x.fs x.ft x.fn x.fb x.now x.id
      have hby:=guest_by X x.fd x.fs x.ft x.fn x.fb x.now x.id
      have hcl:=aguest_any HD.out HOK.out (HGW.out.chg HC.out id) x.fd x.fs x.ft x.FA x.fn x.fc x.fb hf.1 hf.2.1 hf.2.2 hfd.1 hfd.2 (by omega) x.now x.id
      unfold GP16 at hcl
      rw [hg] at hok2 hup hby hcl
      obtain ⟨kd,po,ge,st,fb,k,o,f,t,p,g,i,pb⟩:=v
      dsimp only at hok2 hup hby hcl
      have HCY : Hid (y.c = cc):=hd_ (hup.1.symm.trans HCC.out)
      have HOK2 : Hid (AOk (j + 1) y):=hd_ (hok2.le (by omega))
      have HKP : Hid (KeptP16 (rwA X.R) (rwA y.R)):=hd_ (kept_up HOK.out hok2 hup)
      rw [HCC.out] at hby
      have HBY:=hd_ hby.1
      have HST:=hd_ hby.2
      have HCL:=hd_ hcl
      clear hg hok2 hup hby hcl
      go_wp2_with fail
      refine HCL.out.mono ?_
      rintro e w4 ⟨FA,fn,fc,PA,pn,pc,rfl,hbm,D2,hA2,hmc,hmf⟩
      replace HO:=hd_ (HO.out.chg hmc (fun e=>by have h1:=HLT.out _ e; have h2:=HBB.out; have h3:=HQO.out; omega))
      replace HXB:=hd_ (HXB.out.chg hmc (fun e=>by have h1:=HLT.out _ e; have h2:=HBB.out; have h3:=HQX.out; omega))
      replace HROW:=hd_ (HROW.out.chg hmc (fun q h1 _ e=>by have h3:=HLT.out _ e; omega))
      have HA : Hid (LV16 W w4 a ps q m y):=hd_ (lv_step HD.out HC.out HF.out ⟨D2,hA2,hmc,hmf⟩).1
      clear hA2 hmc hmf HCL HD HC HF HOK HCC
      clear x0 x1 x2 x3 x4 x5 x6 x7 x8 x9 x10 x11 x12 x13 x14 x15 hf hfd hff hk h5 h7
      have HBF:=hd_ hbm
      clear hbm
      have hc:=(Chg.refl (fun _=>False) w4).alloc (.cells #[int i64 kd,int i64 po,int i64 ge,int i64 st, .slice FA fn fc,int i64 k,int i64 o,int i64 f,int i64 t,int i64 p,int i64 g,int i64 i, .slice PA pn pc] 44)
      have HU : Hid (Blk (w4.alloc (.cells #[int i64 kd,int i64 po,int i64 ge,int i64 st, .slice FA fn fc,int i64 k,int i64 o,int i64 f,int i64 t,int i64 p,int i64 g,int i64 i, .slice PA pn pc] 44)) w4.heap.size 44 (ouC15 kd po ge st FA fn fc k o f t p g i PA pn pc)):=hd_ (blk_new rfl)
      replace HA:=hd_ (HA.out.new hc)
      replace HO:=hd_ (HO.out.chg hc id)
      replace HROW:=hd_ (HROW.out.chg hc (fun _ _ _ e=>e))
      replace HBF:=hd_ (HBF.out.chg hc)
      clear hc HXB
      unfold ouC15
      go_upto_region 20 with fail
      generalize w4.alloc (.cells #[int i64 kd,int i64 po,int i64 ge,int i64 st, .slice FA fn fc,int i64 k,int i64 o,int i64 f,int i64 t,int i64 p,int i64 g,int i64 i, .slice PA pn pc] 44) = w5 at *
      generalize w4.heap.size = QU at *
      obtain ⟨y0,y1,y2,y3,y4,y5,y6,y7,y8,y9,y10,y11,y12⟩:=ou_cells15 HU.out
      have HLO:=hd_ (lof15_any kd po ge st k o f t p g i FA PA fn fc pn pc fb w5 HBF.out)
      go_wp2_with fail
      refine HLO.out.mono ?_
      rintro e w6 ⟨rfl,hc⟩
      replace HA:=hd_ (HA.out.new hc)
      replace HO:=hd_ (HO.out.chg hc id)
      replace HROW:=hd_ (HROW.out.chg hc (fun _ _ _ e=>e))
      clear hc y0 y1 y2 y3 y4 y5 y6 y7 y8 y9 y10 y11 y12 HLO HU HBF
      obtain ⟨n0,n1,n2,n3,n4,n5,n6,n7,n8,n9,n10,n11,n12⟩:=ro_cells15 HO.out
      obtain ⟨u0,u1,u2,u3,u4,u5,u6,u7,u8,u9,u10,u11,u12⟩:=ou_free15 HO.out
      obtain ⟨-, -, -, -, -, -, -, -, -, -, -, -, -,hcs⟩:=ro_put15 HO.out rfl kd po ge st fb k o f t p g i PA pn pc
      have hset:=ro_set16 HO.out kd po ge st fb k o f t p g i PA pn pc
      replace HA:=hd_ (HA.out.put HO.out noU8_ro (by decide) (by decide) (by decide) (by decide) (by decide) (by have h2:=HBB.out; have h3:=HQO.out; have h4:=HSZ.out; omega) hcs)
      replace HROW:=hd_ (HROW.out.chg hcs (fun q _ h2 e=>by have h3:=HQO.out; omega))
      replace HO:=hd_ hset
      clear hset hcs
      go_upto_region 21 with fail
      clear n0 n1 n2 n3 n4 n5 n6 n7 n8 n9 n10 n11 n12 u0 u1 u2 u3 u4 u5 u6 u7 u8 u9 u10 u11 u12
      generalize (((((((((((((w6.setCell ⟨QO,0,none⟩ (int i64 kd)).setCell ⟨QO,1,none⟩ (int i64 po)).setCell ⟨QO,2,none⟩ (int i64 ge)).setCell ⟨QO,3,none⟩ (int i64 st)).setCell ⟨QO,4,none⟩ (.string ⟨fb.toArray⟩)).setCell ⟨QO,5,none⟩ (int i64 k)).setCell ⟨QO,6,none⟩ (int i64 o)).setCell ⟨QO,7,none⟩ (int i64 f)).setCell ⟨QO,8,none⟩ (int i64 t)).setCell ⟨QO,9,none⟩ (int i64 p)).setCell ⟨QO,10,none⟩ (int i64 g)).setCell ⟨QO,11,none⟩ (int i64 i)).setCell ⟨QO,12,none⟩ (.slice PA pn pc)) = w7 at *
      obtain ⟨n0,n1,n2,n3,n4,n5,n6,n7,n8,n9,n10,n11,n12⟩:=ro_cells15 HO.out
      have hbc:=by16_any (c:=d1) ⟨kd,po,ge,st,fb,k,o,f,t,p,g,i,pb⟩ fb PA pn pc cc HROW.out.1 (by have:=HRK.out; omega) HBY.out
      unfold roC15 at hbc
      dsimp only at hbc
      have HBC:=hd_ hbc
      clear hbc
      go_wp2_with fail
      refine HBC.out.mono ?_
      rintro e wb ⟨rfl,hc⟩
      replace HA:=hd_ (HA.out.new hc)
      replace HO:=hd_ (HO.out.chg hc id)
      replace HROW:=hd_ (HROW.out.chg hc (fun _ _ _ e=>e))
      clear hc HBC n0 n1 n2 n3 n4 n5 n6 n7 n8 n9 n10 n11 n12
      have HRW:=hd_ (lrows16 HA.out)
      go_wp2_with fail
      refine HRW.out.mono ?_
      rintro e wc ⟨E2,k2,d2,rfl,hr,hk2,hc⟩
      replace HA:=hd_ (HA.out.new hc)
      replace HO:=hd_ (HO.out.chg hc id)
      replace HROW:=hd_ (HROW.out.chg hc (fun _ _ _ e=>e))
      have HKC:=hd_ (kept16_any (c:=d1) (c2:=d2) HROW.out.1 hr.1 (by have:=HRK.out; omega) (by omega) HKP.out)
      clear hr hk2 hc HRW
      go_wp2_with fail
      refine HKC.out.mono ?_
      rintro e wd ⟨rfl,hc⟩
      replace HA:=hd_ (HA.out.new hc)
      replace HO:=hd_ (HO.out.chg hc id)
      clear hc HKC HROW HKP HBY
      obtain ⟨n0,n1,n2,n3,n4,n5,n6,n7,n8,n9,n10,n11,n12⟩:=ro_cells15 HO.out
      clear n1 n4 n5 n6 n7 n8 n9 n10 n11 n12
      by_cases hkd : kd = 1
      ·have hst : ¬ ge < st:=by have h : st ≤ ge:=HST.out hkd; omega
       subst hkd
       go_wp2_with fail
       go_roundg (mm - (j + 1))
       case measure=>omega
       case rel=>exact ⟨j + 1,y,rfl,by omega,by have:=HML.out; omega,by go_num,HA,HOK2,HCY⟩
      ·have hkd2 : (kd == 1) = false:=by simpa using hkd
       go_wp2_with fail
       go_roundg (mm - (j + 1))
       case measure=>omega
       case rel=>exact ⟨j + 1,y,rfl,by omega,by have:=HML.out; omega,by go_num,HA,HOK2,HCY⟩
     ·clear hb hf hfd hfb hff
      obtain ⟨y,v,er,hg⟩ : ∃ y v er,tunnel16 X x.pk x.po x.pf x.pt x.pp x.pg x.pi x.pn x.pb x.now = (y,v,er):=⟨_,_,_,rfl⟩
      have hok2:=HOK.out.tunnel x.pk x.po x.pf x.pt x.pp x.pg x.pi x.pn x.pb x.now
      have hup:=tunnel_up X x.pk x.po x.pf x.pt x.pp x.pg x.pi x.pn x.pb x.now
      have hby:=tunnel_by X x.pk x.po x.pf x.pt x.pp x.pg x.pi x.pn x.pb x.now
      have hcl:=atunnel_any HD.out HOK.out (HGW.out.chg HC.out id) x.pk x.po x.pf x.pt x.pp x.pg x.pi x.PA x.pn x.pc x.pb hp.1 (by omega) x.now
      unfold GP16 pkC at hcl
      rw [hg] at hok2 hup hby hcl
      obtain ⟨kd,po,ge,st,fb,k,o,f,t,p,g,i,pb⟩:=v
      dsimp only at hok2 hup hby hcl
      have HCY : Hid (y.c = cc):=hd_ (hup.1.symm.trans HCC.out)
      have HOK2 : Hid (AOk (j + 1) y):=hd_ (hok2.le (by omega))
      have HKP : Hid (KeptP16 (rwA X.R) (rwA y.R)):=hd_ (kept_up HOK.out hok2 hup)
      rw [HCC.out] at hby
      have HBY:=hd_ hby.1
      have HST:=hd_ hby.2
      have HCL:=hd_ hcl
      clear hg hok2 hup hby hcl
      go_wp2_with fail
      refine HCL.out.mono ?_
      rintro e w4 ⟨FA,fn,fc,PA,pn,pc,rfl,hbm,D2,hA2,hmc,hmf⟩
      replace HO:=hd_ (HO.out.chg hmc (fun e=>by have h1:=HLT.out _ e; have h2:=HBB.out; have h3:=HQO.out; omega))
      replace HXB:=hd_ (HXB.out.chg hmc (fun e=>by have h1:=HLT.out _ e; have h2:=HBB.out; have h3:=HQX.out; omega))
      replace HROW:=hd_ (HROW.out.chg hmc (fun q h1 _ e=>by have h3:=HLT.out _ e; omega))
      have HA : Hid (LV16 W w4 a ps q m y):=hd_ (lv_step HD.out HC.out HF.out ⟨D2,hA2,hmc,hmf⟩).1
      clear hA2 hmc hmf HCL HD HC HF HOK HCC
      clear x0 x1 x2 x3 x4 x5 x6 x7 x8 x9 x10 x11 x12 x13 x14 x15 hp hfp hk h5 h7
      have HBF:=hd_ hbm
      clear hbm
      have hc:=(Chg.refl (fun _=>False) w4).alloc (.cells #[int i64 kd,int i64 po,int i64 ge,int i64 st, .slice FA fn fc,int i64 k,int i64 o,int i64 f,int i64 t,int i64 p,int i64 g,int i64 i, .slice PA pn pc] 44)
      have HU : Hid (Blk (w4.alloc (.cells #[int i64 kd,int i64 po,int i64 ge,int i64 st, .slice FA fn fc,int i64 k,int i64 o,int i64 f,int i64 t,int i64 p,int i64 g,int i64 i, .slice PA pn pc] 44)) w4.heap.size 44 (ouC15 kd po ge st FA fn fc k o f t p g i PA pn pc)):=hd_ (blk_new rfl)
      replace HA:=hd_ (HA.out.new hc)
      replace HO:=hd_ (HO.out.chg hc id)
      replace HROW:=hd_ (HROW.out.chg hc (fun _ _ _ e=>e))
      replace HBF:=hd_ (HBF.out.chg hc)
      clear hc HXB
      unfold ouC15
      go_upto_region 15 with fail
      generalize w4.alloc (.cells #[int i64 kd,int i64 po,int i64 ge,int i64 st, .slice FA fn fc,int i64 k,int i64 o,int i64 f,int i64 t,int i64 p,int i64 g,int i64 i, .slice PA pn pc] 44) = w5 at *
      generalize w4.heap.size = QU at *
      obtain ⟨y0,y1,y2,y3,y4,y5,y6,y7,y8,y9,y10,y11,y12⟩:=ou_cells15 HU.out
      have HLO:=hd_ (lof15_any kd po ge st k o f t p g i FA PA fn fc pn pc fb w5 HBF.out)
      go_wp2_with fail
      refine HLO.out.mono ?_
      rintro e w6 ⟨rfl,hc⟩
      replace HA:=hd_ (HA.out.new hc)
      replace HO:=hd_ (HO.out.chg hc id)
      replace HROW:=hd_ (HROW.out.chg hc (fun _ _ _ e=>e))
      clear hc y0 y1 y2 y3 y4 y5 y6 y7 y8 y9 y10 y11 y12 HLO HU HBF
      obtain ⟨n0,n1,n2,n3,n4,n5,n6,n7,n8,n9,n10,n11,n12⟩:=ro_cells15 HO.out
      obtain ⟨u0,u1,u2,u3,u4,u5,u6,u7,u8,u9,u10,u11,u12⟩:=ou_free15 HO.out
      obtain ⟨-, -, -, -, -, -, -, -, -, -, -, -, -,hcs⟩:=ro_put15 HO.out rfl kd po ge st fb k o f t p g i PA pn pc
      have hset:=ro_set16 HO.out kd po ge st fb k o f t p g i PA pn pc
      replace HA:=hd_ (HA.out.put HO.out noU8_ro (by decide) (by decide) (by decide) (by decide) (by decide) (by have h2:=HBB.out; have h3:=HQO.out; have h4:=HSZ.out; omega) hcs)
      replace HROW:=hd_ (HROW.out.chg hcs (fun q _ h2 e=>by have h3:=HQO.out; omega))
      replace HO:=hd_ hset
      clear hset hcs
      go_upto_region 21 with fail
      clear n0 n1 n2 n3 n4 n5 n6 n7 n8 n9 n10 n11 n12 u0 u1 u2 u3 u4 u5 u6 u7 u8 u9 u10 u11 u12
      generalize (((((((((((((w6.setCell ⟨QO,0,none⟩ (int i64 kd)).setCell ⟨QO,1,none⟩ (int i64 po)).setCell ⟨QO,2,none⟩ (int i64 ge)).setCell ⟨QO,3,none⟩ (int i64 st)).setCell ⟨QO,4,none⟩ (.string ⟨fb.toArray⟩)).setCell ⟨QO,5,none⟩ (int i64 k)).setCell ⟨QO,6,none⟩ (int i64 o)).setCell ⟨QO,7,none⟩ (int i64 f)).setCell ⟨QO,8,none⟩ (int i64 t)).setCell ⟨QO,9,none⟩ (int i64 p)).setCell ⟨QO,10,none⟩ (int i64 g)).setCell ⟨QO,11,none⟩ (int i64 i)).setCell ⟨QO,12,none⟩ (.slice PA pn pc)) = w7 at *
      obtain ⟨n0,n1,n2,n3,n4,n5,n6,n7,n8,n9,n10,n11,n12⟩:=ro_cells15 HO.out
      have hbc:=by16_any (c:=d1) ⟨kd,po,ge,st,fb,k,o,f,t,p,g,i,pb⟩ fb PA pn pc cc HROW.out.1 (by have:=HRK.out; omega) HBY.out
      unfold roC15 at hbc
      dsimp only at hbc
      have HBC:=hd_ hbc
      clear hbc
      go_wp2_with fail
      refine HBC.out.mono ?_
      rintro e wb ⟨rfl,hc⟩
      replace HA:=hd_ (HA.out.new hc)
      replace HO:=hd_ (HO.out.chg hc id)
      replace HROW:=hd_ (HROW.out.chg hc (fun _ _ _ e=>e))
      clear hc HBC n0 n1 n2 n3 n4 n5 n6 n7 n8 n9 n10 n11 n12
      have HRW:=hd_ (lrows16 HA.out)
      go_wp2_with fail
      refine HRW.out.mono ?_
      rintro e wc ⟨E2,k2,d2,rfl,hr,hk2,hc⟩
      replace HA:=hd_ (HA.out.new hc)
      replace HO:=hd_ (HO.out.chg hc id)
      replace HROW:=hd_ (HROW.out.chg hc (fun _ _ _ e=>e))
      have HKC:=hd_ (kept16_any (c:=d1) (c2:=d2) HROW.out.1 hr.1 (by have:=HRK.out; omega) (by omega) HKP.out)
      clear hr hk2 hc HRW
      go_wp2_with fail
      refine HKC.out.mono ?_
      rintro e wd ⟨rfl,hc⟩
      replace HA:=hd_ (HA.out.new hc)
      replace HO:=hd_ (HO.out.chg hc id)
      clear hc HKC HROW HKP HBY
      obtain ⟨n0,n1,n2,n3,n4,n5,n6,n7,n8,n9,n10,n11,n12⟩:=ro_cells15 HO.out
      clear n1 n4 n5 n6 n7 n8 n9 n10 n11 n12
      by_cases hkd : kd = 1
      ·have hst : ¬ ge < st:=by have h : st ≤ ge:=HST.out hkd; omega
       subst hkd
       go_wp2_with fail
       go_roundg (mm - (j + 1))
       case measure=>omega
       case rel=>exact ⟨j + 1,y,rfl,by omega,by have:=HML.out; omega,by go_num,HA,HOK2,HCY⟩
      ·have hkd2 : (kd == 1) = false:=by simpa using hkd
       go_wp2_with fail
       go_roundg (mm - (j + 1))
       case measure=>omega
       case rel=>exact ⟨j + 1,y,rfl,by omega,by have:=HML.out; omega,by go_num,HA,HOK2,HCY⟩
   ·go_wp2_with fail
    refine (HAL.out _ HA.out.out).mono ?_
    rintro e w2 ⟨rfl,hc⟩
    go_wp2_with fail
    go_ret
    exact ⟨rfl,HA.out.out.trans hc (fun _ _ e=>e)⟩
end Go.Proofs.YtfajcdobikjcdaaGreatDoor
