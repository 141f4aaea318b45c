/-
  Acts in memory. Plain: an outcome is so by a row; rows stay.
-/
import Derived.Test.YtfajcdobikjcdaaGreatDoorAn
import Derived.Test.YtfajcdobikjcdaaGreatDoorM1
import Derived.Test.YtfajcdobikjcdaaGreatDoorM3
import Derived.Test.YtfajcdobikjcdaaGreatDoorM9
set_option linter.unusedVariables false
set_option linter.unusedSimpArgs false
namespace Go.Proofs.YtfajcdobikjcdaaGreatDoor
open Go.Value (int)
open Go.IntKind (i64)
open Go.RowKit
structure At16 where
 k : Int
 BA : Option Addr
 bn : Nat
 bc : Nat
 b : List UInt8
 fd : Int
 fs : Int
 ft : Int
 FA : Option Addr
 fn : Nat
 fc : Nat
 fb : List UInt8
 pk : Int
 po : Int
 pf : Int
 pt : Int
 pp : Int
 pg : Int
 pi : Int
 PA : Option Addr
 pn : Nat
 pc : Nat
 pb : List UInt8
 now : Int
 id : Int
def At16.cs (x : At16) : Array Value:=#[int .u8 x.k, .slice x.BA x.bn x.bc,int .u64 x.fd,int .u64 x.fs,int i64 x.ft, .slice x.FA x.fn x.fc,int i64 x.pk,int i64 x.po,int i64 x.pf,int i64 x.pt,int i64 x.pp,int i64 x.pg,int i64 x.pi, .slice x.PA x.pn x.pc,int i64 x.now,int i64 x.id]
def Bs16 (w : World) (A : Option Addr) (n c : Nat) (b : List UInt8) : Prop:=BsM15 w A n c b ∧ n ≤ c ∧ c ≤ maxLen
theorem Bs16.chg {w w' : World} {A : Option Addr} {n c : Nat} {b : List UInt8} (h : Bs16 w A n c b) (hc : Chg (fun _=>False) w w') : Bs16 w' A n c b:=⟨h.1.chg hc,h.2⟩
def At16.is (x : At16) (w : World) : Prop:=(0 ≤ x.k ∧ x.k ≤ 255) ∧ (0 ≤ x.fd ∧ 0 ≤ x.fs) ∧ Bs16 w x.BA x.bn x.bc x.b ∧ Bs16 w x.FA x.fn x.fc x.fb ∧ Bs16 w x.PA x.pn x.pc x.pb
theorem At16.is_chg {w w' : World} {x : At16} (h : x.is w) (hc : Chg (fun _=>False) w w') : x.is w':=⟨h.1,h.2.1,h.2.2.1.chg hc,h.2.2.2.1.chg hc,h.2.2.2.2.chg hc⟩
def AR16 (w : World) (L : Option Addr) (m : Nat) (l : List At16) : Prop :=
 m = l.length ∧ (0 < m → ∃ ad,L = some ad ∧ ad.block < w.heap.size ∧ ∀ (i : Nat) (x : At16),l[i]? = some x → (∀ (j : Nat) (u : Value),x.cs[j]? = some u → w.cell? (ad.add (i * 16 + j)) = some u) ∧ x.is w)
theorem AR16.chg {w w' : World} {L : Option Addr} {m : Nat} {l : List At16} (h : AR16 w L m l) (hc : Chg (fun _=>False) w w') : AR16 w' L m l:=by
 refine ⟨h.1,fun hm => ?_⟩
 obtain ⟨ad,e,hb,hcell⟩:=h.2 hm
 refine ⟨ad,e,Nat.lt_of_lt_of_le hb hc.size,fun i x hi=>⟨fun j u hu => ?_,At16.is_chg (hcell i x hi).2 hc⟩⟩
 rw [← (hcell i x hi).1 j u hu]
 exact World.cell?_of_block (by rw [block_add]; exact hc.block _ hb id)
theorem AR16.at {w : World} {m : Nat} {l : List At16} {ad : Addr} {i : Nat} {x : At16} (h : AR16 w (some ad) m l) (hi : l[i]? = some x) : (w.cell? (ad.add (i * 16)) = some (int .u8 x.k) ∧ w.cell? ⟨(ad.add (i * 16)).block,(ad.add (i * 16)).off + 1,none⟩ = some (.slice x.BA x.bn x.bc) ∧ w.cell? ⟨(ad.add (i * 16)).block,(ad.add (i * 16)).off + 2,none⟩ = some (int .u64 x.fd) ∧ w.cell? ⟨(ad.add (i * 16)).block,(ad.add (i * 16)).off + 3,none⟩ = some (int .u64 x.fs) ∧ w.cell? ⟨(ad.add (i * 16)).block,(ad.add (i * 16)).off + 4,none⟩ = some (int i64 x.ft) ∧ w.cell? ⟨(ad.add (i * 16)).block,(ad.add (i * 16)).off + 5,none⟩ = some (.slice x.FA x.fn x.fc) ∧ w.cell? ⟨(ad.add (i * 16)).block,(ad.add (i * 16)).off + 6,none⟩ = some (int i64 x.pk) ∧ w.cell? ⟨(ad.add (i * 16)).block,(ad.add (i * 16)).off + 7,none⟩ = some (int i64 x.po) ∧ w.cell? ⟨(ad.add (i * 16)).block,(ad.add (i * 16)).off + 8,none⟩ = some (int i64 x.pf) ∧ w.cell? ⟨(ad.add (i * 16)).block,(ad.add (i * 16)).off + 9,none⟩ = some (int i64 x.pt) ∧ w.cell? ⟨(ad.add (i * 16)).block,(ad.add (i * 16)).off + 10,none⟩ = some (int i64 x.pp) ∧ w.cell? ⟨(ad.add (i * 16)).block,(ad.add (i * 16)).off + 11,none⟩ = some (int i64 x.pg) ∧ w.cell? ⟨(ad.add (i * 16)).block,(ad.add (i * 16)).off + 12,none⟩ = some (int i64 x.pi) ∧ w.cell? ⟨(ad.add (i * 16)).block,(ad.add (i * 16)).off + 13,none⟩ = some (.slice x.PA x.pn x.pc) ∧ w.cell? ⟨(ad.add (i * 16)).block,(ad.add (i * 16)).off + 14,none⟩ = some (int i64 x.now) ∧ w.cell? ⟨(ad.add (i * 16)).block,(ad.add (i * 16)).off + 15,none⟩ = some (int i64 x.id)) ∧ x.is w:=by
 have hl : i < l.length:=(List.getElem?_eq_some_iff.1 hi).1
 obtain ⟨ad',e,_,hc⟩:=h.2 (by have:=h.1; omega)
 injection e with e
 subst e
 obtain ⟨h1,h2⟩:=hc i x hi
 have k : ∀ j u,x.cs[j]? = some u → w.cell? ((ad.add (i * 16)).add j) = some u:=fun j u hu=>by rw [off_add]; exact h1 j u hu
 exact ⟨⟨k 0 _ rfl,k 1 _ rfl,k 2 _ rfl,k 3 _ rfl,k 4 _ rfl,k 5 _ rfl,k 6 _ rfl,k 7 _ rfl,k 8 _ rfl,k 9 _ rfl,k 10 _ rfl,k 11 _ rfl,k 12 _ rfl,k 13 _ rfl,k 14 _ rfl,k 15 _ rfl⟩,h2⟩
/-! ### an outcome is so by a row -/
def ByP16 (l : List RV) (c : Int) (v : OV) : Prop:=v.kd = 0 ∨ (∃ r ∈ l,(v.kd = 1 ∧ r.po = v.po ∧ r.ow = c ∧ r.ge = v.ge) ∨ (v.kd = 2 ∧ r.po = v.p ∧ r.ow = v.t ∧ r.ge = v.g))
def StP16 (v : OV) : Prop:=v.kd = 1 → v.st ≤ v.ge
theorem act16 (c : Int) {k : Ky} (h : as14 k.ki k.ks k.ko = true) (l : List RV) : eK (lk13 k (cp14 c l)) = 0 ∨ ∃ r ∈ l, ¬ r.kd c k = 0 ∧ eK (lk13 k (cp14 c l)) = r.kd c k ∧ eP (lk13 k (cp14 c l)) = r.po ∧ eO (lk13 k (cp14 c l)) = r.ow ∧ eG (lk13 k (cp14 c l)) = r.ge:=by
 have h1:=(tab14 c h l).1
 rw [acO_eq] at h1
 generalize lk13 k (cp14 c l) = o at *
 cases hf : fr14 c k l with
 | none =>
  rw [hf] at h1
  have h2:=congrArg (fun a=>a[0]?) h1
  simp [fA14,acC] at h2
  exact .inl h2
 | some r =>
  rw [hf] at h1
  have h2:=congrArg Array.toList h1
  simp [fA14,acC] at h2
  obtain ⟨g1,g2⟩:=fr14_some hf
  exact .inr ⟨r,g1,g2,h2.1,h2.2.1,h2.2.2.1,h2.2.2.2⟩
theorem kd16 {r : RV} {c : Int} {k : Ky} (h : ¬ r.kd c k = 0) : ¬ r.ge < k.ks ∧ isB14 r.ma r.po k.ki k.km k.kp = true ∧ (r.kd c k = 1 ∧ r.ow = c ∨ r.kd c k = 2):=by
 unfold RV.kd mk14 at *
 split at h
 ·exact absurd rfl h
 ·rename_i hb
  split at h
  ·exact absurd rfl h
  ·split at h
   ·exact absurd rfl h
   ·rename_i h3 h4
    refine ⟨h4,by simpa using hb, ?_⟩
    rw [if_neg hb,if_neg h3,if_neg h4]
    split
    ·rename_i h5
     exact .inl ⟨rfl,h5.symm⟩
    ·split
     ·exact .inr rfl
     ·split
      ·exact .inr rfl
      ·rename_i h6 h7
       simp_all
theorem by_zero (l : List RV) (c : Int) : ByP16 l c zOV := .inl rfl
theorem st_zero : StP16 zOV:=fun h=>by cases h
theorem snt_by {l : List RV} {c : Int} {r : RV} (hr : r ∈ l) (k o f t p g i : Int) (b : List UInt8) (h1 : r.po = p) (h2 : r.ow = t) (h3 : r.ge = g) : ByP16 l c (snt15 k o f t p g i b) ∧ StP16 (snt15 k o f t p g i b):=by
 unfold snt15
 split
 ·exact ⟨.inr ⟨r,hr, .inr ⟨rfl,h1,h2,h3⟩⟩,fun h=>by cases h⟩
 ·exact ⟨by_zero l c,st_zero⟩
theorem gV_by (c : Int) (l : List RV) (d s t : Int) (n : Nat) (b : List UInt8) (nu : Int) : ByP16 l c (gV16 c l d s t n b nu) ∧ StP16 (gV16 c l d s t n b nu):=by
 unfold gV16
 split
 ·have h:=act16 c (k:=⟨0,d,0,0, -1⟩) (show as14 0 0 (-1) = true by decide) l
  unfold gL16
  rcases h with h | ⟨r,hr,h0,h1,h2,h3,h4⟩
  ·rw [h,gu15_no (by decide) (by decide)]
   exact ⟨by_zero l c,st_zero⟩
  ·rw [h1,h2,h3,h4]
   obtain ⟨g1,g2,g3⟩:=kd16 h0
   rcases g3 with ⟨e,g3⟩ | e
   ·rw [e,gu15_1]
    exact ⟨.inr ⟨r,hr, .inl ⟨rfl,rfl,g3,rfl⟩⟩,fun _=>Int.le_refl _⟩
   ·rw [e,gu15_2]
    exact snt_by hr _ _ _ _ _ _ _ _ rfl rfl rfl
 ·exact ⟨by_zero l c,st_zero⟩
theorem tV_by (c : Int) (l : List RV) (k o f t p g i : Int) (n : Nat) (b : List UInt8) : ByP16 l c (tV16 c l k o f t p g i n b) ∧ StP16 (tV16 c l k o f t p g i n b):=by
 unfold tV16
 split
 ·rename_i hR
  unfold tR16 at hR
  simp only [Bool.and_eq_true] at hR
  obtain ⟨hk,ho,_,_,hp,hg,_,_,_⟩:=pkR_parts hR.1
  have ha : as14 k g o = true:=by
   unfold as14
   simp only [Bool.or_eq_true,Bool.and_eq_true,beq_iff_eq,decide_eq_true_eq]
   exact .inr ⟨hk,ho.1,ho.2,by omega⟩
  have h:=act16 c (k:=⟨k,0,p,g,o⟩) ha l
  unfold tL16
  rcases h with h | ⟨r,hr,h0,h1,h2,h3,h4⟩
  ·rw [h,tu15_no (by decide) (by decide)]
   exact ⟨by_zero l c,st_zero⟩
  ·rw [h1,h2,h3,h4]
   obtain ⟨g1,g2,g3⟩:=kd16 h0
   have hpo : r.po = p:=by
    unfold isB14 at g2
    have hk0 : ¬ k = 0:=by rcases hk with e | e <;> omega
    simp only [if_neg hk0,Bool.and_eq_true,beq_iff_eq] at g2
    exact g2.2.symm
   rcases g3 with ⟨e,g3⟩ | e
   ·rw [e,tu15_1]
    exact ⟨.inr ⟨r,hr, .inl ⟨rfl,rfl,g3,rfl⟩⟩,fun _=>by have : ¬ r.ge < g:=g1; show g ≤ r.ge; omega⟩
   ·rw [e,tu15_2]
    split
    ·exact ⟨by_zero l c,st_zero⟩
    ·exact snt_by hr _ _ _ _ _ _ _ _ hpo rfl rfl
 ·exact ⟨by_zero l c,st_zero⟩
theorem guest_by (x : AV) (d s t : Int) (n : Nat) (l : List UInt8) (now nu : Int) : ByP16 (rwA x.R) x.c (guest16 x d s t n l now nu).2.1 ∧ StP16 (guest16 x d s t n l now nu).2.1:=by
 unfold guest16
 split
 ·split
  ·unfold guestO16
   split
   ·exact ⟨by_zero _ _,st_zero⟩
   ·exact gV_by _ _ _ _ _ _ _ _
  ·exact ⟨by_zero _ _,st_zero⟩
 ·exact ⟨by_zero _ _,st_zero⟩
theorem tunnel_by (x : AV) (k o f t p g i : Int) (n : Nat) (b : List UInt8) (now : Int) : ByP16 (rwA x.R) x.c (tunnel16 x k o f t p g i n b now).2.1 ∧ StP16 (tunnel16 x k o f t p g i n b now).2.1:=by
 unfold tunnel16
 split
 ·split
  ·exact tV_by _ _ _ _ _ _ _ _ _ _ _
  ·exact ⟨by_zero _ _,st_zero⟩
 ·exact ⟨by_zero _ _,st_zero⟩
def KeptP16 (l l2 : List RV) : Prop := ∀ r ∈ l, ∃ r2 ∈ l2,r2.po = r.po ∧ r.ve ≤ r2.ve
theorem kept_up {j j2 : Nat} {x y : AV} (hx : AOk j x) (hy : AOk j2 y) (h : Up16 x y) : KeptP16 (rwA x.R) (rwA y.R):=by
 intro r hr
 obtain ⟨i,hi,e,hv⟩:=rwA_mem hr
 have hp : r.po = (i : Int):=by
  rcases hx.rw i hi with h0 | h0
  ·rw [← e,h0] at hv; cases hv
  ·rw [← e]; exact h0.2
 have hle : r.ve ≤ (y.R i).ve:=by
  rcases h.2 i hi with h0 | h0
  ·rw [← e,h0]; exact Int.le_refl _
  ·rw [← e]; omega
 have hv2 : 0 < (y.R i).ve:=by omega
 refine ⟨y.R i,rwA_in hi hv2, ?_,hle⟩
 rcases hy.rw i hi with h0 | h0
 ·rw [h0] at hv2; cases hv2
 ·rw [h0.2,hp]
end Go.Proofs.YtfajcdobikjcdaaGreatDoor
