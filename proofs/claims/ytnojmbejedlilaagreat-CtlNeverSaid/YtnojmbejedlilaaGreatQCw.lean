/-
  A controller and its file, plain: a record's bytes, there and back; what an act leaves of the file, of the rows, of the boot. No condition.
-/
import Derived.Test.YtnojmbejedlilaaGreatQCv
set_option linter.unusedVariables false
set_option linter.unusedSimpArgs false
namespace Go.Proofs.YtnojmbejedlilaaGreat
open Go.Value (int)
open Go.IntKind (i64)
open Go.RowKit
theorem back_row17 {r : RV} (h : r.ok = true) (hm : 0 ≤ r.ma) : rdV17 (rwM17 r) = (rowR17 r,true):=by
 obtain ⟨po,ma,ow,ta,ol,ge,ph,ve,si⟩:=r
 have h1 : MV.ok ⟨1,po,ma,ow,ta,ol,ge,ph,ve,si,0,0, []⟩ = true:=by
  have : rwR po ma ow ta ol ge ph ve si = true:=h
  simp [MV.ok,msR,this]
 have hb:=(RV.bd h).2.2.1
 have h2 : MV.nm ⟨1,po,ma,ow,ta,ol,ge,ph,ve,si,0,0, []⟩:=⟨⟨hm,by have h3 : ma ≤ 281474976710655:=hb; show ma ≤ 18446744073709551615; omega⟩,fun x hx=>by cases hx⟩
 obtain ⟨e1,e2⟩:=cdc_back h1 h2
 have e3 : cX (rwM17 ⟨po,ma,ow,ta,ol,ge,ph,ve,si⟩) = 0:=cX_yes e1
 have e4 : cM (rwM17 ⟨po,ma,ow,ta,ol,ge,ph,ve,si⟩) = ⟨1,po,ma,ow,ta,ol,ge,ph,ve,si,0,0, []⟩:=(cM_yes e1).trans e2
 unfold rdV17
 rw [if_pos e3,e4]
 rfl
theorem back_two17 {k : Int} {n : Nat} {z : Int} (hk : k = 4 ∨ k = 5 ∨ k = 6) (hn : 1 ≤ n ∧ n ≤ 7) (h : 0 ≤ z) (h2 : z < 256 ^ n) : cX (be 1 k.toNat ++ be n z.toNat) ≠ 0 ∧ rdK17 (be 1 k.toNat ++ be n z.toNat) = k ∧ gv n (rdS17 (be 1 k.toNat ++ be n z.toNat)) = z ∧ gn n (rdS17 (be 1 k.toNat ++ be n z.toNat)) = some []:=by
 obtain ⟨e1,e2⟩:=g_rd (k:=1) (x:=k) (be n z.toNat) (by decide) (by decide) (by omega) (by omega)
 obtain ⟨e3,e4⟩:=g_rd (k:=n) (x:=z) [] hn.1 hn.2 h h2
 rw [List.append_nil] at e3 e4
 have e5 : cK (be 1 k.toNat ++ be n z.toNat) = k:=e1
 refine ⟨?_,e1, ?_, ?_⟩
 ·rw [cX_no (cOK_9 (by omega) (by omega) (by omega))]
  decide
 ·show gv n (gn 1 _) = z
  rw [e2]; exact e3
 ·show gn n (gn 1 _) = _
  rw [e2]; exact e4
theorem back17 {r : RcV17} (h : r.ok) : ∃ u, rdV17 r.bs = (u, true) ∧ ∀ t, bcE17 t u = bcE17 t r ∧ bcS17 t u = bcS17 t r := by
  obtain ⟨k, x, z, n⟩ := r
  rcases h with ⟨e, h1, h2⟩ | ⟨e, h1, h2⟩ | ⟨e, h1, h2⟩
  · replace e : k = 1 := e
    subst e
    exact ⟨rowR17 x, back_row17 h1 h2, fun t => ⟨rfl, rfl⟩⟩
  · replace e : k = 6 := e
    subst e
    replace h1 : 0 ≤ n := h1
    replace h2 : n ≤ 4294967296 := h2
    obtain ⟨a1, a2, a3, a4⟩ := back_two17 (k := 6) (n := 5) (z := n) (by omega) (by decide) h1 (by omega)
    refine ⟨⟨6, z9, 0, n⟩, ?_, fun t => ⟨rfl, rfl⟩⟩
    show rdV17 (be 1 (6 : Int).toNat ++ be 5 n.toNat) = _
    unfold rdV17
    rw [if_neg a1, a2, if_neg (by decide), if_pos rfl, a3, a4]
    rfl
  · replace e : k = 4 ∨ k = 5 := e
    replace h1 : 0 ≤ z := h1
    replace h2 : z ≤ 15 := h2
    obtain ⟨a1, a2, a3, a4⟩ := back_two17 (k := k) (n := 1) (z := z) (by omega) (by decide) h1 (by omega)
    refine ⟨⟨k, z9, z, 0⟩, ?_, fun t => ?_⟩
    · have hb : RcV17.bs ⟨k, x, z, n⟩ = be 1 k.toNat ++ be 1 z.toNat := by
        unfold RcV17.bs rcB17
        simp only
        rw [if_neg (by omega), if_neg (by omega)]
      rw [hb]
      unfold rdV17
      rw [if_neg a1, a2, if_pos e, a3, a4]
      rfl
    · rcases e with rfl | rfl <;> exact ⟨rfl, rfl⟩
theorem bs_len17 {r : RcV17} (h : r.ok) : 1 ≤ r.bs.length ∧ r.bs.length ≤ 29:=by
 obtain ⟨k,x,z,n⟩:=r
 unfold RcV17.bs rcB17 rwM17 msB rowB
 simp only
 rcases h with ⟨e, -, -⟩ | ⟨e, -, -⟩ | ⟨e, -, -⟩
 ·replace e : k = 1:=e
  subst e
  simp [be_len]
 ·replace e : k = 6:=e
  subst e
  simp [be_len]
 ·replace e : k = 4 ∨ k = 5:=e
  rcases e with rfl | rfl <;> simp [be_len]
theorem fail_no17 {t : TS17} {r : RcV17} (h : r.ok) (h0 : bcE17 t r = 0) : failE17 t r.bs = false ∧ failS17 t r.bs = bcS17 t r:=by
 obtain ⟨u,hu,hs⟩:=back17 h
 unfold failE17 failS17
 rw [hu,(hs t).1,(hs t).2,h0]
 exact ⟨rfl,rfl⟩
theorem rep_snoc17 : ∀ (l : List (List UInt8)) {t u : TS17} {b : List UInt8},rep17 t l = (false,u) → failE17 u b = false → rep17 t (l ++ [b]) = (false,failS17 u b)
 | [],t,u,b,h,hb=>by
  rw [rep_nil17] at h
  injection h with h1 h2
  subst h2
  rw [List.nil_append,rep_no17 _ hb,rep_nil17]
 | a :: l,t,u,b,h,hb=>by
  cases hf : failE17 t a with
  | true =>
   rw [rep_yes17 _ hf] at h
   injection h with h1 h2
   cases h1
  | false =>
   rw [rep_no17 _ hf] at h
   rw [List.cons_append,rep_no17 _ hf]
   exact rep_snoc17 l h hb
def FI17 (x : KV) : Prop := ∃ ls,x.bs = recs8 ls ∧ (∀ b ∈ ls,Bok b) ∧ rep17 ts0 ls = (false,x.t) ∧ x.sf = x.bs.length
def lateB (x : Option RV) : Bool:=match x with
 | none=>false
 | some r=>r.ph == 1 || r.ph == 2
def phi17 (R : Int → Option RV) : Nat:=(List.range 32).countP (fun i : Nat=>lateB (R (i : Int)))
theorem cnt_same (l : List Nat) (p q : Nat → Bool) (n : Nat) (h : ∀ i,i ≠ n → q i = p i) (hn : n ∉ l) : l.countP q = l.countP p :=
 List.countP_congr (fun i hi=>by rw [h i (fun e=>hn (e ▸ hi))])
theorem cnt_up (l : List Nat) (p q : Nat → Bool) (n : Nat) (h : ∀ i,i ≠ n → q i = p i) (hd : l.Nodup) : l.countP q ≤ l.countP p + 1:=by
 induction l with
 | nil=>simp
 | cons a l ih =>
  rw [List.nodup_cons] at hd
  rw [List.countP_cons,List.countP_cons]
  by_cases e : a = n
  ·have:=cnt_same l p q n h (by rw [← e]; exact hd.1)
   split <;> split <;> omega
  ·have:=ih hd.2
   rw [h a e]
   omega
theorem cnt_down (l : List Nat) (p q : Nat → Bool) (n : Nat) (h : ∀ i, i ≠ n → q i = p i) (hd : l.Nodup) (hn : n ∈ l) (h1 : p n = true) (h2 : q n = false) : l.countP q + 1 = l.countP p := by
  induction l with
  | nil => cases hn
  | cons a l ih =>
    rw [List.nodup_cons] at hd
    rw [List.countP_cons, List.countP_cons]
    by_cases e : a = n
    · have := cnt_same l p q n h (by rw [← e]; exact hd.1)
      rw [e, h1, h2, this]
      simp
    · have := ih hd.2 (by rcases List.mem_cons.1 hn with hn | hn
                          · exact absurd hn.symm e
                          · exact hn)
      rw [h a e]
      omega
theorem put_at17 {R : Int → Option RV} {x : RV} (h : 0 ≤ x.po) (i : Nat) (hi : i ≠ x.po.toNat) : lateB (putR R x (i : Int)) = lateB (R (i : Int)):=by
 unfold putR
 rw [if_neg (by omega)]
theorem phi_put (R : Int → Option RV) (x : RV) (h : 0 ≤ x.po) : phi17 (putR R x) ≤ phi17 R + 1 :=
 cnt_up _ (fun i : Nat=>lateB (R (i : Int))) (fun i : Nat=>lateB (putR R x (i : Int))) x.po.toNat (fun i hi=>put_at17 h i hi) List.nodup_range
theorem phi_drop {R : Int → Option RV} {x : RV} (h : 0 ≤ x.po ∧ x.po ≤ 31) (h1 : lateB (R x.po) = true) (h2 : lateB (some x) = false) : phi17 (putR R x) + 1 = phi17 R:=by
 have e : ((x.po.toNat : Nat) : Int) = x.po:=by omega
 refine cnt_down _ (fun i : Nat=>lateB (R (i : Int))) (fun i : Nat=>lateB (putR R x (i : Int))) x.po.toNat (fun i hi=>put_at17 h.1 i hi) List.nodup_range (List.mem_range.2 (by omega)) ?_ ?_
 ·simp only [e]; exact h1
 ·simp only [e]
  unfold putR
  rw [if_pos rfl]
  exact h2
def pot17 (x : KV) : Nat:=x.bs.length + 35 * phi17 x.t.R
def Up17 (x y : RV) : Prop:=x.ge < y.ge ∨ (x.ge = y.ge ∧ (y.ow = x.ow ∨ y.ow = -1))
def Ri17 (t u : TS17) : Prop:=t.bt ≤ u.bt ∧ ∀ z x,t.R z = some x → ∃ y,u.R z = some y ∧ x.ve ≤ y.ve ∧ Up17 x y
theorem Up17.refl (x : RV) : Up17 x x := .inr ⟨rfl, .inl rfl⟩
theorem Up17.trans {x y z : RV} (h : Up17 x y) (g : Up17 y z) : Up17 x z:=by
 rcases h with h | ⟨h1,h2⟩
 ·rcases g with g | ⟨g1,g2⟩
  ·exact .inl (by omega)
  ·exact .inl (by omega)
 ·rcases g with g | ⟨g1,g2⟩
  ·exact .inl (by omega)
  ·exact .inr ⟨by omega,by omega⟩
theorem Up17.le {x y : RV} (h : Up17 x y) : x.ge ≤ y.ge:=by
 rcases h with h | h
 ·omega
 ·omega
theorem Ri17.refl (t : TS17) : Ri17 t t:=⟨Int.le_refl _,fun z x hx=>⟨x,hx,Int.le_refl _, .refl x⟩⟩
theorem Ri17.trans {t u v : TS17} (h : Ri17 t u) (g : Ri17 u v) : Ri17 t v:=⟨Int.le_trans h.1 g.1,fun z x hx=>by
 obtain ⟨y,hy,h1,h2⟩:=h.2 z x hx
 obtain ⟨r,hr,g1,g2⟩:=g.2 z y hy
 exact ⟨r,hr,Int.le_trans h1 g1,h2.trans g2⟩⟩
def Nx17 (R : Int → Option RV) (r : RV) : Prop := ∀ u,R r.po = some u → Up17 u r
theorem st_row17 {t : TS17} {r : RV} (h : bcE17 t (rowR17 r) = 0) (hn : Nx17 t.R r) : Ri17 t (bcS17 t (rowR17 r)):=by
 have h1 : wrongP t.C t.R ⟨r,verP t.R r.po⟩ = 0:=h
 obtain ⟨_,h2,_,h4,_⟩:=wrong_zero h1
 have e : bcS17 t (rowR17 r) = { t with R:=putR t.R r }:=by
  show ({ t with R:=doR t.C t.R ⟨r,verP t.R r.po⟩ } : TS17) = _
  simp only [doR,h1,if_true]
 rw [e]
 refine ⟨Int.le_refl _,fun z x hx => ?_⟩
 show ∃ y,putR t.R r z = some y ∧ _
 unfold putR
 by_cases ez : z = r.po
 ·subst ez
  refine ⟨r,if_pos rfl, ?_,hn x hx⟩
  unfold verP at h2
  rw [hx] at h2
  simp only [Option.getD_some] at h2
  omega
 ·exact ⟨x,by rw [if_neg ez]; exact hx,Int.le_refl _, .refl x⟩
structure Go17 (n : Nat) (x y : KV) : Prop where
 f : FI17 x → FI17 y
 p : pot17 y ≤ pot17 x + 35 * n
 r : y.rm = x.rm
 s : y.st = x.st
 b : y.t.bt = x.t.bt
 t : Ri17 x.t y.t
theorem Go17.trans {n m : Nat} {x y z : KV} (h : Go17 n x y) (g : Go17 m y z) : Go17 (n + m) x z:=⟨fun e=>g.f (h.f e),by have h1:=h.p; have h2:=g.p; omega,g.r.trans h.r,g.s.trans h.s,g.b.trans h.b,h.t.trans g.t⟩
theorem Go17.le {n m : Nat} {x y : KV} (h : Go17 n x y) (hm : n ≤ m) : Go17 m x y:=⟨h.f,by have:=h.p; omega,h.r,h.s,h.b,h.t⟩
theorem Go17.same {x y : KV} (h1 : y.t = x.t) (h2 : y.bs = x.bs) (h3 : y.sf = x.sf) (h4 : y.rm = x.rm) (h5 : y.st = x.st) : Go17 0 x y:=by
 refine ⟨?_, ?_,h4,h5,by rw [h1],by rw [h1]; exact Ri17.refl _⟩
 ·rintro ⟨ls,a,b,c,d⟩
  exact ⟨ls,by rw [h2]; exact a,b,by rw [h1]; exact c,by rw [h2,h3]; exact d⟩
 ·unfold pot17
  rw [h1,h2]
  omega
theorem Go17.refl (x : KV) : Go17 0 x x := .same rfl rfl rfl rfl rfl
theorem putE_yes17 {rm : Nat} {bs b : List UInt8} (h : putE rm bs b = 0) : Bok b ∧ putB rm bs b = bs ++ jrB b:=by
 unfold putE at h
 split at h
 ·cases h
 ·rename_i hb
  unfold addE at h
  split at h
  ·cases h
  ·rename_i h2
   refine ⟨⟨by omega,by omega⟩, ?_⟩
   unfold putB addB
   rw [if_neg hb,if_neg h2]
theorem putX_yes17 {x : KV} {r : RcV17} (h : putX17 x r = 0) : bcE17 x.t r = 0 ∧ putE x.rm x.bs r.bs = 0:=by
 unfold putX17 at h
 split at h
 ·rename_i e; exact ⟨e,h⟩
 ·rename_i e; exact absurd h e
theorem fi_note17 {x : KV} {r : RcV17} (h : FI17 x) (hr : r.ok) (h0 : putX17 x r = 0) : FI17 { x with t:=bcS17 x.t r,bs:=putB x.rm x.bs r.bs,sf:=(putB x.rm x.bs r.bs).length }:=by
 obtain ⟨ls,a,b,c,d⟩:=h
 obtain ⟨e1,e2⟩:=putX_yes17 h0
 obtain ⟨e3,e4⟩:=putE_yes17 e2
 obtain ⟨e5,e6⟩:=fail_no17 hr e1
 refine ⟨ls ++ [r.bs], ?_, ?_, ?_,rfl⟩
 ·show putB x.rm x.bs r.bs = _
  rw [e4,a,recs_snoc]
 ·intro y hy
  rcases List.mem_append.1 hy with hy | hy
  ·exact b y hy
  ·rw [List.mem_singleton] at hy
   rw [hy]; exact e3
 ·show _ = (false,bcS17 x.t r)
  rw [← e6]
  exact rep_snoc17 ls c e5
theorem note_len17 {x : KV} {r : RcV17} (hr : r.ok) (h0 : putX17 x r = 0) : (putB x.rm x.bs r.bs).length ≤ x.bs.length + 35:=by
 obtain ⟨e1,e2⟩:=putX_yes17 h0
 obtain ⟨e3,e4⟩:=putE_yes17 e2
 have:=bs_len17 hr
 rw [e4,List.length_append,recB_len]
 omega
theorem go_row17 {x : KV} {j : Nat} (ho : KOk j x) {r : RV} (hma : 0 ≤ r.ma) (hn : Nx17 x.t.R r) : Go17 2 x (noteK17 x (rowR17 r)):=by
 by_cases h0 : putX17 x (rowR17 r) = 0
 ·obtain ⟨e1,e2⟩:=putX_yes17 h0
  have hok:=rc_ok17 (r:=rowR17 r) ho.wf (.inl rfl) (fun _=>hma) e1
  rw [(noteK_yes17 h0).1]
  have hs:=st_row17 e1 hn
  refine ⟨fun hf=>fi_note17 hf hok h0, ?_,rfl,rfl,rfl,hs⟩
  have h1 : wrongP x.t.C x.t.R ⟨r,verP x.t.R r.po⟩ = 0:=e1
  have hl:=note_len17 hok h0
  have hpo:=(RV.bd (wrong_zero h1).1).1
  have hp:=phi_put x.t.R r hpo.1
  unfold pot17
  show (putB x.rm x.bs (rowR17 r).bs).length + 35 * phi17 (doR x.t.C x.t.R ⟨r,verP x.t.R r.po⟩) ≤ _
  simp only [doR,h1,if_true]
  omega
 ·rw [(noteK_no17 h0).1]
  exact (Go17.refl x).le (by omega)
theorem tell_same17 (x : KV) (r : RV) : Go17 0 x (tellK17 x r) := .same rfl rfl rfl rfl rfl
theorem go_chg17 {x : KV} {j : Nat} (ho : KOk j x) {r : RV} (hma : 0 ≤ r.ma) (hn : Nx17 x.t.R r) : Go17 2 x (chgK17 x r):=by
 unfold chgK17
 split
 ·exact (go_row17 ho hma hn).trans (tell_same17 _ r)
 ·exact (Go17.refl x).le (by omega)
theorem go_late17 {x : KV} {j : Nat} (ho : KOk j x) {r : RV} (hma : 0 ≤ r.ma) (hn : Nx17 x.t.R r) (h1 : lateB (x.t.R r.po) = true) (h2 : lateB (some r) = false) : Go17 0 x (chgK17 x r) ∧ ∀ z,z ≠ r.po → (chgK17 x r).t.R z = x.t.R z:=by
 unfold chgK17
 split
 ·rename_i h0
  have h0 : putX17 x (rowR17 r) = 0:=h0
  have hg:=go_row17 ho hma hn
  obtain ⟨e1,e2⟩:=putX_yes17 h0
  have hok:=rc_ok17 (r:=rowR17 r) ho.wf (.inl rfl) (fun _=>hma) e1
  have hw : wrongP x.t.C x.t.R ⟨r,verP x.t.R r.po⟩ = 0:=e1
  have hl:=note_len17 hok h0
  have hpo:=(RV.bd (wrong_zero hw).1).1
  have hp:=phi_drop (x:=r) hpo h1 h2
  rw [(noteK_yes17 h0).1] at hg ⊢
  have hR : bcS17 x.t (rowR17 r) = { x.t with R:=putR x.t.R r }:=by
   show ({ x.t with R:=doR x.t.C x.t.R ⟨r,verP x.t.R r.po⟩ } : TS17) = _
   simp only [doR,hw,if_true]
  refine ⟨?_,fun z hz => ?_⟩
  ·refine (Go17.mk hg.f ?_ hg.r hg.s hg.b hg.t : Go17 0 x _).trans (tell_same17 _ r)
   unfold pot17
   show (putB x.rm x.bs (rowR17 r).bs).length + 35 * phi17 (bcS17 x.t (rowR17 r)).R ≤ _
   rw [hR]
   simp only
   omega
  ·show (bcS17 x.t (rowR17 r)).R z = _
   rw [hR]
   exact if_neg hz
 ·exact ⟨Go17.refl x,fun z hz=>rfl⟩
end Go.Proofs.YtnojmbejedlilaaGreat
