/-
  Half a call, a crash, an opening; what always holds of a controller that acts go through, plain. No condition.
-/
import Derived.Test.YtnojmbejedlilaaGreatQCx
set_option linter.unusedVariables false
set_option linter.unusedSimpArgs false
namespace Go.Proofs.YtnojmbejedlilaaGreat
open Go.Value (int)
open Go.IntKind (i64)
open Go.RowKit
theorem chg_t17 {x : KV} {r : RV} (h : putX17 x (rowR17 r) = 0) : (chgK17 x r).t = bcS17 x.t (rowR17 r):=by
 unfold chgK17
 rw [if_pos (show chgX17 x r = 0 from h)]
 show (noteK17 x (rowR17 r)).t = _
 rw [(noteK_yes17 h).1]
theorem half_is17 {x : KV} {j : Nat} (ho : KOk j x) (hst : x.st = false) (op po c : Int) {ma : Int} (hma : 0 ≤ ma) : (halfK17 x op po c ma).1 = (doK17 x op po c ma).2.1 ∧ (((halfK17 x op po c ma).2 = x ∧ (doK17 x op po c ma).2.2.t = x.t) ∨ ∃ r : RcV17, r.ok ∧ putX17 x r = 0 ∧ Ri17 x.t (bcS17 x.t r) ∧ phi17 (bcS17 x.t r).R ≤ phi17 x.t.R + 1 ∧ (bcS17 x.t r).bt = x.t.bt ∧ (halfK17 x op po c ma).2 = { putK17 x r with st := true } ∧ (doK17 x op po c ma).2.2.t = bcS17 x.t r) := by
  unfold halfK17 doK17 halfA17 doA17
  rw [hst]
  rw [if_neg (show ¬ (false = true) by decide), if_neg (show ¬ (false = true) by decide)]
  by_cases he : (ask17 x.t.R op po c ma x.no).2 = 0
  · rw [if_pos he, if_pos he]
    have hm := ask_ma17 ho.ma op po c hma x.no
    rcases ask_cases17 ho.wf op po c ma x.no he with hk | ⟨r, hr, hn⟩ | ⟨z, hr⟩
    · unfold doR17 halfR17
      rw [if_pos hk, if_neg (by omega), if_neg (by omega), if_neg (by omega)]
      exact ⟨rfl, .inl ⟨rfl, rfl⟩⟩
    · rw [hr] at hm ⊢
      have hg := go_row17 ho hm hn
      unfold doR17 halfR17
      rw [if_neg (show ¬ (rowR17 r).k = 0 by show ¬ (1 : Int) = 0; decide), if_pos (show (rowR17 r).k = 1 from rfl)]
      by_cases h0 : putX17 x (rowR17 r) = 0
      · have h1 : chgX17 x (rowR17 r).x = 0 := h0
        rw [if_pos h0, if_pos h1]
        obtain ⟨e1, e2⟩ := putX_yes17 h0
        have hw : wrongP x.t.C x.t.R ⟨r, verP x.t.R r.po⟩ = 0 := e1
        have hpo := (RV.bd (wrong_zero hw).1).1
        have hR : (bcS17 x.t (rowR17 r)).R = putR x.t.R r := by
          show doR x.t.C x.t.R ⟨r, verP x.t.R r.po⟩ = _
          simp only [doR, hw, if_true]
        refine ⟨rfl, .inr ⟨rowR17 r, rc_ok17 (r := rowR17 r) ho.wf (.inl rfl) (fun _ => hm) e1, h0, st_row17 e1 hn, ?_, rfl, rfl, chg_t17 h0⟩⟩
        rw [hR]
        exact phi_put x.t.R r hpo.1
      · have h1 : ¬ chgX17 x (rowR17 r).x = 0 := h0
        rw [if_neg h0, if_neg h1]
        exact ⟨rfl, .inl ⟨rfl, rfl⟩⟩
    · have hkk : ∃ k : Int, (k = 4 ∨ k = 5) ∧ (ask17 x.t.R op po c ma x.no).1 = ⟨k, z9, z, 0⟩ := by
        rcases hr with hr | hr
        · exact ⟨4, .inl rfl, hr⟩
        · exact ⟨5, .inr rfl, hr⟩
      obtain ⟨k, hk, hr2⟩ := hkk
      rw [hr2]
      have hg := go_chas17 ho (r := ⟨k, z9, z, 0⟩) hk
      unfold halfR17
      rw [if_neg (show ¬ k = 0 by omega)]
      by_cases h0 : putX17 x ⟨k, z9, z, 0⟩ = 0
      · rw [if_pos h0]
        obtain ⟨e1, e2⟩ := putX_yes17 h0
        have hR : (bcS17 x.t ⟨k, z9, z, 0⟩).R = x.t.R ∧ (bcS17 x.t ⟨k, z9, z, 0⟩).bt = x.t.bt := by
          rcases hk with rfl | rfl <;> exact ⟨rfl, rfl⟩
        have hd : (doR17 x ⟨k, z9, z, 0⟩).2.1 = 0 ∧ (doR17 x ⟨k, z9, z, 0⟩).2.2.t = (noteK17 x ⟨k, z9, z, 0⟩).t := by
          rcases hk with rfl | rfl
          · rw [doR_4_17, if_pos h0]; exact ⟨rfl, rfl⟩
          · rw [doR_5_17, if_pos h0]; exact ⟨rfl, rfl⟩
        rw [(noteK_yes17 h0).1] at hd hg
        refine ⟨hd.1.symm, .inr ⟨⟨k, z9, z, 0⟩, rc_ok17 (r := ⟨k, z9, z, 0⟩) ho.wf (by rcases hk with e | e; exact .inr (.inl e); exact .inr (.inr (.inl e))) (fun e => by have : k = 1 := e; omega) e1, h0, hg.t, by rw [hR.1]; omega, hR.2, rfl, hd.2⟩⟩
      · rw [if_neg h0]
        have hd : (doR17 x ⟨k, z9, z, 0⟩).2.1 = putX17 x ⟨k, z9, z, 0⟩ ∧ (doR17 x ⟨k, z9, z, 0⟩).2.2 = x := by
          rcases hk with rfl | rfl
          · rw [doR_4_17, if_neg h0]; exact ⟨rfl, rfl⟩
          · rw [doR_5_17, if_neg h0]; exact ⟨rfl, rfl⟩
        exact ⟨hd.1.symm, .inl ⟨rfl, by rw [hd.2]⟩⟩
  · rw [if_neg he, if_neg he]
    exact ⟨rfl, .inl ⟨rfl, rfl⟩⟩
theorem late_zero17 {C : Int → Bool} {R : Int → Option RV} (hw : WF C R) {sp : Int} (h : 1 ≤ sp) : lateP R 0 sp = []:=by
 unfold lateP
 rw [List.filterMap_eq_nil_iff]
 intro x hx
 obtain ⟨z,hz⟩:=hw.mem.1 hx
 have hs:=(RV.bd (hw.row z x hz).1).2.2.2.2
 have hc : ¬ ((en9 x 0).2 = 0 ∧ mx9 sp ≤ 0 - x.si):=by
  rintro ⟨_,h2⟩
  unfold mx9 at h2
  split at h2 <;> omega
 unfold lateV lt9
 rw [if_neg hc]
 rfl
theorem opn_ok17 {t : TS17} {bs : List UInt8} {rm : Nat} {sp no : Int} (h : rep17 ts0 (scan8 bs) = (false,t)) (hb : bs.length + 35 ≤ rm) (hm : rm ≤ 16777216) (hbt : 0 ≤ t.bt ∧ t.bt < 4294967296) (hsp : 1 ≤ sp ∧ sp ≤ 2147483648) (hno : 0 ≤ no ∧ no ≤ 1099511627776) :
  opnE17 bs bs.length rm sp no = 0 ∧ KOk 0 (opnK17 bs bs.length rm sp no) ∧ FI17 (opnK17 bs bs.length rm sp no) ∧ (opnK17 bs bs.length rm sp no).rm = rm ∧ (opnK17 bs bs.length rm sp no).st = false ∧ pot17 (opnK17 bs bs.length rm sp no) ≤ bs.length + 35 * phi17 t.R + 35 ∧ (opnK17 bs bs.length rm sp no).t.bt = t.bt + 1 ∧ Ri17 t (opnK17 bs bs.length rm sp no).t ∧
  (no = 0 → (opnK17 bs bs.length rm sp no).t.C = t.C ∧ (opnK17 bs bs.length rm sp no).t.R = t.R):=by
 have hX : (opn17 bs bs.length rm sp no).t = t:=by
  show (rep17 ts0 (scan8 bs)).2 = t
  rw [h]
 have hsf : opS bs bs.length = (recs8 (scan8 bs)).length:=by
  unfold opS
  have h1:=used_le bs
  unfold used8 at h1 ⊢
  split
  ·rfl
  ·omega
 have hF : FI17 (opn17 bs bs.length rm sp no):=⟨scan8 bs,rfl,fun b hb=>scan_ok hb,by rw [hX]; exact h,hsf⟩
 have hle:=scan_le bs
 have hbb : (opn17 bs bs.length rm sp no).bs.length ≤ bs.length:=hle
 have hrr : (opn17 bs bs.length rm sp no).rm = rm:=rfl
 have hst : (opn17 bs bs.length rm sp no).st = false:=rfl
 have hrn : (opn17 bs bs.length rm sp no).no = no:=rfl
 have hrs : (opn17 bs bs.length rm sp no).sp = sp:=rfl
 have hok : (btR17 (t.bt + 1)).ok := .inr (.inl ⟨rfl,by show 0 ≤ t.bt + 1; omega,by show t.bt + 1 ≤ 4294967296; omega⟩)
 have hE : bcE17 t (btR17 (t.bt + 1)) = 0:=by
  show (if t.bt + 1 ≤ t.bt then (2 : Int) else 0) = 0
  rw [if_neg (by omega)]
 have hS : bcS17 t (btR17 (t.bt + 1)) = { t with bt:=t.bt + 1 }:=by
  show (if t.bt + 1 ≤ t.bt then t else { t with bt:=t.bt + 1 }) = _
  rw [if_neg (by omega)]
 have hput : putX17 (opn17 bs bs.length rm sp no) (btR17 (t.bt + 1)) = 0:=by
  unfold putX17
  rw [hX,if_pos hE]
  have hl:=bs_len17 hok
  unfold putE addE
  rw [if_neg (by omega),if_neg (by rw [hrr,recB_len]; omega)]
 have h0 : staX17 (opn17 bs bs.length rm sp no) = 0:=by
  unfold staX17
  rw [hX,if_neg (by omega)]
  exact hput
 have hOE : opnE17 bs bs.length rm sp no = 0:=by
  unfold opnE17
  rw [if_pos (opnA_yes17 hsp hno),if_neg (show ¬ (rep17 ts0 (scan8 bs)).1 = true by rw [h]; exact Bool.false_ne_true)]
  exact h0
 have hk:=sta_ok17 (by omega) hm (Nat.le_refl _) hsp hno h0
 have hlen:=note_len17 hok hput
 have hSt : (staK17 (opn17 bs bs.length rm sp no)).t = { t with bt:=t.bt + 1 } ∧ FI17 (staK17 (opn17 bs bs.length rm sp no)) ∧ (staK17 (opn17 bs bs.length rm sp no)).rm = rm ∧ (staK17 (opn17 bs bs.length rm sp no)).st = false ∧ (staK17 (opn17 bs bs.length rm sp no)).bs.length ≤ bs.length + 35 ∧ (staK17 (opn17 bs bs.length rm sp no)).no = no ∧ (staK17 (opn17 bs bs.length rm sp no)).sp = sp:=by
  have hf:=fi_note17 hF hok hput
  unfold staK17
  generalize opn17 bs bs.length rm sp no = x at *
  subst hX
  rw [(noteK_yes17 hput).1]
  obtain ⟨ls,a,b,c,d⟩:=hf
  refine ⟨hS,⟨ls,a,b,c,d⟩,hrr,hst, ?_,hrn,hrs⟩
  exact Nat.le_trans hlen (Nat.add_le_add_right hbb 35)
 have hg:=go_exp17 hk
 obtain ⟨s1,s2,s3,s4,s5,s6,s7⟩:=hSt
 refine ⟨hOE,hk.exp,hg.f s2,hg.r.trans s3,hg.s.trans s4, ?_,by show (expK17 _).t.bt = _; rw [hg.b,s1], ?_,fun e => ?_⟩
 ·have h1:=hg.p
  unfold pot17 at h1 ⊢
  rw [s1] at h1
  show (expK17 _).bs.length + 35 * phi17 (expK17 _).t.R ≤ _
  simp only at h1
  omega
 ·refine Ri17.trans (u:=(staK17 (opn17 bs bs.length rm sp no)).t) ?_ hg.t
  rw [s1]
  exact ⟨by show t.bt ≤ t.bt + 1; omega,(Ri17.refl t).2⟩
 ·subst e
  have hl : expK17 (staK17 (opn17 bs bs.length rm sp 0)) = staK17 (opn17 bs bs.length rm sp 0):=by
   unfold expK17
   rw [s6,s7,late_zero17 hk.wf hsp.1]
   rfl
  show (expK17 _).t.C = _ ∧ (expK17 _).t.R = _
  rw [hl,s1]
  exact ⟨rfl,rfl⟩
theorem crash_all17 {bs : List UInt8} {sf : Nat} (h : sf = bs.length) (keep : Int) : bs.take (crN bs sf keep) = bs ∧ crN bs sf keep = bs.length:=by
 have : crN bs sf keep = bs.length:=by
  unfold crN
  omega
 rw [this]
 exact ⟨List.take_length,rfl⟩
theorem crash_half17 {x : KV} {r : RcV17} (hf : FI17 x) (hr : r.ok) (h0 : putX17 x r = 0) (keep : Int) : (((putK17 x r).bs.take (crN (putK17 x r).bs x.sf keep)).length = crN (putK17 x r).bs x.sf keep) ∧ crN (putK17 x r).bs x.sf keep ≤ x.bs.length + 35 ∧
  (rep17 ts0 (scan8 ((putK17 x r).bs.take (crN (putK17 x r).bs x.sf keep))) = (false,x.t) ∨ rep17 ts0 (scan8 ((putK17 x r).bs.take (crN (putK17 x r).bs x.sf keep))) = (false,bcS17 x.t r)) ∧
  (keep ≤ 0 → rep17 ts0 (scan8 ((putK17 x r).bs.take (crN (putK17 x r).bs x.sf keep))) = (false,x.t)) ∧
  (200 ≤ keep → rep17 ts0 (scan8 ((putK17 x r).bs.take (crN (putK17 x r).bs x.sf keep))) = (false,bcS17 x.t r)):=by
 obtain ⟨ls,a,b,c,d⟩:=hf
 obtain ⟨e1,e2⟩:=putX_yes17 h0
 obtain ⟨e3,e4⟩:=putE_yes17 e2
 obtain ⟨e5,e6⟩:=fail_no17 hr e1
 have hl:=bs_len17 hr
 have hbs : (putK17 x r).bs = recs8 (ls ++ [r.bs]):=by
  rw [(noteK_yes17 h0).2]
  show putB x.rm x.bs r.bs = _
  rw [e4,a,recs_snoc]
 have hsf : x.sf = (recs8 ls).length:=by rw [d,a]
 have hxl : x.bs.length = (recs8 ls).length:=by rw [a]
 have hL : (recs8 (ls ++ [r.bs])).length = (recs8 ls).length + (r.bs.length + 6):=by rw [recs_snoc,List.length_append,recB_len]
 have hok : ∀ y ∈ ls ++ [r.bs],Bok y:=by
  intro y hy
  rcases List.mem_append.1 hy with hy | hy
  ·exact b y hy
  ·rw [List.mem_singleton] at hy
   rw [hy]; exact e3
 have hrep:=rep_snoc17 ls c e5
 rw [e6] at hrep
 rw [hbs,hsf,hxl]
 have hN : crN (recs8 (ls ++ [r.bs])) (recs8 ls).length keep = (recs8 ls).length + min keep.toNat (r.bs.length + 6):=by
  unfold crN
  rw [hL]
  omega
 have hsc:=keep_scan (ls ++ [r.bs]) (crN (recs8 (ls ++ [r.bs])) (recs8 ls).length keep) hok
 have hge:=keep_ge (ls ++ [r.bs]) (crN (recs8 (ls ++ [r.bs])) (recs8 ls).length keep) ls.length (by rw [List.length_append]; omega) (by rw [List.take_left' rfl,hN]; omega)
 have hle:=keep_le (ls ++ [r.bs]) (crN (recs8 (ls ++ [r.bs])) (recs8 ls).length keep)
 have hll : (ls ++ [r.bs]).length = ls.length + 1:=by rw [List.length_append]; rfl
 rw [hsc,List.length_take,hL]
 have h3 : keep ≤ 0 → keep8 (ls ++ [r.bs]) (crN (recs8 (ls ++ [r.bs])) (recs8 ls).length keep) = ls.length:=by
  intro hk
  have hn : crN (recs8 (ls ++ [r.bs])) (recs8 ls).length keep = (recs8 ((ls ++ [r.bs]).take ls.length)).length:=by
   rw [List.take_left' rfl,hN]
   omega
  rw [hn]
  exact keep_eq _ _ (by omega)
 have h4 : 200 ≤ keep → keep8 (ls ++ [r.bs]) (crN (recs8 (ls ++ [r.bs])) (recs8 ls).length keep) = ls.length + 1:=by
  intro hk
  have hn : crN (recs8 (ls ++ [r.bs])) (recs8 ls).length keep = (recs8 ((ls ++ [r.bs]).take (ls.length + 1))).length:=by
   rw [List.take_of_length_le (by omega),hN,hL]
   omega
  rw [hn]
  exact keep_eq _ _ (by omega)
 have hA : (ls ++ [r.bs]).take ls.length = ls:=List.take_left' rfl
 have hB : (ls ++ [r.bs]).take (ls.length + 1) = ls ++ [r.bs]:=List.take_of_length_le (by omega)
 refine ⟨by omega,by omega, ?_,fun hk => ?_,fun hk => ?_⟩
 ·generalize keep8 (ls ++ [r.bs]) (crN (recs8 (ls ++ [r.bs])) (recs8 ls).length keep) = k at *
  by_cases e : k = ls.length
  ·rw [e,hA]; exact .inl c
  ·rw [show k = ls.length + 1 by omega,hB]; exact .inr hrep
 ·rw [h3 hk,hA]; exact c
 ·rw [h4 hk,hB]; exact hrep
structure In17 (j n : Nat) (x : KV) : Prop where
 ok : KOk j x
 fi : FI17 x
 rm : x.rm = 65536
 st : x.st = false
 pot : pot17 x ≤ 35 * n
 bt : x.t.bt ≤ (n : Int)
theorem In17.go {j j' n m : Nat} {x y : KV} (h : In17 j n x) (g : Go17 m x y) (ho : KOk j' y) : In17 j' (n + m) y:=⟨ho,g.f h.fi,g.r.trans h.rm,g.s.trans h.st,by have h1:=h.pot; have h2:=g.p; omega,by have h1:=h.bt; have h2:=g.b; omega⟩
theorem In17.le {j n m : Nat} {x : KV} (h : In17 j n x) (hm : n ≤ m) : In17 j m x:=⟨h.ok,h.fi,h.rm,h.st,by have:=h.pot; omega,by have:=h.bt; omega⟩
def crB17 (y : KV) (keep : Int) : List UInt8:=y.bs.take (crN y.bs y.sf keep)
def reK17 (y : KV) (keep sp no : Int) : KV:=opnK17 (crB17 y keep) (crN y.bs y.sf keep) y.rm sp no
def reE17 (y : KV) (keep sp no : Int) : Int:=opnE17 (crB17 y keep) (crN y.bs y.sf keep) y.rm sp no
theorem in_open17 {j n : Nat} {x : KV} (h : In17 j n x) (hn : n ≤ 1000) (keep : Int) {sp no : Int} (hsp : 1 ≤ sp ∧ sp ≤ 2147483648) (hno : 0 ≤ no ∧ no ≤ 1099511627776) : reE17 x keep sp no = 0 ∧ In17 0 (n + 1) (reK17 x keep sp no) ∧ Ri17 x.t (reK17 x keep sp no).t ∧ (no = 0 → (reK17 x keep sp no).t.C = x.t.C ∧ (reK17 x keep sp no).t.R = x.t.R):=by
 obtain ⟨ls,a,b,c,d⟩:=h.fi
 obtain ⟨e1,e2⟩:=crash_all17 d keep
 have hp:=h.pot
 have hbt:=h.bt
 have hbt0:=h.ok.bt
 have hrm:=h.rm
 unfold pot17 at hp
 have hs : scan8 x.bs = ls:=by rw [a]; exact scan_of ls b
 unfold reE17 reK17 crB17
 rw [e1,e2]
 obtain ⟨f1,f2,f3,f4,f5,f6,f7,f8,f9⟩:=opn_ok17 (t:=x.t) (bs:=x.bs) (rm:=x.rm) (sp:=sp) (no:=no) (by rw [hs]; exact c) (by omega) (by omega) (by omega) hsp hno
 exact ⟨f1,⟨f2,f3,f4.trans hrm,f5,by omega,by omega⟩,f8,f9⟩
theorem in_half17 {j n : Nat} {x : KV} (h : In17 j n x) (hn : n ≤ 1000) (op po c : Int) {ma : Int} (hma : 0 ≤ ma) (keep : Int) {sp no : Int} (hsp : 1 ≤ sp ∧ sp ≤ 2147483648) (hno : 0 ≤ no ∧ no ≤ 1099511627776) :
  reE17 (halfK17 x op po c ma).2 keep sp no = 0 ∧ In17 0 (n + 3) (reK17 (halfK17 x op po c ma).2 keep sp no) ∧ Ri17 x.t (reK17 (halfK17 x op po c ma).2 keep sp no).t ∧
  (no = 0 → (((reK17 (halfK17 x op po c ma).2 keep sp no).t.C = x.t.C ∧ (reK17 (halfK17 x op po c ma).2 keep sp no).t.R = x.t.R) ∨ ((reK17 (halfK17 x op po c ma).2 keep sp no).t.C = (doK17 x op po c ma).2.2.t.C ∧ (reK17 (halfK17 x op po c ma).2 keep sp no).t.R = (doK17 x op po c ma).2.2.t.R)) ∧
   (keep ≤ 0 → (reK17 (halfK17 x op po c ma).2 keep sp no).t.C = x.t.C ∧ (reK17 (halfK17 x op po c ma).2 keep sp no).t.R = x.t.R) ∧
   (200 ≤ keep → (reK17 (halfK17 x op po c ma).2 keep sp no).t.C = (doK17 x op po c ma).2.2.t.C ∧ (reK17 (halfK17 x op po c ma).2 keep sp no).t.R = (doK17 x op po c ma).2.2.t.R)):=by
 obtain ⟨g0,g1⟩:=half_is17 h.ok h.st op po c hma
 rcases g1 with ⟨g1,g2⟩ | ⟨r,hr,h0,hri,hphi,hbb,g1,g2⟩
 ·rw [g1,g2]
  obtain ⟨a1,a2,a3,a4⟩:=in_open17 h hn keep hsp hno
  exact ⟨a1,a2.le (by omega),a3,fun e=>⟨.inl (a4 e),fun _=>a4 e,fun _=>a4 e⟩⟩
 ·rw [g1,g2]
  obtain ⟨c1,c2,c3,c4,c5⟩:=crash_half17 h.fi hr h0 keep
  have hsf : (putK17 x r).sf = x.sf:=by unfold putK17; split <;> rfl
  have hrm2 : (putK17 x r).rm = x.rm:=by unfold putK17; split <;> rfl
  unfold reE17 reK17 crB17
  simp only
  rw [hsf,hrm2]
  have hp:=h.pot
  have hbt:=h.bt
  have hbt0:=h.ok.bt
  have hrm:=h.rm
  unfold pot17 at hp
  generalize hB : (putK17 x r).bs.take (crN (putK17 x r).bs x.sf keep) = bs' at *
  rw [← c1] at c2 ⊢
  have key : ∀ t,rep17 ts0 (scan8 bs') = (false,t) → t.bt = x.t.bt → phi17 t.R ≤ phi17 x.t.R + 1 → Ri17 x.t t → opnE17 bs' bs'.length x.rm sp no = 0 ∧ In17 0 (n + 3) (opnK17 bs' bs'.length x.rm sp no) ∧ Ri17 x.t (opnK17 bs' bs'.length x.rm sp no).t ∧ (no = 0 → (opnK17 bs' bs'.length x.rm sp no).t.C = t.C ∧ (opnK17 bs' bs'.length x.rm sp no).t.R = t.R):=by
   intro t ht hb hph hri2
   obtain ⟨f1,f2,f3,f4,f5,f6,f7,f8,f9⟩:=opn_ok17 (t:=t) (bs:=bs') (rm:=x.rm) (sp:=sp) (no:=no) ht (by omega) (by omega) (by omega) hsp hno
   exact ⟨f1,⟨f2,f3,f4.trans hrm,f5,by omega,by omega⟩,hri2.trans f8,f9⟩
  have kA : rep17 ts0 (scan8 bs') = (false,x.t) → _:=fun e=>key x.t e rfl (by omega) (Ri17.refl _)
  have kB : rep17 ts0 (scan8 bs') = (false,bcS17 x.t r) → _:=fun e=>key (bcS17 x.t r) e hbb hphi hri
  rcases c3 with c3 | c3
  ·obtain ⟨f1,f2,f3,f4⟩:=kA c3
   exact ⟨f1,f2,f3,fun e=>⟨.inl (f4 e),fun hk=>f4 e,fun hk=>(kB (c5 hk)).2.2.2 e⟩⟩
  ·obtain ⟨f1,f2,f3,f4⟩:=kB c3
   exact ⟨f1,f2,f3,fun e=>⟨.inr (f4 e),fun hk=>(kA (c4 hk)).2.2.2 e,fun hk=>f4 e⟩⟩
end Go.Proofs.YtnojmbejedlilaaGreat
