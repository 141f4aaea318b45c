/-
  Rows as structures, what each act makes of one (plain), the cells of a row that is written. No condition.
-/
import Derived.Test.YtfajcdobikjcdaaGreatDoorM4
set_option linter.unusedVariables false
set_option linter.unusedSimpArgs false
namespace Go.Proofs.YtfajcdobikjcdaaGreatDoor
open Go.Value (int)
open Go.IntKind (i64)
open Go.RowKit
structure RV where
 po : Int
 ma : Int
 ow : Int
 ta : Int
 ol : Int
 ge : Int
 ph : Int
 ve : Int
 si : Int
def RV.cs (x : RV) : Array Value:=rvC x.po x.ma x.ow x.ta x.ol x.ge x.ph x.ve x.si
def RV.ok (x : RV) : Bool:=rwR x.po x.ma x.ow x.ta x.ol x.ge x.ph x.ve x.si
def z9 : RV:=⟨0,0,0,0,0,0,0,0,0⟩
def HR9 (po ma ow ta ol ge ph ve si er : Int) (w : World) (E : Ending) (w' : World) : Prop:=E = .returned (.tuple #[.agg #[int i64 po,int .u64 ma,int i64 ow,int i64 ta,int i64 ol,int i64 ge,int i64 ph,int i64 ve,int i64 si],int i64 er]) ∧ Chg (fun _=>False) w w'
def HR (r : RV × Int) (w : World) : Ending → World → Prop:=HR9 r.1.po r.1.ma r.1.ow r.1.ta r.1.ol r.1.ge r.1.ph r.1.ve r.1.si r.2 w
def HB9 (po ma ow ta ol ge ph ve si : Int) (b : Bool) (w : World) (E : Ending) (w' : World) : Prop:=E = .returned (.tuple #[.agg #[int i64 po,int .u64 ma,int i64 ow,int i64 ta,int i64 ol,int i64 ge,int i64 ph,int i64 ve,int i64 si], .bool b]) ∧ Chg (fun _=>False) w w'
def HB (r : RV × Bool) (w : World) : Ending → World → Prop:=HB9 r.1.po r.1.ma r.1.ow r.1.ta r.1.ol r.1.ge r.1.ph r.1.ve r.1.si r.2 w
theorem rv_put9 {w : World} {r : Nat} {po ma ow ta ol ge ph ve si : Int} {T : TypeId} (hb : Blk w r T (rvC po ma ow ta ol ge ph ve si)) (po' ma' ow' ta' ol' ge' ph' ve' si' : Int) :
  (w.setCell ⟨r,0,none⟩ (int i64 po')).cell? ⟨r,0,none⟩ = some (int i64 po') ∧
  ((w.setCell ⟨r,0,none⟩ (int i64 po')).setCell ⟨r,1,none⟩ (int .u64 ma')).cell? ⟨r,1,none⟩ = some (int .u64 ma') ∧
  (((w.setCell ⟨r,0,none⟩ (int i64 po')).setCell ⟨r,1,none⟩ (int .u64 ma')).setCell ⟨r,2,none⟩ (int i64 ow')).cell? ⟨r,2,none⟩ = some (int i64 ow') ∧
  ((((w.setCell ⟨r,0,none⟩ (int i64 po')).setCell ⟨r,1,none⟩ (int .u64 ma')).setCell ⟨r,2,none⟩ (int i64 ow')).setCell ⟨r,3,none⟩ (int i64 ta')).cell? ⟨r,3,none⟩ = some (int i64 ta') ∧
  (((((w.setCell ⟨r,0,none⟩ (int i64 po')).setCell ⟨r,1,none⟩ (int .u64 ma')).setCell ⟨r,2,none⟩ (int i64 ow')).setCell ⟨r,3,none⟩ (int i64 ta')).setCell ⟨r,4,none⟩ (int i64 ol')).cell? ⟨r,4,none⟩ = some (int i64 ol') ∧
  ((((((w.setCell ⟨r,0,none⟩ (int i64 po')).setCell ⟨r,1,none⟩ (int .u64 ma')).setCell ⟨r,2,none⟩ (int i64 ow')).setCell ⟨r,3,none⟩ (int i64 ta')).setCell ⟨r,4,none⟩ (int i64 ol')).setCell ⟨r,5,none⟩ (int i64 ge')).cell? ⟨r,5,none⟩ = some (int i64 ge') ∧
  (((((((w.setCell ⟨r,0,none⟩ (int i64 po')).setCell ⟨r,1,none⟩ (int .u64 ma')).setCell ⟨r,2,none⟩ (int i64 ow')).setCell ⟨r,3,none⟩ (int i64 ta')).setCell ⟨r,4,none⟩ (int i64 ol')).setCell ⟨r,5,none⟩ (int i64 ge')).setCell ⟨r,6,none⟩ (int i64 ph')).cell? ⟨r,6,none⟩ = some (int i64 ph') ∧
  ((((((((w.setCell ⟨r,0,none⟩ (int i64 po')).setCell ⟨r,1,none⟩ (int .u64 ma')).setCell ⟨r,2,none⟩ (int i64 ow')).setCell ⟨r,3,none⟩ (int i64 ta')).setCell ⟨r,4,none⟩ (int i64 ol')).setCell ⟨r,5,none⟩ (int i64 ge')).setCell ⟨r,6,none⟩ (int i64 ph')).setCell ⟨r,7,none⟩ (int i64 ve')).cell? ⟨r,7,none⟩ = some (int i64 ve') ∧
  (((((((((w.setCell ⟨r,0,none⟩ (int i64 po')).setCell ⟨r,1,none⟩ (int .u64 ma')).setCell ⟨r,2,none⟩ (int i64 ow')).setCell ⟨r,3,none⟩ (int i64 ta')).setCell ⟨r,4,none⟩ (int i64 ol')).setCell ⟨r,5,none⟩ (int i64 ge')).setCell ⟨r,6,none⟩ (int i64 ph')).setCell ⟨r,7,none⟩ (int i64 ve')).setCell ⟨r,8,none⟩ (int i64 si')).cell? ⟨r,8,none⟩ = some (int i64 si') ∧
  Blk (((((((((w.setCell ⟨r,0,none⟩ (int i64 po')).setCell ⟨r,1,none⟩ (int .u64 ma')).setCell ⟨r,2,none⟩ (int i64 ow')).setCell ⟨r,3,none⟩ (int i64 ta')).setCell ⟨r,4,none⟩ (int i64 ol')).setCell ⟨r,5,none⟩ (int i64 ge')).setCell ⟨r,6,none⟩ (int i64 ph')).setCell ⟨r,7,none⟩ (int i64 ve')).setCell ⟨r,8,none⟩ (int i64 si')) r T (rvC po' ma' ow' ta' ol' ge' ph' ve' si') ∧ Chg (fun k=>k = r) w (((((((((w.setCell ⟨r,0,none⟩ (int i64 po')).setCell ⟨r,1,none⟩ (int .u64 ma')).setCell ⟨r,2,none⟩ (int i64 ow')).setCell ⟨r,3,none⟩ (int i64 ta')).setCell ⟨r,4,none⟩ (int i64 ol')).setCell ⟨r,5,none⟩ (int i64 ge')).setCell ⟨r,6,none⟩ (int i64 ph')).setCell ⟨r,7,none⟩ (int i64 ve')).setCell ⟨r,8,none⟩ (int i64 si')):=by
 have h0:=(hb.set 0 (int i64 po'))
 have r0:=h0.cell 0
 have h1:=((hb.set 0 (int i64 po')).set 1 (int .u64 ma'))
 have r1:=h1.cell 1
 have h2:=(((hb.set 0 (int i64 po')).set 1 (int .u64 ma')).set 2 (int i64 ow'))
 have r2:=h2.cell 2
 have h3:=((((hb.set 0 (int i64 po')).set 1 (int .u64 ma')).set 2 (int i64 ow')).set 3 (int i64 ta'))
 have r3:=h3.cell 3
 have h4:=(((((hb.set 0 (int i64 po')).set 1 (int .u64 ma')).set 2 (int i64 ow')).set 3 (int i64 ta')).set 4 (int i64 ol'))
 have r4:=h4.cell 4
 have h5:=((((((hb.set 0 (int i64 po')).set 1 (int .u64 ma')).set 2 (int i64 ow')).set 3 (int i64 ta')).set 4 (int i64 ol')).set 5 (int i64 ge'))
 have r5:=h5.cell 5
 have h6:=(((((((hb.set 0 (int i64 po')).set 1 (int .u64 ma')).set 2 (int i64 ow')).set 3 (int i64 ta')).set 4 (int i64 ol')).set 5 (int i64 ge')).set 6 (int i64 ph'))
 have r6:=h6.cell 6
 have h7:=((((((((hb.set 0 (int i64 po')).set 1 (int .u64 ma')).set 2 (int i64 ow')).set 3 (int i64 ta')).set 4 (int i64 ol')).set 5 (int i64 ge')).set 6 (int i64 ph')).set 7 (int i64 ve'))
 have r7:=h7.cell 7
 have h8:=(((((((((hb.set 0 (int i64 po')).set 1 (int .u64 ma')).set 2 (int i64 ow')).set 3 (int i64 ta')).set 4 (int i64 ol')).set 5 (int i64 ge')).set 6 (int i64 ph')).set 7 (int i64 ve')).set 8 (int i64 si'))
 have r8:=h8.cell 8
 simp only [rvC,List.setIfInBounds_toArray,List.set_cons_succ,List.set_cons_zero,List.getElem?_toArray,List.getElem?_cons_zero,List.getElem?_cons_succ] at r0 r1 r2 r3 r4 r5 r6 r7 r8 h8
 exact ⟨r0,r1,r2,r3,r4,r5,r6,r7,r8,h8,((((((((((Chg.refl (fun k=>k = r) w).put r 0 (fun _=>rfl) (int i64 po')).put r 1 (fun _=>rfl) (int .u64 ma')).put r 2 (fun _=>rfl) (int i64 ow')).put r 3 (fun _=>rfl) (int i64 ta')).put r 4 (fun _=>rfl) (int i64 ol')).put r 5 (fun _=>rfl) (int i64 ge')).put r 6 (fun _=>rfl) (int i64 ph')).put r 7 (fun _=>rfl) (int i64 ve')).put r 8 (fun _=>rfl) (int i64 si'))⟩
theorem rv_free9 {w : World} {r : Nat} {T : TypeId} {cs : Array Value} (hb : Blk w r T cs) : w.frozen? ⟨r,0,none⟩ = false ∧ w.frozen? ⟨r,1,none⟩ = false ∧ w.frozen? ⟨r,2,none⟩ = false ∧ w.frozen? ⟨r,3,none⟩ = false ∧ w.frozen? ⟨r,4,none⟩ = false ∧ w.frozen? ⟨r,5,none⟩ = false ∧ w.frozen? ⟨r,6,none⟩ = false ∧ w.frozen? ⟨r,7,none⟩ = false ∧ w.frozen? ⟨r,8,none⟩ = false :=
 ⟨hb.frozen 0,hb.frozen 1,hb.frozen 2,hb.frozen 3,hb.frozen 4,hb.frozen 5,hb.frozen 6,hb.frozen 7,hb.frozen 8⟩
theorem ok_bounds {po ma ow ta ol ge ph ve si : Int} (h : rwR po ma ow ta ol ge ph ve si = true) : (0 ≤ po ∧ po ≤ 31) ∧ (1 ≤ ve ∧ ve ≤ 1099511627776) ∧ ma ≤ 281474976710655 ∧ (1 ≤ ge ∧ ge ≤ 4294967296) ∧ (0 ≤ si ∧ si ≤ 1099511627776):=by
 simp only [rwR,namedB,withinB,List.all_cons,List.all_nil,Bool.and_true,Bool.and_eq_true,decide_eq_true_eq] at h
 obtain ⟨⟨⟨h1,h2⟩,h3,h4⟩,h5,⟨h6,h7⟩,⟨h8,h9⟩,_⟩:=h
 exact ⟨⟨h1,h2⟩,⟨h3,h4⟩,h5,⟨h6,h7⟩,h8,h9⟩
end Go.Proofs.YtfajcdobikjcdaaGreatDoor
