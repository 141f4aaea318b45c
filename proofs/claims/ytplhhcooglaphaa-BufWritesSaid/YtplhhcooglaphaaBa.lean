/-
  Walk: rutterlaw01.BufBack, its parts: three readers and the arguments under one word. Conditions: the arguments are read in memory.
-/
import Derived.Test.YtplhhcooglaphaaAl
import Derived.Test.YtplhhcooglaphaaSpb
namespace Go.Proofs.Ytplhhcooglaphaa
open Go.RowKit

theorem Rd.mono {T : TypeId} {s : Bool} {w : World} {p : Nat} {S S' : Nat → Prop} {st : Option (List UInt8)} (h : Rd T s w p S st) (hs : ∀ k, S k → S' k) (hp : ¬ S' p) : Rd T s w p S' st := by
  obtain ⟨_, A, n, c, f, bs, h1, h2, h3, h4, h5, h6⟩ := h
  exact ⟨hp, A, n, c, f, bs, h1, h2, h3, h4, h5.mono hs, h6⟩

theorem rds_cut {w : World} {S : Nat → Prop} {A : Option Addr} {n : Nat} {l : List UInt8} (h : Rds w S A n (bcs l)) (hn : 1 ≤ n) : Rds w S A (n - 1) (bcs l.dropLast) := by
  have h2 := h.take (n - 1) (by omega)
  have hl : l.length = n := by have := h.1; rwa [bcs_len] at this
  have e : (bcs l).take (n - 1) = bcs l.dropLast := by
    unfold bcs
    rw [← List.map_take, List.dropLast_eq_take, hl]
  rwa [e] at h2
theorem rds_nil_ok {w : World} {S : Nat → Prop} {A : Option Addr} {n c : Nat} {xs : List Value} (h : Rds w S A n xs) (hn : 1 ≤ n) : A = none → c = 0 := by
  rintro rfl
  obtain ⟨_, e, _⟩ := h.2 (by omega)
  cases e
theorem grown_fresh {w0 w w' : World} {A : Option Addr} {n c base : Nat} {e : TypeId} {size m : Nat} {xs : List Value} (h : Chg (fun _ => False) w0 w) (hg : w.grownBy w' (Value.slice A n c).ownBlock)
    (hown : w.ownsRow base e size (.slice A m c) m xs) (hb : w0.heap.size ≤ base) : Chg (fun _ => False) w0 w' :=
  h.grown hg (fun k hk hlt => by
    rw [own_block] at hk
    have := (hown.lt k (by rw [own_block]; exact hk)).1
    omega)

/-- The world of a walk that began in W: nothing of W has turned, the arguments read as they did, three readers are in their states. -/
structure BB (W : World) (L A : Option Addr) (m q : Nat) (l : List Int) (b : List UInt8) (p1 p2 p3 : Nat) (st1 st2 st3 : Option (List UInt8)) (w : World) : Prop where
  chg : Chg (fun _ => False) W w
  nums : Rds w (fun k => k < W.heap.size) L m (ics l)
  bytes : Rds w (fun k => k < W.heap.size) A q (bcs b)
  lo : W.heap.size ≤ p1
  r1 : Rd 61 true w p1 (fun k => W.heap.size ≤ k ∧ k < p1) st1
  r2 : Rd 61 true w p2 (fun k => p1 < k ∧ k < p2) st2
  r3 : Rd 61 true w p3 (fun k => p2 < k ∧ k < p3) st3
  o12 : p1 < p2
  o23 : p2 < p3

section
variable {W w : World} {L A : Option Addr} {m q : Nat} {l : List Int} {b : List UInt8} {p1 p2 p3 : Nat} {st1 st2 st3 st' : Option (List UInt8)}
theorem bb_cell {ad : Addr} {j : Nat} {x : Int} (h : BB W (some ad) A m q l b p1 p2 p3 st1 st2 st3 w) (hj : j < m) (hx : l[j]? = some x) : w.cell? (ad.add j) = some (.int .i64 x) := by
  obtain ⟨ad', e, _, _, hc⟩ := h.nums.cellAt hj
  injection e with e
  subst e
  rw [hc]
  simp [ics, hx]
theorem BB.drew (h : BB W L A m q l b p1 p2 p3 st1 st2 st3 w) : BB W L A m q l b p1 p2 p3 st1 st2 st3 w.drew := ⟨h.chg.drew, h.nums, h.bytes, h.lo, h.r1, h.r2, h.r3, h.o12, h.o23⟩
theorem BB.set1 {w' : World} (h : BB W L A m q l b p1 p2 p3 st1 st2 st3 w) (hr : Rd 61 true w' p1 (fun k => W.heap.size ≤ k ∧ k < p1) st') (hc : Chg (fun k => k = p1) w w') : BB W L A m q l b p1 p2 p3 st' st2 st3 w' := by
  have hlo := h.lo
  have h12 := h.o12
  have h23 := h.o23
  exact ⟨fresh_set h.chg hc hlo, h.nums.chg hc (fun k hk => by omega), h.bytes.chg hc (fun k hk => by omega), hlo, hr, h.r2.chg hc (by omega) (fun k hk => by omega), h.r3.chg hc (by omega) (fun k hk => by omega), h12, h23⟩
theorem BB.set2 {w' : World} (h : BB W L A m q l b p1 p2 p3 st1 st2 st3 w) (hr : Rd 61 true w' p2 (fun k => p1 < k ∧ k < p2) st') (hc : Chg (fun k => k = p2) w w') : BB W L A m q l b p1 p2 p3 st1 st' st3 w' := by
  have hlo := h.lo
  have h12 := h.o12
  have h23 := h.o23
  exact ⟨fresh_set h.chg hc (by omega), h.nums.chg hc (fun k hk => by omega), h.bytes.chg hc (fun k hk => by omega), hlo, h.r1.chg hc (by omega) (fun k hk => by omega), hr, h.r3.chg hc (by omega) (fun k hk => by omega), h12, h23⟩
theorem BB.set3 {w' : World} (h : BB W L A m q l b p1 p2 p3 st1 st2 st3 w) (hr : Rd 61 true w' p3 (fun k => p2 < k ∧ k < p3) st') (hc : Chg (fun k => k = p3) w w') : BB W L A m q l b p1 p2 p3 st1 st2 st' w' := by
  have hlo := h.lo
  have h12 := h.o12
  have h23 := h.o23
  exact ⟨fresh_set h.chg hc (by omega), h.nums.chg hc (fun k hk => by omega), h.bytes.chg hc (fun k hk => by omega), hlo, h.r1.chg hc (by omega) (fun k hk => by omega), h.r2.chg hc (by omega) (fun k hk => by omega), hr, h12, h23⟩
theorem BB.new {w' : World} (h : BB W L A m q l b p1 p2 p3 st1 st2 st3 w) (hc : Chg (fun _ => False) w w') : BB W L A m q l b p1 p2 p3 st1 st2 st3 w' :=
  ⟨h.chg.trans hc (fun _ _ e => e), h.nums.chg hc (fun _ _ => id), h.bytes.chg hc (fun _ _ => id), h.lo, h.r1.chg hc id (fun _ _ => id), h.r2.chg hc id (fun _ _ => id), h.r3.chg hc id (fun _ _ => id), h.o12, h.o23⟩

theorem bb_get1 (h : BB W L A m q l b p1 p2 p3 st1 st2 st3 w) (n x : Int) (hx : getS n st1 = (x, st')) :
    Calls Try.prog 19 #[.pointer (some ⟨p1, 0, none⟩), .int .i64 n] w fun e w' => e = .returned (.int .i64 x) ∧ BB W L A m q l b p1 p2 p3 st' st2 st3 w' := by
  have hg := get_any p1 _ st1 n w h.r1
  rw [hx] at hg
  exact hg.mono fun e w' ⟨he, hr, hc⟩ => ⟨he, h.set1 hr hc⟩
theorem bb_get2 (h : BB W L A m q l b p1 p2 p3 st1 st2 st3 w) (n x : Int) (hx : getS n st2 = (x, st')) :
    Calls Try.prog 19 #[.pointer (some ⟨p2, 0, none⟩), .int .i64 n] w fun e w' => e = .returned (.int .i64 x) ∧ BB W L A m q l b p1 p2 p3 st1 st' st3 w' := by
  have hg := get_any p2 _ st2 n w h.r2
  rw [hx] at hg
  exact hg.mono fun e w' ⟨he, hr, hc⟩ => ⟨he, h.set2 hr hc⟩
theorem bb_get3 (h : BB W L A m q l b p1 p2 p3 st1 st2 st3 w) (n x : Int) (hx : getS n st3 = (x, st')) :
    Calls Try.prog 19 #[.pointer (some ⟨p3, 0, none⟩), .int .i64 n] w fun e w' => e = .returned (.int .i64 x) ∧ BB W L A m q l b p1 p2 p3 st1 st2 st' w' := by
  have hg := get_any p3 _ st3 n w h.r3
  rw [hx] at hg
  exact hg.mono fun e w' ⟨he, hr, hc⟩ => ⟨he, h.set3 hr hc⟩
/-- Blocks of the three readers themselves. -/
def P3 (p1 p2 p3 : Nat) (k : Nat) : Prop := k = p1 ∨ k = p2 ∨ k = p3
/-- The bytes of a slice, as they stand in a world. -/
def strOf (w : World) (A : Option Addr) (n : Nat) : ByteArray :=
  ⟨((List.range n).map fun j => match A.bind (fun a => w.cell? (a.add j)) with
    | some (.int _ x) => UInt8.ofNat x.toNat
    | _ => 0).toArray⟩
/-- A slice of bytes in a world, outside the readers themselves. -/
def Tk (w0 : World) (p1 p2 p3 : Nat) (A : Option Addr) (n : Nat) : Prop := ∃ s, Rds w0 (fun k => k < w0.heap.size ∧ ¬ P3 p1 p2 p3 k) A n (bcs s)
theorem strOf_rds {w : World} {S : Nat → Prop} {A : Option Addr} {n : Nat} {s : List UInt8} (h : Rds w S A n (bcs s)) : strOf w A n = ⟨s.toArray⟩ := by
  have hl : s.length = n := by have := h.1; rwa [bcs_len] at this
  unfold strOf
  congr 1
  congr 1
  refine List.ext_getElem (by simp [hl]) (fun j h1 h2 => ?_)
  have hj : j < n := by simpa using h1
  obtain ⟨ad, rfl, _, _, hc⟩ := h.cellAt hj
  rw [bcs_at s j h2] at hc
  simp [hc]
theorem Rds.back {w0 w' : World} {S S' : Nat → Prop} {n : Nat} {A : Option Addr} {xs : List Value} (h : Rds w' S A n xs) (hc : Chg S' w0 w') (hS : ∀ k, S k → k < w0.heap.size ∧ ¬ S' k) : Rds w0 S A n xs := by
  refine ⟨h.1, fun hn => ?_⟩
  obtain ⟨ad, e, hs, hb, hcell⟩ := h.2 hn
  obtain ⟨h1, h2⟩ := hS _ hs
  refine ⟨ad, e, hs, h1, fun j u hu => ?_⟩
  rw [← hcell j u hu]
  exact (World.cell?_of_block (by rw [block_add]; exact hc.block _ h1 h2)).symm
/-- BB, and since w0 only the readers themselves have turned. -/
structure BR (w0 W : World) (L A : Option Addr) (m q : Nat) (l : List Int) (b : List UInt8) (p1 p2 p3 : Nat) (st1 st2 st3 : Option (List UInt8)) (w : World) : Prop where
  bb : BB W L A m q l b p1 p2 p3 st1 st2 st3 w
  fix : Chg (P3 p1 p2 p3) w0 w
  has : p3 < w0.heap.size
variable {w0 : World}
theorem BR.can (h : BR w0 W L A m q l b p1 p2 p3 st1 st2 st3 w) (A1 : Option Addr) (n1 c1 : Nat) (ht : Tk w0 p1 p2 p3 A1 n1) :
    (convert 26 9 (.slice A1 n1 c1)).run Try.prog w = .ok (.string (strOf w0 A1 n1)) w := by
  obtain ⟨s, hr⟩ := ht
  rw [strOf_rds hr]
  exact conv_str 26 9 5 Try.underlying26 Try.underlying5 Try.underlying9 (hr.chg h.fix (fun k hk => hk.2))
theorem BR.start (h : BB W L A m q l b p1 p2 p3 st1 st2 st3 w) : BR w W L A m q l b p1 p2 p3 st1 st2 st3 w.drew := ⟨h.drew, (Chg.refl _ w).drew, h.r3.lt⟩
theorem tk_of (h : BR w0 W L A m q l b p1 p2 p3 st1 st2 st3 w) {S : Nat → Prop} {A1 : Option Addr} {n1 : Nat} {s : List UInt8} (hr : Rds w S A1 n1 (bcs s)) (hS : ∀ k, S k → k < p3 ∧ k ≠ p1 ∧ k ≠ p2) :
    Tk w0 p1 p2 p3 A1 n1 ∧ strOf w0 A1 n1 = ⟨s.toArray⟩ := by
  have hlt := h.has
  have hb := hr.back h.fix (fun k hk => by
    obtain ⟨h1, h2, h3⟩ := hS k hk
    exact ⟨by omega, by rintro (e | e | e) <;> omega⟩)
  exact ⟨⟨s, hb.mono (fun k hk => by
    obtain ⟨h1, h2, h3⟩ := hS k hk
    exact ⟨by omega, by rintro (e | e | e) <;> omega⟩)⟩, strOf_rds hb⟩
theorem BR.tkb (h : BR w0 W L A m q l b p1 p2 p3 st1 st2 st3 w) : Tk w0 p1 p2 p3 A q ∧ strOf w0 A q = ⟨b.toArray⟩ :=
  tk_of h h.bb.bytes (fun k hk => by have := h.bb.lo; have := h.bb.o12; have := h.bb.o23; omega)
def Takes (w0 W : World) (L A : Option Addr) (m q : Nat) (l : List Int) (b : List UInt8) (p1 p2 p3 : Nat) (st1 st2 st3 : Option (List UInt8)) (s : List UInt8) (e : Ending) (w' : World) : Prop :=
  ∃ A1 n1 c1, e = .returned (.slice A1 n1 c1) ∧ n1 = s.length ∧ Tk w0 p1 p2 p3 A1 n1 ∧ strOf w0 A1 n1 = ⟨s.toArray⟩ ∧ BR w0 W L A m q l b p1 p2 p3 st1 st2 st3 w'
theorem br_bytes1 (h : BR w0 W L A m q l b p1 p2 p3 st1 st2 st3 w) (n : Int) (s : List UInt8) (hx : bytesR n st1 = (s, st')) :
    Calls Try.prog 15 #[.pointer (some ⟨p1, 0, none⟩), .int .i64 n] w (Takes w0 W L A m q l b p1 p2 p3 st' st2 st3 s) := by
  have hg := rbytes_any p1 _ st1 n w h.bb.r1
  rw [hx] at hg
  refine hg.mono fun e w' ⟨A1, n1, c1, he, hn, _, _, hs, hr, hc⟩ => ?_
  have hB : BR w0 W L A m q l b p1 p2 p3 st' st2 st3 w' := ⟨h.bb.set1 hr hc, h.fix.trans hc (fun k _ e => .inl e), h.has⟩
  obtain ⟨t1, t2⟩ := tk_of hB hs (fun k hk => by have := h.bb.o12; have := h.bb.o23; omega)
  exact ⟨A1, n1, c1, he, hn, t1, t2, hB⟩
theorem br_bytes2 (h : BR w0 W L A m q l b p1 p2 p3 st1 st2 st3 w) (n : Int) (s : List UInt8) (hx : bytesR n st2 = (s, st')) :
    Calls Try.prog 15 #[.pointer (some ⟨p2, 0, none⟩), .int .i64 n] w (Takes w0 W L A m q l b p1 p2 p3 st1 st' st3 s) := by
  have hg := rbytes_any p2 _ st2 n w h.bb.r2
  rw [hx] at hg
  refine hg.mono fun e w' ⟨A1, n1, c1, he, hn, _, _, hs, hr, hc⟩ => ?_
  have hB : BR w0 W L A m q l b p1 p2 p3 st1 st' st3 w' := ⟨h.bb.set2 hr hc, h.fix.trans hc (fun k _ e => .inr (.inl e)), h.has⟩
  obtain ⟨t1, t2⟩ := tk_of hB hs (fun k hk => by have := h.bb.o12; have := h.bb.o23; omega)
  exact ⟨A1, n1, c1, he, hn, t1, t2, hB⟩
theorem br_bytes3 (h : BR w0 W L A m q l b p1 p2 p3 st1 st2 st3 w) (n : Int) (s : List UInt8) (hx : bytesR n st3 = (s, st')) :
    Calls Try.prog 15 #[.pointer (some ⟨p3, 0, none⟩), .int .i64 n] w (Takes w0 W L A m q l b p1 p2 p3 st1 st2 st' s) := by
  have hg := rbytes_any p3 _ st3 n w h.bb.r3
  rw [hx] at hg
  refine hg.mono fun e w' ⟨A1, n1, c1, he, hn, _, _, hs, hr, hc⟩ => ?_
  have hB : BR w0 W L A m q l b p1 p2 p3 st1 st2 st' w' := ⟨h.bb.set3 hr hc, h.fix.trans hc (fun k _ e => .inr (.inr e)), h.has⟩
  obtain ⟨t1, t2⟩ := tk_of hB hs (fun k hk => by have := h.bb.o12; have := h.bb.o23; omega)
  exact ⟨A1, n1, c1, he, hn, t1, t2, hB⟩
theorem br_done1 (h : BR w0 W L A m q l b p1 p2 p3 st1 st2 st3 w) (x : Int) (hx : doneS st1 = x) :
    Calls Try.prog 21 #[.pointer (some ⟨p1, 0, none⟩)] w fun e w' => e = .returned (.int .i64 x) ∧ BR w0 W L A m q l b p1 p2 p3 st1 st2 st3 w' := by
  have hg := rdone_any p1 _ st1 w h.bb.r1
  rw [hx] at hg
  exact hg.mono fun e w' ⟨he, hr⟩ => ⟨he, hr ▸ h⟩
theorem br_done2 (h : BR w0 W L A m q l b p1 p2 p3 st1 st2 st3 w) (x : Int) (hx : doneS st2 = x) :
    Calls Try.prog 21 #[.pointer (some ⟨p2, 0, none⟩)] w fun e w' => e = .returned (.int .i64 x) ∧ BR w0 W L A m q l b p1 p2 p3 st1 st2 st3 w' := by
  have hg := rdone_any p2 _ st2 w h.bb.r2
  rw [hx] at hg
  exact hg.mono fun e w' ⟨he, hr⟩ => ⟨he, hr ▸ h⟩
theorem br_done3 (h : BR w0 W L A m q l b p1 p2 p3 st1 st2 st3 w) (x : Int) (hx : doneS st3 = x) :
    Calls Try.prog 21 #[.pointer (some ⟨p3, 0, none⟩)] w fun e w' => e = .returned (.int .i64 x) ∧ BR w0 W L A m q l b p1 p2 p3 st1 st2 st3 w' := by
  have hg := rdone_any p3 _ st3 w h.bb.r3
  rw [hx] at hg
  exact hg.mono fun e w' ⟨he, hr⟩ => ⟨he, hr ▸ h⟩
theorem br_alive (h : BR w0 W L A m q l b p1 p2 p3 st1 st2 st3 w) :
    Calls Try.prog 7 #[] w fun e w' => e = .returned (.bool true) ∧ BR w0 W L A m q l b p1 p2 p3 st1 st2 st3 w' :=
  (alive_any w).mono fun _ _ ⟨he, hc⟩ => ⟨he, h.bb.new hc, h.fix.trans hc (fun _ _ e => e.elim), h.has⟩
end

end Go.Proofs.Ytplhhcooglaphaa
