/-
  Two sessions of a walk, all else apart from them. Walk: rutterlaw11.alive: true, whatever the world. No condition.
-/
import Derived.Test.YtbbjecjhkjjbkaaGq
import Derived.Lib.SmallJoins
import Derived.Test.YtbbjecjhkjjbkaaFc
namespace Go.Proofs.Ytbbjecjhkjjbkaa
open Go.RowKit
set_option linter.unusedVariables false
set_option linter.unusedSimpArgs false

/-- From w to w' none but the labelled has turned; what lay apart lies apart. -/
def Kt (B : Nat) (w w' : World) (f f' : Nat → Option Nat) : Prop := Chg (fun k => ∃ a, f a = some k) w w' ∧ ∀ k, Gf B f k → k < w.heap.size → Gf B f' k
theorem Kt.of {B : Nat} {w w' : World} {f f' : Nat → Option Nat} {a l : Nat} (h : Ren11 B w w' f f' a) (hc : Chg (fun k => f l = some k ∨ f (l + 1) = some k) w w') : Kt B w w' f f' :=
  ⟨hc.mono (fun k _ e => e.elim (fun e => ⟨_, e⟩) (fun e => ⟨_, e⟩)), h.ap⟩
theorem Kt.new {B : Nat} {w w' : World} {f : Nat → Option Nat} (hc : Chg (fun _ => False) w w') : Kt B w w' f f := ⟨hc.mono (fun _ _ e => e.elim), fun _ h _ => h⟩
theorem Kt.was {B : Nat} {W w w' : World} {f f' : Nat → Option Nat} (hk : Kt B w w' f f') (hf : FR B w f) (hB : B = W.heap.size) (h : Chg (fun _ => False) W w) : Chg (fun _ => False) W w' :=
  h.trans (S' := fun k => ∃ a, f a = some k) hk.1 (fun i hi e => by
    obtain ⟨a, e⟩ := e
    have := hf.lo a i e
    omega)
/-- A block of neither. -/
def KB (B : Nat) (w : World) (f : Nat → Option Nat) (v : Nat) (T : TypeId) (cs : Array Value) : Prop := Gf B f v ∧ Blk w v T cs
theorem KB.kept {B : Nat} {w w' : World} {f f' : Nat → Option Nat} {v : Nat} {T : TypeId} {cs : Array Value} (h : KB B w f v T cs) (hk : Kt B w w' f f') : KB B w' f' v T cs :=
  ⟨hk.2 v h.1 h.2.lt, h.2.chg hk.1 (fun ⟨a, e⟩ => h.1.2 a e)⟩
theorem KB.mk {B : Nat} {w : World} {f : Nat → Option Nat} (hf : FR B w f) (T : TypeId) (cs : Array Value) : KB B (w.alloc (.cells cs T)) f w.heap.size T cs := ⟨Gf.new hf (Nat.le_refl _), blk_new rfl⟩
/-- Bytes of neither. -/
def KR (B : Nat) (w : World) (f : Nat → Option Nat) (A : Option Addr) (l : List UInt8) : Prop := Rds w (fun k => Gf B f k ∧ k < w.heap.size) A l.length (bcs l)
theorem KR.kept {B : Nat} {w w' : World} {f f' : Nat → Option Nat} {A : Option Addr} {l : List UInt8} (h : KR B w f A l) (hk : Kt B w w' f f') : KR B w' f' A l :=
  (Rds.chg h hk.1 (fun k hk2 ⟨a, e⟩ => hk2.1.2 a e)).mono (fun k h2 => ⟨hk.2 k h2.1 h2.2, Nat.lt_of_lt_of_le h2.2 hk.1.size⟩)
/-- A letter at block g, of neither. -/
def KL (B : Nat) (w : World) (f : Nat → Option Nat) (g : Nat) (l : LV) (E : Option Addr) (d : Nat) : Prop :=
  Gf B f g ∧ g < w.heap.size ∧ (w.cell? ⟨g, 0, none⟩ = some (.int .i64 l.mi) ∧ w.cell? ⟨g, 1, none⟩ = some (.int .i64 l.pe) ∧ w.cell? ⟨g, 2, none⟩ = some (.int .i64 l.ac) ∧ w.cell? ⟨g, 3, none⟩ = some (.int .i64 l.se) ∧ w.cell? ⟨g, 4, none⟩ = some (.slice E l.b.length d)) ∧ (E = none → d = 0) ∧ KR B w f E l.b
theorem KL.kept {B : Nat} {w w' : World} {f f' : Nat → Option Nat} {g : Nat} {l : LV} {E : Option Addr} {d : Nat} (h : KL B w f g l E d) (hk : Kt B w w' f f') : KL B w' f' g l E d := by
  obtain ⟨h1, h2, ⟨c0, c1, c2, c3, c4⟩, h4, h5⟩ := h
  have hn : ¬ ∃ a, f a = some g := fun ⟨a, e⟩ => h1.2 a e
  exact ⟨hk.2 g h1 h2, Nat.lt_of_lt_of_le h2 hk.1.size, ⟨(hk.1.cell h2 hn).trans c0, (hk.1.cell h2 hn).trans c1, (hk.1.cell h2 hn).trans c2, (hk.1.cell h2 hn).trans c3, (hk.1.cell h2 hn).trans c4⟩, h4, h5.kept hk⟩

/-- Both sessions. -/
structure AW (B : Nat) (w : World) (f : Nat → Option Nat) (p q : Nat) (x y : SV) : Prop where
  fr : FR B w f
  a : SL B w f 0 p x
  b : SL B w f 2 q y
section
variable {B : Nat} {w w' : World} {f f' : Nat → Option Nat} {p q : Nat} {x y : SV}
theorem AW.new (h : AW B w f p q x y) (hc : Chg (fun _ => False) w w') : AW B w' f p q x y := ⟨h.fr.size hc.size, h.a.new hc, h.b.new hc⟩
/-- A call on the first one. -/
theorem AW.onA {x' : SV} (h : AW B w f p q x y) (hr : Ren11 B w w' f f' 1) (hs : SL B w' f' 0 p x') (hc : Chg (fun k => f 0 = some k ∨ f (0 + 1) = some k) w w') : AW B w' f' p q x' y ∧ Kt B w w' f f' :=
  ⟨⟨hr.fr, hs, h.b.keep hr hc (fun k hk => Ren11.gone h.fr hk (by omega) (by omega)) (fun k hk => Ren11.gone h.fr hk (by omega) (by omega)) (fun k hk _ => hk.gone) (by omega) (by omega)⟩, Kt.of hr hc⟩
theorem AW.onB {y' : SV} (h : AW B w f p q x y) (hr : Ren11 B w w' f f' 3) (hs : SL B w' f' 2 q y') (hc : Chg (fun k => f 2 = some k ∨ f (2 + 1) = some k) w w') : AW B w' f' p q x y' ∧ Kt B w w' f f' :=
  ⟨⟨hr.fr, h.a.keep hr hc (fun k hk => Ren11.gone h.fr hk (by omega) (by omega)) (fun k hk => Ren11.gone h.fr hk (by omega) (by omega)) (fun k hk _ => hk.gone) (by omega) (by omega), hs⟩, Kt.of hr hc⟩
/-- What Out hands back, of one letter. -/
def Out1 (B : Nat) (w : World) (f : Nat → Option Nat) (p q : Nat) (x y : SV) (l : LV) (e : Ending) (w' : World) : Prop :=
  ∃ g E c d, e = .returned (.slice (some ⟨g, 0, none⟩) 1 c) ∧ AW B w' f p q x y ∧ KL B w' f g l E d ∧ Kt B w w' f f
theorem out1_of {z : SV} {l : LV} {e : Ending} (h : AW B w f p q x y) (ho : outS z = [l]) (hp : OutP z w e w') : Out1 B w f p q x y l e w' := by
  obtain ⟨A, n, c, ys, rfl, hn, hown, hl, hc⟩ := hp
  rw [ho] at hn hl
  have hn : n = 1 := hn
  obtain ⟨g, E, d, rfl, h1, h2, h3, h4, h5⟩ := one_letter hown hl hn
  subst hn
  exact ⟨g, E, c, d, rfl, h.new hc, ⟨Gf.new h.fr h1, h2, h3, h4, h5.old.mono (fun k hk => ⟨Gf.new h.fr hk.1.1, hk.2⟩)⟩, Kt.new hc⟩
theorem aw_out_a (h : AW B w f p q x y) (hok : SOk x) {l : LV} (ho : outS x = [l]) : Calls Try.prog 22 #[.pointer (some ⟨p, 0, none⟩)] w (Out1 B w f p q x y l) :=
  (sout_any p (f 1) _ x w h.a.2 hok).mono (fun e w' hp => out1_of h ho hp)
theorem aw_out_b (h : AW B w f p q x y) (hok : SOk y) {l : LV} (ho : outS y = [l]) : Calls Try.prog 22 #[.pointer (some ⟨q, 0, none⟩)] w (Out1 B w f p q x y l) :=
  (sout_any q (f 3) _ y w h.b.2 hok).mono (fun e w' hp => out1_of h ho hp)
/-- What Take hands back. -/
def Take1 (B : Nat) (w : World) (f : Nat → Option Nat) (p q : Nat) (x y : SV) (b : List UInt8) (n : Nat) (got res : Bool) (e : Ending) (w' : World) : Prop :=
  ∃ f' A c, e = .returned (.tuple #[.agg #[.slice A n c, .bool got, .bool res], .int .i64 0]) ∧ AW B w' f' p q x y ∧ KR B w' f' A b ∧ Kt B w w' f f'
theorem aw_take_a (h : AW B w f p q x y) (hok : SOk x) {g : Nat} {l : LV} {E : Option Addr} {d : Nat} (hk : KL B w f g l E d) {m : Nat} (hlm : l.b.length = m) (hm : m ≤ 1000) {x' : SV} {b : List UInt8} {n : Nat} {got res : Bool} (h1 : tkS x l = x') (h2 : tkB x l = b) (h3 : tkGot x l = got) (h4 : tkRes x l = res) (h5 : tkE x l = 0) (h6 : b.length = n) :
    Calls Try.prog 20 #[.pointer (some ⟨p, 0, none⟩), .agg #[.int .i64 l.mi, .int .i64 l.pe, .int .i64 l.ac, .int .i64 l.se, .slice E m d]] w (Take1 B w f p q x' y b n got res) := by
  have hr : Rds w (fun k => Gf B f k ∧ k < w.heap.size) E l.b.length (bcs l.b) := hk.2.2.2.2
  subst hlm
  refine (stake_any p (f 1) _ x l E _ d _ w h.a.2 hok rfl hr hk.2.2.2.1 (by omega) (fun e => e.1.2 0 h.a.1) (fun k hk e => e.1.2 1 hk)).mono ?_
  rintro e w' hp
  unfold TakeP TkR at hp
  rw [h1, h2, h3, h4, h5] at hp
  subst h6
  obtain ⟨A, c, rfl, _, hrd, hq⟩ := hp
  obtain ⟨f', hr, hs, hc, hn⟩ := SL.take h.fr h.a.1 hq
  obtain ⟨g1, g2⟩ := h.onA hr hs hc
  exact ⟨f', A, c, rfl, g1, hrd.old.mono (fun k hk => ⟨hn k hk.1, hk.2⟩), g2⟩
theorem aw_take_b (h : AW B w f p q x y) (hok : SOk y) {g : Nat} {l : LV} {E : Option Addr} {d : Nat} (hk : KL B w f g l E d) {m : Nat} (hlm : l.b.length = m) (hm : m ≤ 1000) {y' : SV} {b : List UInt8} {n : Nat} {got res : Bool} (h1 : tkS y l = y') (h2 : tkB y l = b) (h3 : tkGot y l = got) (h4 : tkRes y l = res) (h5 : tkE y l = 0) (h6 : b.length = n) :
    Calls Try.prog 20 #[.pointer (some ⟨q, 0, none⟩), .agg #[.int .i64 l.mi, .int .i64 l.pe, .int .i64 l.ac, .int .i64 l.se, .slice E m d]] w (Take1 B w f p q x y' b n got res) := by
  have hr : Rds w (fun k => Gf B f k ∧ k < w.heap.size) E l.b.length (bcs l.b) := hk.2.2.2.2
  subst hlm
  refine (stake_any q (f 3) _ y l E _ d _ w h.b.2 hok rfl hr hk.2.2.2.1 (by omega) (fun e => e.1.2 2 h.b.1) (fun k hk e => e.1.2 3 hk)).mono ?_
  rintro e w' hp
  unfold TakeP TkR at hp
  rw [h1, h2, h3, h4, h5] at hp
  subst h6
  obtain ⟨A, c, rfl, _, hrd, hq⟩ := hp
  obtain ⟨f', hr, hs, hc, hn⟩ := SL.take h.fr h.b.1 hq
  obtain ⟨g1, g2⟩ := h.onB hr hs hc
  exact ⟨f', A, c, rfl, g1, hrd.old.mono (fun k hk => ⟨hn k hk.1, hk.2⟩), g2⟩
theorem aw_push_a (h : AW B w f p q x y) (hq : x.q.length ≤ 64) {E : Option Addr} {d n : Nat} {b : List UInt8} {S : Nat → Prop} (hr : Rds w S E n (bcs b)) (hn : n = b.length) (hz : E = none → d = 0) (hm : n ≤ 1000) {x' : SV} {er : Int} (h1 : pushS x b = x') (h2 : pushE x b = er) :
    Calls Try.prog 21 #[.pointer (some ⟨p, 0, none⟩), .slice E n d] w fun e w' => ∃ f', e = .returned (.int .i64 er) ∧ AW B w' f' p q x' y ∧ Kt B w w' f f' := by
  refine (spush_any p (f 1) _ x E n d b _ w h.a.2 hq hn hr hz (by omega)).mono ?_
  rintro e w' hp
  unfold PushP at hp
  rw [h1, h2] at hp
  obtain ⟨rfl, hs⟩ := hp
  obtain ⟨f', hr, hs, hc⟩ := SL.call h.fr h.a.1 hs
  obtain ⟨g1, g2⟩ := h.onA hr hs hc
  exact ⟨f', rfl, g1, g2⟩
end
/-- A new session's cells. -/
theorem sn_new {w : World} {p : Nat} {mi : Int} {G : Nat → Prop} (hb : Blk w p 92 (snC mi 0 none 0 0 1 0)) (hG : ¬ G p) : SN w p none G ⟨mi, 0, 1, 0, []⟩ :=
  ⟨none, 0, [], hb, World.ownsRow_nil _ _ _ _, rfl, by simp, BQ.nil _ _, hG, fun k hk => by cases hk⟩
/-- A new session under a label. -/
theorem sl_new {B : Nat} {w w' : World} {f : Nat → Option Nat} {p l : Nat} {mi : Int} (h : FR B w f) (hp : w.heap.size ≤ p) (hb : Blk w' p 92 (snC mi 0 none 0 0 1 0)) (hc : Chg (fun _ => False) w w') (hl : f (l + 1) = none) :
    ∃ f', Ren11 B w w' f f' l ∧ SL B w' f' l p ⟨mi, 0, 1, 0, []⟩ := by
  obtain ⟨f', h1, h2, h3⟩ := FR.add (a := l) h hc.size hp hb.lt
  refine ⟨f', h1, h2, ?_⟩
  rw [h1.eq (l + 1) (by omega), hl]
  exact sn_new hb (fun e => e.2 l h2)
theorem new_ok {mi : Int} {w w' : World} {e : Ending} (h : NewSP mi w e w') (hm : withinB 1 4294967296 [mi] = true) : ∃ p, e = .returned (.tuple #[.pointer (some ⟨p, 0, none⟩), .int .i64 0]) ∧ w.heap.size ≤ p ∧ Blk w' p 92 (snC mi 0 none 0 0 1 0) ∧ Chg (fun _ => False) w w' := by
  unfold NewSP at h
  rwa [if_pos hm] at h
theorem aw_new2 {w w1 w2 : World} {p q : Nat} {m n : Int} (hp : w.heap.size ≤ p) (hb : Blk w1 p 92 (snC m 0 none 0 0 1 0)) (hc : Chg (fun _ => False) w w1) (hq : w1.heap.size ≤ q) (hb2 : Blk w2 q 92 (snC n 0 none 0 0 1 0)) (hc2 : Chg (fun _ => False) w1 w2) :
    ∃ f, AW w.heap.size w2 f p q ⟨m, 0, 1, 0, []⟩ ⟨n, 0, 1, 0, []⟩ := by
  obtain ⟨f1, h1, h2⟩ := sl_new (l := 0) (FR.none (Nat.le_refl _)) hp hb hc rfl
  have h3 : f1 3 = none := h1.eq 3 (by omega)
  obtain ⟨f2, g1, g2⟩ := sl_new (l := 2) h1.fr hq hb2 hc2 h3
  exact ⟨f2, g1.fr, h2.keep g1 hc2 (fun _ _ => id) (fun _ _ => id) (fun _ _ _ => id) (by omega) (by omega), g2⟩

def hi11 : List UInt8 := [104, 105]
theorem sok_nil (m p g : Int) (h : 0 ≤ g) (h2 : g ≤ 100) : SOk ⟨m, p, 1, g, []⟩ := ⟨by show 0 ≤ 64; omega, fun b hb => by simp at hb, ⟨by show (0 : Int) ≤ 1; omega, by show (1 : Int) ≤ 1000000000000000; omega⟩, ⟨h, by show g ≤ 1099511627776; omega⟩⟩
theorem sok_hi (m p g : Int) (h : 0 ≤ g) (h2 : g ≤ 100) : SOk ⟨m, p, 1, g, [hi11]⟩ := ⟨by show 1 ≤ 64; omega, fun b hb => by
  rw [List.mem_singleton.1 hb]
  exact ⟨by decide, by decide⟩, ⟨by show (0 : Int) ≤ 1; omega, by show (1 : Int) ≤ 1000000000000000; omega⟩, ⟨h, by show g ≤ 1099511627776; omega⟩⟩

set_option maxRecDepth 100000 in
set_option maxHeartbeats 4000000 in
theorem alive11_any (w : World) : Calls Try.prog 6 #[] w fun e w' => e = .returned (.bool true) ∧ Chg (fun _ => False) w w' := by
  have HC0 := Lib.hid (Chg.refl (fun _ => False) w)
  go_enter Try.func6, Try.ntmps6
  go_wp2_with fail
  refine (snew11_any 5 _).mono ?_
  rintro e w1 hnp
  obtain ⟨p, rfl, hp, hb, hc⟩ := new_ok hnp (by decide)
  have HB1 := Lib.hid hb
  have HP1 := Lib.hid hp
  have HC1 := Lib.hid hc
  clear hnp hp hb hc
  go_wp2_with fail
  refine (snew11_any 7 _).mono ?_
  rintro e w2 hnp
  obtain ⟨q, rfl, hq, hb, hc⟩ := new_ok hnp (by decide)
  obtain ⟨f2, hw⟩ := aw_new2 HP1.out HB1.out HC1.out hq hb hc
  have HC2 := Lib.hid (HC1.out.trans hc (fun _ _ e => e))
  have HW := Lib.hid hw
  have HA := Lib.hid (aw_out_a hw (sok_nil _ _ _ (by decide) (by decide)) (l := ⟨5, 0, 0, 0, []⟩) rfl)
  clear hnp hq hb hc hw HB1 HP1
  go_wp2_with fail
  refine HA.out.mono ?_
  rintro e w3 ⟨g1, E1, c1, d1, rfl, hw, hl, hk⟩
  have HC3 := Lib.hid (hk.was HW.out.fr rfl HC2.out)
  replace HW := Lib.hid hw
  obtain ⟨y0, y1, y2, y3, y4⟩ := hl.2.2.1
  have HT := Lib.hid (aw_take_b hw (sok_nil _ _ _ (by decide) (by decide)) hl (m := 0) rfl (by decide) (y' := ⟨7, 5, 1, 0, []⟩) (b := []) (n := 0) (got := false) (res := true) rfl rfl rfl rfl rfl rfl)
  clear hw hl hk HA HC2
  go_wp2_with fail
  refine HT.out.mono ?_
  rintro e w4 ⟨f4, A4, c4, rfl, hw, hr, hk⟩
  have HR4 := Lib.hid hr
  have HC4 := Lib.hid ((hk.was HW.out.fr rfl HC3.out).alloc (.cells #[.slice A4 0 c4, .bool false, .bool true] 55))
  replace HW := Lib.hid hw
  clear hw hk hr
  have hc := (Chg.refl (fun _ => False) w4).alloc (.cells #[.slice A4 0 c4, .bool false, .bool true] 55)
  have hk := Kt.new (B := w.heap.size) (f := f4) hc
  have HB6 := Lib.hid (KB.mk HW.out.fr 55 #[.slice A4 0 c4, .bool false, .bool true])
  replace HR4 := Lib.hid (HR4.out.kept hk)
  replace HW := Lib.hid (HW.out.new hc)
  go_upto_region 9 with fail
  generalize hw_ : w4.alloc (.cells #[.slice A4 0 c4, .bool false, .bool true] 55) = W4 at *
  generalize hv_ : w4.heap.size = v6 at *
  clear hw_ hv_ hc hk HC3
  have HA := Lib.hid (aw_out_b HW.out (sok_nil _ _ _ (by decide) (by decide)) (l := ⟨7, 5, 0, 0, []⟩) rfl)
  clear y0 y1 y2 y3 y4 HT
  go_wp2_with fail
  refine HA.out.mono ?_
  rintro e w5 ⟨g2, E2, c2, d2, rfl, hw, hl, hk⟩
  have HC5 := Lib.hid (hk.was HW.out.fr rfl HC4.out)
  replace HB6 := Lib.hid (HB6.out.kept hk)
  replace HW := Lib.hid hw
  obtain ⟨y0, y1, y2, y3, y4⟩ := hl.2.2.1
  have HT := Lib.hid (aw_take_a hw (sok_nil _ _ _ (by decide) (by decide)) hl (m := 0) rfl (by decide) (x' := ⟨5, 7, 1, 0, []⟩) (b := []) (n := 0) (got := false) (res := true) rfl rfl rfl rfl rfl rfl)
  clear hw hl hk HA HC4
  go_wp2_with fail
  refine HT.out.mono ?_
  rintro e w6 ⟨f6, A6, c6, rfl, hw, hr, hk⟩
  have HR6 := Lib.hid hr
  have HC6 := Lib.hid ((hk.was HW.out.fr rfl HC5.out).alloc (.cells #[.slice A6 0 c6, .bool false, .bool true] 55))
  replace HB6 := Lib.hid (HB6.out.kept hk)
  replace HW := Lib.hid hw
  clear hw hk hr
  have hc := (Chg.refl (fun _ => False) w6).alloc (.cells #[.slice A6 0 c6, .bool false, .bool true] 55)
  have hk := Kt.new (B := w.heap.size) (f := f6) hc
  have HB9 := Lib.hid (KB.mk HW.out.fr 55 #[.slice A6 0 c6, .bool false, .bool true])
  replace HB6 := Lib.hid (HB6.out.kept hk)
  replace HR6 := Lib.hid (HR6.out.kept hk)
  replace HW := Lib.hid (HW.out.new hc)
  go_upto_region 13 with fail
  generalize hw_ : w6.alloc (.cells #[.slice A6 0 c6, .bool false, .bool true] 55) = W6 at *
  generalize hv_ : w6.heap.size = v9 at *
  clear hw_ hv_ hc hk HC5
  have kc := Go.Joins.run_convert_bytes_const_at (P := Try.prog) W6 22 5 #[.int .u8 104, .int .u8 105] 2 2 W6.heap.size rfl Try.underlying22 Try.underlying5
  have hri := rds_new1 W6 5 #[.int .u8 104, .int .u8 105] (2, 3) W6.heap.size rfl (bcs hi11) 2 rfl rfl
  have hc := (Chg.refl (fun _ => False) W6).alloc (.cells #[.int .u8 104, .int .u8 105] 5 (2, 3))
  have hk := Kt.new (B := w.heap.size) (f := f6) hc
  have HC7 := Lib.hid (hk.was HW.out.fr rfl HC6.out)
  replace HB6 := Lib.hid (HB6.out.kept hk)
  replace HB9 := Lib.hid (HB9.out.kept hk)
  replace HW := Lib.hid (HW.out.new hc)
  have HPU := Lib.hid (aw_push_a HW.out (by decide) (d := 2) hri rfl (fun e => nomatch e) (by decide) (x' := ⟨5, 7, 1, 0, [hi11]⟩) (er := 0) rfl rfl)
  clear hc hk hri HT HC6 y0 y1 y2 y3 y4
  go_wp2_with fail
  refine HPU.out.mono ?_
  rintro e w8 ⟨f8, rfl, hw, hk⟩
  have HC8 := Lib.hid (hk.was HW.out.fr rfl HC7.out)
  replace HB6 := Lib.hid (HB6.out.kept hk)
  replace HB9 := Lib.hid (HB9.out.kept hk)
  replace HW := Lib.hid hw
  have HA := Lib.hid (aw_out_a HW.out (sok_hi _ _ _ (by decide) (by decide)) (l := ⟨5, 7, 0, 1, hi11⟩) rfl)
  clear hw hk kc HPU HC7
  go_wp2_with fail
  refine HA.out.mono ?_
  rintro e w9 ⟨g3, E3, c3, d3, rfl, hw, hl, hk⟩
  have HC9 := Lib.hid (hk.was HW.out.fr rfl HC8.out)
  replace HB6 := Lib.hid (HB6.out.kept hk)
  replace HB9 := Lib.hid (HB9.out.kept hk)
  replace HW := Lib.hid hw
  have HL := Lib.hid hl
  obtain ⟨y0, y1, y2, y3, y4⟩ := hl.2.2.1
  have HT := Lib.hid (aw_take_b hw (sok_nil _ _ _ (by decide) (by decide)) hl (m := 2) rfl (by decide) (y' := ⟨7, 5, 1, 1, []⟩) (b := hi11) (n := 2) (got := true) (res := false) rfl rfl rfl rfl rfl rfl)
  clear hw hl hk HA HC8
  go_wp2_with fail
  refine HT.out.mono ?_
  rintro e w10 ⟨f10, A10, c10, rfl, hw, hr, hk⟩
  have HR10 := Lib.hid hr
  have HC10 := Lib.hid ((hk.was HW.out.fr rfl HC9.out).alloc (.cells #[.slice A10 2 c10, .bool true, .bool false] 55))
  replace HB6 := Lib.hid (HB6.out.kept hk)
  replace HB9 := Lib.hid (HB9.out.kept hk)
  replace HL := Lib.hid (HL.out.kept hk)
  replace HW := Lib.hid hw
  clear hw hk hr
  have hc := (Chg.refl (fun _ => False) w10).alloc (.cells #[.slice A10 2 c10, .bool true, .bool false] 55)
  have hk := Kt.new (B := w.heap.size) (f := f10) hc
  have HB13 := Lib.hid (KB.mk HW.out.fr 55 #[.slice A10 2 c10, .bool true, .bool false])
  replace HB6 := Lib.hid (HB6.out.kept hk)
  replace HB9 := Lib.hid (HB9.out.kept hk)
  replace HL := Lib.hid (HL.out.kept hk)
  replace HR10 := Lib.hid (HR10.out.kept hk)
  replace HW := Lib.hid (HW.out.new hc)
  obtain ⟨z0, z1, z2, z3, z4⟩ := HL.out.2.2.1
  have HT := Lib.hid (aw_take_b HW.out (sok_nil _ _ _ (by decide) (by decide)) HL.out (m := 2) rfl (by decide) (y' := ⟨7, 5, 1, 1, []⟩) (b := []) (n := 0) (got := false) (res := false) rfl rfl rfl rfl rfl rfl)
  clear y0 y1 y2 y3 y4
  go_wp2_with fail
  generalize hw_ : w10.alloc (.cells #[.slice A10 2 c10, .bool true, .bool false] 55) = W10 at *
  generalize hv_ : w10.heap.size = v13 at *
  clear hw_ hv_ hc hk HC9
  clear z0 z1 z2 z3 z4
  refine HT.out.mono ?_
  rintro e w11 ⟨f11, A11, c11, rfl, hw, hr, hk⟩
  have HR11 := Lib.hid hr
  have HC11 := Lib.hid ((hk.was HW.out.fr rfl HC10.out).alloc (.cells #[.slice A11 0 c11, .bool false, .bool false] 55))
  replace HB6 := Lib.hid (HB6.out.kept hk)
  replace HB9 := Lib.hid (HB9.out.kept hk)
  replace HB13 := Lib.hid (HB13.out.kept hk)
  replace HL := Lib.hid (HL.out.kept hk)
  replace HR10 := Lib.hid (HR10.out.kept hk)
  replace HW := Lib.hid hw
  clear hw hk hr
  have hc := (Chg.refl (fun _ => False) w11).alloc (.cells #[.slice A11 0 c11, .bool false, .bool false] 55)
  have hk := Kt.new (B := w.heap.size) (f := f11) hc
  have HB15 := Lib.hid (KB.mk HW.out.fr 55 #[.slice A11 0 c11, .bool false, .bool false])
  replace HB6 := Lib.hid (HB6.out.kept hk)
  replace HB9 := Lib.hid (HB9.out.kept hk)
  replace HB13 := Lib.hid (HB13.out.kept hk)
  replace HL := Lib.hid (HL.out.kept hk)
  replace HR10 := Lib.hid (HR10.out.kept hk)
  replace HR11 := Lib.hid (HR11.out.kept hk)
  replace HW := Lib.hid (HW.out.new hc)
  have s1 := conv_any (A := A10) (n := 2) (c := c10) (l := [104, 105]) (show Rds _ _ A10 2 (bcs [104, 105]) from HR10.out)
  obtain ⟨z0, z1, z2, z3, z4⟩ := HL.out.2.2.1
  obtain ⟨a0, a1, a2⟩ := tk_cells HB6.out.2
  obtain ⟨b0, b1, b2⟩ := tk_cells HB9.out.2
  obtain ⟨i0, i1, i2⟩ := tk_cells HB13.out.2
  obtain ⟨j0, j1, j2⟩ := tk_cells HB15.out.2
  have HLN := Lib.hid (slen_any p _ _ _ _ HW.out.a.2)
  have HPE := Lib.hid (speer_any q _ _ _ _ HW.out.b.2)
  go_wp2_with fail
  refine HLN.out.mono ?_
  rintro e w12 ⟨rfl, rfl⟩
  go_wp2_with fail
  refine HPE.out.mono ?_
  rintro e w12 ⟨rfl, rfl⟩
  go_wp2_with fail
  go_ret
  exact ⟨rfl, HC11.out⟩

end Go.Proofs.Ytbbjecjhkjjbkaa
