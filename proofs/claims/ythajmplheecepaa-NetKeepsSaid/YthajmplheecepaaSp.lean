/-
  Both nets; what always holds. Walks: rutterlaw18.Fits, alive. Conditions: the acts are read in memory.
-/
import Derived.Test.YthajmplheecepaaSo
namespace Go.Proofs.Ythajmplheecepaa
open Go.RowKit
set_option linter.unusedVariables false
set_option linter.unusedSimpArgs false
attribute [local go_sem] Oper.semAt_some

/-- The world of a walk that began in W: nothing of W has turned; a net at p, the document's at q. -/
def TN18 (W : World) (p q : Nat) (x y : NV18) (w : World) : Prop := Chg (fun _ => False) W w ∧ ∃ o1 o2, NN w W.heap.size p o1 x ∧ DN w W.heap.size q o2 y
section
variable {W w w' : World} {p q : Nat} {x y x' y' : NV18} {o1 o2 o' : Option Nat}
theorem chg_mvd18 (hW : Chg (fun _ => False) W w) (hp : W.heap.size ≤ p) (ho : ∀ k, o1 = some k → W.heap.size ≤ k) (hm : Mvd p o1 o' w w') : Chg (fun _ => False) W w' := (fresh_mvd hW hm hp ho).1
theorem NN.keepD {b : Nat} (h : NN w b p o1 x) (h2 : DN w b q o2 y) (hm : Mvd p o1 o' w w') : DN w' b q o2 y := by
  have hh := h2
  obtain ⟨A, n, c, hb, ho, hn, hA, hbq⟩ := hh
  refine h2.chg hm.1 (h.ne hb (by decide) (by decide)) (fun k hk => ?_)
  rw [hk] at hA
  obtain ⟨cs, hh⟩ := own_ty18 ho hA
  exact h.ne hh (by decide) (by decide)
theorem DN.keepN {b : Nat} (h : NN w b p o1 x) (h2 : DN w b q o2 y) (hm : Mvd q o2 o' w w') : NN w' b p o1 x := by
  have hh := h
  obtain ⟨A, n, c, l, hb, ho, hn, hA, hi, hbq⟩ := hh
  refine h.chg hm.1 (h2.ne hb (by decide) (by decide)) (fun k hk => ?_) (fun k cs fr hk => h2.ne hk (by decide) (by decide))
  rw [hk] at hA
  obtain ⟨cs, hh⟩ := own_ty18 ho hA
  exact h2.ne hh (by decide) (by decide)
theorem TN18.set1 (hW : Chg (fun _ => False) W w) (h1 : NN w W.heap.size p o1 x) (h2 : DN w W.heap.size q o2 y) (hn : NN w' W.heap.size p o' x') (hm : Mvd p o1 o' w w') : Chg (fun _ => False) W w' ∧ NN w' W.heap.size p o' x' ∧ DN w' W.heap.size q o2 y :=
  ⟨chg_mvd18 hW h1.lt.1.1 (fun k hk => (h1.lt.2 k hk).1) hm, hn, h1.keepD h2 hm⟩
theorem TN18.set2 (hW : Chg (fun _ => False) W w) (h1 : NN w W.heap.size p o1 x) (h2 : DN w W.heap.size q o2 y) (hn : DN w' W.heap.size q o' y') (hm : Mvd q o2 o' w w') : TN18 W p q x y' w' :=
  ⟨chg_mvd18 hW h2.lt.1.1 (fun k hk => (h2.lt.2 k hk).1) hm, o1, o', h2.keepN h1 hm, hn⟩
theorem TN18.new (h : TN18 W p q x y w) (hc : Chg (fun _ => False) w w') : TN18 W p q x y w' := by
  obtain ⟨h1, o1, o2, h2, h3⟩ := h
  exact ⟨h1.trans hc (fun _ _ e => e), o1, o2, h2.new hc, h3.new hc⟩
end
/-- What always holds of a net: no more is there than there is room for, all may be; no more than k were lost. -/
structure GN18 (r k : Int) (x : NV18) : Prop where
  room : x.room = r
  lost : 0 ≤ x.lost ∧ x.lost ≤ k
  len : (x.l.length : Int) ≤ r
  ok : ∀ t ∈ x.l, okI18 t = true
theorem GN18.puts {r : Int} : ∀ (ts : List IT18) (x : NV18), x.room = r → (x.l.length : Int) ≤ r → (∀ t ∈ x.l, okI18 t = true) → ((puts18 x ts).l.length : Int) ≤ r ∧ ∀ t ∈ (puts18 x ts).l, okI18 t = true
  | [], x, _, h2, h3 => ⟨h2, h3⟩
  | t :: ts, x, h1, h2, h3 => by
    have e : puts18 x (t :: ts) = puts18 (put18 x t) ts := rfl
    rw [e]
    cases hin : inI18 x t
    · have e2 : put18 x t = x := by unfold put18; rw [hin]; rfl
      rw [e2]
      exact GN18.puts ts x h1 h2 h3
    · have e2 : put18 x t = { x with l := x.l ++ [t] } := by unfold put18; rw [hin]; rfl
      rw [e2]
      unfold inI18 at hin
      simp only [Bool.and_eq_true, decide_eq_true_eq] at hin
      refine GN18.puts ts _ h1 ?_ ?_
      · simp only [List.length_append, List.length_singleton]
        omega
      · intro u hu
        rcases List.mem_append.1 hu with hu | hu
        · exact h3 u hu
        · rw [List.mem_singleton] at hu
          rw [hu]
          exact hin.1
section
variable {r k : Int} {x : NV18}
theorem GN18.put (h : GN18 r k x) (ts : List IT18) : GN18 r (k + (ts.length : Int)) (netP18 x ts) := by
  obtain ⟨h1, h2⟩ := GN18.puts ts x h.room h.len h.ok
  have h3 := came18_le x ts
  have h4 := h.lost
  refine ⟨h.room, ?_, h1, h2⟩
  unfold netP18
  simp only
  omega
theorem GN18.take (h : GN18 r k x) (i : Int) : GN18 r k (tak18 x i) := by
  unfold tak18
  split
  · refine ⟨h.room, h.lost, ?_, fun t ht => ?_⟩
    · have := h.len
      simp
      omega
    · rcases List.mem_append.1 ht with ht | ht
      · exact h.ok t (List.mem_of_mem_take ht)
      · exact h.ok t (List.mem_of_mem_drop ht)
  · exact h
theorem GN18.dbl (h : GN18 r k x) (i : Int) : GN18 r k (dblS x i) := by
  unfold dblS
  split
  · exact h
  · next t ht =>
    split
    · next hc =>
      refine ⟨h.room, h.lost, ?_, fun u hu => ?_⟩
      · have := h.room
        simp only [List.length_append, List.length_singleton]
        omega
      · rcases List.mem_append.1 hu with hu | hu
        · exact h.ok u hu
        · rw [List.mem_singleton] at hu
          rw [hu]
          exact h.ok t (List.mem_of_getElem? ht)
    · exact h
theorem GN18.more (h : GN18 r k x) {k' : Int} (hk : k ≤ k') : GN18 r k' x := ⟨h.room, ⟨h.lost.1, by have := h.lost; omega⟩, h.len, h.ok⟩
end
/-- An act as it is read. -/
structure At18 where
  k : Int
  L : Option Addr
  m : Nat
  c : Nat
  l : List AI18
  n : Int
/-- A slice of acts, of three cells each, each one's items too. -/
def AR18 (w : World) (S : Nat → Prop) (L : Option Addr) (m : Nat) (l : List At18) : Prop :=
  m = l.length ∧ (0 < m → ∃ ad, L = some ad ∧ S ad.block ∧ ad.block < w.heap.size ∧ ∀ (i : Nat) (x : At18), l[i]? = some x →
    w.cell? (ad.add (i * 3)) = some (.int .u8 x.k) ∧ w.cell? (ad.add (i * 3 + 1)) = some (.slice x.L x.m x.c) ∧ w.cell? (ad.add (i * 3 + 2)) = some (.int .i64 x.n) ∧
    (0 ≤ x.k ∧ x.k ≤ 255) ∧ x.m ≤ 9223372036854775807 ∧ (x.L = none → x.c = 0) ∧ IR18 w S x.L x.m x.l)
section
variable {w w' : World} {S S' : Nat → Prop} {L : Option Addr} {m : Nat} {l : List At18}
theorem AR18.chg (h : AR18 w S L m l) (hc : Chg S' w w') (hd : ∀ k, S k → ¬ S' k) : AR18 w' S L m l := by
  refine ⟨h.1, fun hm => ?_⟩
  obtain ⟨ad, e, hs, hb, hcell⟩ := h.2 hm
  refine ⟨ad, e, hs, Nat.lt_of_lt_of_le hb hc.size, fun i x hi => ?_⟩
  obtain ⟨h1, h2, h3, h4, h5, h6, h7⟩ := hcell i x hi
  have e1 : ∀ j, w'.cell? (ad.add j) = w.cell? (ad.add j) := fun j => World.cell?_of_block (w := w) (w' := w') (by rw [block_add]; exact hc.block _ hb (hd _ hs))
  rw [e1, e1, e1]
  exact ⟨h1, h2, h3, h4, h5, h6, h7.chg hc hd⟩
/-- The cells of an act, as the walk spells them. -/
theorem AR18.at {ad : Addr} {i : Nat} {x : At18} (h : AR18 w S (some ad) m l) (hi : l[i]? = some x) :
    w.cell? (ad.add (i * 3)) = some (.int .u8 x.k) ∧ w.cell? ⟨(ad.add (i * 3)).block, (ad.add (i * 3)).off + 1, none⟩ = some (.slice x.L x.m x.c) ∧ w.cell? ⟨(ad.add (i * 3)).block, (ad.add (i * 3)).off + 2, none⟩ = some (.int .i64 x.n) ∧
    (0 ≤ x.k ∧ x.k ≤ 255) ∧ x.m ≤ 9223372036854775807 ∧ (x.L = none → x.c = 0) ∧ IR18 w S x.L x.m x.l := by
  have hl : i < l.length := (List.getElem?_eq_some_iff.1 hi).1
  obtain ⟨ad', e, _, _, hc⟩ := h.2 (by have := h.1; omega)
  injection e with e
  subst e
  have h2 := hc i x hi
  rw [← off_add, ← off_add] at h2
  exact h2
end
/-- What Fits tells. -/
def FitsP18 (m : Nat) (l : List At18) (w : World) (e : Ending) (w' : World) : Prop := ∃ r : Bool, e = .returned (.bool r) ∧ (r = true → m ≤ 100 ∧ ∀ (i : Nat) (x : At18), l[i]? = some x → x.m ≤ 100) ∧ w = w'
set_option maxRecDepth 100000 in
set_option maxHeartbeats 4000000 in
theorem fits18_any (L : Option Addr) (m lc : Nat) (l : List At18) (w : World) (S : Nat → Prop) (h : AR18 w S L m l) (hmc : m ≤ 9223372036854775807) : Calls Try.prog 5 #[.slice L m lc] w (FitsP18 m l w) := by
  go_enter Try.func5, Try.ntmps5
  go_wp2_with fail
  go_loopg [3, 4, 5] m (fun g s3 s4 s5 wr => ∃ (j n : Nat), g = m - j ∧ j ≤ m ∧ j ≤ 101 ∧ s4 = .int .i64 (j : Int) ∧ s3 = .int .i64 (n : Int) ∧ n ≤ 101 * j ∧ Hid (∀ (i : Nat) (x : At18), i < j → l[i]? = some x → x.m ≤ n ∨ 101 ≤ n) ∧ w = wr)
  case atStart => exact ⟨0, 0, rfl, Nat.zero_le _, Nat.zero_le _, rfl, rfl, Nat.le_refl _, fun i x hi => absurd hi (by omega), rfl⟩
  case round =>
    obtain ⟨j, n, rfl, hj, hj2, rfl, rfl, hn, HF, rfl⟩ := hrel
    by_cases hlt : j < m
    · by_cases hlt2 : j ≤ 100
      · obtain ⟨ad, rfl, _, _, _⟩ := h.2 (by omega)
        have hjl : j < l.length := by have := h.1; omega
        have hx : l[j]? = some l[j] := List.getElem?_eq_getElem hjl
        generalize l[j] = x at *
        obtain ⟨z0, z1, z2, -, hxm, -, hir⟩ := h.at hx
        have HX := Lib.hid hx
        have HIR := Lib.hid hir
        clear hx hir z0 z2
        go_wp2_with fail
        go_loopg [3, 5] x.m (fun g s3 s5 wr => ∃ k : Nat, g = x.m - k ∧ k ≤ x.m ∧ k ≤ 101 ∧ s5 = .int .i64 (k : Int) ∧ s3 = .int .i64 ((n + k : Nat) : Int) ∧ w = wr)
        case atStart => exact ⟨0, rfl, Nat.zero_le _, Nat.zero_le _, rfl, rfl, rfl⟩
        case round =>
          obtain ⟨k, rfl, hk, hk2, rfl, rfl, rfl⟩ := hrel
          by_cases hkm : k < x.m
          · by_cases hk3 : k ≤ 100
            · obtain ⟨ad2, had, -⟩ := HIR.out.2 (by omega)
              have hir2 := HIR.out
              rw [had] at hir2 z1
              have hkl : k < x.l.length := by have := HIR.out.1; omega
              obtain ⟨-, -, y2, hy4, hy5, -, -⟩ := hir2.at (List.getElem?_eq_getElem hkl)
              generalize x.l[k] = y at *
              clear hir2 hkl
              by_cases h1 : 3000 < y.n
              · go_wp2_with fail
                go_ret
                exact ⟨false, rfl, (fun h => by cases h), rfl⟩
              · have hcast : ((n + k : Nat) : Int) + 1 = ((n + (k + 1) : Nat) : Int) := by omega
                go_wp2_with fail
                go_roundg (x.m - (k + 1))
                case measure => omega
                case rel => exact ⟨k + 1, rfl, by omega, by omega, by go_num, by go_num, rfl⟩
            · go_wp2_with fail
              go_roundg (m - (j + 1))
              case measure => omega
              case rel =>
                refine ⟨j + 1, n + k, rfl, by omega, by omega, by go_num, rfl, by omega, fun i y hi hy => ?_, rfl⟩
                exact .inr (by omega)
          · go_wp2_with fail
            go_roundg (m - (j + 1))
            case measure => omega
            case rel =>
              refine ⟨j + 1, n + k, rfl, by omega, by omega, by go_num, rfl, by omega, fun i y hi hy => ?_, rfl⟩
              rcases Nat.lt_or_ge i j with hij | hij
              · rcases HF.out i y hij hy with e | e
                · exact .inl (by omega)
                · exact .inr (by omega)
              · have : i = j := by omega
                subst this
                have := HX.out
                rw [hy] at this
                injection this with this
                subst this
                exact .inl (by omega)
      · go_wp2_with fail
        go_ret
        exact ⟨false, rfl, (fun h => by cases h), rfl⟩
    · by_cases hm : m ≤ 100
      · have hjm : Hid (j = m) := by show j = m; omega
        have HM := Lib.hid hm
        go_wp2_with fail
        go_ret
        refine ⟨decide ((n : Int) ≤ 100), rfl, fun ht => ⟨HM.out, fun i x hi => ?_⟩, rfl⟩
        have h1 := (List.getElem?_eq_some_iff.1 hi).1
        have h2 := h.1
        have h3 := hjm.out
        have h4 := of_decide_eq_true ht
        rcases HF.out i x (by omega) hi with e | e
        · omega
        · omega
      · go_wp2_with fail
        go_ret
        exact ⟨false, rfl, (fun h => by cases h), rfl⟩

end Go.Proofs.Ythajmplheecepaa
