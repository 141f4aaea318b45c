/-
  DpathOn, plain: what holds of the outcome and of the visits behind each hop; an append that has no room; blocks that are apart. No condition.
-/
import Derived.Test.YtacbgelbffmngaaId
import Derived.Laws.Append
import Derived.Deep.AppendLies
namespace Go.Proofs.Ytacbgelbffmngaa
open Go.RowKit
set_option linter.unusedVariables false
set_option linter.unusedSimpArgs false

/-- No two of the visits are one. -/
def Dst15 (vs : List Int) : Prop := ∀ (i j : Nat) (x y : Int), j < i → vs[i]? = some x → vs[j]? = some y → ¬ x = y
/-- Ahead of the k-th hop: the visits, the outcome. -/
def St15 (c nu : Int) (fb : List UInt8) (k : Nat) (vs : List Int) (v : OV) : Prop :=
  (v.kd = 2 → pkR v.k v.o v.f v.t v.p v.g v.i v.pb.length = true ∧ v.pb = fb ∧ v.i = nu ∧ ((k = 1 ∧ vs = [c] ∧ v.k = 1 ∧ v.o = c ∧ v.f = c) ∨ (k = 2 ∧ v.k = 2 ∧ v.o = c ∧ vs = [c, v.f]))) ∧
  (v.kd = 1 → v.st ≤ v.ge ∧ v.fb = fb) ∧ Dst15 vs ∧ vs.length ≤ k
theorem dst15_one (c : Int) : Dst15 [c] := by
  intro i j x y hji hi hj
  have : i < 1 := by simpa using (List.getElem?_eq_some_iff.1 hi).1
  omega
theorem dst15_push {vs : List Int} (h : Dst15 vs) {t : Int} (ht : ∀ y ∈ vs, ¬ t = y) : Dst15 (vs ++ [t]) := by
  intro i j x y hji hi hj
  have hil : i < (vs ++ [t]).length := (List.getElem?_eq_some_iff.1 hi).1
  rw [List.length_append, List.length_singleton] at hil
  rw [List.getElem?_append_left (by omega)] at hj
  by_cases e : i < vs.length
  · rw [List.getElem?_append_left e] at hi
    exact h i j x y hji hi hj
  · have e2 : i = vs.length := by omega
    subst e2
    rw [List.getElem?_append_right (Nat.le_refl _)] at hi
    simp only [Nat.sub_self, List.getElem?_cons_zero, Option.some.injEq] at hi
    subst hi
    exact ht y (List.mem_of_getElem? hj)
theorem goB15 {k o f t : Int} (h : goB k o f t = true) : ¬ f = t ∧ (k = 2 → ¬ t = o) := by
  unfold goB at h
  simp only [Bool.and_eq_true, Bool.or_eq_true, Bool.not_eq_true', beq_eq_false_iff_ne, beq_iff_eq, ne_eq] at h
  refine ⟨h.1, fun hk => ?_⟩
  rcases h.2 with h2 | h2
  · omega
  · exact h2.2.2
theorem st15_zero {c nu : Int} {fb : List UInt8} {k : Nat} {vs : List Int} (hd : Dst15 vs) (hl : vs.length ≤ k) : St15 c nu fb k vs zOV :=
  ⟨fun e => absurd e (by decide), fun e => absurd e (by decide), hd, hl⟩
theorem st15_guest {c nu : Int} {fb : List UInt8} (ak ap ao ag : Int) : St15 c nu fb 1 [c] (gu15 c fb nu ak ap ao ag) := by
  by_cases h1 : ak = 1
  · subst h1
    rw [gu15_1]
    exact ⟨fun e => absurd (show (1 : Int) = 2 from e) (by decide), fun _ => ⟨Int.le_refl _, rfl⟩, dst15_one c, Nat.le_refl _⟩
  by_cases h2 : ak = 2
  · subst h2
    rw [gu15_2]
    cases hr : pkR 1 c c ao ap ag nu fb.length with
    | false => rw [snt15_no hr]; exact st15_zero (dst15_one c) (Nat.le_refl _)
    | true =>
      rw [snt15_yes hr]
      exact ⟨fun _ => ⟨hr, rfl, rfl, .inl ⟨rfl, rfl, rfl, rfl, rfl⟩⟩, fun e => absurd (show (2 : Int) = 1 from e) (by decide), dst15_one c, Nat.le_refl _⟩
  · rw [gu15_no h1 h2]
    exact st15_zero (dst15_one c) (Nat.le_refl _)
theorem st15_hop {c nu : Int} {fb : List UInt8} {k : Nat} {vs : List Int} {v : OV} (h : St15 c nu fb k vs v) (h2 : v.kd = 2) (ak ap ao ag : Int) (hg : ak = 1 → v.g ≤ ag) :
    St15 c nu fb (k + 1) (vs ++ [v.t]) (tu15 v.k v.o v.f v.t v.p v.g v.i v.pb ak ap ao ag) ∧ ¬ (v.k = 2 ∧ (tu15 v.k v.o v.f v.t v.p v.g v.i v.pb ak ap ao ag).kd = 2) := by
  obtain ⟨hA, -, hd, hl⟩ := h
  obtain ⟨hr, hpb, hnu, hor⟩ := hA h2
  have hgo := goB15 (pkR_parts hr).2.2.2.2.2.2.2.2
  have hl2 : (vs ++ [v.t]).length ≤ k + 1 := by rw [List.length_append, List.length_singleton]; omega
  have hd2 : Dst15 (vs ++ [v.t]) := by
    refine dst15_push hd (fun y hy => ?_)
    rcases hor with ⟨-, rfl, hk, ho, hf⟩ | ⟨-, hk, ho, rfl⟩
    · simp only [List.mem_singleton] at hy
      subst hy
      exact fun e => hgo.1 (hf.trans e.symm)
    · simp only [List.mem_cons, List.not_mem_nil, or_false] at hy
      rcases hy with rfl | rfl
      · exact fun e => hgo.2 hk (e.trans ho.symm)
      · exact fun e => hgo.1 e.symm
  have hz : St15 c nu fb (k + 1) (vs ++ [v.t]) zOV ∧ ¬ (v.k = 2 ∧ zOV.kd = 2) := ⟨st15_zero hd2 hl2, fun e => absurd e.2 (by decide)⟩
  by_cases h1 : ak = 1
  · subst h1
    rw [tu15_1]
    exact ⟨⟨fun e => absurd (show (1 : Int) = 2 from e) (by decide), fun _ => ⟨hg rfl, hpb⟩, hd2, hl2⟩, fun e => absurd (show (1 : Int) = 2 from e.2) (by decide)⟩
  by_cases h3 : ak = 2
  · subst h3
    rw [tu15_2]
    by_cases hk : v.k = 2
    · rw [if_pos hk]
      exact hz
    · rw [if_neg hk]
      cases hr2 : pkR 2 v.o v.t ao v.p ag v.i v.pb.length with
      | false => rw [snt15_no hr2]; exact hz
      | true =>
        rw [snt15_yes hr2]
        refine ⟨⟨fun _ => ⟨hr2, hpb, hnu, .inr ?_⟩, fun e => absurd (show (2 : Int) = 1 from e) (by decide), hd2, hl2⟩, fun e => hk e.1⟩
        rcases hor with ⟨rfl, rfl, -, ho, -⟩ | ⟨-, hk2, -, -⟩
        · exact ⟨rfl, rfl, ho, rfl⟩
        · exact absurd hk2 hk
  · rw [tu15_no h1 h3]
    exact hz
/-- An entry that is looked up in rows' table has no lesser generation than the stamp. -/
theorem gen15 {c : Int} {l : List RV} {ky : Ky} {ak ap ao ag : Int} (h : acO13 (lk13 ky (cp14 c l)) = acC ak ap ao ag) (h1 : ak = 1) : ky.ks ≤ ag := by
  cases hk : lk13 ky (cp14 c l) with
  | none =>
    rw [hk] at h
    have h2 := congrArg (fun a : Array Value => a[0]?) h
    simp only [acO13, acC, List.getElem?_toArray, List.getElem?_cons_zero, Option.some.injEq, Value.int.injEq, true_and] at h2
    omega
  | some e =>
    rw [hk] at h
    have h2 := congrArg (fun a : Array Value => a[3]?) h
    simp only [acO13, En.ac, acC, List.getElem?_toArray, List.getElem?_cons_zero, List.getElem?_cons_succ, Option.some.injEq, Value.int.injEq, true_and] at h2
    have hf := (lk13_some hk).2
    have hmem := List.mem_of_find?_eq_some hf
    have hfit := List.find?_some hf
    unfold at13 fit13 fB13 at hfit
    simp only [Bool.and_eq_true, decide_eq_true_eq] at hfit
    have hup : e.up = e.ag := by
      unfold cp14 at hmem
      rw [List.mem_flatMap] at hmem
      obtain ⟨r, -, hr⟩ := hmem
      unfold RV.es es14 at hr
      revert hr
      repeat' split
      all_goals
        intro hr
        first
          | exact absurd hr List.not_mem_nil
          | (simp only [List.mem_cons, List.not_mem_nil, or_false] at hr; rcases hr with rfl | rfl <;> rfl)
          | (simp only [List.mem_cons, List.not_mem_nil, or_false] at hr; subst hr; rfl)
    omega
theorem start15 {W : World} {p : Nat} {c nu : Int} {l : List RV} (hT : TF W p (cp14 c l)) (hl : l.length ≤ 100) {d s t : Int} {A : Option Addr} {n cc : Nat} {b : List UInt8} (hd : 0 ≤ d) (hs : 0 ≤ s) (hn : n ≤ 9223372036854775807) (hb : BsM15 W A n cc b) (hr : rightB d s t n = true) (h0 : 0 ≤ c) (h1 : c ≤ 15) (h2 : 0 ≤ nu) (h3 : nu ≤ 1099511627776) :
    ∃ v : OV, St15 c nu (frameB d s t b) 1 [c] v ∧ Calls Try.prog 9 #[.pointer (some ⟨p, 0, none⟩), .int .i64 c, .agg #[.int .u64 d, .int .u64 s, .int .i64 t, .slice A n cc], .int .i64 nu] W (HE15 v 0 W) := by
  obtain ⟨a0, a1, a2, a3, hac, -⟩ := bx13_ac (lk13 ⟨0, d, 0, 0, -1⟩ (cp14 c l))
  exact ⟨_, st15_guest a0 a1 a2 a3, guest15_ok _ _ a0 a1 a2 a3 hac d s t c nu A n cc W hd hs hn b hb (look15 hT (by have := cp14_len c l; omega) 0 d 0 0 (-1)) hr h0 h1 h2 h3⟩
theorem hop15 {c nu : Int} {fb : List UInt8} {k : Nat} {vs : List Int} {v : OV} (h : St15 c nu fb k vs v) (h2 : v.kd = 2) (l : List RV) (hl : l.length ≤ 100) :
    ∃ x : OV, St15 c nu fb (k + 1) (vs ++ [v.t]) x ∧ ¬ (v.k = 2 ∧ x.kd = 2) ∧ ∀ (W : World) (p : Nat) (A : Option Addr) (n cc : Nat), TF W p (cp14 v.t l) → BsM15 W A n cc v.pb →
      Calls Try.prog 15 #[.pointer (some ⟨p, 0, none⟩), .int .i64 v.t, .agg #[.int .i64 v.k, .int .i64 v.o, .int .i64 v.f, .int .i64 v.t, .int .i64 v.p, .int .i64 v.g, .int .i64 v.i, .slice A n cc]] W (HE15 x 0 W) := by
  obtain ⟨a0, a1, a2, a3, hac, -⟩ := bx13_ac (lk13 ⟨v.k, 0, v.p, v.g, v.o⟩ (cp14 v.t l))
  obtain ⟨hx, hy⟩ := st15_hop h h2 a0 a1 a2 a3 (fun e => gen15 hac e)
  refine ⟨_, hx, hy, fun W p A n cc hT hb => ?_⟩
  have hr := (h.1 h2).1
  rw [← hb.2.1] at hr
  exact tunnel15_ok _ _ a0 a1 a2 a3 hac v.k v.o v.f v.t v.p v.g v.i A n cc W v.pb hb (look15 hT (by have := cp14_len v.t l; omega) v.k 0 v.p v.g v.o) hr
/-- Blocks of unlike types are apart; and a row that is owned. -/
theorem blk_apart15 {w : World} {q q' : Nat} {T T' : TypeId} {cs cs' : Array Value} (h : Blk w q T cs) (h' : Blk w q' T' cs') (ht : T ≠ T') : ¬ q = q' := by
  rintro rfl
  have e := h.symm.trans h'
  simp only [Option.some.injEq, Obj.cells.injEq] at e
  exact ht e.2.1
theorem own_apart15 {w : World} {b : Nat} {e T : TypeId} {size n c : Nat} {A : Option Addr} {xs : List Value} {q : Nat} {cs : Array Value} (h : w.ownsRow b e size (.slice A n c) n xs) (h' : Blk w q T cs) (ht : e ≠ T) : A.map (·.block) ≠ some q := by
  intro hq
  rcases h.2 with ⟨hv, -⟩ | ⟨g, cap, cur, hv, -, hg, -⟩
  · injection hv with hv
    subst hv
    cases hq
  · injection hv with hv
    subst hv
    simp only [Option.map_some, Option.some.injEq] at hq
    subst hq
    exact blk_apart15 (show Blk w g e cur from hg) h' ht rfl
/-- The visits in memory: a row of numbers that is owned; of at most two no byte lies in its block. -/
def Vs15 (w : World) (base : Nat) (E : Option Addr) (n d : Nat) (vs : List Int) (two : Prop) : Prop := w.ownsRow base 3 1 (.slice E n d) n (ics vs) ∧ (two → ∃ g cur, E = some ⟨g, 0, none⟩ ∧ Blk w g 3 cur ∧ noU8 cur)
theorem Vs15.chg {w w' : World} {base n d : Nat} {E : Option Addr} {vs : List Int} {two : Prop} {S : Nat → Prop} (h : Vs15 w base E n d vs two) (hc : Chg S w w') (hS : ∀ q, S q → ∃ T cs, Blk w q T cs ∧ 3 ≠ T) : Vs15 w' base E n d vs two := by
  refine ⟨own_chg h.1 hc (fun k hk hs => ?_), fun h2 => ?_⟩
  · obtain ⟨T, cs, hb, ht⟩ := hS k hs
    exact own_apart15 h.1 hb ht hk
  · obtain ⟨g, cur, e, hb, hu⟩ := h.2 h2
    refine ⟨g, cur, e, hb.chg hc (fun hs => ?_), hu⟩
    obtain ⟨T, cs, hb2, ht⟩ := hS g hs
    exact blk_apart15 hb hb2 ht rfl
theorem Vs15.chg0 {w w' : World} {base n d : Nat} {E : Option Addr} {vs : List Int} {two : Prop} (h : Vs15 w base E n d vs two) (hc : Chg (fun _ => False) w w') : Vs15 w' base E n d vs two := h.chg hc (fun _ e => e.elim)
theorem noU8_ints (l : List Value) (h : ∀ v ∈ l, ∃ x, v = .int .i64 x) : ∀ v ∈ l, ∀ x, v ≠ .int .u8 x := by
  intro v hv x
  obtain ⟨y, rfl⟩ := h v hv
  simp
theorem ics_int (l : List Int) : ∀ v ∈ ics l, ∃ x, v = .int .i64 x := by
  intro v hv
  simp only [ics, List.mem_map] at hv
  obtain ⟨b, -, rfl⟩ := hv
  exact ⟨b, rfl⟩
theorem infoInt15 : (Try.prog.info? 3).map (fun i => (i.zero, i.size, i.bytes)) = some (some (.int .i64 0), 1, 8) := by kernel_rfl
/-- An append onto the visits, where there is no room: a new row. -/
theorem wpList_grow15 (w : World) {ops : Array Oper} {rest : List Oper} {o : Oper} {a : Act} {Q : Exit → Act → World → Prop} (hgd : o.guard = none) (s x : Operand)
    (ho : o.op = .call { callee := .builtin .append, args := #[s, x], argTypes := #[60, 60] })
    (g n cap : Nat) (xs : List Int) (hs : a.eval s = .slice (some ⟨g, 0, none⟩) n cap) (hlo : xs.length = n) (holds : ∀ (j : Nat) (u : Value), (ics xs)[j]? = some u → w.cell? ((⟨g, 0, none⟩ : Addr).add j) = some u)
    (ad : Addr) (m c : Nat) (news : List Int) (hx : a.eval x = .slice (some ad) m c) (hl : news.length = m) (hnews : ∀ (j : Nat) (u : Value), (ics news)[j]? = some u → w.cell? (ad.add j) = some u)
    (hg : cap < n + m) (b1 : n + m ≤ 1000)
    (hK : ∀ (E : Option Addr) (d : Nat) (w' : World), Vs15 w' w.heap.size E (n + m) d (xs ++ news) True → Chg (fun _ => False) w w' → wpList Try.prog ops Q rest (a.put o.dst (.slice E (n + m) d)) w') : wpList Try.prog ops Q (o :: rest) a w := by
  obtain ⟨i, hi, hz, h4, h5⟩ := info_parts infoInt15
  refine wpList_plain hgd fun K hK' => ?_
  have hrun := run_append_grow (P := Try.prog) w 60 o.type 3 i (.int .i64 0) Try.underlying60 hi hz ⟨g, 0, none⟩ n cap (ics xs) (by rw [ics_len, hlo, h4]; omega) holds ad m c (ics news) (by rw [ics_len, hl, h4]; omega) hnews hg (by omega) (growslice_fits hg (by rw [h5]; omega))
  have hge := grownCap_ge w (n + m) cap 3
  have hcm : grownCap w (n + m) cap 3 ≤ maxLen := grownCap_le_maxLen w (n + m) cap 3 (by unfold maxLen; omega)
  unfold Oper.wp
  simp [execOp, ho, resolve, invoke, builtin, hs, hx, hrun, Result.andThen]
  refine hK' _ _ (hK (some ⟨w.heap.size, 0, none⟩) _ _ ⟨⟨?_, .inr ⟨w.heap.size, _, _, rfl, Nat.le_refl _, heap_alloc_new w.drew _, hge, hcm, ?_, ?_⟩⟩, fun _ => ⟨w.heap.size, _, rfl, heap_alloc_new w.drew _, noU8_of (noU8_ints _ ?_)⟩⟩ (((Chg.refl (fun _ => False) w).drew).alloc _))
  · rw [ics_len, List.length_append, hlo, hl]; omega
  · simp only [Array.size_append, List.size_toArray, List.length_append, size_zeroCells, ics_len, hlo, hl]
    rw [show (Value.int .i64 0).cells.size = 1 from rfl]
    generalize grownCap w (n + m) cap 3 = G at *
    omega
  · simp only [Array.toList_append, List.append_assoc]
    rw [← List.append_assoc, show ics xs ++ ics news = ics (xs ++ news) from by simp [ics]]
    exact List.take_left' (by rw [ics_len, List.length_append, hlo, hl]; omega)
  · intro v hv
    simp only [Array.toList_append, List.mem_append] at hv
    rcases hv with (hv | hv) | hv
    · exact ics_int xs v hv
    · exact ics_int news v hv
    · refine ⟨0, ?_⟩
      simp only [Builtin.zeroCells, Array.toList_map, List.mem_map] at hv
      obtain ⟨k, -, rfl⟩ := hv
      rw [show (Value.int .i64 0).cells = #[.int .i64 0] from rfl, show (#[Value.int .i64 0] : Array Value).size = 1 from rfl, Nat.mod_one]
      rfl

end Go.Proofs.Ytacbgelbffmngaa
