/-
  Walk: the document's Apply. Conditions: the store, and the changes, lie in memory.
-/
import Derived.Test.YtimgnogacanifaaGreatPn
import Derived.Test.YtimgnogacanifaaGreatPj
import Derived.Deep.RegionHeld
import Derived.Deep.MidRow
namespace Go.Proofs.YtimgnogacanifaaGreat
open Go.RowKit
set_option linter.unusedVariables false
set_option linter.unusedSimpArgs false

theorem sz16 : (Tryz.prog.info? 56).map (·.size) = some 16 := by kernel_rfl
theorem sz288 : (Tryz.prog.info? 57).map (·.size) = some 288 := by kernel_rfl
theorem un16 : Tryz.prog.underlying 56 = some (.array 16 4) := by kernel_rfl
theorem un32 : Tryz.prog.underlying 57 = some (.array 32 40) := by kernel_rfl
theorem fold_set : ∀ (l : List Value) (n off : Nat) (pre mid post : List Value), pre.length = off + n → mid.length = l.length →
    (l.zipIdx n).foldl (fun (cs : Array Value) (p : Value × Nat) => cs.setIfInBounds (off + p.2) p.1) (pre ++ mid ++ post).toArray = (pre ++ l ++ post).toArray
  | [], n, off, pre, mid, post, h1, h2 => by
    have : mid = [] := List.eq_nil_of_length_eq_zero h2
    subst this
    rfl
  | v :: l, n, off, pre, mid, post, h1, h2 => by
    cases mid with
    | nil => simp at h2
    | cons m mid =>
      rw [List.zipIdx_cons, List.foldl_cons]
      have e : (pre ++ (m :: mid) ++ post).toArray.setIfInBounds (off + n) v = ((pre ++ [v]) ++ mid ++ post).toArray := by
        rw [List.setIfInBounds_toArray, ← h1]
        congr 1
        simp
      rw [show (pre ++ (m :: mid) ++ post).toArray.setIfInBounds (off + (v, n).2) (v, n).1 = ((pre ++ [v]) ++ mid ++ post).toArray from e, fold_set l (n + 1) off (pre ++ [v]) mid post (by simp; omega) (by simpa using h2)]
      simp
theorem built_fill (parts : List (Nat × Value)) : Tryz.prog.built 59 parts = Instr.fill (fun i => (#[(0, 16), (16, 288)] : Array (Nat × Nat))[i]?) (dsB (fun _ => false) ++ dsR (fun _ => none)).toArray parts := by kernel_rfl
theorem wpList_build0 {P : Program} {w : World} {ops : Array Oper} {rest : List Oper} {o : Oper} {a : Act} {Q : Exit → Act → World → Prop} (hg : o.guard = none) (t : TypeId) (hop : o.op = .build t #[]) (cells : Array Value) (hb : P.built t [] = some cells)
    (hK : wpList P ops Q rest (a.put o.dst (.agg cells)) w) : wpList P ops Q (o :: rest) a w := by
  refine wpList_plain hg fun K' hK' => ?_
  unfold Oper.wp execOp
  simp only [hop, List.map_toArray, List.map_nil, Sem.run_bind, run_build w t #[] cells hb, Result.andThen_ok]
  exact hK' _ _ hK
theorem built0 : Tryz.prog.built 59 [] = some (dsB (fun _ => false) ++ dsR (fun _ => none)).toArray := by
  rw [built_fill]
  rfl
theorem fill_one {place : Nat → Option (Nat × Nat)} {i off size : Nat} (hp : place i = some (off, size)) (pre mid post l : List Value) (h1 : pre.length = off) (h2 : mid.length = l.length) (h3 : l.length = size) (rest : List (Nat × Value)) :
    Instr.fill place (pre ++ mid ++ post).toArray ((i, .agg l.toArray) :: rest) = Instr.fill place (pre ++ l ++ post).toArray rest := by
  conv => lhs; unfold Instr.fill
  simp only [hp]
  split
  · rename_i hh
    exfalso
    simp [Value.cells] at hh
    omega
  · congr 1
    show Array.foldl _ _ l.toArray.zipIdx = _
    rw [← Array.foldl_toList, Array.toList_zipIdx]
    exact fold_set l 0 off pre mid post (by omega) h2
theorem built10 (C : Int → Bool) (R : Int → Option RV) : Tryz.prog.built 59 [(0, .agg (dsB C).toArray), (1, .agg (dsR R).toArray)] = some (dsB C ++ dsR R).toArray := by
  rw [built_fill]
  have e1 := fill_one (place := fun i => (#[(0, 16), (16, 288)] : Array (Nat × Nat))[i]?) (i := 0) (off := 0) (size := 16) rfl [] (dsB (fun _ => false)) (dsR (fun _ => none)) (dsB C) rfl (by rw [dsB_len, dsB_len]) (dsB_len C) [(1, .agg (dsR R).toArray)]
  rw [List.nil_append, List.nil_append] at e1
  rw [e1]
  have e2 := fill_one (place := fun i => (#[(0, 16), (16, 288)] : Array (Nat × Nat))[i]?) (i := 1) (off := 16) (size := 288) rfl (dsB C) (dsR (fun _ => none)) [] (dsR R) (dsB_len C) (by rw [dsR_len, dsR_len]) (dsR_len R) []
  rw [List.append_nil, List.append_nil] at e2
  rw [e2]
  rfl
theorem yieldsIf_build10 {P : Program} {ops : Array Oper} {S : World → Prop} {op : Oper} {a : Act} (hw : Region.wanted op (yielded ops a.tmps) = true) (t : TypeId) (x y : Operand) (ho : op.op = .build t #[(0, x), (1, y)]) (A B : Value) (hx : a.eval x = A) (hy : a.eval y = B) (cells : Array Value) (hb : P.built t [(0, A), (1, B)] = some cells) : YieldsIf P ops S op (.agg cells) a :=
  .inl ⟨hw, fun w _ => by
    unfold execOp
    simp only [ho, List.map_toArray, List.map_cons, List.map_nil, hx, hy, Sem.run_bind, run_build w t #[(0, A), (1, B)] cells hb, Result.andThen_ok]
    rfl⟩
section
variable {w w' : World} {q : Nat} {C : Int → Bool} {R : Int → Option RV}
theorem DS.rangeB (h : DS w q C R) : w.rangeAt q 0 (dsB C) := fun j v hv => by
  have hj : j < 16 := by rw [← dsB_len C]; exact (List.getElem?_eq_some_iff.1 hv).1
  rw [Nat.zero_add, Blk.cell h, List.getElem?_toArray, List.getElem?_append_left (by rw [dsB_len]; exact hj)]
  exact hv
theorem DS.rangeR (h : DS w q C R) : w.rangeAt q 16 (dsR R) := fun j v hv => by
  rw [Blk.cell h, List.getElem?_toArray, List.getElem?_append_right (by rw [dsB_len]; omega), dsB_len, Nat.add_sub_cancel_left]
  exact hv
theorem DS.thereR (h : DS w q C R) : w.there q 16 288 := fun j hj => by
  refine ⟨?_, Blk.frozen h _⟩
  rw [h.rangeR j ((dsR R)[j]'(by rw [dsR_len]; exact hj)) (List.getElem?_eq_getElem _)]
  rfl
end
theorem blk_setCells10 {q : Nat} {T : TypeId} : ∀ (l : List Value) (o : Nat) (w : World) (pre mid post : List Value), pre.length = o → mid.length = l.length → Blk w q T (pre ++ mid ++ post).toArray → Blk (w.setCells q o l) q T (pre ++ l ++ post).toArray
  | [], o, w, pre, mid, post, h1, h2, h => by
    have : mid = [] := List.eq_nil_of_length_eq_zero h2
    subst this
    exact h
  | v :: l, o, w, pre, mid, post, h1, h2, h => by
    cases mid with
    | nil => simp at h2
    | cons m mid =>
      have hs := Blk.set h o v
      have e : (pre ++ (m :: mid) ++ post).toArray.setIfInBounds o v = ((pre ++ [v]) ++ mid ++ post).toArray := by
        rw [List.setIfInBounds_toArray, ← h1]
        congr 1
        simp
      rw [e] at hs
      have := blk_setCells10 l (o + 1) _ (pre ++ [v]) mid post (by simp; omega) (by simpa using h2) hs
      rw [World.setCells]
      rw [show pre ++ [v] ++ l ++ post = pre ++ v :: l ++ post by simp] at this
      exact this
theorem chg_setCells10 {q : Nat} : ∀ (l : List Value) (o : Nat) (w : World), Chg (fun k => k = q) w (w.setCells q o l)
  | [], o, w => Chg.refl _ _
  | v :: l, o, w => by
    rw [World.setCells]
    exact ((Chg.refl (fun k => k = q) w).put q o (fun _ => rfl) v).trans (chg_setCells10 l (o + 1) _) (fun _ _ e => e)
theorem DS.setR {w : World} {q : Nat} {C : Int → Bool} {R R' : Int → Option RV} (h : DS w q C R) : DS (w.setCells q 16 (dsR R')) q C R' := by
  have := blk_setCells10 (dsR R') 16 w (dsB C) (dsR R) [] (dsB_len C) (by rw [dsR_len, dsR_len]) (by rw [List.append_nil]; exact h)
  rw [List.append_nil] at this
  exact this
theorem range_split : ∀ i, i < 32 → List.range 32 = List.range i ++ i :: List.range' (i + 1) (31 - i) := by decide
theorem dsR_split (R : Int → Option RV) (i : Nat) (hi : i < 32) : dsR R = (List.range i).flatMap (fun i : Nat => ((R (i : Int)).getD z9).cs.toList) ++ ((R (i : Int)).getD z9).cs.toList ++ (List.range' (i + 1) (31 - i)).flatMap (fun i : Nat => ((R (i : Int)).getD z9).cs.toList) := by
  unfold dsR
  rw [range_split i hi, List.flatMap_append, List.flatMap_cons, List.append_assoc]
theorem all_one_dsR (R : Int → Option RV) : (dsR R).toArray.all (·.oneCell') = true := by
  refine all_oneCell_toArray (fun v hv => ?_)
  unfold dsR at hv
  obtain ⟨i, _, h⟩ := List.mem_flatMap.1 hv
  simp only [RV.cs, rvC, List.mem_cons, List.not_mem_nil, or_false] at h
  rcases h with rfl | rfl | rfl | rfl | rfl | rfl | rfl | rfl | rfl <;> rfl
theorem fm_congr {α β : Type} {f g : α → List β} : ∀ (l : List α), (∀ x ∈ l, f x = g x) → l.flatMap f = l.flatMap g
  | [], _ => rfl
  | x :: l, h => by rw [List.flatMap_cons, List.flatMap_cons, h x (by simp), fm_congr l (fun y hy => h y (by simp [hy]))]
theorem DS.putRow {w : World} {q : Nat} {C : Int → Bool} {R : Int → Option RV} (h : DS w q C R) (x : RV) (i : Nat) (hi : i < 32) (hx : x.po = (i : Int)) : DS (w.setCells q (16 + i * 9) x.cs.toList) q C (putR R x) := by
  have e1 := dsR_split R i hi
  have e2 := dsR_split (putR R x) i hi
  have ea : (List.range i).flatMap (fun i : Nat => ((putR R x (i : Int)).getD z9).cs.toList) = (List.range i).flatMap (fun i : Nat => ((R (i : Int)).getD z9).cs.toList) := by
    refine fm_congr _ ?_
    intro k hk
    have := List.mem_range.1 hk
    unfold putR
    rw [if_neg (by omega)]
  have eb : (List.range' (i + 1) (31 - i)).flatMap (fun i : Nat => ((putR R x (i : Int)).getD z9).cs.toList) = (List.range' (i + 1) (31 - i)).flatMap (fun i : Nat => ((R (i : Int)).getD z9).cs.toList) := by
    refine fm_congr _ ?_
    intro k hk
    have := (List.mem_range'_1.1 hk).1
    unfold putR
    rw [if_neg (by omega)]
  have ec : (putR R x (i : Int)).getD z9 = x := by unfold putR; rw [if_pos hx.symm]; rfl
  rw [ea, eb, ec] at e2
  have hl : (dsB C ++ (List.range i).flatMap (fun i : Nat => ((R (i : Int)).getD z9).cs.toList)).length = 16 + i * 9 := by
    rw [List.length_append, dsB_len]
    have e : (List.range i).flatMap (fun i : Nat => ((R (i : Int)).getD z9).cs.toList) = ((List.range i).map (fun i : Nat => (R (i : Int)).getD z9)).flatMap (fun x => x.cs.toList) := by rw [List.flatMap_map]
    rw [e, flat_len rv_size, List.length_map, List.length_range]
  unfold DS at h ⊢
  rw [e1, ← List.append_assoc, ← List.append_assoc] at h
  rw [e2, ← List.append_assoc, ← List.append_assoc]
  exact blk_setCells10 x.cs.toList (16 + i * 9) w _ ((R (i : Int)).getD z9).cs.toList _ hl rfl h
set_option maxRecDepth 20000 in
set_option maxRecDepth 100000 in
set_option maxHeartbeats 16000000 in
theorem dsapply_any {w : World} {q : Nat} {C : Int → Bool} {R : Int → Option RV} (h : DS w q C R) (hw : WF C R) (L : Option Addr) (m lc : Nat) (l : List CV) (S : Nat → Prop) (hl : SR 10 CV.cs w S L m l) (hm : m ≤ 9223372036854775807) : Calls Tryz.prog 67 #[.pointer (some ⟨q, 0, none⟩), .slice L m lc] w fun e w' => e = .returned (.int .i64 (appP C l R).1) ∧ DS w' q C (appK C l R) ∧ Chg (fun k => k = q) w w' := by
  have HD := Lib.hid h
  have HW := Lib.hid hw
  have HL := Lib.hid hl
  have HLN := Lib.hid hl.1
  have hRB := h.rangeB
  have hRR := h.rangeR
  have HWR := Lib.hid (Chg.refl (fun _ => False) w).drew
  clear h hw hl
  go_enter Tryz.func67, Tryz.ntmps67
  go_wp2_with fail
  refine wp_region_noPanic ?_
  refine wp_region_held_drew (S := fun w' => w'.rangeAt q 0 (dsB C) ∧ w'.rangeAt q 16 (dsR R)) (by kernel_rfl) ⟨by simpa using hRB, by simpa using hRR⟩ (fun hHeld => ?_)
  refine wpAnyH_take (i := 0) (v := ?_) rfl (by kernel_rfl) (by kernel_rfl) (by kernel_rfl) (fun _ _ _ h => h) (Or.inl ⟨by rfl, ?_⟩) (by assumption) ?_
  rotate_left
  · intro w' hSw
    try dsimp only at hSw
    go_simp
    first | done | (with_reducible rfl)
  try simp only [List.getElem_toArray, List.getElem_cons_succ, List.getElem_cons_zero, Act.put, List.setIfInBounds_toArray, List.set_cons_zero, List.set_cons_succ]
  refine wpAnyH_take (i := 1) (v := ?_) rfl (by kernel_rfl) (by kernel_rfl) (by kernel_rfl) (fun _ _ _ h => h) (Or.inl ⟨by rfl, ?_⟩) (by assumption) ?_
  rotate_left
  · intro w' hSw
    try dsimp only at hSw
    go_simp
    first | done | (with_reducible rfl)
  try simp only [List.getElem_toArray, List.getElem_cons_succ, List.getElem_cons_zero, Act.put, List.setIfInBounds_toArray, List.set_cons_zero, List.set_cons_succ]
  refine wpAnyH_take (i := 2) (v := ?_) rfl (by kernel_rfl) (by kernel_rfl) (by kernel_rfl) (fun _ _ _ h => h) (Or.inl ⟨by rfl, ?_⟩) (by assumption) ?_
  rotate_left
  · intro w' hSw
    try dsimp only at hSw
    go_simp
    first | done | (with_reducible rfl)
  try simp only [List.getElem_toArray, List.getElem_cons_succ, List.getElem_cons_zero, Act.put, List.setIfInBounds_toArray, List.set_cons_zero, List.set_cons_succ]
  refine wpAnyH_take (i := 3) (v := .agg (dsB C).toArray) rfl (by kernel_rfl) (by kernel_rfl) (by kernel_rfl) (fun _ _ _ h => h) (yieldsIf_load_mid (by rfl) 56 (.tmp 10) rfl q 0 (by rfl) (dsB C) _ (fun w h => h.1) un16 rfl (by rw [dsB_len]; exact sz16)) (by assumption) ?_
  try simp only [List.getElem_toArray, List.getElem_cons_succ, List.getElem_cons_zero, Act.put, List.setIfInBounds_toArray, List.set_cons_zero, List.set_cons_succ]
  refine wpAnyH_take (i := 4) (v := ?_) rfl (by kernel_rfl) (by kernel_rfl) (by kernel_rfl) (fun _ _ _ h => h) (Or.inl ⟨by rfl, ?_⟩) (by assumption) ?_
  rotate_left
  · intro w' hSw
    try dsimp only at hSw
    go_simp
    first | done | (with_reducible rfl)
  try simp only [List.getElem_toArray, List.getElem_cons_succ, List.getElem_cons_zero, Act.put, List.setIfInBounds_toArray, List.set_cons_zero, List.set_cons_succ]
  refine wpAnyH_take (i := 5) (v := ?_) rfl (by kernel_rfl) (by kernel_rfl) (by kernel_rfl) (fun _ _ _ h => h) (Or.inl ⟨by rfl, ?_⟩) (by assumption) ?_
  rotate_left
  · intro w' hSw
    try dsimp only at hSw
    go_simp
    first | done | (with_reducible rfl)
  try simp only [List.getElem_toArray, List.getElem_cons_succ, List.getElem_cons_zero, Act.put, List.setIfInBounds_toArray, List.set_cons_zero, List.set_cons_succ]
  refine wpAnyH_take (i := 6) (v := ?_) rfl (by kernel_rfl) (by kernel_rfl) (by kernel_rfl) (fun _ _ _ h => h) (Or.inl ⟨by rfl, ?_⟩) (by assumption) ?_
  rotate_left
  · intro w' hSw
    try dsimp only at hSw
    go_simp
    first | done | (with_reducible rfl)
  try simp only [List.getElem_toArray, List.getElem_cons_succ, List.getElem_cons_zero, Act.put, List.setIfInBounds_toArray, List.set_cons_zero, List.set_cons_succ]
  refine wpAnyH_take (i := 7) (v := .agg (dsR R).toArray) rfl (by kernel_rfl) (by kernel_rfl) (by kernel_rfl) (fun _ _ _ h => h) (yieldsIf_load_mid (by rfl) 57 (.tmp 14) rfl q 16 (by rfl) (dsR R) _ (fun w h => h.2) un32 rfl (by rw [dsR_len]; exact sz288)) (by assumption) ?_
  try simp only [List.getElem_toArray, List.getElem_cons_succ, List.getElem_cons_zero, Act.put, List.setIfInBounds_toArray, List.set_cons_zero, List.set_cons_succ]
  refine wpAnyH_take (i := 8) (v := .agg (dsB C ++ dsR R).toArray) rfl (by kernel_rfl) (by kernel_rfl) (by kernel_rfl) (fun _ _ _ h => h) (yieldsIf_build10 (by rfl) 59 (.tmp 11) (.tmp 15) rfl _ _ (by rfl) (by rfl) _ (built10 C R)) (by assumption) ?_
  try simp only [List.getElem_toArray, List.getElem_cons_succ, List.getElem_cons_zero, Act.put, List.setIfInBounds_toArray, List.set_cons_zero, List.set_cons_succ]
  refine wpAnyH_ready (rs := [9]) (by kernel_rfl) (by simp) ?_
  refine AllReadyH.cons rfl (fun K hK => ?_) AllReadyH.nil
  go_simp
  refine hK.out _ _ ⟨World.rangeAt_alloc (by simpa using hRB) _, World.rangeAt_alloc (by simpa using hRR) _⟩ (fun hHeld => ?_)
  clear hK K
  try simp only [List.getElem_toArray, List.getElem_cons_succ, List.getElem_cons_zero, Act.put, List.setIfInBounds_toArray, List.set_cons_zero, List.set_cons_succ]
  refine wpAnyH_ready (rs := [10]) (by kernel_rfl) (by simp) ?_
  refine AllReadyH.cons rfl (fun K hK => ?_) AllReadyH.nil
  go_simp
  refine hK.out _ _ hHeld (fun hHeld => ?_)
  clear hK K
  try simp only [List.getElem_toArray, List.getElem_cons_succ, List.getElem_cons_zero, Act.put, List.setIfInBounds_toArray, List.set_cons_zero, List.set_cons_succ]
  refine wpAnyH_done (by kernel_rfl) ?_ _
  refine NoPanic.normal ?_
  have HNX : DS (w.alloc (.cells (dsB C ++ dsR R).toArray 59)).drew w.heap.size C R := Blk.drew (Blk.new w _ _)
  replace HNX := Lib.hid HNX
  have HX0 := Lib.hid (((Chg.refl (fun _ => False) w).alloc (.cells (dsB C ++ dsR R).toArray 59)).drew)
  have HZ := Lib.hid (Blk.lt HD.out)
  clear hRB hRR HWR hHeld
  generalize (w.alloc (.cells (dsB C ++ dsR R).toArray 59)).drew = w2 at *
  go_wp2_with fail
  go_loopg [6, 7] m (fun g i s7 wr => ∃ (j : Nat), g = m - j ∧ j ≤ m ∧ i = .int .i64 (j : Int) ∧ Hid ((appP C (l.take j) R).1 = 0) ∧ Hid (DS wr w.heap.size C (appP C (l.take j) R).2) ∧ Hid (Chg (fun _ => False) w wr))
  case atStart => exact ⟨0, rfl, Nat.zero_le _, rfl, Lib.hid rfl, HNX, HX0⟩
  case round =>
    clear HNX HX0
    obtain ⟨j, rfl, hj, rfl, H0, HNX, HX0⟩ := hrel
    by_cases hlt : j < m
    · have hh := HL.out.chg HX0.out (fun _ _ => id)
      obtain ⟨ad, rfl, -⟩ := hh.2 (by omega)
      have hjl : j < l.length := by have := HLN.out; omega
      have hx : l[j]? = some l[j] := List.getElem?_eq_getElem hjl
      generalize l[j] = x at *
      have HAS := Lib.hid (app_step (C := C) (R := R) hx H0.out)
      have HWJ := Lib.hid (WF.app (l.take j) R HW.out)
      have hz := sr_at10 hh hx
      have HLX := Lib.hid hx
      clear hx hh hjl
      obtain ⟨xr, was⟩ := x
      obtain ⟨po, ma, ow, ta, ol, ge, ph, ve, si, rfl⟩ := rv_letters xr
      obtain ⟨z0, z1, z2, z3, z4, z5, z6, z7, z8, z9⟩ := hz
      generalize (appP C (l.take j) R).2 = Rj at *
      have hd := dswrong_any HNX.out HWJ.out po ma ow ta ol ge ph ve si was
      obtain ⟨v, hv⟩ : ∃ v, wrongP C Rj ⟨⟨po, ma, ow, ta, ol, ge, ph, ve, si⟩, was⟩ = v := ⟨_, rfl⟩
      rw [hv] at hd
      have HDO := Lib.hid hd
      have HV := Lib.hid hv
      clear hd hv
      go_wp2_with fail
      refine HDO.out.mono ?_
      rintro e w4 ⟨rfl, hc⟩
      replace HX0 := Lib.hid (HX0.out.trans hc (fun _ _ e => e))
      replace HNX := Lib.hid (HNX.out.keep hc)
      clear hc z0 z1 z2 z3 z4 z5 z6 z7 z8 z9 HDO
      by_cases h0 : v = 0
      · subst h0
        have HA2 := Lib.hid (HAS.out.1 HV.out)
        have hok := (wrong_zero HV.out).1
        have hbd := (RV.bd hok).1
        change 0 ≤ po ∧ po ≤ 31 at hbd
        obtain ⟨k, rfl⟩ := Int.eq_ofNat_of_zero_le hbd.1
        have hk : k < 32 := by omega
        have HDR := Lib.hid (show doR C Rj ⟨⟨(k : Int), ma, ow, ta, ol, ge, ph, ve, si⟩, was⟩ = putR Rj ⟨(k : Int), ma, ow, ta, ol, ge, ph, ve, si⟩ from by unfold doR; rw [if_pos HV.out])
        obtain ⟨z0, z1, z2, z3, z4, z5, z6, z7, z8, z9⟩ := sr_at10 (HL.out.chg HX0.out (fun _ _ => id)) HLX.out
        obtain ⟨d0, d1, d2, d3, d4, d5, d6, d7, d8⟩ := HNX.out.row hk
        have f0 := Blk.frozen HNX.out (16 + k * 9)
        have f1 := Blk.frozen HNX.out (16 + k * 9 + 1)
        have f2 := Blk.frozen HNX.out (16 + k * 9 + 2)
        have f3 := Blk.frozen HNX.out (16 + k * 9 + 3)
        have f4 := Blk.frozen HNX.out (16 + k * 9 + 4)
        have f5 := Blk.frozen HNX.out (16 + k * 9 + 5)
        have f6 := Blk.frozen HNX.out (16 + k * 9 + 6)
        have f7 := Blk.frozen HNX.out (16 + k * 9 + 7)
        have f8 := Blk.frozen HNX.out (16 + k * 9 + 8)
        have HPR : DS (((((((((w4.setCell ⟨w.heap.size, 16 + k * 9, none⟩ (.int .i64 ((k : Int)))).setCell ⟨w.heap.size, 16 + k * 9 + 1, none⟩ (.int .u64 ma)).setCell ⟨w.heap.size, 16 + k * 9 + 2, none⟩ (.int .i64 ow)).setCell ⟨w.heap.size, 16 + k * 9 + 3, none⟩ (.int .i64 ta)).setCell ⟨w.heap.size, 16 + k * 9 + 4, none⟩ (.int .i64 ol)).setCell ⟨w.heap.size, 16 + k * 9 + 5, none⟩ (.int .i64 ge)).setCell ⟨w.heap.size, 16 + k * 9 + 6, none⟩ (.int .i64 ph)).setCell ⟨w.heap.size, 16 + k * 9 + 7, none⟩ (.int .i64 ve)).setCell ⟨w.heap.size, 16 + k * 9 + 8, none⟩ (.int .i64 si)) w.heap.size C (putR Rj ⟨(k : Int), ma, ow, ta, ol, ge, ph, ve, si⟩) := HNX.out.putRow ⟨(k : Int), ma, ow, ta, ol, ge, ph, ve, si⟩ k hk rfl
        have HPC : Chg (fun k => k = w.heap.size) w4 (((((((((w4.setCell ⟨w.heap.size, 16 + k * 9, none⟩ (.int .i64 ((k : Int)))).setCell ⟨w.heap.size, 16 + k * 9 + 1, none⟩ (.int .u64 ma)).setCell ⟨w.heap.size, 16 + k * 9 + 2, none⟩ (.int .i64 ow)).setCell ⟨w.heap.size, 16 + k * 9 + 3, none⟩ (.int .i64 ta)).setCell ⟨w.heap.size, 16 + k * 9 + 4, none⟩ (.int .i64 ol)).setCell ⟨w.heap.size, 16 + k * 9 + 5, none⟩ (.int .i64 ge)).setCell ⟨w.heap.size, 16 + k * 9 + 6, none⟩ (.int .i64 ph)).setCell ⟨w.heap.size, 16 + k * 9 + 7, none⟩ (.int .i64 ve)).setCell ⟨w.heap.size, 16 + k * 9 + 8, none⟩ (.int .i64 si)) := chg_setCells10 (RV.cs ⟨(k : Int), ma, ow, ta, ol, ge, ph, ve, si⟩).toList (16 + k * 9) w4
        replace HPR := Lib.hid (Blk.drew HPR)
        replace HX0 := Lib.hid (fresh_set HX0.out HPC (Nat.le_refl _)).drew
        clear hok hbd HPC
        go_wp2_with fail
        go_region
        generalize World.drew (((((((((w4.setCell ⟨w.heap.size, 16 + k * 9, none⟩ (.int .i64 ((k : Int)))).setCell ⟨w.heap.size, 16 + k * 9 + 1, none⟩ (.int .u64 ma)).setCell ⟨w.heap.size, 16 + k * 9 + 2, none⟩ (.int .i64 ow)).setCell ⟨w.heap.size, 16 + k * 9 + 3, none⟩ (.int .i64 ta)).setCell ⟨w.heap.size, 16 + k * 9 + 4, none⟩ (.int .i64 ol)).setCell ⟨w.heap.size, 16 + k * 9 + 5, none⟩ (.int .i64 ge)).setCell ⟨w.heap.size, 16 + k * 9 + 6, none⟩ (.int .i64 ph)).setCell ⟨w.heap.size, 16 + k * 9 + 7, none⟩ (.int .i64 ve)).setCell ⟨w.heap.size, 16 + k * 9 + 8, none⟩ (.int .i64 si)) = w5 at *
        clear z0 z1 z2 z3 z4 z5 z6 z7 z8 z9 d0 d1 d2 d3 d4 d5 d6 d7 d8 f0 f1 f2 f3 f4 f5 f6 f7 f8
        go_wp2_with fail
        go_roundg (m - (j + 1))
        case measure => omega
        case rel => exact ⟨j + 1, rfl, by omega, by go_num, Lib.hid HA2.out.1, Lib.hid (by rw [HA2.out.2, HDR.out]; exact HPR.out), HX0⟩
      · have tv : (v == 0) = false := by simpa using h0
        have sv : (v != 0) = true := by simpa using h0
        have HA2 := Lib.hid (HAS.out.2 (by rw [HV.out]; exact h0))
        clear h0
        go_wp2_with fail
        go_ret
        exact ⟨ret_i10 (by rw [HA2.out.1, HV.out]), by rw [HA2.out.2]; exact HD.out.keep HX0.out, HX0.out.mono (fun _ _ e => e.elim)⟩
    · have : j = m := by omega
      subst this
      have HE := Lib.hid (show l.take j = l from List.take_of_length_le (by have := HLN.out; omega))
      have HV := Lib.hid (show (appP C l R).1 = 0 from by have h0 := H0.out; rw [HE.out] at h0; exact h0)
      have HR2 := Lib.hid (show (appP C (l.take j) R).2 = appK C l R from by rw [HE.out]; unfold appK; rw [if_pos HV.out])
      replace HNX := Lib.hid (show DS wr w.heap.size C (appK C l R) from by rw [← HR2.out]; exact HNX.out)
      have hran := HNX.out.rangeR
      have hds := HD.out.keep HX0.out
      have hthe := hds.thereR
      have HSR := Lib.hid (hds.setR (R' := appK C l R))
      have HSC := Lib.hid ((HX0.out.mono (S' := fun k => k = q) (fun _ _ e => e.elim)).trans (chg_setCells10 (dsR (appK C l R)) 16 wr) (fun _ _ e => e))
      have hone := all_one_dsR (appK C l R)
      clear hds
      go_wp2_with (first
        | (refine wpList_load_mid rfl 57 (.tmp 51) rfl w.heap.size 16 rfl (dsR (appK C l R)) _ hran un32 rfl (by rw [dsR_len]; exact sz288) ?_; clear hran)
        | (refine wpList_store_mid rfl 57 (.tmp 54) (.tmp 52) rfl q 16 (dsR (appK C l R)).toArray rfl rfl (by rw [List.size_toArray, dsR_len]; exact hthe) (by rw [List.size_toArray, dsR_len]; exact sz288) hone ?_; clear hthe hone))
      go_ret
      exact ⟨ret_i10 HV.out.symm, HSR.out, HSC.out⟩


end Go.Proofs.YtimgnogacanifaaGreat
