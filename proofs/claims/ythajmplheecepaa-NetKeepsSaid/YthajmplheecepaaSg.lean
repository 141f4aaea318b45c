/-
  Walk: (*net.Net).add. Conditions: the net lies in memory, its room is at most 4096; the item's bytes are read in memory.
-/
import Derived.Test.YthajmplheecepaaSf
import Derived.Deep.RegionHeld3
import Derived.BigQuiet
namespace Go.Proofs.Ythajmplheecepaa
open Go.RowKit
set_option linter.unusedVariables false
set_option linter.unusedSimpArgs false
attribute [local go_sem] Oper.semAt_some

theorem infoIt18 : (Try.prog.info? 40).map (fun i => (i.zero, i.size, i.bytes)) = some (some (.agg #[.int .i64 0, .int .i64 0, .slice none 0 0]), 3, 40) := by kernel_rfl
/-- append of structs, as a step of a region that draws its order. -/
theorem step_app18 {P : Program} (w : World) {ops : Array Oper} {o : Oper} {a : Act} {K : Act → World → Prop} {Q : Exit → Act → World → Prop} {E : Prop} (hgd : o.guard = none) (s x : Operand) (t : TypeId)
    (ho : o.op = .call { callee := .builtin .append, args := #[s, x], argTypes := #[t, t] })
    (base : Nat) (e : TypeId) (i : TypeInfo) (z : Value) (size bytes : Nat) (ht : P.underlying t = some (.slice e)) (hi : P.info? e = some i) (hz : i.zero = some z)
    (hsize : i.size = size) (hby : i.bytes = bytes) (hzs : z.cells.size = size) (hpos : 0 < size)
    (v : Value) (n : Nat) (xs : List Value) (hs : a.eval s = v) (hown : w.ownsRow base e size v n xs)
    (ad : Addr) (m c : Nat) (news : List Value) (hx : a.eval x = .slice (some ad) m c) (hl : news.length = m * size) (hnews : ∀ j u, news[j]? = some u → w.cell? (ad.add j) = some u) (h1 : ∀ u ∈ news, u.oneCell' = true)
    (h63 : n + m ≤ maxLen) (hbytes : (n + m) * bytes ≤ 140737488355328) (hbase : base ≤ w.heap.size)
    (h : ∀ v' w', w'.ownsRow base e size v' (n + m) (xs ++ news) → w.grownBy w' v.ownBlock → (v'.ownBlock = v.ownBlock ∨ v'.ownBlock = some w.heap.size) → K (a.put o.dst v') w') :
    if Region.wanted o (yielded ops a.tmps) = true then Oper.wp P o a w K Q else E := by
  rw [if_pos (by simp [Region.wanted, hgd])]
  obtain ⟨v', w', hrun, h2, h3, _, h4⟩ := run_append_own_at (P := P) w base t o.type e i z size bytes ht hi hz hsize hby hzs hpos v n xs hown ad m c news hl hnews h1 h63 hbytes hbase
  unfold Oper.wp execOp
  simp only [ho, resolve, invoke, builtin, Sem.run_bind, Sem.run_pure, Result.andThen_ok, List.map_toArray, List.map_cons, List.map_nil, hs, hx, hrun]
  exact h v' w' h2 h3 h4
theorem new_cells18 (w : World) (T : TypeId) (cs : List Value) : ∀ (j : Nat) (u : Value), cs[j]? = some u → (w.alloc (.cells cs.toArray T)).cell? ((⟨w.heap.size, 0, none⟩ : Addr).add j) = some u := fun j u hu => by
  rw [show (⟨w.heap.size, 0, none⟩ : Addr).add j = ⟨w.heap.size, j, none⟩ from by unfold Addr.add; split <;> simp_all]
  exact ((Blk.new w T cs.toArray).cell j).trans (by simpa using hu)
/-- An item that is put behind all others. -/
theorem NN.push {w1 w4 w5 : World} {b p n c c5 : Nat} {A A5 : Option Addr} {x : NV18} {l : List IC18} {k : IC18} {t : IT18}
    (hb : Blk w1 p 60 #[.int .i64 x.room, .slice A n c, .int .i64 x.lost]) (ho : w1.ownsRow b 40 3 (.slice A n c) n (icF l)) (hn : n = x.l.length) (hi : Its w1 b l x.l) (hbp : b ≤ p ∧ ∀ t ∈ x.l, t.bs.length ≤ 2000) (hlen : t.bs.length ≤ 2000)
    (hx : Chg (fun _ => False) w1 w4) (hk : ItM w4 b k t) (ho5 : w5.ownsRow b 40 3 (.slice A5 (n + 1) c5) (n + 1) (icF l ++ k.cs)) (hg : w4.grownBy w5 (Value.slice A n c).ownBlock)
    (hat : (Value.slice A5 (n + 1) c5).ownBlock = (Value.slice A n c).ownBlock ∨ (Value.slice A5 (n + 1) c5).ownBlock = some w4.heap.size) :
    (NN (w5.setCell ⟨p, 1, none⟩ (.slice A5 (n + 1) c5)) b p (A5.map (·.block)) ⟨x.room, x.lost, x.l ++ [t]⟩ ∧ Mvd p (A.map (·.block)) (A5.map (·.block)) w1 (w5.setCell ⟨p, 1, none⟩ (.slice A5 (n + 1) c5))) ∧
      Blk w5 p 60 #[.int .i64 x.room, .slice A n c, .int .i64 x.lost] := by
  have hop := (show NN w1 b p (A.map (·.block)) x from ⟨A, n, c, l, hb, ho, hn, rfl, hi, hbp⟩).op
  rw [own_block, own_block] at hat
  have hg' := hg
  rw [own_block] at hg'
  have hb5 := blk_grown (hb.chg hx id) hg' hop
  have ho4 := own_chg ho hx (fun _ _ => id)
  have h45 : Chg (fun j => A.map (·.block) = some j) w4 w5 := (Chg.refl _ w4).grown hg' (fun j hj _ => hj)
  have hty : ∀ k cs fr, w4.heap[k]? = some (.cells cs 5 fr) → ¬ (A.map (·.block) = some k) := fun k cs fr hk e => by
    obtain ⟨cs', hh⟩ := own_ty18 ho4 e
    rw [hk] at hh
    injection hh with hh
    injection hh with _ hh
    exact absurd hh (by decide)
  have hne : ∀ k, A5.map (·.block) = some k → ¬ k = p := fun k hk e => by
    subst e
    obtain ⟨cs', hh⟩ := own_ty18 ho5 hk
    unfold Blk at hb5
    rw [hb5] at hh
    injection hh with hh
    injection hh with _ hh
    exact absurd hh (by decide)
  have hset : Chg (fun j => j = p) w5 (w5.setCell ⟨p, 1, none⟩ (.slice A5 (n + 1) c5)) := (Chg.refl (fun j => j = p) w5).put p 1 (fun _ => rfl) _
  have hi5 := ((((hi.chg hx (fun _ _ _ _ => id)).snoc hk).chg h45 hty).chg hset (fun k cs fr hk e => by
    subst e
    unfold Blk at hb5
    rw [hb5] at hk
    injection hk with hh
    injection hh with _ hh
    exact absurd hh (by decide)))
  have hb6 := hb5.set 1 (.slice A5 (n + 1) c5)
  simp only [List.setIfInBounds_toArray, List.set_cons_zero, List.set_cons_succ] at hb6
  refine ⟨⟨⟨A5, n + 1, c5, l ++ [k], hb6, ?_, by simp [hn], rfl, hi5, hbp.1, fun u hu => (List.mem_append.1 hu).elim (hbp.2 u) (fun e => by rw [List.mem_singleton] at e; subst e; exact hlen)⟩, ?_, ?_⟩, hb5⟩
  · have e : icF (l ++ [k]) = icF l ++ k.cs := by simp [icF]
    rw [e]
    exact own_chg ho5 hset hne
  · exact ((hx.mono (fun _ _ h => h.elim)).grown hg' (fun k hk _ => .inr hk)).put p 1 (fun _ => .inl rfl) _
  · rcases hat with e | e
    · exact .inl e
    · exact .inr (.inr ⟨_, e, hx.size⟩)
def addS18 (x : NV18) (t : IT18) : NV18 := if (x.l.length : Int) < x.room then ⟨x.room, x.lost, x.l ++ [t]⟩ else x
def AddP18 (b p : Nat) (o : Option Nat) (x : NV18) (t : IT18) (w : World) (e : Ending) (w' : World) : Prop := e = .returned (.bool (decide ((x.l.length : Int) < x.room))) ∧ ∃ o', NN w' b p o' (addS18 x t) ∧ Mvd p o o' w w'
set_option maxRecDepth 100000 in
set_option maxHeartbeats 4000000 in
theorem nadd18 {w : World} {b p : Nat} {o : Option Nat} {x : NV18} (h : NN w b p o x) (hroom : x.room ≤ 4096) (ki ch : Int) (A2 : Option Addr) (n2 c2 : Nat) (bs : List UInt8) (S : Nat → Prop) (hn2 : n2 = bs.length) (hr : Rds w S A2 n2 (bcs bs)) (hz2' : A2 = none → c2 = 0) (hbig : n2 ≤ 2000) : Calls Try.prog 28 #[.pointer (some ⟨p, 0, none⟩), .agg #[.int .i64 ki, .int .i64 ch, .slice A2 n2 c2]] w (AddP18 b p o x ⟨ki, ch, bs⟩ w) := by
  obtain ⟨i0, hi0, hz0, hz1, hz2⟩ := info_parts infoIt18
  have HBW := Lib.hid (show b ≤ (w.alloc (.cells #[.int .i64 ki, .int .i64 ch, .slice A2 n2 c2] 40)).heap.size from Nat.le_trans (Nat.le_trans h.lt.1.1 (Nat.le_of_lt h.lt.1.2)) (by simp))
  have HOP := Lib.hid h.op
  have HLT := Lib.hid h.lt
  obtain ⟨L, m, lc, l, hb, hown, hnl, ho, hits, hbp⟩ := h
  subst ho
  have HX0 := Lib.hid ((Chg.refl (fun _ => False) w).alloc (.cells #[.int .i64 ki, .int .i64 ch, .slice A2 n2 c2] 40))
  have HQB : Hid (Blk (w.alloc (.cells #[.int .i64 ki, .int .i64 ch, .slice A2 n2 c2] 40)) w.heap.size 40 #[.int .i64 ki, .int .i64 ch, .slice A2 n2 c2]) := Lib.hid (blk_new rfl)
  have HQN := Lib.hid (show ¬ (L.map (·.block) = some w.heap.size) from fun e => by have := (HLT.out.2 _ e).2; omega)
  have HQP := Lib.hid (show ¬ (w.heap.size = p) from fun e => by have := HLT.out.1.2; omega)
  have HPB := Lib.hid (hb.alloc (.cells #[.int .i64 ki, .int .i64 ch, .slice A2 n2 c2] 40))
  have HOW := Lib.hid (hown.alloc (.cells #[.int .i64 ki, .int .i64 ch, .slice A2 n2 c2] 40))
  have HIS := Lib.hid (hits.chg HX0.out (fun _ _ _ _ => id))
  have HNL := Lib.hid hnl
  have HBP := Lib.hid hbp
  have HN2 := Lib.hid hn2
  have HN3 := Lib.hid (show (IT18.mk ki ch bs).bs.length ≤ 2000 from by rw [← show n2 = (IT18.mk ki ch bs).bs.length from hn2]; exact hbig)
  have HANO0 := Lib.hid (fun W (hw : Chg (fun _ => False) w W) => another18 ki ch A2 n2 c2 bs S W hn2 (hr.chg hw (fun _ _ => id)) hz2' (by omega))
  have HANO := Lib.hid (fun W (hw : Chg (fun _ => False) (w.alloc (.cells #[.int .i64 ki, .int .i64 ch, .slice A2 n2 c2] 40)) W) => HANO0.out W (HX0.out.trans hw (fun _ _ e => e)))
  have HE : Hid (addS18 x ⟨ki, ch, bs⟩ = if (x.l.length : Int) < x.room then ⟨x.room, x.lost, x.l ++ [⟨ki, ch, bs⟩]⟩ else x) := Lib.hid rfl
  unfold AddP18
  rw [← hnl] at HE ⊢
  have hml : m ≤ 9223372036854775807 := by have := own_cap hown; unfold maxLen at this; omega
  clear hr hz2' hn2 hits hnl hb hown hbp HANO0
  by_cases hf : (m : Int) < x.room
  case neg =>
    rw [if_neg hf] at HE
    have HT := Lib.hid (show decide ((m : Int) < x.room) = false by simpa using hf)
    have hle : x.room ≤ (m : Int) := by omega
    clear hf
    go_enter Try.func28, Try.ntmps28
    go_upto_region 1 with fail
    generalize w.alloc (.cells #[.int .i64 ki, .int .i64 ch, .slice A2 n2 c2] 40) = w1 at *
    obtain ⟨z0, z1, z2, z3, z4⟩ := nn_cells HPB.out
    go_quiet (fail)
    go_wp2_with fail
    go_ret
    refine ⟨by rw [HT.out]; rfl, _, by rw [HE.out]; exact ⟨L, m, lc, l, HPB.out.drewN _, HOW.out, HNL.out, rfl, HIS.out.chg ((Chg.refl (fun _ => False) w1).drewN nq) (fun _ _ _ _ => id), HBP.out⟩, (HX0.out.drewN _).mono (fun _ _ h => h.elim), .inl rfl⟩
  rw [if_pos hf] at HE
  have HT := Lib.hid (show decide ((m : Int) < x.room) = true by simpa using hf)
  have hm4 : m ≤ 4096 := by omega
  go_enter Try.func28, Try.ntmps28
  go_upto_region 1 with fail
  generalize w.alloc (.cells #[.int .i64 ki, .int .i64 ch, .slice A2 n2 c2] 40) = w0 at *
  generalize w.heap.size = Q0 at *
  have hlt : ¬ x.room ≤ (m : Int) := by omega
  clear hf
  obtain ⟨z0, z1, z2, z3, z4⟩ := nn_cells HPB.out
  go_quiet (fail)
  replace HX0 := Lib.hid (HX0.out.drewN nq)
  replace HPB := Lib.hid (HPB.out.drewN nq)
  replace HQB := Lib.hid (HQB.out.drewN nq)
  replace HOW : Hid ((w0.drewN nq).ownsRow b 40 3 (.slice L m lc) m (icF l)) := Lib.hid HOW.out
  replace HIS := Lib.hid (HIS.out.chg ((Chg.refl (fun _ => False) w0).drewN nq) (fun _ _ _ _ => id))
  replace HANO := Lib.hid (fun W (hw : Chg (fun _ => False) (w0.drewN nq) W) => HANO.out W (((Chg.refl (fun _ => False) w0).drewN nq).trans hw (fun _ _ e => e)))
  replace HBW : Hid (b ≤ (w0.drewN nq).heap.size) := Lib.hid HBW.out
  clear z0 z1 z2 z3 z4
  go_upto_region 3 with fail
  generalize w0.drewN nq = w1 at *
  have HX := Lib.hid (Chg.refl (fun _ => False) w1).drew
  have HKEEP : Hid (∀ W : World, Chg (fun _ => False) w1 W → (W.cell? ⟨Q0, 0, none⟩ = some (.int .i64 ki) ∧ W.cell? ⟨Q0, 1, none⟩ = some (.int .i64 ch) ∧ W.cell? ⟨Q0, 2, none⟩ = some (.slice A2 n2 c2))) := Lib.hid (fun W hw => it_cells (HQB.out.chg hw id))
  have z1 := (nn_cells (HPB.out.chg HX.out id)).2.1
  refine wp_region_noPanic ?_
  refine wp_region_held_drew (S := (fun w' => w'.cell? ⟨Q0, 0, none⟩ = some (.int .i64 ki) ∧ w'.cell? ⟨Q0, 1, none⟩ = some (.int .i64 ch) ∧ w'.cell? ⟨Q0, 2, none⟩ = some (.slice A2 n2 c2))) (by kernel_rfl) (HKEEP.out _ HX.out) (fun hHeld => ?_)
  refine wpAnyH_take (i := 0) (v := ?_) rfl (by kernel_rfl) (by kernel_rfl) (by kernel_rfl) (fun _ _ _ h => h) (Or.inl ⟨by rfl, ?_⟩) (by assumption) ?_
  rotate_left
  · intro w' hSw
    try dsimp only at hSw
    go_simp
    first | done | (with_reducible rfl)
  try simp only [List.getElem_toArray, List.getElem_cons_succ, List.getElem_cons_zero, Act.put, List.setIfInBounds_toArray, List.set_cons_zero, List.set_cons_succ]
  refine wpAnyH_take (i := 1) (v := ?_) rfl (by kernel_rfl) (by kernel_rfl) (by kernel_rfl) (fun _ _ _ h => h) (Or.inl ⟨by rfl, ?_⟩) (by assumption) ?_
  rotate_left
  · intro w' hSw
    try dsimp only at hSw
    go_simp
    first | done | (with_reducible rfl)
  try simp only [List.getElem_toArray, List.getElem_cons_succ, List.getElem_cons_zero, Act.put, List.setIfInBounds_toArray, List.set_cons_zero, List.set_cons_succ]
  refine wpAnyH_take (i := 2) (v := ?_) rfl (by kernel_rfl) (by kernel_rfl) (by kernel_rfl) (fun _ _ _ h => h) (Or.inl ⟨by rfl, ?_⟩) (by assumption) ?_
  rotate_left
  · intro w' hSw
    try dsimp only at hSw
    go_simp
    first | done | (with_reducible rfl)
  try simp only [List.getElem_toArray, List.getElem_cons_succ, List.getElem_cons_zero, Act.put, List.setIfInBounds_toArray, List.set_cons_zero, List.set_cons_succ]
  refine wpAnyH_take (i := 3) (v := ?_) rfl (by kernel_rfl) (by kernel_rfl) (by kernel_rfl) (fun _ _ _ h => h) (Or.inl ⟨by rfl, ?_⟩) (by assumption) ?_
  rotate_left
  · intro w' hSw
    try dsimp only at hSw
    go_simp
    first | done | (with_reducible rfl)
  try simp only [List.getElem_toArray, List.getElem_cons_succ, List.getElem_cons_zero, Act.put, List.setIfInBounds_toArray, List.set_cons_zero, List.set_cons_succ]
  refine wpAnyH_take (i := 5) (v := ?_) rfl (by kernel_rfl) (by kernel_rfl) (by kernel_rfl) (fun _ _ _ h => h) (Or.inl ⟨by rfl, ?_⟩) (by assumption) ?_
  rotate_left
  · intro w' hSw
    try dsimp only at hSw
    go_simp
    first | done | (with_reducible rfl)
  try simp only [List.getElem_toArray, List.getElem_cons_succ, List.getElem_cons_zero, Act.put, List.setIfInBounds_toArray, List.set_cons_zero, List.set_cons_succ]
  refine wpAnyH_ready (rs := [4, 6]) (by kernel_rfl) (by simp) ?_
  refine AllReadyH.cons rfl (fun K hK => ?_) (AllReadyH.cons rfl (fun K hK => ?_) AllReadyH.nil)
  · go_simp
    refine hK.out _ _ (HKEEP.out _ HX.out) (fun hHeld => ?_)
    clear hK K
    try simp only [List.getElem_toArray, List.getElem_cons_succ, List.getElem_cons_zero, Act.put, List.setIfInBounds_toArray, List.set_cons_zero, List.set_cons_succ]
    refine wpAnyH_ready (rs := [6]) (by kernel_rfl) (by simp) ?_
    refine AllReadyH.cons rfl (fun K hK => ?_) AllReadyH.nil
    go_simp
    refine (HANO.out _ HX.out).mono ?_
    rintro e w3 ⟨E, d3, rfl, hown3, hc3⟩
    have HIT := Lib.hid (ItM.base (itm_new (ki := ki) (ch := ch) HN2.out hown3) (Nat.le_trans HBW.out HX.out.size))
    have HX := Lib.hid (HX.out.trans hc3 (fun _ _ e => e))
    have z5 := (nn_cells (HPB.out.chg HX.out id)).2.1
    have z6 := (nn_cells (HPB.out.chg (HX.out.alloc (.cells #[.int .i64 ki, .int .i64 ch, .slice E n2 d3] 40)) id)).2.1
    clear hown3 hc3
    go_wp2_with fail
    refine hK.out _ _ (HKEEP.out _ HX.out) (fun hHeld => ?_)
    clear hK K
    try simp only [List.getElem_toArray, List.getElem_cons_succ, List.getElem_cons_zero, Act.put, List.setIfInBounds_toArray, List.set_cons_zero, List.set_cons_succ]
    refine wpAnyH_ready (rs := [7]) (by kernel_rfl) (by simp) ?_
    refine AllReadyH.cons rfl (fun K hK => ?_) AllReadyH.nil
    go_simp
    refine hK.out _ _ (HKEEP.out _ (HX.out.alloc _)) (fun hHeld => ?_)
    clear hK K
    try simp only [List.getElem_toArray, List.getElem_cons_succ, List.getElem_cons_zero, Act.put, List.setIfInBounds_toArray, List.set_cons_zero, List.set_cons_succ]
    refine wpAnyH_ready (rs := [8]) (by kernel_rfl) (by simp) ?_
    refine AllReadyH.cons rfl (fun K hK => ?_) AllReadyH.nil
    refine step_app18 _ rfl (.tmp 19) (.tmp 22) 34 rfl b 40 i0 _ 3 40 Try.underlying34 hi0 hz0 hz1 hz2 rfl (by decide) (.slice L m lc) m _ rfl ((own_chg HOW.out HX.out (fun _ _ => id)).alloc _) ⟨w3.heap.size, 0, none⟩ 1 1 [.int .i64 ki, .int .i64 ch, .slice E n2 d3] rfl rfl (new_cells18 w3 40 [.int .i64 ki, .int .i64 ch, .slice E n2 d3]) (by simp [Value.oneCell']) (by unfold maxLen; omega) (by omega) (Nat.le_trans (Nat.le_trans HBW.out HX.out.size) (by simp)) ?_
    intro v5 w5 hown5 hg5 hat5
    obtain ⟨A5, c5, rfl, _, _⟩ := own_form hown5
    obtain ⟨hsm, hb5⟩ := NN.push HPB.out HOW.out HNL.out HIS.out HBP.out HN3.out (HX.out.alloc _) (HIT.out.chg ((Chg.refl (fun _ => False) w3).alloc _) (fun _ _ _ _ => id)) hown5 hg5 hat5
    have HSM := Lib.hid hsm
    have g2 := hb5.frozen 1
    have x2 := (nn_cells hb5).2.1
    have hx5 := ((HX.out.alloc (.cells #[.int .i64 ki, .int .i64 ch, .slice E n2 d3] 40)).mono (S' := fun k => L.map (·.block) = some k) (fun _ _ h => h.elim)).grown hg5 (fun k hk _ => by rw [own_block] at hk; exact hk)
    have HS5 := Lib.hid (it_cells (HQB.out.chg hx5 HQN.out))
    have HS6 := Lib.hid (it_cells ((HQB.out.chg hx5 HQN.out).chg ((Chg.refl (fun k => k = p) w5).put p 1 (fun _ => rfl) (.slice A5 (m + 1) c5)) HQP.out))
    clear hsm hown5 hg5 hat5 hb5 hx5
    refine hK.out _ _ HS5.out (fun hHeld => ?_)
    clear hK K
    try simp only [List.getElem_toArray, List.getElem_cons_succ, List.getElem_cons_zero, Act.put, List.setIfInBounds_toArray, List.set_cons_zero, List.set_cons_succ]
    refine wpAnyH_take (i := 9) (v := ?_) rfl (by kernel_rfl) (by kernel_rfl) (by kernel_rfl) (fun _ _ _ h => h) (Or.inl ⟨by rfl, ?_⟩) (by assumption) ?_
    rotate_left
    · intro w' hSw
      try dsimp only at hSw
      go_simp
      first | done | (with_reducible rfl)
    try simp only [List.getElem_toArray, List.getElem_cons_succ, List.getElem_cons_zero, Act.put, List.setIfInBounds_toArray, List.set_cons_zero, List.set_cons_succ]
    refine wpAnyH_take (i := 10) (v := ?_) rfl (by kernel_rfl) (by kernel_rfl) (by kernel_rfl) (fun _ _ _ h => h) (Or.inl ⟨by rfl, ?_⟩) (by assumption) ?_
    rotate_left
    · intro w' hSw
      try dsimp only at hSw
      go_simp
      first | done | (with_reducible rfl)
    try simp only [List.getElem_toArray, List.getElem_cons_succ, List.getElem_cons_zero, Act.put, List.setIfInBounds_toArray, List.set_cons_zero, List.set_cons_succ]
    refine wpAnyH_ready (rs := [11]) (by kernel_rfl) (by simp) ?_
    refine AllReadyH.cons rfl (fun K hK => ?_) AllReadyH.nil
    go_simp
    refine hK.out _ _ HS6.out (fun hHeld => ?_)
    clear hK K
    try simp only [List.getElem_toArray, List.getElem_cons_succ, List.getElem_cons_zero, Act.put, List.setIfInBounds_toArray, List.set_cons_zero, List.set_cons_succ]
    refine wpAnyH_done (by kernel_rfl) ?_ _
    refine NoPanic.normal ?_
    go_wp2_with fail
    go_ret
    exact ⟨rfl, _, by rw [HE.out]; exact HSM.out.1, Mvd.pre HX0.out HSM.out.2⟩
  · go_simp
    refine (HANO.out _ HX.out).mono ?_
    rintro e w3 ⟨E, d3, rfl, hown3, hc3⟩
    have HIT := Lib.hid (ItM.base (itm_new (ki := ki) (ch := ch) HN2.out hown3) (Nat.le_trans HBW.out HX.out.size))
    have HX := Lib.hid (HX.out.trans hc3 (fun _ _ e => e))
    have z5 := (nn_cells (HPB.out.chg HX.out id)).2.1
    have z6 := (nn_cells (HPB.out.chg (HX.out.alloc (.cells #[.int .i64 ki, .int .i64 ch, .slice E n2 d3] 40)) id)).2.1
    clear hown3 hc3
    go_wp2_with fail
    refine hK.out _ _ (HKEEP.out _ HX.out) (fun hHeld => ?_)
    clear hK K
    try simp only [List.getElem_toArray, List.getElem_cons_succ, List.getElem_cons_zero, Act.put, List.setIfInBounds_toArray, List.set_cons_zero, List.set_cons_succ]
    refine wpAnyH_ready (rs := [4, 7]) (by kernel_rfl) (by simp) ?_
    refine AllReadyH.cons rfl (fun K hK => ?_) (AllReadyH.cons rfl (fun K hK => ?_) AllReadyH.nil)
    · go_simp
      refine hK.out _ _ (HKEEP.out _ HX.out) (fun hHeld => ?_)
      clear hK K
      try simp only [List.getElem_toArray, List.getElem_cons_succ, List.getElem_cons_zero, Act.put, List.setIfInBounds_toArray, List.set_cons_zero, List.set_cons_succ]
      refine wpAnyH_ready (rs := [7]) (by kernel_rfl) (by simp) ?_
      refine AllReadyH.cons rfl (fun K hK => ?_) AllReadyH.nil
      go_simp
      refine hK.out _ _ (HKEEP.out _ (HX.out.alloc _)) (fun hHeld => ?_)
      clear hK K
      try simp only [List.getElem_toArray, List.getElem_cons_succ, List.getElem_cons_zero, Act.put, List.setIfInBounds_toArray, List.set_cons_zero, List.set_cons_succ]
      refine wpAnyH_ready (rs := [8]) (by kernel_rfl) (by simp) ?_
      refine AllReadyH.cons rfl (fun K hK => ?_) AllReadyH.nil
      refine step_app18 _ rfl (.tmp 19) (.tmp 22) 34 rfl b 40 i0 _ 3 40 Try.underlying34 hi0 hz0 hz1 hz2 rfl (by decide) (.slice L m lc) m _ rfl ((own_chg HOW.out HX.out (fun _ _ => id)).alloc _) ⟨w3.heap.size, 0, none⟩ 1 1 [.int .i64 ki, .int .i64 ch, .slice E n2 d3] rfl rfl (new_cells18 w3 40 [.int .i64 ki, .int .i64 ch, .slice E n2 d3]) (by simp [Value.oneCell']) (by unfold maxLen; omega) (by omega) (Nat.le_trans (Nat.le_trans HBW.out HX.out.size) (by simp)) ?_
      intro v5 w5 hown5 hg5 hat5
      obtain ⟨A5, c5, rfl, _, _⟩ := own_form hown5
      obtain ⟨hsm, hb5⟩ := NN.push HPB.out HOW.out HNL.out HIS.out HBP.out HN3.out (HX.out.alloc _) (HIT.out.chg ((Chg.refl (fun _ => False) w3).alloc _) (fun _ _ _ _ => id)) hown5 hg5 hat5
      have HSM := Lib.hid hsm
      have g2 := hb5.frozen 1
      have x2 := (nn_cells hb5).2.1
      have hx5 := ((HX.out.alloc (.cells #[.int .i64 ki, .int .i64 ch, .slice E n2 d3] 40)).mono (S' := fun k => L.map (·.block) = some k) (fun _ _ h => h.elim)).grown hg5 (fun k hk _ => by rw [own_block] at hk; exact hk)
      have HS5 := Lib.hid (it_cells (HQB.out.chg hx5 HQN.out))
      have HS6 := Lib.hid (it_cells ((HQB.out.chg hx5 HQN.out).chg ((Chg.refl (fun k => k = p) w5).put p 1 (fun _ => rfl) (.slice A5 (m + 1) c5)) HQP.out))
      clear hsm hown5 hg5 hat5 hb5 hx5
      refine hK.out _ _ HS5.out (fun hHeld => ?_)
      clear hK K
      try simp only [List.getElem_toArray, List.getElem_cons_succ, List.getElem_cons_zero, Act.put, List.setIfInBounds_toArray, List.set_cons_zero, List.set_cons_succ]
      refine wpAnyH_take (i := 9) (v := ?_) rfl (by kernel_rfl) (by kernel_rfl) (by kernel_rfl) (fun _ _ _ h => h) (Or.inl ⟨by rfl, ?_⟩) (by assumption) ?_
      rotate_left
      · intro w' hSw
        try dsimp only at hSw
        go_simp
        first | done | (with_reducible rfl)
      try simp only [List.getElem_toArray, List.getElem_cons_succ, List.getElem_cons_zero, Act.put, List.setIfInBounds_toArray, List.set_cons_zero, List.set_cons_succ]
      refine wpAnyH_take (i := 10) (v := ?_) rfl (by kernel_rfl) (by kernel_rfl) (by kernel_rfl) (fun _ _ _ h => h) (Or.inl ⟨by rfl, ?_⟩) (by assumption) ?_
      rotate_left
      · intro w' hSw
        try dsimp only at hSw
        go_simp
        first | done | (with_reducible rfl)
      try simp only [List.getElem_toArray, List.getElem_cons_succ, List.getElem_cons_zero, Act.put, List.setIfInBounds_toArray, List.set_cons_zero, List.set_cons_succ]
      refine wpAnyH_ready (rs := [11]) (by kernel_rfl) (by simp) ?_
      refine AllReadyH.cons rfl (fun K hK => ?_) AllReadyH.nil
      go_simp
      refine hK.out _ _ HS6.out (fun hHeld => ?_)
      clear hK K
      try simp only [List.getElem_toArray, List.getElem_cons_succ, List.getElem_cons_zero, Act.put, List.setIfInBounds_toArray, List.set_cons_zero, List.set_cons_succ]
      refine wpAnyH_done (by kernel_rfl) ?_ _
      refine NoPanic.normal ?_
      go_wp2_with fail
      go_ret
      exact ⟨rfl, _, by rw [HE.out]; exact HSM.out.1, Mvd.pre HX0.out HSM.out.2⟩
    · go_simp
      refine hK.out _ _ (HKEEP.out _ (HX.out.alloc _)) (fun hHeld => ?_)
      clear hK K
      try simp only [List.getElem_toArray, List.getElem_cons_succ, List.getElem_cons_zero, Act.put, List.setIfInBounds_toArray, List.set_cons_zero, List.set_cons_succ]
      refine wpAnyH_ready (rs := [4]) (by kernel_rfl) (by simp) ?_
      refine AllReadyH.cons rfl (fun K hK => ?_) AllReadyH.nil
      go_simp
      refine hK.out _ _ (HKEEP.out _ (HX.out.alloc _)) (fun hHeld => ?_)
      clear hK K
      try simp only [List.getElem_toArray, List.getElem_cons_succ, List.getElem_cons_zero, Act.put, List.setIfInBounds_toArray, List.set_cons_zero, List.set_cons_succ]
      refine wpAnyH_ready (rs := [8]) (by kernel_rfl) (by simp) ?_
      refine AllReadyH.cons rfl (fun K hK => ?_) AllReadyH.nil
      refine step_app18 _ rfl (.tmp 19) (.tmp 22) 34 rfl b 40 i0 _ 3 40 Try.underlying34 hi0 hz0 hz1 hz2 rfl (by decide) (.slice L m lc) m _ rfl ((own_chg HOW.out HX.out (fun _ _ => id)).alloc _) ⟨w3.heap.size, 0, none⟩ 1 1 [.int .i64 ki, .int .i64 ch, .slice E n2 d3] rfl rfl (new_cells18 w3 40 [.int .i64 ki, .int .i64 ch, .slice E n2 d3]) (by simp [Value.oneCell']) (by unfold maxLen; omega) (by omega) (Nat.le_trans (Nat.le_trans HBW.out HX.out.size) (by simp)) ?_
      intro v5 w5 hown5 hg5 hat5
      obtain ⟨A5, c5, rfl, _, _⟩ := own_form hown5
      obtain ⟨hsm, hb5⟩ := NN.push HPB.out HOW.out HNL.out HIS.out HBP.out HN3.out (HX.out.alloc _) (HIT.out.chg ((Chg.refl (fun _ => False) w3).alloc _) (fun _ _ _ _ => id)) hown5 hg5 hat5
      have HSM := Lib.hid hsm
      have g2 := hb5.frozen 1
      have x2 := (nn_cells hb5).2.1
      have hx5 := ((HX.out.alloc (.cells #[.int .i64 ki, .int .i64 ch, .slice E n2 d3] 40)).mono (S' := fun k => L.map (·.block) = some k) (fun _ _ h => h.elim)).grown hg5 (fun k hk _ => by rw [own_block] at hk; exact hk)
      have HS5 := Lib.hid (it_cells (HQB.out.chg hx5 HQN.out))
      have HS6 := Lib.hid (it_cells ((HQB.out.chg hx5 HQN.out).chg ((Chg.refl (fun k => k = p) w5).put p 1 (fun _ => rfl) (.slice A5 (m + 1) c5)) HQP.out))
      clear hsm hown5 hg5 hat5 hb5 hx5
      refine hK.out _ _ HS5.out (fun hHeld => ?_)
      clear hK K
      try simp only [List.getElem_toArray, List.getElem_cons_succ, List.getElem_cons_zero, Act.put, List.setIfInBounds_toArray, List.set_cons_zero, List.set_cons_succ]
      refine wpAnyH_take (i := 9) (v := ?_) rfl (by kernel_rfl) (by kernel_rfl) (by kernel_rfl) (fun _ _ _ h => h) (Or.inl ⟨by rfl, ?_⟩) (by assumption) ?_
      rotate_left
      · intro w' hSw
        try dsimp only at hSw
        go_simp
        first | done | (with_reducible rfl)
      try simp only [List.getElem_toArray, List.getElem_cons_succ, List.getElem_cons_zero, Act.put, List.setIfInBounds_toArray, List.set_cons_zero, List.set_cons_succ]
      refine wpAnyH_take (i := 10) (v := ?_) rfl (by kernel_rfl) (by kernel_rfl) (by kernel_rfl) (fun _ _ _ h => h) (Or.inl ⟨by rfl, ?_⟩) (by assumption) ?_
      rotate_left
      · intro w' hSw
        try dsimp only at hSw
        go_simp
        first | done | (with_reducible rfl)
      try simp only [List.getElem_toArray, List.getElem_cons_succ, List.getElem_cons_zero, Act.put, List.setIfInBounds_toArray, List.set_cons_zero, List.set_cons_succ]
      refine wpAnyH_ready (rs := [11]) (by kernel_rfl) (by simp) ?_
      refine AllReadyH.cons rfl (fun K hK => ?_) AllReadyH.nil
      go_simp
      refine hK.out _ _ HS6.out (fun hHeld => ?_)
      clear hK K
      try simp only [List.getElem_toArray, List.getElem_cons_succ, List.getElem_cons_zero, Act.put, List.setIfInBounds_toArray, List.set_cons_zero, List.set_cons_succ]
      refine wpAnyH_done (by kernel_rfl) ?_ _
      refine NoPanic.normal ?_
      go_wp2_with fail
      go_ret
      exact ⟨rfl, _, by rw [HE.out]; exact HSM.out.1, Mvd.pre HX0.out HSM.out.2⟩

end Go.Proofs.Ythajmplheecepaa
