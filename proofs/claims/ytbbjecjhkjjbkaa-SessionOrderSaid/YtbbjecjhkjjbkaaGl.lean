/-
  Walk: rutterref11.Session's Out. Condition: the document's session lies in memory, its numbers are small.
-/
import Derived.Test.YtbbjecjhkjjbkaaGk
import Derived.Test.YtbbjecjhkjjbkaaGf
namespace Go.Proofs.Ytbbjecjhkjjbkaa
open Go.RowKit
set_option linter.unusedVariables false
set_option linter.unusedSimpArgs false

theorem wpList_app11 {P : Program} (w : World) {ops : Array Oper} {rest : List Oper} {o : Oper} {a : Act} {Q : Exit → Act → World → Prop} (hgd : o.guard = none) (s x : Operand) (t : TypeId)
    (ho : o.op = .call { callee := .builtin .append, args := #[s, x], argTypes := #[t, t] })
    (base : Nat) (e : TypeId) (i : TypeInfo) (z : Value) (size bytes : Nat) (ht : P.underlying t = some (.slice e)) (hi : P.info? e = some i) (hz : i.zero = some z)
    (hsize : i.size = size) (hby : i.bytes = bytes) (hzs : z.cells.size = size) (hpos : 0 < size)
    (v : Value) (n : Nat) (xs : List Value) (hs : a.eval s = v) (hown : w.ownsRow base e size v n xs)
    (ad : Addr) (m c : Nat) (news : List Value) (hx : a.eval x = .slice (some ad) m c) (hl : news.length = m * size) (hnews : ∀ j u, news[j]? = some u → w.cell? (ad.add j) = some u) (h1 : ∀ u ∈ news, u.oneCell' = true)
    (h63 : n + m ≤ maxLen) (hbytes : (n + m) * bytes ≤ 140737488355328) (hbase : base ≤ w.heap.size)
    (h : ∀ v' w', w'.ownsRow base e size v' (n + m) (xs ++ news) → w.grownBy w' v.ownBlock → (v'.ownBlock = v.ownBlock ∨ v'.ownBlock = some w.heap.size) → wpList P ops Q rest (a.put o.dst v') w') : wpList P ops Q (o :: rest) a w := by
  refine wpList_plain hgd fun _ hK => ?_
  obtain ⟨v', w', hrun, h2, h3, _, h4⟩ := run_append_own_at (P := P) w base t o.type e i z size bytes ht hi hz hsize hby hzs hpos v n xs hown ad m c news hl hnews h1 h63 hbytes hbase
  unfold Oper.wp execOp
  simp only [ho, resolve, invoke, builtin, Sem.run_bind, Sem.run_pure, Result.andThen_ok, List.map_toArray, List.map_cons, List.map_nil, hs, hx, hrun]
  exact hK _ _ (h v' w' h2 h3 h4)
theorem infoRL11 : (Try.prog.info? 28).map (fun i => (i.zero, i.size, i.bytes)) = some (some (.agg #[.int .i64 0, .int .i64 0, .int .i64 0, .int .i64 0, .string ⟨#[]⟩]), 5, 48) := by kernel_rfl
def LV.rc (l : LV) : Array Value := rlC l.mi l.pe l.ac l.se ⟨l.b.toArray⟩
/-- What the document's Out hands back. -/
def OutR (x : SV) (w : World) (e : Ending) (w' : World) : Prop :=
  ∃ A n c, e = .returned (.slice A n c) ∧ n = (outS x).length ∧ w'.ownsRow w.heap.size 28 5 (.slice A n c) n ((outS x).flatMap fun l => l.rc.toList) ∧ Chg (fun _ => False) w w'

set_option maxRecDepth 100000 in
set_option maxHeartbeats 4000000 in
theorem rout_any (q : Nat) (o : Option Nat) (x : SV) (w : World) (h : RN w q o x) (hq : x.q.length ≤ 64) (hnx : 0 ≤ x.nx ∧ x.nx ≤ 1000000000000000) : Calls Try.prog 42 #[.pointer (some ⟨q, 0, none⟩)] w (OutR x w) := by
  obtain ⟨i0, hi0, hz0, hz1, hz2⟩ := info_parts infoRL11
  have HRN := Lib.hid h
  obtain ⟨A, c, hb, hown, ho, hne⟩ := h
  obtain ⟨mi, pe, nx, go, l⟩ := x
  simp only at hb hown hq hnx
  have hqlt := hb.lt
  have HOUT0 := Lib.hid (fun (h : l.length = 0) => outS_nil (x := ⟨mi, pe, nx, go, l⟩) h)
  have HOUT1 := Lib.hid (fun (h : l.length ≠ 0) => outS_some (x := ⟨mi, pe, nx, go, l⟩) (m := l.length) rfl h)
  have HEL := Lib.hid (fun (j : Nat) (hj : j < l.length) => (show ∃ bj : List UInt8, (strs l)[j]? = some (.string ⟨bj.toArray⟩) ∧ letS ⟨mi, pe, nx, go, l⟩ j = ⟨mi, pe, go, nx + (j : Int), bj⟩ from ⟨l[j], by simp [strs, hj], by simp [letS, List.getD, hj]⟩))
  generalize hlm : l.length = m at *
  have HLM := Lib.hid hlm
  obtain ⟨s0, s1, s2, s3, s4⟩ := rs_cells hb
  have hba : Blk (w.alloc (.cells #[.int .i64 0, .int .i64 0, .int .i64 0, .int .i64 0, .string (⟨#[]⟩)] 28)) q 53 (rsC mi pe nx go A m c) := hb.alloc _
  obtain ⟨t0, t1, t2, t3, t4⟩ := rs_cells hba
  have HB := Lib.hid hb
  have HOW := Lib.hid hown
  have HBX : Hid (Blk (w.alloc (.cells #[.int .i64 mi, .int .i64 pe, .int .i64 go, .int .i64 0, .string (⟨#[]⟩)] 28)).drew w.heap.size 28 (rlC mi pe go 0 ⟨#[]⟩)) := Lib.hid (blk_new rfl)
  have HC1 := Lib.hid ((Chg.refl (fun _ => False) w).alloc (.cells #[.int .i64 mi, .int .i64 pe, .int .i64 go, .int .i64 0, .string (⟨#[]⟩)] 28)).drew
  clear hlm hb hba hown ho hne
  go_enter Try.func42, Try.ntmps42
  go_wp2_with fail
  go_region
  clear s0 s1 s2 s3 s4 t0 t1 t2 t3 t4
  have HSZ : Hid ((w.alloc (.cells #[.int .i64 mi, .int .i64 pe, .int .i64 go, .int .i64 0, .string (⟨#[]⟩)] 28)).drew.heap.size = w.heap.size + 1) := Lib.hid (by show (w.alloc (.cells #[.int .i64 mi, .int .i64 pe, .int .i64 go, .int .i64 0, .string (⟨#[]⟩)] 28)).heap.size = _; simp)
  generalize (w.alloc (.cells #[.int .i64 mi, .int .i64 pe, .int .i64 go, .int .i64 0, .string (⟨#[]⟩)] 28)).drew = w1 at *
  obtain ⟨s0, s1, s2, s3, s4⟩ := rs_cells (HB.out.chg HC1.out id)
  obtain ⟨x0, x1, x2, x3, x4⟩ := rl_cells HBX.out
  by_cases hm0 : m = 0
  · have HO := Lib.hid (HOUT0.out hm0)
    have t0 : ((m : Int) == 0) = true := by simp [hm0]
    clear hm0
    go_wp2_with fail
    go_ret
    refine ⟨some ⟨w1.heap.size, 0, none⟩, 1, 1, rfl, by rw [HO.out]; rfl, ?_, HC1.out.alloc _⟩
    rw [HO.out]
    refine ⟨rfl, .inr ⟨w1.heap.size, 1, (rlC mi pe go 0 ⟨#[]⟩), rfl, HC1.out.size, heap_alloc_new w1 _, Nat.le_refl _, by decide, rfl, rfl⟩⟩
  · have HO := Lib.hid (HOUT1.out hm0)
    have t0 : ((m : Int) == 0) = false := by simpa using hm0
    go_wp2_with fail
    go_loopg [4, 5] m (fun g s4 i wr => ∃ (j n c' : Nat) (A' : Option Addr) (se : Int) (sb : ByteArray), g = m - j ∧ j ≤ m ∧ j ≤ 8 ∧ i = .int .i64 (j : Int) ∧ s4 = .slice A' n c' ∧ Hid (n = j) ∧ Hid (wr.ownsRow (w.heap.size + 1) 28 5 (.slice A' n c') n (((List.range j).map (letS ⟨mi, pe, nx, go, l⟩)).flatMap fun l => l.rc.toList)) ∧ Hid (Blk wr w.heap.size 28 (rlC mi pe go se sb)) ∧ Hid (Chg (fun k => k = w.heap.size) w1 wr))
    case atStart => exact ⟨0, 0, 0, none, 0, ⟨#[]⟩, rfl, by omega, by omega, rfl, rfl, Lib.hid rfl, Lib.hid (World.ownsRow_nil _ _ _ _), HBX, Lib.hid (Chg.refl _ _)⟩
    case round =>
      obtain ⟨j, n, c', A', se, sb, rfl, hj, hj8, rfl, rfl, HN, HO2, HB2, HC2⟩ := hrel
      clear s0 s1 s2 s3 s4 x0 x1 x2 x3 x4 t0
      have hbq := (HB.out.chg HC1.out id).chg HC2.out (by omega)
      obtain ⟨s0, s1, s2, s3, s4⟩ := rs_cells hbq
      have HBQ := Lib.hid hbq
      clear hbq
      by_cases hlt : j < m ∧ j < 8
      · obtain ⟨hlt1, hlt2⟩ := hlt
        obtain ⟨bj, hel1, hel2⟩ := HEL.out j hlt1
        have HL2 := Lib.hid hel2
        have hownq := own_chg (own_chg HOW.out HC1.out (fun _ _ => id)) HC2.out (fun k hk e => by
          have h1 := (HOW.out.lt k (by rw [own_block]; exact hk)).2
          omega)
        obtain ⟨ad, hAe, hsb, -, hcell⟩ := (own_rds hownq).cellAt (k := j) hlt1
        have had : ad.block < w.heap.size := (HOW.out.lt ad.block (by rw [own_block]; exact hsb)).2
        subst hAe
        have HAD := Lib.hid had
        rw [hel1] at hcell
        obtain ⟨sj, hsj⟩ : ∃ sj : ByteArray, sj = ⟨bj.toArray⟩ := ⟨_, rfl⟩
        rw [← hsj] at hcell
        have HSJ := Lib.hid hsj
        have HCE := Lib.hid hcell
        obtain ⟨x0, x1, x2, x3, x4⟩ := rl_cells HB2.out
        obtain ⟨f0, f1, f2, f3, f4⟩ := lt_free HB2.out
        have hw1 : IntKind.i64.wrap (nx + (j : Int)) = nx + (j : Int) := IntWalk.i64_in _ (by omega)
        clear hel1 hel2 hsj hownq hsb had
        go_upto_region 9 with fail
        have hb3 : Blk (wr.setCell ⟨w.heap.size, 3, none⟩ (.int .i64 (nx + (j : Int)))) w.heap.size 28 (rlC mi pe go (nx + (j : Int)) sb) := HB2.out.set 3 (.int .i64 (nx + (j : Int)))
        have hc3 := (Chg.refl (fun k => k = w.heap.size) wr).put w.heap.size 3 (fun _ => rfl) (.int .i64 (nx + (j : Int)))
        have hcell3 : (wr.setCell ⟨w.heap.size, 3, none⟩ (.int .i64 (nx + (j : Int)))).cell? (ad.add j) = some (.string sj) := (hc3.cell (p := ad.add j) (by rw [block_add]; have := HAD.out; have := HB2.out.lt; omega) (by rw [block_add]; have := HAD.out; omega)).trans HCE.out
        have hq3 := HBQ.out.chg hc3 (by omega)
        have hown3 := own_chg HO2.out hc3 (fun k hk e => by
          have h1 := (HO2.out.lt k (by rw [own_block]; exact hk)).1
          omega)
        replace HB2 := Lib.hid hb3
        replace HC2 := Lib.hid (HC2.out.trans hc3 (fun _ _ e => e))
        replace HO2 := Lib.hid hown3
        clear s0 s1 s2 s3 s4 x0 x1 x2 x3 x4 f0 f1 f2 f3 f4 hb3 hc3 hown3 hcell HCE
        generalize wr.setCell ⟨w.heap.size, 3, none⟩ (.int .i64 (nx + (j : Int))) = wa at *
        obtain ⟨s0, s1, s2, s3, s4⟩ := rs_cells hq3
        have f4 := HB2.out.frozen 4
        obtain ⟨x0, x1, x2, x3, x4⟩ := rl_cells HB2.out
        go_upto_region 10 with fail
        have hb4 : Blk (wa.setCell ⟨w.heap.size, 4, none⟩ (.string sj)) w.heap.size 28 (rlC mi pe go (nx + (j : Int)) sj) := HB2.out.set 4 (.string sj)
        have hc4 := (Chg.refl (fun k => k = w.heap.size) wa).put w.heap.size 4 (fun _ => rfl) (.string sj)
        have hown4 := own_chg HO2.out hc4 (fun k hk e => by
          have h1 := (HO2.out.lt k (by rw [own_block]; exact hk)).1
          omega)
        replace HB2 := Lib.hid hb4
        replace HC2 := Lib.hid (HC2.out.trans hc4 (fun _ _ e => e))
        replace HO2 := Lib.hid hown4
        clear s0 s1 s2 s3 s4 x0 x1 x2 x3 x4 f4 hb4 hc4 hown4 hcell3 hq3
        generalize wa.setCell ⟨w.heap.size, 4, none⟩ (.string sj) = wb at *
        obtain ⟨x0, x1, x2, x3, x4⟩ := rl_cells HB2.out
        have hbs : w.heap.size + 1 ≤ wb.heap.size := HB2.out.lt
        have hn8 : n ≤ 8 := by have := HN.out; omega
        go_wp2_with (at_builtin; refine wpList_app11 _ rfl (.tmp 55) (.tmp 57) 95 rfl (w.heap.size + 1) 28 i0 _ 5 48 Try.underlying95 hi0 hz0 hz1 hz2 rfl (by decide) (.slice A' n c') n _ rfl (HO2.out.alloc _) ⟨wb.heap.size, 0, none⟩ 1 1 [.int .i64 mi, .int .i64 pe, .int .i64 go, .int .i64 (nx + (j : Int)), .string sj] rfl rfl (fun j2 u hu => by rw [show (⟨wb.heap.size, 0, none⟩ : Addr).add j2 = ⟨wb.heap.size, j2, none⟩ from by unfold Addr.add; split <;> simp_all, (Blk.new wb 28 #[.int .i64 mi, .int .i64 pe, .int .i64 go, .int .i64 (nx + (j : Int)), .string sj]).cell j2]; simpa using hu) (by simp [Value.oneCell']) (by unfold maxLen; omega) (by omega) (by simp; omega) ?_; intro v5 w5 hown5 hg5 hat5; obtain ⟨A5, c5, rfl, _, _⟩ := own_form hown5; have HO5 := Lib.hid hown5; have HG5 := Lib.hid (And.intro hg5 hat5); clear hown5 hg5 hat5)
        go_roundg (m - (j + 1))
        case measure => omega
        case rel =>
          obtain ⟨hg5, hat5⟩ := HG5.out
          rw [own_block] at hg5
          have hrow : ∀ k, A'.map (·.block) = some k → w.heap.size + 1 ≤ k := fun k hk => (HO2.out.lt k (by rw [own_block]; exact hk)).1
          refine ⟨j + 1, n + 1, c5, A5, nx + (j : Int), sj, rfl, by omega, by omega, by go_num, rfl, Lib.hid (by have := HN.out; omega), Lib.hid ?_, Lib.hid ?_, Lib.hid ?_⟩
          · have e : ((List.range (j + 1)).map (letS ⟨mi, pe, nx, go, l⟩)).flatMap (fun l => l.rc.toList) = ((List.range j).map (letS ⟨mi, pe, nx, go, l⟩)).flatMap (fun l => l.rc.toList) ++ [.int .i64 mi, .int .i64 pe, .int .i64 go, .int .i64 (nx + (j : Int)), .string sj] := by
              rw [List.range_succ, List.map_append, List.flatMap_append, List.map_cons, List.map_nil, HL2.out, HSJ.out]
              rfl
            rw [e]
            exact HO5.out
          · exact blk_grown (HB2.out.alloc _) hg5 (fun e => by have := hrow _ e; omega)
          · exact ((HC2.out.alloc _)).grown hg5 (fun k hk hl => by have := hrow k hk; have := HSZ.out; omega)
      · have hjm : j = min m 8 := by omega
        have HJ := Lib.hid hjm
        have hlt2 : ¬ j < m ∨ ¬ j < 8 := by omega
        rcases hlt2 with h1 | h1
        · clear hlt
          go_wp2_with fail
          go_ret
          refine ⟨A', n, c', rfl, ?_, ?_, HC1.out.trans HC2.out (fun k hk e => by omega)⟩
          · rw [HO.out, ← HJ.out, List.length_map, List.length_range]
            exact HN.out
          · rw [HO.out, ← HJ.out]
            exact own_base HO2.out (Nat.le_succ _)
        · by_cases h2 : j < m
          · clear hlt
            go_wp2_with fail
            go_ret
            refine ⟨A', n, c', rfl, ?_, ?_, HC1.out.trans HC2.out (fun k hk e => by omega)⟩
            · rw [HO.out, ← HJ.out, List.length_map, List.length_range]
              exact HN.out
            · rw [HO.out, ← HJ.out]
              exact own_base HO2.out (Nat.le_succ _)
          · clear hlt
            go_wp2_with fail
            go_ret
            refine ⟨A', n, c', rfl, ?_, ?_, HC1.out.trans HC2.out (fun k hk e => by omega)⟩
            · rw [HO.out, ← HJ.out, List.length_map, List.length_range]
              exact HN.out
            · rw [HO.out, ← HJ.out]
              exact own_base HO2.out (Nat.le_succ _)

end Go.Proofs.Ytbbjecjhkjjbkaa
