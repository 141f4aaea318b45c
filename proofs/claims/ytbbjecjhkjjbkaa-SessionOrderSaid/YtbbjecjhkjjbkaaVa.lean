/-
  Walks: the document's writer: rutterref01.Fits, One, (*rutterref01.Writer).Put, Puts, Bytes, Done. Conditions: the receiver is such a writer in memory, its bytes are bounded.
-/
import Derived.Test.YtbbjecjhkjjbkaaWd
import Derived.Test.YtbbjecjhkjjbkaaGen
namespace Go.Proofs.Ytbbjecjhkjjbkaa
open Go.RowKit

def fitsR (n x : Int) : Bool := decide (1 ≤ n ∧ n ≤ 8) && fits n.toNat x

theorem div_fits (n : Nat) (x : Int) (hx : 0 ≤ x) : fits n x = (x / 256 ^ n == 0) := by
  have hp : (0 : Int) < 256 ^ n := Int.pow_pos (by decide)
  unfold fits
  have hd : decide (0 ≤ x) = true := by simpa using hx
  rw [hd, Bool.true_and, Bool.eq_iff_iff]
  simp only [decide_eq_true_eq, beq_iff_eq]
  constructor
  · intro h
    exact Int.ediv_eq_zero_of_lt hx h
  · intro h
    by_cases h1 : x < 256 ^ n
    · exact h1
    · exfalso
      have : 1 ≤ x / 256 ^ n := Int.le_ediv_of_mul_le hp (by rw [Int.one_mul]; exact Int.not_lt.1 h1)
      omega
theorem ret_bool {a b : Bool} (h : a = b) : Ending.returned (.bool a) = .returned (.bool b) := by rw [h]

set_option maxRecDepth 100000 in
set_option maxHeartbeats 800000 in
theorem one_any (n : Nat) (x : Int) (w : World) (h1 : 1 ≤ n) (h8 : n ≤ 8) (hx : 0 ≤ x) :
    Calls Try.prog 32 #[.int .i64 n, .int .i64 x] w fun e w' => ∃ A k c, e = .returned (.slice A k c) ∧ k = n ∧ w'.ownsRow w.heap.size 5 1 (.slice A k c) k (bcs (be n x.toNat)) ∧ Chg (fun _ => False) w w' := by
  obtain ⟨i0, hi0, hz0, hz1, hz2⟩ := info_parts infoByte
  go_enter Try.func32, Try.ntmps32
  go_wp2
  go_loopg [5, 6] n (fun g v i wi => ∃ (t : Nat) (y : Int) (A2 : Option Addr) (c2 : Nat), g = n - t ∧ t ≤ n ∧ i = .int .i64 y ∧ y ≤ (n : Int) - 1 - t ∧ (n : Int) - 1 - t ≤ y ∧
    v = .slice A2 t c2 ∧ wi.ownsRow w.heap.size 5 1 (.slice A2 t c2) t (bcs ((be n x.toNat).take t)) ∧ Chg (fun _ => False) w wi)
  case atStart => exact ⟨0, (n : Int) - 1, none, 0, rfl, Nat.zero_le _, by go_num, by omega, by omega, rfl, World.ownsRow_nil _ _ _ _, Chg.refl _ _⟩
  case round =>
    obtain ⟨t, y, A2, c2, rfl, ht, rfl, hy1, hy2, rfl, hown, hC⟩ := hrel
    by_cases htn : t < n
    · obtain ⟨s, rfl⟩ := Int.eq_ofNat_of_zero_le (show 0 ≤ y by omega)
      have hs := hC.size
      have w8 : IntKind.i64.wrap (8 * (s : Int)) = 8 * (s : Int) := IntWalk.i64_in _ (by omega)
      have hs8 : s ≤ 7 := by omega
      go_wp2_with (at_builtin; refine wpList_own_append _ rfl (.tmp 13) (.tmp 20) 22 rfl w.heap.size 5 i0 (.int .u8 0) 1 Try.underlying22 hi0 hz0 hz1 hz2 rfl (.slice A2 t c2) t (bcs ((be n x.toNat).take t)) rfl (hown.alloc _) _ (some ⟨wr.heap.size, 0, none⟩) 1 1 [.int .u8 (x / 2 ^ (8 * s) % 256)] rfl (rds_new1 wr 5 #[.int .u8 (x / 2 ^ (8 * s) % 256)] (0, 0) _ rfl _ _ rfl rfl) (by simp [Value.oneCell']) (by unfold maxLen; omega) (by omega) (by simp only [World.size_alloc]; omega) ?_; intro v1 w2 hown1 hg1 hat1; obtain ⟨D, dc, rfl, _, _⟩ := own_form hown1)
      go_roundg (n - (t + 1))
      case measure => omega
      case rel =>
        refine ⟨t + 1, (s : Int) - 1, D, dc, rfl, by omega, by go_num, by omega, by omega, rfl, ?_, grown_fresh (hC.alloc _) hg1 (hown.alloc _) (Nat.le_refl _)⟩
        have e : bcs ((be n x.toNat).take (t + 1)) = bcs ((be n x.toNat).take t) ++ [.int .u8 (x / 2 ^ (8 * s) % 256)] := by
          rw [be_take _ _ _ htn, bcs_app, show n - 1 - t = s by omega]
          simp only [bcs, List.map_cons, List.map_nil]
          rw [byte_of x s hx, IntKind.wrap_u8']
        rw [e]
        exact hown1
    · obtain rfl : t = n := by omega
      have hyn : y < 0 := by omega
      rw [List.take_of_length_le (by rw [be_len]; omega)] at hown
      go_wp2_with fail
      go_ret
      exact ⟨A2, t, c2, rfl, rfl, hown, hC⟩

end Go.Proofs.Ytbbjecjhkjjbkaa
