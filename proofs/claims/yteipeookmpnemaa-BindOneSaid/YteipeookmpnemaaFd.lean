/-
  Walks: rutterref02.Bytes, Parse. Conditions: the frame may be; the bytes are read in memory.
-/
import Derived.Test.YteipeookmpnemaaFc
import Derived.Test.YteipeookmpnemaaVa
import Derived.Test.YteipeookmpnemaaRs
namespace Go.Proofs.Yteipeookmpnemaa
open Go.RowKit
set_option linter.unusedVariables false

/-- A frame's bytes. -/
def frameB (d s t : Int) (l : List UInt8) : List UInt8 := be 6 d.toNat ++ (be 6 s.toNat ++ (be 2 t.toNat ++ l))

/-- The numbers of a frame's bytes. -/
def fD (b : List UInt8) : Int := (num (b.take 6) : Int)
def fS (b : List UInt8) : Int := (num ((b.drop 6).take 6) : Int)
def fT (b : List UInt8) : Int := (num ((b.drop 12).take 2) : Int)
theorem num_take_lt (b : List UInt8) (n : Nat) (h : n ≤ b.length) : num (b.take n) < 256 ^ n := by
  have := num_lt (b.take n)
  rwa [List.length_take, Nat.min_eq_left h] at this
theorem get_six (b : List UInt8) (h : 6 ≤ b.length) : getS 6 (some b) = ((num (b.take 6) : Int), some (b.drop 6)) := by
  have h2 := num_take_lt b 6 h
  exact if_pos ⟨by omega, by omega, h, by show num (b.take 6) < _; omega⟩
theorem get_two (b : List UInt8) (h : 2 ≤ b.length) : getS 2 (some b) = ((num (b.take 2) : Int), some (b.drop 2)) := by
  have h2 := num_take_lt b 2 h
  exact if_pos ⟨by omega, by omega, h, by show num (b.take 2) < _; omega⟩
theorem fD_lt (b : List UInt8) (h : 14 ≤ b.length) : 0 ≤ fD b ∧ fD b ≤ 281474976710655 := by
  have := num_take_lt b 6 (by omega)
  unfold fD
  omega
theorem fS_lt (b : List UInt8) (h : 14 ≤ b.length) : 0 ≤ fS b ∧ fS b ≤ 281474976710655 := by
  have := num_take_lt (b.drop 6) 6 (by rw [List.length_drop]; omega)
  unfold fS
  omega
theorem fT_lt (b : List UInt8) (h : 14 ≤ b.length) : 0 ≤ fT b ∧ fT b ≤ 65535 := by
  have := num_take_lt (b.drop 12) 2 (by rw [List.length_drop]; omega)
  unfold fT
  omega

def zeroF : Value := .agg #[.int .u64 0, .int .u64 0, .int .i64 0, .slice none 0 0]
/-- What a call that makes a frame of bytes hands back. -/
def Framed (b : List UInt8) (w : World) (e : Ending) (w' : World) : Prop :=
  ∃ D k dc, e = .returned (.tuple #[.agg #[.int .u64 (fD b), .int .u64 (fS b), .int .i64 (fT b), .slice D k dc], .int .i64 0]) ∧ k = (b.drop 14).length ∧ Rds w' (fun k => w.heap.size ≤ k) D k (bcs (b.drop 14)) ∧ Chg (fun _ => False) w w'

end Go.Proofs.Yteipeookmpnemaa
