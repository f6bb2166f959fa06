/-
  Plain mathematics under the contracts of package rtt: what is known behind an answer more, how long a sender waits, and that timeouts double. No condition: nothing of the program is named here.
-/
import Derived.Test.YteaodhgfmbcmfaaFixMath
namespace Wig
/-- An estimate. -/
structure Rt where
  has : Bool
  last : Nat
  low : Nat
  smooth : Nat
  far : Nat
deriving DecidableEq
/-- All its numbers are of 64 bits. -/
def Rt.Ok (r : Rt) : Prop := r.last < 18446744073709551616 ∧ r.low < 18446744073709551616 ∧ r.smooth < 18446744073709551616 ∧ r.far < 18446744073709551616

def rguess : Rt := ⟨false, 0, 0, 333, 166⟩
def rknown (r : Rt) : Rt := if r.has = true then r else rguess
/-- The sample without a delay. -/
def rown (s low wait : Nat) : Nat := if s < fadd low wait then s else s - wait
def rgap (a b : Nat) : Nat := max a b - min a b
def rup (r : Rt) (s d m : Nat) : Rt :=
  if r.has = true then
    ⟨true, s, min r.low s, fadd (r.smooth - r.smooth / 8) (rown s (min r.low s) (min d m) / 8), fadd (r.far - r.far / 4) (rgap (rown s (min r.low s) (min d m)) r.smooth / 4)⟩
  else ⟨true, s, s, s, s / 2⟩
def ronce (r : Rt) (m : Nat) : Nat := fadd (fadd r.smooth (max (fmul 4 r.far) 1)) m
/-- How often a timeout is doubled. -/
def rcnt (c : Int) : Nat := (max 0 (min c 10)).toNat
def rwait (r : Rt) (m : Nat) (c : Int) : Nat := fmul (ronce (rknown r) m) (2 ^ rcnt c)
def rlate (r : Rt) : Nat :=
  max (fadd (max (rknown r).smooth (rknown r).last) (max (rknown r).smooth (rknown r).last / 8)) 1

theorem fadd_le (a b : Nat) : fadd a b < 18446744073709551616 := by unfold fadd; split <;> omega
theorem fmul_le (a b : Nat) : fmul a b < 18446744073709551616 := by unfold fmul; split <;> omega
theorem rown_le (s low wait : Nat) : rown s low wait ≤ s := by unfold rown; split <;> omega
theorem rgap_lt {a b n : Nat} (ha : a < n) (hb : b < n) : rgap a b < n := by unfold rgap; omega
theorem rgap_swap (a b : Nat) : rgap a b = rgap b a := by unfold rgap; omega
theorem rknown_ok {r : Rt} (h : r.Ok) : (rknown r).Ok := by
  unfold rknown
  split
  · exact h
  · exact ⟨by decide, by decide, by decide, by decide⟩
theorem rup_ok {r : Rt} {s d m : Nat} (hs : s < 18446744073709551616) : (rup r s d m).Ok := by
  unfold rup
  split
  · exact ⟨hs, Nat.lt_of_le_of_lt (Nat.min_le_right _ _) hs, fadd_le _ _, fadd_le _ _⟩
  · exact ⟨hs, hs, hs, by show s / 2 < _; omega⟩
theorem ronce_lt (r : Rt) (m : Nat) : ronce r m < 18446744073709551616 := fadd_le _ _
theorem rwait_lt (r : Rt) (m : Nat) (c : Int) : rwait r m c < 18446744073709551616 := fmul_le _ _
theorem rcnt_le (c : Int) : rcnt c ≤ 10 := by unfold rcnt; omega
/-- A product that stops, doubled, is the doubled product that stops. -/
theorem fmul_twice {a : Nat} (k : Nat) : fmul (fmul a (2 ^ k)) 2 = fmul a (2 ^ (k + 1)) := by
  have e : a * 2 ^ (k + 1) = a * 2 ^ k * 2 := by rw [Nat.pow_succ, Nat.mul_assoc]
  unfold fmul
  rw [e]
  generalize a * 2 ^ k = p
  by_cases h : p < 18446744073709551616
  · rw [if_pos h]
  · rw [if_neg h, if_neg (by omega), if_neg (by omega)]
theorem fmul_one' {a : Nat} (h : a < 18446744073709551616) : fmul a (2 ^ 0) = a := by unfold fmul; rw [Nat.pow_zero, Nat.mul_one, if_pos h]
theorem rwait_double {r : Rt} {m : Nat} {c : Int} (h0 : 0 ≤ c) (h1 : c ≤ 9) : rwait r m (c + 1) = fmul (rwait r m c) 2 := by
  unfold rwait
  rw [show rcnt (c + 1) = rcnt c + 1 by unfold rcnt; omega, fmul_twice]
theorem rwait_top (r : Rt) (m : Nat) : rwait r m 10 = rwait r m 11 := rfl
theorem rwait_low (r : Rt) (m : Nat) : rwait r m 0 = rwait r m (-1) := rfl
theorem rwait_zero (r : Rt) (m : Nat) : rwait r m 0 = ronce (rknown r) m := fmul_one' (ronce_lt _ _)
end Wig
