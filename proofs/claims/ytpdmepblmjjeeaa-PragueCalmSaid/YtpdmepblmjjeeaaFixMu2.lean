/-
  What package fix's Mul returns, and the document's, for all numbers of 64 bits. No condition.
-/
import Derived.Test.YtpdmepblmjjeeaaFixDiv
import Derived.Test.YtpdmepblmjjeeaaShelf
namespace Go.Proofs.Ytpdmepblmjjeeaa
open Go.ChangeShapes Go.WideShapes Go.ChangeAt Go.RowKit
set_option linter.unusedVariables false

theorem mul_any (a b : Nat) (w : World) (ha : a < 18446744073709551616) (hb : b < 18446744073709551616) :
    Calls Try.prog 41 #[.int .u64 a, .int .u64 b] w fun e w' => e = .returned (.int .u64 ((Wig.fmul a b : Nat) : Int)) ∧ w = w' := by
  have hc := Try.bits_Mul64 a b ha hb
  by_cases h : a * b < 18446744073709551616
  · have h1 : (((a * b) / 18446744073709551616 : Nat) : Int) = 0 := by omega
    have h2 : (((a * b) % 18446744073709551616 : Nat) : Int) = ((Wig.fmul a b : Nat) : Int) := by unfold Wig.fmul; rw [if_pos h]; omega
    rw [h1, h2] at hc
    have Hc := Lib.hid hc
    clear hc h1 h2
    go_enter Try.func41, Try.ntmps41
    go_wp2_with (go_at_call 48; refine (Hc.out _).mono ?_; rintro e w' ⟨rfl, rfl⟩)
    go_ret
    exact ⟨rfl, rfl⟩
  · have h1 : ¬ ((((a * b) / 18446744073709551616 : Nat) : Int)) = 0 := by omega
    have hf : Wig.fmul a b = 18446744073709551615 := by unfold Wig.fmul; rw [if_neg h]
    have Hf := Lib.hid hf
    have Hc := Lib.hid hc
    clear hf hc
    generalize (((a * b) / 18446744073709551616 : Nat) : Int) = q at *
    go_enter Try.func41, Try.ntmps41
    go_wp2_with (go_at_call 48; refine (Hc.out _).mono ?_; rintro e w' ⟨rfl, rfl⟩)
    go_ret
    exact ⟨ret_u64 (by rw [Hf.out]; rfl), rfl⟩

theorem rmul_any (a b : Nat) (w : World) (ha : a < 18446744073709551616) (hb : b < 18446744073709551616) :
    Calls Try.prog 45 #[.int .u64 a, .int .u64 b] w fun e w' => e = .returned (.int .u64 ((Wig.fmul a b : Nat) : Int)) ∧ w = w' := by
  by_cases hb0 : b = 0
  · subst hb0
    have hf : Wig.fmul a 0 = 0 := by unfold Wig.fmul; rw [Nat.mul_zero, if_pos (by decide)]
    have Hf := Lib.hid hf
    clear hf
    go_enter Try.func45, Try.ntmps45
    go_wp2_with fail
    go_ret
    exact ⟨ret_u64 (by rw [Hf.out]; simp), rfl⟩
  · have hb1 : decide (0 < b) = true := decide_eq_true (by omega)
    have hbz : ((b : Int) == 0) = false := by simp; omega
    have hb2 : 1 ≤ b := by omega
    obtain ⟨q, hq⟩ : ∃ q, q = 18446744073709551615 / b := ⟨_, rfl⟩
    have hqe : (18446744073709551615 : Int) / (b : Int) = (q : Int) := by rw [hq]; exact (Int.natCast_ediv _ _).symm
    have hqb : q < 18446744073709551616 := by rw [hq]; exact Nat.lt_of_le_of_lt (Nat.div_le_self _ _) (by decide)
    by_cases h : a * b < 18446744073709551616
    · have h1 : decide (q < a) = false := decide_eq_false (by rw [hq, Nat.div_lt_iff_lt_mul (by omega)]; omega)
      have hm : IntKind.u64.wrap ((a : Int) * (b : Int)) = ((Wig.fmul a b : Nat) : Int) := by rw [mul_nat h]; unfold Wig.fmul; rw [if_pos h]
      clear h hq hb0
      go_enter Try.func45, Try.ntmps45
      go_wp2_with fail
      go_ret
      exact ⟨rfl, rfl⟩
    · have h1 : decide (q < a) = true := decide_eq_true (by rw [hq, Nat.div_lt_iff_lt_mul (by omega)]; omega)
      have hf : Wig.fmul a b = 18446744073709551615 := by unfold Wig.fmul; rw [if_neg h]
      have Hf := Lib.hid hf
      clear h hq hf hb0
      go_enter Try.func45, Try.ntmps45
      go_wp2_with fail
      go_ret
      exact ⟨ret_u64 (by rw [Hf.out]; rfl), rfl⟩
end Go.Proofs.Ytpdmepblmjjeeaa
