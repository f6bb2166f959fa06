/-
  What package fix's Add, Sub and Mul return, for all numbers of 64 bits. No condition.
-/
import Derived.Test.YtfgnpikfnfbaaaaRows
import Derived.Test.YtfgnpikfnfbaaaaFixMath
import Derived.Test.YtfgnpikfnfbaaaaShelf
import Derived.Laws.Externs
import Derived.Lib.Hide
import Derived.WalkKit
import Derived.ProofKit
import Derived.OpenShut
namespace Go.Proofs.Ytfgnpikfnfbaaaa
open Go.ChangeShapes Go.WideShapes Go.ChangeAt Go.RowKit

theorem ret_u64 {a b : Int} (h : a = b) : Ending.returned (.int .u64 a) = .returned (.int .u64 b) := by rw [h]

theorem add64_run (a b : Nat) (w : World) :
    (callFunc 23 #[.int .u64 a, .int .u64 b, .int .u64 0]).run Try.prog w =
      .ok (.value (.tuple #[.int .u64 (((a + b) % 18446744073709551616 : Nat) : Int), .int .u64 (((a + b) / 18446744073709551616 : Nat) : Int)])) w := by
  rw [run_callFunc_extern Try.func23 (by kernel_rfl) (by kernel_rfl) (by kernel_rfl) (e := add64Entry) (by kernel_rfl)]
  rw [run_add64 (P := Try.prog) a b 0 (by omega) (by omega) (by omega) (by omega)]
  simp only [Result.andThen]
  congr 5 <;> omega

theorem add_any (a b : Nat) (w : World) (ha : a < 18446744073709551616) (hb : b < 18446744073709551616) :
    Calls Try.prog 11 #[.int .u64 a, .int .u64 b] w fun e w' => e = .returned (.int .u64 ((Wig.fadd a b : Nat) : Int)) ∧ w = w' := by
  by_cases h : a + b < 18446744073709551616
  · have h1 : (((a + b) / 18446744073709551616 : Nat) : Int) = 0 := by omega
    have h2 : (((a + b) % 18446744073709551616 : Nat) : Int) = ((Wig.fadd a b : Nat) : Int) := by unfold Wig.fadd; rw [if_pos h]; omega
    have hr : ∀ w, (callFunc 23 #[.int .u64 a, .int .u64 b, .int .u64 0]).run Try.prog w = .ok (.value (.tuple #[.int .u64 ((Wig.fadd a b : Nat) : Int), .int .u64 0])) w := by
      intro w; rw [add64_run, h1, h2]
    clear h1 h2
    go_enter Try.func11, Try.ntmps11
    go_wp2_with (simp only [hr])
    go_ret
    exact ⟨rfl, rfl⟩
  · have h1 : (((a + b) / 18446744073709551616 : Nat) : Int) = 1 := by omega
    have hr : ∀ w, (callFunc 23 #[.int .u64 a, .int .u64 b, .int .u64 0]).run Try.prog w = .ok (.value (.tuple #[.int .u64 (((a + b) % 18446744073709551616 : Nat) : Int), .int .u64 1])) w := by
      intro w; rw [add64_run, h1]
    clear h1
    have hf : Wig.fadd a b = 18446744073709551615 := by unfold Wig.fadd; rw [if_neg h]
    have Hf := Lib.hid hf
    clear hf
    go_enter Try.func11, Try.ntmps11
    go_wp2_with (simp only [hr])
    go_ret
    exact ⟨ret_u64 (by rw [Hf.out]; rfl), rfl⟩

theorem sub_any (a b : Nat) (w : World) (ha : a < 18446744073709551616) (hb : b < 18446744073709551616) :
    Calls Try.prog 13 #[.int .u64 a, .int .u64 b] w fun e w' => e = .returned (.int .u64 ((Wig.fsub a b : Nat) : Int)) ∧ w = w' := by
  by_cases h : a < b
  all_goals
    go_enter Try.func13, Try.ntmps13
    go_wp2
    go_ret
    exact ⟨ret_u64 (by unfold Wig.fsub; omega), rfl⟩

theorem mul_any (a b : Nat) (w : World) (ha : a < 18446744073709551616) (hb : b < 18446744073709551616) :
    Calls Try.prog 15 #[.int .u64 a, .int .u64 b] w fun e w' => e = .returned (.int .u64 ((Wig.fmul a b : Nat) : Int)) ∧ w = w' := by
  have hc := Try.bits_Mul64 a b ha hb
  by_cases h : a * b < 18446744073709551616
  · have h1 : (((a * b) / 18446744073709551616 : Nat) : Int) = 0 := by omega
    have h2 : (((a * b) % 18446744073709551616 : Nat) : Int) = ((Wig.fmul a b : Nat) : Int) := by unfold Wig.fmul; rw [if_pos h]; omega
    rw [h1, h2] at hc
    have Hc := Lib.hid hc
    clear hc h1 h2
    go_enter Try.func15, Try.ntmps15
    go_wp2_with (go_at_call 24; refine (Hc.out _).mono ?_; rintro e w' ⟨rfl, rfl⟩)
    go_ret
    exact ⟨rfl, rfl⟩
  · have h1 : ¬ ((((a * b) / 18446744073709551616 : Nat) : Int)) = 0 := by omega
    have hf : Wig.fmul a b = 18446744073709551615 := by unfold Wig.fmul; rw [if_neg h]
    have Hf := Lib.hid hf
    have Hc := Lib.hid hc
    clear hf hc
    generalize (((a * b) / 18446744073709551616 : Nat) : Int) = q at *
    go_enter Try.func15, Try.ntmps15
    go_wp2_with (go_at_call 24; refine (Hc.out _).mono ?_; rintro e w' ⟨rfl, rfl⟩)
    go_ret
    exact ⟨ret_u64 (by rw [Hf.out]; rfl), rfl⟩

end Go.Proofs.Ytfgnpikfnfbaaaa
