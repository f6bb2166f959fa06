/-
  What package fix's Add returns, and the document's, for all numbers of 64 bits. No condition.
-/
import Derived.Test.YtpdmepblmjjeeaaRows
import Derived.Test.YtpdmepblmjjeeaaFixMath
import Derived.Laws.Externs
import Derived.Lib.Hide
import Derived.WalkKit
import Derived.ProofKit
import Derived.OpenShut
namespace Go.Proofs.Ytpdmepblmjjeeaa
open Go.ChangeShapes Go.WideShapes Go.ChangeAt Go.RowKit
set_option linter.unusedVariables false

theorem ret_u64 {a b : Int} (h : a = b) : Ending.returned (.int .u64 a) = .returned (.int .u64 b) := by rw [h]

theorem add64_run (a b : Nat) (w : World) :
    (callFunc 43 #[.int .u64 a, .int .u64 b, .int .u64 0]).run Try.prog w =
      .ok (.value (.tuple #[.int .u64 (((a + b) % 18446744073709551616 : Nat) : Int), .int .u64 (((a + b) / 18446744073709551616 : Nat) : Int)])) w := by
  rw [run_callFunc_extern Try.func43 (by kernel_rfl) (by kernel_rfl) (by kernel_rfl) (e := add64Entry) (by kernel_rfl)]
  rw [run_add64 (P := Try.prog) a b 0 (by omega) (by omega) (by omega) (by omega)]
  simp only [Result.andThen]
  congr 5 <;> omega

theorem add_any (a b : Nat) (w : World) (ha : a < 18446744073709551616) (hb : b < 18446744073709551616) :
    Calls Try.prog 24 #[.int .u64 a, .int .u64 b] w fun e w' => e = .returned (.int .u64 ((Wig.fadd a b : Nat) : Int)) ∧ w = w' := by
  by_cases h : a + b < 18446744073709551616
  · have h1 : (((a + b) / 18446744073709551616 : Nat) : Int) = 0 := by omega
    have h2 : (((a + b) % 18446744073709551616 : Nat) : Int) = ((Wig.fadd a b : Nat) : Int) := by unfold Wig.fadd; rw [if_pos h]; omega
    have hr : ∀ w, (callFunc 43 #[.int .u64 a, .int .u64 b, .int .u64 0]).run Try.prog w = .ok (.value (.tuple #[.int .u64 ((Wig.fadd a b : Nat) : Int), .int .u64 0])) w := by
      intro w; rw [add64_run, h1, h2]
    clear h1 h2
    go_enter Try.func24, Try.ntmps24
    go_wp2_with (simp only [hr])
    go_ret
    exact ⟨rfl, rfl⟩
  · have h1 : (((a + b) / 18446744073709551616 : Nat) : Int) = 1 := by omega
    have hr : ∀ w, (callFunc 43 #[.int .u64 a, .int .u64 b, .int .u64 0]).run Try.prog w = .ok (.value (.tuple #[.int .u64 (((a + b) % 18446744073709551616 : Nat) : Int), .int .u64 1])) w := by
      intro w; rw [add64_run, h1]
    clear h1
    have hf : Wig.fadd a b = 18446744073709551615 := by unfold Wig.fadd; rw [if_neg h]
    have Hf := Lib.hid hf
    clear hf
    go_enter Try.func24, Try.ntmps24
    go_wp2_with (simp only [hr])
    go_ret
    exact ⟨ret_u64 (by rw [Hf.out]; rfl), rfl⟩

theorem radd_any (a b : Nat) (w : World) (ha : a < 18446744073709551616) (hb : b < 18446744073709551616) :
    Calls Try.prog 27 #[.int .u64 a, .int .u64 b] w fun e w' => e = .returned (.int .u64 ((Wig.fadd a b : Nat) : Int)) ∧ w = w' := by
  by_cases h : a + b < 18446744073709551616
  · have h1 : (a : Int) ≤ 18446744073709551615 - (b : Int) := by omega
    go_enter Try.func27, Try.ntmps27
    go_wp2_with fail
    go_ret
    exact ⟨ret_u64 (by unfold Wig.fadd; rw [if_pos h]; simp), rfl⟩
  · have h1 : 18446744073709551615 - (b : Int) < (a : Int) := by omega
    go_enter Try.func27, Try.ntmps27
    go_wp2_with fail
    go_ret
    exact ⟨ret_u64 (by unfold Wig.fadd; rw [if_neg h]; rfl), rfl⟩
end Go.Proofs.Ytpdmepblmjjeeaa
