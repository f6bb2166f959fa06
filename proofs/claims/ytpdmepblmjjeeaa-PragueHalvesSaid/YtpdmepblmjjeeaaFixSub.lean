/-
  What package fix's Sub returns, and the document's, for all numbers of 64 bits. No condition.
-/
import Derived.Test.YtpdmepblmjjeeaaFixAdd
namespace Go.Proofs.Ytpdmepblmjjeeaa
open Go.ChangeShapes Go.WideShapes Go.ChangeAt Go.RowKit
set_option linter.unusedVariables false

theorem sub_any (a b : Nat) (w : World) (ha : a < 18446744073709551616) (hb : b < 18446744073709551616) :
    Calls Try.prog 46 #[.int .u64 a, .int .u64 b] w fun e w' => e = .returned (.int .u64 ((Wig.fsub a b : Nat) : Int)) ∧ w = w' := by
  by_cases h : a < b
  all_goals
    go_enter Try.func46, Try.ntmps46
    go_wp2
    go_ret
    exact ⟨ret_u64 (by unfold Wig.fsub; omega), rfl⟩

theorem rsub_any (a b : Nat) (w : World) (ha : a < 18446744073709551616) (hb : b < 18446744073709551616) :
    Calls Try.prog 33 #[.int .u64 a, .int .u64 b] w fun e w' => e = .returned (.int .u64 ((Wig.fsub a b : Nat) : Int)) ∧ w = w' := by
  by_cases h : a < b
  all_goals
    go_enter Try.func33, Try.ntmps33
    go_wp2
    go_ret
    exact ⟨ret_u64 (by unfold Wig.fsub; omega), rfl⟩

end Go.Proofs.Ytpdmepblmjjeeaa
