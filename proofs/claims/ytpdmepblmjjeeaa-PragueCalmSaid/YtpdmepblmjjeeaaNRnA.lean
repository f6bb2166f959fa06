/-
  What package reno's Held, New, elder, wider and the closure of Ack return, for all numbers of 64 bits. No condition.
-/
import Derived.Test.YtpdmepblmjjeeaaRenM
import Derived.Test.YtpdmepblmjjeeaaFixMu2
import Derived.Test.YtpdmepblmjjeeaaBxN
import Derived.Laws.StructEq
import Derived.Laws.EntriesVeiled
import Derived.Deep.DeepCutAuto
namespace Go.Proofs.Ytpdmepblmjjeeaa.Rno
open Go.ChangeShapes Go.WideShapes Go.ChangeAt Go.RowKit
set_option linter.unusedVariables false

/-- Two windows compared: the model's '==' and '!='. -/
theorem reno_guard : Try.prog.eqGuardType Try.prog.depth 24 = false := by kernel_rfl
theorem reno_same (a b c d : Int) (w : World) : (binOp .eql 24 (.agg #[.int .u64 a, .int .u64 b, .int .u64 c, .int .u64 d]) (.agg #[.int .u64 a, .int .u64 b, .int .u64 c, .int .u64 d])).run Try.prog w = .ok (.bool true) w := by
  have u := Try.underlying22
  have a1 := Try.isAgg22
  have z := Try.sizeOf22
  have hS : Try.prog.underlying 24 = some (.struct (Try.prog.fieldsOf 24)) := by kernel_rfl
  have hp : Try.prog.stoodInHeld 24 = false := by kernel_rfl
  rw [run_eql_struct, show (10000 : Nat) = 9999 + 1 from rfl, run_equalIn_agg w 9999 24 _ _ hS hp]
  simp only [Program.fieldsOf, Try.underlying24]
  go_simp
theorem reno_ne (a b c d : Int) (w : World) : (binOp .neq 24 (.agg #[.int .u64 a, .int .u64 b, .int .u64 c, .int .u64 d]) (.agg #[.int .u64 a, .int .u64 b, .int .u64 c, .int .u64 d])).run Try.prog w = .ok (.bool false) w := by
  have u := Try.underlying22
  have a1 := Try.isAgg22
  have z := Try.sizeOf22
  have hS : Try.prog.underlying 24 = some (.struct (Try.prog.fieldsOf 24)) := by kernel_rfl
  have hp : Try.prog.stoodInHeld 24 = false := by kernel_rfl
  rw [run_neq_struct, show (10000 : Nat) = 9999 + 1 from rfl, run_equalIn_agg w 9999 24 _ _ hS hp]
  simp only [Program.fieldsOf, Try.underlying24]
  go_simp
theorem reno_other (a b c d e : Int) (h : (e == c) = false) (w : World) : (binOp .neq 24 (.agg #[.int .u64 a, .int .u64 b, .int .u64 e, .int .u64 d]) (.agg #[.int .u64 a, .int .u64 b, .int .u64 c, .int .u64 d])).run Try.prog w = .ok (.bool true) w := by
  have u := Try.underlying22
  have a1 := Try.isAgg22
  have z := Try.sizeOf22
  have hS : Try.prog.underlying 24 = some (.struct (Try.prog.fieldsOf 24)) := by kernel_rfl
  have hp : Try.prog.stoodInHeld 24 = false := by kernel_rfl
  rw [run_neq_struct, show (10000 : Nat) = 9999 + 1 from rfl, run_equalIn_agg w 9999 24 _ _ hS hp]
  simp only [Program.fieldsOf, Try.underlying24]
  go_simp

/-- The first number of a window that lies in a slot. -/
theorem reno_field (a b c d : Value) (w : World) : (Instr.field 24 (.agg #[a, b, c, d]) 0).run Try.prog w = .ok a w := rfl

theorem held_any (n r : Nat) (w : World) (hr : Wig.nheld n = r) : Calls Try.prog 42 #[.int .u64 (n : Int)] w fun e w' => e = .returned (.int .u64 (r : Int)) ∧ w = w' := by
  obtain ⟨m, hm⟩ : ∃ m, m = max n 2400 := ⟨_, rfl⟩
  have e1 : ∀ ts t w, (Builtin.max_ ts t #[.int .u64 (n : Int), .int .u64 2400]).run Try.prog w = .ok (.int .u64 (m : Int)) w := by
    intro ts t w
    rw [run_max_int2, show (if (2400 : Int) > (n : Int) then (2400 : Int) else (n : Int)) = (m : Int) by split <;> omega]
  have e2 : ∀ ts t w, (Builtin.min_ ts t #[.int .u64 (m : Int), .int .u64 16777216]).run Try.prog w = .ok (.int .u64 (r : Int)) w := by
    intro ts t w
    rw [run_min_int2, show (if (16777216 : Int) < (m : Int) then (16777216 : Int) else (m : Int)) = (r : Int) by
      unfold Wig.nheld at hr
      split
      · rw [if_neg (by omega), if_pos (by omega)] at hr; omega
      · split at hr
        · omega
        · rw [if_neg (by omega)] at hr; omega]
  clear hm hr
  go_enter Try.func42, Try.ntmps42
  go_wp2_with fail
  go_ret
  exact ⟨rfl, rfl⟩
theorem new_any (w : World) : Calls Try.prog 19 #[] w fun e w' => e = .returned (.agg #[.int .u64 12000, .int .u64 16777216, .int .u64 0, .int .u64 0]) ∧ Below w.heap.size w w' := by
  have B := Lib.hid (fun (o : Obj) => (Below.refl w.heap.size w).alloc (Nat.le_refl _) o)
  go_enter Try.func19, Try.ntmps19
  go_wp2_with fail
  exact bodyPost_ret (v := .agg #[.int .u64 12000, .int .u64 16777216, .int .u64 0, .int .u64 0]) (by simp [results, Try.results19, go_sem]) rfl ⟨rfl, B.out _⟩

set_option maxHeartbeats 2000000 in
theorem elder_any (c t s r a : Nat) (q : Bool) (w : World) (hs : s < 18446744073709551616) (ha : a < 18446744073709551616) (hq : decide (a < s) = q) :
    Calls Try.prog 39 #[aggRn c t s r, .int .u64 (a : Int)] w fun e w' => e = .returned (.bool q) ∧ Below w.heap.size w w' := by
  have g := reno_guard
  have B := Lib.hid (fun (o o' : Obj) => ((Below.refl w.heap.size w).alloc (Nat.le_refl _) o).alloc (by simp) o')
  by_cases h : a < s
  · rw [decide_eq_true h] at hq
    subst hq
    have ne := reno_other c t s r a (by simp; omega)
    clear hs ha
    go_enter Try.func39, Try.ntmps39
    go_wp2_with fail
    go_ret
    exact ⟨rfl, B.out _ _⟩
  · rw [decide_eq_false h] at hq
    subst hq
    have ne := reno_ne c t s r
    clear hs ha
    go_enter Try.func39, Try.ntmps39
    go_wp2_with fail
    go_ret
    exact ⟨rfl, B.out _ _⟩
end Go.Proofs.Ytpdmepblmjjeeaa.Rno
