/-
  What package pnum's window and Cut return, and the document's, for all numbers and all sizes. No condition.
-/
import Derived.Test.YtmodafmnokiceaaPnmM
import Derived.Test.YtmodafmnokiceaaPost
import Derived.Lib.Hide
import Derived.Deep.QuietTactic
import Derived.BigQuiet
namespace Go.Proofs.Ytmodafmnokiceaa
open Go.ChangeShapes Go.WideShapes Go.ChangeAt Go.RowKit
set_option linter.unusedVariables false

theorem ret_bool {a b : Bool} (h : a = b) : Ending.returned (.bool a) = .returned (.bool b) := by rw [h]
theorem ret_u64 {a b : Int} (h : a = b) : Ending.returned (.int .u64 a) = .returned (.int .u64 b) := by rw [h]
theorem ret_i64 {a b : Int} (h : a = b) : Ending.returned (.int .i64 a) = .returned (.int .i64 b) := by rw [h]

theorem window_any (i : Int) (w : World) :
    Calls Try.prog 32 #[.int .i64 i] w fun e w' => e = .returned (.int .u64 ((Wig.pwin (Wig.pk i) : Nat) : Int)) ∧ w = w' := by
  rcases Wig.pk_cases i with ⟨rfl, h⟩ | ⟨rfl, h⟩ | ⟨rfl, h⟩ | ⟨h', h⟩ <;> rw [h]
  · go_enter Try.func32, Try.ntmps32
    go_wp2_with fail
    go_ret
    exact ⟨rfl, rfl⟩
  · go_enter Try.func32, Try.ntmps32
    go_wp2_with fail
    go_ret
    exact ⟨rfl, rfl⟩
  · go_enter Try.func32, Try.ntmps32
    go_wp2_with fail
    go_ret
    exact ⟨rfl, rfl⟩
  · clear h
    by_cases h1 : i < 1
    · have t1 : decide (i < 1) = true := decide_eq_true h1
      clear h1 h'
      go_enter Try.func32, Try.ntmps32
      go_wp2_with fail
      go_ret
      exact ⟨rfl, rfl⟩
    · by_cases h4 : i = 4
      · subst h4
        clear h1 h'
        go_enter Try.func32, Try.ntmps32
        go_wp2_with fail
        go_ret
        exact ⟨rfl, rfl⟩
      · have t1 : decide (i < 1) = false := decide_eq_false h1
        have t2 : decide (4 < i) = true := decide_eq_true (by omega)
        clear h1 h' h4
        go_enter Try.func32, Try.ntmps32
        go_wp2_with fail
        go_ret
        exact ⟨rfl, rfl⟩

theorem rwindow_any (i : Int) (w : World) :
    Calls Try.prog 33 #[.int .i64 i] w fun e w' => e = .returned (.int .u64 ((Wig.pwin (Wig.pk i) : Nat) : Int)) ∧ w = w' := by
  rcases Wig.pk_cases i with ⟨rfl, h⟩ | ⟨rfl, h⟩ | ⟨rfl, h⟩ | ⟨h', h⟩ <;> rw [h]
  · go_enter Try.func33, Try.ntmps33
    go_wp2_with fail
    go_ret
    exact ⟨rfl, rfl⟩
  · go_enter Try.func33, Try.ntmps33
    go_wp2_with fail
    go_ret
    exact ⟨rfl, rfl⟩
  · go_enter Try.func33, Try.ntmps33
    go_wp2_with fail
    go_ret
    exact ⟨rfl, rfl⟩
  · clear h
    by_cases h1 : i < 1
    · have t1 : decide (i < 1) = true := decide_eq_true h1
      clear h1 h'
      go_enter Try.func33, Try.ntmps33
      go_wp2_with fail
      go_ret
      exact ⟨rfl, rfl⟩
    · by_cases h4 : i = 4
      · subst h4
        clear h1 h'
        go_enter Try.func33, Try.ntmps33
        go_wp2_with fail
        go_ret
        exact ⟨rfl, rfl⟩
      · have t1 : decide (i < 1) = false := decide_eq_false h1
        have t2 : decide (4 < i) = true := decide_eq_true (by omega)
        clear h1 h' h4
        go_enter Try.func33, Try.ntmps33
        go_wp2_with fail
        go_ret
        exact ⟨rfl, rfl⟩

theorem cut_any (a : Nat) (i : Int) (w : World) :
    Calls Try.prog 20 #[.int .u64 (a : Int), .int .i64 i] w fun e w' => e = .returned (.int .u64 ((a % Wig.pwin (Wig.pk i) : Nat) : Int)) ∧ w = w' := by
  have C := Lib.hid (window_any i)
  obtain ⟨g, hg⟩ : ∃ g, g = Wig.pwin (Wig.pk i) := ⟨_, rfl⟩
  have h0 : ¬ g = 0 := by have := Wig.pwin_four (Wig.pk i); omega
  rw [← hg] at C ⊢
  clear hg
  go_enter Try.func20, Try.ntmps20
  go_wp2_with fail
  refine (C.out _).mono ?_
  rintro e w' ⟨rfl, rfl⟩
  go_wp2_with fail
  go_ret
  exact ⟨ret_u64 (by omega), rfl⟩

theorem rcut_any (a : Nat) (i : Int) (w : World) :
    Calls Try.prog 23 #[.int .u64 (a : Int), .int .i64 i] w fun e w' => e = .returned (.int .u64 ((a % Wig.pwin (Wig.pk i) : Nat) : Int)) ∧ w = w' := by
  have C := Lib.hid (rwindow_any i)
  obtain ⟨g, hg⟩ : ∃ g, g = Wig.pwin (Wig.pk i) := ⟨_, rfl⟩
  have h0 : ¬ g = 0 := by have := Wig.pwin_four (Wig.pk i); omega
  rw [← hg] at C ⊢
  clear hg
  go_enter Try.func23, Try.ntmps23
  go_wp2_with fail
  refine (C.out _).mono ?_
  rintro e w' ⟨rfl, rfl⟩
  go_wp2_with fail
  go_ret
  exact ⟨ret_u64 (by omega), rfl⟩
end Go.Proofs.Ytmodafmnokiceaa
