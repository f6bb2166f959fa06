/-
  The document's Fields of a Kind. No condition.
-/
import Derived.Test.YtogioabdijgglaaDoorRld
import Derived.Test.YtogioabdijgglaaDoorByt
namespace Go.Proofs.YtogioabdijgglaaDoor
open Go.ChangeShapes Go.WideShapes Go.ChangeAt Go.RowKit Go.Deep
set_option linter.unusedVariables false
/-- Which of the six numbers a Kind has. -/
def six (has : List Nat) : Array Value := #[.bool (has.contains 0), .bool (has.contains 1), .bool (has.contains 2), .bool (has.contains 3), .bool (has.contains 4), .bool (has.contains 5)]
set_option maxHeartbeats 4000000 in
theorem rfields_some (k : Nat) (has : List Nat) (w : World) (h : Wig.flds k = some has) :
    Calls Tryd.prog 27 #[.int .i64 (k : Int)] w fun e w' => e = .returned (.tuple #[.agg (six has), .bool true]) ∧ Below w.heap.size w w' := by
  have B := Lib.hid (fun (o : Obj) => (Below.refl w.heap.size w).alloc (Nat.le_refl _) o)
  have h0 := h
  clear h
  rcases Wig.flds_cases h0 with ⟨rfl, h2⟩ | ⟨rfl, h2⟩ | ⟨rfl, h2⟩ | ⟨rfl, h2⟩ | ⟨rfl, h2⟩ | ⟨rfl, h2⟩ | ⟨rfl, h2⟩ | ⟨rfl, h2⟩ | ⟨rfl, h2⟩ | ⟨rfl, h2⟩ | ⟨rfl, h2⟩ | ⟨rfl, h2⟩ | ⟨rfl, h2⟩ | ⟨rfl, h2⟩ | ⟨rfl, h2⟩
  all_goals
    have H2 := Lib.hid h2
    clear h0 h2
    go_enter Tryd.func27, Tryd.ntmps27
    go_wp2_with fail
    exact bodyPost_ret (v := .tuple #[.agg (six has), .bool true]) (by rw [H2.out]; simp [results, Tryd.results27, six, go_sem]) rfl ⟨rfl, B.out _⟩

theorem kind_not {i : Int} (h : Wig.flds (Wig.knat i) = none) (c : Nat) (hc : (Wig.flds c).isSome = true) (hl : c < 31) : (i == (c : Int)) = false := by
  have : i ≠ (c : Int) := by
    intro e
    have e2 : Wig.knat i = c := by unfold Wig.knat; omega
    rw [e2] at h
    rw [h] at hc
    cases hc
  simpa using this

set_option maxHeartbeats 2000000 in
theorem rfields_none (i : Int) (w : World) (h : Wig.flds (Wig.knat i) = none) :
    Calls Tryd.prog 27 #[.int .i64 i] w fun e w' => e = .returned (.tuple #[.agg (six []), .bool false]) ∧ Below w.heap.size w w' := by
  have B := Lib.hid (fun (o : Obj) => (Below.refl w.heap.size w).alloc (Nat.le_refl _) o)
  have k0 : (i == 0) = false := kind_not h 0 rfl (by decide)
  have k1 : (i == 1) = false := kind_not h 1 rfl (by decide)
  have k2 : (i == 2) = false := kind_not h 2 rfl (by decide)
  have k3 : (i == 3) = false := kind_not h 3 rfl (by decide)
  have k4 : (i == 4) = false := kind_not h 4 rfl (by decide)
  have k5 : (i == 5) = false := kind_not h 5 rfl (by decide)
  have k6 : (i == 6) = false := kind_not h 6 rfl (by decide)
  have k14 : (i == 14) = false := kind_not h 14 rfl (by decide)
  have k16 : (i == 16) = false := kind_not h 16 rfl (by decide)
  have k17 : (i == 17) = false := kind_not h 17 rfl (by decide)
  have k18 : (i == 18) = false := kind_not h 18 rfl (by decide)
  have k20 : (i == 20) = false := kind_not h 20 rfl (by decide)
  have k21 : (i == 21) = false := kind_not h 21 rfl (by decide)
  have k28 : (i == 28) = false := kind_not h 28 rfl (by decide)
  have k30 : (i == 30) = false := kind_not h 30 rfl (by decide)
  clear h
  go_enter Tryd.func27, Tryd.ntmps27
  go_wp2_with fail
  exact bodyPost_ret (v := .tuple #[.agg (six []), .bool false]) (by simp [results, Tryd.results27, six, go_sem]) rfl ⟨rfl, B.out _⟩
end Go.Proofs.YtogioabdijgglaaDoor
