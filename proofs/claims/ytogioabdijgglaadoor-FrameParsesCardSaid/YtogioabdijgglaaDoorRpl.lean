/-
  The document's count and plain of layer 5, at a Kind that is. No condition.
-/
import Derived.Test.YtogioabdijgglaaDoorRad
import Derived.Test.YtogioabdijgglaaDoorRfd
import Derived.Test.YtogioabdijgglaaDoorFrA
namespace Go.Proofs.YtogioabdijgglaaDoor
open Go.ChangeShapes Go.WideShapes Go.ChangeAt Go.RowKit Go.Deep
set_option linter.unusedVariables false
set_option maxHeartbeats 4000000 in
theorem rcount_any (k : Nat) (has : List Nat) (w : World) (h : Wig.flds k = some has) :
    Calls Tryd.prog 44 #[.int .i64 (k : Int)] w fun e w' => e = .returned (.int .i64 ((Wig.dcount k : Nat) : Int)) ∧ w = w' := by
  have h0 := h
  clear h
  rcases Wig.flds_cases h0 with ⟨rfl, h2⟩ | ⟨rfl, h2⟩ | ⟨rfl, h2⟩ | ⟨rfl, h2⟩ | ⟨rfl, h2⟩ | ⟨rfl, h2⟩ | ⟨rfl, h2⟩ | ⟨rfl, h2⟩ | ⟨rfl, h2⟩ | ⟨rfl, h2⟩ | ⟨rfl, h2⟩ | ⟨rfl, h2⟩ | ⟨rfl, h2⟩ | ⟨rfl, h2⟩ | ⟨rfl, h2⟩
  all_goals
    clear h0 h2
    go_enter Tryd.func44, Tryd.ntmps44
    go_wp2_with fail
    go_ret
    exact ⟨rfl, rfl⟩
set_option maxHeartbeats 8000000 in
theorem rplain_three (k lb lo c : Nat) (x y z : Nat) (w : World) (hk : k = 4 ∨ k = 6 ∨ k = 14) (hr : RdN .u64 w w.heap.size (some ⟨lb, lo, none⟩) [x, y, z]) :
    Calls Tryd.prog 45 #[.int .i64 (k : Int), .slice (some ⟨lb, lo, none⟩) 3 c] w fun e w' => e = .returned (.agg (farr (Wig.dplain k [x, y, z]) none 0 none 0)) ∧ Below w.heap.size w w' := by
  obtain ⟨_, _, e0, lw, c0⟩ := hr.at_ (j := 0) (x := x) rfl
  obtain ⟨_, _, e1, _, c1⟩ := hr.at_ (j := 1) (x := y) rfl
  obtain ⟨_, _, e2, _, c2⟩ := hr.at_ (j := 2) (x := z) rfl
  cases e0
  cases e1
  cases e2
  simp only [Nat.add_zero] at c0
  have B := Lib.hid (fun (o p : Obj) => ((Below.refl w.heap.size w).alloc (Nat.le_refl _) o).alloc (by simp) p)
  clear hr
  rcases hk with rfl | rfl | rfl
  all_goals
    go_enter Tryd.func45, Tryd.ntmps45
    go_wp2_with fail
    exact bodyPost_ret (v := .agg (farr (Wig.dplain _ [x, y, z]) none 0 none 0)) (by simp [results, Tryd.results45, farr, Wig.dplain, Wig.Fr.zero, go_sem]) rfl ⟨rfl, B.out _ _⟩
set_option maxHeartbeats 8000000 in
theorem rplain_two (k lb lo c : Nat) (x y : Nat) (w : World) (hk : k = 5 ∨ k = 17 ∨ k = 21) (hr : RdN .u64 w w.heap.size (some ⟨lb, lo, none⟩) [x, y]) :
    Calls Tryd.prog 45 #[.int .i64 (k : Int), .slice (some ⟨lb, lo, none⟩) 2 c] w fun e w' => e = .returned (.agg (farr (Wig.dplain k [x, y]) none 0 none 0)) ∧ Below w.heap.size w w' := by
  obtain ⟨_, _, e0, lw, c0⟩ := hr.at_ (j := 0) (x := x) rfl
  obtain ⟨_, _, e1, _, c1⟩ := hr.at_ (j := 1) (x := y) rfl
  cases e0
  cases e1
  simp only [Nat.add_zero] at c0
  have B := Lib.hid (fun (o p : Obj) => ((Below.refl w.heap.size w).alloc (Nat.le_refl _) o).alloc (by simp) p)
  clear hr
  rcases hk with rfl | rfl | rfl
  all_goals
    go_enter Tryd.func45, Tryd.ntmps45
    go_wp2_with fail
    exact bodyPost_ret (v := .agg (farr (Wig.dplain _ [x, y]) none 0 none 0)) (by simp [results, Tryd.results45, farr, Wig.dplain, Wig.Fr.zero, go_sem]) rfl ⟨rfl, B.out _ _⟩
set_option maxHeartbeats 8000000 in
theorem rplain_one (k lb lo c : Nat) (x : Nat) (w : World) (hk : k = 16 ∨ k = 18 ∨ k = 20 ∨ k = 28) (hr : RdN .u64 w w.heap.size (some ⟨lb, lo, none⟩) [x]) :
    Calls Tryd.prog 45 #[.int .i64 (k : Int), .slice (some ⟨lb, lo, none⟩) 1 c] w fun e w' => e = .returned (.agg (farr (Wig.dplain k [x]) none 0 none 0)) ∧ Below w.heap.size w w' := by
  obtain ⟨_, _, e0, lw, c0⟩ := hr.at_ (j := 0) (x := x) rfl
  cases e0
  simp only [Nat.add_zero] at c0
  have B := Lib.hid (fun (o p : Obj) => ((Below.refl w.heap.size w).alloc (Nat.le_refl _) o).alloc (by simp) p)
  clear hr
  rcases hk with rfl | rfl | rfl | rfl
  all_goals
    go_enter Tryd.func45, Tryd.ntmps45
    go_wp2_with fail
    exact bodyPost_ret (v := .agg (farr (Wig.dplain _ [x]) none 0 none 0)) (by simp [results, Tryd.results45, farr, Wig.dplain, Wig.Fr.zero, go_sem]) rfl ⟨rfl, B.out _ _⟩
set_option maxHeartbeats 8000000 in
theorem rplain_none (k n c : Nat) (A : Option Addr) (w : World) (hk : k = 0 ∨ k = 1 ∨ k = 30) :
    Calls Tryd.prog 45 #[.int .i64 (k : Int), .slice A n c] w fun e w' => e = .returned (.agg (farr (Wig.dplain k []) none 0 none 0)) ∧ Below w.heap.size w w' := by
  have B := Lib.hid (fun (o p : Obj) => ((Below.refl w.heap.size w).alloc (Nat.le_refl _) o).alloc (by simp) p)
  rcases hk with rfl | rfl | rfl
  all_goals
    go_enter Tryd.func45, Tryd.ntmps45
    go_wp2_with fail
    exact bodyPost_ret (v := .agg (farr (Wig.dplain _ []) none 0 none 0)) (by simp [results, Tryd.results45, farr, Wig.dplain, Wig.Fr.zero, go_sem]) rfl ⟨rfl, B.out _ _⟩
theorem rplain_any (k n c : Nat) (A : Option Addr) (has l : List Nat) (w : World) (h : Wig.flds k = some has) (h2 : k ≠ 2 ∧ k ≠ 3) (hl : l.length = Wig.dcount k) (hn : n = l.length) (hr : RdN .u64 w w.heap.size A l) :
    Calls Tryd.prog 45 #[.int .i64 (k : Int), .slice A n c] w fun e w' => e = .returned (.agg (farr (Wig.dplain k l) none 0 none 0)) ∧ Below w.heap.size w w' := by
  have hk : (k = 0 ∨ k = 1 ∨ k = 30) ∨ (k = 16 ∨ k = 18 ∨ k = 20 ∨ k = 28) ∨ (k = 5 ∨ k = 17 ∨ k = 21) ∨ (k = 4 ∨ k = 6 ∨ k = 14) := by
    have := Wig.flds_cases h
    omega
  subst hn
  rcases hk with hk | hk | hk | hk
  · have h0 : Wig.dcount k = 0 := by rcases hk with rfl | rfl | rfl <;> rfl
    obtain rfl : l = [] := List.eq_nil_of_length_eq_zero (by omega)
    exact rplain_none k _ c A w hk
  · have h1 : Wig.dcount k = 1 := by rcases hk with rfl | rfl | rfl | rfl <;> rfl
    rw [h1] at hl
    obtain ⟨x, rfl⟩ := List.length_eq_one_iff.1 hl
    obtain ⟨lb, lo, rfl, _⟩ := hr.at_ (j := 0) (x := x) rfl
    exact rplain_one k lb lo c x w hk hr
  · have h1 : Wig.dcount k = 2 := by rcases hk with rfl | rfl | rfl <;> rfl
    rw [h1] at hl
    obtain ⟨x, y, rfl⟩ : ∃ x y, l = [x, y] := by
      rcases l with _ | ⟨x, _ | ⟨y, _ | ⟨z, r⟩⟩⟩ <;> simp at hl
      exact ⟨x, y, rfl⟩
    obtain ⟨lb, lo, rfl, _⟩ := hr.at_ (j := 0) (x := x) rfl
    exact rplain_two k lb lo c x y w hk hr
  · have h1 : Wig.dcount k = 3 := by rcases hk with rfl | rfl | rfl <;> rfl
    rw [h1] at hl
    obtain ⟨x, y, z, rfl⟩ : ∃ x y z, l = [x, y, z] := by
      rcases l with _ | ⟨x, _ | ⟨y, _ | ⟨z, _ | ⟨t, r⟩⟩⟩⟩ <;> simp at hl
      exact ⟨x, y, z, rfl⟩
    obtain ⟨lb, lo, rfl, _⟩ := hr.at_ (j := 0) (x := x) rfl
    exact rplain_three k lb lo c x y z w hk hr
end Go.Proofs.YtogioabdijgglaaDoor
