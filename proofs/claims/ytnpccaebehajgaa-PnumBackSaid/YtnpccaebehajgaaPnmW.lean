/-
  The head of layer 4's statements: the calls whose answers the document fixes answer so. And the contracts of Size, Cut and Whole with their answers as arguments. No condition.
-/
import Derived.Test.YtnpccaebehajgaaPnmB
import Derived.Test.YtnpccaebehajgaaPnmC
namespace Go.Proofs.Ytnpccaebehajgaa
open Go.ChangeShapes Go.WideShapes Go.ChangeAt Go.RowKit
set_option linter.unusedVariables false

theorem cut_gives (a : Nat) (i : Int) (r : Nat) (w : World) (h : a % Wig.pwin (Wig.pk i) = r) :
    Calls Try.prog 11 #[.int .u64 (a : Int), .int .i64 i] w fun e w' => e = .returned (.int .u64 (r : Int)) ∧ w = w' := by
  subst h; exact cut_any a i w
theorem rcut_gives (a : Nat) (i : Int) (r : Nat) (w : World) (h : a % Wig.pwin (Wig.pk i) = r) :
    Calls Try.prog 12 #[.int .u64 (a : Int), .int .i64 i] w fun e w' => e = .returned (.int .u64 (r : Int)) ∧ w = w' := by
  subst h; exact rcut_any a i w
theorem size_gives (a b s : Nat) (w : World) (h : Wig.psize a b = s) (ha : a < 18446744073709551616) (hb : b < 18446744073709551616) :
    Calls Try.prog 9 #[.int .u64 (a : Int), .int .u64 (b : Int)] w fun e w' => e = .returned (.int .i64 (s : Int)) ∧ Below w.heap.size w w' := by
  subst h; exact size_any a b w ha hb
theorem rsize_gives (a b s : Nat) (w : World) (h : Wig.psize a b = s) (ha : a < 18446744073709551616) (hb : b < 18446744073709551616) :
    Calls Try.prog 10 #[.int .u64 (a : Int), .int .u64 (b : Int)] w fun e w' => e = .returned (.int .i64 (s : Int)) ∧ w = w' := by
  subst h; exact rsize_any a b w ha hb
theorem whole_gives (p : Nat) (i : Int) (n r : Nat) (w : World) (h : Wig.pwhole p (Wig.pwin (Wig.pk i)) (Wig.pcap n) = r) (hp : p < 18446744073709551616) (hn : n < 18446744073709551616) :
    Calls Try.prog 13 #[.int .u64 (p : Int), .int .i64 i, .int .u64 (n : Int)] w fun e w' => e = .returned (.int .u64 (r : Int)) ∧ Below w.heap.size w w' := by
  subst h
  exact (whole_any p i n w hp hn).mono fun e w' ⟨he, k, hk⟩ => ⟨he, by rw [← hk]; exact below_drewN' (Below.refl _ _) _⟩
theorem rwhole_gives (p : Nat) (i : Int) (n r : Nat) (w : World) (h : Wig.pwhole p (Wig.pwin (Wig.pk i)) (Wig.pcap n) = r) (hp : p < 18446744073709551616) (hn : n < 18446744073709551616) :
    Calls Try.prog 14 #[.int .u64 (p : Int), .int .i64 i, .int .u64 (n : Int)] w fun e w' => e = .returned (.int .u64 (r : Int)) ∧ w = w' := by
  subst h; exact rwhole_any p i n w hp hn

set_option maxHeartbeats 1000000 in
theorem awake_any (w : World) : Calls Try.prog 8 #[] w fun e w' => e = .returned (.bool true) ∧ Below w.heap.size w w' := by
  have C1 : ∀ w, Calls Try.prog 9 #[.int .u64 11298, .int .u64 10000] w fun e w' => e = .returned (.int .i64 2) ∧ Below w.heap.size w w' := fun w => size_gives 11298 10000 2 w (by decide +kernel) (by decide) (by decide)
  have C2 : ∀ w, Calls Try.prog 9 #[.int .u64 5, .int .u64 5] w fun e w' => e = .returned (.int .i64 1) ∧ Below w.heap.size w w' := fun w => size_gives 5 5 1 w (by decide +kernel) (by decide) (by decide)
  have C3 : ∀ w, Calls Try.prog 11 #[.int .u64 11295746, .int .i64 2] w fun e w' => e = .returned (.int .u64 23554) ∧ w = w' := fun w => cut_gives 11295746 2 23554 w (by decide +kernel)
  have C4 : ∀ w, Calls Try.prog 13 #[.int .u64 39730, .int .i64 2, .int .u64 2821665003] w fun e w' => e = .returned (.int .u64 2821692210) ∧ Below w.heap.size w w' := fun w => whole_gives 39730 2 2821665003 2821692210 w (by decide +kernel) (by decide) (by decide)
  replace C1 := Lib.hid C1
  replace C2 := Lib.hid C2
  replace C3 := Lib.hid C3
  replace C4 := Lib.hid C4
  go_enter Try.func8, Try.ntmps8
  go_wp2_with fail
  refine (C1.out _).mono ?_
  rintro e w1 ⟨rfl, hb1⟩
  have B1 := Lib.hid hb1
  clear hb1
  go_wp2_with fail
  refine (C2.out _).mono ?_
  rintro e w2 ⟨rfl, hb2⟩
  have B2 := Lib.hid (below_trans' B1.out hb2)
  clear hb2
  go_wp2_with fail
  refine (C3.out _).mono ?_
  rintro e w3 ⟨rfl, rfl⟩
  go_wp2_with fail
  refine (C4.out _).mono ?_
  rintro e w4 ⟨rfl, hb4⟩
  have B4 := Lib.hid (below_trans' B2.out hb4)
  clear hb4
  go_wp2_with fail
  go_ret
  exact ⟨rfl, B4.out⟩
end Go.Proofs.Ytnpccaebehajgaa
