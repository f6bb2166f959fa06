/-
  What the head of layer 1's statements returns: true. No condition.
-/
import Derived.Test.YtfgnpikfnfbaaaaFixC
import Derived.Test.YtfgnpikfnfbaaaaPost
namespace Go.Proofs.Ytfgnpikfnfbaaaa
open Go.ChangeShapes Go.WideShapes Go.ChangeAt Go.RowKit

theorem add_lit (a b r : Nat) (w : World) (h : Wig.fadd a b = r) (ha : a < 18446744073709551616) (hb : b < 18446744073709551616) :
    Calls Try.prog 11 #[.int .u64 a, .int .u64 b] w fun e w' => e = .returned (.int .u64 (r : Int)) ∧ w = w' := h ▸ add_any a b w ha hb
theorem sub_lit (a b r : Nat) (w : World) (h : Wig.fsub a b = r) (ha : a < 18446744073709551616) (hb : b < 18446744073709551616) :
    Calls Try.prog 13 #[.int .u64 a, .int .u64 b] w fun e w' => e = .returned (.int .u64 (r : Int)) ∧ w = w' := h ▸ sub_any a b w ha hb
theorem mul_lit (a b r : Nat) (w : World) (h : Wig.fmul a b = r) (ha : a < 18446744073709551616) (hb : b < 18446744073709551616) :
    Calls Try.prog 15 #[.int .u64 a, .int .u64 b] w fun e w' => e = .returned (.int .u64 (r : Int)) ∧ w = w' := h ▸ mul_any a b w ha hb
theorem muldiv_lit (a b c r : Nat) (w : World) (h : Wig.fmuldiv a b c = r) (ha : a < 18446744073709551616) (hb : b < 18446744073709551616) (hc : c < 18446744073709551616) :
    Calls Try.prog 17 #[.int .u64 a, .int .u64 b, .int .u64 c] w fun e w' => e = .returned (.int .u64 (r : Int)) ∧ ∃ n, w.drewN n = w' := h ▸ muldiv_any a b c w ha hb hc
theorem gain_lit (a b r : Nat) (w : World) (h : Wig.fgain a b = r) (ha : a < 18446744073709551616) (hb : b < 18446744073709551616) :
    Calls Try.prog 19 #[.int .u64 a, .int .u64 b] w fun e w' => e = .returned (.int .u64 (r : Int)) ∧ ∃ n, w.drewN n = w' := h ▸ gain_any a b w ha hb
theorem cbrt_lit (a r : Nat) (w : World) (h : Wig.fcbrt a = r) (ha : a < 18446744073709551616) :
    Calls Try.prog 21 #[.int .u64 a] w fun e w' => e = .returned (.int .u64 (r : Int)) ∧ Below w.heap.size w w' := h ▸ cbrt_any a w ha

set_option maxHeartbeats 1000000 in
theorem awake_any (w : World) : Calls Try.prog 10 #[] w fun e w' => e = .returned (.bool true) ∧ Below w.heap.size w w' := by
  have c1 : ∀ w, Calls Try.prog 11 #[.int .u64 18446744073709551615, .int .u64 5] w fun e w' => e = .returned (.int .u64 18446744073709551615) ∧ w = w' := fun w =>
    add_lit 18446744073709551615 5 18446744073709551615 w (by decide +kernel) (by decide) (by decide)
  have c2 : ∀ w, Calls Try.prog 13 #[.int .u64 3, .int .u64 5] w fun e w' => e = .returned (.int .u64 0) ∧ w = w' := fun w =>
    sub_lit 3 5 0 w (by decide +kernel) (by decide) (by decide)
  have c3 : ∀ w, Calls Try.prog 15 #[.int .u64 8589934592, .int .u64 8589934592] w fun e w' => e = .returned (.int .u64 18446744073709551615) ∧ w = w' := fun w =>
    mul_lit 8589934592 8589934592 18446744073709551615 w (by decide +kernel) (by decide) (by decide)
  have c4 : ∀ w, Calls Try.prog 17 #[.int .u64 1099511627776, .int .u64 1099511627776, .int .u64 1048576] w fun e w' => e = .returned (.int .u64 1152921504606846976) ∧ ∃ n, w.drewN n = w' := fun w =>
    muldiv_lit 1099511627776 1099511627776 1048576 1152921504606846976 w (by decide +kernel) (by decide) (by decide) (by decide)
  have c5 : ∀ w, Calls Try.prog 17 #[.int .u64 7, .int .u64 9, .int .u64 4] w fun e w' => e = .returned (.int .u64 15) ∧ ∃ n, w.drewN n = w' := fun w =>
    muldiv_lit 7 9 4 15 w (by decide +kernel) (by decide) (by decide) (by decide)
  have c6 : ∀ w, Calls Try.prog 19 #[.int .u64 1000, .int .u64 128] w fun e w' => e = .returned (.int .u64 500) ∧ ∃ n, w.drewN n = w' := fun w =>
    gain_lit 1000 128 500 w (by decide +kernel) (by decide) (by decide)
  have c7 : ∀ w, Calls Try.prog 21 #[.int .u64 27] w fun e w' => e = .returned (.int .u64 3) ∧ Below w.heap.size w w' := fun w =>
    cbrt_lit 27 3 w (by decide +kernel) (by decide)
  have c8 : ∀ w, Calls Try.prog 21 #[.int .u64 26] w fun e w' => e = .returned (.int .u64 2) ∧ Below w.heap.size w w' := fun w =>
    cbrt_lit 26 2 w (by decide +kernel) (by decide)
  have C1 := Lib.hid c1
  have C2 := Lib.hid c2
  have C3 := Lib.hid c3
  have C4 := Lib.hid c4
  have C5 := Lib.hid c5
  have C6 := Lib.hid c6
  have C7 := Lib.hid c7
  have C8 := Lib.hid c8
  clear c1 c2 c3 c4 c5 c6 c7 c8
  go_enter Try.func10, Try.ntmps10
  go_wp2_with fail
  refine (C1.out _).mono ?_
  rintro e w1 ⟨rfl, rfl⟩
  go_wp2_with fail
  refine (C2.out _).mono ?_
  rintro e w1 ⟨rfl, rfl⟩
  go_wp2_with fail
  refine (C3.out _).mono ?_
  rintro e w1 ⟨rfl, rfl⟩
  go_wp2_with fail
  refine (C4.out _).mono ?_
  rintro e w1 ⟨rfl, n1, rfl⟩
  go_wp2_with fail
  refine (C5.out _).mono ?_
  rintro e w1 ⟨rfl, n2, rfl⟩
  go_wp2_with fail
  refine (C6.out _).mono ?_
  rintro e w1 ⟨rfl, n3, rfl⟩
  go_wp2_with fail
  refine (C7.out _).mono ?_
  rintro e w1 ⟨rfl, hb1⟩
  have B1 := Lib.hid hb1
  clear hb1
  go_wp2_with fail
  refine (C8.out _).mono ?_
  rintro e w2 ⟨rfl, hb2⟩
  have B2 := Lib.hid hb2
  clear hb2
  go_wp2_with fail
  go_ret
  exact ⟨rfl, below_trans' (below_trans' (below_drewN' (Below.refl _ _) _) B1.out) B2.out⟩
end Go.Proofs.Ytfgnpikfnfbaaaa
