/-
  What the document's answers of layer 1 (Add, Sub, Mul, wide, MulDiv, Gain, Cbrt) return, for all numbers of 64 bits. No condition.
-/
import Derived.Test.YtfgnpikfnfbaaaaFixC
namespace Go.Proofs.Ytfgnpikfnfbaaaa
open Go.ChangeShapes Go.WideShapes Go.ChangeAt Go.RowKit
set_option linter.unusedVariables false

theorem radd_any (a b : Nat) (w : World) (ha : a < 18446744073709551616) (hb : b < 18446744073709551616) :
    Calls Try.prog 12 #[.int .u64 a, .int .u64 b] w fun e w' => e = .returned (.int .u64 ((Wig.fadd a b : Nat) : Int)) ∧ w = w' := by
  by_cases h : a + b < 18446744073709551616
  · have h1 : (a : Int) ≤ 18446744073709551615 - (b : Int) := by omega
    go_enter Try.func12, Try.ntmps12
    go_wp2_with fail
    go_ret
    exact ⟨ret_u64 (by unfold Wig.fadd; rw [if_pos h]; simp), rfl⟩
  · have h1 : 18446744073709551615 - (b : Int) < (a : Int) := by omega
    go_enter Try.func12, Try.ntmps12
    go_wp2_with fail
    go_ret
    exact ⟨ret_u64 (by unfold Wig.fadd; rw [if_neg h]; rfl), rfl⟩

theorem rsub_any (a b : Nat) (w : World) (ha : a < 18446744073709551616) (hb : b < 18446744073709551616) :
    Calls Try.prog 14 #[.int .u64 a, .int .u64 b] w fun e w' => e = .returned (.int .u64 ((Wig.fsub a b : Nat) : Int)) ∧ w = w' := by
  by_cases h : a < b
  all_goals
    go_enter Try.func14, Try.ntmps14
    go_wp2
    go_ret
    exact ⟨ret_u64 (by unfold Wig.fsub; omega), rfl⟩

theorem rmul_any (a b : Nat) (w : World) (ha : a < 18446744073709551616) (hb : b < 18446744073709551616) :
    Calls Try.prog 16 #[.int .u64 a, .int .u64 b] w fun e w' => e = .returned (.int .u64 ((Wig.fmul a b : Nat) : Int)) ∧ w = w' := by
  by_cases hb0 : b = 0
  · subst hb0
    have hf : Wig.fmul a 0 = 0 := by unfold Wig.fmul; rw [Nat.mul_zero, if_pos (by decide)]
    have Hf := Lib.hid hf
    clear hf
    go_enter Try.func16, Try.ntmps16
    go_wp2_with fail
    go_ret
    exact ⟨ret_u64 (by rw [Hf.out]; simp), rfl⟩
  · have hb1 : decide (0 < b) = true := decide_eq_true (by omega)
    have hbz : ((b : Int) == 0) = false := by simp; omega
    have hb2 : 1 ≤ b := by omega
    obtain ⟨q, hq⟩ : ∃ q, q = 18446744073709551615 / b := ⟨_, rfl⟩
    have hqe : (18446744073709551615 : Int) / (b : Int) = (q : Int) := by rw [hq]; exact (Int.natCast_ediv _ _).symm
    have hqb : q < 18446744073709551616 := by rw [hq]; exact Nat.lt_of_le_of_lt (Nat.div_le_self _ _) (by decide)
    by_cases h : a * b < 18446744073709551616
    · have h1 : decide (q < a) = false := decide_eq_false (by rw [hq, Nat.div_lt_iff_lt_mul (by omega)]; omega)
      have hm : IntKind.u64.wrap ((a : Int) * (b : Int)) = ((Wig.fmul a b : Nat) : Int) := by rw [mul_nat h]; unfold Wig.fmul; rw [if_pos h]
      clear h hq hb0
      go_enter Try.func16, Try.ntmps16
      go_wp2_with fail
      go_ret
      exact ⟨rfl, rfl⟩
    · have h1 : decide (q < a) = true := decide_eq_true (by rw [hq, Nat.div_lt_iff_lt_mul (by omega)]; omega)
      have hf : Wig.fmul a b = 18446744073709551615 := by unfold Wig.fmul; rw [if_neg h]
      have Hf := Lib.hid hf
      clear h hq hf hb0
      go_enter Try.func16, Try.ntmps16
      go_wp2_with fail
      go_ret
      exact ⟨ret_u64 (by rw [Hf.out]; rfl), rfl⟩

theorem ret_pair {a b c d : Int} (h : a = b) (k : c = d) : Ending.returned (.tuple #[.int .u64 a, .int .u64 c]) = .returned (.tuple #[.int .u64 b, .int .u64 d]) := by rw [h, k]

theorem wide_math (x y : Nat) (hx : x < 18446744073709551616) (hy : y < 18446744073709551616) :
    ∃ l u v m : Nat, l = (x % 4294967296) * (y % 4294967296) ∧ u = (x / 4294967296) * (y % 4294967296) ∧ v = (x % 4294967296) * (y / 4294967296) ∧
      l < 18446744073709551616 ∧ u < 18446744073709551616 ∧ v < 18446744073709551616 ∧ m = l / 4294967296 + u % 4294967296 + v % 4294967296 ∧ m < 18446744073709551616 ∧
      (x / 4294967296) * (y / 4294967296) < 18446744073709551616 ∧ (x / 4294967296) * (y / 4294967296) + u / 4294967296 < 18446744073709551616 ∧ (x / 4294967296) * (y / 4294967296) + u / 4294967296 + v / 4294967296 < 18446744073709551616 ∧
      (x / 4294967296) * (y / 4294967296) + u / 4294967296 + v / 4294967296 + m / 4294967296 = x * y / 18446744073709551616 ∧ m * 4294967296 % 18446744073709551616 + l % 4294967296 = x * y % 18446744073709551616 := by
  have e : x * y = (x / 4294967296) * (y / 4294967296) * (4294967296 * 4294967296) + ((x / 4294967296) * (y % 4294967296) + (x % 4294967296) * (y / 4294967296)) * 4294967296 + (x % 4294967296) * (y % 4294967296) := by
    rw [← Lib.split_mul, Nat.div_add_mod' x 4294967296, Nat.div_add_mod' y 4294967296]
  have ha := Lib.half_mul_le (a := x / 4294967296) (b := y / 4294967296) (by omega) (by omega)
  have hb := Lib.half_mul_le (a := x / 4294967296) (b := y % 4294967296) (by omega) (by omega)
  have hc := Lib.half_mul_le (a := x % 4294967296) (b := y / 4294967296) (by omega) (by omega)
  have hd := Lib.half_mul_le (a := x % 4294967296) (b := y % 4294967296) (by omega) (by omega)
  rw [e]
  generalize (x / 4294967296) * (y / 4294967296) = a at *
  generalize (x / 4294967296) * (y % 4294967296) = b at *
  generalize (x % 4294967296) * (y / 4294967296) = c at *
  generalize (x % 4294967296) * (y % 4294967296) = d at *
  exact ⟨d, b, c, _, rfl, rfl, rfl, by omega, by omega, by omega, rfl, by omega, by omega, by omega, by omega, by omega, by omega⟩

set_option maxHeartbeats 1000000 in
theorem wide_any (x y : Nat) (w : World) (hx : x < 18446744073709551616) (hy : y < 18446744073709551616) :
    Calls Try.prog 26 #[.int .u64 x, .int .u64 y] w fun e w' => e = .returned (.tuple #[.int .u64 ((x * y / 18446744073709551616 : Nat) : Int), .int .u64 ((x * y % 18446744073709551616 : Nat) : Int)]) ∧ w = w' := by
  obtain ⟨l, u, v, m, hl, hu, hv, bl, bu, bv, hm, bm, b1, b2, b3, f1, f2⟩ := wide_math x y hx hy
  rw [← f1, ← f2]
  obtain ⟨x1, hx1⟩ : ∃ x1, x1 = x / 4294967296 := ⟨_, rfl⟩
  obtain ⟨y1, hy1⟩ : ∃ y1, y1 = y / 4294967296 := ⟨_, rfl⟩
  obtain ⟨x0, hx0⟩ : ∃ x0, x0 = x % 4294967296 := ⟨_, rfl⟩
  obtain ⟨y0, hy0⟩ : ∃ y0, y0 = y % 4294967296 := ⟨_, rfl⟩
  rw [← hx1, ← hy1] at b1 b2 b3 f1 ⊢
  rw [← hx0, ← hy0] at hl
  rw [← hx1, ← hy0] at hu
  rw [← hx0, ← hy1] at hv
  have a1 : bits BinOp.and IntKind.u64 (x : Int) 4294967295 = (x0 : Int) := by rw [and32_nat x hx, hx0]
  have a2 : bits BinOp.and IntKind.u64 (y : Int) 4294967295 = (y0 : Int) := by rw [and32_nat y hy, hy0]
  have s1 : (x : Int) / 4294967296 = (x1 : Int) := by omega
  have s2 : (y : Int) / 4294967296 = (y1 : Int) := by omega
  have m1 : IntKind.u64.wrap ((x0 : Int) * (y0 : Int)) = (l : Int) := by rw [hl]; rw [hl] at bl; exact mul_nat bl
  have m2 : IntKind.u64.wrap ((x1 : Int) * (y0 : Int)) = (u : Int) := by rw [hu]; rw [hu] at bu; exact mul_nat bu
  have m3 : IntKind.u64.wrap ((x0 : Int) * (y1 : Int)) = (v : Int) := by rw [hv]; rw [hv] at bv; exact mul_nat bv
  obtain ⟨h, hh⟩ : ∃ h, h = x1 * y1 := ⟨_, rfl⟩
  rw [← hh] at b1 b2 b3 f1 ⊢
  have m4 : IntKind.u64.wrap ((x1 : Int) * (y1 : Int)) = (h : Int) := by rw [hh]; rw [hh] at b1; exact mul_nat b1
  have a3 : bits BinOp.and IntKind.u64 (u : Int) 4294967295 = ((u % 4294967296 : Nat) : Int) := and32_nat u bu
  have a4 : bits BinOp.and IntKind.u64 (v : Int) 4294967295 = ((v % 4294967296 : Nat) : Int) := and32_nat v bv
  have a5 : bits BinOp.and IntKind.u64 (l : Int) 4294967295 = ((l % 4294967296 : Nat) : Int) := and32_nat l bl
  have hxy : x * y ≤ 18446744073709551615 * 18446744073709551615 := Nat.mul_le_mul (by omega) (by omega)
  have r1 : IntKind.u64.wrap ((h : Int) + (u : Int) / 4294967296 + (v : Int) / 4294967296 + ((l : Int) / 4294967296 + (u : Int) % 4294967296 + (v : Int) % 4294967296) / 4294967296) = ((h + u / 4294967296 + v / 4294967296 + m / 4294967296 : Nat) : Int) := by
    rw [IntKind.wrap_u64]; omega
  have r2 : IntKind.u64.wrap (IntKind.u64.wrap (((l : Int) / 4294967296 + (u : Int) % 4294967296 + (v : Int) % 4294967296) * 4294967296) + (l : Int) % 4294967296) = ((m * 4294967296 % 18446744073709551616 + l % 4294967296 : Nat) : Int) := by
    simp only [IntKind.wrap_u64]; omega
  have R1 := Lib.hid r1
  have R2 := Lib.hid r2
  clear f1 f2 hl hu hv hx1 hy1 hx0 hy0 hh hm hxy r1 r2
  go_enter Try.func26, Try.ntmps26
  go_wp2_with fail
  go_ret2
  exact ⟨ret_pair R1.out R2.out, rfl⟩
end Go.Proofs.Ytfgnpikfnfbaaaa
