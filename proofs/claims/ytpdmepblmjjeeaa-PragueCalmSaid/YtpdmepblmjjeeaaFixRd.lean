/-
  What the document's answers of layer 1 (wide, MulDiv) return, for all numbers of 64 bits. No condition.
-/
import Derived.Test.YtpdmepblmjjeeaaFixMd
namespace Go.Proofs.Ytpdmepblmjjeeaa
open Go.ChangeShapes Go.WideShapes Go.ChangeAt Go.RowKit
set_option linter.unusedVariables false

theorem ret_pair {a b c d : Int} (h : a = b) (k : c = d) : Ending.returned (.tuple #[.int .u64 a, .int .u64 c]) = .returned (.tuple #[.int .u64 b, .int .u64 d]) := by rw [h, k]

theorem wide_math (x y : Nat) (hx : x < 18446744073709551616) (hy : y < 18446744073709551616) :
    ∃ l u v m : Nat, l = (x % 4294967296) * (y % 4294967296) ∧ u = (x / 4294967296) * (y % 4294967296) ∧ v = (x % 4294967296) * (y / 4294967296) ∧
      l < 18446744073709551616 ∧ u < 18446744073709551616 ∧ v < 18446744073709551616 ∧ m = l / 4294967296 + u % 4294967296 + v % 4294967296 ∧ m < 18446744073709551616 ∧
      (x / 4294967296) * (y / 4294967296) < 18446744073709551616 ∧ (x / 4294967296) * (y / 4294967296) + u / 4294967296 < 18446744073709551616 ∧ (x / 4294967296) * (y / 4294967296) + u / 4294967296 + v / 4294967296 < 18446744073709551616 ∧
      (x / 4294967296) * (y / 4294967296) + u / 4294967296 + v / 4294967296 + m / 4294967296 = x * y / 18446744073709551616 ∧ m * 4294967296 % 18446744073709551616 + l % 4294967296 = x * y % 18446744073709551616 := by
  have e : x * y = (x / 4294967296) * (y / 4294967296) * (4294967296 * 4294967296) + ((x / 4294967296) * (y % 4294967296) + (x % 4294967296) * (y / 4294967296)) * 4294967296 + (x % 4294967296) * (y % 4294967296) := by
    rw [← Lib.split_mul, Nat.div_add_mod' x 4294967296, Nat.div_add_mod' y 4294967296]
  have ha := Lib.half_mul_le (a := x / 4294967296) (b := y / 4294967296) (by omega) (by omega)
  have hb := Lib.half_mul_le (a := x / 4294967296) (b := y % 4294967296) (by omega) (by omega)
  have hc := Lib.half_mul_le (a := x % 4294967296) (b := y / 4294967296) (by omega) (by omega)
  have hd := Lib.half_mul_le (a := x % 4294967296) (b := y % 4294967296) (by omega) (by omega)
  rw [e]
  generalize (x / 4294967296) * (y / 4294967296) = a at *
  generalize (x / 4294967296) * (y % 4294967296) = b at *
  generalize (x % 4294967296) * (y / 4294967296) = c at *
  generalize (x % 4294967296) * (y % 4294967296) = d at *
  exact ⟨d, b, c, _, rfl, rfl, rfl, by omega, by omega, by omega, rfl, by omega, by omega, by omega, by omega, by omega, by omega⟩

set_option maxHeartbeats 1000000 in
theorem wide_any (x y : Nat) (w : World) (hx : x < 18446744073709551616) (hy : y < 18446744073709551616) :
    Calls Try.prog 47 #[.int .u64 x, .int .u64 y] w fun e w' => e = .returned (.tuple #[.int .u64 ((x * y / 18446744073709551616 : Nat) : Int), .int .u64 ((x * y % 18446744073709551616 : Nat) : Int)]) ∧ w = w' := by
  obtain ⟨l, u, v, m, hl, hu, hv, bl, bu, bv, hm, bm, b1, b2, b3, f1, f2⟩ := wide_math x y hx hy
  rw [← f1, ← f2]
  obtain ⟨x1, hx1⟩ : ∃ x1, x1 = x / 4294967296 := ⟨_, rfl⟩
  obtain ⟨y1, hy1⟩ : ∃ y1, y1 = y / 4294967296 := ⟨_, rfl⟩
  obtain ⟨x0, hx0⟩ : ∃ x0, x0 = x % 4294967296 := ⟨_, rfl⟩
  obtain ⟨y0, hy0⟩ : ∃ y0, y0 = y % 4294967296 := ⟨_, rfl⟩
  rw [← hx1, ← hy1] at b1 b2 b3 f1 ⊢
  rw [← hx0, ← hy0] at hl
  rw [← hx1, ← hy0] at hu
  rw [← hx0, ← hy1] at hv
  have a1 : bits BinOp.and IntKind.u64 (x : Int) 4294967295 = (x0 : Int) := by rw [and32_nat x hx, hx0]
  have a2 : bits BinOp.and IntKind.u64 (y : Int) 4294967295 = (y0 : Int) := by rw [and32_nat y hy, hy0]
  have s1 : (x : Int) / 4294967296 = (x1 : Int) := by omega
  have s2 : (y : Int) / 4294967296 = (y1 : Int) := by omega
  have m1 : IntKind.u64.wrap ((x0 : Int) * (y0 : Int)) = (l : Int) := by rw [hl]; rw [hl] at bl; exact mul_nat bl
  have m2 : IntKind.u64.wrap ((x1 : Int) * (y0 : Int)) = (u : Int) := by rw [hu]; rw [hu] at bu; exact mul_nat bu
  have m3 : IntKind.u64.wrap ((x0 : Int) * (y1 : Int)) = (v : Int) := by rw [hv]; rw [hv] at bv; exact mul_nat bv
  obtain ⟨h, hh⟩ : ∃ h, h = x1 * y1 := ⟨_, rfl⟩
  rw [← hh] at b1 b2 b3 f1 ⊢
  have m4 : IntKind.u64.wrap ((x1 : Int) * (y1 : Int)) = (h : Int) := by rw [hh]; rw [hh] at b1; exact mul_nat b1
  have a3 : bits BinOp.and IntKind.u64 (u : Int) 4294967295 = ((u % 4294967296 : Nat) : Int) := and32_nat u bu
  have a4 : bits BinOp.and IntKind.u64 (v : Int) 4294967295 = ((v % 4294967296 : Nat) : Int) := and32_nat v bv
  have a5 : bits BinOp.and IntKind.u64 (l : Int) 4294967295 = ((l % 4294967296 : Nat) : Int) := and32_nat l bl
  have hxy : x * y ≤ 18446744073709551615 * 18446744073709551615 := Nat.mul_le_mul (by omega) (by omega)
  have r1 : IntKind.u64.wrap ((h : Int) + (u : Int) / 4294967296 + (v : Int) / 4294967296 + ((l : Int) / 4294967296 + (u : Int) % 4294967296 + (v : Int) % 4294967296) / 4294967296) = ((h + u / 4294967296 + v / 4294967296 + m / 4294967296 : Nat) : Int) := by
    rw [IntKind.wrap_u64]; omega
  have r2 : IntKind.u64.wrap (IntKind.u64.wrap (((l : Int) / 4294967296 + (u : Int) % 4294967296 + (v : Int) % 4294967296) * 4294967296) + (l : Int) % 4294967296) = ((m * 4294967296 % 18446744073709551616 + l % 4294967296 : Nat) : Int) := by
    simp only [IntKind.wrap_u64]; omega
  have R1 := Lib.hid r1
  have R2 := Lib.hid r2
  clear f1 f2 hl hu hv hx1 hy1 hx0 hy0 hh hm hxy r1 r2
  go_enter Try.func47, Try.ntmps47
  go_wp2_with fail
  go_ret2
  exact ⟨ret_pair R1.out R2.out, rfl⟩

/-- At a round's head: j bits of the number N are still to be asked. -/
def LongRel (N c : Nat) (l o i : Value) : Prop :=
  ∃ j : Nat, j ≤ 64 ∧ i = .int .i64 ((j : Int) - 1) ∧ l = .int .u64 ((N / 2 ^ j % c : Nat) : Int) ∧ o = .int .u64 ((N / 2 ^ j / c : Nat) : Int)

theorem long_step {V c l o b : Nat} (hc : 0 < c) (hl : l = V % c) (ho : o = V / c) (hb : b ≤ 1) :
    (2 * V + b) % c = (if c ≤ 2 * l + b then 2 * l + b - c else 2 * l + b) ∧ (2 * V + b) / c = (if c ≤ 2 * l + b then 2 * o + 1 else 2 * o) := by
  have e := Nat.div_add_mod V c
  have hlt : l < c := by rw [hl]; exact Nat.mod_lt _ hc
  rw [← hl, ← ho] at e
  have e2 : 2 * V + b = (2 * l + b) + c * (2 * o) := by
    rw [← e, Nat.mul_add, Nat.mul_left_comm]; omega
  by_cases h : c ≤ 2 * l + b
  · rw [if_pos h, if_pos h]
    have e3 : 2 * V + b = (2 * l + b - c) + c * (2 * o + 1) := by rw [e2, Nat.mul_add]; omega
    have hs : 2 * l + b - c < c := by omega
    rw [e3, Nat.add_mul_mod_self_left, Nat.add_mul_div_left _ _ hc, Nat.mod_eq_of_lt hs, Nat.div_eq_of_lt hs]
    omega
  · rw [if_neg h, if_neg h]
    have hs : 2 * l + b < c := by omega
    rw [e2, Nat.add_mul_mod_self_left, Nat.add_mul_div_left _ _ hc, Nat.mod_eq_of_lt hs, Nat.div_eq_of_lt hs]
    omega

theorem bit_split (N j : Nat) : N / 2 ^ j = 2 * (N / 2 ^ (j + 1)) + N / 2 ^ j % 2 := by
  rw [Nat.pow_succ, ← Nat.div_div_eq_div_mul]
  omega

theorem low_bit (h l j : Nat) (hj : j < 64) : (h * 18446744073709551616 + l) / 2 ^ j % 2 = l / 2 ^ j % 2 := by
  obtain ⟨k, hk⟩ : ∃ k, 64 = k + 1 + j := ⟨63 - j, by omega⟩
  have e : h * 18446744073709551616 + l = l + 2 ^ j * (2 * (h * 2 ^ k)) := by
    have e1 : (18446744073709551616 : Nat) = 2 ^ j * (2 * 2 ^ k) := by
      rw [show (18446744073709551616 : Nat) = 2 ^ 64 from rfl, hk, Nat.pow_add, Nat.pow_succ, Nat.mul_comm, Nat.mul_comm (2 ^ k) 2]
    rw [e1, Nat.add_comm, Nat.mul_left_comm h, Nat.mul_left_comm h]
  rw [e, Nat.add_mul_div_left _ _ (Nat.two_pow_pos j)]
  omega

set_option maxRecDepth 100000 in
set_option maxHeartbeats 1000000 in
theorem rmuldiv_any (a b c : Nat) (w : World) (ha : a < 18446744073709551616) (hb : b < 18446744073709551616) (hcc : c < 18446744073709551616) :
    Calls Try.prog 34 #[.int .u64 a, .int .u64 b, .int .u64 c] w fun e w' => e = .returned (.int .u64 ((Wig.fmuldiv a b c : Nat) : Int)) ∧ w = w' := by
  have hm := fun w => wide_any a b w ha hb
  obtain ⟨p, hp⟩ : ∃ p, p = a * b := ⟨_, rfl⟩
  rw [← hp] at hm
  obtain ⟨h, hh⟩ : ∃ h, h = p / 18446744073709551616 := ⟨_, rfl⟩
  obtain ⟨l, hl⟩ : ∃ l, l = p % 18446744073709551616 := ⟨_, rfl⟩
  rw [← hh, ← hl] at hm
  have hlb : l < 18446744073709551616 := by omega
  have hhl : h * 18446744073709551616 + l = p := by omega
  have Hm := Lib.hid hm
  have Hp := Lib.hid hp
  have Hhl := Lib.hid hhl
  clear hm hp hh hl hhl
  by_cases h1 : h = 0 ∧ l = 0
  · obtain ⟨rfl, rfl⟩ := h1
    have hf : Wig.fmuldiv a b c = 0 := by
      have e : p = 0 := by rw [← Hhl.out, Nat.zero_mul]
      unfold Wig.fmuldiv; rw [← Hp.out, if_pos e]
    have Hf := Lib.hid hf
    clear hf
    go_enter Try.func34, Try.ntmps34
    go_wp2_with (go_at_call 47; refine (Hm.out _).mono ?_; rintro e w' ⟨rfl, rfl⟩)
    go_ret
    exact ⟨ret_u64 (by rw [Hf.out]; rfl), rfl⟩
  · have hp0 : p ≠ 0 := by
      have := Hhl.out
      omega
    have Hp0 := Lib.hid hp0
    clear hp0
    have hz : ((h : Int) == 0) = true ∧ ((l : Int) == 0) = false ∨ ((h : Int) == 0) = false := by
      by_cases h3 : h = 0
      · left; exact ⟨by rw [h3]; rfl, by simp; omega⟩
      · right; simp; omega
    clear h1
    by_cases h2 : c ≤ h
    · have hf : Wig.fmuldiv a b c = 18446744073709551615 := by
        have := Hhl.out
        unfold Wig.fmuldiv; rw [← Hp.out, if_neg Hp0.out, if_pos (by omega)]
      have Hf := Lib.hid hf
      clear hf
      rcases hz with ⟨z1, z2⟩ | z1
      all_goals
        go_enter Try.func34, Try.ntmps34
        go_wp2_with (go_at_call 47; refine (Hm.out _).mono ?_; rintro e w' ⟨rfl, rfl⟩)
        go_ret
        exact ⟨ret_u64 (by rw [Hf.out]; rfl), rfl⟩
    · have hf : Wig.fmuldiv a b c = p / c := by
        have := Hhl.out
        unfold Wig.fmuldiv; rw [← Hp.out, if_neg Hp0.out, if_neg (by omega)]
      have Hf := Lib.hid hf
      have hpb : p < c * 18446744073709551616 := by have := Hhl.out; omega
      have Hpb := Lib.hid hpb
      clear hf hpb
      rcases hz with ⟨z1, z2⟩ | z1
      all_goals
        go_enter Try.func34, Try.ntmps34
        go_wp2_with (go_at_call 47; refine (Hm.out _).mono ?_; rintro e w' ⟨rfl, rfl⟩)
        go_loop [9, 10, 11] (fun l o i => LongRel p c l o i) (fun _ _ i => (intOf i + 1).toNat)
        case atStart =>
          have e : p / 2 ^ 64 = h := by
            have e2 := Hhl.out
            rw [show (2 : Nat) ^ 64 = 18446744073709551616 from rfl]
            omega
          exact ⟨64, Nat.le_refl _, rfl, vu64 (by rw [e, Nat.mod_eq_of_lt (Nat.lt_of_not_le h2)]), vu64 (by rw [e, Nat.div_eq_of_lt (Nat.lt_of_not_le h2)]; rfl)⟩
        case round =>
          obtain ⟨j, hj, rfl, rfl, rfl⟩ := hrel
          by_cases hj0 : j = 0
          · subst hj0
            rw [show (((0 : Nat) : Int) - 1) = (-1 : Int) from rfl]
            have hfin : ((p / 2 ^ 0 / c : Nat) : Int) = ((Wig.fmuldiv a b c : Nat) : Int) := by rw [Hf.out, Nat.pow_zero, Nat.div_one]
            rw [hfin]
            clear hfin
            go_wp2_with fail
            go_ret
            exact ⟨rfl, rfl⟩
          · obtain ⟨i, rfl⟩ : ∃ i, j = i + 1 := ⟨j - 1, by omega⟩
            have hc0 : 0 < c := by omega
            obtain ⟨bt, hbt⟩ : ∃ bt, bt = l / 2 ^ i % 2 := ⟨_, rfl⟩
            have bbt : bt ≤ 1 := by omega
            have hV : p / 2 ^ i = 2 * (p / 2 ^ (i + 1)) + bt := by
              have e1 := bit_split p i
              have e2 := low_bit h l i (by omega)
              rw [Hhl.out] at e2
              omega
            have hst := long_step (V := p / 2 ^ (i + 1)) (c := c) (b := bt) hc0 rfl rfl bbt
            rw [← hV] at hst
            have hob : p / 2 ^ (i + 1) / c < 9223372036854775808 := by
              rw [Nat.div_lt_iff_lt_mul hc0]
              have e1 : p / 2 ^ (i + 1) ≤ p / 2 := Nat.div_le_div_left (by rw [Nat.pow_succ]; have := Nat.two_pow_pos i; omega) (by decide)
              have e2 := Hpb.out
              omega
            have hlc : p / 2 ^ (i + 1) % c < c := Nat.mod_lt _ hc0
            generalize p / 2 ^ (i + 1) % c = lf at *
            generalize p / 2 ^ (i + 1) / c = ou at *
            rw [show (((i + 1 : Nat) : Int) - 1) = (i : Int) from by omega]
            have rb : bits BinOp.and IntKind.u64 ((l : Int) / 2 ^ i) 1 = (bt : Int) := by
              have hll : l / 2 ^ i < 18446744073709551616 := Nat.lt_of_le_of_lt (Nat.div_le_self _ _) hlb
              have := bits_and_u64_nat (l / 2 ^ i) 1 hll (by decide)
              rw [Nat.and_one_is_mod] at this
              rw [shr_nat, hbt]; exact this
            obtain ⟨lw, hlw⟩ : ∃ lw, lw = (2 * lf + bt) % 18446744073709551616 := ⟨_, rfl⟩
            have rl : IntKind.u64.wrap (IntKind.u64.wrap ((lf : Int) * 2) + (bt : Int)) = (lw : Int) := by
              simp only [IntKind.wrap_u64]; omega
            have ro : IntKind.u64.wrap ((ou : Int) * 2) = ((2 * ou : Nat) : Int) := by rw [IntKind.wrap_u64]; omega
            have ro2 : IntKind.u64.wrap (((2 * ou : Nat) : Int) + 1) = ((2 * ou + 1 : Nat) : Int) := by rw [IntKind.wrap_u64]; omega
            have bo : 2 * ou + 1 < 18446744073709551616 := by omega
            generalize 2 * ou = o2 at *
            have Hst := Lib.hid hst
            have Hbt := Lib.hid hbt
            by_cases hov : 9223372036854775808 ≤ lf
            · have ov : ((lf : Int) / 9223372036854775808 == 1) = true := by simp; omega
              have rs : IntKind.u64.wrap ((lw : Int) - (c : Int)) = ((2 * lf + bt - c : Nat) : Int) := by rw [IntKind.wrap_u64]; omega
              have R : LongRel p c (.int .u64 ((2 * lf + bt - c : Nat) : Int)) (.int .u64 ((o2 + 1 : Nat) : Int)) (.int .i64 ((i : Int) - 1)) := by
                have h1 := Hst.out.1
                have h2 := Hst.out.2
                rw [if_pos (by omega)] at h1 h2
                exact ⟨i, by omega, rfl, vu64 (by rw [h1]), vu64 (by rw [h2])⟩
              generalize 2 * lf + bt - c = nl at *
              clear hst hbt hV hlw hlc hov hj0 hc0 hob
              go_wp2_with fail
              go_round
              case rel => exact R
              case measure => simp [intOf]
            · have ov : ((lf : Int) / 9223372036854775808 == 1) = false := by simp; omega
              have hlw' : lw = 2 * lf + bt := by omega
              by_cases hcv : c ≤ lw
              · have hcv' : decide (c ≤ lw) = true := decide_eq_true hcv
                have rs : IntKind.u64.wrap ((lw : Int) - (c : Int)) = ((lw - c : Nat) : Int) := by rw [IntKind.wrap_u64]; omega
                have R : LongRel p c (.int .u64 ((lw - c : Nat) : Int)) (.int .u64 ((o2 + 1 : Nat) : Int)) (.int .i64 ((i : Int) - 1)) := by
                  have h1 := Hst.out.1
                  have h2 := Hst.out.2
                  rw [← hlw', if_pos hcv] at h1 h2
                  exact ⟨i, by omega, rfl, vu64 (by rw [h1]), vu64 (by rw [h2])⟩
                generalize lw - c = nl at *
                clear hst hbt hV hlw hlw' hlc hov hj0 hc0 hob hcv
                go_wp2_with fail
                go_round
                case rel => exact R
                case measure => simp [intOf]
              · have hcv' : decide (c ≤ lw) = false := decide_eq_false hcv
                have R : LongRel p c (.int .u64 (lw : Int)) (.int .u64 (o2 : Int)) (.int .i64 ((i : Int) - 1)) := by
                  have h1 := Hst.out.1
                  have h2 := Hst.out.2
                  rw [← hlw', if_neg hcv] at h1 h2
                  exact ⟨i, by omega, rfl, vu64 (by rw [h1]), vu64 (by rw [h2])⟩
                clear hst hbt hV hlw hlw' hlc hov hj0 hc0 hob hcv
                go_wp2_with fail
                go_round
                case rel => exact R
                case measure => simp [intOf]

end Go.Proofs.Ytpdmepblmjjeeaa
