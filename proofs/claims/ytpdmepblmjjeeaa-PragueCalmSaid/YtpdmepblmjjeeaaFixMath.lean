/-
  Plain mathematics under the contracts of package fix: sums and products that stop at the greatest number, the division of 128 bits by 64, the cube root bit by bit. No condition: nothing of the program is named here.
-/
import Derived.Lib.BitFns
namespace Wig

def top : Nat := 18446744073709551615

def fadd (a b : Nat) : Nat := if a + b < 18446744073709551616 then a + b else 18446744073709551615
def fsub (a b : Nat) : Nat := a - b
def fmul (a b : Nat) : Nat := if a * b < 18446744073709551616 then a * b else 18446744073709551615
def fmuldiv (a b c : Nat) : Nat :=
  if a * b = 0 then 0 else if c * 18446744073709551616 ≤ a * b then 18446744073709551615 else a * b / c
def fgain (a p : Nat) : Nat := fmuldiv a p 256

/-- The root, bit by bit: k bits are still to be asked. -/
def rootGo (a : Nat) : Nat → Nat → Nat
  | 0, r => r
  | k + 1, r => rootGo a k (if (r + 2 ^ k) * (r + 2 ^ k) * (r + 2 ^ k) ≤ a then r + 2 ^ k else r)
def fcbrt (a : Nat) : Nat := rootGo a 22 0

/-! ### The division of 128 bits by 64, in two steps of base 2^32 -/

theorem div_two (U c Y B : Nat) (hY : 0 < Y) : (U * B + c) / Y = U / Y * B + (U % Y * B + c) / Y := by
  have h : U * B + c = (U % Y * B + c) + Y * (U / Y * B) := by
    have e := Nat.div_add_mod U Y
    calc U * B + c = (Y * (U / Y) + U % Y) * B + c := by rw [e]
      _ = _ := by rw [Nat.add_mul, Nat.mul_assoc]; omega
  rw [h, Nat.add_mul_div_left _ _ hY]
  omega

theorem mod_two (U c Y B : Nat) : (U * B + c) % Y = (U % Y * B + c) % Y := by
  have h : U * B + c = (U % Y * B + c) + Y * (U / Y * B) := by
    have e := Nat.div_add_mod U Y
    calc U * B + c = (Y * (U / Y) + U % Y) * B + c := by rw [e]
      _ = _ := by rw [Nat.add_mul, Nat.mul_assoc]; omega
  rw [h, Nat.add_mul_mod_self_left]

/-- What holds of the guessed quotient q and the rest r at a round's head. -/
def KInv (u32 u1 y1 y0 q r : Nat) : Prop :=
  q * y1 + r = u32 ∧ (u32 * 4294967296 + u1) / (y1 * 4294967296 + y0) ≤ q ∧ q ≤ 4294967297 ∧ r < 4294967296

def KPre (u32 u1 y1 y0 : Nat) : Prop :=
  u32 < y1 * 4294967296 + y0 ∧ u1 < 4294967296 ∧ y0 < 4294967296 ∧ y1 < 4294967296 ∧ 4294967296 ≤ 2 * y1

theorem k_start {u32 u1 y1 y0 : Nat} (h : KPre u32 u1 y1 y0) : KInv u32 u1 y1 y0 (u32 / y1) (u32 % y1) := by
  obtain ⟨h1, h2, h3, h4, h5⟩ := h
  have hy1 : 0 < y1 := by omega
  have hm := Nat.mod_lt u32 hy1
  refine ⟨Nat.div_add_mod' u32 y1, ?_, ?_, by omega⟩
  · rw [Nat.le_div_iff_mul_le hy1]
    have hQ := Nat.div_mul_le_self (u32 * 4294967296 + u1) (y1 * 4294967296 + y0)
    generalize (u32 * 4294967296 + u1) / (y1 * 4294967296 + y0) = Q at hQ ⊢
    rw [Nat.mul_add, ← Nat.mul_assoc] at hQ
    omega
  · have : u32 / y1 < 4294967298 := by
      rw [Nat.div_lt_iff_lt_mul hy1]
      omega
    omega

theorem k_small {u32 u1 y1 y0 : Nat} (h : KPre u32 u1 y1 y0) : (u32 * 4294967296 + u1) / (y1 * 4294967296 + y0) < 4294967296 := by
  obtain ⟨h1, h2, h3, h4, h5⟩ := h
  rw [Nat.div_lt_iff_lt_mul (by omega)]
  omega

theorem k_less {u32 u1 y1 y0 q r : Nat} (h : KPre u32 u1 y1 y0) (hi : KInv u32 u1 y1 y0 q r) (hc : 4294967296 ≤ q ∨ 4294967296 * r + u1 < q * y0) :
    (u32 * 4294967296 + u1) / (y1 * 4294967296 + y0) < q := by
  rcases hc with hc | hc
  · exact Nat.lt_of_lt_of_le (k_small h) hc
  · obtain ⟨h1, h2, h3, h4, h5⟩ := h
    obtain ⟨i1, i2, i3, i4⟩ := hi
    rw [Nat.div_lt_iff_lt_mul (by omega), Nat.mul_add, ← Nat.mul_assoc, ← i1]
    omega

theorem k_step {u32 u1 y1 y0 q r : Nat} (h : KPre u32 u1 y1 y0) (hi : KInv u32 u1 y1 y0 q r) (hc : 4294967296 ≤ q ∨ 4294967296 * r + u1 < q * y0)
    (hr : r + y1 < 4294967296) : KInv u32 u1 y1 y0 (q - 1) (r + y1) := by
  have hl := k_less h hi hc
  obtain ⟨i1, i2, i3, i4⟩ := hi
  unfold KInv
  generalize (u32 * 4294967296 + u1) / (y1 * 4294967296 + y0) = Q at hl i2 ⊢
  refine ⟨?_, by omega, by omega, hr⟩
  have e : q - 1 + 1 = q := by omega
  have := Nat.add_mul (q - 1) 1 y1
  rw [e] at this
  omega

theorem k_exit {u32 u1 y1 y0 q r : Nat} (h : KPre u32 u1 y1 y0) (hi : KInv u32 u1 y1 y0 q r) (hc : q * y0 ≤ 4294967296 * r + u1) :
    q = (u32 * 4294967296 + u1) / (y1 * 4294967296 + y0) := by
  obtain ⟨h1, h2, h3, h4, h5⟩ := h
  obtain ⟨i1, i2, i3, i4⟩ := hi
  have : q ≤ (u32 * 4294967296 + u1) / (y1 * 4294967296 + y0) := by
    rw [Nat.le_div_iff_mul_le (by omega), Nat.mul_add, ← Nat.mul_assoc, ← i1]
    omega
  omega

theorem k_break {u32 u1 y1 y0 q r : Nat} (h : KPre u32 u1 y1 y0) (hi : KInv u32 u1 y1 y0 q r) (hc : 4294967296 ≤ q ∨ 4294967296 * r + u1 < q * y0)
    (hr : 4294967296 ≤ r + y1) : q - 1 = (u32 * 4294967296 + u1) / (y1 * 4294967296 + y0) := by
  have hl := k_less h hi hc
  obtain ⟨h1, h2, h3, h4, h5⟩ := h
  obtain ⟨i1, i2, i3, i4⟩ := hi
  have e : q - 1 + 1 = q := Nat.sub_add_cancel (Nat.lt_of_le_of_lt (Nat.zero_le _) hl)
  have e1 := Nat.add_mul (q - 1) 1 y1
  rw [e] at e1
  have hy : (q - 1) * y0 ≤ 4294967296 * 4294967295 := Nat.mul_le_mul (by omega) (by omega)
  have hr' : 4294967296 * 4294967296 ≤ (r + y1) * 4294967296 := Nat.mul_le_mul_right _ hr
  have : q - 1 ≤ (u32 * 4294967296 + u1) / (y1 * 4294967296 + y0) := by
    rw [Nat.le_div_iff_mul_le (by omega), Nat.mul_add, ← Nat.mul_assoc]
    have : u32 = (q - 1) * y1 + (r + y1) := by omega
    rw [this, Nat.add_mul]
    omega
  generalize (u32 * 4294967296 + u1) / (y1 * 4294967296 + y0) = Q at *
  omega

/-! ### How far a divisor is shifted -/

theorem bitLenAux_spec : ∀ f x, x ≠ 0 → x < 2 ^ f → 1 ≤ Go.Lib.bitLenAux f x ∧ Go.Lib.bitLenAux f x ≤ f ∧ 2 ^ (Go.Lib.bitLenAux f x - 1) ≤ x ∧ x < 2 ^ Go.Lib.bitLenAux f x
  | 0, x, h0, h => by simp at h; omega
  | f + 1, x, h0, h => by
    unfold Go.Lib.bitLenAux
    rw [if_neg h0]
    by_cases hx : x / 2 = 0
    · have e : Go.Lib.bitLenAux f (x / 2) = 0 := by rw [hx]; cases f <;> simp [Go.Lib.bitLenAux]
      rw [e]
      have : x = 1 := by omega
      subst this
      exact ⟨by omega, by omega, by decide, by decide⟩
    · obtain ⟨h1, h2, h3, h4⟩ := bitLenAux_spec f (x / 2) hx (by rw [Nat.pow_succ] at h; omega)
      generalize Go.Lib.bitLenAux f (x / 2) = L at *
      refine ⟨by omega, by omega, ?_, ?_⟩
      · obtain ⟨K, rfl⟩ : ∃ K, L = K + 1 := ⟨L - 1, by omega⟩
        rw [show 1 + (K + 1) - 1 = K + 1 from by omega, Nat.pow_succ]
        simp at h3
        omega
      · rw [Nat.add_comm, Nat.pow_succ]
        omega

theorem norm_shift (y : Nat) (h0 : 0 < y) (h1 : y < 18446744073709551616) :
    ∃ s : Nat, s < 64 ∧ (64 - (Go.Lib.bitLen (y : Int).toNat : Int)) = (s : Int) ∧ 9223372036854775808 ≤ y * 2 ^ s ∧ y * 2 ^ s < 18446744073709551616 := by
  obtain ⟨l1, l2, l3, l4⟩ := bitLenAux_spec 64 y (by omega) (by omega)
  have e : Go.Lib.bitLen (y : Int).toNat = Go.Lib.bitLenAux 64 y := by rw [Int.toNat_natCast]; rfl
  rw [e]
  generalize Go.Lib.bitLenAux 64 y = L at *
  refine ⟨64 - L, by omega, by omega, ?_, ?_⟩
  · have := Nat.mul_le_mul_right (2 ^ (64 - L)) l3
    rw [← Nat.pow_add, show L - 1 + (64 - L) = 63 from by omega] at this
    omega
  · have := Nat.mul_lt_mul_of_pos_right l4 (Nat.two_pow_pos (64 - L))
    rw [← Nat.pow_add, show L + (64 - L) = 64 from by omega] at this
    omega

/-! ### The cube root -/

def cube (r : Nat) : Nat := r * r * r

theorem cube_mono {a b : Nat} (h : a ≤ b) : cube a ≤ cube b := Nat.mul_le_mul (Nat.mul_le_mul h h) h

theorem rootGo_spec (a : Nat) : ∀ k r, cube r ≤ a → a < cube (r + 2 ^ k) → cube (rootGo a k r) ≤ a ∧ a < cube (rootGo a k r + 1)
  | 0, r, h1, h2 => ⟨h1, h2⟩
  | k + 1, r, h1, h2 => by
    unfold rootGo
    by_cases h : (r + 2 ^ k) * (r + 2 ^ k) * (r + 2 ^ k) ≤ a
    · rw [if_pos h]
      refine rootGo_spec a k _ h ?_
      have e : r + 2 ^ k + 2 ^ k = r + 2 ^ (k + 1) := by rw [Nat.pow_succ]; omega
      rw [e]; exact h2
    · rw [if_neg h]
      exact rootGo_spec a k r h1 (by unfold cube; omega)

theorem fcbrt_spec (a : Nat) (ha : a < 18446744073709551616) : cube (fcbrt a) ≤ a ∧ a < cube (fcbrt a + 1) := by
  refine rootGo_spec a 22 0 (by unfold cube; omega) ?_
  have : cube (0 + 2 ^ 22) = 73786976294838206464 := by decide
  omega

theorem fcbrt_le (a : Nat) (ha : a < 18446744073709551616) : fcbrt a ≤ 2642245 := by
  have h := (fcbrt_spec a ha).1
  apply Classical.byContradiction
  intro hn
  have h2 : cube 2642246 ≤ cube (fcbrt a) := cube_mono (by omega)
  have e : cube 2642246 = 18446745128696702936 := by decide
  omega

theorem root_unique {a r s : Nat} (h1 : cube r ≤ a) (h2 : a < cube (r + 1)) (h3 : cube s ≤ a) (h4 : a < cube (s + 1)) : r = s := by
  apply Nat.le_antisymm
  · apply Classical.byContradiction; intro hn
    have := cube_mono (a := s + 1) (b := r) (by omega); omega
  · apply Classical.byContradiction; intro hn
    have := cube_mono (a := r + 1) (b := s) (by omega); omega

theorem fcbrt_mono {a b : Nat} (h : a ≤ b) (hb : b < 18446744073709551616) : fcbrt a ≤ fcbrt b := by
  have h1 := fcbrt_spec a (by omega)
  have h2 := fcbrt_spec b hb
  apply Classical.byContradiction; intro hn
  have := cube_mono (a := fcbrt b + 1) (b := fcbrt a) (by omega)
  omega

/-! ### The bounds -/

theorem fadd_lt (a b : Nat) : fadd a b < 18446744073709551616 := by unfold fadd; split <;> omega
theorem fmul_lt (a b : Nat) : fmul a b < 18446744073709551616 := by unfold fmul; split <;> omega
theorem fmuldiv_lt (a b c : Nat) : fmuldiv a b c < 18446744073709551616 := by
  unfold fmuldiv
  split
  · omega
  · split
    · omega
    · rename_i h1 h2
      rw [Nat.div_lt_iff_lt_mul (by apply Classical.byContradiction; intro h; obtain rfl : c = 0 := by omega
                                    omega)]
      omega

end Wig
