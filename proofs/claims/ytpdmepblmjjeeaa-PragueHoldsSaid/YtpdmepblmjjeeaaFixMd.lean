/-
  What package fix's MulDiv returns, for all numbers of 64 bits. No condition.
-/
import Derived.Test.YtpdmepblmjjeeaaFixDiv
namespace Go.Proofs.Ytpdmepblmjjeeaa
open Go.ChangeShapes Go.WideShapes Go.ChangeAt Go.RowKit

theorem div64_zero (lo y : Nat) (w : World) (h1 : 0 < y) (hy : y < 18446744073709551616) (hl : lo < 18446744073709551616) :
    Calls Try.prog 49 #[.int .u64 0, .int .u64 lo, .int .u64 y] w fun e w' => e = .returned (.tuple #[.int .u64 ((lo / y : Nat) : Int), .int .u64 ((lo % y : Nat) : Int)]) ∧ ∃ n, w.drewN n = w' := by
  have e1 : (lo : Int) / (y : Int) = ((lo / y : Nat) : Int) := (Int.natCast_ediv _ _).symm
  have e2 : (lo : Int) % (y : Int) = ((lo % y : Nat) : Int) := (Int.natCast_emod _ _).symm
  have b1 : lo / y < 18446744073709551616 := Nat.lt_of_le_of_lt (Nat.div_le_self _ _) hl
  have b2 : lo % y < 18446744073709551616 := Nat.lt_of_le_of_lt (Nat.mod_le _ _) hl
  have hz : ((y : Int) == 0) = false := by simp; omega
  generalize lo / y = q at *
  have E2 := Lib.hid e2
  clear e2
  generalize lo % y = r at *
  go_enter Try.func49, Try.ntmps49
  go_wp2_with fail
  go_quiet (fail)
  go_wp2_with fail
  go_ret2
  refine ⟨?_, _, rfl⟩
  show Ending.returned (Value.tuple #[Value.int IntKind.u64 (q : Int), Value.int IntKind.u64 ((lo : Int) % (y : Int))]) = _
  rw [E2.out]

theorem div64_any (hn lo y : Nat) (w : World) (h1 : hn < y) (hy : y < 18446744073709551616) (hl : lo < 18446744073709551616) :
    Calls Try.prog 49 #[.int .u64 hn, .int .u64 lo, .int .u64 y] w fun e w' => e = .returned (.tuple #[.int .u64 (((hn * 18446744073709551616 + lo) / y : Nat) : Int), .int .u64 (((hn * 18446744073709551616 + lo) % y : Nat) : Int)]) ∧ ∃ n, w.drewN n = w' := by
  by_cases h0 : 0 < hn
  · exact (div64_pos hn lo y w h0 h1 hy hl).mono fun _ _ ⟨he, hw⟩ => ⟨he, 0, hw⟩
  · obtain rfl : hn = 0 := by omega
    have h := div64_zero lo y w h1 hy hl
    simpa using h

theorem muldiv_any (a b c : Nat) (w : World) (ha : a < 18446744073709551616) (hb : b < 18446744073709551616) (hcc : c < 18446744073709551616) :
    Calls Try.prog 44 #[.int .u64 a, .int .u64 b, .int .u64 c] w fun e w' => e = .returned (.int .u64 ((Wig.fmuldiv a b c : Nat) : Int)) ∧ ∃ n, w.drewN n = w' := by
  have hm := Try.bits_Mul64 a b ha hb
  obtain ⟨p, hp⟩ : ∃ p, p = a * b := ⟨_, rfl⟩
  rw [← hp] at hm
  obtain ⟨h, hh⟩ : ∃ h, h = p / 18446744073709551616 := ⟨_, rfl⟩
  obtain ⟨l, hl⟩ : ∃ l, l = p % 18446744073709551616 := ⟨_, rfl⟩
  rw [← hh, ← hl] at hm
  have hlb : l < 18446744073709551616 := by omega
  have hhl : h * 18446744073709551616 + l = p := by omega
  have Hm := Lib.hid hm
  have Hp := Lib.hid hp
  have Hh := Lib.hid hh
  have Hl := Lib.hid hl
  have Hhl := Lib.hid hhl
  clear hm hp hh hl hhl
  by_cases h1 : h = 0 ∧ l = 0
  · obtain ⟨rfl, rfl⟩ := h1
    have hf : Wig.fmuldiv a b c = 0 := by
      have e : p = 0 := by rw [← Hhl.out, Nat.zero_mul]
      unfold Wig.fmuldiv; rw [← Hp.out, if_pos e]
    have Hf := Lib.hid hf
    clear hf
    go_enter Try.func44, Try.ntmps44
    go_wp2_with (go_at_call 48; refine (Hm.out _).mono ?_; rintro e w' ⟨rfl, rfl⟩)
    go_ret
    exact ⟨ret_u64 (by rw [Hf.out]; rfl), 0, rfl⟩
  · have hp0 : p ≠ 0 := by
      have := Hhl.out
      omega
    have Hp0 := Lib.hid hp0
    clear hp0
    by_cases h2 : c ≤ h
    · have hf : Wig.fmuldiv a b c = 18446744073709551615 := by
        have := Hhl.out
        unfold Wig.fmuldiv; rw [← Hp.out, if_neg Hp0.out, if_pos (by omega)]
      have Hf := Lib.hid hf
      clear hf
      by_cases h3 : h = 0
      · have h4 : ((l : Int) == 0) = false := by simp; omega
        subst h3
        clear h1
        go_enter Try.func44, Try.ntmps44
        go_wp2_with (go_at_call 48; refine (Hm.out _).mono ?_; rintro e w' ⟨rfl, rfl⟩)
        go_ret
        exact ⟨ret_u64 (by rw [Hf.out]; rfl), 0, rfl⟩
      · have h4 : ((h : Int) == 0) = false := by simp; omega
        clear h1 h3
        go_enter Try.func44, Try.ntmps44
        go_wp2_with (go_at_call 48; refine (Hm.out _).mono ?_; rintro e w' ⟨rfl, rfl⟩)
        go_ret
        exact ⟨ret_u64 (by rw [Hf.out]; rfl), 0, rfl⟩
    · have hf : Wig.fmuldiv a b c = p / c := by
        have := Hhl.out
        unfold Wig.fmuldiv; rw [← Hp.out, if_neg Hp0.out, if_neg (by omega)]
      have hd := fun w => div64_any h l c w (by omega) hcc hlb
      rw [Hhl.out] at hd
      rw [← hf] at hd
      have Hd := Lib.hid hd
      clear hf hd
      by_cases h3 : h = 0
      · have h4 : ((l : Int) == 0) = false := by simp; omega
        subst h3
        clear h1
        go_enter Try.func44, Try.ntmps44
        go_wp2_with (first | (go_at_call 48; refine (Hm.out _).mono ?_; rintro e w' ⟨rfl, rfl⟩) | (go_at_call 49; refine (Hd.out _).mono ?_; rintro e w' ⟨rfl, n, rfl⟩))
        go_ret
        exact ⟨rfl, _, rfl⟩
      · have h4 : ((h : Int) == 0) = false := by simp; omega
        clear h1 h3
        go_enter Try.func44, Try.ntmps44
        go_wp2_with (first | (go_at_call 48; refine (Hm.out _).mono ?_; rintro e w' ⟨rfl, rfl⟩) | (go_at_call 49; refine (Hd.out _).mono ?_; rintro e w' ⟨rfl, n, rfl⟩))
        go_ret
        exact ⟨rfl, _, rfl⟩

end Go.Proofs.Ytpdmepblmjjeeaa
