/-
  What package fix's Cbrt returns, for all numbers of 64 bits. No condition.
-/
import Derived.Test.YtfgnpikfnfbaaaaFixM
namespace Go.Proofs.Ytfgnpikfnfbaaaa
open Go.ChangeShapes Go.WideShapes Go.ChangeAt Go.RowKit

theorem fits_any (r a : Nat) (p : Addr) (w : World) (hr : r < 4194304) (ha : a < 18446744073709551616) (hc : w.cell? p = some (.int .u64 (a : Int))) :
    Calls Try.prog 27 #[.int .u64 r, .pointer (some p)] w fun e w' => e = .returned (.bool (decide (r * r * r ≤ a))) ∧ w = w' := by
  have hrr : r * r ≤ 4194303 * 4194303 := Nat.mul_le_mul (by omega) (by omega)
  obtain ⟨q, hq⟩ : ∃ q, q = r * r := ⟨_, rfl⟩
  have e1 : (r : Int) * (r : Int) = (q : Int) := by rw [hq, Int.natCast_mul]
  rw [← hq] at hrr ⊢
  have bq : q < 18446744073709551616 := by omega
  have hm := Try.bits_Mul64 q r bq (by omega)
  obtain ⟨c, hcc⟩ : ∃ c, c = q * r := ⟨_, rfl⟩
  rw [← hcc] at hm ⊢
  have Hq := Lib.hid hq
  have Hm := Lib.hid hm
  have Hc := Lib.hid hcc
  clear hq hm hcc
  by_cases h1 : c < 18446744073709551616
  · have h2 : (c / 18446744073709551616 : Nat) = 0 := by omega
    have h3 : c % 18446744073709551616 = c := by omega
    have hm' := Hm.out
    rw [h2, h3] at hm'
    have Hm' := Lib.hid hm'
    clear hm' Hm h2 h3
    go_enter Try.func27, Try.ntmps27
    go_wp2_with (go_at_call 24; refine (Hm'.out _).mono ?_; rintro e w' ⟨rfl, rfl⟩)
    go_ret
    exact ⟨rfl, rfl⟩
  · have hf : decide (c ≤ a) = false := decide_eq_false (by omega)
    have Hf := Lib.hid hf
    have hz : (((c / 18446744073709551616 : Nat) : Int) == 0) = false := by simp; omega
    clear hf h1
    generalize ((c / 18446744073709551616 : Nat) : Int) = h at *
    go_enter Try.func27, Try.ntmps27
    go_wp2_with (go_at_call 24; refine (Hm.out _).mono ?_; rintro e w' ⟨rfl, rfl⟩)
    go_ret
    exact ⟨by rw [Hf.out]; rfl, rfl⟩

/-- At a round's head: k bits have been asked, r is what was found. -/
def CbrtRel (a : Nat) (x i : Value) : Prop :=
  ∃ k r : Nat, k ≤ 22 ∧ i = .int .i64 (k : Int) ∧ x = .int .u64 (r : Int) ∧ Wig.rootGo a (22 - k) r = Wig.fcbrt a ∧ r % 2 ^ (22 - k) = 0 ∧ r + 2 ^ (22 - k) ≤ 4194304

theorem cbrt_any (a : Nat) (w : World) (ha : a < 18446744073709551616) :
    Calls Try.prog 21 #[.int .u64 a] w fun e w' => e = .returned (.int .u64 ((Wig.fcbrt a : Nat) : Int)) ∧ Below w.heap.size w w' := by
  go_enter Try.func21, Try.ntmps21
  go_wp2_with fail
  go_loop [4, 8] (fun x i => CbrtRel a x i) (fun _ i => 22 - (intOf i).toNat)
  case atStart => exact ⟨0, 0, by omega, rfl, rfl, rfl, rfl, by omega⟩
  case round =>
    obtain ⟨k, r, hk, rfl, rfl, hg, hm, hr⟩ := hrel
    by_cases hlt : k < 22
    · obtain ⟨j, hj⟩ : ∃ j, 22 - k = j + 1 := ⟨21 - k, by omega⟩
      have hj' : 21 - k = j := by omega
      have hj2 : 22 - (k + 1) = j := by omega
      rw [hj] at hg hm hr
      obtain ⟨nx, hnx⟩ : ∃ nx, nx = r + 2 ^ j := ⟨_, rfl⟩
      have hp : 2 ^ (j + 1) = 2 ^ j + 2 ^ j := by rw [Nat.pow_succ]; omega
      have hpos := Nat.two_pow_pos j
      have hor : bits BinOp.or IntKind.u64 (r : Int) (IntKind.u64.wrap (2 ^ (21 - k))) = (nx : Int) := by
        have e : IntKind.u64.wrap (2 ^ (21 - k)) = ((2 ^ j : Nat) : Int) := by
          have := shl_nat (a := 1) (s := j) (by omega)
          simpa [hj'] using this
        rw [e, bits_or_u64_nat _ _ (by omega) (by omega)]
        have er : r = r / 2 ^ (j + 1) * 2 ^ (j + 1) := by have := Nat.div_add_mod' r (2 ^ (j + 1)); omega
        have e2 : r ||| 2 ^ j = r + 2 ^ j := by
          have := or_add (a := r / 2 ^ (j + 1)) (b := 2 ^ j) (s := j + 1) (by omega)
          rw [← er] at this; exact this
        rw [e2, hnx]
      have hnb : nx < 4194304 := by omega
      have hstep : Wig.rootGo a j (if nx * nx * nx ≤ a then nx else r) = Wig.fcbrt a := by rw [← hg, Wig.rootGo, hnx]
      have hmx : nx % 2 ^ j = 0 := by
        have er : r = 2 ^ j * (2 * (r / 2 ^ (j + 1))) := by
          have h := Nat.div_add_mod' r (2 ^ (j + 1))
          rw [hm, Nat.add_zero, Nat.pow_succ, Nat.mul_left_comm, Nat.mul_comm _ 2] at h
          rw [Nat.pow_succ]; exact h.symm
        rw [hnx, Nat.add_mod_right, er, Nat.mul_mod_right]
      have hmr : r % 2 ^ j = 0 := by
        have er : r = 2 ^ j * (2 * (r / 2 ^ (j + 1))) := by
          have h := Nat.div_add_mod' r (2 ^ (j + 1))
          rw [hm, Nat.add_zero, Nat.pow_succ, Nat.mul_left_comm, Nat.mul_comm _ 2] at h
          rw [Nat.pow_succ]; exact h.symm
        rw [er, Nat.mul_mod_right]
      have rel1 : nx * nx * nx ≤ a → CbrtRel a (.int .u64 (nx : Int)) (.int .i64 ((k : Int) + 1)) := fun h =>
        ⟨k + 1, nx, by omega, by go_num, rfl, by rw [hj2]; rw [if_pos h] at hstep; exact hstep, by rw [hj2]; exact hmx, by rw [hj2]; omega⟩
      have rel2 : ¬ nx * nx * nx ≤ a → CbrtRel a (.int .u64 (r : Int)) (.int .i64 ((k : Int) + 1)) := fun h =>
        ⟨k + 1, r, by omega, by go_num, rfl, by rw [hj2]; rw [if_neg h] at hstep; exact hstep, by rw [hj2]; exact hmr, by rw [hj2]; omega⟩
      have hc := fits_any nx a ⟨w.heap.size, 0, none⟩ (w.alloc (.cells #[.int .u64 (a : Int)] 22)) hnb ha (by go_simp)
      clear hnx hp hpos hstep hmx hmr hj hj' hj2 hg hm hr
      by_cases hcube : nx * nx * nx ≤ a
      · have hd : decide (nx * nx * nx ≤ a) = true := decide_eq_true hcube
        have R := rel1 hcube
        rw [hd] at hc
        have Hc := Lib.hid hc
        clear hc rel1 rel2 hcube hd
        go_wp2_with (go_at_call 27; refine Hc.out.mono ?_; rintro e w' ⟨rfl, rfl⟩)
        go_round
        case rel => exact R
        case measure => simp [intOf]; omega
      · have hd : decide (nx * nx * nx ≤ a) = false := decide_eq_false hcube
        have R := rel2 hcube
        rw [hd] at hc
        have Hc := Lib.hid hc
        clear hc rel1 rel2 hcube hd
        go_wp2_with (go_at_call 27; refine Hc.out.mono ?_; rintro e w' ⟨rfl, rfl⟩)
        go_round
        case rel => exact R
        case measure => simp [intOf]; omega
    · obtain rfl : k = 22 := by omega
      have hfin : r = Wig.fcbrt a := hg
      have Hf := Lib.hid hfin
      clear hg hm hr hfin
      go_wp2_with fail
      go_ret
      exact ⟨ret_u64 (by rw [← Hf.out]), (Below.refl _ _).alloc (Nat.le_refl _) _⟩
end Go.Proofs.Ytfgnpikfnfbaaaa
