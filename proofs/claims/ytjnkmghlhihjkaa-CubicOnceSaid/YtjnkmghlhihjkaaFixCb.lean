/-
  What package fix's Cbrt returns, and the document's, for all numbers of 64 bits. No condition.
-/
import Derived.Test.YtjnkmghlhihjkaaFixMd
namespace Go.Proofs.Ytjnkmghlhihjkaa
open Go.ChangeShapes Go.WideShapes Go.ChangeAt Go.RowKit
set_option linter.unusedVariables false

theorem fits_any (r a : Nat) (p : Addr) (w : World) (hr : r < 4194304) (ha : a < 18446744073709551616) (hc : w.cell? p = some (.int .u64 (a : Int))) :
    Calls Try.prog 38 #[.int .u64 r, .pointer (some p)] w fun e w' => e = .returned (.bool (decide (r * r * r ≤ a))) ∧ w = w' := by
  have hrr : r * r ≤ 4194303 * 4194303 := Nat.mul_le_mul (by omega) (by omega)
  obtain ⟨q, hq⟩ : ∃ q, q = r * r := ⟨_, rfl⟩
  have e1 : (r : Int) * (r : Int) = (q : Int) := by rw [hq, Int.natCast_mul]
  rw [← hq] at hrr ⊢
  have bq : q < 18446744073709551616 := by omega
  have hm := Try.bits_Mul64 q r bq (by omega)
  obtain ⟨c, hcc⟩ : ∃ c, c = q * r := ⟨_, rfl⟩
  rw [← hcc] at hm ⊢
  have Hq := Lib.hid hq
  have Hm := Lib.hid hm
  have Hc := Lib.hid hcc
  clear hq hm hcc
  by_cases h1 : c < 18446744073709551616
  · have h2 : (c / 18446744073709551616 : Nat) = 0 := by omega
    have h3 : c % 18446744073709551616 = c := by omega
    have hm' := Hm.out
    rw [h2, h3] at hm'
    have Hm' := Lib.hid hm'
    clear hm' Hm h2 h3
    go_enter Try.func38, Try.ntmps38
    go_wp2_with (go_at_call 34; refine (Hm'.out _).mono ?_; rintro e w' ⟨rfl, rfl⟩)
    go_ret
    exact ⟨rfl, rfl⟩
  · have hf : decide (c ≤ a) = false := decide_eq_false (by omega)
    have Hf := Lib.hid hf
    have hz : (((c / 18446744073709551616 : Nat) : Int) == 0) = false := by simp; omega
    clear hf h1
    generalize ((c / 18446744073709551616 : Nat) : Int) = h at *
    go_enter Try.func38, Try.ntmps38
    go_wp2_with (go_at_call 34; refine (Hm.out _).mono ?_; rintro e w' ⟨rfl, rfl⟩)
    go_ret
    exact ⟨by rw [Hf.out]; rfl, rfl⟩

/-- At a round's head: k bits have been asked, r is what was found. -/
def CbrtRel (a : Nat) (x i : Value) : Prop :=
  ∃ k r : Nat, k ≤ 22 ∧ i = .int .i64 (k : Int) ∧ x = .int .u64 (r : Int) ∧ Wig.rootGo a (22 - k) r = Wig.fcbrt a ∧ r % 2 ^ (22 - k) = 0 ∧ r + 2 ^ (22 - k) ≤ 4194304

theorem cbrt_any (a : Nat) (w : World) (ha : a < 18446744073709551616) :
    Calls Try.prog 33 #[.int .u64 a] w fun e w' => e = .returned (.int .u64 ((Wig.fcbrt a : Nat) : Int)) ∧ Below w.heap.size w w' := by
  go_enter Try.func33, Try.ntmps33
  go_wp2_with fail
  go_loop [4, 8] (fun x i => CbrtRel a x i) (fun _ i => 22 - (intOf i).toNat)
  case atStart => exact ⟨0, 0, by omega, rfl, rfl, rfl, rfl, by omega⟩
  case round =>
    obtain ⟨k, r, hk, rfl, rfl, hg, hm, hr⟩ := hrel
    by_cases hlt : k < 22
    · obtain ⟨j, hj⟩ : ∃ j, 22 - k = j + 1 := ⟨21 - k, by omega⟩
      have hj' : 21 - k = j := by omega
      have hj2 : 22 - (k + 1) = j := by omega
      rw [hj] at hg hm hr
      obtain ⟨nx, hnx⟩ : ∃ nx, nx = r + 2 ^ j := ⟨_, rfl⟩
      have hp : 2 ^ (j + 1) = 2 ^ j + 2 ^ j := by rw [Nat.pow_succ]; omega
      have hpos := Nat.two_pow_pos j
      have hor : bits BinOp.or IntKind.u64 (r : Int) (IntKind.u64.wrap (2 ^ (21 - k))) = (nx : Int) := by
        have e : IntKind.u64.wrap (2 ^ (21 - k)) = ((2 ^ j : Nat) : Int) := by
          have := shl_nat (a := 1) (s := j) (by omega)
          simpa [hj'] using this
        rw [e, bits_or_u64_nat _ _ (by omega) (by omega)]
        have er : r = r / 2 ^ (j + 1) * 2 ^ (j + 1) := by have := Nat.div_add_mod' r (2 ^ (j + 1)); omega
        have e2 : r ||| 2 ^ j = r + 2 ^ j := by
          have := or_add (a := r / 2 ^ (j + 1)) (b := 2 ^ j) (s := j + 1) (by omega)
          rw [← er] at this; exact this
        rw [e2, hnx]
      have hnb : nx < 4194304 := by omega
      have hstep : Wig.rootGo a j (if nx * nx * nx ≤ a then nx else r) = Wig.fcbrt a := by rw [← hg, Wig.rootGo, hnx]
      have hmx : nx % 2 ^ j = 0 := by
        have er : r = 2 ^ j * (2 * (r / 2 ^ (j + 1))) := by
          have h := Nat.div_add_mod' r (2 ^ (j + 1))
          rw [hm, Nat.add_zero, Nat.pow_succ, Nat.mul_left_comm, Nat.mul_comm _ 2] at h
          rw [Nat.pow_succ]; exact h.symm
        rw [hnx, Nat.add_mod_right, er, Nat.mul_mod_right]
      have hmr : r % 2 ^ j = 0 := by
        have er : r = 2 ^ j * (2 * (r / 2 ^ (j + 1))) := by
          have h := Nat.div_add_mod' r (2 ^ (j + 1))
          rw [hm, Nat.add_zero, Nat.pow_succ, Nat.mul_left_comm, Nat.mul_comm _ 2] at h
          rw [Nat.pow_succ]; exact h.symm
        rw [er, Nat.mul_mod_right]
      have rel1 : nx * nx * nx ≤ a → CbrtRel a (.int .u64 (nx : Int)) (.int .i64 ((k : Int) + 1)) := fun h =>
        ⟨k + 1, nx, by omega, by go_num, rfl, by rw [hj2]; rw [if_pos h] at hstep; exact hstep, by rw [hj2]; exact hmx, by rw [hj2]; omega⟩
      have rel2 : ¬ nx * nx * nx ≤ a → CbrtRel a (.int .u64 (r : Int)) (.int .i64 ((k : Int) + 1)) := fun h =>
        ⟨k + 1, r, by omega, by go_num, rfl, by rw [hj2]; rw [if_neg h] at hstep; exact hstep, by rw [hj2]; exact hmr, by rw [hj2]; omega⟩
      have hc := fits_any nx a ⟨w.heap.size, 0, none⟩ (w.alloc (.cells #[.int .u64 (a : Int)] 22)) hnb ha (by go_simp)
      clear hnx hp hpos hstep hmx hmr hj hj' hj2 hg hm hr
      by_cases hcube : nx * nx * nx ≤ a
      · have hd : decide (nx * nx * nx ≤ a) = true := decide_eq_true hcube
        have R := rel1 hcube
        rw [hd] at hc
        have Hc := Lib.hid hc
        clear hc rel1 rel2 hcube hd
        go_wp2_with (go_at_call 38; refine Hc.out.mono ?_; rintro e w' ⟨rfl, rfl⟩)
        go_round
        case rel => exact R
        case measure => simp [intOf]; omega
      · have hd : decide (nx * nx * nx ≤ a) = false := decide_eq_false hcube
        have R := rel2 hcube
        rw [hd] at hc
        have Hc := Lib.hid hc
        clear hc rel1 rel2 hcube hd
        go_wp2_with (go_at_call 38; refine Hc.out.mono ?_; rintro e w' ⟨rfl, rfl⟩)
        go_round
        case rel => exact R
        case measure => simp [intOf]; omega
    · obtain rfl : k = 22 := by omega
      have hfin : r = Wig.fcbrt a := hg
      have Hf := Lib.hid hfin
      clear hg hm hr hfin
      go_wp2_with fail
      go_ret
      exact ⟨ret_u64 (by rw [← Hf.out]), (Below.refl _ _).alloc (Nat.le_refl _) _⟩

/-- At a round's head: j bits are still to be asked, r is what was found. -/
def RootRel (a : Nat) (x i : Value) : Prop :=
  ∃ j r : Nat, j ≤ 22 ∧ i = .int .i64 ((j : Int) - 1) ∧ x = .int .u64 (r : Int) ∧ Wig.rootGo a j r = Wig.fcbrt a ∧ r + 2 ^ j ≤ 4194304

set_option maxRecDepth 100000 in
set_option maxHeartbeats 1000000 in
theorem rcbrt_any (a : Nat) (w : World) (ha : a < 18446744073709551616) :
    Calls Try.prog 36 #[.int .u64 a] w fun e w' => e = .returned (.int .u64 ((Wig.fcbrt a : Nat) : Int)) ∧ w = w' := by
  go_enter Try.func36, Try.ntmps36
  go_wp2_with fail
  go_loop [3, 4] (fun x i => RootRel a x i) (fun _ i => (intOf i + 1).toNat)
  case atStart => exact ⟨22, 0, Nat.le_refl _, rfl, rfl, rfl, by decide⟩
  case round =>
    obtain ⟨j, r, hj, rfl, rfl, hg, hr⟩ := hrel
    by_cases hj0 : j = 0
    · subst hj0
      have hfin : (r : Int) = ((Wig.fcbrt a : Nat) : Int) := by rw [← hg]; rfl
      rw [show (((0 : Nat) : Int) - 1) = (-1 : Int) from rfl, hfin]
      clear hg hr hfin
      go_wp2_with fail
      go_ret
      exact ⟨rfl, rfl⟩
    · obtain ⟨i, rfl⟩ : ∃ i, j = i + 1 := ⟨j - 1, by omega⟩
      rw [show (((i + 1 : Nat) : Int) - 1) = (i : Int) from by omega]
      have hp : 2 ^ (i + 1) = 2 ^ i + 2 ^ i := by rw [Nat.pow_succ]; omega
      have hpos := Nat.two_pow_pos i
      obtain ⟨nx, hnx⟩ : ∃ nx, nx = r + 2 ^ i := ⟨_, rfl⟩
      have bnx : nx < 4194304 := by omega
      have br : r + 2 ^ i ≤ 4194304 := by omega
      have bx : nx + 2 ^ i ≤ 4194304 := by omega
      have m0 : IntKind.u64.wrap (2 ^ i) = ((2 ^ i : Nat) : Int) := by
        have := shl_nat (a := 1) (s := i) (by omega)
        simpa using this
      have m1 : (r : Int) + IntKind.u64.wrap (2 ^ i) = (nx : Int) := by rw [m0]; omega
      obtain ⟨q, hq⟩ : ∃ q, q = nx * nx := ⟨_, rfl⟩
      have bq : q ≤ 4194303 * 4194303 := by rw [hq]; exact Nat.mul_le_mul (by omega) (by omega)
      have m2 : IntKind.u64.wrap ((nx : Int) * (nx : Int)) = (q : Int) := by rw [mul_nat (by omega), hq]
      have hstep : Wig.rootGo a i (if nx * nx * nx ≤ a then nx else r) = Wig.fcbrt a := by rw [← hg, Wig.rootGo, hnx]
      by_cases hbig : nx ≤ 2642245
      · have hbig' : decide ((nx : Int) ≤ 2642245) = true := decide_eq_true (by omega)
        obtain ⟨c, hc⟩ : ∃ c, c = q * nx := ⟨_, rfl⟩
        have bq2 : q ≤ 2642245 * 2642245 := by rw [hq]; exact Nat.mul_le_mul hbig hbig
        have bc : c ≤ 2642245 * 2642245 * 2642245 := by rw [hc]; exact Nat.mul_le_mul bq2 hbig
        have m3 : IntKind.u64.wrap ((q : Int) * (nx : Int)) = (c : Int) := by rw [mul_nat (by omega), hc]
        rw [← hq, ← hc] at hstep
        by_cases hca : c ≤ a
        · have hca' : decide (c ≤ a) = true := decide_eq_true hca
          have R : RootRel a (.int .u64 (nx : Int)) (.int .i64 ((i : Int) - 1)) := ⟨i, nx, by omega, rfl, rfl, by rw [if_pos hca] at hstep; exact hstep, bx⟩
          clear hstep hnx hp hpos br bx hq bq bq2 hc bc hg hr hj0 m0 hca hbig
          go_wp2_with fail
          go_round
          case rel => exact R
          case measure => simp [intOf]
        · have hca' : decide (c ≤ a) = false := decide_eq_false hca
          have R : RootRel a (.int .u64 (r : Int)) (.int .i64 ((i : Int) - 1)) := ⟨i, r, by omega, rfl, rfl, by rw [if_neg hca] at hstep; exact hstep, br⟩
          clear hstep hnx hp hpos br bx hq bq bq2 hc bc hg hr hj0 m0 hca hbig
          go_wp2_with fail
          go_round
          case rel => exact R
          case measure => simp [intOf]
      · have hbig' : decide ((nx : Int) ≤ 2642245) = false := decide_eq_false (by omega)
        have hno : ¬ nx * nx * nx ≤ a := by
          have h1 : 2642246 * 2642246 * 2642246 ≤ nx * nx * nx := Nat.mul_le_mul (Nat.mul_le_mul (by omega) (by omega)) (by omega)
          omega
        have R : RootRel a (.int .u64 (r : Int)) (.int .i64 ((i : Int) - 1)) := ⟨i, r, by omega, rfl, rfl, by rw [if_neg hno] at hstep; exact hstep, br⟩
        clear hstep hnx hp hpos br bx hq bq hg hr hj0 m0 hno hbig
        go_wp2_with fail
        go_round
        case rel => exact R
        case measure => simp [intOf]

end Go.Proofs.Ytjnkmghlhihjkaa
