/-
  FixUndoes: what is added is taken away, unless it was too much, and a product through one of its numbers is the other one, for all numbers of 64 bits. No condition.
-/
import Derived.Test.YtfgnpikfnfbaaaaFixW
namespace Go.Proofs.Ytfgnpikfnfbaaaa.fixUndoes
open Go.ChangeShapes Go.WideShapes Go.ChangeAt Go.RowKit
set_option linter.unusedVariables false

theorem muldiv_same (a b : Nat) (ha : a < 18446744073709551616) (hb : b ≠ 0) : Wig.fmuldiv a b b = a := by
  unfold Wig.fmuldiv
  by_cases h : a * b = 0
  · rw [if_pos h]
    rcases Nat.mul_eq_zero.1 h with h | h
    · exact h.symm
    · exact absurd h hb
  · rw [if_neg h, if_neg (by rw [Nat.mul_comm]; intro hh; have := Nat.le_of_mul_le_mul_right hh (by omega); omega), Nat.mul_div_cancel _ (by omega)]

set_option maxHeartbeats 1000000 in
theorem walk (a0 : Int) (a1 : Int) (w0 : (Lit.int .u64 a0).wf = true) (w1 : (Lit.int .u64 a1).wf = true) (w : World) :
    Calls Try.prog 6 #[.int .u64 a0, .int .u64 a1] w fun e w' => e = .returned (.bool true) ∧ Below w.heap.size w w' := by
  obtain ⟨a, rfl, ha⟩ := nat_of_u64 w0
  obtain ⟨b, rfl, hb⟩ := nat_of_u64 w1
  obtain ⟨s, hs⟩ : ∃ s, Wig.fadd a b = s := ⟨_, rfl⟩
  obtain ⟨x, hx⟩ : ∃ x, Wig.fsub s b = x := ⟨_, rfl⟩
  have hs64 : s < 18446744073709551616 := by rw [← hs]; exact Wig.fadd_lt a b
  have hsa : decide (a ≤ s) = true := decide_eq_true (by rw [← hs]; unfold Wig.fadd; split <;> omega)
  have hsb : decide (b ≤ s) = true := decide_eq_true (by rw [← hs]; unfold Wig.fadd; split <;> omega)
  have hone : ((x : Int) == (a : Int)) = true ∨ (((x : Int) == (a : Int)) = false ∧ ((s : Int) == 18446744073709551615) = true) := by
    by_cases h : a + b < 18446744073709551616
    · left
      have : x = a := by rw [← hx, ← hs]; unfold Wig.fadd Wig.fsub; rw [if_pos h]; omega
      rw [this]; simp
    · by_cases h2 : x = a
      · left; rw [h2]; simp
      · right
        refine ⟨by simp; omega, ?_⟩
        have : s = 18446744073709551615 := by rw [← hs]; unfold Wig.fadd; rw [if_neg h]
        rw [this]; rfl
  have c1 := fun w => add_lit a b s w hs ha hb
  have c2 := fun w => sub_lit s b x w hx hs64 hb
  have c4 : ∀ w, Calls Try.prog 13 #[.int .u64 a, .int .u64 0] w fun e w' => e = .returned (.int .u64 (a : Int)) ∧ w = w' := fun w => sub_lit a 0 a w rfl ha (by decide)
  have c5 : ∀ w, Calls Try.prog 17 #[.int .u64 a, .int .u64 0, .int .u64 b] w fun e w' => e = .returned (.int .u64 0) ∧ ∃ n, w.drewN n = w' := fun w => muldiv_lit a 0 b 0 w (by unfold Wig.fmuldiv; rw [Nat.mul_zero, if_pos rfl]) ha (by decide) hb
  have c6 : ∀ w, Calls Try.prog 19 #[.int .u64 a, .int .u64 256] w fun e w' => e = .returned (.int .u64 (a : Int)) ∧ ∃ n, w.drewN n = w' := fun w => gain_lit a 256 a w (muldiv_same a 256 ha (by decide)) ha (by decide)
  have C1 := Lib.hid c1
  have C2 := Lib.hid c2
  have C4 := Lib.hid c4
  have C5 := Lib.hid c5
  have C6 := Lib.hid c6
  have C0 := Lib.hid @awake_any
  clear c1 c2 c4 c5 c6 hs hx
  by_cases hb0 : b = 0
  · have hbz : ((b : Int) == 0) = true := by rw [hb0]; rfl
    clear hb0
    rcases hone with o1 | ⟨o1, o2⟩
    all_goals
      go_enter Try.func6, Try.ntmps6
      go_wp2_with fail
      refine (C0.out _).mono ?_
      rintro e w1 ⟨rfl, hb1⟩
      have B1 := Lib.hid hb1
      clear hb1
      go_wp2_with fail
      refine (C1.out _).mono ?_
      rintro e w2 ⟨rfl, rfl⟩
      go_wp2_with fail
      refine (C2.out _).mono ?_
      rintro e w2 ⟨rfl, rfl⟩
      go_wp2_with fail
      refine (C4.out _).mono ?_
      rintro e w2 ⟨rfl, rfl⟩
      go_wp2_with fail
      refine (C5.out _).mono ?_
      rintro e w2 ⟨rfl, n, rfl⟩
      go_wp2_with fail
      refine (C6.out _).mono ?_
      rintro e w2 ⟨rfl, n2, rfl⟩
      go_wp2_with fail
      go_ret
      exact ⟨rfl, below_drewN' B1.out _⟩
  · have hbz : ((b : Int) == 0) = false := by simp; omega
    have C3 := Lib.hid (fun w => muldiv_lit a b b a w (muldiv_same a b ha hb0) ha hb hb)
    clear hb0
    rcases hone with o1 | ⟨o1, o2⟩
    all_goals
      go_enter Try.func6, Try.ntmps6
      go_wp2_with fail
      refine (C0.out _).mono ?_
      rintro e w1 ⟨rfl, hb1⟩
      have B1 := Lib.hid hb1
      clear hb1
      go_wp2_with fail
      refine (C1.out _).mono ?_
      rintro e w2 ⟨rfl, rfl⟩
      go_wp2_with fail
      refine (C2.out _).mono ?_
      rintro e w2 ⟨rfl, rfl⟩
      go_wp2_with fail
      refine (C3.out _).mono ?_
      rintro e w2 ⟨rfl, n0, rfl⟩
      go_wp2_with fail
      refine (C4.out _).mono ?_
      rintro e w2 ⟨rfl, rfl⟩
      go_wp2_with fail
      refine (C5.out _).mono ?_
      rintro e w2 ⟨rfl, n, rfl⟩
      go_wp2_with fail
      refine (C6.out _).mono ?_
      rintro e w2 ⟨rfl, n2, rfl⟩
      go_wp2_with fail
      go_ret
      exact ⟨rfl, below_drewN' B1.out _⟩

set_option maxRecDepth 100000 in
theorem lifted (os : Os) (started : os.Started) (H : Type) (enc : TypeId × Value → H) :
    ReturnsInHanded {} Try.checked os 6 .any (Rows.fixUndoesSpec.pre6 enc Try.prog Try.f6 Rows.fixUndoesRow.domain false) (Rows.fixUndoesSpec.post enc Try.prog Try.f6 false true false false) := by
  refine returnsInHanded_of_change (C := Try.checked) own started (by kernel_rfl) Try.func6
    (ChangeSpec.witness6 (enc := enc) (C := Try.checked) false ⟨#[], #[.int .u64 0, .int .u64 0], []⟩ 8 (by kernel_rfl) (by kernel_rfl) (by kernel_rfl) (by kernel_rfl)) ?_
  intro W base args ds gs before hval0 hW hcnd _
  have hval : ∀ (j : Nat) t v, Try.f6.params[j]? = some t → args[j]? = some v → Value.okWide Try.prog W .any base t v := hval0
  have hW' := hW
  obtain ⟨p, q, hA0, hV, rfl, hfz, hnd⟩ := hW
  have hA : DataW.TrodAll enc Try.prog W 0 (fun _ => true) true Try.f6.params.toList args.toList ds p := hA0
  rw [Try.params6] at hA hval
  obtain ⟨v0, vs0, d0, ds0, p0, q0, hargs, rfl, rfl, h0, r0⟩ := trodAll_cons hA
  obtain ⟨v1, vs1, d1, ds1, p1, q1, rfl, rfl, rfl, h1, r1⟩ := trodAll_cons r0
  obtain ⟨rfl, rfl, rfl⟩ := trodAll_nil r1
  obtain rfl : args = #[v0, v1] := by cases args; simp_all
  obtain ⟨rfl, rfl⟩ := trodVars_none hV
  obtain ⟨a0, rfl, rfl, rfl, w0⟩ := open_int Try.underlying22 (hval 0 22 v0 rfl rfl) h0
  obtain ⟨a1, rfl, rfl, rfl, w1⟩ := open_int Try.underlying22 (hval 1 22 v1 rfl rfl) h1
  clear hA0 hval0
  simp only [List.append_nil] at hW'
  refine (walk a0 a1 w0 w1 W).mono fun e W' ⟨he, hg⟩ => ?_
  subst he
  exact ⟨_, rfl, law_post (pa := []) (pv := []) hW' (fun _ _ _ => (trodAll_cons_mk (shut_bool Try.underlying4 _) trodAll_mk0)) (fun sp _ => (trodAll_cons_mk (shut_int Try.underlying22 w0) (trodAll_cons_mk (shut_int Try.underlying22 w1) trodAll_mk0))) (fun _ _ => rfl) rfl
    hg (ok_one (by kernel_rfl) rfl (okWide_bool_mk Try.underlying4 _))⟩

theorem over : Rows.fixUndoesRow.holds Try.pinned (OpenSpec.ofChange Rows.fixUndoesSpec) :=
  OpenClaim.holds_of_wide 6 Try.f6 rfl rfl rfl rfl rfl rfl rfl ⟨rfl, rfl, rfl, rfl, rfl⟩ rfl rfl rfl rfl rfl (by kernel_rfl) Try.func6 (by kernel_rfl)
    (of_decide_eq_true (by kernel_rfl)) (by unfold Func.isWrapper; first | (rw [if_pos (by decide +kernel)]; kernel_rfl) | (rw [if_neg (by decide +kernel)]; exact ⟨rfl, rfl⟩))
    (fun os started H enc _ => lifted os started H enc)

/-- ████ THE STATEMENT ████ -/
theorem proved : Rows.FixUndoesSaid :=
  over
end Go.Proofs.Ytfgnpikfnfbaaaa.fixUndoes
