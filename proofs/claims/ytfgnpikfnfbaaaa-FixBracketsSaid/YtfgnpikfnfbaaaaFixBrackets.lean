/-
  FixBrackets: brackets do not matter to sums and products, what is taken away twice is taken away together, a gain of all parts is the number, for all numbers of 64 bits. No condition.
-/
import Derived.Test.YtfgnpikfnfbaaaaFixW
namespace Go.Proofs.Ytfgnpikfnfbaaaa.fixBrackets
open Go.ChangeShapes Go.WideShapes Go.ChangeAt Go.RowKit
set_option linter.unusedVariables false

theorem add_assoc (a b c : Nat) : Wig.fadd (Wig.fadd a b) c = Wig.fadd a (Wig.fadd b c) := by
  unfold Wig.fadd
  by_cases h1 : a + b < 18446744073709551616 <;> by_cases h2 : b + c < 18446744073709551616 <;> simp only [h1, h2, if_true, if_false]
  all_goals (repeat' split)
  all_goals omega
theorem mul_top (m : Nat) : 18446744073709551615 * m < 18446744073709551616 → m = 0 ∨ m = 1 := by omega
theorem mul_assoc (a b c : Nat) (ha : a < 18446744073709551616) (hc : c < 18446744073709551616) : Wig.fmul (Wig.fmul a b) c = Wig.fmul a (Wig.fmul b c) := by
  unfold Wig.fmul
  have e : a * b * c = a * (b * c) := Nat.mul_assoc a b c
  by_cases ha0 : a = 0
  · subst ha0; simp
  by_cases hc0 : c = 0
  · subst hc0; simp
  by_cases h1 : a * b < 18446744073709551616
  · rw [if_pos h1]
    by_cases h2 : b * c < 18446744073709551616
    · rw [if_pos h2, e]
    · rw [if_neg h2]
      have g1 : b * c ≤ a * (b * c) := Nat.le_mul_of_pos_left _ (by omega)
      have g2 : 18446744073709551615 ≤ a * 18446744073709551615 := Nat.le_mul_of_pos_left _ (by omega)
      rw [e, if_neg (by omega)]
      split <;> omega
  · rw [if_neg h1]
    have g2 : 18446744073709551615 ≤ 18446744073709551615 * c := Nat.le_mul_of_pos_right _ (by omega)
    have g1 : a * b ≤ a * b * c := Nat.le_mul_of_pos_right _ (by omega)
    by_cases h2 : b * c < 18446744073709551616
    · rw [if_pos h2]
      split <;> split <;> omega
    · rw [if_neg h2]
      have g3 : 18446744073709551615 ≤ a * 18446744073709551615 := Nat.le_mul_of_pos_left _ (by omega)
      split <;> split <;> omega
theorem sub_sub (a b c : Nat) (ha : a < 18446744073709551616) : Wig.fsub (Wig.fsub a b) c = Wig.fsub a (Wig.fadd b c) := by
  unfold Wig.fsub Wig.fadd; split <;> omega
theorem gain_none (a : Nat) : Wig.fgain a 0 = 0 := by unfold Wig.fgain Wig.fmuldiv; rw [Nat.mul_zero, if_pos rfl]
theorem gain_two (a : Nat) : Wig.fgain a 512 = Wig.fmul a 2 := by
  unfold Wig.fgain Wig.fmuldiv Wig.fmul; repeat' split
  all_goals omega

set_option maxHeartbeats 1000000 in
theorem walk (a0 : Int) (a1 : Int) (a2 : Int) (w0 : (Lit.int .u64 a0).wf = true) (w1 : (Lit.int .u64 a1).wf = true) (w2 : (Lit.int .u64 a2).wf = true) (w : World) :
    Calls Try.prog 8 #[.int .u64 a0, .int .u64 a1, .int .u64 a2] w fun e w' => e = .returned (.bool true) ∧ Below w.heap.size w w' := by
  obtain ⟨a, rfl, ha⟩ := nat_of_u64 w0
  obtain ⟨b, rfl, hb⟩ := nat_of_u64 w1
  obtain ⟨c, rfl, hc⟩ := nat_of_u64 w2
  obtain ⟨x1, hx1, bx1⟩ : ∃ x, Wig.fadd a b = x ∧ x < 18446744073709551616 := ⟨_, rfl, Wig.fadd_lt _ _⟩
  obtain ⟨x2, hx2, bx2⟩ : ∃ x, Wig.fadd b c = x ∧ x < 18446744073709551616 := ⟨_, rfl, Wig.fadd_lt _ _⟩
  obtain ⟨x3, hx3⟩ : ∃ x, Wig.fadd x1 c = x := ⟨_, rfl⟩
  have hx4 : Wig.fadd a x2 = x3 := by rw [← hx3, ← hx1, ← hx2, add_assoc]
  obtain ⟨y1, hy1, by1⟩ : ∃ x, Wig.fmul a b = x ∧ x < 18446744073709551616 := ⟨_, rfl, Wig.fmul_lt _ _⟩
  obtain ⟨y2, hy2, by2⟩ : ∃ x, Wig.fmul b c = x ∧ x < 18446744073709551616 := ⟨_, rfl, Wig.fmul_lt _ _⟩
  obtain ⟨y3, hy3⟩ : ∃ x, Wig.fmul y1 c = x := ⟨_, rfl⟩
  have hy4 : Wig.fmul a y2 = y3 := by rw [← hy3, ← hy1, ← hy2, mul_assoc a b c ha hc]
  obtain ⟨z1, hz1⟩ : ∃ x, Wig.fsub a b = x := ⟨_, rfl⟩
  have bz1 : z1 < 18446744073709551616 := by rw [← hz1]; unfold Wig.fsub; omega
  obtain ⟨z2, hz2⟩ : ∃ x, Wig.fsub z1 c = x := ⟨_, rfl⟩
  have hz3 : Wig.fsub a x2 = z2 := by rw [← hz2, ← hz1, ← hx2, sub_sub a b c ha]
  obtain ⟨g, hg⟩ : ∃ x, Wig.fmul a 2 = x := ⟨_, rfl⟩
  have g1 : ∀ w, Calls Try.prog 19 #[.int .u64 a, .int .u64 0] w fun e w' => e = .returned (.int .u64 0) ∧ ∃ n, w.drewN n = w' := fun w => gain_lit a 0 0 w (gain_none a) ha (by decide)
  have g2 : ∀ w, Calls Try.prog 19 #[.int .u64 a, .int .u64 512] w fun e w' => e = .returned (.int .u64 (g : Int)) ∧ ∃ n, w.drewN n = w' := fun w => gain_lit a 512 g w (by rw [gain_two, hg]) ha (by decide)
  have m5 : ∀ w, Calls Try.prog 15 #[.int .u64 a, .int .u64 2] w fun e w' => e = .returned (.int .u64 (g : Int)) ∧ w = w' := fun w => mul_lit a 2 g w hg ha (by decide)
  have C0 := Lib.hid @awake_any
  have A1 := Lib.hid (fun w => add_lit a b x1 w hx1 ha hb)
  have A2 := Lib.hid (fun w => add_lit x1 c x3 w hx3 bx1 hc)
  have A3 := Lib.hid (fun w => add_lit b c x2 w hx2 hb hc)
  have A4 := Lib.hid (fun w => add_lit a x2 x3 w hx4 ha bx2)
  have M1 := Lib.hid (fun w => mul_lit a b y1 w hy1 ha hb)
  have M2 := Lib.hid (fun w => mul_lit y1 c y3 w hy3 by1 hc)
  have M3 := Lib.hid (fun w => mul_lit b c y2 w hy2 hb hc)
  have M4 := Lib.hid (fun w => mul_lit a y2 y3 w hy4 ha by2)
  have S1 := Lib.hid (fun w => sub_lit a b z1 w hz1 ha hb)
  have S2 := Lib.hid (fun w => sub_lit z1 c z2 w hz2 bz1 hc)
  have S3 := Lib.hid (fun w => sub_lit a x2 z2 w hz3 ha bx2)
  have G1 := Lib.hid g1
  have G2 := Lib.hid g2
  have M5 := Lib.hid m5
  clear g1 g2 m5 hx1 hx2 hx3 hx4 hy1 hy2 hy3 hy4 hz1 hz2 hz3 hg
  go_enter Try.func8, Try.ntmps8
  go_wp2_with fail
  refine (C0.out _).mono ?_
  rintro e ww1 ⟨rfl, hb1⟩
  have B1 := Lib.hid hb1
  clear hb1
  go_wp2_with fail
  refine (A1.out _).mono ?_
  rintro e wn ⟨rfl, rfl⟩
  go_wp2_with fail
  refine (A2.out _).mono ?_
  rintro e wn ⟨rfl, rfl⟩
  go_wp2_with fail
  refine (A3.out _).mono ?_
  rintro e wn ⟨rfl, rfl⟩
  go_wp2_with fail
  refine (A4.out _).mono ?_
  rintro e wn ⟨rfl, rfl⟩
  go_wp2_with fail
  refine (M1.out _).mono ?_
  rintro e wn ⟨rfl, rfl⟩
  go_wp2_with fail
  refine (M2.out _).mono ?_
  rintro e wn ⟨rfl, rfl⟩
  go_wp2_with fail
  refine (M3.out _).mono ?_
  rintro e wn ⟨rfl, rfl⟩
  go_wp2_with fail
  refine (M4.out _).mono ?_
  rintro e wn ⟨rfl, rfl⟩
  go_wp2_with fail
  refine (S1.out _).mono ?_
  rintro e wn ⟨rfl, rfl⟩
  go_wp2_with fail
  refine (S2.out _).mono ?_
  rintro e wn ⟨rfl, rfl⟩
  go_wp2_with fail
  refine (A3.out _).mono ?_
  rintro e wn ⟨rfl, rfl⟩
  go_wp2_with fail
  refine (S3.out _).mono ?_
  rintro e wn ⟨rfl, rfl⟩
  go_wp2_with fail
  refine (G1.out _).mono ?_
  rintro e wn ⟨rfl, nn14, rfl⟩
  go_wp2_with fail
  refine (G2.out _).mono ?_
  rintro e wn ⟨rfl, nn15, rfl⟩
  go_wp2_with fail
  refine (M5.out _).mono ?_
  rintro e wn ⟨rfl, rfl⟩
  go_wp2_with fail
  go_ret
  exact ⟨rfl, below_drewN' (below_trans' (Below.refl _ _) B1.out) _⟩

set_option maxRecDepth 100000 in
theorem lifted (os : Os) (started : os.Started) (H : Type) (enc : TypeId × Value → H) :
    ReturnsInHanded {} Try.checked os 8 .any (Rows.fixBracketsSpec.pre6 enc Try.prog Try.f8 Rows.fixBracketsRow.domain false) (Rows.fixBracketsSpec.post enc Try.prog Try.f8 false true false false) := by
  refine returnsInHanded_of_change (C := Try.checked) own started (by kernel_rfl) Try.func8
    (ChangeSpec.witness6 (enc := enc) (C := Try.checked) false ⟨#[], #[.int .u64 0, .int .u64 0, .int .u64 0], []⟩ 8 (by kernel_rfl) (by kernel_rfl) (by kernel_rfl) (by kernel_rfl)) ?_
  intro W base args ds gs before hval0 hW hcnd _
  have hval : ∀ (j : Nat) t v, Try.f8.params[j]? = some t → args[j]? = some v → Value.okWide Try.prog W .any base t v := hval0
  have hW' := hW
  obtain ⟨p, q, hA0, hV, rfl, hfz, hnd⟩ := hW
  have hA : DataW.TrodAll enc Try.prog W 0 (fun _ => true) true Try.f8.params.toList args.toList ds p := hA0
  rw [Try.params8] at hA hval
  obtain ⟨v0, vs0, d0, ds0, p0, q0, hargs, rfl, rfl, h0, r0⟩ := trodAll_cons hA
  obtain ⟨v1, vs1, d1, ds1, p1, q1, rfl, rfl, rfl, h1, r1⟩ := trodAll_cons r0
  obtain ⟨v2, vs2, d2, ds2, p2, q2, rfl, rfl, rfl, h2, r2⟩ := trodAll_cons r1
  obtain ⟨rfl, rfl, rfl⟩ := trodAll_nil r2
  obtain rfl : args = #[v0, v1, v2] := by cases args; simp_all
  obtain ⟨rfl, rfl⟩ := trodVars_none hV
  obtain ⟨a0, rfl, rfl, rfl, w0⟩ := open_int Try.underlying22 (hval 0 22 v0 rfl rfl) h0
  obtain ⟨a1, rfl, rfl, rfl, w1⟩ := open_int Try.underlying22 (hval 1 22 v1 rfl rfl) h1
  obtain ⟨a2, rfl, rfl, rfl, w2⟩ := open_int Try.underlying22 (hval 2 22 v2 rfl rfl) h2
  clear hA0 hval0
  simp only [List.append_nil] at hW'
  refine (walk a0 a1 a2 w0 w1 w2 W).mono fun e W' ⟨he, hg⟩ => ?_
  subst he
  exact ⟨_, rfl, law_post (pa := []) (pv := []) hW' (fun _ _ _ => (trodAll_cons_mk (shut_bool Try.underlying4 _) trodAll_mk0)) (fun sp _ => (trodAll_cons_mk (shut_int Try.underlying22 w0) (trodAll_cons_mk (shut_int Try.underlying22 w1) (trodAll_cons_mk (shut_int Try.underlying22 w2) trodAll_mk0)))) (fun _ _ => rfl) rfl
    hg (ok_one (by kernel_rfl) rfl (okWide_bool_mk Try.underlying4 _))⟩

theorem over : Rows.fixBracketsRow.holds Try.pinned (OpenSpec.ofChange Rows.fixBracketsSpec) :=
  OpenClaim.holds_of_wide 8 Try.f8 rfl rfl rfl rfl rfl rfl rfl ⟨rfl, rfl, rfl, rfl, rfl⟩ rfl rfl rfl rfl rfl (by kernel_rfl) Try.func8 (by kernel_rfl)
    (of_decide_eq_true (by kernel_rfl)) (by unfold Func.isWrapper; first | (rw [if_pos (by decide +kernel)]; kernel_rfl) | (rw [if_neg (by decide +kernel)]; exact ⟨rfl, rfl⟩))
    (fun os started H enc _ => lifted os started H enc)

/-- ████ THE STATEMENT ████ -/
theorem proved : Rows.FixBracketsSaid :=
  over
end Go.Proofs.Ytfgnpikfnfbaaaa.fixBrackets
