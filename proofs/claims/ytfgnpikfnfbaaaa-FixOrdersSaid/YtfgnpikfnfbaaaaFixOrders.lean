/-
  FixOrders: orders do not matter, and nothing falls where a number rises, for all numbers of 64 bits. No condition.
-/
import Derived.Test.YtfgnpikfnfbaaaaFixW
namespace Go.Proofs.Ytfgnpikfnfbaaaa.fixOrders
open Go.ChangeShapes Go.WideShapes Go.ChangeAt Go.RowKit
set_option linter.unusedVariables false

theorem add_comm (a b : Nat) : Wig.fadd b a = Wig.fadd a b := by unfold Wig.fadd; rw [Nat.add_comm]
theorem mul_comm (a b : Nat) : Wig.fmul b a = Wig.fmul a b := by unfold Wig.fmul; rw [Nat.mul_comm]
theorem muldiv_comm (a b c : Nat) : Wig.fmuldiv b a c = Wig.fmuldiv a b c := by unfold Wig.fmuldiv; rw [Nat.mul_comm]
theorem add_mono {a d : Nat} (b : Nat) (h : a ≤ d) : Wig.fadd a b ≤ Wig.fadd d b := by unfold Wig.fadd; split <;> split <;> omega
theorem sub_mono {a d : Nat} (b : Nat) (h : a ≤ d) : Wig.fsub a b ≤ Wig.fsub d b := by unfold Wig.fsub; omega
theorem mul_mono {a d : Nat} (b : Nat) (h : a ≤ d) : Wig.fmul a b ≤ Wig.fmul d b := by
  have := Nat.mul_le_mul_right b h
  unfold Wig.fmul; split <;> split <;> omega
theorem muldiv_mono {a d : Nat} (b c : Nat) (h : a ≤ d) : Wig.fmuldiv a b c ≤ Wig.fmuldiv d b c := by
  have hm := Nat.mul_le_mul_right b h
  have hl := Wig.fmuldiv_lt a b c
  by_cases h1 : a * b = 0
  · have e : Wig.fmuldiv a b c = 0 := by unfold Wig.fmuldiv; rw [if_pos h1]
    omega
  · by_cases h2 : c * 18446744073709551616 ≤ d * b
    · have e : Wig.fmuldiv d b c = 18446744073709551615 := by unfold Wig.fmuldiv; rw [if_neg (by omega), if_pos h2]
      omega
    · unfold Wig.fmuldiv
      rw [if_neg h1, if_neg (by omega), if_neg (by omega), if_neg h2]
      exact Nat.div_le_div_right hm

/-- What all calls of the statement return, with the lesser number lo and the greater one hi. -/
structure Facts (lo hi b c x1 x3 y1 y3 d1 d3 z1 z3 g1 g3 r1 r3 : Nat) : Prop where
  A1 : Hid (∀ w, Calls Try.prog 11 #[.int .u64 lo, .int .u64 b] w fun e w' => e = .returned (.int .u64 (x1 : Int)) ∧ w = w')
  A2 : Hid (∀ w, Calls Try.prog 11 #[.int .u64 b, .int .u64 lo] w fun e w' => e = .returned (.int .u64 (x1 : Int)) ∧ w = w')
  A3 : Hid (∀ w, Calls Try.prog 11 #[.int .u64 hi, .int .u64 b] w fun e w' => e = .returned (.int .u64 (x3 : Int)) ∧ w = w')
  M1 : Hid (∀ w, Calls Try.prog 15 #[.int .u64 lo, .int .u64 b] w fun e w' => e = .returned (.int .u64 (y1 : Int)) ∧ w = w')
  M2 : Hid (∀ w, Calls Try.prog 15 #[.int .u64 b, .int .u64 lo] w fun e w' => e = .returned (.int .u64 (y1 : Int)) ∧ w = w')
  M3 : Hid (∀ w, Calls Try.prog 15 #[.int .u64 hi, .int .u64 b] w fun e w' => e = .returned (.int .u64 (y3 : Int)) ∧ w = w')
  D1 : Hid (∀ w, Calls Try.prog 17 #[.int .u64 lo, .int .u64 b, .int .u64 c] w fun e w' => e = .returned (.int .u64 (d1 : Int)) ∧ ∃ n, w.drewN n = w')
  D2 : Hid (∀ w, Calls Try.prog 17 #[.int .u64 b, .int .u64 lo, .int .u64 c] w fun e w' => e = .returned (.int .u64 (d1 : Int)) ∧ ∃ n, w.drewN n = w')
  D3 : Hid (∀ w, Calls Try.prog 17 #[.int .u64 hi, .int .u64 b, .int .u64 c] w fun e w' => e = .returned (.int .u64 (d3 : Int)) ∧ ∃ n, w.drewN n = w')
  S1 : Hid (∀ w, Calls Try.prog 13 #[.int .u64 lo, .int .u64 b] w fun e w' => e = .returned (.int .u64 (z1 : Int)) ∧ w = w')
  S2 : Hid (∀ w, Calls Try.prog 13 #[.int .u64 hi, .int .u64 b] w fun e w' => e = .returned (.int .u64 (z3 : Int)) ∧ w = w')
  G1 : Hid (∀ w, Calls Try.prog 19 #[.int .u64 lo, .int .u64 b] w fun e w' => e = .returned (.int .u64 (g1 : Int)) ∧ ∃ n, w.drewN n = w')
  G2 : Hid (∀ w, Calls Try.prog 19 #[.int .u64 hi, .int .u64 b] w fun e w' => e = .returned (.int .u64 (g3 : Int)) ∧ ∃ n, w.drewN n = w')
  R1 : Hid (∀ w : World, Calls Try.prog 21 #[.int .u64 lo] w fun e w' => e = .returned (.int .u64 (r1 : Int)) ∧ Below w.heap.size w w')
  R2 : Hid (∀ w : World, Calls Try.prog 21 #[.int .u64 hi] w fun e w' => e = .returned (.int .u64 (r3 : Int)) ∧ Below w.heap.size w w')
  i1 : decide (x1 ≤ x3) = true
  i2 : decide (z1 ≤ z3) = true
  i3 : decide (y1 ≤ y3) = true
  i4 : decide (d1 ≤ d3) = true
  i5 : decide (g1 ≤ g3) = true
  i6 : decide (r1 ≤ r3) = true

theorem facts (lo hi b c : Nat) (h : lo ≤ hi) (hh : hi < 18446744073709551616) (hb : b < 18446744073709551616) (hc : c < 18446744073709551616) :
    ∃ x1 x3 y1 y3 d1 d3 z1 z3 g1 g3 r1 r3, Facts lo hi b c x1 x3 y1 y3 d1 d3 z1 z3 g1 g3 r1 r3 := by
  have hl : lo < 18446744073709551616 := by omega
  refine ⟨_, _, _, _, _, _, _, _, _, _, _, _, ⟨Lib.hid (fun w => add_lit lo b _ w rfl hl hb), Lib.hid (fun w => add_lit b lo _ w (add_comm lo b) hb hl), Lib.hid (fun w => add_lit hi b _ w rfl hh hb),
    Lib.hid (fun w => mul_lit lo b _ w rfl hl hb), Lib.hid (fun w => mul_lit b lo _ w (mul_comm lo b) hb hl), Lib.hid (fun w => mul_lit hi b _ w rfl hh hb),
    Lib.hid (fun w => muldiv_lit lo b c _ w rfl hl hb hc), Lib.hid (fun w => muldiv_lit b lo c _ w (muldiv_comm lo b c) hb hl hc), Lib.hid (fun w => muldiv_lit hi b c _ w rfl hh hb hc),
    Lib.hid (fun w => sub_lit lo b _ w rfl hl hb), Lib.hid (fun w => sub_lit hi b _ w rfl hh hb),
    Lib.hid (fun w => gain_lit lo b _ w rfl hl hb), Lib.hid (fun w => gain_lit hi b _ w rfl hh hb), Lib.hid (fun w => cbrt_lit lo _ w rfl hl), Lib.hid (fun w => cbrt_lit hi _ w rfl hh),
    decide_eq_true (add_mono b h), decide_eq_true (sub_mono b h), decide_eq_true (mul_mono b h), decide_eq_true (muldiv_mono b c h), decide_eq_true (muldiv_mono b 256 h), decide_eq_true (Wig.fcbrt_mono h hh)⟩⟩

set_option maxRecDepth 100000 in
set_option maxHeartbeats 1000000 in
theorem walk (a0 : Int) (a1 : Int) (a2 : Int) (a3 : Int) (w0 : (Lit.int .u64 a0).wf = true) (w1 : (Lit.int .u64 a1).wf = true) (w2 : (Lit.int .u64 a2).wf = true) (w3 : (Lit.int .u64 a3).wf = true) (w : World) :
    Calls Try.prog 4 #[.int .u64 a0, .int .u64 a1, .int .u64 a2, .int .u64 a3] w fun e w' => e = .returned (.bool true) ∧ Below w.heap.size w w' := by
  obtain ⟨a, rfl, ha⟩ := nat_of_u64 w0
  obtain ⟨b, rfl, hb⟩ := nat_of_u64 w1
  obtain ⟨c, rfl, hc⟩ := nat_of_u64 w2
  obtain ⟨d, rfl, hd⟩ := nat_of_u64 w3
  have C0 := Lib.hid @awake_any
  obtain ⟨lo, hi, emin, emax, hle, hh⟩ : ∃ lo hi : Nat, min (a : Int) (d : Int) = (lo : Int) ∧ max (a : Int) (d : Int) = (hi : Int) ∧ lo ≤ hi ∧ hi < 18446744073709551616 :=
    ⟨min a d, max a d, by omega, by omega, by omega, by omega⟩
  obtain ⟨x1, x3, y1, y3, d1, d3, z1, z3, g1, g3, r1, r3, A1, A2, A3, M1, M2, M3, D1, D2, D3, S1, S2, G1, G2, R1, R2, i1, i2, i3, i4, i5, i6⟩ := facts lo hi b c hle hh hb hc
  clear hle hh
  go_enter Try.func4, Try.ntmps4
  go_wp2_with fail
  refine (C0.out _).mono ?_
  rintro e ww1 ⟨rfl, hb1⟩
  have B1 := Lib.hid hb1
  clear hb1
  go_wp2_with fail
  refine (A1.out _).mono ?_
  rintro e wn ⟨rfl, rfl⟩
  go_wp2_with fail
  refine (A2.out _).mono ?_
  rintro e wn ⟨rfl, rfl⟩
  go_wp2_with fail
  refine (M1.out _).mono ?_
  rintro e wn ⟨rfl, rfl⟩
  go_wp2_with fail
  refine (M2.out _).mono ?_
  rintro e wn ⟨rfl, rfl⟩
  go_wp2_with fail
  refine (D1.out _).mono ?_
  rintro e wn ⟨rfl, nn6, rfl⟩
  go_wp2_with fail
  refine (D2.out _).mono ?_
  rintro e wn ⟨rfl, nn7, rfl⟩
  go_wp2_with fail
  refine (A1.out _).mono ?_
  rintro e wn ⟨rfl, rfl⟩
  go_wp2_with fail
  refine (A3.out _).mono ?_
  rintro e wn ⟨rfl, rfl⟩
  go_wp2_with fail
  refine (S1.out _).mono ?_
  rintro e wn ⟨rfl, rfl⟩
  go_wp2_with fail
  refine (S2.out _).mono ?_
  rintro e wn ⟨rfl, rfl⟩
  go_wp2_with fail
  refine (M1.out _).mono ?_
  rintro e wn ⟨rfl, rfl⟩
  go_wp2_with fail
  refine (M3.out _).mono ?_
  rintro e wn ⟨rfl, rfl⟩
  go_wp2_with fail
  refine (D1.out _).mono ?_
  rintro e wn ⟨rfl, nn14, rfl⟩
  go_wp2_with fail
  refine (D3.out _).mono ?_
  rintro e wn ⟨rfl, nn15, rfl⟩
  go_wp2_with fail
  refine (G1.out _).mono ?_
  rintro e wn ⟨rfl, nn16, rfl⟩
  go_wp2_with fail
  refine (G2.out _).mono ?_
  rintro e wn ⟨rfl, nn17, rfl⟩
  go_wp2_with fail
  refine (R1.out _).mono ?_
  rintro e ww18 ⟨rfl, hb18⟩
  have B18 := Lib.hid hb18
  clear hb18
  go_wp2_with fail
  refine (R2.out _).mono ?_
  rintro e ww19 ⟨rfl, hb19⟩
  have B19 := Lib.hid hb19
  clear hb19
  go_wp2_with fail
  go_ret
  exact ⟨rfl, below_trans' (below_trans' (below_drewN' (below_trans' (Below.refl _ _) B1.out) _) B18.out) B19.out⟩

set_option maxRecDepth 100000 in
theorem lifted (os : Os) (started : os.Started) (H : Type) (enc : TypeId × Value → H) :
    ReturnsInHanded {} Try.checked os 4 .any (Rows.fixOrdersSpec.pre6 enc Try.prog Try.f4 Rows.fixOrdersRow.domain false) (Rows.fixOrdersSpec.post enc Try.prog Try.f4 false true false false) := by
  refine returnsInHanded_of_change (C := Try.checked) own started (by kernel_rfl) Try.func4
    (ChangeSpec.witness6 (enc := enc) (C := Try.checked) false ⟨#[], #[.int .u64 0, .int .u64 0, .int .u64 0, .int .u64 0], []⟩ 8 (by kernel_rfl) (by kernel_rfl) (by kernel_rfl) (by kernel_rfl)) ?_
  intro W base args ds gs before hval0 hW hcnd _
  have hval : ∀ (j : Nat) t v, Try.f4.params[j]? = some t → args[j]? = some v → Value.okWide Try.prog W .any base t v := hval0
  have hW' := hW
  obtain ⟨p, q, hA0, hV, rfl, hfz, hnd⟩ := hW
  have hA : DataW.TrodAll enc Try.prog W 0 (fun _ => true) true Try.f4.params.toList args.toList ds p := hA0
  rw [Try.params4] at hA hval
  obtain ⟨v0, vs0, d0, ds0, p0, q0, hargs, rfl, rfl, h0, r0⟩ := trodAll_cons hA
  obtain ⟨v1, vs1, d1, ds1, p1, q1, rfl, rfl, rfl, h1, r1⟩ := trodAll_cons r0
  obtain ⟨v2, vs2, d2, ds2, p2, q2, rfl, rfl, rfl, h2, r2⟩ := trodAll_cons r1
  obtain ⟨v3, vs3, d3, ds3, p3, q3, rfl, rfl, rfl, h3, r3⟩ := trodAll_cons r2
  obtain ⟨rfl, rfl, rfl⟩ := trodAll_nil r3
  obtain rfl : args = #[v0, v1, v2, v3] := by cases args; simp_all
  obtain ⟨rfl, rfl⟩ := trodVars_none hV
  obtain ⟨a0, rfl, rfl, rfl, w0⟩ := open_int Try.underlying22 (hval 0 22 v0 rfl rfl) h0
  obtain ⟨a1, rfl, rfl, rfl, w1⟩ := open_int Try.underlying22 (hval 1 22 v1 rfl rfl) h1
  obtain ⟨a2, rfl, rfl, rfl, w2⟩ := open_int Try.underlying22 (hval 2 22 v2 rfl rfl) h2
  obtain ⟨a3, rfl, rfl, rfl, w3⟩ := open_int Try.underlying22 (hval 3 22 v3 rfl rfl) h3
  clear hA0 hval0
  simp only [List.append_nil] at hW'
  refine (walk a0 a1 a2 a3 w0 w1 w2 w3 W).mono fun e W' ⟨he, hg⟩ => ?_
  subst he
  exact ⟨_, rfl, law_post (pa := []) (pv := []) hW' (fun _ _ _ => (trodAll_cons_mk (shut_bool Try.underlying4 _) trodAll_mk0)) (fun sp _ => (trodAll_cons_mk (shut_int Try.underlying22 w0) (trodAll_cons_mk (shut_int Try.underlying22 w1) (trodAll_cons_mk (shut_int Try.underlying22 w2) (trodAll_cons_mk (shut_int Try.underlying22 w3) trodAll_mk0))))) (fun _ _ => rfl) rfl
    hg (ok_one (by kernel_rfl) rfl (okWide_bool_mk Try.underlying4 _))⟩

theorem over : Rows.fixOrdersRow.holds Try.pinned (OpenSpec.ofChange Rows.fixOrdersSpec) :=
  OpenClaim.holds_of_wide 4 Try.f4 rfl rfl rfl rfl rfl rfl rfl ⟨rfl, rfl, rfl, rfl, rfl⟩ rfl rfl rfl rfl rfl (by kernel_rfl) Try.func4 (by kernel_rfl)
    (of_decide_eq_true (by kernel_rfl)) (by unfold Func.isWrapper; first | (rw [if_pos (by decide +kernel)]; kernel_rfl) | (rw [if_neg (by decide +kernel)]; exact ⟨rfl, rfl⟩))
    (fun os started H enc _ => lifted os started H enc)

/-- ████ THE STATEMENT ████ -/
theorem proved : Rows.FixOrdersSaid :=
  over
end Go.Proofs.Ytfgnpikfnfbaaaa.fixOrders
