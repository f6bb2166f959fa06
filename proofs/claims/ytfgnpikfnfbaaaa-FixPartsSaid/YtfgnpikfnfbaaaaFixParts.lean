/-
  FixParts: a product through a number is what is left of the product, by so many times that number, for all numbers of 32 bits, and all divisors of 64. No condition.
-/
import Derived.Test.YtfgnpikfnfbaaaaFixW
namespace Go.Proofs.Ytfgnpikfnfbaaaa.fixParts
open Go.ChangeShapes Go.WideShapes Go.ChangeAt Go.RowKit
set_option linter.unusedVariables false

theorem walk (a0 : Int) (a1 : Int) (a2 : Int) (w0 : (Lit.int .u32 a0).wf = true) (w1 : (Lit.int .u32 a1).wf = true) (w2 : (Lit.int .u64 a2).wf = true) (w : World) :
    Calls Try.prog 7 #[.int .u32 a0, .int .u32 a1, .int .u64 a2] w fun e w' => e = .returned (.bool true) ∧ Below w.heap.size w w' := by
  obtain ⟨a, rfl, ha⟩ := nat_of_u32 w0
  obtain ⟨b, rfl, hb⟩ := nat_of_u32 w1
  obtain ⟨c, rfl, hc⟩ := nat_of_u64 w2
  have hab : a * b ≤ 4294967295 * 4294967295 := Nat.mul_le_mul (by omega) (by omega)
  obtain ⟨p, hp⟩ : ∃ p, p = a * b := ⟨_, rfl⟩
  obtain ⟨q, hq⟩ : ∃ q, Wig.fmuldiv a b c = q := ⟨_, rfl⟩
  have m1 : IntKind.u64.wrap ((a : Int) * (b : Int)) = (p : Int) := by rw [mul_nat (by omega), hp]
  have hpb : p < 18446744073709551616 := by omega
  have hmul : Wig.fmul a b = p := by unfold Wig.fmul; rw [if_pos (by omega), hp]
  have hval : q = if p = 0 then 0 else if c = 0 then 18446744073709551615 else p / c := by
    rw [← hq]; unfold Wig.fmuldiv; rw [← hp]
    by_cases h0 : p = 0
    · rw [if_pos h0, if_pos h0]
    · rw [if_neg h0, if_neg h0]
      by_cases h1 : c = 0
      · rw [if_pos h1, if_pos (by rw [h1, Nat.zero_mul]; exact Nat.zero_le _)]
      · rw [if_neg h1, if_neg (by omega)]
  have C0 := Lib.hid @awake_any
  have C1 := Lib.hid (fun w => muldiv_lit a b c q w hq (by omega) (by omega) hc)
  have C2 := Lib.hid (fun w => mul_lit a b p w hmul (by omega) (by omega))
  clear hab hmul hq
  by_cases h0 : c = 0
  · have hcz : ((c : Int) == 0) = true := by rw [h0]; rfl
    have hz : ((q : Int) == 0) = true ∧ ((p : Int) == 0) = true ∨ ((q : Int) == 0) = false ∧ ((p : Int) == 0) = false := by
      rw [hval]
      by_cases h1 : p = 0
      · left; rw [if_pos h1, h1]; exact ⟨rfl, rfl⟩
      · right; rw [if_neg h1, if_pos h0]; exact ⟨rfl, by simp; omega⟩
    clear hp hval h0
    rcases hz with ⟨z1, z2⟩ | ⟨z1, z2⟩
    all_goals
      go_enter Try.func7, Try.ntmps7
      go_wp2_with fail
      refine (C0.out _).mono ?_
      rintro e ww1 ⟨rfl, hb1⟩
      have B1 := Lib.hid hb1
      clear hb1
      go_wp2_with fail
      refine (C1.out _).mono ?_
      rintro e wn ⟨rfl, nn2, rfl⟩
      go_wp2_with fail
      go_ret
      exact ⟨rfl, below_drewN' (below_trans' (Below.refl _ _) B1.out) _⟩
  · have hcz : ((c : Int) == 0) = false := by simp; omega
    have hc1 : 1 ≤ c := by omega
    have hqv : q = p / c := by
      rw [hval]
      by_cases h1 : p = 0
      · rw [if_pos h1, h1, Nat.zero_div]
      · rw [if_neg h1, if_neg h0]
    have d1 : (p : Int) / (c : Int) = (q : Int) := by rw [hqv]; exact (Int.natCast_ediv _ _).symm
    have hqb : q < 18446744073709551616 := by rw [hqv]; exact Nat.lt_of_le_of_lt (Nat.div_le_self _ _) hpb
    clear hp hval h0 hqv
    go_enter Try.func7, Try.ntmps7
    go_wp2_with fail
    refine (C0.out _).mono ?_
    rintro e ww1 ⟨rfl, hb1⟩
    have B1 := Lib.hid hb1
    clear hb1
    go_wp2_with fail
    refine (C1.out _).mono ?_
    rintro e wn ⟨rfl, nn2, rfl⟩
    go_wp2_with fail
    refine (C2.out _).mono ?_
    rintro e wn ⟨rfl, rfl⟩
    go_wp2_with fail
    go_ret
    exact ⟨rfl, below_drewN' (below_trans' (Below.refl _ _) B1.out) _⟩

set_option maxRecDepth 100000 in
theorem lifted (os : Os) (started : os.Started) (H : Type) (enc : TypeId × Value → H) :
    ReturnsInHanded {} Try.checked os 7 .any (Rows.fixPartsSpec.pre6 enc Try.prog Try.f7 Rows.fixPartsRow.domain false) (Rows.fixPartsSpec.post enc Try.prog Try.f7 false true false false) := by
  refine returnsInHanded_of_change (C := Try.checked) own started (by kernel_rfl) Try.func7
    (ChangeSpec.witness6 (enc := enc) (C := Try.checked) false ⟨#[], #[.int .u32 0, .int .u32 0, .int .u64 0], []⟩ 8 (by kernel_rfl) (by kernel_rfl) (by kernel_rfl) (by kernel_rfl)) ?_
  intro W base args ds gs before hval0 hW hcnd _
  have hval : ∀ (j : Nat) t v, Try.f7.params[j]? = some t → args[j]? = some v → Value.okWide Try.prog W .any base t v := hval0
  have hW' := hW
  obtain ⟨p, q, hA0, hV, rfl, hfz, hnd⟩ := hW
  have hA : DataW.TrodAll enc Try.prog W 0 (fun _ => true) true Try.f7.params.toList args.toList ds p := hA0
  rw [Try.params7] at hA hval
  obtain ⟨v0, vs0, d0, ds0, p0, q0, hargs, rfl, rfl, h0, r0⟩ := trodAll_cons hA
  obtain ⟨v1, vs1, d1, ds1, p1, q1, rfl, rfl, rfl, h1, r1⟩ := trodAll_cons r0
  obtain ⟨v2, vs2, d2, ds2, p2, q2, rfl, rfl, rfl, h2, r2⟩ := trodAll_cons r1
  obtain ⟨rfl, rfl, rfl⟩ := trodAll_nil r2
  obtain rfl : args = #[v0, v1, v2] := by cases args; simp_all
  obtain ⟨rfl, rfl⟩ := trodVars_none hV
  obtain ⟨a0, rfl, rfl, rfl, w0⟩ := open_int Try.underlying31 (hval 0 31 v0 rfl rfl) h0
  obtain ⟨a1, rfl, rfl, rfl, w1⟩ := open_int Try.underlying31 (hval 1 31 v1 rfl rfl) h1
  obtain ⟨a2, rfl, rfl, rfl, w2⟩ := open_int Try.underlying22 (hval 2 22 v2 rfl rfl) h2
  clear hA0 hval0
  simp only [List.append_nil] at hW'
  refine (walk a0 a1 a2 w0 w1 w2 W).mono fun e W' ⟨he, hg⟩ => ?_
  subst he
  exact ⟨_, rfl, law_post (pa := []) (pv := []) hW' (fun _ _ _ => (trodAll_cons_mk (shut_bool Try.underlying4 _) trodAll_mk0)) (fun sp _ => (trodAll_cons_mk (shut_int Try.underlying31 w0) (trodAll_cons_mk (shut_int Try.underlying31 w1) (trodAll_cons_mk (shut_int Try.underlying22 w2) trodAll_mk0)))) (fun _ _ => rfl) rfl
    hg (ok_one (by kernel_rfl) rfl (okWide_bool_mk Try.underlying4 _))⟩

theorem over : Rows.fixPartsRow.holds Try.pinned (OpenSpec.ofChange Rows.fixPartsSpec) :=
  OpenClaim.holds_of_wide 7 Try.f7 rfl rfl rfl rfl rfl rfl rfl ⟨rfl, rfl, rfl, rfl, rfl⟩ rfl rfl rfl rfl rfl (by kernel_rfl) Try.func7 (by kernel_rfl)
    (of_decide_eq_true (by kernel_rfl)) (by unfold Func.isWrapper; first | (rw [if_pos (by decide +kernel)]; kernel_rfl) | (rw [if_neg (by decide +kernel)]; exact ⟨rfl, rfl⟩))
    (fun os started H enc _ => lifted os started H enc)

/-- ████ THE STATEMENT ████ -/
theorem proved : Rows.FixPartsSaid :=
  over
end Go.Proofs.Ytfgnpikfnfbaaaa.fixParts
