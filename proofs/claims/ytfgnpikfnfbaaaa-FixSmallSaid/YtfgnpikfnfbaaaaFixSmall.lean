/-
  FixSmall: of numbers of thirty-two bits sums, products, differences and roots are as Go reckons, for all of them. No condition.
-/
import Derived.Test.YtfgnpikfnfbaaaaFixW
namespace Go.Proofs.Ytfgnpikfnfbaaaa.fixSmall
open Go.ChangeShapes Go.WideShapes Go.ChangeAt Go.RowKit
set_option linter.unusedVariables false

set_option maxHeartbeats 1000000 in
theorem walk (a0 : Int) (a1 : Int) (w0 : (Lit.int .u32 a0).wf = true) (w1 : (Lit.int .u32 a1).wf = true) (w : World) :
    Calls Try.prog 9 #[.int .u32 a0, .int .u32 a1] w fun e w' => e = .returned (.bool true) ∧ Below w.heap.size w w' := by
  obtain ⟨a, rfl, ha⟩ := nat_of_u32 w0
  obtain ⟨b, rfl, hb⟩ := nat_of_u32 w1
  have hab : a * b ≤ 4294967295 * 4294967295 := Nat.mul_le_mul (by omega) (by omega)
  obtain ⟨p, hp⟩ : ∃ p, p = a * b := ⟨_, rfl⟩
  have m1 : IntKind.u64.wrap ((a : Int) * (b : Int)) = (p : Int) := by rw [mul_nat (by omega), hp]
  obtain ⟨r, hr⟩ : ∃ r, r = a % 2048 := ⟨_, rfl⟩
  have er : (a : Int) % 2048 = (r : Int) := by omega
  have br : r ≤ 2047 := by omega
  obtain ⟨q, hq⟩ : ∃ q, q = r * r := ⟨_, rfl⟩
  have bq : q ≤ 2047 * 2047 := by rw [hq]; exact Nat.mul_le_mul br br
  obtain ⟨c, hcc⟩ : ∃ c, c = q * r := ⟨_, rfl⟩
  have bc : c ≤ 2047 * 2047 * 2047 := by rw [hcc]; exact Nat.mul_le_mul bq br
  have m2 : IntKind.u64.wrap ((r : Int) * (r : Int)) = (q : Int) := by rw [mul_nat (by omega), hq]
  have m3 : IntKind.u64.wrap ((q : Int) * (r : Int)) = (c : Int) := by rw [mul_nat (by omega), hcc]
  have hroot : Wig.fcbrt c = r := by
    obtain ⟨h1, h2⟩ := Wig.fcbrt_spec c (by omega)
    have e : Wig.cube r = c := by unfold Wig.cube; rw [hcc, hq]
    refine Wig.root_unique h1 h2 (by omega) ?_
    rw [← e]
    exact Nat.mul_lt_mul_of_le_of_lt (Nat.mul_le_mul (by omega) (by omega)) (by omega) (Nat.mul_pos (by omega) (by omega))
  have C0 := Lib.hid @awake_any
  have C1 := Lib.hid (fun w => add_lit a b (a + b) w (by unfold Wig.fadd; rw [if_pos (by omega)]) (by omega) (by omega))
  have C2 := Lib.hid (fun w => mul_lit a b p w (by unfold Wig.fmul; rw [if_pos (by omega), hp]) (by omega) (by omega))
  have C4 := Lib.hid (fun w => cbrt_lit c r w hroot (by omega))
  clear hp hr hq hcc hab bq hroot
  by_cases hlt : b < a
  · have C3 := Lib.hid (fun w => sub_lit a b (a - b) w rfl (by omega) (by omega))
    have es : ((a - b : Nat) : Int) = (a : Int) - (b : Int) := by omega
    go_enter Try.func9, Try.ntmps9
    go_wp2_with fail
    refine (C0.out _).mono ?_
    rintro e ww1 ⟨rfl, hb1⟩
    have B1 := Lib.hid hb1
    clear hb1
    go_wp2_with fail
    refine (C1.out _).mono ?_
    rintro e wn ⟨rfl, rfl⟩
    go_wp2_with fail
    refine (C2.out _).mono ?_
    rintro e wn ⟨rfl, rfl⟩
    go_wp2_with fail
    refine (C3.out _).mono ?_
    rintro e wn ⟨rfl, rfl⟩
    go_wp2_with fail
    refine (C4.out _).mono ?_
    rintro e ww5 ⟨rfl, hb5⟩
    have B5 := Lib.hid hb5
    clear hb5
    go_wp2_with fail
    go_ret
    exact ⟨rfl, below_trans' (below_trans' (Below.refl _ _) B1.out) B5.out⟩
  · have C3 := Lib.hid (fun w => sub_lit a b 0 w (by unfold Wig.fsub; omega) (by omega) (by omega))
    go_enter Try.func9, Try.ntmps9
    go_wp2_with fail
    refine (C0.out _).mono ?_
    rintro e ww1 ⟨rfl, hb1⟩
    have B1 := Lib.hid hb1
    clear hb1
    go_wp2_with fail
    refine (C1.out _).mono ?_
    rintro e wn ⟨rfl, rfl⟩
    go_wp2_with fail
    refine (C2.out _).mono ?_
    rintro e wn ⟨rfl, rfl⟩
    go_wp2_with fail
    refine (C3.out _).mono ?_
    rintro e wn ⟨rfl, rfl⟩
    go_wp2_with fail
    refine (C4.out _).mono ?_
    rintro e ww5 ⟨rfl, hb5⟩
    have B5 := Lib.hid hb5
    clear hb5
    go_wp2_with fail
    go_ret
    exact ⟨rfl, below_trans' (below_trans' (Below.refl _ _) B1.out) B5.out⟩

set_option maxRecDepth 100000 in
theorem lifted (os : Os) (started : os.Started) (H : Type) (enc : TypeId × Value → H) :
    ReturnsInHanded {} Try.checked os 9 .any (Rows.fixSmallSpec.pre6 enc Try.prog Try.f9 Rows.fixSmallRow.domain false) (Rows.fixSmallSpec.post enc Try.prog Try.f9 false true false false) := by
  refine returnsInHanded_of_change (C := Try.checked) own started (by kernel_rfl) Try.func9
    (ChangeSpec.witness6 (enc := enc) (C := Try.checked) false ⟨#[], #[.int .u32 0, .int .u32 0], []⟩ 8 (by kernel_rfl) (by kernel_rfl) (by kernel_rfl) (by kernel_rfl)) ?_
  intro W base args ds gs before hval0 hW hcnd _
  have hval : ∀ (j : Nat) t v, Try.f9.params[j]? = some t → args[j]? = some v → Value.okWide Try.prog W .any base t v := hval0
  have hW' := hW
  obtain ⟨p, q, hA0, hV, rfl, hfz, hnd⟩ := hW
  have hA : DataW.TrodAll enc Try.prog W 0 (fun _ => true) true Try.f9.params.toList args.toList ds p := hA0
  rw [Try.params9] at hA hval
  obtain ⟨v0, vs0, d0, ds0, p0, q0, hargs, rfl, rfl, h0, r0⟩ := trodAll_cons hA
  obtain ⟨v1, vs1, d1, ds1, p1, q1, rfl, rfl, rfl, h1, r1⟩ := trodAll_cons r0
  obtain ⟨rfl, rfl, rfl⟩ := trodAll_nil r1
  obtain rfl : args = #[v0, v1] := by cases args; simp_all
  obtain ⟨rfl, rfl⟩ := trodVars_none hV
  obtain ⟨a0, rfl, rfl, rfl, w0⟩ := open_int Try.underlying31 (hval 0 31 v0 rfl rfl) h0
  obtain ⟨a1, rfl, rfl, rfl, w1⟩ := open_int Try.underlying31 (hval 1 31 v1 rfl rfl) h1
  clear hA0 hval0
  simp only [List.append_nil] at hW'
  refine (walk a0 a1 w0 w1 W).mono fun e W' ⟨he, hg⟩ => ?_
  subst he
  exact ⟨_, rfl, law_post (pa := []) (pv := []) hW' (fun _ _ _ => (trodAll_cons_mk (shut_bool Try.underlying4 _) trodAll_mk0)) (fun sp _ => (trodAll_cons_mk (shut_int Try.underlying31 w0) (trodAll_cons_mk (shut_int Try.underlying31 w1) trodAll_mk0))) (fun _ _ => rfl) rfl
    hg (ok_one (by kernel_rfl) rfl (okWide_bool_mk Try.underlying4 _))⟩

theorem over : Rows.fixSmallRow.holds Try.pinned (OpenSpec.ofChange Rows.fixSmallSpec) :=
  OpenClaim.holds_of_wide 9 Try.f9 rfl rfl rfl rfl rfl rfl rfl ⟨rfl, rfl, rfl, rfl, rfl⟩ rfl rfl rfl rfl rfl (by kernel_rfl) Try.func9 (by kernel_rfl)
    (of_decide_eq_true (by kernel_rfl)) (by unfold Func.isWrapper; first | (rw [if_pos (by decide +kernel)]; kernel_rfl) | (rw [if_neg (by decide +kernel)]; exact ⟨rfl, rfl⟩))
    (fun os started H enc _ => lifted os started H enc)

/-- ████ THE STATEMENT ████ -/
theorem proved : Rows.FixSmallSaid :=
  over
end Go.Proofs.Ytfgnpikfnfbaaaa.fixSmall
