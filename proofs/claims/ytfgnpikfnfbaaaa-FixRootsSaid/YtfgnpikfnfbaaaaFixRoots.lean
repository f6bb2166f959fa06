/-
  FixRoots: a root's cube is at most the number, the next one's is above it, for every number of 64 bits. No condition.
-/
import Derived.Test.YtfgnpikfnfbaaaaFixW
namespace Go.Proofs.Ytfgnpikfnfbaaaa.fixRoots
open Go.ChangeShapes Go.WideShapes Go.ChangeAt Go.RowKit
set_option linter.unusedVariables false

theorem walk (a0 : Int) (w0 : (Lit.int .u64 a0).wf = true) (w : World) :
    Calls Try.prog 5 #[.int .u64 a0] w fun e w' => e = .returned (.bool true) ∧ Below w.heap.size w w' := by
  obtain ⟨a, rfl, ha⟩ := nat_of_u64 w0
  have hc := cbrt_any a
  obtain ⟨h1, h2⟩ := Wig.fcbrt_spec a ha
  have h3 := Wig.fcbrt_le a ha
  unfold Wig.cube at h1 h2
  generalize Wig.fcbrt a = r at *
  have Hc := Lib.hid hc
  clear hc
  have ha' := @awake_any
  have Ha := Lib.hid ha'
  clear ha'
  obtain ⟨q, hq⟩ : ∃ q, q = r * r := ⟨_, rfl⟩
  obtain ⟨c, hcc⟩ : ∃ c, c = q * r := ⟨_, rfl⟩
  have bq : q ≤ 2642245 * 2642245 := by rw [hq]; exact Nat.mul_le_mul h3 h3
  have m1 : IntKind.u64.wrap ((r : Int) * (r : Int)) = (q : Int) := by rw [mul_nat (by omega), hq]
  have m2 : IntKind.u64.wrap ((q : Int) * (r : Int)) = (c : Int) := by rw [mul_nat (by rw [← hcc, hcc, hq]; omega), hcc]
  have hca : c ≤ a := by rw [hcc, hq]; exact h1
  have e1 : decide (c ≤ a) = true := decide_eq_true hca
  by_cases hr : r = 2642245
  · have Hr := Lib.hid hr
    have hb : ((r : Int) == 2642245) = true := by rw [hr]; rfl
    clear hr h1 h2 hq hcc hca bq
    go_enter Try.func5, Try.ntmps5
    go_wp2_with fail
    refine (Ha.out _).mono ?_
    rintro e w1 ⟨rfl, hb1⟩
    have B1 := Lib.hid hb1
    clear hb1
    go_wp2_with fail
    refine (Hc.out _ ha).mono ?_
    rintro e w2 ⟨rfl, hb2⟩
    have B2 := Lib.hid hb2
    clear hb2
    go_wp2_with fail
    go_ret
    exact ⟨rfl, below_trans' B1.out B2.out⟩
  · have hb : ((r : Int) == 2642245) = false := by simp; omega
    have br : r ≤ 2642244 := by omega
    obtain ⟨q2, hq2⟩ : ∃ q2, q2 = (r + 1) * (r + 1) := ⟨_, rfl⟩
    obtain ⟨c2, hc2⟩ : ∃ c2, c2 = q2 * (r + 1) := ⟨_, rfl⟩
    have bq2 : q2 ≤ 2642245 * 2642245 := by rw [hq2]; exact Nat.mul_le_mul (by omega) (by omega)
    have bc2 : c2 ≤ 2642245 * 2642245 * 2642245 := by rw [hc2]; exact Nat.mul_le_mul bq2 (by omega)
    have m3 : IntKind.u64.wrap (((r : Int) + 1) * ((r : Int) + 1)) = (q2 : Int) := by
      have := mul_nat (a := r + 1) (b := r + 1) (by omega)
      rw [← hq2] at this; simpa using this
    have m4 : IntKind.u64.wrap ((q2 : Int) * ((r : Int) + 1)) = (c2 : Int) := by
      have := mul_nat (a := q2) (b := r + 1) (by omega)
      rw [← hc2] at this; simpa using this
    have hac : a < c2 := by rw [hc2, hq2]; exact h2
    have e2 : decide (a < c2) = true := decide_eq_true hac
    clear h1 h2 hq hcc hca bq hq2 hc2 bq2 bc2 hac hr
    go_enter Try.func5, Try.ntmps5
    go_wp2_with fail
    refine (Ha.out _).mono ?_
    rintro e w1 ⟨rfl, hb1⟩
    have B1 := Lib.hid hb1
    clear hb1
    go_wp2_with fail
    refine (Hc.out _ ha).mono ?_
    rintro e w2 ⟨rfl, hb2⟩
    have B2 := Lib.hid hb2
    clear hb2
    go_wp2_with fail
    go_ret
    exact ⟨rfl, below_trans' B1.out B2.out⟩

set_option maxRecDepth 100000 in
theorem lifted (os : Os) (started : os.Started) (H : Type) (enc : TypeId × Value → H) :
    ReturnsInHanded {} Try.checked os 5 .any (Rows.fixRootsSpec.pre6 enc Try.prog Try.f5 Rows.fixRootsRow.domain false) (Rows.fixRootsSpec.post enc Try.prog Try.f5 false true false false) := by
  refine returnsInHanded_of_change (C := Try.checked) own started (by kernel_rfl) Try.func5
    (ChangeSpec.witness6 (enc := enc) (C := Try.checked) false ⟨#[], #[.int .u64 0], []⟩ 8 (by kernel_rfl) (by kernel_rfl) (by kernel_rfl) (by kernel_rfl)) ?_
  intro W base args ds gs before hval0 hW hcnd _
  have hval : ∀ (j : Nat) t v, Try.f5.params[j]? = some t → args[j]? = some v → Value.okWide Try.prog W .any base t v := hval0
  have hW' := hW
  obtain ⟨p, q, hA0, hV, rfl, hfz, hnd⟩ := hW
  have hA : DataW.TrodAll enc Try.prog W 0 (fun _ => true) true Try.f5.params.toList args.toList ds p := hA0
  rw [Try.params5] at hA hval
  obtain ⟨v0, vs0, d0, ds0, p0, q0, hargs, rfl, rfl, h0, r0⟩ := trodAll_cons hA
  obtain ⟨rfl, rfl, rfl⟩ := trodAll_nil r0
  obtain rfl : args = #[v0] := by cases args; simp_all
  obtain ⟨rfl, rfl⟩ := trodVars_none hV
  obtain ⟨a0, rfl, rfl, rfl, w0⟩ := open_int Try.underlying22 (hval 0 22 v0 rfl rfl) h0
  clear hA0 hval0
  simp only [List.append_nil] at hW'
  refine (walk a0 w0 W).mono fun e W' ⟨he, hg⟩ => ?_
  subst he
  exact ⟨_, rfl, law_post (pa := []) (pv := []) hW' (fun _ _ _ => (trodAll_cons_mk (shut_bool Try.underlying4 _) trodAll_mk0)) (fun sp _ => (trodAll_cons_mk (shut_int Try.underlying22 w0) trodAll_mk0)) (fun _ _ => rfl) rfl
    hg (ok_one (by kernel_rfl) rfl (okWide_bool_mk Try.underlying4 _))⟩

theorem over : Rows.fixRootsRow.holds Try.pinned (OpenSpec.ofChange Rows.fixRootsSpec) :=
  OpenClaim.holds_of_wide 5 Try.f5 rfl rfl rfl rfl rfl rfl rfl ⟨rfl, rfl, rfl, rfl, rfl⟩ rfl rfl rfl rfl rfl (by kernel_rfl) Try.func5 (by kernel_rfl)
    (of_decide_eq_true (by kernel_rfl)) (by unfold Func.isWrapper; first | (rw [if_pos (by decide +kernel)]; kernel_rfl) | (rw [if_neg (by decide +kernel)]; exact ⟨rfl, rfl⟩))
    (fun os started H enc _ => lifted os started H enc)

/-- ████ THE STATEMENT ████ -/
theorem proved : Rows.FixRootsSaid :=
  over
end Go.Proofs.Ytfgnpikfnfbaaaa.fixRoots
