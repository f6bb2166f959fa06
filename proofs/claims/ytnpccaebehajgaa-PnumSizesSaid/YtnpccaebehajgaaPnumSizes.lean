/-
  PnumSizes: a size is the least whose window is twice as far as the number, and rises with that, whatever the numbers. No condition.
-/
import Derived.Test.YtnpccaebehajgaaPnmW
import Derived.Test.YtnpccaebehajgaaOpen
namespace Wig
theorem psize_far (n f m : Nat) : (psize (n + f) n = 1 ∧ f < 128 ∧ 1 ≤ psize (n + f + m) n) ∨ (psize (n + f) n = 2 ∧ 128 ≤ f ∧ f < 32768 ∧ 2 ≤ psize (n + f + m) n) ∨ (psize (n + f) n = 3 ∧ 32768 ≤ f ∧ f < 8388608 ∧ 3 ≤ psize (n + f + m) n) ∨ (psize (n + f) n = 4 ∧ 8388608 ≤ f ∧ 4 ≤ psize (n + f + m) n) := by
  unfold psize; repeat' split
  all_goals omega
end Wig
namespace Go.Proofs.Ytnpccaebehajgaa.pnumSizes
open Go.ChangeShapes Go.WideShapes Go.ChangeAt Go.RowKit
set_option linter.unusedVariables false

set_option maxHeartbeats 1000000 in
theorem walk (n f m : Nat) (hn : n < 4294967296) (hf : f < 4294967296) (hm : m < 4294967296) (w : World) :
    Calls Try.prog 6 #[.int .u32 (n : Int), .int .u32 (f : Int), .int .u32 (m : Int)] w fun e w' => e = .returned (.bool true) ∧ Below w.heap.size w w' := by
  obtain ⟨a, ha⟩ : ∃ a, a = n + f := ⟨_, rfl⟩
  obtain ⟨b, hb⟩ : ∃ b, b = a + m := ⟨_, rfl⟩
  obtain ⟨d, hd⟩ : ∃ d, d = 2 * f := ⟨_, rfl⟩
  obtain ⟨q, hq⟩ : ∃ q, q = d + 1 := ⟨_, rfl⟩
  obtain ⟨z, hz⟩ : ∃ z, z = Wig.psize b n := ⟨_, rfl⟩
  have c := Wig.psize_far n f m
  rw [← ha, ← hb, ← hz] at c
  have e1 : IntKind.u64.wrap (n : Int) = (n : Int) := by rw [IntKind.wrap_u64]; omega
  have e2 : IntKind.u64.wrap (f : Int) = (f : Int) := by rw [IntKind.wrap_u64]; omega
  have e3 : IntKind.u64.wrap (m : Int) = (m : Int) := by rw [IntKind.wrap_u64]; omega
  have e4 : IntKind.u64.wrap ((n : Int) + (f : Int)) = (a : Int) := by rw [IntKind.wrap_u64]; omega
  have e5 : IntKind.u64.wrap ((a : Int) + (m : Int)) = (b : Int) := by rw [IntKind.wrap_u64]; omega
  have e6 : IntKind.u64.wrap (2 * (f : Int)) = (d : Int) := by rw [IntKind.wrap_u64]; omega
  have e7 : IntKind.u64.wrap ((d : Int) + 1) = (q : Int) := by rw [IntKind.wrap_u64]; omega
  have C0 := Lib.hid (fun w => awake_any w)
  have C2 := Lib.hid (fun w => size_gives b n z w hz.symm (by omega) (by omega))
  have HA := Lib.hid (show a < 18446744073709551616 by omega)
  have HN := Lib.hid (show n < 18446744073709551616 by omega)
  clear hz hn hm hf
  rcases c with ⟨s, r1, k⟩ | ⟨s, r1, r2, k⟩ | ⟨s, r1, r2, k⟩ | ⟨s, r1, k⟩
  · have C1 : ∀ w, Calls Try.prog 9 #[.int .u64 (a : Int), .int .u64 (n : Int)] w fun e w' => e = .returned (.int .i64 1) ∧ Below w.heap.size w w' := fun w => size_gives a n 1 w s HA.out HN.out
    replace C1 := Lib.hid C1
    have t1 : decide ((z : Int) < 1) = false := decide_eq_false (by omega)
    have t2 : decide ((q : Int) ≤ 256) = true := decide_eq_true (by omega)
    clear s r1 k ha hb hd hq
    go_enter Try.func6, Try.ntmps6
    go_wp2_with fail
    refine (C0.out _).mono ?_
    rintro e w1 ⟨rfl, hb1⟩
    have B1 := Lib.hid hb1
    clear hb1
    go_wp2_with fail
    refine (C1.out _).mono ?_
    rintro e w2 ⟨rfl, hb2⟩
    have B2 := Lib.hid (below_trans' B1.out hb2)
    clear hb2
    go_wp2_with fail
    refine (C2.out _).mono ?_
    rintro e w3 ⟨rfl, hb3⟩
    have B3 := Lib.hid (below_trans' B2.out hb3)
    clear hb3
    go_wp2_with fail
    go_ret
    exact ⟨rfl, B3.out⟩
  · have C1 : ∀ w, Calls Try.prog 9 #[.int .u64 (a : Int), .int .u64 (n : Int)] w fun e w' => e = .returned (.int .i64 2) ∧ Below w.heap.size w w' := fun w => size_gives a n 2 w s HA.out HN.out
    replace C1 := Lib.hid C1
    have t1 : decide ((z : Int) < 2) = false := decide_eq_false (by omega)
    have t2 : decide ((q : Int) ≤ 65536) = true := decide_eq_true (by omega)
    have t3 : decide ((256 : Int) < (q : Int)) = true := decide_eq_true (by omega)
    clear s r1 k ha hb hd hq
    go_enter Try.func6, Try.ntmps6
    go_wp2_with fail
    refine (C0.out _).mono ?_
    rintro e w1 ⟨rfl, hb1⟩
    have B1 := Lib.hid hb1
    clear hb1
    go_wp2_with fail
    refine (C1.out _).mono ?_
    rintro e w2 ⟨rfl, hb2⟩
    have B2 := Lib.hid (below_trans' B1.out hb2)
    clear hb2
    go_wp2_with fail
    refine (C2.out _).mono ?_
    rintro e w3 ⟨rfl, hb3⟩
    have B3 := Lib.hid (below_trans' B2.out hb3)
    clear hb3
    go_wp2_with fail
    go_ret
    exact ⟨rfl, B3.out⟩
  · have C1 : ∀ w, Calls Try.prog 9 #[.int .u64 (a : Int), .int .u64 (n : Int)] w fun e w' => e = .returned (.int .i64 3) ∧ Below w.heap.size w w' := fun w => size_gives a n 3 w s HA.out HN.out
    replace C1 := Lib.hid C1
    have t1 : decide ((z : Int) < 3) = false := decide_eq_false (by omega)
    have t2 : decide ((q : Int) ≤ 16777216) = true := decide_eq_true (by omega)
    have t3 : decide ((65536 : Int) < (q : Int)) = true := decide_eq_true (by omega)
    clear s r1 k ha hb hd hq
    go_enter Try.func6, Try.ntmps6
    go_wp2_with fail
    refine (C0.out _).mono ?_
    rintro e w1 ⟨rfl, hb1⟩
    have B1 := Lib.hid hb1
    clear hb1
    go_wp2_with fail
    refine (C1.out _).mono ?_
    rintro e w2 ⟨rfl, hb2⟩
    have B2 := Lib.hid (below_trans' B1.out hb2)
    clear hb2
    go_wp2_with fail
    refine (C2.out _).mono ?_
    rintro e w3 ⟨rfl, hb3⟩
    have B3 := Lib.hid (below_trans' B2.out hb3)
    clear hb3
    go_wp2_with fail
    go_ret
    exact ⟨rfl, B3.out⟩
  · have C1 : ∀ w, Calls Try.prog 9 #[.int .u64 (a : Int), .int .u64 (n : Int)] w fun e w' => e = .returned (.int .i64 4) ∧ Below w.heap.size w w' := fun w => size_gives a n 4 w s HA.out HN.out
    replace C1 := Lib.hid C1
    have t1 : decide ((z : Int) < 4) = false := decide_eq_false (by omega)
    have t3 : decide ((16777216 : Int) < (q : Int)) = true := decide_eq_true (by omega)
    clear s r1 k ha hb hd hq
    go_enter Try.func6, Try.ntmps6
    go_wp2_with fail
    refine (C0.out _).mono ?_
    rintro e w1 ⟨rfl, hb1⟩
    have B1 := Lib.hid hb1
    clear hb1
    go_wp2_with fail
    refine (C1.out _).mono ?_
    rintro e w2 ⟨rfl, hb2⟩
    have B2 := Lib.hid (below_trans' B1.out hb2)
    clear hb2
    go_wp2_with fail
    refine (C2.out _).mono ?_
    rintro e w3 ⟨rfl, hb3⟩
    have B3 := Lib.hid (below_trans' B2.out hb3)
    clear hb3
    go_wp2_with fail
    go_ret
    exact ⟨rfl, B3.out⟩

set_option maxRecDepth 100000 in
theorem lifted (os : Os) (started : os.Started) (H : Type) (enc : TypeId × Value → H) :
    ReturnsInHanded {} Try.checked os 6 .any (Rows.pnumSizesSpec.pre6 enc Try.prog Try.f6 Rows.pnumSizesRow.domain false) (Rows.pnumSizesSpec.post enc Try.prog Try.f6 false true false false) := by
  refine returnsInHanded_of_change (C := Try.checked) own started (by kernel_rfl) Try.func6
    (ChangeSpec.witness6 (enc := enc) (C := Try.checked) false ⟨#[], #[.int .u32 0, .int .u32 0, .int .u32 0], []⟩ 8 (by kernel_rfl) (by kernel_rfl) (by kernel_rfl) (by kernel_rfl)) ?_
  intro W base args ds gs before hval0 hW hcnd _
  have hval : ∀ (j : Nat) t v, Try.f6.params[j]? = some t → args[j]? = some v → Value.okWide Try.prog W .any base t v := hval0
  have hW' := hW
  obtain ⟨p, q, hA0, hV, rfl, hfz, hnd⟩ := hW
  have hA : DataW.TrodAll enc Try.prog W 0 (fun _ => true) true Try.f6.params.toList args.toList ds p := hA0
  obtain ⟨rfl, rfl⟩ := trodVars_none hV
  simp only [List.append_nil] at hW'
  have hlow : ∀ x ∈ p, x.block < W.heap.size := fun x hx => hW'.lt x hx
  have hA2 := hA
  rw [Try.params6] at hval hA2
  obtain ⟨v0, vs0, d0, ds0, p0, q0, hargs, rfl, rfl, h0, r0⟩ := trodAll_cons hA2
  obtain ⟨v1, vs1, d1, ds1, p1, q1, rfl, rfl, rfl, h1, r1⟩ := trodAll_cons r0
  obtain ⟨v2, vs2, d2, ds2, p2, q2, rfl, rfl, rfl, h2, r2⟩ := trodAll_cons r1
  obtain ⟨rfl, rfl, rfl⟩ := trodAll_nil r2
  obtain rfl : args = #[v0, v1, v2] := by cases args; simp_all
  obtain ⟨n0, rfl, hn0⟩ := open_u32 Try.underlying28 (hval 0 28 v0 rfl rfl) h0
  obtain ⟨n1, rfl, hn1⟩ := open_u32 Try.underlying28 (hval 1 28 v1 rfl rfl) h1
  obtain ⟨n2, rfl, hn2⟩ := open_u32 Try.underlying28 (hval 2 28 v2 rfl rfl) h2
  refine (walk n0 n1 n2 hn0 hn1 hn2 W).mono fun e W' ⟨he, hg⟩ => ?_
  subst he
  exact ⟨_, rfl, law_true laid_out (by kernel_rfl) rfl Try.underlying4 (by kernel_rfl) hW' hA rfl rfl rfl hg⟩

theorem over : Rows.pnumSizesRow.holds Try.pinned (OpenSpec.ofChange Rows.pnumSizesSpec) :=
  OpenClaim.holds_of_wide 6 Try.f6 rfl rfl rfl rfl rfl rfl rfl ⟨rfl, rfl, rfl, rfl, rfl⟩ rfl rfl rfl rfl rfl (by kernel_rfl) Try.func6 (by kernel_rfl)
    (of_decide_eq_true (by kernel_rfl)) (by unfold Func.isWrapper; first | (rw [if_pos (by decide +kernel)]; kernel_rfl) | (rw [if_neg (by decide +kernel)]; exact ⟨rfl, rfl⟩))
    (fun os started H enc _ => lifted os started H enc)

/-- The statement. -/
theorem proved : Rows.PnumSizesSaid := over
end Go.Proofs.Ytnpccaebehajgaa.pnumSizes
