/-
  PnumNext: a number that is just the one awaited is the whole of its part, of whatever size, and parts are below their window. No condition.
-/
import Derived.Test.YtnpccaebehajgaaPnmW
import Derived.Test.YtnpccaebehajgaaOpen
namespace Go.Proofs.Ytnpccaebehajgaa.pnumNext
open Go.ChangeShapes Go.WideShapes Go.ChangeAt Go.RowKit
set_option linter.unusedVariables false

theorem up_alone (a : Nat) (i : Int) (w : World) (t1 : decide ((4611686018427387903 : Int) < (a : Int)) = true) :
    Calls Try.prog 7 #[.int .u64 (a : Int), .int .i64 i] w fun e w' => e = .returned (.bool true) ∧ Below w.heap.size w w' := by
  have C0 := Lib.hid (fun w => awake_any w)
  go_enter Try.func7, Try.ntmps7
  go_wp2_with fail
  refine (C0.out _).mono ?_
  rintro e w1 ⟨rfl, hb1⟩
  have B1 := Lib.hid hb1
  clear hb1
  go_wp2_with fail
  go_ret
  exact ⟨rfl, B1.out⟩

theorem walk (a : Nat) (i : Int) (ha : a < 18446744073709551616) (hi : -9223372036854775808 ≤ i) (hj : i ≤ 9223372036854775807) (w : World) :
    Calls Try.prog 7 #[.int .u64 (a : Int), .int .i64 i] w fun e w' => e = .returned (.bool true) ∧ Below w.heap.size w w' := by
  by_cases h1 : a ≤ 4611686018427387903
  · have t1 : decide ((4611686018427387903 : Int) < (a : Int)) = false := decide_eq_false (by omega)
    obtain ⟨p, hp⟩ : ∃ p, p = a % Wig.pwin (Wig.pk i) := ⟨_, rfl⟩
    have g4 := Wig.pwin_four (Wig.pk i)
    have pg : p < Wig.pwin (Wig.pk i) := by rw [hp]; exact Nat.mod_lt _ (by omega)
    have C0 := Lib.hid (fun w => awake_any w)
    have C1 := Lib.hid (fun w => cut_gives a i p w hp.symm)
    have C2 := Lib.hid (fun w => whole_gives p i a a w (by rw [Wig.pcap_of h1, hp]; exact Wig.pnext g4) (by omega) ha)
    have C3 : ∀ w, Calls Try.prog 9 #[.int .u64 (a : Int), .int .u64 (a : Int)] w fun e w' => e = .returned (.int .i64 1) ∧ Below w.heap.size w w' := fun w => size_gives a a 1 w (by unfold Wig.psize; simp) ha ha
    replace C3 := Lib.hid C3
    have P := fun _ : Unit => (decide_eq_true (show (p : Int) < 4294967296 by omega))
    have c := Wig.pk_cases i
    clear hp g4 hi hj ha h1
    rcases c with ⟨rfl, hk⟩ | ⟨rfl, hk⟩ | ⟨rfl, hk⟩ | ⟨c, hk⟩
    · have t2 : decide ((256 : Int) ≤ (p : Int)) = false := decide_eq_false (by rw [hk] at pg; simp [Wig.pwin] at pg; omega)
      clear pg hk
      go_enter Try.func7, Try.ntmps7
      go_wp2_with fail
      refine (C0.out _).mono ?_
      rintro e w1 ⟨rfl, hb1⟩
      have B1 := Lib.hid hb1
      clear hb1
      go_wp2_with fail
      refine (C1.out _).mono ?_
      rintro e w' ⟨rfl, rfl⟩
      go_wp2_with fail
      refine (C2.out _).mono ?_
      rintro e w3 ⟨rfl, hb3⟩
      have B3 := Lib.hid (below_trans' B1.out hb3)
      have t9 := P ()
      clear hb3
      go_wp2_with fail
      refine (C3.out _).mono ?_
      rintro e w4 ⟨rfl, hb4⟩
      have B4 := Lib.hid (below_trans' B3.out hb4)
      clear hb4
      go_wp2_with fail
      go_ret
      exact ⟨rfl, B4.out⟩
    · have t2 : decide ((65536 : Int) ≤ (p : Int)) = false := decide_eq_false (by rw [hk] at pg; simp [Wig.pwin] at pg; omega)
      clear pg hk
      go_enter Try.func7, Try.ntmps7
      go_wp2_with fail
      refine (C0.out _).mono ?_
      rintro e w1 ⟨rfl, hb1⟩
      have B1 := Lib.hid hb1
      clear hb1
      go_wp2_with fail
      refine (C1.out _).mono ?_
      rintro e w' ⟨rfl, rfl⟩
      go_wp2_with fail
      refine (C2.out _).mono ?_
      rintro e w3 ⟨rfl, hb3⟩
      have B3 := Lib.hid (below_trans' B1.out hb3)
      have t9 := P ()
      clear hb3
      go_wp2_with fail
      refine (C3.out _).mono ?_
      rintro e w4 ⟨rfl, hb4⟩
      have B4 := Lib.hid (below_trans' B3.out hb4)
      clear hb4
      go_wp2_with fail
      go_ret
      exact ⟨rfl, B4.out⟩
    · have t2 : decide ((16777216 : Int) ≤ (p : Int)) = false := decide_eq_false (by rw [hk] at pg; simp [Wig.pwin] at pg; omega)
      clear pg hk
      go_enter Try.func7, Try.ntmps7
      go_wp2_with fail
      refine (C0.out _).mono ?_
      rintro e w1 ⟨rfl, hb1⟩
      have B1 := Lib.hid hb1
      clear hb1
      go_wp2_with fail
      refine (C1.out _).mono ?_
      rintro e w' ⟨rfl, rfl⟩
      go_wp2_with fail
      refine (C2.out _).mono ?_
      rintro e w3 ⟨rfl, hb3⟩
      have B3 := Lib.hid (below_trans' B1.out hb3)
      have t9 := P ()
      clear hb3
      go_wp2_with fail
      refine (C3.out _).mono ?_
      rintro e w4 ⟨rfl, hb4⟩
      have B4 := Lib.hid (below_trans' B3.out hb4)
      clear hb4
      go_wp2_with fail
      go_ret
      exact ⟨rfl, B4.out⟩
    · clear pg hk
      by_cases h3 : i < 1
      · have t2 : decide (1 ≤ i) = false := decide_eq_false (by omega)
        clear c h3
        go_enter Try.func7, Try.ntmps7
        go_wp2_with fail
        refine (C0.out _).mono ?_
        rintro e w1 ⟨rfl, hb1⟩
        have B1 := Lib.hid hb1
        clear hb1
        go_wp2_with fail
        refine (C1.out _).mono ?_
        rintro e w' ⟨rfl, rfl⟩
        go_wp2_with fail
        refine (C2.out _).mono ?_
        rintro e w3 ⟨rfl, hb3⟩
        have B3 := Lib.hid (below_trans' B1.out hb3)
        have t9 := P ()
        clear hb3
        go_wp2_with fail
        refine (C3.out _).mono ?_
        rintro e w4 ⟨rfl, hb4⟩
        have B4 := Lib.hid (below_trans' B3.out hb4)
        clear hb4
        go_wp2_with fail
        go_ret
        exact ⟨rfl, B4.out⟩
      · have t2 : decide (1 ≤ i) = true := decide_eq_true (by omega)
        have t3 : decide (i ≤ 3) = false := decide_eq_false (by omega)
        clear c h3
        go_enter Try.func7, Try.ntmps7
        go_wp2_with fail
        refine (C0.out _).mono ?_
        rintro e w1 ⟨rfl, hb1⟩
        have B1 := Lib.hid hb1
        clear hb1
        go_wp2_with fail
        refine (C1.out _).mono ?_
        rintro e w' ⟨rfl, rfl⟩
        go_wp2_with fail
        refine (C2.out _).mono ?_
        rintro e w3 ⟨rfl, hb3⟩
        have B3 := Lib.hid (below_trans' B1.out hb3)
        have t9 := P ()
        clear hb3
        go_wp2_with fail
        refine (C3.out _).mono ?_
        rintro e w4 ⟨rfl, hb4⟩
        have B4 := Lib.hid (below_trans' B3.out hb4)
        clear hb4
        go_wp2_with fail
        go_ret
        exact ⟨rfl, B4.out⟩
  · exact up_alone a i w (decide_eq_true (by omega))

set_option maxRecDepth 100000 in
theorem lifted (os : Os) (started : os.Started) (H : Type) (enc : TypeId × Value → H) :
    ReturnsInHanded {} Try.checked os 7 .any (Rows.pnumNextSpec.pre6 enc Try.prog Try.f7 Rows.pnumNextRow.domain false) (Rows.pnumNextSpec.post enc Try.prog Try.f7 false true false false) := by
  refine returnsInHanded_of_change (C := Try.checked) own started (by kernel_rfl) Try.func7
    (ChangeSpec.witness6 (enc := enc) (C := Try.checked) false ⟨#[], #[.int .u64 0, .int .i64 0], []⟩ 8 (by kernel_rfl) (by kernel_rfl) (by kernel_rfl) (by kernel_rfl)) ?_
  intro W base args ds gs before hval0 hW hcnd _
  have hval : ∀ (j : Nat) t v, Try.f7.params[j]? = some t → args[j]? = some v → Value.okWide Try.prog W .any base t v := hval0
  have hW' := hW
  obtain ⟨p, q, hA0, hV, rfl, hfz, hnd⟩ := hW
  have hA : DataW.TrodAll enc Try.prog W 0 (fun _ => true) true Try.f7.params.toList args.toList ds p := hA0
  obtain ⟨rfl, rfl⟩ := trodVars_none hV
  simp only [List.append_nil] at hW'
  have hlow : ∀ x ∈ p, x.block < W.heap.size := fun x hx => hW'.lt x hx
  have hA2 := hA
  rw [Try.params7] at hval hA2
  obtain ⟨v0, vs0, d0, ds0, p0, q0, hargs, rfl, rfl, h0, r0⟩ := trodAll_cons hA2
  obtain ⟨v1, vs1, d1, ds1, p1, q1, rfl, rfl, rfl, h1, r1⟩ := trodAll_cons r0
  obtain ⟨rfl, rfl, rfl⟩ := trodAll_nil r1
  obtain rfl : args = #[v0, v1] := by cases args; simp_all
  obtain ⟨n0, rfl, hn0⟩ := open_u64 Try.underlying22 (hval 0 22 v0 rfl rfl) h0
  obtain ⟨i1, rfl, hi1, hj1⟩ := open_i64 Try.underlying3 (hval 1 3 v1 rfl rfl) h1
  refine (walk n0 i1 hn0 hi1 hj1 W).mono fun e W' ⟨he, hg⟩ => ?_
  subst he
  exact ⟨_, rfl, law_true laid_out (by kernel_rfl) rfl Try.underlying4 (by kernel_rfl) hW' hA rfl rfl rfl hg⟩

theorem over : Rows.pnumNextRow.holds Try.pinned (OpenSpec.ofChange Rows.pnumNextSpec) :=
  OpenClaim.holds_of_wide 7 Try.f7 rfl rfl rfl rfl rfl rfl rfl ⟨rfl, rfl, rfl, rfl, rfl⟩ rfl rfl rfl rfl rfl (by kernel_rfl) Try.func7 (by kernel_rfl)
    (of_decide_eq_true (by kernel_rfl)) (by unfold Func.isWrapper; first | (rw [if_pos (by decide +kernel)]; kernel_rfl) | (rw [if_neg (by decide +kernel)]; exact ⟨rfl, rfl⟩))
    (fun os started H enc _ => lifted os started H enc)

/-- The statement. -/
theorem proved : Rows.PnumNextSaid := over
end Go.Proofs.Ytnpccaebehajgaa.pnumNext
