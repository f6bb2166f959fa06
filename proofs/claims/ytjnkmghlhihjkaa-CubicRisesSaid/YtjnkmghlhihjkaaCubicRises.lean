/-
  CubicRises: a target is no less for a later time, and is between the window and half as much more. No condition.
-/
import Derived.Test.YtjnkmghlhihjkaaCbW
import Derived.Test.YtjnkmghlhihjkaaOpen
import Derived.Test.YtjnkmghlhihjkaaOpC
import Derived.Deep.CutBlock
import Derived.Deep.DeepCutAuto
namespace Go.Proofs.Ytjnkmghlhihjkaa.cubicRises
open Go.ChangeShapes Go.WideShapes Go.ChangeAt Go.RowKit Go.Deep
set_option linter.unusedVariables false

set_option maxHeartbeats 4000000 in
theorem walk (c t s : Nat) (h : Bool) (e m k es x y : Nat) (hc : c < 18446744073709551616) (ht : t < 18446744073709551616) (hs : s < 18446744073709551616) (he : e < 18446744073709551616) (hm : m < 18446744073709551616) (hk : k < 18446744073709551616) (hes : es < 18446744073709551616) (hx : x < 18446744073709551616) (hy : y < 18446744073709551616) (w : World) :
    Calls Try.prog 5 #[aggCu c t s h e m k es, .int .u64 (x : Int), .int .u64 (y : Int)] w fun e w' => e = .returned (.bool true) ∧ Below w.heap.size w w' := by
  have ok : Wig.Cb.Ok ⟨c, t, s, h, e, m, k, es⟩ := ⟨hc, ht, hs, he, hm, hk, hes⟩
  have C0 := Lib.hid (fun w => awake_any w)
  by_cases g : y < x
  · have t1 : decide (y < x) = true := decide_eq_true g
    clear ok hc ht hs he hm hk hes hx hy g
    have B0 := Lib.hid (Below.refl w.heap.size w)
    go_enter Try.func5, Try.ntmps5
    go_upto_region 1 with fail
    obtain ⟨w1, hw⟩ : ∃ wx, wx = w.alloc (.cells #[.int .u64 (c : Int), .int .u64 (t : Int), .int .u64 (s : Int), .bool h, .int .u64 (e : Int), .int .u64 (m : Int), .int .u64 (k : Int), .int .u64 (es : Int)] 24) := ⟨_, rfl⟩
    rw [← hw]
    obtain ⟨pC, hp⟩ : ∃ px, px = w.heap.size := ⟨_, rfl⟩
    rw [← hp]
    have hb : Below w.heap.size w w1 := by rw [hw]; exact (Below.refl _ _).alloc (Nat.le_refl _) _
    have hx : BxCu pC c t s h e m k es w1 := by rw [hp, hw]; exact BxCu.new _ c t s h e m k es
    have hs : pC < w1.heap.size := by rw [hp, hw]; simp
    have GC := Lib.hid (show w.heap.size ≤ pC by rw [hp]; exact B0.out.size)
    have B1 := Lib.hid (below_trans' B0.out hb)
    clear hb B0
    have XC1 := Lib.hid hx
    have SC1 := Lib.hid hs
    clear hx hs hw hp
    go_wp2_with fail
    refine (C0.out _).mono ?_
    rintro e w2 ⟨rfl, hb⟩
    have B2 := Lib.hid (below_trans' B1.out hb)
    have XC2 := Lib.hid (XC1.out.below hb SC1.out)
    have SC2 := Lib.hid (Nat.lt_of_lt_of_le SC1.out hb.size)
    clear hb B1 XC1 SC1
    obtain ⟨c0, c1, c2, c3, c4, c5, c6, c7, -, -, -, -, -, -, -, -⟩ := XC2.out
    go_wp2_with fail
    go_ret
    exact ⟨rfl, B2.out⟩
  · by_cases g2 : 4611686018427387904 < c
    · have t1 : decide (y < x) = false := decide_eq_false g
      have t2 : decide ((4611686018427387904 : Int) < (c : Int)) = true := decide_eq_true (by omega)
      clear ok hc ht hs he hm hk hes hx hy g g2
      have B0 := Lib.hid (Below.refl w.heap.size w)
      go_enter Try.func5, Try.ntmps5
      go_upto_region 1 with fail
      obtain ⟨w1, hw⟩ : ∃ wx, wx = w.alloc (.cells #[.int .u64 (c : Int), .int .u64 (t : Int), .int .u64 (s : Int), .bool h, .int .u64 (e : Int), .int .u64 (m : Int), .int .u64 (k : Int), .int .u64 (es : Int)] 24) := ⟨_, rfl⟩
      rw [← hw]
      obtain ⟨pC, hp⟩ : ∃ px, px = w.heap.size := ⟨_, rfl⟩
      rw [← hp]
      have hb : Below w.heap.size w w1 := by rw [hw]; exact (Below.refl _ _).alloc (Nat.le_refl _) _
      have hx : BxCu pC c t s h e m k es w1 := by rw [hp, hw]; exact BxCu.new _ c t s h e m k es
      have hs : pC < w1.heap.size := by rw [hp, hw]; simp
      have GC := Lib.hid (show w.heap.size ≤ pC by rw [hp]; exact B0.out.size)
      have B1 := Lib.hid (below_trans' B0.out hb)
      clear hb B0
      have XC1 := Lib.hid hx
      have SC1 := Lib.hid hs
      clear hx hs hw hp
      go_wp2_with fail
      refine (C0.out _).mono ?_
      rintro e w2 ⟨rfl, hb⟩
      have B2 := Lib.hid (below_trans' B1.out hb)
      have XC2 := Lib.hid (XC1.out.below hb SC1.out)
      have SC2 := Lib.hid (Nat.lt_of_lt_of_le SC1.out hb.size)
      clear hb B1 XC1 SC1
      obtain ⟨c0, c1, c2, c3, c4, c5, c6, c7, -, -, -, -, -, -, -, -⟩ := XC2.out
      go_wp2_with fail
      go_ret
      exact ⟨rfl, B2.out⟩
    · have t1 : decide (y < x) = false := decide_eq_false g
      have t2 : decide ((4611686018427387904 : Int) < (c : Int)) = false := decide_eq_false (by omega)
      obtain ⟨a, hA⟩ : ∃ a, Wig.ctarget ⟨c, t, s, h, e, m, k, es⟩ x = a := ⟨_, rfl⟩
      obtain ⟨b, hB⟩ : ∃ b, Wig.ctarget ⟨c, t, s, h, e, m, k, es⟩ y = b := ⟨_, rfl⟩
      have C1 := Lib.hid (fun w => target_any c t s h e m k es x a w ok hx hA)
      have C2 := Lib.hid (fun w => target_any c t s h e m k es y b w ok hy hB)
      have t3 : decide (a ≤ b) = true := decide_eq_true (by rw [← hA, ← hB]; exact Wig.ctarget_mono ok (by omega))
      have t4 : decide (c ≤ a) = true := decide_eq_true (by rw [← hA]; exact Wig.ctarget_ge ok)
      obtain ⟨q, hq⟩ : ∃ q, q = c / 2 := ⟨_, rfl⟩
      obtain ⟨r, hr⟩ : ∃ r, r = c + q := ⟨_, rfl⟩
      have t5 : decide (b ≤ r) = true := decide_eq_true (by rw [hr, hq, ← hB]; exact Wig.ctarget_le (c := ⟨c, t, s, h, e, m, k, es⟩) (by simp only; omega))
      have e1 : (c : Int) / 2 = (q : Int) := by omega
      have e2 : IntKind.u64.wrap (q : Int) = (q : Int) := by rw [IntKind.wrap_u64]; omega
      have e3 : IntKind.u64.wrap ((c : Int) + (q : Int)) = (r : Int) := by rw [IntKind.wrap_u64]; omega
      clear ok hc ht hs he hm hk hes hx hy g g2 hA hB hq hr
      have B0 := Lib.hid (Below.refl w.heap.size w)
      go_enter Try.func5, Try.ntmps5
      go_upto_region 1 with fail
      obtain ⟨w1, hw⟩ : ∃ wx, wx = w.alloc (.cells #[.int .u64 (c : Int), .int .u64 (t : Int), .int .u64 (s : Int), .bool h, .int .u64 (e : Int), .int .u64 (m : Int), .int .u64 (k : Int), .int .u64 (es : Int)] 24) := ⟨_, rfl⟩
      rw [← hw]
      obtain ⟨pC, hp⟩ : ∃ px, px = w.heap.size := ⟨_, rfl⟩
      rw [← hp]
      have hb : Below w.heap.size w w1 := by rw [hw]; exact (Below.refl _ _).alloc (Nat.le_refl _) _
      have hx : BxCu pC c t s h e m k es w1 := by rw [hp, hw]; exact BxCu.new _ c t s h e m k es
      have hs : pC < w1.heap.size := by rw [hp, hw]; simp
      have GC := Lib.hid (show w.heap.size ≤ pC by rw [hp]; exact B0.out.size)
      have B1 := Lib.hid (below_trans' B0.out hb)
      clear hb B0
      have XC1 := Lib.hid hx
      have SC1 := Lib.hid hs
      clear hx hs hw hp
      go_wp2_with fail
      refine (C0.out _).mono ?_
      rintro e w2 ⟨rfl, hb⟩
      have B2 := Lib.hid (below_trans' B1.out hb)
      have XC2 := Lib.hid (XC1.out.below hb SC1.out)
      have SC2 := Lib.hid (Nat.lt_of_lt_of_le SC1.out hb.size)
      clear hb B1 XC1 SC1
      obtain ⟨c0, c1, c2, c3, c4, c5, c6, c7, -, -, -, -, -, -, -, -⟩ := XC2.out
      go_wp2_with fail
      refine (C1.out _).mono ?_
      rintro e w3 ⟨rfl, hb⟩
      have B3 := Lib.hid (below_trans' B2.out hb)
      have XC3 := Lib.hid (XC2.out.below hb SC2.out)
      have SC3 := Lib.hid (Nat.lt_of_lt_of_le SC2.out hb.size)
      clear c0 c1 c2 c3 c4 c5 c6 c7
      clear hb B2 XC2 SC2
      obtain ⟨c0, c1, c2, c3, c4, c5, c6, c7, -, -, -, -, -, -, -, -⟩ := XC3.out
      go_wp2_with fail
      refine (C2.out _).mono ?_
      rintro e w4 ⟨rfl, hb⟩
      have B4 := Lib.hid (below_trans' B3.out hb)
      have XC4 := Lib.hid (XC3.out.below hb SC3.out)
      have SC4 := Lib.hid (Nat.lt_of_lt_of_le SC3.out hb.size)
      clear c0 c1 c2 c3 c4 c5 c6 c7
      clear hb B3 XC3 SC3
      obtain ⟨c0, c1, c2, c3, c4, c5, c6, c7, -, -, -, -, -, -, -, -⟩ := XC4.out
      go_wp2_with fail
      go_ret
      exact ⟨rfl, B4.out⟩

set_option maxRecDepth 100000 in
theorem lifted (os : Os) (started : os.Started) (H : Type) (enc : TypeId × Value → H) :
    ReturnsInHanded {} Try.checked os 5 .any (Rows.cubicRisesSpec.pre6 enc Try.prog Try.f5 Rows.cubicRisesRow.domain false) (Rows.cubicRisesSpec.post enc Try.prog Try.f5 false true false false) := by
  refine returnsInHanded_of_change (C := Try.checked) own started (by kernel_rfl) Try.func5
    (ChangeSpec.witness6 (enc := enc) (C := Try.checked) false ⟨#[], #[.agg #[.int .u64 0, .int .u64 0, .int .u64 0, .bool false, .int .u64 0, .int .u64 0, .int .u64 0, .int .u64 0], .int .u64 0, .int .u64 0], []⟩ 8 (by kernel_rfl) (by kernel_rfl) (by kernel_rfl) (by kernel_rfl)) ?_
  intro W base args ds gs before hval0 hW hcnd _
  have hval : ∀ (j : Nat) t v, Try.f5.params[j]? = some t → args[j]? = some v → Value.okWide Try.prog W .any base t v := hval0
  have hW' := hW
  obtain ⟨p, q, hA0, hV, rfl, hfz, hnd⟩ := hW
  have hA : DataW.TrodAll enc Try.prog W 0 (fun _ => true) true Try.f5.params.toList args.toList ds p := hA0
  obtain ⟨rfl, rfl⟩ := trodVars_none hV
  simp only [List.append_nil] at hW'
  have hlow : ∀ x ∈ p, x.block < W.heap.size := fun x hx => hW'.lt x hx
  have hA2 := hA
  rw [Try.params5] at hval hA2
  obtain ⟨v0, vs0, d0, ds0, p0, q0, hargs, rfl, rfl, h0, r0⟩ := trodAll_cons hA2
  obtain ⟨v1, vs1, d1, ds1, p1, q1, rfl, rfl, rfl, h1, r1⟩ := trodAll_cons r0
  obtain ⟨v2, vs2, d2, ds2, p2, q2, rfl, rfl, rfl, h2, r2⟩ := trodAll_cons r1
  obtain ⟨rfl, rfl, rfl⟩ := trodAll_nil r2
  obtain rfl : args = #[v0, v1, v2] := by cases args; simp_all
  obtain ⟨x0_0, x0_1, x0_2, x0_3, x0_4, x0_5, x0_6, x0_7, rfl, b0_0, b0_1, b0_2, b0_4, b0_5, b0_6, b0_7⟩ := open_cubic (hval 0 24 v0 rfl rfl) h0 (fun x hx => hlow x (by simp [hx]))
  obtain ⟨n1, rfl, hn1⟩ := open_u64 Try.underlying22 (hval 1 22 v1 rfl rfl) h1
  obtain ⟨n2, rfl, hn2⟩ := open_u64 Try.underlying22 (hval 2 22 v2 rfl rfl) h2
  refine (walk x0_0 x0_1 x0_2 x0_3 x0_4 x0_5 x0_6 x0_7 n1 n2 b0_0 b0_1 b0_2 b0_4 b0_5 b0_6 b0_7 hn1 hn2 W).mono fun e W' ⟨he, hg⟩ => ?_
  subst he
  exact ⟨_, rfl, law_true laid_out (by kernel_rfl) rfl Try.underlying4 (by kernel_rfl) hW' hA rfl rfl rfl hg⟩

theorem over : Rows.cubicRisesRow.holds Try.pinned (OpenSpec.ofChange Rows.cubicRisesSpec) :=
  OpenClaim.holds_of_wide 5 Try.f5 rfl rfl rfl rfl rfl rfl rfl ⟨rfl, rfl, rfl, rfl, rfl⟩ rfl rfl rfl rfl rfl (by kernel_rfl) Try.func5 (by kernel_rfl)
    (of_decide_eq_true (by kernel_rfl)) (by unfold Func.isWrapper; first | (rw [if_pos (by decide +kernel)]; kernel_rfl) | (rw [if_neg (by decide +kernel)]; exact ⟨rfl, rfl⟩))
    (fun os started H enc _ => lifted os started H enc)

/-- The statement. -/
theorem proved : Rows.CubicRisesSaid := over
end Go.Proofs.Ytjnkmghlhihjkaa.cubicRises
