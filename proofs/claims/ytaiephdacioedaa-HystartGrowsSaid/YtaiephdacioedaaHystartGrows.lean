/-
  HystartGrows: a window grows by no more than the bytes that came: all of them in a slow start, a quarter of them in a careful one, none where it is finished. No condition.
-/
import Derived.Test.YtaiephdacioedaaHyW
import Derived.Test.YtaiephdacioedaaOpen
import Derived.Test.YtaiephdacioedaaOpW
import Derived.Deep.CutBlock
import Derived.Deep.DeepCutAuto
namespace Go.Proofs.Ytaiephdacioedaa.hystartGrows
open Go.ChangeShapes Go.WideShapes Go.ChangeAt Go.RowKit Go.Deep
set_option linter.unusedVariables false

set_option maxHeartbeats 4000000 in
theorem walk (ph : Int) (en lm nm ct ba ro : Nat) (b : Nat) (hph : -9223372036854775808 ≤ ph) (hph2 : ph ≤ 9223372036854775807) (hen : en < 18446744073709551616) (hlm : lm < 18446744073709551616) (hnm : nm < 18446744073709551616) (hct : ct < 18446744073709551616) (hba : ba < 18446744073709551616) (hro : ro < 18446744073709551616) (hb : b < 18446744073709551616) (w : World) :
    Calls Try.prog 7 #[aggSl ph en lm nm ct ba ro, .int .u64 (b : Int)] w fun e w' => e = .returned (.bool true) ∧ Below w.heap.size w w' := by
  obtain ⟨g, hg⟩ : ∃ q, Wig.hgrow ⟨ph, en, lm, nm, ct, ba, ro⟩ b = q := ⟨_, rfl⟩
  obtain ⟨q, hq⟩ : ∃ q, q = b / 4 := ⟨_, rfl⟩
  have t1 : decide (g ≤ b) = true := decide_eq_true (hg ▸ Wig.hgrow_le _ _)
  have e1 : (b : Int) / 4 = (q : Int) := by omega
  have e2 : IntKind.u64.wrap (q : Int) = (q : Int) := by rw [IntKind.wrap_u64]; omega
  have C0 := Lib.hid (fun w => awake_any w)
  have CF := Lib.hid (fun w => finish_any ph en lm nm ct ba ro w)
  have C1 := Lib.hid (show ∀ w, Calls Try.prog 12 #[.agg #[.int .i64 0, .int .u64 (en : Int), .int .u64 (lm : Int), .int .u64 (nm : Int), .int .u64 (ct : Int), .int .u64 (ba : Int), .int .u64 (ro : Int)], .int .u64 (b : Int)] w fun e w' =>
      e = .returned (.int .u64 (b : Int)) ∧ Below w.heap.size w w' from
    fun w => grow_any 0 en lm nm ct ba ro b _ w hb rfl)
  have C2 := Lib.hid (show ∀ w, Calls Try.prog 12 #[.agg #[.int .i64 1, .int .u64 (en : Int), .int .u64 (lm : Int), .int .u64 (nm : Int), .int .u64 (ct : Int), .int .u64 (ba : Int), .int .u64 (ro : Int)], .int .u64 (b : Int)] w fun e w' =>
      e = .returned (.int .u64 (q : Int)) ∧ Below w.heap.size w w' from
    fun w => grow_any 1 en lm nm ct ba ro b _ w hb hq.symm)
  have C3 := Lib.hid (show ∀ w, Calls Try.prog 12 #[.agg #[.int .i64 2, .int .u64 (en : Int), .int .u64 (lm : Int), .int .u64 (nm : Int), .int .u64 (ct : Int), .int .u64 (ba : Int), .int .u64 (ro : Int)], .int .u64 (b : Int)] w fun e w' =>
      e = .returned (.int .u64 0) ∧ Below w.heap.size w w' from
    fun w => grow_any 2 en lm nm ct ba ro b _ w hb rfl)
  have C4 := Lib.hid (fun w => grow_any ph en lm nm ct ba ro b g w hb hg)
  clear hph hph2 hen hlm hnm hct hba hro hb hg hq
  have B0 := Lib.hid (Below.refl w.heap.size w)
  go_enter Try.func7, Try.ntmps7
  go_upto_region 1 with fail
  obtain ⟨w1, hw⟩ : ∃ wx, wx = w.alloc (.cells #[.int .i64 ph, .int .u64 (en : Int), .int .u64 (lm : Int), .int .u64 (nm : Int), .int .u64 (ct : Int), .int .u64 (ba : Int), .int .u64 (ro : Int)] 25) := ⟨_, rfl⟩
  rw [← hw]
  obtain ⟨pC, hp⟩ : ∃ px, px = w.heap.size := ⟨_, rfl⟩
  rw [← hp]
  have hb : Below w.heap.size w w1 := by rw [hw]; exact (Below.refl _ _).alloc (Nat.le_refl _) _
  have hx : BxSl pC ph en lm nm ct ba ro w1 := by rw [hp, hw]; exact BxSl.new _ ph en lm nm ct ba ro
  have hs : pC < w1.heap.size := by rw [hp, hw]; simp
  have GC := Lib.hid (show w.heap.size ≤ pC by rw [hp]; exact B0.out.size)
  have B1 := Lib.hid (below_trans' B0.out hb)
  clear hb B0
  have XC1 := Lib.hid hx
  have SC1 := Lib.hid hs
  clear hx hs hw hp
  go_wp2_with fail
  refine (C0.out _).mono ?_
  rintro e w2 ⟨rfl, hb⟩
  have B2 := Lib.hid (below_trans' B1.out hb)
  have XC2 := Lib.hid (XC1.out.below hb SC1.out)
  have SC2 := Lib.hid (Nat.lt_of_lt_of_le SC1.out hb.size)
  clear hb B1 XC1 SC1
  obtain ⟨c0, c1, c2, c3, c4, c5, c6, -, -, -, -, -, -, -⟩ := XC2.out
  go_upto_region 4 with fail
  obtain ⟨w3, hw⟩ : ∃ wx, wx = w2.alloc (.cells #[.int .i64 0, .int .u64 (en : Int), .int .u64 (lm : Int), .int .u64 (nm : Int), .int .u64 (ct : Int), .int .u64 (ba : Int), .int .u64 (ro : Int)] 25) := ⟨_, rfl⟩
  rw [← hw]
  obtain ⟨pA, hp⟩ : ∃ px, px = w2.heap.size := ⟨_, rfl⟩
  rw [← hp]
  have hb : Below w2.heap.size w2 w3 := by rw [hw]; exact (Below.refl _ _).alloc (Nat.le_refl _) _
  have hx : BxSl pA 0 en lm nm ct ba ro w3 := by rw [hp, hw]; exact BxSl.new _ 0 en lm nm ct ba ro
  have hs : pA < w3.heap.size := by rw [hp, hw]; simp
  have GA := Lib.hid (show w.heap.size ≤ pA by rw [hp]; exact B2.out.size)
  have OCA := Lib.hid (show pC < pA by rw [hp]; exact SC2.out)
  have B3 := Lib.hid (below_trans' B2.out hb)
  have XC3 := Lib.hid (XC2.out.below hb SC2.out)
  have SC3 := Lib.hid (Nat.lt_of_lt_of_le SC2.out hb.size)
  clear c0 c1 c2 c3 c4 c5 c6
  clear hb B2 XC2 SC2
  have XA3 := Lib.hid hx
  have SA3 := Lib.hid hs
  clear hx hs hw hp
  obtain ⟨c0, c1, c2, c3, c4, c5, c6, -, -, -, -, -, -, -⟩ := XC3.out
  go_upto_region 6 with fail
  obtain ⟨w4, hw⟩ : ∃ wx, wx = w3.alloc (.cells #[.int .i64 1, .int .u64 (en : Int), .int .u64 (lm : Int), .int .u64 (nm : Int), .int .u64 (ct : Int), .int .u64 (ba : Int), .int .u64 (ro : Int)] 25) := ⟨_, rfl⟩
  rw [← hw]
  obtain ⟨pD, hp⟩ : ∃ px, px = w3.heap.size := ⟨_, rfl⟩
  rw [← hp]
  have hb : Below w3.heap.size w3 w4 := by rw [hw]; exact (Below.refl _ _).alloc (Nat.le_refl _) _
  have hx : BxSl pD 1 en lm nm ct ba ro w4 := by rw [hp, hw]; exact BxSl.new _ 1 en lm nm ct ba ro
  have hs : pD < w4.heap.size := by rw [hp, hw]; simp
  have GD := Lib.hid (show w.heap.size ≤ pD by rw [hp]; exact B3.out.size)
  have OCD := Lib.hid (show pC < pD by rw [hp]; exact SC3.out)
  have OAD := Lib.hid (show pA < pD by rw [hp]; exact SA3.out)
  have B4 := Lib.hid (below_trans' B3.out hb)
  have XC4 := Lib.hid (XC3.out.below hb SC3.out)
  have SC4 := Lib.hid (Nat.lt_of_lt_of_le SC3.out hb.size)
  have XA4 := Lib.hid (XA3.out.below hb SA3.out)
  have SA4 := Lib.hid (Nat.lt_of_lt_of_le SA3.out hb.size)
  clear c0 c1 c2 c3 c4 c5 c6
  clear hb B3 XC3 SC3 XA3 SA3
  have XD4 := Lib.hid hx
  have SD4 := Lib.hid hs
  clear hx hs hw hp
  obtain ⟨c0, c1, c2, c3, c4, c5, c6, -, -, -, -, -, -, -⟩ := XC4.out
  go_wp2_with fail
  refine (CF.out _).mono ?_
  rintro e w5 ⟨rfl, hb⟩
  have B5 := Lib.hid (below_trans' B4.out hb)
  have XC5 := Lib.hid (XC4.out.below hb SC4.out)
  have SC5 := Lib.hid (Nat.lt_of_lt_of_le SC4.out hb.size)
  have XA5 := Lib.hid (XA4.out.below hb SA4.out)
  have SA5 := Lib.hid (Nat.lt_of_lt_of_le SA4.out hb.size)
  have XD5 := Lib.hid (XD4.out.below hb SD4.out)
  have SD5 := Lib.hid (Nat.lt_of_lt_of_le SD4.out hb.size)
  clear c0 c1 c2 c3 c4 c5 c6
  clear hb B4 XC4 SC4 XA4 SA4 XD4 SD4
  go_upto_region 7 with fail
  obtain ⟨w6, hw⟩ : ∃ wx, wx = w5.alloc (.cells #[.int .i64 2, .int .u64 (en : Int), .int .u64 (lm : Int), .int .u64 (nm : Int), .int .u64 (ct : Int), .int .u64 (ba : Int), .int .u64 (ro : Int)] 25) := ⟨_, rfl⟩
  rw [← hw]
  obtain ⟨pF, hp⟩ : ∃ px, px = w5.heap.size := ⟨_, rfl⟩
  rw [← hp]
  have hb : Below w5.heap.size w5 w6 := by rw [hw]; exact (Below.refl _ _).alloc (Nat.le_refl _) _
  have hx : BxSl pF 2 en lm nm ct ba ro w6 := by rw [hp, hw]; exact BxSl.new _ 2 en lm nm ct ba ro
  have hs : pF < w6.heap.size := by rw [hp, hw]; simp
  have GF := Lib.hid (show w.heap.size ≤ pF by rw [hp]; exact B5.out.size)
  have OCF := Lib.hid (show pC < pF by rw [hp]; exact SC5.out)
  have OAF := Lib.hid (show pA < pF by rw [hp]; exact SA5.out)
  have ODF := Lib.hid (show pD < pF by rw [hp]; exact SD5.out)
  have B6 := Lib.hid (below_trans' B5.out hb)
  have XC6 := Lib.hid (XC5.out.below hb SC5.out)
  have SC6 := Lib.hid (Nat.lt_of_lt_of_le SC5.out hb.size)
  have XA6 := Lib.hid (XA5.out.below hb SA5.out)
  have SA6 := Lib.hid (Nat.lt_of_lt_of_le SA5.out hb.size)
  have XD6 := Lib.hid (XD5.out.below hb SD5.out)
  have SD6 := Lib.hid (Nat.lt_of_lt_of_le SD5.out hb.size)
  clear hb B5 XC5 SC5 XA5 SA5 XD5 SD5
  have XF6 := Lib.hid hx
  have SF6 := Lib.hid hs
  clear hx hs hw hp
  obtain ⟨a0, a1, a2, a3, a4, a5, a6, -, -, -, -, -, -, -⟩ := XA6.out
  go_wp2_with fail
  refine (C1.out _).mono ?_
  rintro e w7 ⟨rfl, hb⟩
  have B7 := Lib.hid (below_trans' B6.out hb)
  have XC7 := Lib.hid (XC6.out.below hb SC6.out)
  have SC7 := Lib.hid (Nat.lt_of_lt_of_le SC6.out hb.size)
  have XA7 := Lib.hid (XA6.out.below hb SA6.out)
  have SA7 := Lib.hid (Nat.lt_of_lt_of_le SA6.out hb.size)
  have XD7 := Lib.hid (XD6.out.below hb SD6.out)
  have SD7 := Lib.hid (Nat.lt_of_lt_of_le SD6.out hb.size)
  have XF7 := Lib.hid (XF6.out.below hb SF6.out)
  have SF7 := Lib.hid (Nat.lt_of_lt_of_le SF6.out hb.size)
  clear a0 a1 a2 a3 a4 a5 a6
  clear hb B6 XC6 SC6 XA6 SA6 XD6 SD6 XF6 SF6
  obtain ⟨d0, d1, d2, d3, d4, d5, d6, -, -, -, -, -, -, -⟩ := XD7.out
  go_wp2_with fail
  refine (C2.out _).mono ?_
  rintro e w8 ⟨rfl, hb⟩
  have B8 := Lib.hid (below_trans' B7.out hb)
  have XC8 := Lib.hid (XC7.out.below hb SC7.out)
  have SC8 := Lib.hid (Nat.lt_of_lt_of_le SC7.out hb.size)
  have XA8 := Lib.hid (XA7.out.below hb SA7.out)
  have SA8 := Lib.hid (Nat.lt_of_lt_of_le SA7.out hb.size)
  have XD8 := Lib.hid (XD7.out.below hb SD7.out)
  have SD8 := Lib.hid (Nat.lt_of_lt_of_le SD7.out hb.size)
  have XF8 := Lib.hid (XF7.out.below hb SF7.out)
  have SF8 := Lib.hid (Nat.lt_of_lt_of_le SF7.out hb.size)
  clear d0 d1 d2 d3 d4 d5 d6
  clear hb B7 XC7 SC7 XA7 SA7 XD7 SD7 XF7 SF7
  obtain ⟨f0, f1, f2, f3, f4, f5, f6, -, -, -, -, -, -, -⟩ := XF8.out
  go_wp2_with fail
  refine (C3.out _).mono ?_
  rintro e w9 ⟨rfl, hb⟩
  have B9 := Lib.hid (below_trans' B8.out hb)
  have XC9 := Lib.hid (XC8.out.below hb SC8.out)
  have SC9 := Lib.hid (Nat.lt_of_lt_of_le SC8.out hb.size)
  have XA9 := Lib.hid (XA8.out.below hb SA8.out)
  have SA9 := Lib.hid (Nat.lt_of_lt_of_le SA8.out hb.size)
  have XD9 := Lib.hid (XD8.out.below hb SD8.out)
  have SD9 := Lib.hid (Nat.lt_of_lt_of_le SD8.out hb.size)
  have XF9 := Lib.hid (XF8.out.below hb SF8.out)
  have SF9 := Lib.hid (Nat.lt_of_lt_of_le SF8.out hb.size)
  clear f0 f1 f2 f3 f4 f5 f6
  clear hb B8 XC8 SC8 XA8 SA8 XD8 SD8 XF8 SF8
  obtain ⟨f0, f1, f2, f3, f4, f5, f6, -, -, -, -, -, -, -⟩ := XF9.out
  obtain ⟨c0, c1, c2, c3, c4, c5, c6, -, -, -, -, -, -, -⟩ := XC9.out
  go_wp2_with fail
  refine (C4.out _).mono ?_
  rintro e w10 ⟨rfl, hb⟩
  have B10 := Lib.hid (below_trans' B9.out hb)
  have XC10 := Lib.hid (XC9.out.below hb SC9.out)
  have SC10 := Lib.hid (Nat.lt_of_lt_of_le SC9.out hb.size)
  have XA10 := Lib.hid (XA9.out.below hb SA9.out)
  have SA10 := Lib.hid (Nat.lt_of_lt_of_le SA9.out hb.size)
  have XD10 := Lib.hid (XD9.out.below hb SD9.out)
  have SD10 := Lib.hid (Nat.lt_of_lt_of_le SD9.out hb.size)
  have XF10 := Lib.hid (XF9.out.below hb SF9.out)
  have SF10 := Lib.hid (Nat.lt_of_lt_of_le SF9.out hb.size)
  clear f0 f1 f2 f3 f4 f5 f6 c0 c1 c2 c3 c4 c5 c6
  clear hb B9 XC9 SC9 XA9 SA9 XD9 SD9 XF9 SF9
  go_wp2_with fail
  go_ret
  exact ⟨rfl, B10.out⟩

set_option maxRecDepth 100000 in
theorem lifted (os : Os) (started : os.Started) (H : Type) (enc : TypeId × Value → H) :
    ReturnsInHanded {} Try.checked os 7 .any (Rows.hystartGrowsSpec.pre6 enc Try.prog Try.f7 Rows.hystartGrowsRow.domain false) (Rows.hystartGrowsSpec.post enc Try.prog Try.f7 false true false false) := by
  refine returnsInHanded_of_change (C := Try.checked) own started (by kernel_rfl) Try.func7
    (ChangeSpec.witness6 (enc := enc) (C := Try.checked) false ⟨#[], #[.agg #[.int .i64 0, .int .u64 0, .int .u64 0, .int .u64 0, .int .u64 0, .int .u64 0, .int .u64 0], .int .u64 0], []⟩ 8 (by kernel_rfl) (by kernel_rfl) (by kernel_rfl) (by kernel_rfl)) ?_
  intro W base args ds gs before hval0 hW hcnd _
  have hval : ∀ (j : Nat) t v, Try.f7.params[j]? = some t → args[j]? = some v → Value.okWide Try.prog W .any base t v := hval0
  have hW' := hW
  obtain ⟨p, q, hA0, hV, rfl, hfz, hnd⟩ := hW
  have hA : DataW.TrodAll enc Try.prog W 0 (fun _ => true) true Try.f7.params.toList args.toList ds p := hA0
  obtain ⟨rfl, rfl⟩ := trodVars_none hV
  simp only [List.append_nil] at hW'
  have hlow : ∀ x ∈ p, x.block < W.heap.size := fun x hx => hW'.lt x hx
  have hA2 := hA
  rw [Try.params7] at hval hA2
  obtain ⟨v0, vs0, d0, ds0, p0, q0, hargs, rfl, rfl, h0, r0⟩ := trodAll_cons hA2
  obtain ⟨v1, vs1, d1, ds1, p1, q1, rfl, rfl, rfl, h1, r1⟩ := trodAll_cons r0
  obtain ⟨rfl, rfl, rfl⟩ := trodAll_nil r1
  obtain rfl : args = #[v0, v1] := by cases args; simp_all
  obtain ⟨x0_0, x0_1, x0_2, x0_3, x0_4, x0_5, x0_6, rfl, b0_0, d0_0, b0_1, b0_2, b0_3, b0_4, b0_5, b0_6⟩ := open_slow (hval 0 25 v0 rfl rfl) h0 (fun x hx => hlow x (by simp [hx]))
  obtain ⟨n1, rfl, hn1⟩ := open_u64 Try.underlying23 (hval 1 23 v1 rfl rfl) h1
  refine (walk x0_0 x0_1 x0_2 x0_3 x0_4 x0_5 x0_6 n1 b0_0 d0_0 b0_1 b0_2 b0_3 b0_4 b0_5 b0_6 hn1 W).mono fun e W' ⟨he, hg⟩ => ?_
  subst he
  exact ⟨_, rfl, law_true laid_out (by kernel_rfl) rfl Try.underlying4 (by kernel_rfl) hW' hA rfl rfl rfl hg⟩

theorem over : Rows.hystartGrowsRow.holds Try.pinned (OpenSpec.ofChange Rows.hystartGrowsSpec) :=
  OpenClaim.holds_of_wide 7 Try.f7 rfl rfl rfl rfl rfl rfl rfl ⟨rfl, rfl, rfl, rfl, rfl⟩ rfl rfl rfl rfl rfl (by kernel_rfl) Try.func7 (by kernel_rfl)
    (of_decide_eq_true (by kernel_rfl)) (by unfold Func.isWrapper; first | (rw [if_pos (by decide +kernel)]; kernel_rfl) | (rw [if_neg (by decide +kernel)]; exact ⟨rfl, rfl⟩))
    (fun os started H enc _ => lifted os started H enc)

/-- The statement. -/
theorem proved : Rows.HystartGrowsSaid := over
end Go.Proofs.Ytaiephdacioedaa.hystartGrows
