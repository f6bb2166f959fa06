/-
  PragueHalves: where all was marked for long a mark halves the window, or a byte less, and where nothing was a mark lets it be. No condition.
-/
import Derived.Test.YtpdmepblmjjeeaaPgW
import Derived.Test.YtpdmepblmjjeeaaOpen
import Derived.Test.YtpdmepblmjjeeaaOpQ
import Derived.Deep.CutBlock
import Derived.Deep.DeepCutAuto
namespace Go.Proofs.Ytpdmepblmjjeeaa.pragueHalves
open Go.ChangeShapes Go.WideShapes Go.ChangeAt Go.RowKit Go.Deep
set_option linter.unusedVariables false

set_option maxHeartbeats 8000000 in
theorem walk (c t s r al ac mk en : Nat) (cu : Bool) (b : Nat) (hc : c < 18446744073709551616) (ht : t < 18446744073709551616) (hs : s < 18446744073709551616) (hr : r < 18446744073709551616) (hal : al < 18446744073709551616) (hac : ac < 18446744073709551616) (hmk : mk < 18446744073709551616) (hen : en < 18446744073709551616) (hb : b < 18446744073709551616) (w : World) :
    Calls Try.prog 6 #[aggPg c t s r al ac mk en cu, .int .u64 (b : Int)] w fun e w' => e = .returned (.bool true) ∧ Below w.heap.size w w' := by
  have C0 := Lib.hid (fun w => awake_any w)
  obtain ⟨y, hy⟩ : ∃ y, y = max c 4800 := ⟨_, rfl⟩
  obtain ⟨v, hv⟩ : ∃ v, v = min y 16777216 := ⟨_, rfl⟩
  have m1 : ∀ ts ty w, (Builtin.max_ ts ty #[.int .u64 (c : Int), .int .u64 4800]).run Try.prog w = .ok (.int .u64 (y : Int)) w := by
    intro ts ty w
    rw [run_max_int2, show (if (4800 : Int) > (c : Int) then (4800 : Int) else (c : Int)) = (y : Int) by split <;> omega]
  have m2 : ∀ ts ty w, (Builtin.min_ ts ty #[.int .u64 (y : Int), .int .u64 16777216]).run Try.prog w = .ok (.int .u64 (v : Int)) w := by
    intro ts ty w
    rw [run_min_int2, show (if (16777216 : Int) < (y : Int) then (16777216 : Int) else (y : Int)) = (v : Int) by split <;> omega]
  have v1 : 4800 ≤ v := by omega
  have v2 : v ≤ 16777216 := by omega
  obtain ⟨⟨⟨a0, a1, a2, a3⟩, a4, a5, a6, a7, a8⟩, hA⟩ : ∃ q, Wig.gmark ⟨⟨v, t, 0, r⟩, 1048576, ac, mk, en, false⟩ b 0 = q := ⟨_, rfl⟩
  obtain ⟨⟨⟨b0, b1, b2, b3⟩, b4, b5, b6, b7, b8⟩, hB⟩ : ∃ q, Wig.gmark ⟨⟨v, t, 0, r⟩, 0, ac, mk, en, false⟩ b 0 = q := ⟨_, rfl⟩
  have ok1 : Wig.Pg.Ok ⟨⟨v, t, 0, r⟩, 1048576, ac, mk, en, false⟩ := ⟨⟨by simp only; omega, ht, by simp only; omega, hr⟩, by simp only; omega, hac, hmk, hen⟩
  have ok2 : Wig.Pg.Ok ⟨⟨v, t, 0, r⟩, 0, ac, mk, en, false⟩ := ⟨⟨by simp only; omega, ht, by simp only; omega, hr⟩, by simp only; omega, hac, hmk, hen⟩
  have C1 := Lib.hid (fun w => (show Calls Try.prog 11 #[.agg #[.int .u64 (v : Int), .int .u64 (t : Int), .int .u64 0, .int .u64 (r : Int), .int .u64 1048576, .int .u64 (ac : Int), .int .u64 (mk : Int), .int .u64 (en : Int), .bool false], .int .u64 (b : Int), .int .u64 0] w fun e w' => e = .returned (.agg #[.int .u64 (a0 : Int), .int .u64 (a1 : Int), .int .u64 (a2 : Int), .int .u64 (a3 : Int), .int .u64 (a4 : Int), .int .u64 (a5 : Int), .int .u64 (a6 : Int), .int .u64 (a7 : Int), .bool a8]) ∧ Below w.heap.size w w' from mark_any v t 0 r 1048576 ac mk en false b 0 a0 a1 a2 a3 a4 a5 a6 a7 a8 w ok1 hb (by omega) hA))
  have C2 := Lib.hid (fun w => (show Calls Try.prog 11 #[.agg #[.int .u64 (v : Int), .int .u64 (t : Int), .int .u64 0, .int .u64 (r : Int), .int .u64 0, .int .u64 (ac : Int), .int .u64 (mk : Int), .int .u64 (en : Int), .bool false], .int .u64 (b : Int), .int .u64 0] w fun e w' => e = .returned (.agg #[.int .u64 (b0 : Int), .int .u64 (b1 : Int), .int .u64 (b2 : Int), .int .u64 (b3 : Int), .int .u64 (b4 : Int), .int .u64 (b5 : Int), .int .u64 (b6 : Int), .int .u64 (b7 : Int), .bool b8]) ∧ Below w.heap.size w w' from mark_any v t 0 r 0 ac mk en false b 0 b0 b1 b2 b3 b4 b5 b6 b7 b8 w ok2 hb (by omega) hB))
  have h1 := Wig.gmark_half (c := ⟨⟨v, t, 0, r⟩, 1048576, ac, mk, en, false⟩) (b := b) rfl rfl v1 v2 rfl
  rw [hA] at h1
  obtain ⟨i1, i2, i3⟩ := h1
  simp only at i1 i2 i3
  have h2 := Wig.gmark_none (c := ⟨⟨v, t, 0, r⟩, 0, ac, mk, en, false⟩) (b := b) rfl rfl v1 v2 rfl
  rw [hB] at h2
  obtain ⟨j1, j2⟩ := h2
  simp only at j1 j2
  obtain ⟨h, hh⟩ : ∃ h, h = v / 2 := ⟨_, rfl⟩
  rw [← hh] at i1
  have e1 : (v : Int) / 2 = (h : Int) := by omega
  have e2 : IntKind.u64.wrap (h : Int) = (h : Int) := by rw [IntKind.wrap_u64]; omega
  have e3 : IntKind.u64.wrap ((v : Int) - (h : Int)) = (a0 : Int) := by rw [IntKind.wrap_u64]; omega
  clear i1
  have i2 := i2.symm
  subst i2 i3 j2
  obtain rfl : v = b0 := j1.symm
  clear hA hB hy hv v1 v2 hb hh ok1 ok2 hc ht hs hr hal hac hmk hen
  have B0 := Lib.hid (Below.refl w.heap.size w)
  go_enter Try.func6, Try.ntmps6
  go_upto_region 1 with fail
  obtain ⟨w1, hw⟩ : ∃ wx, wx = w.alloc (.cells #[.int .u64 (c : Int), .int .u64 (t : Int), .int .u64 (s : Int), .int .u64 (r : Int), .int .u64 (al : Int), .int .u64 (ac : Int), .int .u64 (mk : Int), .int .u64 (en : Int), .bool cu] 26) := ⟨_, rfl⟩
  rw [← hw]
  obtain ⟨pC, hp⟩ : ∃ px, px = w.heap.size := ⟨_, rfl⟩
  rw [← hp]
  have hb : Below w.heap.size w w1 := by rw [hw]; exact (Below.refl _ _).alloc (Nat.le_refl _) _
  have hx : BxPg pC c t s r al ac mk en cu w1 := by rw [hp, hw]; exact BxPg.new _ c t s r al ac mk en cu
  have hs : pC < w1.heap.size := by rw [hp, hw]; simp
  have GC := Lib.hid (show w.heap.size ≤ pC by rw [hp]; exact B0.out.size)
  have B1 := Lib.hid (below_trans' B0.out hb)
  clear hb B0
  have XC1 := Lib.hid hx
  have SC1 := Lib.hid hs
  clear hx hs hw hp
  go_wp2_with fail
  refine (C0.out _).mono ?_
  rintro e w2 ⟨rfl, hb⟩
  have B2 := Lib.hid (below_trans' B1.out hb)
  have XC2 := Lib.hid (XC1.out.below hb SC1.out)
  have SC2 := Lib.hid (Nat.lt_of_lt_of_le SC1.out hb.size)
  clear hb B1 XC1 SC1
  obtain ⟨c0, c1, c2, c3, c4, c5, c6, c7, c8, cf0, cf1, cf2, cf3, cf4, cf5, cf6, cf7, cf8⟩ := XC2.out
  go_upto_region 3 with fail
  obtain ⟨w3, hw⟩ : ∃ wx, wx = w2.setCell ⟨pC, 8, none⟩ (.bool false) := ⟨_, rfl⟩
  rw [← hw]
  have XC3 := Lib.hid (show BxPg pC c t s r al ac mk en false w3 by rw [hw]; exact XC2.out.set8)
  have B3 := Lib.hid (show Below w.heap.size w w3 by rw [hw]; exact Below.setCell B2.out GC.out _)
  have SC3 := Lib.hid (show pC < w3.heap.size by rw [hw]; have := SC2.out; simpa using this)
  clear c0 c1 c2 c3 c4 c5 c6 c7 c8 cf0 cf1 cf2 cf3 cf4 cf5 cf6 cf7 cf8
  clear hw B2 XC2 SC2
  obtain ⟨c0, c1, c2, c3, c4, c5, c6, c7, c8, cf0, cf1, cf2, cf3, cf4, cf5, cf6, cf7, cf8⟩ := XC3.out
  go_upto_region 4 with fail
  obtain ⟨w4, hw⟩ : ∃ wx, wx = w3.setCell ⟨pC, 2, none⟩ (.int .u64 0) := ⟨_, rfl⟩
  rw [← hw]
  have XC4 := Lib.hid (show BxPg pC c t 0 r al ac mk en false w4 by rw [hw]; exact XC3.out.set2)
  have B4 := Lib.hid (show Below w.heap.size w w4 by rw [hw]; exact Below.setCell B3.out GC.out _)
  have SC4 := Lib.hid (show pC < w4.heap.size by rw [hw]; have := SC3.out; simpa using this)
  clear c0 c1 c2 c3 c4 c5 c6 c7 c8 cf0 cf1 cf2 cf3 cf4 cf5 cf6 cf7 cf8
  clear hw B3 XC3 SC3
  obtain ⟨c0, c1, c2, c3, c4, c5, c6, c7, c8, cf0, cf1, cf2, cf3, cf4, cf5, cf6, cf7, cf8⟩ := XC4.out
  go_upto_region 5 with fail
  obtain ⟨w5, hw⟩ : ∃ wx, wx = w4.setCell ⟨pC, 0, none⟩ (.int .u64 (v : Int)) := ⟨_, rfl⟩
  rw [← hw]
  have XC5 := Lib.hid (show BxPg pC v t 0 r al ac mk en false w5 by rw [hw]; exact XC4.out.set0)
  have B5 := Lib.hid (show Below w.heap.size w w5 by rw [hw]; exact Below.setCell B4.out GC.out _)
  have SC5 := Lib.hid (show pC < w5.heap.size by rw [hw]; have := SC4.out; simpa using this)
  clear c0 c1 c2 c3 c4 c5 c6 c7 c8 cf0 cf1 cf2 cf3 cf4 cf5 cf6 cf7 cf8
  clear hw B4 XC4 SC4
  obtain ⟨c0, c1, c2, c3, c4, c5, c6, c7, c8, cf0, cf1, cf2, cf3, cf4, cf5, cf6, cf7, cf8⟩ := XC5.out
  go_upto_region 6 with fail
  obtain ⟨w6, hw⟩ : ∃ wx, wx = w5.setCell ⟨pC, 4, none⟩ (.int .u64 1048576) := ⟨_, rfl⟩
  rw [← hw]
  have XC6 := Lib.hid (show BxPg pC v t 0 r 1048576 ac mk en false w6 by rw [hw]; exact XC5.out.set4)
  have B6 := Lib.hid (show Below w.heap.size w w6 by rw [hw]; exact Below.setCell B5.out GC.out _)
  have SC6 := Lib.hid (show pC < w6.heap.size by rw [hw]; have := SC5.out; simpa using this)
  clear c0 c1 c2 c3 c4 c5 c6 c7 c8 cf0 cf1 cf2 cf3 cf4 cf5 cf6 cf7 cf8
  clear hw B5 XC5 SC5
  obtain ⟨c0, c1, c2, c3, c4, c5, c6, c7, c8, -, -, -, -, -, -, -, -, -⟩ := XC6.out
  go_wp2_with fail
  refine (C1.out _).mono ?_
  rintro e w7 ⟨rfl, hb⟩
  have B7 := Lib.hid (below_trans' B6.out hb)
  have XC7 := Lib.hid (XC6.out.below hb SC6.out)
  have SC7 := Lib.hid (Nat.lt_of_lt_of_le SC6.out hb.size)
  clear c0 c1 c2 c3 c4 c5 c6 c7 c8
  clear hb B6 XC6 SC6
  go_upto_region 7 with fail
  obtain ⟨w8, hw⟩ : ∃ wx, wx = w7.alloc (.cells #[.int .u64 (a0 : Int), .int .u64 (a0 : Int), .int .u64 (a2 : Int), .int .u64 (a3 : Int), .int .u64 (a4 : Int), .int .u64 (a5 : Int), .int .u64 (a6 : Int), .int .u64 (a7 : Int), .bool true] 26) := ⟨_, rfl⟩
  rw [← hw]
  obtain ⟨pA, hp⟩ : ∃ px, px = w7.heap.size := ⟨_, rfl⟩
  rw [← hp]
  have hb : Below w7.heap.size w7 w8 := by rw [hw]; exact (Below.refl _ _).alloc (Nat.le_refl _) _
  have hx : BxPg pA a0 a0 a2 a3 a4 a5 a6 a7 true w8 := by rw [hp, hw]; exact BxPg.new _ a0 a0 a2 a3 a4 a5 a6 a7 true
  have hs : pA < w8.heap.size := by rw [hp, hw]; simp
  have GA := Lib.hid (show w.heap.size ≤ pA by rw [hp]; exact B7.out.size)
  have OCA := Lib.hid (show pC < pA by rw [hp]; exact SC7.out)
  have B8 := Lib.hid (below_trans' B7.out hb)
  have XC8 := Lib.hid (XC7.out.below hb SC7.out)
  have SC8 := Lib.hid (Nat.lt_of_lt_of_le SC7.out hb.size)
  clear hb B7 XC7 SC7
  have XA8 := Lib.hid hx
  have SA8 := Lib.hid hs
  clear hx hs hw hp
  obtain ⟨c0, c1, c2, c3, c4, c5, c6, c7, c8, cf0, cf1, cf2, cf3, cf4, cf5, cf6, cf7, cf8⟩ := XC8.out
  go_upto_region 8 with fail
  obtain ⟨w9, hw⟩ : ∃ wx, wx = w8.setCell ⟨pC, 4, none⟩ (.int .u64 0) := ⟨_, rfl⟩
  rw [← hw]
  have XC9 := Lib.hid (show BxPg pC v t 0 r 0 ac mk en false w9 by rw [hw]; exact XC8.out.set4)
  have B9 := Lib.hid (show Below w.heap.size w w9 by rw [hw]; exact Below.setCell B8.out GC.out _)
  have SC9 := Lib.hid (show pC < w9.heap.size by rw [hw]; have := SC8.out; simpa using this)
  have XA9 := Lib.hid (show BxPg pA a0 a0 a2 a3 a4 a5 a6 a7 true w9 by rw [hw]; exact XA8.out.other rfl (Nat.ne_of_lt OCA.out))
  have SA9 := Lib.hid (show pA < w9.heap.size by rw [hw]; have := SA8.out; simpa using this)
  clear c0 c1 c2 c3 c4 c5 c6 c7 c8 cf0 cf1 cf2 cf3 cf4 cf5 cf6 cf7 cf8
  clear hw B8 XC8 SC8 XA8 SA8
  obtain ⟨c0, c1, c2, c3, c4, c5, c6, c7, c8, -, -, -, -, -, -, -, -, -⟩ := XC9.out
  go_wp2_with fail
  refine (C2.out _).mono ?_
  rintro e w10 ⟨rfl, hb⟩
  have B10 := Lib.hid (below_trans' B9.out hb)
  have XC10 := Lib.hid (XC9.out.below hb SC9.out)
  have SC10 := Lib.hid (Nat.lt_of_lt_of_le SC9.out hb.size)
  have XA10 := Lib.hid (XA9.out.below hb SA9.out)
  have SA10 := Lib.hid (Nat.lt_of_lt_of_le SA9.out hb.size)
  clear c0 c1 c2 c3 c4 c5 c6 c7 c8
  clear hb B9 XC9 SC9 XA9 SA9
  go_upto_region 9 with fail
  obtain ⟨w11, hw⟩ : ∃ wx, wx = w10.alloc (.cells #[.int .u64 (v : Int), .int .u64 (b1 : Int), .int .u64 (b2 : Int), .int .u64 (b3 : Int), .int .u64 (b4 : Int), .int .u64 (b5 : Int), .int .u64 (b6 : Int), .int .u64 (b7 : Int), .bool true] 26) := ⟨_, rfl⟩
  rw [← hw]
  obtain ⟨pB, hp⟩ : ∃ px, px = w10.heap.size := ⟨_, rfl⟩
  rw [← hp]
  have hb : Below w10.heap.size w10 w11 := by rw [hw]; exact (Below.refl _ _).alloc (Nat.le_refl _) _
  have hx : BxPg pB v b1 b2 b3 b4 b5 b6 b7 true w11 := by rw [hp, hw]; exact BxPg.new _ v b1 b2 b3 b4 b5 b6 b7 true
  have hs : pB < w11.heap.size := by rw [hp, hw]; simp
  have GB := Lib.hid (show w.heap.size ≤ pB by rw [hp]; exact B10.out.size)
  have OCB := Lib.hid (show pC < pB by rw [hp]; exact SC10.out)
  have OAB := Lib.hid (show pA < pB by rw [hp]; exact SA10.out)
  have B11 := Lib.hid (below_trans' B10.out hb)
  have XC11 := Lib.hid (XC10.out.below hb SC10.out)
  have SC11 := Lib.hid (Nat.lt_of_lt_of_le SC10.out hb.size)
  have XA11 := Lib.hid (XA10.out.below hb SA10.out)
  have SA11 := Lib.hid (Nat.lt_of_lt_of_le SA10.out hb.size)
  clear hb B10 XC10 SC10 XA10 SA10
  have XB11 := Lib.hid hx
  have SB11 := Lib.hid hs
  clear hx hs hw hp
  obtain ⟨c0, c1, c2, c3, c4, c5, c6, c7, c8, -, -, -, -, -, -, -, -, -⟩ := XC11.out
  obtain ⟨a0, a1, a2, a3, a4, a5, a6, a7, a8, -, -, -, -, -, -, -, -, -⟩ := XA11.out
  obtain ⟨b0, b1, b2, b3, b4, b5, b6, b7, b8, -, -, -, -, -, -, -, -, -⟩ := XB11.out
  go_wp2_with fail
  go_ret
  exact ⟨rfl, B11.out⟩

set_option maxRecDepth 100000 in
theorem lifted (os : Os) (started : os.Started) (H : Type) (enc : TypeId × Value → H) :
    ReturnsInHanded {} Try.checked os 6 .any (Rows.pragueHalvesSpec.pre6 enc Try.prog Try.f6 Rows.pragueHalvesRow.domain false) (Rows.pragueHalvesSpec.post enc Try.prog Try.f6 false true false false) := by
  refine returnsInHanded_of_change (C := Try.checked) own started (by kernel_rfl) Try.func6
    (ChangeSpec.witness6 (enc := enc) (C := Try.checked) false ⟨#[], #[.agg #[.int .u64 0, .int .u64 0, .int .u64 0, .int .u64 0, .int .u64 0, .int .u64 0, .int .u64 0, .int .u64 0, .bool false], .int .u64 0], []⟩ 8 (by kernel_rfl) (by kernel_rfl) (by kernel_rfl) (by kernel_rfl)) ?_
  intro W base args ds gs before hval0 hW hcnd _
  have hval : ∀ (j : Nat) t v, Try.f6.params[j]? = some t → args[j]? = some v → Value.okWide Try.prog W .any base t v := hval0
  have hW' := hW
  obtain ⟨p, q, hA0, hV, rfl, hfz, hnd⟩ := hW
  have hA : DataW.TrodAll enc Try.prog W 0 (fun _ => true) true Try.f6.params.toList args.toList ds p := hA0
  obtain ⟨rfl, rfl⟩ := trodVars_none hV
  simp only [List.append_nil] at hW'
  have hlow : ∀ x ∈ p, x.block < W.heap.size := fun x hx => hW'.lt x hx
  have hA2 := hA
  rw [Try.params6] at hval hA2
  obtain ⟨v0, vs0, d0, ds0, p0, q0, hargs, rfl, rfl, h0, r0⟩ := trodAll_cons hA2
  obtain ⟨v1, vs1, d1, ds1, p1, q1, rfl, rfl, rfl, h1, r1⟩ := trodAll_cons r0
  obtain ⟨rfl, rfl, rfl⟩ := trodAll_nil r1
  obtain rfl : args = #[v0, v1] := by cases args; simp_all
  obtain ⟨x0_0, x0_1, x0_2, x0_3, x0_4, x0_5, x0_6, x0_7, x0_8, rfl, b0_0, b0_1, b0_2, b0_3, b0_4, b0_5, b0_6, b0_7⟩ := open_prague (hval 0 26 v0 rfl rfl) h0 (fun x hx => hlow x (by simp [hx]))
  obtain ⟨n1, rfl, hn1⟩ := open_u64 Try.underlying22 (hval 1 22 v1 rfl rfl) h1
  refine (walk x0_0 x0_1 x0_2 x0_3 x0_4 x0_5 x0_6 x0_7 x0_8 n1 b0_0 b0_1 b0_2 b0_3 b0_4 b0_5 b0_6 b0_7 hn1 W).mono fun e W' ⟨he, hg⟩ => ?_
  subst he
  exact ⟨_, rfl, law_true laid_out (by kernel_rfl) rfl Try.underlying4 (by kernel_rfl) hW' hA rfl rfl rfl hg⟩

theorem over : Rows.pragueHalvesRow.holds Try.pinned (OpenSpec.ofChange Rows.pragueHalvesSpec) :=
  OpenClaim.holds_of_wide 6 Try.f6 rfl rfl rfl rfl rfl rfl rfl ⟨rfl, rfl, rfl, rfl, rfl⟩ rfl rfl rfl rfl rfl (by kernel_rfl) Try.func6 (by kernel_rfl)
    (of_decide_eq_true (by kernel_rfl)) (by unfold Func.isWrapper; first | (rw [if_pos (by decide +kernel)]; kernel_rfl) | (rw [if_neg (by decide +kernel)]; exact ⟨rfl, rfl⟩))
    (fun os started H enc _ => lifted os started H enc)

/-- The statement. -/
theorem proved : Rows.PragueHalvesSaid := over
end Go.Proofs.Ytpdmepblmjjeeaa.pragueHalves
