/-
  RttDoubles: a timeout of one count more is twice as long, up to ten, as long as that is a number, for all estimates, delays and counts. No condition.
-/
import Derived.Test.YteaodhgfmbcmfaaRtW
import Derived.Test.YteaodhgfmbcmfaaOpR
import Derived.Test.YteaodhgfmbcmfaaRgn
namespace Go.Proofs.Yteaodhgfmbcmfaa.rttDoubles
open Go.ChangeShapes Go.WideShapes Go.ChangeAt Go.RowKit Go.Deep
set_option linter.unusedVariables false

theorem held_bx {p a b c d : Nat} {h : Bool} {w1 w' : World} (x : Bx p h a b c d w1) (hp : p < w1.heap.size) (k : Below w1.heap.size w1 w') : Bx p h a b c d w' ∧ Below w1.heap.size w1 w' := ⟨x.below k hp, k⟩

set_option maxHeartbeats 4000000 in
theorem walk (h : Bool) (a b c d m : Nat) (k : Int) (ha : a < 18446744073709551616) (hb : b < 18446744073709551616) (hc : c < 18446744073709551616) (hd : d < 18446744073709551616) (hm : m < 18446744073709551616)
    (hk0 : -9223372036854775808 ≤ k) (hk1 : k ≤ 9223372036854775807) (w : World) :
    Calls Try.prog 6 #[.agg #[.bool h, .int .u64 (a : Int), .int .u64 (b : Int), .int .u64 (c : Int), .int .u64 (d : Int)], .int .u64 (m : Int), .int .i64 k] w fun e w' => e = .returned (.bool true) ∧ Below w.heap.size w w' := by
  have ok : Wig.Rt.Ok ⟨h, a, b, c, d⟩ := ⟨ha, hb, hc, hd⟩
  obtain ⟨w1, hw1⟩ : ∃ w1, w1 = w.alloc (.cells #[.bool h, .int .u64 (a : Int), .int .u64 (b : Int), .int .u64 (c : Int), .int .u64 (d : Int)] 24) := ⟨_, rfl⟩
  have HB1 := Lib.hid (show Below w.heap.size w w1 by rw [hw1]; exact (Below.refl _ _).alloc (Nat.le_refl _) _)
  have HX := Lib.hid (show Bx w.heap.size h a b c d w1 by rw [hw1]; exact Bx.new w h a b c d)
  have HS := Lib.hid (show w.heap.size < w1.heap.size by rw [hw1]; simp)
  have C0 := Lib.hid (fun w => awake_any w)
  by_cases hr : 0 ≤ k ∧ k ≤ 9
  · obtain ⟨h0, h9⟩ := hr
    obtain ⟨j, hj⟩ : ∃ j, j = k + 1 := ⟨_, rfl⟩
    obtain ⟨x, hx⟩ : ∃ x, x = Wig.rwait ⟨h, a, b, c, d⟩ m k := ⟨_, rfl⟩
    obtain ⟨y, hy⟩ : ∃ y, y = Wig.rwait ⟨h, a, b, c, d⟩ m j := ⟨_, rfl⟩
    have hxy : y = Wig.fmul x 2 := by rw [hy, hx, hj, Wig.rwait_double h0 h9]
    have C1 := Lib.hid (fun w => timeout_any h a b c d m x k w ok hm hk0 hk1 hx.symm)
    have C2 := Lib.hid (fun w => timeout_any h a b c d m y j w ok hm (by omega) (by omega) hy.symm)
    have hxl : x < 18446744073709551616 := by rw [hx]; exact Wig.rwait_lt _ _ _
    have t1 : decide (k < 0) = false := decide_eq_false (by omega)
    have t2 : decide (9 < k) = false := decide_eq_false (by omega)
    have e1 : IntKind.i64.wrap (k + 1) = j := by rw [IntKind.wrap_i64] <;> omega
    have t4 : ((y : Int) == (y : Int)) = true := by simp
    by_cases hbig : 9223372036854775808 ≤ x
    · have t5 : decide (9223372036854775808 ≤ (x : Int)) = true := decide_eq_true (by omega)
      have t7 : decide (9223372036854775808 ≤ x) = true := decide_eq_true (by omega)
      have t8 : decide (x < 9223372036854775808) = false := decide_eq_false (by omega)
      have t9 : decide ((x : Int) < 9223372036854775808) = false := decide_eq_false (by omega)
      have t6 : ((y : Int) == 18446744073709551615) = true := by rw [hxy]; unfold Wig.fmul; rw [if_neg (by omega)]; rfl
      clear hbig ha hb hc hd hm hk0 hk1 h0 h9 hj hx hy hxy hxl ok
      go_enter Try.func6, Try.ntmps6
      go_wp2_with fail
      rw [← hw1]
      clear hw1
      refine (C0.out _).mono ?_
      rintro e w2 ⟨rfl, hb⟩
      have B2 := Lib.hid (HB1.out.trans (hb.mono (by have := HS.out; omega)))
      have X2 := Lib.hid (HX.out.below hb HS.out)
      have S2 := Lib.hid (show w.heap.size < w2.heap.size by have := HS.out; have := hb.size; omega)
      clear hb HB1 HX HS C0
      obtain ⟨k0, k1, k2, k3, k4, -, -, -, -, -⟩ := X2.out
      go_wp2_with fail
      refine (C1.out _).mono ?_
      rintro e w3 ⟨rfl, hb⟩
      have B3 := Lib.hid (B2.out.trans (hb.mono B2.out.size))
      have X3 := Lib.hid (X2.out.below hb S2.out)
      clear hb k0 k1 k2 k3 k4
      obtain ⟨k0, k1, k2, k3, k4, -, -, -, -, -⟩ := X3.out
      go_wp2_with fail
      refine (C2.out _).mono ?_
      rintro e w4 ⟨rfl, hb⟩
      have B4 := Lib.hid (B3.out.trans (hb.mono B3.out.size))
      clear hb k0 k1 k2 k3 k4
      go_wp2_with fail
      go_ret
      exact ⟨rfl, B4.out⟩
    · have t5 : decide (9223372036854775808 ≤ (x : Int)) = false := decide_eq_false (by omega)
      have t7 : decide (9223372036854775808 ≤ x) = false := decide_eq_false (by omega)
      have t8 : decide (x < 9223372036854775808) = true := decide_eq_true (by omega)
      have t9 : decide ((x : Int) < 9223372036854775808) = true := decide_eq_true (by omega)
      have e2 : IntKind.u64.wrap (2 * (x : Int)) = (y : Int) := by rw [hxy]; unfold Wig.fmul; rw [if_pos (by omega), IntKind.wrap_u64]; omega
      clear hbig ha hb hc hd hm hk0 hk1 h0 h9 hj hx hy hxy hxl ok
      go_enter Try.func6, Try.ntmps6
      go_wp2_with fail
      rw [← hw1]
      clear hw1
      refine (C0.out _).mono ?_
      rintro e w2 ⟨rfl, hb⟩
      have B2 := Lib.hid (HB1.out.trans (hb.mono (by have := HS.out; omega)))
      have X2 := Lib.hid (HX.out.below hb HS.out)
      have S2 := Lib.hid (show w.heap.size < w2.heap.size by have := HS.out; have := hb.size; omega)
      clear hb HB1 HX HS C0
      obtain ⟨k0, k1, k2, k3, k4, -, -, -, -, -⟩ := X2.out
      go_wp2_with fail
      refine (C1.out _).mono ?_
      rintro e w3 ⟨rfl, hb⟩
      have B3 := Lib.hid (B2.out.trans (hb.mono B2.out.size))
      have X3 := Lib.hid (X2.out.below hb S2.out)
      clear hb k0 k1 k2 k3 k4
      obtain ⟨k0, k1, k2, k3, k4, -, -, -, -, -⟩ := X3.out
      go_wp2_with fail
      refine (C2.out _).mono ?_
      rintro e w4 ⟨rfl, hb⟩
      have B4 := Lib.hid (B3.out.trans (hb.mono B3.out.size))
      clear hb k0 k1 k2 k3 k4
      go_wp2_with fail
      go_ret
      exact ⟨rfl, B4.out⟩
  · have t0 : (decide (k < 0) || decide (9 < k)) = true := by
      by_cases q : k < 0
      · simp [q]
      · simp; omega
    obtain ⟨x, hx⟩ : ∃ x, x = Wig.rwait ⟨h, a, b, c, d⟩ m 10 := ⟨_, rfl⟩
    obtain ⟨y, hy⟩ : ∃ y, y = Wig.rwait ⟨h, a, b, c, d⟩ m 0 := ⟨_, rfl⟩
    have C1 := Lib.hid (fun w => timeout_any h a b c d m x 10 w ok hm (by decide) (by decide) hx.symm)
    have C2 := Lib.hid (fun w => timeout_any h a b c d m x 11 w ok hm (by decide) (by decide) hx.symm)
    have C3 := Lib.hid (fun w => timeout_any h a b c d m y 0 w ok hm (by decide) (by decide) hy.symm)
    have C4 := Lib.hid (fun w => timeout_any h a b c d m y (-1) w ok hm (by decide) (by decide) ((Wig.rwait_low _ _).symm.trans hy.symm))
    clear hx hy ha hb hc hd hm hk0 hk1 hr ok
    by_cases hneg : k < 0
    · have t1 : decide (k < 0) = true := decide_eq_true hneg
      clear hneg t0
      go_enter Try.func6, Try.ntmps6
      go_wp2_with fail
      rw [← hw1]
      clear hw1
      refine (C0.out _).mono ?_
      rintro e w2 ⟨rfl, hb⟩
      have B2 := Lib.hid (HB1.out.trans (hb.mono (by have := HS.out; omega)))
      have X2 := Lib.hid (HX.out.below hb HS.out)
      have S2 := Lib.hid (show w.heap.size < w2.heap.size by have := HS.out; have := hb.size; omega)
      clear hb HB1 HX HS C0
      go_wp2_with fail
      refine wp_region_held_drew (S := fun w' => Bx w.heap.size h a b c d w' ∧ Below w2.heap.size w2 w') (by kernel_rfl) ?_ (fun hHeld => ?_)
      · exact held_bx X2.out S2.out (Below.refl _ _).drew
      refine held_take (v := ?vv201) 0 rfl (by kernel_rfl) (by kernel_rfl) (by kernel_rfl) (fun _ _ _ h => h) (by rfl) ?yy201 (by assumption) ?nn201
      case yy201 =>
        intro w hSw
        (try dsimp only at hSw)
        go_simp
        try with_reducible rfl
      try simp only [Act.put, List.setIfInBounds_toArray, List.set_cons_zero, List.set_cons_succ]
      refine held_take (v := ?vv202) 1 rfl (by kernel_rfl) (by kernel_rfl) (by kernel_rfl) (fun _ _ _ h => h) (by rfl) ?yy202 (by assumption) ?nn202
      case yy202 =>
        intro w hSw
        (try dsimp only at hSw)
        go_simp
        try with_reducible rfl
      try simp only [Act.put, List.setIfInBounds_toArray, List.set_cons_zero, List.set_cons_succ]
      refine held_take (v := .agg #[.bool h, .int .u64 (a : Int), .int .u64 (b : Int), .int .u64 (c : Int), .int .u64 (d : Int)]) 2 rfl (by kernel_rfl) (by kernel_rfl) (by kernel_rfl) (fun _ _ _ h => h) (by rfl) (fun wx hSw => by obtain ⟨c0, c1, c2, c3, c4, -, -, -, -, -⟩ := hSw.1; clear hSw; go_simp) (by assumption) ?_
      try simp only [Act.put, List.setIfInBounds_toArray, List.set_cons_zero, List.set_cons_succ]
      refine held_take (v := ?vv204) 3 rfl (by kernel_rfl) (by kernel_rfl) (by kernel_rfl) (fun _ _ _ h => h) (by rfl) ?yy204 (by assumption) ?nn204
      case yy204 =>
        intro w hSw
        (try dsimp only at hSw)
        go_simp
        try with_reducible rfl
      try simp only [Act.put, List.setIfInBounds_toArray, List.set_cons_zero, List.set_cons_succ]
      refine held_take (v := .agg #[.bool h, .int .u64 (a : Int), .int .u64 (b : Int), .int .u64 (c : Int), .int .u64 (d : Int)]) 5 rfl (by kernel_rfl) (by kernel_rfl) (by kernel_rfl) (fun _ _ _ h => h) (by rfl) (fun wx hSw => by obtain ⟨c0, c1, c2, c3, c4, -, -, -, -, -⟩ := hSw.1; clear hSw; go_simp) (by assumption) ?_
      try simp only [Act.put, List.setIfInBounds_toArray, List.set_cons_zero, List.set_cons_succ]
      refine held_take (v := ?vv206) 6 rfl (by kernel_rfl) (by kernel_rfl) (by kernel_rfl) (fun _ _ _ h => h) (by rfl) ?yy206 (by assumption) ?nn206
      case yy206 =>
        intro w hSw
        (try dsimp only at hSw)
        go_simp
        try with_reducible rfl
      try simp only [Act.put, List.setIfInBounds_toArray, List.set_cons_zero, List.set_cons_succ]
      refine held_do 4 rfl (by kernel_rfl) (by rfl) (fun K hK => ?_)
      go_wp2_with (go_at_call 11; refine (C1.out _).mono ?_; rintro e w3 ⟨rfl, hb3⟩; have K3 := Lib.hid (Below.trans hHeld.2 (hb3.mono hHeld.2.size)); clear hb3)
      refine hK.out _ _ ?_ (fun hHeld => ?_)
      · exact held_bx X2.out S2.out K3.out
      clear hK K
      try simp only [Act.put, List.setIfInBounds_toArray, List.set_cons_zero, List.set_cons_succ]
      refine held_do 7 rfl (by kernel_rfl) (by rfl) (fun K hK => ?_)
      go_wp2_with (go_at_call 11; refine (C2.out _).mono ?_; rintro e w4 ⟨rfl, hb4⟩; have K4 := Lib.hid (Below.trans hHeld.2 (hb4.mono hHeld.2.size)); clear hb4)
      refine hK.out _ _ ?_ (fun hHeld => ?_)
      · exact held_bx X2.out S2.out K4.out
      clear hK K
      try simp only [Act.put, List.setIfInBounds_toArray, List.set_cons_zero, List.set_cons_succ]
      refine held_take (v := ?vv209) 8 rfl (by kernel_rfl) (by kernel_rfl) (by kernel_rfl) (fun _ _ _ h => h) (by rfl) ?yy209 (by assumption) ?nn209
      case yy209 =>
        intro w hSw
        (try dsimp only at hSw)
        go_simp
        try with_reducible rfl
      try simp only [Act.put, List.setIfInBounds_toArray, List.set_cons_zero, List.set_cons_succ]
      refine held_take (v := ?vv210) 9 rfl (by kernel_rfl) (by kernel_rfl) (by kernel_rfl) (fun _ _ _ h => h) (by rfl) ?yy210 (by assumption) ?nn210
      case yy210 =>
        intro w hSw
        (try dsimp only at hSw)
        go_simp
        try with_reducible rfl
      try simp only [Act.put, List.setIfInBounds_toArray, List.set_cons_zero, List.set_cons_succ]
      refine held_take (v := ?vv211) 10 rfl (by kernel_rfl) (by kernel_rfl) (by kernel_rfl) (fun _ _ _ h => h) (by rfl) ?yy211 (by assumption) ?nn211
      case yy211 =>
        intro w hSw
        (try dsimp only at hSw)
        go_simp
        try with_reducible rfl
      try simp only [Act.put, List.setIfInBounds_toArray, List.set_cons_zero, List.set_cons_succ]
      refine held_take (v := .agg #[.bool h, .int .u64 (a : Int), .int .u64 (b : Int), .int .u64 (c : Int), .int .u64 (d : Int)]) 11 rfl (by kernel_rfl) (by kernel_rfl) (by kernel_rfl) (fun _ _ _ h => h) (by rfl) (fun wx hSw => by obtain ⟨c0, c1, c2, c3, c4, -, -, -, -, -⟩ := hSw.1; clear hSw; go_simp) (by assumption) ?_
      try simp only [Act.put, List.setIfInBounds_toArray, List.set_cons_zero, List.set_cons_succ]
      refine held_take (v := ?vv213) 12 rfl (by kernel_rfl) (by kernel_rfl) (by kernel_rfl) (fun _ _ _ h => h) (by rfl) ?yy213 (by assumption) ?nn213
      case yy213 =>
        intro w hSw
        (try dsimp only at hSw)
        go_simp
        try with_reducible rfl
      try simp only [Act.put, List.setIfInBounds_toArray, List.set_cons_zero, List.set_cons_succ]
      refine held_take (v := .agg #[.bool h, .int .u64 (a : Int), .int .u64 (b : Int), .int .u64 (c : Int), .int .u64 (d : Int)]) 14 rfl (by kernel_rfl) (by kernel_rfl) (by kernel_rfl) (fun _ _ _ h => h) (by rfl) (fun wx hSw => by obtain ⟨c0, c1, c2, c3, c4, -, -, -, -, -⟩ := hSw.1; clear hSw; go_simp) (by assumption) ?_
      try simp only [Act.put, List.setIfInBounds_toArray, List.set_cons_zero, List.set_cons_succ]
      refine held_take (v := ?vv215) 15 rfl (by kernel_rfl) (by kernel_rfl) (by kernel_rfl) (fun _ _ _ h => h) (by rfl) ?yy215 (by assumption) ?nn215
      case yy215 =>
        intro w hSw
        (try dsimp only at hSw)
        go_simp
        try with_reducible rfl
      try simp only [Act.put, List.setIfInBounds_toArray, List.set_cons_zero, List.set_cons_succ]
      refine held_do 13 rfl (by kernel_rfl) (by rfl) (fun K hK => ?_)
      go_wp2_with (go_at_call 11; refine (C3.out _).mono ?_; rintro e w5 ⟨rfl, hb5⟩; have K5 := Lib.hid (Below.trans hHeld.2 (hb5.mono hHeld.2.size)); clear hb5)
      refine hK.out _ _ ?_ (fun hHeld => ?_)
      · exact held_bx X2.out S2.out K5.out
      clear hK K
      try simp only [Act.put, List.setIfInBounds_toArray, List.set_cons_zero, List.set_cons_succ]
      refine held_do 16 rfl (by kernel_rfl) (by rfl) (fun K hK => ?_)
      go_wp2_with (go_at_call 11; refine (C4.out _).mono ?_; rintro e w6 ⟨rfl, hb6⟩; have K6 := Lib.hid (Below.trans hHeld.2 (hb6.mono hHeld.2.size)); clear hb6)
      refine hK.out _ _ ?_ (fun hHeld => ?_)
      · exact held_bx X2.out S2.out K6.out
      clear hK K
      try simp only [Act.put, List.setIfInBounds_toArray, List.set_cons_zero, List.set_cons_succ]
      refine held_take (v := ?vv218) 17 rfl (by kernel_rfl) (by kernel_rfl) (by kernel_rfl) (fun _ _ _ h => h) (by rfl) ?yy218 (by assumption) ?nn218
      case yy218 =>
        intro w hSw
        (try dsimp only at hSw)
        go_simp
        try with_reducible rfl
      try simp only [Act.put, List.setIfInBounds_toArray, List.set_cons_zero, List.set_cons_succ]
      refine held_take (v := ?vv219) 18 rfl (by kernel_rfl) (by kernel_rfl) (by kernel_rfl) (fun _ _ _ h => h) (by rfl) ?yy219 (by assumption) ?nn219
      case yy219 =>
        intro w hSw
        (try dsimp only at hSw)
        go_simp
        try with_reducible rfl
      try simp only [Act.put, List.setIfInBounds_toArray, List.set_cons_zero, List.set_cons_succ]
      refine held_take (v := ?vv220) 19 rfl (by kernel_rfl) (by kernel_rfl) (by kernel_rfl) (fun _ _ _ h => h) (by rfl) ?yy220 (by assumption) ?nn220
      case yy220 =>
        intro w hSw
        (try dsimp only at hSw)
        go_simp
        try with_reducible rfl
      try simp only [Act.put, List.setIfInBounds_toArray, List.set_cons_zero, List.set_cons_succ]
      refine wpAnyH_done (by kernel_rfl) ?_ _
      clear hHeld
      have BZ := Lib.hid (B2.out.trans (K6.out.mono B2.out.size))
      go_wp2_with fail
      go_ret
      exact ⟨rfl, BZ.out⟩
    · have t1 : decide (k < 0) = false := decide_eq_false hneg
      have t2 : decide (9 < k) = true := by rw [t1] at t0; simpa using t0
      clear hneg t0
      go_enter Try.func6, Try.ntmps6
      go_wp2_with fail
      rw [← hw1]
      clear hw1
      refine (C0.out _).mono ?_
      rintro e w2 ⟨rfl, hb⟩
      have B2 := Lib.hid (HB1.out.trans (hb.mono (by have := HS.out; omega)))
      have X2 := Lib.hid (HX.out.below hb HS.out)
      have S2 := Lib.hid (show w.heap.size < w2.heap.size by have := HS.out; have := hb.size; omega)
      clear hb HB1 HX HS C0
      go_wp2_with fail
      refine wp_region_held_drew (S := fun w' => Bx w.heap.size h a b c d w' ∧ Below w2.heap.size w2 w') (by kernel_rfl) ?_ (fun hHeld => ?_)
      · exact held_bx X2.out S2.out (Below.refl _ _).drew
      refine held_take (v := ?vv222) 0 rfl (by kernel_rfl) (by kernel_rfl) (by kernel_rfl) (fun _ _ _ h => h) (by rfl) ?yy222 (by assumption) ?nn222
      case yy222 =>
        intro w hSw
        (try dsimp only at hSw)
        go_simp
        try with_reducible rfl
      try simp only [Act.put, List.setIfInBounds_toArray, List.set_cons_zero, List.set_cons_succ]
      refine held_take (v := ?vv223) 1 rfl (by kernel_rfl) (by kernel_rfl) (by kernel_rfl) (fun _ _ _ h => h) (by rfl) ?yy223 (by assumption) ?nn223
      case yy223 =>
        intro w hSw
        (try dsimp only at hSw)
        go_simp
        try with_reducible rfl
      try simp only [Act.put, List.setIfInBounds_toArray, List.set_cons_zero, List.set_cons_succ]
      refine held_take (v := .agg #[.bool h, .int .u64 (a : Int), .int .u64 (b : Int), .int .u64 (c : Int), .int .u64 (d : Int)]) 2 rfl (by kernel_rfl) (by kernel_rfl) (by kernel_rfl) (fun _ _ _ h => h) (by rfl) (fun wx hSw => by obtain ⟨c0, c1, c2, c3, c4, -, -, -, -, -⟩ := hSw.1; clear hSw; go_simp) (by assumption) ?_
      try simp only [Act.put, List.setIfInBounds_toArray, List.set_cons_zero, List.set_cons_succ]
      refine held_take (v := ?vv225) 3 rfl (by kernel_rfl) (by kernel_rfl) (by kernel_rfl) (fun _ _ _ h => h) (by rfl) ?yy225 (by assumption) ?nn225
      case yy225 =>
        intro w hSw
        (try dsimp only at hSw)
        go_simp
        try with_reducible rfl
      try simp only [Act.put, List.setIfInBounds_toArray, List.set_cons_zero, List.set_cons_succ]
      refine held_take (v := .agg #[.bool h, .int .u64 (a : Int), .int .u64 (b : Int), .int .u64 (c : Int), .int .u64 (d : Int)]) 5 rfl (by kernel_rfl) (by kernel_rfl) (by kernel_rfl) (fun _ _ _ h => h) (by rfl) (fun wx hSw => by obtain ⟨c0, c1, c2, c3, c4, -, -, -, -, -⟩ := hSw.1; clear hSw; go_simp) (by assumption) ?_
      try simp only [Act.put, List.setIfInBounds_toArray, List.set_cons_zero, List.set_cons_succ]
      refine held_take (v := ?vv227) 6 rfl (by kernel_rfl) (by kernel_rfl) (by kernel_rfl) (fun _ _ _ h => h) (by rfl) ?yy227 (by assumption) ?nn227
      case yy227 =>
        intro w hSw
        (try dsimp only at hSw)
        go_simp
        try with_reducible rfl
      try simp only [Act.put, List.setIfInBounds_toArray, List.set_cons_zero, List.set_cons_succ]
      refine held_do 4 rfl (by kernel_rfl) (by rfl) (fun K hK => ?_)
      go_wp2_with (go_at_call 11; refine (C1.out _).mono ?_; rintro e w3 ⟨rfl, hb3⟩; have K3 := Lib.hid (Below.trans hHeld.2 (hb3.mono hHeld.2.size)); clear hb3)
      refine hK.out _ _ ?_ (fun hHeld => ?_)
      · exact held_bx X2.out S2.out K3.out
      clear hK K
      try simp only [Act.put, List.setIfInBounds_toArray, List.set_cons_zero, List.set_cons_succ]
      refine held_do 7 rfl (by kernel_rfl) (by rfl) (fun K hK => ?_)
      go_wp2_with (go_at_call 11; refine (C2.out _).mono ?_; rintro e w4 ⟨rfl, hb4⟩; have K4 := Lib.hid (Below.trans hHeld.2 (hb4.mono hHeld.2.size)); clear hb4)
      refine hK.out _ _ ?_ (fun hHeld => ?_)
      · exact held_bx X2.out S2.out K4.out
      clear hK K
      try simp only [Act.put, List.setIfInBounds_toArray, List.set_cons_zero, List.set_cons_succ]
      refine held_take (v := ?vv230) 8 rfl (by kernel_rfl) (by kernel_rfl) (by kernel_rfl) (fun _ _ _ h => h) (by rfl) ?yy230 (by assumption) ?nn230
      case yy230 =>
        intro w hSw
        (try dsimp only at hSw)
        go_simp
        try with_reducible rfl
      try simp only [Act.put, List.setIfInBounds_toArray, List.set_cons_zero, List.set_cons_succ]
      refine held_take (v := ?vv231) 9 rfl (by kernel_rfl) (by kernel_rfl) (by kernel_rfl) (fun _ _ _ h => h) (by rfl) ?yy231 (by assumption) ?nn231
      case yy231 =>
        intro w hSw
        (try dsimp only at hSw)
        go_simp
        try with_reducible rfl
      try simp only [Act.put, List.setIfInBounds_toArray, List.set_cons_zero, List.set_cons_succ]
      refine held_take (v := ?vv232) 10 rfl (by kernel_rfl) (by kernel_rfl) (by kernel_rfl) (fun _ _ _ h => h) (by rfl) ?yy232 (by assumption) ?nn232
      case yy232 =>
        intro w hSw
        (try dsimp only at hSw)
        go_simp
        try with_reducible rfl
      try simp only [Act.put, List.setIfInBounds_toArray, List.set_cons_zero, List.set_cons_succ]
      refine held_take (v := .agg #[.bool h, .int .u64 (a : Int), .int .u64 (b : Int), .int .u64 (c : Int), .int .u64 (d : Int)]) 11 rfl (by kernel_rfl) (by kernel_rfl) (by kernel_rfl) (fun _ _ _ h => h) (by rfl) (fun wx hSw => by obtain ⟨c0, c1, c2, c3, c4, -, -, -, -, -⟩ := hSw.1; clear hSw; go_simp) (by assumption) ?_
      try simp only [Act.put, List.setIfInBounds_toArray, List.set_cons_zero, List.set_cons_succ]
      refine held_take (v := ?vv234) 12 rfl (by kernel_rfl) (by kernel_rfl) (by kernel_rfl) (fun _ _ _ h => h) (by rfl) ?yy234 (by assumption) ?nn234
      case yy234 =>
        intro w hSw
        (try dsimp only at hSw)
        go_simp
        try with_reducible rfl
      try simp only [Act.put, List.setIfInBounds_toArray, List.set_cons_zero, List.set_cons_succ]
      refine held_take (v := .agg #[.bool h, .int .u64 (a : Int), .int .u64 (b : Int), .int .u64 (c : Int), .int .u64 (d : Int)]) 14 rfl (by kernel_rfl) (by kernel_rfl) (by kernel_rfl) (fun _ _ _ h => h) (by rfl) (fun wx hSw => by obtain ⟨c0, c1, c2, c3, c4, -, -, -, -, -⟩ := hSw.1; clear hSw; go_simp) (by assumption) ?_
      try simp only [Act.put, List.setIfInBounds_toArray, List.set_cons_zero, List.set_cons_succ]
      refine held_take (v := ?vv236) 15 rfl (by kernel_rfl) (by kernel_rfl) (by kernel_rfl) (fun _ _ _ h => h) (by rfl) ?yy236 (by assumption) ?nn236
      case yy236 =>
        intro w hSw
        (try dsimp only at hSw)
        go_simp
        try with_reducible rfl
      try simp only [Act.put, List.setIfInBounds_toArray, List.set_cons_zero, List.set_cons_succ]
      refine held_do 13 rfl (by kernel_rfl) (by rfl) (fun K hK => ?_)
      go_wp2_with (go_at_call 11; refine (C3.out _).mono ?_; rintro e w5 ⟨rfl, hb5⟩; have K5 := Lib.hid (Below.trans hHeld.2 (hb5.mono hHeld.2.size)); clear hb5)
      refine hK.out _ _ ?_ (fun hHeld => ?_)
      · exact held_bx X2.out S2.out K5.out
      clear hK K
      try simp only [Act.put, List.setIfInBounds_toArray, List.set_cons_zero, List.set_cons_succ]
      refine held_do 16 rfl (by kernel_rfl) (by rfl) (fun K hK => ?_)
      go_wp2_with (go_at_call 11; refine (C4.out _).mono ?_; rintro e w6 ⟨rfl, hb6⟩; have K6 := Lib.hid (Below.trans hHeld.2 (hb6.mono hHeld.2.size)); clear hb6)
      refine hK.out _ _ ?_ (fun hHeld => ?_)
      · exact held_bx X2.out S2.out K6.out
      clear hK K
      try simp only [Act.put, List.setIfInBounds_toArray, List.set_cons_zero, List.set_cons_succ]
      refine held_take (v := ?vv239) 17 rfl (by kernel_rfl) (by kernel_rfl) (by kernel_rfl) (fun _ _ _ h => h) (by rfl) ?yy239 (by assumption) ?nn239
      case yy239 =>
        intro w hSw
        (try dsimp only at hSw)
        go_simp
        try with_reducible rfl
      try simp only [Act.put, List.setIfInBounds_toArray, List.set_cons_zero, List.set_cons_succ]
      refine held_take (v := ?vv240) 18 rfl (by kernel_rfl) (by kernel_rfl) (by kernel_rfl) (fun _ _ _ h => h) (by rfl) ?yy240 (by assumption) ?nn240
      case yy240 =>
        intro w hSw
        (try dsimp only at hSw)
        go_simp
        try with_reducible rfl
      try simp only [Act.put, List.setIfInBounds_toArray, List.set_cons_zero, List.set_cons_succ]
      refine held_take (v := ?vv241) 19 rfl (by kernel_rfl) (by kernel_rfl) (by kernel_rfl) (fun _ _ _ h => h) (by rfl) ?yy241 (by assumption) ?nn241
      case yy241 =>
        intro w hSw
        (try dsimp only at hSw)
        go_simp
        try with_reducible rfl
      try simp only [Act.put, List.setIfInBounds_toArray, List.set_cons_zero, List.set_cons_succ]
      refine wpAnyH_done (by kernel_rfl) ?_ _
      clear hHeld
      have BZ := Lib.hid (B2.out.trans (K6.out.mono B2.out.size))
      go_wp2_with fail
      go_ret
      exact ⟨rfl, BZ.out⟩
set_option maxRecDepth 100000 in
theorem lifted (os : Os) (started : os.Started) (H : Type) (enc : TypeId × Value → H) :
    ReturnsInHanded {} Try.checked os 6 .any (Rows.rttDoublesSpec.pre6 enc Try.prog Try.f6 Rows.rttDoublesRow.domain false) (Rows.rttDoublesSpec.post enc Try.prog Try.f6 false true false false) := by
  refine returnsInHanded_of_change (C := Try.checked) own started (by kernel_rfl) Try.func6
    (ChangeSpec.witness6 (enc := enc) (C := Try.checked) false ⟨#[], #[.agg #[.bool false, .int .u64 0, .int .u64 0, .int .u64 0, .int .u64 0], .int .u64 0, .int .i64 0], []⟩ 8 (by kernel_rfl) (by kernel_rfl) (by kernel_rfl) (by kernel_rfl)) ?_
  intro W base args ds gs before hval0 hW hcnd _
  have hval : ∀ (j : Nat) t v, Try.f6.params[j]? = some t → args[j]? = some v → Value.okWide Try.prog W .any base t v := hval0
  have hW' := hW
  obtain ⟨p, q, hA0, hV, rfl, hfz, hnd⟩ := hW
  have hA : DataW.TrodAll enc Try.prog W 0 (fun _ => true) true Try.f6.params.toList args.toList ds p := hA0
  obtain ⟨rfl, rfl⟩ := trodVars_none hV
  simp only [List.append_nil] at hW'
  have hlow : ∀ x ∈ p, x.block < W.heap.size := fun x hx => hW'.lt x hx
  have hA2 := hA
  rw [Try.params6] at hval hA2
  obtain ⟨v0, vs0, d0, ds0, p0, q0, hargs, rfl, rfl, h0, r0⟩ := trodAll_cons hA2
  obtain ⟨v1, vs1, d1, ds1, p1, q1, rfl, rfl, rfl, h1, r1⟩ := trodAll_cons r0
  obtain ⟨v2, vs2, d2, ds2, p2, q2, rfl, rfl, rfl, h2, r2⟩ := trodAll_cons r1
  obtain ⟨rfl, rfl, rfl⟩ := trodAll_nil r2
  obtain rfl : args = #[v0, v1, v2] := by cases args; simp_all
  obtain ⟨x0_0, x0_1, x0_2, x0_3, x0_4, rfl, b0_1, b0_2, b0_3, b0_4⟩ := open_rtt (hval 0 24 v0 rfl rfl) h0
  obtain ⟨n1, rfl, hn1⟩ := open_u64 Try.underlying22 (hval 1 22 v1 rfl rfl) h1
  obtain ⟨i2, rfl, hi2, hj2⟩ := open_i64 Try.underlying3 (hval 2 3 v2 rfl rfl) h2
  refine (walk x0_0 x0_1 x0_2 x0_3 x0_4 n1 i2 b0_1 b0_2 b0_3 b0_4 hn1 hi2 hj2 W).mono fun e W' ⟨he, hg⟩ => ?_
  subst he
  exact ⟨_, rfl, law_true laid_out (by kernel_rfl) rfl Try.underlying4 (by kernel_rfl) hW' hA rfl rfl rfl hg⟩

theorem over : Rows.rttDoublesRow.holds Try.pinned (OpenSpec.ofChange Rows.rttDoublesSpec) :=
  OpenClaim.holds_of_wide 6 Try.f6 rfl rfl rfl rfl rfl rfl rfl ⟨rfl, rfl, rfl, rfl, rfl⟩ rfl rfl rfl rfl rfl (by kernel_rfl) Try.func6 (by kernel_rfl)
    (of_decide_eq_true (by kernel_rfl)) (by unfold Func.isWrapper; first | (rw [if_pos (by decide +kernel)]; kernel_rfl) | (rw [if_neg (by decide +kernel)]; exact ⟨rfl, rfl⟩))
    (fun os started H enc _ => lifted os started H enc)

/-- The statement. -/
theorem proved : Rows.RttDoublesSaid := over
end Go.Proofs.Yteaodhgfmbcmfaa.rttDoubles
