/-
  What package rtt's Timeout and Late return, for all numbers of 64 bits and all counts. No condition.
-/
import Derived.Test.YteaodhgfmbcmfaaRtB
import Derived.Deep.CutBlock
import Derived.Deep.DeepCutAuto
namespace Go.Proofs.Yteaodhgfmbcmfaa
open Go.ChangeShapes Go.WideShapes Go.ChangeAt Go.RowKit
set_option linter.unusedVariables false

set_option maxHeartbeats 4000000 in
theorem timeout_any (h : Bool) (a b c d m r : Nat) (k : Int) (w : World) (hok : Wig.Rt.Ok ⟨h, a, b, c, d⟩) (hm : m < 18446744073709551616) (hk0 : -9223372036854775808 ≤ k) (hk1 : k ≤ 9223372036854775807)
    (hr : Wig.rwait ⟨h, a, b, c, d⟩ m k = r) :
    Calls Try.prog 11 #[.agg #[.bool h, .int .u64 (a : Int), .int .u64 (b : Int), .int .u64 (c : Int), .int .u64 (d : Int)], .int .u64 (m : Int), .int .i64 k] w fun e w' =>
      e = .returned (.int .u64 (r : Int)) ∧ Below w.heap.size w w' := by
  obtain ⟨w1, hw1⟩ : ∃ w1, w1 = w.alloc (.cells #[.bool h, .int .u64 (a : Int), .int .u64 (b : Int), .int .u64 (c : Int), .int .u64 (d : Int)] 24) := ⟨_, rfl⟩
  have hs1 : w1.heap.size = w.heap.size + 1 := by rw [hw1]; simp
  have HB1 := Lib.hid (show Below w.heap.size w w1 by rw [hw1]; exact (Below.refl _ _).alloc (Nat.le_refl _) _)
  have HX := Lib.hid (show Bx w.heap.size h a b c d w1 by rw [hw1]; exact Bx.new w h a b c d)
  have HS := Lib.hid hs1
  obtain ⟨⟨h', a', b', c', d'⟩, hkn⟩ : ∃ q, Wig.rknown ⟨h, a, b, c, d⟩ = q := ⟨_, rfl⟩
  have hok2 := Wig.rknown_ok hok
  rw [hkn] at hok2
  obtain rfl : h' = h := by
    unfold Wig.rknown Wig.rguess at hkn
    cases h <;> simp at hkn <;> simp [hkn]
  have CK := Lib.hid (fun w => known_any h' a b c d a' b' c' d' w hkn)
  unfold Wig.rwait Wig.ronce at hr
  rw [hkn] at hr
  simp only at hr
  obtain ⟨o1, o2, o3, o4⟩ := hok2
  simp only at o1 o2 o3 o4
  obtain ⟨q, hq⟩ : ∃ q, q = Wig.fmul 4 d' := ⟨_, rfl⟩
  obtain ⟨z, hz⟩ : ∃ z, z = max q 1 := ⟨_, rfl⟩
  obtain ⟨s1, hs⟩ : ∃ s1, s1 = Wig.fadd c' z := ⟨_, rfl⟩
  obtain ⟨s2, hs2⟩ : ∃ s2, s2 = Wig.fadd s1 m := ⟨_, rfl⟩
  obtain ⟨n, hn⟩ : ∃ n, n = Wig.rcnt k := ⟨_, rfl⟩
  obtain ⟨pw, hpw⟩ : ∃ pw, pw = 2 ^ n := ⟨_, rfl⟩
  rw [← hq, ← hz, ← hs, ← hs2, ← hn, ← hpw] at hr
  have ql : q < 18446744073709551616 := by rw [hq]; exact Wig.fmul_le _ _
  have sl : s1 < 18446744073709551616 := by rw [hs]; exact Wig.fadd_le _ _
  have sl2 : s2 < 18446744073709551616 := by rw [hs2]; exact Wig.fadd_le _ _
  have nl : n ≤ 10 := by rw [hn]; exact Wig.rcnt_le _
  have pl : pw ≤ 1024 := by rw [hpw]; exact Nat.pow_le_pow_right (n := 2) (by omega) nl
  have C1 := Lib.hid (fun w => mul_any 4 d' w (by omega) o4)
  have C2 := Lib.hid (fun w => add_any c' z w o3 (by omega))
  have C3 := Lib.hid (fun w => add_any s1 m w sl hm)
  have C4 := Lib.hid (fun w => mul_any s2 pw w sl2 (by omega))
  rw [← hq] at C1
  rw [← hs] at C2
  rw [← hs2] at C3
  rw [hr] at C4
  clear hs1 hok hm hkn hr o1 o2 o3 o4 hs hs2 ql sl sl2 hq
  obtain ⟨k0, k1, k2, k3, k4, l0, l1, l2, l3, l4⟩ := HX.out
  go_enter Try.func11, Try.ntmps11
  go_wp2_with fail
  rw [← hw1]
  clear hw1
  go_wp2_with fail
  refine (CK.out _).mono ?_
  rintro e w2 ⟨rfl, hb⟩
  have B2 := Lib.hid (HB1.out.trans (hb.mono (by have := HS.out; omega)))
  have Y2 := Lib.hid (HX.out.below hb (by have := HS.out; omega))
  clear hb k0 k1 k2 k3 k4 l0 l1 l2 l3 l4 HX HB1 HS
  obtain ⟨k0, k1, k2, k3, k4, l0, l1, l2, l3, l4⟩ := Y2.out
  go_upto_region 2 with fail
  obtain ⟨w3, hw3⟩ : ∃ w3, w3 = put w.heap.size h' a' b' c' d' w2 := ⟨_, rfl⟩
  have Y3 := Lib.hid (show Bx w.heap.size h' a' b' c' d' w3 by rw [hw3]; exact Y2.out.put)
  have B3 := Lib.hid (show Below w.heap.size w w3 by rw [hw3]; exact B2.out.trans (put_below (Nat.le_refl _)))
  unfold put at hw3
  rw [← hw3]
  clear hw3 k0 k1 k2 k3 k4 l0 l1 l2 l3 l4
  go_cut [7] (fun s7 wx => w3 = wx ∧ s7 = .int .u64 (z : Int))
  case first =>
    have T := Lib.hid (And.intro hz (And.intro hn (And.intro nl (And.intro pl (And.intro hk0 (And.intro hk1 hpw))))))
    clear hz hn nl pl hk0 hk1 hpw
    obtain ⟨k0, k1, k2, k3, k4, -, -, -, -, -⟩ := Y3.out
    go_wp2_with fail
    refine (C1.out _).mono ?_
    rintro e _ ⟨rfl, rfl⟩
    go_wp2_with fail
    all_goals go_meet
    all_goals exact ⟨rfl, by have := T.out.1; congr 1; omega⟩
  case rest =>
  obtain ⟨rfl, rfl⟩ := hcut
  obtain ⟨k0, k1, k2, k3, k4, -, -, -, -, -⟩ := Y3.out
  have T := Lib.hid (And.intro hz (And.intro hn (And.intro nl (And.intro pl (And.intro hk0 (And.intro hk1 hpw))))))
  clear hz hn nl pl hk0 hk1 hpw
  go_wp2_with fail
  refine (C2.out _).mono ?_
  rintro e _ ⟨rfl, rfl⟩
  go_wp2_with fail
  refine (C3.out _).mono ?_
  rintro e _ ⟨rfl, rfl⟩
  go_upto_region 4 with fail
  go_cut [9] (fun s9 wx => w3 = wx ∧ s9 = .int .i64 (n : Int))
  case first =>
    go_wp2_with fail
    all_goals go_meet
    all_goals exact ⟨rfl, by have := T.out; unfold Wig.rcnt at this; congr 1; omega⟩
  case rest =>
  obtain ⟨rfl, rfl⟩ := hcut
  have ES : IntKind.u64.wrap ((2 : Int) ^ min n 64) = (pw : Int) := by
    have := T.out
    rw [show min n 64 = n by omega, show ((2 : Int) ^ n) = ((2 ^ n : Nat) : Int) by rw [Int.natCast_pow]; rfl, ← this.2.2.2.2.2.2]
    exact wrap_id (by omega) (by omega)
  have HE := Lib.hid ES
  clear ES
  go_wp2_with fail
  rw [HE.out]
  refine (C4.out _).mono ?_
  rintro e _ ⟨rfl, rfl⟩
  go_wp2_with fail
  go_ret
  exact ⟨rfl, B3.out⟩

set_option maxHeartbeats 4000000 in
theorem late_any (h : Bool) (a b c d r : Nat) (w : World) (hok : Wig.Rt.Ok ⟨h, a, b, c, d⟩) (hr : Wig.rlate ⟨h, a, b, c, d⟩ = r) :
    Calls Try.prog 13 #[.agg #[.bool h, .int .u64 (a : Int), .int .u64 (b : Int), .int .u64 (c : Int), .int .u64 (d : Int)]] w fun e w' =>
      e = .returned (.int .u64 (r : Int)) ∧ Below w.heap.size w w' := by
  obtain ⟨w1, hw1⟩ : ∃ w1, w1 = w.alloc (.cells #[.bool h, .int .u64 (a : Int), .int .u64 (b : Int), .int .u64 (c : Int), .int .u64 (d : Int)] 24) := ⟨_, rfl⟩
  have hs1 : w1.heap.size = w.heap.size + 1 := by rw [hw1]; simp
  have HB1 := Lib.hid (show Below w.heap.size w w1 by rw [hw1]; exact (Below.refl _ _).alloc (Nat.le_refl _) _)
  have HX := Lib.hid (show Bx w.heap.size h a b c d w1 by rw [hw1]; exact Bx.new w h a b c d)
  have HS := Lib.hid hs1
  obtain ⟨⟨h', a', b', c', d'⟩, hkn⟩ : ∃ q, Wig.rknown ⟨h, a, b, c, d⟩ = q := ⟨_, rfl⟩
  have hok2 := Wig.rknown_ok hok
  rw [hkn] at hok2
  obtain rfl : h' = h := by
    unfold Wig.rknown Wig.rguess at hkn
    cases h <;> simp at hkn <;> simp [hkn]
  have CK := Lib.hid (fun w => known_any h' a b c d a' b' c' d' w hkn)
  unfold Wig.rlate at hr
  rw [hkn] at hr
  simp only at hr
  obtain ⟨o1, o2, o3, o4⟩ := hok2
  simp only at o1 o2 o3 o4
  obtain ⟨x, hx⟩ : ∃ x, x = max c' a' := ⟨_, rfl⟩
  obtain ⟨xq, hxq⟩ : ∃ xq, xq = x / 8 := ⟨_, rfl⟩
  obtain ⟨y, hy⟩ : ∃ y, y = Wig.fadd x xq := ⟨_, rfl⟩
  rw [← hx, ← hxq, ← hy] at hr
  have m1 : (if c' < a' then (a' : Int) else (c' : Int)) = (x : Int) := by split <;> omega
  have e1 : (x : Int) / 8 = (xq : Int) := by omega
  have e2 : IntKind.u64.wrap (xq : Int) = (xq : Int) := by rw [IntKind.wrap_u64]; omega
  have C2 := Lib.hid (fun w => add_any x xq w (by omega) (by omega))
  rw [← hy] at C2
  have HR := Lib.hid hr
  clear hs1 hok hkn hr o1 o2 o3 o4 hx hxq hy
  obtain ⟨k0, k1, k2, k3, k4, l0, l1, l2, l3, l4⟩ := HX.out
  go_enter Try.func13, Try.ntmps13
  go_wp2_with fail
  rw [← hw1]
  clear hw1
  go_wp2_with fail
  refine (CK.out _).mono ?_
  rintro e w2 ⟨rfl, hb⟩
  have B2 := Lib.hid (HB1.out.trans (hb.mono (by have := HS.out; omega)))
  have Y2 := Lib.hid (HX.out.below hb (by have := HS.out; omega))
  clear hb k0 k1 k2 k3 k4 l0 l1 l2 l3 l4 HX HB1 HS
  obtain ⟨k0, k1, k2, k3, k4, l0, l1, l2, l3, l4⟩ := Y2.out
  go_upto_region 2 with fail
  obtain ⟨w3, hw3⟩ : ∃ w3, w3 = put w.heap.size h' a' b' c' d' w2 := ⟨_, rfl⟩
  have Y3 := Lib.hid (show Bx w.heap.size h' a' b' c' d' w3 by rw [hw3]; exact Y2.out.put)
  have B3 := Lib.hid (show Below w.heap.size w w3 by rw [hw3]; exact B2.out.trans (put_below (Nat.le_refl _)))
  unfold put at hw3
  rw [← hw3]
  clear hw3 k0 k1 k2 k3 k4 l0 l1 l2 l3 l4
  obtain ⟨k0, k1, k2, k3, k4, -, -, -, -, -⟩ := Y3.out
  go_wp2_with fail
  refine (C2.out _).mono ?_
  rintro e _ ⟨rfl, rfl⟩
  go_wp2_with fail
  all_goals
    go_ret
    exact ⟨ret_u64 (by have := HR.out; omega), B3.out⟩
end Go.Proofs.Yteaodhgfmbcmfaa
