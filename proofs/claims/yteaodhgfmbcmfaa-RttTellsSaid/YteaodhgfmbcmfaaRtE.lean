/-
  What the document's Timeout and Late return, for all numbers of 64 bits and all counts. No condition.
-/
import Derived.Test.YteaodhgfmbcmfaaRtC
import Derived.Deep.CutBlock
import Derived.Deep.DeepCutAuto
namespace Go.Proofs.Yteaodhgfmbcmfaa
open Go.ChangeShapes Go.WideShapes Go.ChangeAt Go.RowKit
set_option linter.unusedVariables false

/-- At a round's head of the document's Timeout: j doublings are done. -/
def DblRel (s n : Nat) (w : World) (v i : Value) (wr : World) : Prop := ∃ j : Nat, j ≤ n ∧ i = .int .i64 (j : Int) ∧ v = .int .u64 ((Wig.fmul s (2 ^ j) : Nat) : Int) ∧ wr = w

set_option maxHeartbeats 4000000 in
theorem rtimeout_any (h : Bool) (a b c d m r : Nat) (k : Int) (w : World) (hok : Wig.Rt.Ok ⟨h, a, b, c, d⟩) (hm : m < 18446744073709551616) (hk0 : -9223372036854775808 ≤ k) (hk1 : k ≤ 9223372036854775807)
    (hr : Wig.rwait ⟨h, a, b, c, d⟩ m k = r) :
    Calls Try.prog 12 #[.agg #[.bool h, .int .u64 (a : Int), .int .u64 (b : Int), .int .u64 (c : Int), .int .u64 (d : Int)], .int .u64 (m : Int), .int .i64 k] w fun e w' =>
      e = .returned (.int .u64 (r : Int)) ∧ Below w.heap.size w w' := by
  obtain ⟨w1, hw1⟩ : ∃ w1, w1 = w.alloc (.cells #[.bool h, .int .u64 (a : Int), .int .u64 (b : Int), .int .u64 (c : Int), .int .u64 (d : Int)] 24) := ⟨_, rfl⟩
  have hs1 : w1.heap.size = w.heap.size + 1 := by rw [hw1]; simp
  have HB1 := Lib.hid (show Below w.heap.size w w1 by rw [hw1]; exact (Below.refl _ _).alloc (Nat.le_refl _) _)
  have HX := Lib.hid (show Bx w.heap.size h a b c d w1 by rw [hw1]; exact Bx.new w h a b c d)
  have HS := Lib.hid hs1
  obtain ⟨⟨h', a', b', c', d'⟩, hkn⟩ : ∃ q, Wig.rknown ⟨h, a, b, c, d⟩ = q := ⟨_, rfl⟩
  have hok2 := Wig.rknown_ok hok
  rw [hkn] at hok2
  unfold Wig.rwait Wig.ronce at hr
  rw [hkn] at hr
  simp only at hr
  obtain ⟨o1, o2, o3, o4⟩ := hok2
  simp only at o1 o2 o3 o4
  obtain ⟨q, hq⟩ : ∃ q, q = Wig.fmul 4 d' := ⟨_, rfl⟩
  obtain ⟨z, hz⟩ : ∃ z, z = max q 1 := ⟨_, rfl⟩
  obtain ⟨s1, hs⟩ : ∃ s1, s1 = Wig.fadd c' z := ⟨_, rfl⟩
  obtain ⟨s2, hs2⟩ : ∃ s2, s2 = Wig.fadd s1 m := ⟨_, rfl⟩
  obtain ⟨n, hn⟩ : ∃ n, n = Wig.rcnt k := ⟨_, rfl⟩
  rw [← hq, ← hz, ← hs, ← hs2, ← hn] at hr
  have ql : q < 18446744073709551616 := by rw [hq]; exact Wig.fmul_le _ _
  have sl : s1 < 18446744073709551616 := by rw [hs]; exact Wig.fadd_le _ _
  have sl2 : s2 < 18446744073709551616 := by rw [hs2]; exact Wig.fadd_le _ _
  have nl : n ≤ 10 := by rw [hn]; exact Wig.rcnt_le _
  have C1 := Lib.hid (show ∀ w, Calls Try.prog 24 #[.int .u64 4, .int .u64 (d' : Int)] w fun e w' => e = .returned (.int .u64 ((Wig.fmul 4 d' : Nat) : Int)) ∧ w = w' from fun w => rmul_any 4 d' w (by omega) o4)
  have CG := Lib.hid (show ∀ w, Calls Try.prog 22 #[.int .u64 (q : Int), .int .u64 1] w fun e w' => e = .returned (.int .u64 (z : Int)) ∧ w = w' from fun w => rgreater_any q 1 z w hz.symm)
  have C2 := Lib.hid (fun w => radd_any c' z w o3 (by omega))
  have C3 := Lib.hid (fun w => radd_any s1 m w sl hm)
  have C4 := Lib.hid (show ∀ (j : Nat) (w : World), Calls Try.prog 24 #[.int .u64 ((Wig.fmul s2 (2 ^ j) : Nat) : Int), .int .u64 2] w fun e w' => e = .returned (.int .u64 ((Wig.fmul (Wig.fmul s2 (2 ^ j)) 2 : Nat) : Int)) ∧ w = w' from fun j w => rmul_any (Wig.fmul s2 (2 ^ j)) 2 w (Wig.fmul_le _ _) (by omega))
  rw [← hq] at C1
  rw [← hs] at C2
  rw [← hs2] at C3
  have ST := Lib.hid (fun w => (show DblRel s2 n w (.int .u64 (s2 : Int)) (.int .i64 0) w from ⟨0, Nat.zero_le _, rfl, by rw [Wig.fmul_one' sl2], rfl⟩))
  have HR := Lib.hid hr
  have KN := Lib.hid hn
  clear hs1 hok hm hr o1 o2 o3 o4 hs hs2 ql sl sl2 hq hz hn hk0 hk1
  cases h with
  | false =>
    unfold Wig.rknown Wig.rguess at hkn
    rw [if_neg (by simp)] at hkn
    injection hkn with r0 r1 r2 r3 r4
    obtain ⟨w3, hw3⟩ : ∃ w3, w3 = w.alloc (.cells #[.bool false, .int .u64 (a : Int), .int .u64 (b : Int), .int .u64 333, .int .u64 166] 24) := ⟨_, rfl⟩
    have HY := Lib.hid (show Bx w.heap.size false a b c' d' w3 by rw [hw3, ← r3, ← r4]; exact Bx.new w false a b 333 166)
    have B3 := Lib.hid (show Below w.heap.size w w3 by rw [hw3]; exact (Below.refl _ _).alloc (Nat.le_refl _) _)
    obtain ⟨k0, k1, k2, k3, k4, -, -, -, -, -⟩ := HY.out
    clear r0 r1 r2 r3 r4 HX HS HB1 hw1
    go_enter Try.func12, Try.ntmps12
    go_wp2_with fail
    rw [← hw3]
    clear hw3
    go_quiet (first | (go_at_call 24; with_reducible exact quiet_eq (C1.out _)) | (go_at_call 22; with_reducible exact quiet_eq (CG.out _)) | (go_at_call 21; with_reducible exact quiet_eq (C2.out _)) | (go_at_call 21; with_reducible exact quiet_eq (C3.out _)) | fail)
    obtain ⟨w4, hw4⟩ : ∃ w4, w4 = w3.drewN nq := ⟨_, rfl⟩
    have B4 := Lib.hid (show Below w.heap.size w w4 by rw [hw4]; exact below_drewN' B3.out nq)
    rw [← hw4]
    clear hw4 k0 k1 k2 k3 k4
    go_wp2_with fail
    go_loopw [7, 8] (fun v i wr => DblRel s2 n w4 v i wr) (fun _ i _ => n - (intOf i).toNat)
    case atStart => exact ST.out _
    case round =>
      obtain ⟨j, hj, rfl, rfl, rfl⟩ := hrel
      by_cases hlt : j < n
      · have t1 : decide ((j : Int) < k) = true := decide_eq_true (by have := KN.out; unfold Wig.rcnt at this; omega)
        have t2 : decide ((j : Int) < 10) = true := decide_eq_true (by omega)
        have t3 : decide (j < 10) = true := decide_eq_true (by omega)
        obtain ⟨v, hv⟩ : ∃ v, v = Wig.fmul s2 (2 ^ j) := ⟨_, rfl⟩
        obtain ⟨j1, hj1⟩ : ∃ j1, j1 = j + 1 := ⟨_, rfl⟩
        have e1 : IntKind.i64.wrap ((j : Int) + 1) = (j1 : Int) := by rw [IntKind.wrap_i64] <;> omega
        have CC := C4.out j
        rw [← hv, show Wig.fmul v 2 = Wig.fmul s2 (2 ^ j1) by rw [hv, hj1, Wig.fmul_twice]] at CC
        have CC4 := Lib.hid CC
        have HJ := Lib.hid (And.intro hj1 (And.intro hj (And.intro hlt nl)))
        rw [← hv]
        clear hv CC hj1 hj hlt
        go_wp2_with fail
        refine (CC4.out _).mono ?_
        rintro e _ ⟨rfl, rfl⟩
        go_wp2_with fail
        go_roundw
        case rel => exact ⟨j1, by have := HJ.out; omega, rfl, rfl, rfl⟩
        case measure => have := HJ.out; simp [intOf]; omega
      · obtain rfl : j = n := by omega
        have RR := Lib.hid (show Wig.fmul s2 (2 ^ j) = r from HR.out)
        obtain ⟨v, hv⟩ : ∃ v, v = Wig.fmul s2 (2 ^ j) := ⟨_, rfl⟩
        have HV := Lib.hid hv
        rw [← hv]
        clear hv hlt hj
        by_cases t1 : (j : Int) < k
        · have t2 : decide ((j : Int) < k) = true := decide_eq_true t1
          have t3 : decide ((j : Int) < 10) = false := decide_eq_false (by have := KN.out; unfold Wig.rcnt at this; omega)
          have t4 : decide (j < 10) = false := decide_eq_false (by have := KN.out; unfold Wig.rcnt at this; omega)
          clear t1
          go_wp2_with fail
          go_ret
          exact ⟨ret_u64 (by rw [HV.out, RR.out]), B4.out⟩
        · have t2 : decide ((j : Int) < k) = false := decide_eq_false t1
          clear t1
          go_wp2_with fail
          go_ret
          exact ⟨ret_u64 (by rw [HV.out, RR.out]), B4.out⟩
  | true =>
    unfold Wig.rknown at hkn
    rw [if_pos rfl] at hkn
    injection hkn with r0 r1 r2 r3 r4
    obtain ⟨w3, hw3⟩ : ∃ w3, w3 = w.alloc (.cells #[.bool true, .int .u64 (a : Int), .int .u64 (b : Int), .int .u64 (c : Int), .int .u64 (d : Int)] 24) := ⟨_, rfl⟩
    have HY := Lib.hid (show Bx w.heap.size true a b c' d' w3 by rw [hw3, ← r3, ← r4]; exact Bx.new w true a b c d)
    have B3 := Lib.hid (show Below w.heap.size w w3 by rw [hw3]; exact (Below.refl _ _).alloc (Nat.le_refl _) _)
    obtain ⟨k0, k1, k2, k3, k4, -, -, -, -, -⟩ := HY.out
    clear r0 r1 r2 r3 r4 HX HS HB1 hw1
    go_enter Try.func12, Try.ntmps12
    go_wp2_with fail
    rw [← hw3]
    clear hw3
    go_quiet (first | (go_at_call 24; with_reducible exact quiet_eq (C1.out _)) | (go_at_call 22; with_reducible exact quiet_eq (CG.out _)) | (go_at_call 21; with_reducible exact quiet_eq (C2.out _)) | (go_at_call 21; with_reducible exact quiet_eq (C3.out _)) | fail)
    obtain ⟨w4, hw4⟩ : ∃ w4, w4 = w3.drewN nq := ⟨_, rfl⟩
    have B4 := Lib.hid (show Below w.heap.size w w4 by rw [hw4]; exact below_drewN' B3.out nq)
    rw [← hw4]
    clear hw4 k0 k1 k2 k3 k4
    go_wp2_with fail
    go_loopw [7, 8] (fun v i wr => DblRel s2 n w4 v i wr) (fun _ i _ => n - (intOf i).toNat)
    case atStart => exact ST.out _
    case round =>
      obtain ⟨j, hj, rfl, rfl, rfl⟩ := hrel
      by_cases hlt : j < n
      · have t1 : decide ((j : Int) < k) = true := decide_eq_true (by have := KN.out; unfold Wig.rcnt at this; omega)
        have t2 : decide ((j : Int) < 10) = true := decide_eq_true (by omega)
        have t3 : decide (j < 10) = true := decide_eq_true (by omega)
        obtain ⟨v, hv⟩ : ∃ v, v = Wig.fmul s2 (2 ^ j) := ⟨_, rfl⟩
        obtain ⟨j1, hj1⟩ : ∃ j1, j1 = j + 1 := ⟨_, rfl⟩
        have e1 : IntKind.i64.wrap ((j : Int) + 1) = (j1 : Int) := by rw [IntKind.wrap_i64] <;> omega
        have CC := C4.out j
        rw [← hv, show Wig.fmul v 2 = Wig.fmul s2 (2 ^ j1) by rw [hv, hj1, Wig.fmul_twice]] at CC
        have CC4 := Lib.hid CC
        have HJ := Lib.hid (And.intro hj1 (And.intro hj (And.intro hlt nl)))
        rw [← hv]
        clear hv CC hj1 hj hlt
        go_wp2_with fail
        refine (CC4.out _).mono ?_
        rintro e _ ⟨rfl, rfl⟩
        go_wp2_with fail
        go_roundw
        case rel => exact ⟨j1, by have := HJ.out; omega, rfl, rfl, rfl⟩
        case measure => have := HJ.out; simp [intOf]; omega
      · obtain rfl : j = n := by omega
        have RR := Lib.hid (show Wig.fmul s2 (2 ^ j) = r from HR.out)
        obtain ⟨v, hv⟩ : ∃ v, v = Wig.fmul s2 (2 ^ j) := ⟨_, rfl⟩
        have HV := Lib.hid hv
        rw [← hv]
        clear hv hlt hj
        by_cases t1 : (j : Int) < k
        · have t2 : decide ((j : Int) < k) = true := decide_eq_true t1
          have t3 : decide ((j : Int) < 10) = false := decide_eq_false (by have := KN.out; unfold Wig.rcnt at this; omega)
          have t4 : decide (j < 10) = false := decide_eq_false (by have := KN.out; unfold Wig.rcnt at this; omega)
          clear t1
          go_wp2_with fail
          go_ret
          exact ⟨ret_u64 (by rw [HV.out, RR.out]), B4.out⟩
        · have t2 : decide ((j : Int) < k) = false := decide_eq_false t1
          clear t1
          go_wp2_with fail
          go_ret
          exact ⟨ret_u64 (by rw [HV.out, RR.out]), B4.out⟩

set_option maxHeartbeats 4000000 in
theorem rlate_any (h : Bool) (a b c d r : Nat) (w : World) (hok : Wig.Rt.Ok ⟨h, a, b, c, d⟩) (hr : Wig.rlate ⟨h, a, b, c, d⟩ = r) :
    Calls Try.prog 14 #[.agg #[.bool h, .int .u64 (a : Int), .int .u64 (b : Int), .int .u64 (c : Int), .int .u64 (d : Int)]] w fun e w' =>
      e = .returned (.int .u64 (r : Int)) ∧ Below w.heap.size w w' := by
  obtain ⟨w1, hw1⟩ : ∃ w1, w1 = w.alloc (.cells #[.bool h, .int .u64 (a : Int), .int .u64 (b : Int), .int .u64 (c : Int), .int .u64 (d : Int)] 24) := ⟨_, rfl⟩
  have B1 := Lib.hid (show Below w.heap.size w w1 by rw [hw1]; exact (Below.refl _ _).alloc (Nat.le_refl _) _)
  have HX := Lib.hid (show Bx w.heap.size h a b c d w1 by rw [hw1]; exact Bx.new w h a b c d)
  obtain ⟨o1, o2, o3, o4⟩ := hok
  simp only at o1 o2 o3 o4
  obtain ⟨x, hx⟩ : ∃ x, x = max c a := ⟨_, rfl⟩
  have CG := Lib.hid (fun w => rgreater_any c a x w hx.symm)
  obtain ⟨k0, k1, k2, k3, k4, -, -, -, -, -⟩ := HX.out
  cases h with
  | false =>
    obtain ⟨xq, hxq⟩ : ∃ xq, xq = 333 / 8 := ⟨_, rfl⟩
    obtain ⟨y, hy⟩ : ∃ y, y = Wig.fadd 333 xq := ⟨_, rfl⟩
    have hr2 : max y 1 = r := by
      rw [← hr, hy, hxq]
      rfl
    obtain rfl : xq = 41 := by omega
    have C2 := Lib.hid (show ∀ w, Calls Try.prog 21 #[.int .u64 333, .int .u64 41] w fun e w' => e = .returned (.int .u64 ((Wig.fadd 333 41 : Nat) : Int)) ∧ w = w' from fun w => radd_any 333 41 w (by omega) (by omega))
    rw [← hy] at C2
    have C3 := Lib.hid (show ∀ w, Calls Try.prog 22 #[.int .u64 (y : Int), .int .u64 1] w fun e w' => e = .returned (.int .u64 (r : Int)) ∧ w = w' from fun w => rgreater_any y 1 r w hr2)
    clear hr hr2 hx hxq hy o1 o2 o3 o4
    go_enter Try.func14, Try.ntmps14
    go_wp2_with fail
    rw [← hw1]
    clear hw1
    go_wp2_with fail
    refine (CG.out _).mono ?_
    rintro e _ ⟨rfl, rfl⟩
    go_wp2_with fail
    refine (C2.out _).mono ?_
    rintro e _ ⟨rfl, rfl⟩
    go_wp2_with fail
    refine (C3.out _).mono ?_
    rintro e _ ⟨rfl, rfl⟩
    go_wp2_with fail
    go_ret
    exact ⟨rfl, B1.out⟩
  | true =>
    obtain ⟨xq, hxq⟩ : ∃ xq, xq = x / 8 := ⟨_, rfl⟩
    obtain ⟨y, hy⟩ : ∃ y, y = Wig.fadd x xq := ⟨_, rfl⟩
    have hr2 : max y 1 = r := by
      rw [← hr, hy, hxq]
      unfold Wig.rlate Wig.rknown
      rw [if_pos rfl, hx]
    have e1 : (x : Int) / 8 = (xq : Int) := by omega
    have e2 : IntKind.u64.wrap (xq : Int) = (xq : Int) := by rw [IntKind.wrap_u64]; omega
    have C2 := Lib.hid (fun w => radd_any x xq w (by omega) (by omega))
    rw [← hy] at C2
    have C3 := Lib.hid (show ∀ w, Calls Try.prog 22 #[.int .u64 (y : Int), .int .u64 1] w fun e w' => e = .returned (.int .u64 (r : Int)) ∧ w = w' from fun w => rgreater_any y 1 r w hr2)
    clear hr hr2 hx hxq hy o1 o2 o3 o4
    go_enter Try.func14, Try.ntmps14
    go_wp2_with fail
    rw [← hw1]
    clear hw1
    go_wp2_with fail
    refine (CG.out _).mono ?_
    rintro e _ ⟨rfl, rfl⟩
    go_wp2_with fail
    refine (C2.out _).mono ?_
    rintro e _ ⟨rfl, rfl⟩
    go_wp2_with fail
    refine (C3.out _).mono ?_
    rintro e _ ⟨rfl, rfl⟩
    go_wp2_with fail
    go_ret
    exact ⟨rfl, B1.out⟩
end Go.Proofs.Yteaodhgfmbcmfaa
