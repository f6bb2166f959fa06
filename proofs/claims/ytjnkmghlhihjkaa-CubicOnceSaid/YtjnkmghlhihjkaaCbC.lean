/-
  What package cubic's Loss and Ack return, for all numbers of 64 bits. No condition.
-/
import Derived.Test.YtjnkmghlhihjkaaCbB
import Derived.Deep.CutBlock
import Derived.Deep.DeepCutAuto
namespace Go.Proofs.Ytjnkmghlhihjkaa
open Go.ChangeShapes Go.WideShapes Go.ChangeAt Go.RowKit
set_option linter.unusedVariables false

set_option maxHeartbeats 16000000 in
theorem loss_any (c t s : Nat) (h : Bool) (e m k es a n c' t' s' : Nat) (h' : Bool) (e' m' k' es' : Nat) (w : World) (hok : Wig.Cb.Ok ⟨c, t, s, h, e, m, k, es⟩) (ha : a < 18446744073709551616) (hn : n < 18446744073709551616) (he : Wig.closs ⟨c, t, s, h, e, m, k, es⟩ a n = ⟨c', t', s', h', e', m', k', es'⟩) :
    Calls Try.prog 11 #[aggCu c t s h e m k es, .int .u64 (a : Int), .int .u64 (n : Int)] w fun e w' => e = .returned (aggCu c' t' s' h' e' m' k' es') ∧ Below w.heap.size w w' := by
  obtain ⟨hc, ht, hs, hep, hm, hk, hes⟩ := hok
  simp only at hc ht hs hep hm hk hes
  obtain ⟨w1, hw1⟩ : ∃ wx, wx = w.alloc (.cells #[.int .u64 (c : Int), .int .u64 (t : Int), .int .u64 (s : Int), .bool h, .int .u64 (e : Int), .int .u64 (m : Int), .int .u64 (k : Int), .int .u64 (es : Int)] 24) := ⟨_, rfl⟩
  have z1 : w1.heap.size = w.heap.size + 1 := by rw [hw1]; simp
  obtain ⟨w2, hw2⟩ : ∃ wx, wx = w1.alloc (.cells #[.int .u64 0, .int .u64 0, .int .u64 0, .bool false, .int .u64 0, .int .u64 0, .int .u64 0, .int .u64 0] 24) := ⟨_, rfl⟩
  have z2 : w2.heap.size = w.heap.size + 2 := by rw [hw2]; simp; omega
  have t2 : Below w2.heap.size w2 w2 := Below.refl _ _
  have t1 : Below w1.heap.size w1 w2 := (show Below w1.heap.size w1 w2 by rw [hw2]; exact (Below.refl _ _).alloc (Nat.le_refl _) _).trans (t2.mono (by omega))
  have t0 : Below w.heap.size w w2 := (show Below w.heap.size w w1 by rw [hw1]; exact (Below.refl _ _).alloc (Nat.le_refl _) _).trans (t1.mono (by omega))
  have BN := Lib.hid t0
  have ZN := Lib.hid z2
  have XC := Lib.hid (show BxCu w.heap.size c t s h e m k es w2 from (show BxCu w.heap.size c t s h e m k es w1 by rw [hw1]; exact BxCu.new _ c t s h e m k es).below t1 (by omega))
  have XZ := Lib.hid (show BxCu (w.heap.size + 1) 0 0 0 false 0 0 0 0 w2 from (show BxCu (w.heap.size + 1) 0 0 0 false 0 0 0 0 w2 by rw [hw2, ← z1]; exact BxCu.new _ 0 0 0 false 0 0 0 0).below t2 (by omega))
  clear t0 t1 t2 z1 z2
  have B2 := BN
  have XC2 := XC
  have SC2 := Lib.hid (show w.heap.size < w2.heap.size by have := ZN.out; omega)
  have GC := Lib.hid (show w.heap.size ≤ w.heap.size by omega)
  have XZ2 := XZ
  have SZ2 := Lib.hid (show (w.heap.size + 1) < w2.heap.size by have := ZN.out; omega)
  have GZ := Lib.hid (show w.heap.size ≤ (w.heap.size + 1) by omega)
  have OCZ := Lib.hid (show w.heap.size < (w.heap.size + 1) by omega)
  clear ZN BN XC XZ
  have CE := Lib.hid (fun w => elder_any c t s h e m k es a _ w hs ha rfl)
  by_cases g : a < s
  · rw [Wig.closs_none g] at he
    injection he with r1 r2 r3 r4 r5 r6 r7 r8
    subst r1 r2 r3 r4 r5 r6 r7 r8
    rw [decide_eq_true g] at CE
    clear hc ht hs hep hm hk hes ha hn g
    go_enter Try.func11, Try.ntmps11
    go_upto_region 1 with fail
    rw [← hw1, ← hw2]
    clear hw1 hw2
    obtain ⟨k0, k1, k2, k3, k4, k5, k6, k7, -, -, -, -, -, -, -, -⟩ := XC2.out
    go_wp2_with fail
    refine (CE.out _).mono ?_
    rintro e w3 ⟨rfl, hb⟩
    have B3 := Lib.hid (below_trans' B2.out hb)
    have XC3 := Lib.hid (XC2.out.below hb SC2.out)
    have SC3 := Lib.hid (Nat.lt_of_lt_of_le SC2.out hb.size)
    have XZ3 := Lib.hid (XZ2.out.below hb SZ2.out)
    have SZ3 := Lib.hid (Nat.lt_of_lt_of_le SZ2.out hb.size)
    clear k0 k1 k2 k3 k4 k5 k6 k7
    clear hb B2 XC2 SC2 XZ2 SZ2
    obtain ⟨k0, k1, k2, k3, k4, k5, k6, k7, -, -, -, -, -, -, -, -⟩ := XC3.out
    obtain ⟨z0, z1, z2, z3, z4, z5, z6, z7, zf0, zf1, zf2, zf3, zf4, zf5, zf6, zf7⟩ := XZ3.out
    go_wp2_with fail
    show bodyPost _ _ _ _ _ (putCu (w.heap.size + 1) c t s h e m k es w3)
    have BZ : Below w.heap.size w (putCu (w.heap.size + 1) c t s h e m k es w3) := B3.out.trans (putCu_below GZ.out)
    obtain ⟨z0, z1, z2, z3, z4, z5, z6, z7, -, -, -, -, -, -, -, -⟩ := (show BxCu (w.heap.size + 1) c t s h e m k es (putCu (w.heap.size + 1) c t s h e m k es w3) from XZ3.out.put)
    exact bodyPost_ret (v := aggCu c t s h e m k es) (by simp [results, Try.results11, z0, z1, z2, z3, z4, z5, z6, z7, go_sem]) rfl ⟨rfl, BZ⟩
  · rw [Wig.closs_some g] at he
    injection he with r1 r2 r3 r4 r5 r6 r7 r8
    simp only [Wig.cless] at r1 r2
    rw [r1] at r2
    subst r2 r4 r5 r7 r8
    rw [decide_eq_false g] at CE
    obtain ⟨x, hx⟩ : ∃ x, x = Wig.fmuldiv c 7 10 := ⟨_, rfl⟩
    rw [← hx] at r1
    have CX := Lib.hid (fun w => (show Calls Try.prog 23 #[.int .u64 (c : Int), .int .u64 7, .int .u64 10] w fun e w' => e = .returned (.int .u64 (x : Int)) ∧ Below w.heap.size w w' by rw [hx]; exact drew_below (muldiv_any c 7 10 w hc (by omega) (by omega))))
    have CH := Lib.hid (fun w => held_any x c' w r1)
    have CA := Lib.hid (fun w => (show Calls Try.prog 21 #[.int .u64 (n : Int), .int .u64 1] w fun e w' => e = .returned (.int .u64 (s' : Int)) ∧ w = w' by rw [← r3]; exact add_any n 1 w hn (by omega)))
    unfold Wig.cmost at r6
    simp only at r6
    by_cases g2 : c < m
    · rw [if_pos g2] at r6
      have t1 : decide (c < m) = true := decide_eq_true g2
      have CM := Lib.hid (fun w => (show Calls Try.prog 23 #[.int .u64 (c : Int), .int .u64 17, .int .u64 20] w fun e w' => e = .returned (.int .u64 (m' : Int)) ∧ Below w.heap.size w w' by rw [← r6]; exact drew_below (muldiv_any c 17 20 w hc (by omega) (by omega))))
      clear hc ht hs hep hm hk hes ha hn g g2 r1 r3 hx r6
      go_enter Try.func11, Try.ntmps11
      go_upto_region 1 with fail
      rw [← hw1, ← hw2]
      clear hw1 hw2
      obtain ⟨k0, k1, k2, k3, k4, k5, k6, k7, -, -, -, -, -, -, -, -⟩ := XC2.out
      go_wp2_with fail
      refine (CE.out _).mono ?_
      rintro e w3 ⟨rfl, hb⟩
      have B3 := Lib.hid (below_trans' B2.out hb)
      have XC3 := Lib.hid (XC2.out.below hb SC2.out)
      have SC3 := Lib.hid (Nat.lt_of_lt_of_le SC2.out hb.size)
      have XZ3 := Lib.hid (XZ2.out.below hb SZ2.out)
      have SZ3 := Lib.hid (Nat.lt_of_lt_of_le SZ2.out hb.size)
      clear k0 k1 k2 k3 k4 k5 k6 k7
      clear hb B2 XC2 SC2 XZ2 SZ2
      obtain ⟨k0, k1, k2, k3, k4, k5, k6, k7, -, -, -, -, -, -, -, -⟩ := XC3.out
      go_wp2_with fail
      refine (CM.out _).mono ?_
      rintro e w4 ⟨rfl, hb⟩
      have B4 := Lib.hid (below_trans' B3.out hb)
      have XC4 := Lib.hid (XC3.out.below hb SC3.out)
      have SC4 := Lib.hid (Nat.lt_of_lt_of_le SC3.out hb.size)
      have XZ4 := Lib.hid (XZ3.out.below hb SZ3.out)
      have SZ4 := Lib.hid (Nat.lt_of_lt_of_le SZ3.out hb.size)
      clear k0 k1 k2 k3 k4 k5 k6 k7
      clear hb B3 XC3 SC3 XZ3 SZ3
      obtain ⟨k0, k1, k2, k3, k4, k5, k6, k7, -, -, -, -, -, -, -, -⟩ := XC4.out
      go_wp2_with fail
      refine (CX.out _).mono ?_
      rintro e w5 ⟨rfl, hb⟩
      have B5 := Lib.hid (below_trans' B4.out hb)
      have XC5 := Lib.hid (XC4.out.below hb SC4.out)
      have SC5 := Lib.hid (Nat.lt_of_lt_of_le SC4.out hb.size)
      have XZ5 := Lib.hid (XZ4.out.below hb SZ4.out)
      have SZ5 := Lib.hid (Nat.lt_of_lt_of_le SZ4.out hb.size)
      clear k0 k1 k2 k3 k4 k5 k6 k7
      clear hb B4 XC4 SC4 XZ4 SZ4
      obtain ⟨k0, k1, k2, k3, k4, k5, k6, k7, -, -, -, -, -, -, -, -⟩ := XC5.out
      go_wp2_with fail
      refine (CH.out _).mono ?_
      rintro e _ ⟨rfl, rfl⟩
      go_wp2_with fail
      refine (CA.out _).mono ?_
      rintro e _ ⟨rfl, rfl⟩
      obtain ⟨z0, z1, z2, z3, z4, z5, z6, z7, zf0, zf1, zf2, zf3, zf4, zf5, zf6, zf7⟩ := XZ5.out
      go_wp2_with fail
      show bodyPost _ _ _ _ _ (putCu (w.heap.size + 1) c' c' s' false 0 m' 0 0 w5)
      have BZ : Below w.heap.size w (putCu (w.heap.size + 1) c' c' s' false 0 m' 0 0 w5) := B5.out.trans (putCu_below GZ.out)
      obtain ⟨z0, z1, z2, z3, z4, z5, z6, z7, -, -, -, -, -, -, -, -⟩ := (show BxCu (w.heap.size + 1) c' c' s' false 0 m' 0 0 (putCu (w.heap.size + 1) c' c' s' false 0 m' 0 0 w5) from XZ5.out.put)
      exact bodyPost_ret (v := aggCu c' c' s' false 0 m' 0 0) (by simp [results, Try.results11, z0, z1, z2, z3, z4, z5, z6, z7, go_sem]) rfl ⟨rfl, BZ⟩
    · rw [if_neg g2] at r6
      have t1 : decide (c < m) = false := decide_eq_false g2
      subst r6
      clear hc ht hs hep hm hk hes ha hn g g2 r1 r3 hx
      go_enter Try.func11, Try.ntmps11
      go_upto_region 1 with fail
      rw [← hw1, ← hw2]
      clear hw1 hw2
      obtain ⟨k0, k1, k2, k3, k4, k5, k6, k7, -, -, -, -, -, -, -, -⟩ := XC2.out
      go_wp2_with fail
      refine (CE.out _).mono ?_
      rintro e w3 ⟨rfl, hb⟩
      have B3 := Lib.hid (below_trans' B2.out hb)
      have XC3 := Lib.hid (XC2.out.below hb SC2.out)
      have SC3 := Lib.hid (Nat.lt_of_lt_of_le SC2.out hb.size)
      have XZ3 := Lib.hid (XZ2.out.below hb SZ2.out)
      have SZ3 := Lib.hid (Nat.lt_of_lt_of_le SZ2.out hb.size)
      clear k0 k1 k2 k3 k4 k5 k6 k7
      clear hb B2 XC2 SC2 XZ2 SZ2
      obtain ⟨k0, k1, k2, k3, k4, k5, k6, k7, -, -, -, -, -, -, -, -⟩ := XC3.out
      go_wp2_with fail
      refine (CX.out _).mono ?_
      rintro e w4 ⟨rfl, hb⟩
      have B4 := Lib.hid (below_trans' B3.out hb)
      have XC4 := Lib.hid (XC3.out.below hb SC3.out)
      have SC4 := Lib.hid (Nat.lt_of_lt_of_le SC3.out hb.size)
      have XZ4 := Lib.hid (XZ3.out.below hb SZ3.out)
      have SZ4 := Lib.hid (Nat.lt_of_lt_of_le SZ3.out hb.size)
      clear k0 k1 k2 k3 k4 k5 k6 k7
      clear hb B3 XC3 SC3 XZ3 SZ3
      obtain ⟨k0, k1, k2, k3, k4, k5, k6, k7, -, -, -, -, -, -, -, -⟩ := XC4.out
      go_wp2_with fail
      refine (CH.out _).mono ?_
      rintro e _ ⟨rfl, rfl⟩
      go_wp2_with fail
      refine (CA.out _).mono ?_
      rintro e _ ⟨rfl, rfl⟩
      obtain ⟨z0, z1, z2, z3, z4, z5, z6, z7, zf0, zf1, zf2, zf3, zf4, zf5, zf6, zf7⟩ := XZ4.out
      go_wp2_with fail
      show bodyPost _ _ _ _ _ (putCu (w.heap.size + 1) c' c' s' false 0 c 0 0 w4)
      have BZ : Below w.heap.size w (putCu (w.heap.size + 1) c' c' s' false 0 c 0 0 w4) := B4.out.trans (putCu_below GZ.out)
      obtain ⟨z0, z1, z2, z3, z4, z5, z6, z7, -, -, -, -, -, -, -, -⟩ := (show BxCu (w.heap.size + 1) c' c' s' false 0 c 0 0 (putCu (w.heap.size + 1) c' c' s' false 0 c 0 0 w4) from XZ4.out.put)
      exact bodyPost_ret (v := aggCu c' c' s' false 0 c 0 0) (by simp [results, Try.results11, z0, z1, z2, z3, z4, z5, z6, z7, go_sem]) rfl ⟨rfl, BZ⟩

set_option maxHeartbeats 16000000 in
theorem ack_any (c t s : Nat) (h : Bool) (e m k es b a n tk c' t' s' : Nat) (h' l : Bool) (e' m' k' es' : Nat) (w : World) (hok : Wig.Cb.Ok ⟨c, t, s, h, e, m, k, es⟩) (hb : b < 18446744073709551616) (ha : a < 18446744073709551616) (hn : n < 18446744073709551616) (htk : tk < 18446744073709551616) (he : Wig.cack ⟨c, t, s, h, e, m, k, es⟩ b a n tk l = ⟨c', t', s', h', e', m', k', es'⟩) :
    Calls Try.prog 9 #[aggCu c t s h e m k es, .int .u64 (b : Int), .int .u64 (a : Int), .int .u64 (n : Int), .int .u64 (tk : Int), .bool l] w fun e w' => e = .returned (aggCu c' t' s' h' e' m' k' es') ∧ Below w.heap.size w w' := by
  have hok0 := hok
  obtain ⟨hc, ht, hs, hep, hm, hk, hes⟩ := hok
  simp only at hc ht hs hep hm hk hes
  obtain ⟨w1, hw1⟩ : ∃ wx, wx = w.alloc (.cells #[.int .u64 (c : Int), .int .u64 (t : Int), .int .u64 (s : Int), .bool h, .int .u64 (e : Int), .int .u64 (m : Int), .int .u64 (k : Int), .int .u64 (es : Int)] 24) := ⟨_, rfl⟩
  have z1 : w1.heap.size = w.heap.size + 1 := by rw [hw1]; simp
  obtain ⟨w2, hw2⟩ : ∃ wx, wx = w1.alloc (.cells #[.int .u64 0, .int .u64 0, .int .u64 0, .bool false, .int .u64 0, .int .u64 0, .int .u64 0, .int .u64 0] 24) := ⟨_, rfl⟩
  have z2 : w2.heap.size = w.heap.size + 2 := by rw [hw2]; simp; omega
  have t2 : Below w2.heap.size w2 w2 := Below.refl _ _
  have t1 : Below w1.heap.size w1 w2 := (show Below w1.heap.size w1 w2 by rw [hw2]; exact (Below.refl _ _).alloc (Nat.le_refl _) _).trans (t2.mono (by omega))
  have t0 : Below w.heap.size w w2 := (show Below w.heap.size w w1 by rw [hw1]; exact (Below.refl _ _).alloc (Nat.le_refl _) _).trans (t1.mono (by omega))
  have BN := Lib.hid t0
  have ZN := Lib.hid z2
  have XC := Lib.hid (show BxCu w.heap.size c t s h e m k es w2 from (show BxCu w.heap.size c t s h e m k es w1 by rw [hw1]; exact BxCu.new _ c t s h e m k es).below t1 (by omega))
  have XZ := Lib.hid (show BxCu (w.heap.size + 1) 0 0 0 false 0 0 0 0 w2 from (show BxCu (w.heap.size + 1) 0 0 0 false 0 0 0 0 w2 by rw [hw2, ← z1]; exact BxCu.new _ 0 0 0 false 0 0 0 0).below t2 (by omega))
  clear t0 t1 t2 z1 z2
  have B2 := BN
  have XC2 := XC
  have SC2 := Lib.hid (show w.heap.size < w2.heap.size by have := ZN.out; omega)
  have GC := Lib.hid (show w.heap.size ≤ w.heap.size by omega)
  have XZ2 := XZ
  have SZ2 := Lib.hid (show (w.heap.size + 1) < w2.heap.size by have := ZN.out; omega)
  have GZ := Lib.hid (show w.heap.size ≤ (w.heap.size + 1) by omega)
  have OCZ := Lib.hid (show w.heap.size < (w.heap.size + 1) by omega)
  clear ZN BN XC XZ
  have CE := Lib.hid (fun w => elder_any c t s h e m k es a _ w hs ha rfl)
  unfold Wig.cack at he
  simp only at he
  by_cases hl : l = true
  · subst hl
    have h0 : a < s ∨ true = true := .inr rfl
    rw [if_pos h0] at he
    injection he with r1 r2 r3 r4 r5 r6 r7 r8
    subst r1 r2 r3 r4 r5 r6 r7 r8
    clear hc ht hs hep hm hk hes hb ha hn htk hok0 h0
    go_enter Try.func9, Try.ntmps9
    go_upto_region 1 with fail
    rw [← hw1, ← hw2]
    clear hw1 hw2
    obtain ⟨k0, k1, k2, k3, k4, k5, k6, k7, -, -, -, -, -, -, -, -⟩ := XC2.out
    obtain ⟨z0, z1, z2, z3, z4, z5, z6, z7, zf0, zf1, zf2, zf3, zf4, zf5, zf6, zf7⟩ := XZ2.out
    go_wp2_with fail
    show bodyPost _ _ _ _ _ (putCu (w.heap.size + 1) c t s h e m k es w2)
    have BZ : Below w.heap.size w (putCu (w.heap.size + 1) c t s h e m k es w2) := B2.out.trans (putCu_below GZ.out)
    obtain ⟨z0, z1, z2, z3, z4, z5, z6, z7, -, -, -, -, -, -, -, -⟩ := (show BxCu (w.heap.size + 1) c t s h e m k es (putCu (w.heap.size + 1) c t s h e m k es w2) from XZ2.out.put)
    exact bodyPost_ret (v := aggCu c t s h e m k es) (by simp [results, Try.results9, z0, z1, z2, z3, z4, z5, z6, z7, go_sem]) rfl ⟨rfl, BZ⟩
  · obtain rfl : l = false := by simpa using hl
    clear hl
    by_cases g : a < s
    · have h0 : a < s ∨ false = true := .inl g
      rw [if_pos h0] at he
      injection he with r1 r2 r3 r4 r5 r6 r7 r8
      subst r1 r2 r3 r4 r5 r6 r7 r8
      rw [decide_eq_true g] at CE
      clear hc ht hs hep hm hk hes hb ha hn htk hok0 g h0
      go_enter Try.func9, Try.ntmps9
      go_upto_region 1 with fail
      rw [← hw1, ← hw2]
      clear hw1 hw2
      obtain ⟨k0, k1, k2, k3, k4, k5, k6, k7, -, -, -, -, -, -, -, -⟩ := XC2.out
      go_wp2_with fail
      refine (CE.out _).mono ?_
      rintro e w3 ⟨rfl, hb⟩
      have B3 := Lib.hid (below_trans' B2.out hb)
      have XC3 := Lib.hid (XC2.out.below hb SC2.out)
      have SC3 := Lib.hid (Nat.lt_of_lt_of_le SC2.out hb.size)
      have XZ3 := Lib.hid (XZ2.out.below hb SZ2.out)
      have SZ3 := Lib.hid (Nat.lt_of_lt_of_le SZ2.out hb.size)
      clear k0 k1 k2 k3 k4 k5 k6 k7
      clear hb B2 XC2 SC2 XZ2 SZ2
      obtain ⟨k0, k1, k2, k3, k4, k5, k6, k7, -, -, -, -, -, -, -, -⟩ := XC3.out
      obtain ⟨z0, z1, z2, z3, z4, z5, z6, z7, zf0, zf1, zf2, zf3, zf4, zf5, zf6, zf7⟩ := XZ3.out
      go_wp2_with fail
      show bodyPost _ _ _ _ _ (putCu (w.heap.size + 1) c t s h e m k es w3)
      have BZ : Below w.heap.size w (putCu (w.heap.size + 1) c t s h e m k es w3) := B3.out.trans (putCu_below GZ.out)
      obtain ⟨z0, z1, z2, z3, z4, z5, z6, z7, -, -, -, -, -, -, -, -⟩ := (show BxCu (w.heap.size + 1) c t s h e m k es (putCu (w.heap.size + 1) c t s h e m k es w3) from XZ3.out.put)
      exact bodyPost_ret (v := aggCu c t s h e m k es) (by simp [results, Try.results9, z0, z1, z2, z3, z4, z5, z6, z7, go_sem]) rfl ⟨rfl, BZ⟩
    · have h0 : ¬ (a < s ∨ false = true) := by simp; omega
      rw [if_neg h0] at he
      rw [decide_eq_false g] at CE
      clear g h0
      by_cases g : c < t
      · rw [if_pos g] at he
        injection he with r1 r2 r3 r4 r5 r6 r7 r8
        subst r2 r3 r4 r5 r6 r7 r8
        have t1 : decide (c < t) = true := decide_eq_true g
        obtain ⟨x, hx⟩ : ∃ x, x = Wig.fadd c b := ⟨_, rfl⟩
        rw [← hx] at r1
        have CA := Lib.hid (fun w => (show Calls Try.prog 21 #[.int .u64 (c : Int), .int .u64 (b : Int)] w fun e w' => e = .returned (.int .u64 (x : Int)) ∧ w = w' by rw [hx]; exact add_any c b w hc hb))
        have CH := Lib.hid (fun w => held_any x c' w r1)
        clear hc ht hs hep hm hk hes hb ha hn htk hok0 g hx r1
        go_enter Try.func9, Try.ntmps9
        go_upto_region 1 with fail
        rw [← hw1, ← hw2]
        clear hw1 hw2
        obtain ⟨k0, k1, k2, k3, k4, k5, k6, k7, -, -, -, -, -, -, -, -⟩ := XC2.out
        go_wp2_with fail
        refine (CE.out _).mono ?_
        rintro e w3 ⟨rfl, hb⟩
        have B3 := Lib.hid (below_trans' B2.out hb)
        have XC3 := Lib.hid (XC2.out.below hb SC2.out)
        have SC3 := Lib.hid (Nat.lt_of_lt_of_le SC2.out hb.size)
        have XZ3 := Lib.hid (XZ2.out.below hb SZ2.out)
        have SZ3 := Lib.hid (Nat.lt_of_lt_of_le SZ2.out hb.size)
        clear k0 k1 k2 k3 k4 k5 k6 k7
        clear hb B2 XC2 SC2 XZ2 SZ2
        obtain ⟨k0, k1, k2, k3, k4, k5, k6, k7, -, -, -, -, -, -, -, -⟩ := XC3.out
        go_wp2_with fail
        refine (CA.out _).mono ?_
        rintro e _ ⟨rfl, rfl⟩
        go_wp2_with fail
        refine (CH.out _).mono ?_
        rintro e _ ⟨rfl, rfl⟩
        clear k0 k1 k2 k3 k4 k5 k6 k7
        obtain ⟨k0, k1, k2, k3, k4, k5, k6, k7, kf0, kf1, kf2, kf3, kf4, kf5, kf6, kf7⟩ := XC3.out
        go_upto_region 5 with fail
        obtain ⟨w4, hw⟩ : ∃ wx, wx = w3.setCell ⟨w.heap.size, 0, none⟩ (.int .u64 (c' : Int)) := ⟨_, rfl⟩
        rw [← hw]
        have XC4 := Lib.hid (show BxCu w.heap.size c' t s h e m k es w4 by rw [hw]; exact XC3.out.set0)
        have B4 := Lib.hid (show Below w.heap.size w w4 by rw [hw]; exact Below.setCell B3.out GC.out _)
        have SC4 := Lib.hid (show w.heap.size < w4.heap.size by rw [hw]; have := SC3.out; simpa using this)
        have XZ4 := Lib.hid (show BxCu (w.heap.size + 1) 0 0 0 false 0 0 0 0 w4 by rw [hw]; exact XZ3.out.other rfl (Nat.ne_of_lt OCZ.out))
        have SZ4 := Lib.hid (show (w.heap.size + 1) < w4.heap.size by rw [hw]; have := SZ3.out; simpa using this)
        clear k0 k1 k2 k3 k4 k5 k6 k7 kf0 kf1 kf2 kf3 kf4 kf5 kf6 kf7
        clear hw B3 XC3 SC3 XZ3 SZ3
        obtain ⟨k0, k1, k2, k3, k4, k5, k6, k7, -, -, -, -, -, -, -, -⟩ := XC4.out
        obtain ⟨z0, z1, z2, z3, z4, z5, z6, z7, zf0, zf1, zf2, zf3, zf4, zf5, zf6, zf7⟩ := XZ4.out
        go_wp2_with fail
        show bodyPost _ _ _ _ _ (putCu (w.heap.size + 1) c' t s h e m k es w4)
        have BZ : Below w.heap.size w (putCu (w.heap.size + 1) c' t s h e m k es w4) := B4.out.trans (putCu_below GZ.out)
        obtain ⟨z0, z1, z2, z3, z4, z5, z6, z7, -, -, -, -, -, -, -, -⟩ := (show BxCu (w.heap.size + 1) c' t s h e m k es (putCu (w.heap.size + 1) c' t s h e m k es w4) from XZ4.out.put)
        exact bodyPost_ret (v := aggCu c' t s h e m k es) (by simp [results, Try.results9, z0, z1, z2, z3, z4, z5, z6, z7, go_sem]) rfl ⟨rfl, BZ⟩
      · rw [if_neg g] at he
        have t1 : decide (c < t) = false := decide_eq_false g
        clear g
        obtain ⟨E, M, K, S, hbg⟩ := cbegun_form c t s h e m k es n
        have okb := Wig.cbegun_ok hok0 hn
        rw [hbg] at he okb
        have HBG := Lib.hid hbg
        have HCM := Lib.hid (And.intro hc hm)
        unfold Wig.cgrown Wig.cest Wig.cnext at he
        simp only at he
        injection he with r1 r2 r3 r4 r5 r6 r7 r8
        subst r2 r3 r4 r5 r6 r7
        obtain ⟨v, hv⟩ : ∃ v, v = Wig.fmuldiv b 635 c := ⟨_, rfl⟩
        rw [← hv] at r1 r8
        have v1 : v < 18446744073709551616 := by rw [hv]; exact Wig.fmuldiv_lt _ _ _
        rw [r8] at r1
        have es1 : es' < 18446744073709551616 := by rw [← r8]; exact Wig.fadd_lt0 _ _
        obtain ⟨u, hu⟩ : ∃ u, u = Wig.fsub n E := ⟨_, rfl⟩
        rw [← hu] at r1
        have u1 : u < 18446744073709551616 := by rw [hu]; unfold Wig.fsub; omega
        obtain ⟨y, hy⟩ : ∃ y, y = Wig.fadd u tk := ⟨_, rfl⟩
        rw [← hy] at r1
        have y1 : y < 18446744073709551616 := by rw [hy]; exact Wig.fadd_lt0 _ _
        have okt : Wig.Cb.Ok ⟨c, t, s, true, E, M, K, es'⟩ := ⟨hc, ht, hs, okb.2.2.2.1, okb.2.2.2.2.1, okb.2.2.2.2.2.1, es1⟩
        obtain ⟨g, hg⟩ : ∃ g, Wig.ctarget ⟨c, t, s, true, E, M, K, S⟩ y = g := ⟨_, rfl⟩
        rw [hg] at r1
        have hg : Wig.ctarget ⟨c, t, s, true, E, M, K, es'⟩ y = g := hg
        have g1 : g < 18446744073709551616 := by rw [← hg]; exact Wig.ctarget_lt okt
        have g2 : c ≤ g := by rw [← hg]; exact Wig.ctarget_ge okt
        obtain ⟨d, hd⟩ : ∃ d, d = g - c := ⟨_, rfl⟩
        rw [← hd] at r1
        obtain ⟨p, hp⟩ : ∃ p, p = Wig.fmuldiv d b c := ⟨_, rfl⟩
        rw [← hp] at r1
        obtain ⟨x, hx⟩ : ∃ x, x = Wig.fadd c p := ⟨_, rfl⟩
        rw [← hx] at r1
        obtain ⟨z, hz⟩ : ∃ z, z = max es' x := ⟨_, rfl⟩
        rw [← hz] at r1
        have CV := Lib.hid (fun w => (show Calls Try.prog 23 #[.int .u64 (b : Int), .int .u64 635, .int .u64 (c : Int)] w fun e w' => e = .returned (.int .u64 (v : Int)) ∧ Below w.heap.size w w' by rw [hv]; exact drew_below (muldiv_any b 635 c w hb (by omega) hc)))
        have CA := Lib.hid (fun w => (show Calls Try.prog 21 #[.int .u64 (S : Int), .int .u64 (v : Int)] w fun e w' => e = .returned (.int .u64 (es' : Int)) ∧ w = w' by rw [← r8]; exact add_any S v w okb.2.2.2.2.2.2 v1))
        have CU := Lib.hid (fun w => (show Calls Try.prog 24 #[.int .u64 (n : Int), .int .u64 (E : Int)] w fun e w' => e = .returned (.int .u64 (u : Int)) ∧ w = w' by rw [hu]; exact sub_any n E w hn okb.2.2.2.1))
        have CY := Lib.hid (fun w => (show Calls Try.prog 21 #[.int .u64 (u : Int), .int .u64 (tk : Int)] w fun e w' => e = .returned (.int .u64 (y : Int)) ∧ w = w' by rw [hy]; exact add_any u tk w u1 htk))
        have CT := Lib.hid (fun w => target_any c t s true E M K es' y g w okt y1 hg)
        have CQ := Lib.hid (fun w => (show Calls Try.prog 23 #[.int .u64 (d : Int), .int .u64 (b : Int), .int .u64 (c : Int)] w fun e w' => e = .returned (.int .u64 (p : Int)) ∧ ∃ n, w.drewN n = w' by rw [hp]; exact muldiv_any d b c w (by omega) hb hc))
        have CX := Lib.hid (fun w => (show Calls Try.prog 21 #[.int .u64 (c : Int), .int .u64 (p : Int)] w fun e w' => e = .returned (.int .u64 (x : Int)) ∧ w = w' by rw [hx]; exact add_any c p w hc (by rw [hp]; exact Wig.fmuldiv_lt _ _ _)))
        have CH := Lib.hid (fun w => held_any z c' w r1)
        have CD := Lib.hid (fun w => (show Calls Try.prog 24 #[.int .u64 (g : Int), .int .u64 (c : Int)] w fun e w' => e = .returned (.int .u64 (d : Int)) ∧ w = w' by rw [hd]; exact sub_any g c w g1 hc))
        have m1 : ∀ ts ty w, (Builtin.max_ ts ty #[.int .u64 (es' : Int), .int .u64 (x : Int)]).run Try.prog w = .ok (.int .u64 (z : Int)) w := by
          intro ts ty w
          rw [run_max_int2, show (if (x : Int) > (es' : Int) then (x : Int) else (es' : Int)) = (z : Int) by split <;> omega]
        clear r1 r8 hv v1 es1 hu u1 hy y1 okt hg g1 g2 hd hp hx hz okb hc ht hs hep hm hk hes hb ha hn htk hok0
        clear hbg
        go_enter Try.func9, Try.ntmps9
        go_upto_region 1 with fail
        rw [← hw1, ← hw2]
        clear hw1 hw2
        obtain ⟨k0, k1, k2, k3, k4, k5, k6, k7, -, -, -, -, -, -, -, -⟩ := XC2.out
        go_wp2_with fail
        refine (CE.out _).mono ?_
        rintro e w3 ⟨rfl, hb⟩
        have B3 := Lib.hid (below_trans' B2.out hb)
        have XC3 := Lib.hid (XC2.out.below hb SC2.out)
        have SC3 := Lib.hid (Nat.lt_of_lt_of_le SC2.out hb.size)
        have XZ3 := Lib.hid (XZ2.out.below hb SZ2.out)
        have SZ3 := Lib.hid (Nat.lt_of_lt_of_le SZ2.out hb.size)
        clear k0 k1 k2 k3 k4 k5 k6 k7
        clear hb B2 XC2 SC2 XZ2 SZ2
        obtain ⟨k0, k1, k2, k3, k4, k5, k6, k7, -, -, -, -, -, -, -, -⟩ := XC3.out
        go_upto_if 36 with fail
        go_cut [] (fun wx => CuRel c t s true E M K S w wx)
        case first =>
          by_cases hh : h = true
          · subst hh
            have hr := HBG.out
            rw [show Wig.cbegun ⟨c, t, s, true, e, m, k, es⟩ n = ⟨c, t, s, true, e, m, k, es⟩ from rfl] at hr
            injection hr with r1 r2 r3 r4 r5 r6 r7 r8
            subst r5 r6 r7 r8
            clear r1 r2 r3 r4 HBG HCM
            go_wp2_with fail
            go_meet
            case rel => exact ⟨XC3.out, XZ3.out, B3.out, SZ3.out⟩
          · obtain rfl : h = false := by simpa using hh
            have hr := HBG.out
            rw [begun_max] at hr
            injection hr with r1 r2 r3 r4 r5 r6 r7 r8
            subst r5 r8
            have CB := Lib.hid (fun w => begun_any c t s false e m k es n M K w HCM.out.1 HCM.out.2 r6 r7)
            clear r1 r2 r3 r4 r6 r7 HBG HCM hh
            go_wp2_with fail
            refine (CB.out _).mono ?_
            rintro e w4 ⟨rfl, hb⟩
            have B4 := Lib.hid (below_trans' B3.out hb)
            have XC4 := Lib.hid (XC3.out.below hb SC3.out)
            have SC4 := Lib.hid (Nat.lt_of_lt_of_le SC3.out hb.size)
            have XZ4 := Lib.hid (XZ3.out.below hb SZ3.out)
            have SZ4 := Lib.hid (Nat.lt_of_lt_of_le SZ3.out hb.size)
            clear k0 k1 k2 k3 k4 k5 k6 k7
            clear hb B3 XC3 SC3 XZ3 SZ3
            have RZ := Lib.hid (show CuRel c t s true n M K c w (putCu w.heap.size c t s true n M K c w4) from ⟨XC4.out.put, (by unfold putCu; exact ((((((((XZ4.out.other rfl (Nat.ne_of_lt OCZ.out)).other rfl (Nat.ne_of_lt OCZ.out)).other rfl (Nat.ne_of_lt OCZ.out)).other rfl (Nat.ne_of_lt OCZ.out)).other rfl (Nat.ne_of_lt OCZ.out)).other rfl (Nat.ne_of_lt OCZ.out)).other rfl (Nat.ne_of_lt OCZ.out)).other rfl (Nat.ne_of_lt OCZ.out))), B4.out.trans (putCu_below (Nat.le_refl _)), Nat.le_trans SZ4.out (putCu_below (B := 0) (Nat.zero_le _)).size⟩)
            obtain ⟨k0, k1, k2, k3, k4, k5, k6, k7, kf0, kf1, kf2, kf3, kf4, kf5, kf6, kf7⟩ := XC4.out
            go_wp2_with fail
            go_meet
            case rel => exact RZ.out
        case rest =>
          clear HBG HCM
          clear k0 k1 k2 k3 k4 k5 k6 k7 B3 XC3 SC3 XZ3 SZ3
          obtain ⟨hx, hy, hb, hz⟩ := hcut
          have XC4 := Lib.hid hx
          have XZ4 := Lib.hid hy
          have B4 := Lib.hid hb
          have SZ4 := Lib.hid (show w.heap.size + 1 < wc.heap.size from hz)
          have SC4 := Lib.hid (show w.heap.size < wc.heap.size from Nat.lt_of_succ_lt hz)
          clear hx hy hb hz
          obtain ⟨k0, k1, k2, k3, k4, k5, k6, k7, -, -, -, -, -, -, -, -⟩ := XC4.out
          go_upto_region 8 with fail
          go_cut [] (fun wx => CuRel c t s true E M K es' w wx)
          case first =>
            refine wp_region_held_drew (S := fun wx => wx.cell? ⟨w.heap.size, 0, none⟩ = some (.int .u64 (c : Int))) (by kernel_rfl) ?_ (fun hHeld => ?_)
            · exact XC4.out.drew.c0
            refine held_take (v := ?vv101) 0 rfl (by kernel_rfl) (by kernel_rfl) (by kernel_rfl) (fun _ _ _ h => h) (by rfl) ?yy101 (by assumption) ?nn101
            case yy101 =>
              intro w hSw
              (try dsimp only at hSw)
              go_simp
              try with_reducible rfl
            try simp only [Act.put, List.setIfInBounds_toArray, List.set_cons_zero, List.set_cons_succ]
            refine held_take (v := ?vv102) 2 rfl (by kernel_rfl) (by kernel_rfl) (by kernel_rfl) (fun _ _ _ h => h) (by rfl) ?yy102 (by assumption) ?nn102
            case yy102 =>
              intro w hSw
              (try dsimp only at hSw)
              go_simp
              try with_reducible rfl
            try simp only [Act.put, List.setIfInBounds_toArray, List.set_cons_zero, List.set_cons_succ]
            refine held_take (v := ?vv103) 3 rfl (by kernel_rfl) (by kernel_rfl) (by kernel_rfl) (fun _ _ _ h => h) (by rfl) ?yy103 (by assumption) ?nn103
            case yy103 =>
              intro w hSw
              (try dsimp only at hSw)
              go_simp
              try with_reducible rfl
            try simp only [Act.put, List.setIfInBounds_toArray, List.set_cons_zero, List.set_cons_succ]
            refine held_take (v := .int .u64 (c : Int)) 4 rfl (by kernel_rfl) (by kernel_rfl) (by kernel_rfl) (fun _ _ _ h => h) (by rfl) (fun wx hSw => by have c := hSw; clear hSw; go_simp) (by assumption) ?_
            try simp only [Act.put, List.setIfInBounds_toArray, List.set_cons_zero, List.set_cons_succ]
            refine held_two 1 5 rfl rfl (by kernel_rfl) (by rfl) (by rfl) (fun K hK => ?_) (fun K hK => ?_)
            · go_wp2_with fail
              refine hK.out _ _ ?_ (fun hHeld => ?_)
              · exact XC4.out.drew.c0
              clear hK K
              try simp only [Act.put, List.setIfInBounds_toArray, List.set_cons_zero, List.set_cons_succ]
              refine held_do 5 rfl (by kernel_rfl) (by rfl) (fun K hK => ?_)
              go_wp2_with (go_at_call 23; refine (CV.out _).mono ?_; rintro e w5 ⟨rfl, hb5⟩; have HB := Lib.hid hb5; clear hb5)
              refine hK.out _ _ ?_ (fun hHeld => ?_)
              · exact (XC4.out.drew.below HB.out SC4.out).c0
              clear hK K
              try simp only [Act.put, List.setIfInBounds_toArray, List.set_cons_zero, List.set_cons_succ]
              have B5 := Lib.hid (below_trans' B4.out.drew HB.out)
              have XC5 := Lib.hid (XC4.out.drew.below HB.out SC4.out)
              have SC5 := Lib.hid (Nat.lt_of_lt_of_le SC4.out HB.out.size)
              have XZ5 := Lib.hid (XZ4.out.drew.below HB.out SZ4.out)
              have SZ5 := Lib.hid (Nat.lt_of_lt_of_le SZ4.out HB.out.size)
              clear k0 k1 k2 k3 k4 k5 k6 k7
              clear HB B4 XC4 SC4 XZ4 SZ4
              refine held_do 6 rfl (by kernel_rfl) (by rfl) (fun K hK => ?_)
              go_wp2_with (go_at_call 21; with_reducible refine (CA.out _).mono ?_; rintro e _ ⟨rfl, rfl⟩)
              refine hK.out _ _ ?_ (fun hHeld => ?_)
              · exact XC5.out.c0
              clear hK K
              try simp only [Act.put, List.setIfInBounds_toArray, List.set_cons_zero, List.set_cons_succ]
              refine held_take (v := ?vv107) 7 rfl (by kernel_rfl) (by kernel_rfl) (by kernel_rfl) (fun _ _ _ h => h) (by rfl) ?yy107 (by assumption) ?nn107
              case yy107 =>
                intro w hSw
                (try dsimp only at hSw)
                go_simp
                try with_reducible rfl
              try simp only [Act.put, List.setIfInBounds_toArray, List.set_cons_zero, List.set_cons_succ]
              obtain ⟨k0, k1, k2, k3, k4, k5, k6, k7, kf0, kf1, kf2, kf3, kf4, kf5, kf6, kf7⟩ := XC5.out
              refine held_do 8 rfl (by kernel_rfl) (by rfl) (fun K hK => ?_)
              go_wp2_with fail
              refine hK.out _ _ ?_ (fun hHeld => ?_)
              · exact (BxCu.set7 XC5.out).c0
              clear hK K
              try simp only [Act.put, List.setIfInBounds_toArray, List.set_cons_zero, List.set_cons_succ]
              refine wpAnyH_done (by kernel_rfl) ?_ _
              try go_wp2_with fail
              go_meet
              case rel => exact ⟨XC5.out.set7, XZ5.out.other rfl (Nat.ne_of_lt OCZ.out), Below.setCell B5.out (Nat.le_refl _) _, (by have := SZ5.out; simp; omega)⟩
            · go_wp2_with (go_at_call 23; refine (CV.out _).mono ?_; rintro e w5 ⟨rfl, hb5⟩; have HB := Lib.hid hb5; clear hb5)
              refine hK.out _ _ ?_ (fun hHeld => ?_)
              · exact (XC4.out.drew.below HB.out SC4.out).c0
              clear hK K
              try simp only [Act.put, List.setIfInBounds_toArray, List.set_cons_zero, List.set_cons_succ]
              have B5 := Lib.hid (below_trans' B4.out.drew HB.out)
              have XC5 := Lib.hid (XC4.out.drew.below HB.out SC4.out)
              have SC5 := Lib.hid (Nat.lt_of_lt_of_le SC4.out HB.out.size)
              have XZ5 := Lib.hid (XZ4.out.drew.below HB.out SZ4.out)
              have SZ5 := Lib.hid (Nat.lt_of_lt_of_le SZ4.out HB.out.size)
              clear k0 k1 k2 k3 k4 k5 k6 k7
              clear HB B4 XC4 SC4 XZ4 SZ4
              obtain ⟨k0, k1, k2, k3, k4, k5, k6, k7, -, -, -, -, -, -, -, -⟩ := XC5.out
              refine held_do 1 rfl (by kernel_rfl) (by rfl) (fun K hK => ?_)
              go_wp2_with fail
              refine hK.out _ _ ?_ (fun hHeld => ?_)
              · exact XC5.out.c0
              clear hK K
              try simp only [Act.put, List.setIfInBounds_toArray, List.set_cons_zero, List.set_cons_succ]
              refine held_do 6 rfl (by kernel_rfl) (by rfl) (fun K hK => ?_)
              go_wp2_with (go_at_call 21; with_reducible refine (CA.out _).mono ?_; rintro e _ ⟨rfl, rfl⟩)
              refine hK.out _ _ ?_ (fun hHeld => ?_)
              · exact XC5.out.c0
              clear hK K
              try simp only [Act.put, List.setIfInBounds_toArray, List.set_cons_zero, List.set_cons_succ]
              refine held_take (v := ?vv112) 7 rfl (by kernel_rfl) (by kernel_rfl) (by kernel_rfl) (fun _ _ _ h => h) (by rfl) ?yy112 (by assumption) ?nn112
              case yy112 =>
                intro w hSw
                (try dsimp only at hSw)
                go_simp
                try with_reducible rfl
              try simp only [Act.put, List.setIfInBounds_toArray, List.set_cons_zero, List.set_cons_succ]
              clear k0 k1 k2 k3 k4 k5 k6 k7
              obtain ⟨k0, k1, k2, k3, k4, k5, k6, k7, kf0, kf1, kf2, kf3, kf4, kf5, kf6, kf7⟩ := XC5.out
              refine held_do 8 rfl (by kernel_rfl) (by rfl) (fun K hK => ?_)
              go_wp2_with fail
              refine hK.out _ _ ?_ (fun hHeld => ?_)
              · exact (BxCu.set7 XC5.out).c0
              clear hK K
              try simp only [Act.put, List.setIfInBounds_toArray, List.set_cons_zero, List.set_cons_succ]
              refine wpAnyH_done (by kernel_rfl) ?_ _
              try go_wp2_with fail
              go_meet
              case rel => exact ⟨XC5.out.set7, XZ5.out.other rfl (Nat.ne_of_lt OCZ.out), Below.setCell B5.out (Nat.le_refl _) _, (by have := SZ5.out; simp; omega)⟩
          case rest =>
            clear k0 k1 k2 k3 k4 k5 k6 k7 B4 XC4 SC4 XZ4 SZ4
            obtain ⟨hx, hy, hb, hz⟩ := hcut
            have XC5 := Lib.hid hx
            have XZ5 := Lib.hid hy
            have B5 := Lib.hid hb
            have SZ5 := Lib.hid (show w.heap.size + 1 < wc.heap.size from hz)
            have SC5 := Lib.hid (show w.heap.size < wc.heap.size from Nat.lt_of_succ_lt hz)
            clear hx hy hb hz
            go_wp2_with fail
            refine wp_region_held_drew (S := fun wx => BxCu w.heap.size c t s true E M K es' wx ∧ BxCu (w.heap.size + 1) 0 0 0 false 0 0 0 0 wx ∧ Below wc.heap.size wc wx) (by kernel_rfl) ?_ (fun hHeld => ?_)
            · exact ⟨XC5.out.drew, XZ5.out.drew, (Below.refl _ _).drew⟩
            refine held_take (v := .agg #[.int .u64 (c : Int), .int .u64 (t : Int), .int .u64 (s : Int), .bool true, .int .u64 (E : Int), .int .u64 (M : Int), .int .u64 (K : Int), .int .u64 (es' : Int)]) 0 rfl (by kernel_rfl) (by kernel_rfl) (by kernel_rfl) (fun _ _ _ h => h) (by rfl) (fun wx hSw => by obtain ⟨c0, c1, c2, c3, c4, c5, c6, c7, -, -, -, -, -, -, -, -⟩ := hSw.1; clear hSw; go_simp) (by assumption) ?_
            try simp only [Act.put, List.setIfInBounds_toArray, List.set_cons_zero, List.set_cons_succ]
            refine held_take (v := ?vv116) 1 rfl (by kernel_rfl) (by kernel_rfl) (by kernel_rfl) (fun _ _ _ h => h) (by rfl) ?yy116 (by assumption) ?nn116
            case yy116 =>
              intro w hSw
              (try dsimp only at hSw)
              go_simp
              try with_reducible rfl
            try simp only [Act.put, List.setIfInBounds_toArray, List.set_cons_zero, List.set_cons_succ]
            refine held_take (v := ?vv117) 2 rfl (by kernel_rfl) (by kernel_rfl) (by kernel_rfl) (fun _ _ _ h => h) (by rfl) ?yy117 (by assumption) ?nn117
            case yy117 =>
              intro w hSw
              (try dsimp only at hSw)
              go_simp
              try with_reducible rfl
            try simp only [Act.put, List.setIfInBounds_toArray, List.set_cons_zero, List.set_cons_succ]
            refine held_take (v := .int .u64 (E : Int)) 3 rfl (by kernel_rfl) (by kernel_rfl) (by kernel_rfl) (fun _ _ _ h => h) (by rfl) (fun wx hSw => by have c := hSw.1.c4; clear hSw; go_simp) (by assumption) ?_
            try simp only [Act.put, List.setIfInBounds_toArray, List.set_cons_zero, List.set_cons_succ]
            refine held_take (v := ?vv119) 5 rfl (by kernel_rfl) (by kernel_rfl) (by kernel_rfl) (fun _ _ _ h => h) (by rfl) ?yy119 (by assumption) ?nn119
            case yy119 =>
              intro w hSw
              (try dsimp only at hSw)
              go_simp
              try with_reducible rfl
            try simp only [Act.put, List.setIfInBounds_toArray, List.set_cons_zero, List.set_cons_succ]
            refine held_do 4 rfl (by kernel_rfl) (by rfl) (fun K hK => ?_)
            go_wp2_with (go_at_call 24; with_reducible refine (CU.out _).mono ?_; rintro e _ ⟨rfl, rfl⟩)
            refine hK.out _ _ ?_ (fun hHeld => ?_)
            · exact hHeld
            clear hK K
            try simp only [Act.put, List.setIfInBounds_toArray, List.set_cons_zero, List.set_cons_succ]
            refine held_do 6 rfl (by kernel_rfl) (by rfl) (fun K hK => ?_)
            go_wp2_with (go_at_call 21; with_reducible refine (CY.out _).mono ?_; rintro e _ ⟨rfl, rfl⟩)
            refine hK.out _ _ ?_ (fun hHeld => ?_)
            · exact hHeld
            clear hK K
            try simp only [Act.put, List.setIfInBounds_toArray, List.set_cons_zero, List.set_cons_succ]
            refine held_do 7 rfl (by kernel_rfl) (by rfl) (fun K hK => ?_)
            go_wp2_with (go_at_call 15; refine (CT.out _).mono ?_; rintro e w6 ⟨rfl, hb6⟩; have K6 := Lib.hid (Below.trans hHeld.2.2 (hb6.mono hHeld.2.2.size)); clear hb6)
            refine hK.out _ _ ?_ (fun hHeld => ?_)
            · exact ⟨XC5.out.below K6.out SC5.out, XZ5.out.below K6.out SZ5.out, K6.out⟩
            clear hK K
            try simp only [Act.put, List.setIfInBounds_toArray, List.set_cons_zero, List.set_cons_succ]
            refine held_take (v := ?vv123) 8 rfl (by kernel_rfl) (by kernel_rfl) (by kernel_rfl) (fun _ _ _ h => h) (by rfl) ?yy123 (by assumption) ?nn123
            case yy123 =>
              intro w hSw
              (try dsimp only at hSw)
              go_simp
              try with_reducible rfl
            try simp only [Act.put, List.setIfInBounds_toArray, List.set_cons_zero, List.set_cons_succ]
            refine wpAnyH_done (by kernel_rfl) ?_ _
            clear hHeld
            have B6 := Lib.hid (below_trans' B5.out K6.out)
            have XC6 := Lib.hid (XC5.out.below K6.out SC5.out)
            have SC6 := Lib.hid (Nat.lt_of_lt_of_le SC5.out K6.out.size)
            have XZ6 := Lib.hid (XZ5.out.below K6.out SZ5.out)
            have SZ6 := Lib.hid (Nat.lt_of_lt_of_le SZ5.out K6.out.size)
            clear B5 XC5 SC5 XZ5 SZ5
            obtain ⟨k0, k1, k2, k3, k4, k5, k6, k7, -, -, -, -, -, -, -, -⟩ := XC6.out
            go_wp2_with fail
            go_quiet (first | (go_at_call 24; with_reducible exact quiet_eq (CD.out _)) | (go_at_call 23; with_reducible exact quiet_dr (CQ.out _)) | (go_at_call 21; with_reducible exact quiet_eq (CX.out _)) | fail)
            obtain ⟨w7, hw⟩ : ∃ wx, wx = w6.drewN nq := ⟨_, rfl⟩
            rw [← hw]
            have B7 := Lib.hid (show Below w.heap.size w w7 by rw [hw]; exact below_drewN' B6.out nq)
            have XC7 := Lib.hid (show BxCu w.heap.size c t s true E M K es' w7 by rw [hw]; exact XC6.out.drewN nq)
            have SC7 := Lib.hid (show w.heap.size < w7.heap.size by rw [hw]; exact SC6.out)
            have XZ7 := Lib.hid (show BxCu (w.heap.size + 1) 0 0 0 false 0 0 0 0 w7 by rw [hw]; exact XZ6.out.drewN nq)
            have SZ7 := Lib.hid (show (w.heap.size + 1) < w7.heap.size by rw [hw]; exact SZ6.out)
            clear k0 k1 k2 k3 k4 k5 k6 k7
            clear hw B6 XC6 SC6 XZ6 SZ6
            obtain ⟨k0, k1, k2, k3, k4, k5, k6, k7, -, -, -, -, -, -, -, -⟩ := XC7.out
            go_wp2_with fail
            refine (CH.out _).mono ?_
            rintro e _ ⟨rfl, rfl⟩
            clear k0 k1 k2 k3 k4 k5 k6 k7
            obtain ⟨k0, k1, k2, k3, k4, k5, k6, k7, kf0, kf1, kf2, kf3, kf4, kf5, kf6, kf7⟩ := XC7.out
            go_upto_region 12 with fail
            obtain ⟨w8, hw⟩ : ∃ wx, wx = w7.setCell ⟨w.heap.size, 0, none⟩ (.int .u64 (c' : Int)) := ⟨_, rfl⟩
            rw [← hw]
            have XC8 := Lib.hid (show BxCu w.heap.size c' t s true E M K es' w8 by rw [hw]; exact XC7.out.set0)
            have B8 := Lib.hid (show Below w.heap.size w w8 by rw [hw]; exact Below.setCell B7.out GC.out _)
            have SC8 := Lib.hid (show w.heap.size < w8.heap.size by rw [hw]; have := SC7.out; simpa using this)
            have XZ8 := Lib.hid (show BxCu (w.heap.size + 1) 0 0 0 false 0 0 0 0 w8 by rw [hw]; exact XZ7.out.other rfl (Nat.ne_of_lt OCZ.out))
            have SZ8 := Lib.hid (show (w.heap.size + 1) < w8.heap.size by rw [hw]; have := SZ7.out; simpa using this)
            clear k0 k1 k2 k3 k4 k5 k6 k7 kf0 kf1 kf2 kf3 kf4 kf5 kf6 kf7
            clear hw B7 XC7 SC7 XZ7 SZ7
            obtain ⟨k0, k1, k2, k3, k4, k5, k6, k7, -, -, -, -, -, -, -, -⟩ := XC8.out
            obtain ⟨z0, z1, z2, z3, z4, z5, z6, z7, zf0, zf1, zf2, zf3, zf4, zf5, zf6, zf7⟩ := XZ8.out
            go_wp2_with fail
            show bodyPost _ _ _ _ _ (putCu (w.heap.size + 1) c' t s true E M K es' w8)
            have BZ : Below w.heap.size w (putCu (w.heap.size + 1) c' t s true E M K es' w8) := B8.out.trans (putCu_below GZ.out)
            obtain ⟨z0, z1, z2, z3, z4, z5, z6, z7, -, -, -, -, -, -, -, -⟩ := (show BxCu (w.heap.size + 1) c' t s true E M K es' (putCu (w.heap.size + 1) c' t s true E M K es' w8) from XZ8.out.put)
            exact bodyPost_ret (v := aggCu c' t s true E M K es') (by simp [results, Try.results9, z0, z1, z2, z3, z4, z5, z6, z7, go_sem]) rfl ⟨rfl, BZ⟩
end Go.Proofs.Ytjnkmghlhihjkaa
