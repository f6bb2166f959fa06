/-
  What the closure of package hystart's Sample returns, and Sample, for all numbers of 64 bits. No condition.
-/
import Derived.Test.YtaiephdacioedaaHyB
namespace Go.Proofs.Ytaiephdacioedaa
open Go.ChangeShapes Go.WideShapes Go.ChangeAt Go.RowKit
set_option linter.unusedVariables false

theorem ends_any (ph : Int) (en lm nm ct ba ro m pn : Nat) (q : Bool) (w : World) (hq : (!(ph == 2) && decide (en ≤ m)) = q)
    (hpn : pn < w.heap.size) (k : w.cell? ⟨pn, 0, none⟩ = some (.int .u64 (m : Int))) :
    Calls Try.prog 18 #[aggSl ph en lm nm ct ba ro, .pointer (some ⟨pn, 0, none⟩)] w fun e w' => e = .returned (.bool q) ∧ Below w.heap.size w w' := by
  obtain ⟨w1, hw1⟩ : ∃ wx, wx = w.alloc (.cells #[.int .i64 ph, .int .u64 (en : Int), .int .u64 (lm : Int), .int .u64 (nm : Int), .int .u64 (ct : Int), .int .u64 (ba : Int), .int .u64 (ro : Int)] 25) := ⟨_, rfl⟩
  have z1 : w1.heap.size = w.heap.size + 1 := by rw [hw1]; simp
  have t1 : Below w1.heap.size w1 w1 := Below.refl _ _
  have t0 : Below w.heap.size w w1 := (show Below w.heap.size w w1 by rw [hw1]; exact (Below.refl _ _).alloc (Nat.le_refl _) _).trans (t1.mono (by omega))
  have BN := Lib.hid t0
  have ZN := Lib.hid z1
  have XC := Lib.hid (show BxSl w.heap.size ph en lm nm ct ba ro w1 from (show BxSl w.heap.size ph en lm nm ct ba ro w1 by rw [hw1]; exact BxSl.new _ ph en lm nm ct ba ro).below t1 (by omega))
  clear t0 t1 z1
  have j1 : w1.cell? ⟨pn, 0, none⟩ = some (.int .u64 (m : Int)) := (BN.out.cell hpn).trans k
  obtain ⟨k0, k1, k2, k3, k4, k5, k6, -, -, -, -, -, -, -⟩ := XC.out
  clear k hpn
  by_cases h : ph = 2
  · subst h
    have d1 : ((2 : Int) != 2) = false := by decide
    obtain rfl : q = false := by rw [← hq]; rfl
    clear hq
    go_enter Try.func18, Try.ntmps18
    go_upto_region 1 with fail
    rw [← hw1]
    clear hw1
    go_wp2_with fail
    go_ret
    exact ⟨rfl, BN.out⟩
  · have d1 : (ph != 2) = true := by simpa using h
    have d2 : (ph == 2) = false := by simpa using h
    rw [d2] at hq
    clear d2
    by_cases g : en ≤ m
    · have t1 : decide (en ≤ m) = true := decide_eq_true g
      obtain rfl : q = true := by rw [← hq, t1]; rfl
      clear hq g h
      go_enter Try.func18, Try.ntmps18
      go_upto_region 1 with fail
      rw [← hw1]
      clear hw1
      go_wp2_with fail
      go_ret
      exact ⟨rfl, BN.out⟩
    · have t1 : decide (en ≤ m) = false := decide_eq_false g
      obtain rfl : q = false := by rw [← hq, t1]; rfl
      clear hq g h
      go_enter Try.func18, Try.ntmps18
      go_upto_region 1 with fail
      rw [← hw1]
      clear hw1
      go_wp2_with fail
      go_ret
      exact ⟨rfl, BN.out⟩

set_option maxHeartbeats 4000000 in
theorem sample_any (ph : Int) (en lm nm ct ba ro m n t : Nat) (ph' : Int) (en' lm' nm' ct' ba' ro' : Nat) (w : World) (hok : Wig.Sw.Ok ⟨ph, en, lm, nm, ct, ba, ro⟩) (hm : m < 18446744073709551616) (hn : n < 18446744073709551616) (ht : t < 18446744073709551616) (he : Wig.hsample ⟨ph, en, lm, nm, ct, ba, ro⟩ m n t = ⟨ph', en', lm', nm', ct', ba', ro'⟩) :
    Calls Try.prog 10 #[aggSl ph en lm nm ct ba ro, .int .u64 (m : Int), .int .u64 (n : Int), .int .u64 (t : Int)] w fun e w' => e = .returned (aggSl ph' en' lm' nm' ct' ba' ro') ∧ Below w.heap.size w w' := by
  obtain ⟨w1, hw1⟩ : ∃ wx, wx = w.alloc (.cells #[.int .i64 ph, .int .u64 (en : Int), .int .u64 (lm : Int), .int .u64 (nm : Int), .int .u64 (ct : Int), .int .u64 (ba : Int), .int .u64 (ro : Int)] 25) := ⟨_, rfl⟩
  have z1 : w1.heap.size = w.heap.size + 1 := by rw [hw1]; simp
  obtain ⟨w2, hw2⟩ : ∃ wx, wx = w1.alloc (.cells #[.int .u64 (m : Int)] 23) := ⟨_, rfl⟩
  have z2 : w2.heap.size = w.heap.size + 2 := by rw [hw2]; simp; omega
  obtain ⟨w3, hw3⟩ : ∃ wx, wx = w2.alloc (.cells #[.int .i64 0, .int .u64 0, .int .u64 0, .int .u64 0, .int .u64 0, .int .u64 0, .int .u64 0] 25) := ⟨_, rfl⟩
  have z3 : w3.heap.size = w.heap.size + 3 := by rw [hw3]; simp; omega
  have t3 : Below w3.heap.size w3 w3 := Below.refl _ _
  have t2 : Below w2.heap.size w2 w3 := (show Below w2.heap.size w2 w3 by rw [hw3]; exact (Below.refl _ _).alloc (Nat.le_refl _) _).trans (t3.mono (by omega))
  have t1 : Below w1.heap.size w1 w3 := (show Below w1.heap.size w1 w2 by rw [hw2]; exact (Below.refl _ _).alloc (Nat.le_refl _) _).trans (t2.mono (by omega))
  have t0 : Below w.heap.size w w3 := (show Below w.heap.size w w1 by rw [hw1]; exact (Below.refl _ _).alloc (Nat.le_refl _) _).trans (t1.mono (by omega))
  have BN := Lib.hid t0
  have ZN := Lib.hid z3
  have XC := Lib.hid (show BxSl w.heap.size ph en lm nm ct ba ro w3 from (show BxSl w.heap.size ph en lm nm ct ba ro w1 by rw [hw1]; exact BxSl.new _ ph en lm nm ct ba ro).below t1 (by omega))
  have CA := Lib.hid (show w3.cell? ⟨(w.heap.size + 1), 0, none⟩ = some (.int .u64 (m : Int)) ∧ w3.frozen? ⟨(w.heap.size + 1), 0, none⟩ = false from ⟨(t2.cell (by show _ < _; simp only; omega)).trans (by rw [hw2, ← z1, World.cell?_alloc_at _ _ _ _ rfl]; rfl), (t2.frozen (by show _ < _; simp only; omega)).trans (by rw [hw2, ← z1]; exact World.frozen?_alloc_at _ _ _ _ rfl)⟩)
  have XZ := Lib.hid (show BxSl (w.heap.size + 2) 0 0 0 0 0 0 0 w3 from (show BxSl (w.heap.size + 2) 0 0 0 0 0 0 0 w3 by rw [hw3, ← z2]; exact BxSl.new _ 0 0 0 0 0 0 0).below t3 (by omega))
  clear t0 t1 t2 t3 z1 z2 z3
  obtain ⟨q, hq⟩ : ∃ q, (!(ph == 2) && decide (en ≤ m)) = q := ⟨_, rfl⟩
  have CM := Lib.hid (ends_any ph en lm nm ct ba ro m (w.heap.size + 1) q w3 hq (by have := ZN.out; omega) CA.out.1)
  have hmf : ∀ (fn : Fn) (first cap : Array Value) (w : World), (Instr.makeFunc fn first cap).run Try.prog w = .ok (.func fn first cap) w := fun _ _ _ _ => rfl
  obtain ⟨k0, k1, k2, k3, k4, k5, k6, -, -, -, -, -, -, -⟩ := XC.out
  unfold Wig.hsample at he
  by_cases h : ph = 2
  · rw [if_pos h] at he
    injection he with r1 r2 r3 r4 r5 r6 r7
    subst r1 r2 r3 r4 r5 r6 r7
    subst h
    obtain rfl : q = false := by rw [← hq]; rfl
    have d1 : ((2 : Int) == 2) = true := by decide
    clear hok hm hn ht hq
    go_enter Try.func10, Try.ntmps10
    go_upto_region 1 with fail
    rw [← hw1, ← hw2, ← hw3]
    clear hw1 hw2 hw3
    go_wp2_with fail
    refine (CM.out).mono ?_
    rintro e w4 ⟨rfl, hb4⟩
    have B4 := Lib.hid (BN.out.trans (hb4.mono BN.out.size))
    have Z4 := Lib.hid (show w.heap.size + 3 ≤ w4.heap.size by have := ZN.out; have := hb4.size; omega)
    have X4 := Lib.hid (XC.out.below hb4 (by have := ZN.out; omega))
    have Y4 := Lib.hid (XZ.out.below hb4 (by have := ZN.out; omega))
    clear hb4 k0 k1 k2 k3 k4 k5 k6 BN XC XZ CA ZN CM
    obtain ⟨k0, k1, k2, k3, k4, k5, k6, kf0, kf1, kf2, kf3, kf4, kf5, kf6⟩ := X4.out
    obtain ⟨j0, j1, j2, j3, j4, j5, j6, l0, l1, l2, l3, l4, l5, l6⟩ := Y4.out
    go_wp2_with fail
    show bodyPost _ _ _ _ _ (putSl (w.heap.size + 2) 2 en lm nm ct ba ro w4)
    have BZ := B4.out.trans (putSl_below (B := w.heap.size) (p := (w.heap.size + 2)) (ph := 2) (en := en) (lm := lm) (nm := nm) (ct := ct) (ba := ba) (ro := ro) (w := w4) (by omega))
    obtain ⟨z0, z1, z2, z3, z4, z5, z6, -, -, -, -, -, -, -⟩ := Y4.out.put (ph' := 2) (en' := en) (lm' := lm) (nm' := nm) (ct' := ct) (ba' := ba) (ro' := ro)
    exact bodyPost_ret (v := aggSl 2 en lm nm ct ba ro) (by simp [results, Try.results10, z0, z1, z2, z3, z4, z5, z6, go_sem]) rfl ⟨rfl, BZ⟩
  · rw [if_neg h] at he
    have d1 : (ph == 2) = false := by simpa using h
    rw [d1] at hq
    by_cases g : en ≤ m
    · obtain rfl : q = true := by rw [← hq, decide_eq_true g]; rfl
      have ht1 : Wig.hturn ⟨ph, en, lm, nm, ct, ba, ro⟩ m n = Wig.hround ⟨ph, en, lm, nm, ct, ba, ro⟩ n := if_pos g
      have ok := Wig.hround_ok hok hn
      rw [ht1] at he
      obtain ⟨⟨a, b, c, d, f, y, i⟩, hr⟩ : ∃ x, Wig.hround ⟨ph, en, lm, nm, ct, ba, ro⟩ n = x := ⟨_, rfl⟩
      rw [hr] at he ok
      have CT := Lib.hid (fun w => turned_any ph en lm nm ct ba ro n a b c d f y i w hok.2.2.2.2.2.2.2 hr)
      simp only at he
      clear hq g h d1 ht1 hr hok
      by_cases h2 : a = 2
      · rw [if_pos h2] at he
        injection he with r1 r2 r3 r4 r5 r6 r7
        subst r1 r2 r3 r4 r5 r6 r7
        have d1 : (a == 2) = true := by simpa using h2
        clear hm hn ht ok h2
        go_enter Try.func10, Try.ntmps10
        go_upto_region 1 with fail
        rw [← hw1, ← hw2, ← hw3]
        clear hw1 hw2 hw3
        go_wp2_with fail
        refine (CM.out).mono ?_
        rintro e w4 ⟨rfl, hb4⟩
        have B4 := Lib.hid (BN.out.trans (hb4.mono BN.out.size))
        have Z4 := Lib.hid (show w.heap.size + 3 ≤ w4.heap.size by have := ZN.out; have := hb4.size; omega)
        have X4 := Lib.hid (XC.out.below hb4 (by have := ZN.out; omega))
        have Y4 := Lib.hid (XZ.out.below hb4 (by have := ZN.out; omega))
        clear hb4 k0 k1 k2 k3 k4 k5 k6 BN XC XZ CA ZN CM
        obtain ⟨k0, k1, k2, k3, k4, k5, k6, kf0, kf1, kf2, kf3, kf4, kf5, kf6⟩ := X4.out
        go_wp2_with fail
        refine (CT.out _).mono ?_
        rintro e w5 ⟨rfl, hb5⟩
        have B5 := Lib.hid (B4.out.trans (hb5.mono B4.out.size))
        have Z5 := Lib.hid (show w.heap.size + 3 ≤ w5.heap.size by have := Z4.out; have := hb5.size; omega)
        have X5 := Lib.hid (X4.out.below hb5 (by have := Z4.out; omega))
        have Y5 := Lib.hid (Y4.out.below hb5 (by have := Z4.out; omega))
        clear hb5 k0 k1 k2 k3 k4 k5 k6 kf0 kf1 kf2 kf3 kf4 kf5 kf6 B4 X4 Y4 Z4 CT
        obtain ⟨k0, k1, k2, k3, k4, k5, k6, kf0, kf1, kf2, kf3, kf4, kf5, kf6⟩ := X5.out
        go_upto_region 4 with fail
        obtain ⟨w6, hw6⟩ : ∃ w6, w6 = putSl w.heap.size a b c d f y i w5 := ⟨_, rfl⟩
        have X6 := Lib.hid (show BxSl w.heap.size a b c d f y i w6 by rw [hw6]; exact X5.out.put)
        have Y6 := Lib.hid (show BxSl (w.heap.size + 2) 0 0 0 0 0 0 0 w6 by rw [hw6]; unfold putSl; exact (((((((Y5.out.other rfl (by first | omega | (simp only; omega))).other rfl (by first | omega | (simp only; omega))).other rfl (by first | omega | (simp only; omega))).other rfl (by first | omega | (simp only; omega))).other rfl (by first | omega | (simp only; omega))).other rfl (by first | omega | (simp only; omega))).other rfl (by first | omega | (simp only; omega))))
        have B6 := Lib.hid (show Below w.heap.size w w6 by rw [hw6]; exact B5.out.trans (putSl_below (Nat.le_refl _)))
        have Z6 := Lib.hid (show w.heap.size + 3 ≤ w6.heap.size by rw [hw6]; exact Nat.le_trans Z5.out (putSl_below (B := 0) (Nat.zero_le _)).size)
        rw [show ((((((w5.setCell ⟨w.heap.size, 0, none⟩ (.int .i64 a)).setCell ⟨w.heap.size, 1, none⟩ (.int .u64 (b : Int))).setCell ⟨w.heap.size, 2, none⟩ (.int .u64 (c : Int))).setCell ⟨w.heap.size, 3, none⟩ (.int .u64 (d : Int))).setCell ⟨w.heap.size, 4, none⟩ (.int .u64 (f : Int))).setCell ⟨w.heap.size, 5, none⟩ (.int .u64 (y : Int))).setCell ⟨w.heap.size, 6, none⟩ (.int .u64 (i : Int)) = w6 from hw6.symm]
        clear hw6 k0 k1 k2 k3 k4 k5 k6 kf0 kf1 kf2 kf3 kf4 kf5 kf6 B5 X5 Y5 Z5
        obtain ⟨k0, k1, k2, k3, k4, k5, k6, kf0, kf1, kf2, kf3, kf4, kf5, kf6⟩ := X6.out
        obtain ⟨j0, j1, j2, j3, j4, j5, j6, l0, l1, l2, l3, l4, l5, l6⟩ := Y6.out
        go_wp2_with fail
        show bodyPost _ _ _ _ _ (putSl (w.heap.size + 2) a b c d f y i w6)
        have BZ := B6.out.trans (putSl_below (B := w.heap.size) (p := (w.heap.size + 2)) (ph := a) (en := b) (lm := c) (nm := d) (ct := f) (ba := y) (ro := i) (w := w6) (by omega))
        obtain ⟨z0, z1, z2, z3, z4, z5, z6, -, -, -, -, -, -, -⟩ := Y6.out.put (ph' := a) (en' := b) (lm' := c) (nm' := d) (ct' := f) (ba' := y) (ro' := i)
        exact bodyPost_ret (v := aggSl a b c d f y i) (by simp [results, Try.results10, z0, z1, z2, z3, z4, z5, z6, go_sem]) rfl ⟨rfl, BZ⟩
      · rw [if_neg h2] at he
        have d1 : (a == 2) = false := by simpa using h2
        obtain ⟨lo, hlo⟩ : ∃ lo, lo = min d t := ⟨_, rfl⟩
        obtain ⟨c1, hc1⟩ : ∃ c1, c1 = Wig.fadd f 1 := ⟨_, rfl⟩
        have ok2 := Wig.hcount_ok (t := t) ok
        unfold Wig.hcount at he ok2
        simp only at he ok2
        rw [← hlo, ← hc1] at he ok2
        have CJ := Lib.hid (fun w => judged_any a b c lo c1 y i ph' en' lm' nm' ct' ba' ro' w ok2 he)
        have CX := Lib.hid (fun w => (show Calls Try.prog 20 #[.int .u64 (f : Int), .int .u64 1] w fun e w' => e = .returned (.int .u64 (c1 : Int)) ∧ w = w' by rw [hc1]; exact add_any f 1 w ok.2.2.2.2.2.1 (by omega)))
        have m1 : ∀ ts ty w, (Builtin.min_ ts ty #[.int .u64 (d : Int), .int .u64 (t : Int)]).run Try.prog w = .ok (.int .u64 (lo : Int)) w := by
          intro ts ty w
          rw [run_min_int2, show (if (t : Int) < (d : Int) then (t : Int) else (d : Int)) = (lo : Int) by split <;> omega]
        clear hm hn ht ok ok2 he hlo hc1 h2
        go_enter Try.func10, Try.ntmps10
        go_upto_region 1 with fail
        rw [← hw1, ← hw2, ← hw3]
        clear hw1 hw2 hw3
        go_wp2_with fail
        refine (CM.out).mono ?_
        rintro e w4 ⟨rfl, hb4⟩
        have B4 := Lib.hid (BN.out.trans (hb4.mono BN.out.size))
        have Z4 := Lib.hid (show w.heap.size + 3 ≤ w4.heap.size by have := ZN.out; have := hb4.size; omega)
        have X4 := Lib.hid (XC.out.below hb4 (by have := ZN.out; omega))
        have Y4 := Lib.hid (XZ.out.below hb4 (by have := ZN.out; omega))
        clear hb4 k0 k1 k2 k3 k4 k5 k6 BN XC XZ CA ZN CM
        obtain ⟨k0, k1, k2, k3, k4, k5, k6, kf0, kf1, kf2, kf3, kf4, kf5, kf6⟩ := X4.out
        go_wp2_with fail
        refine (CT.out _).mono ?_
        rintro e w5 ⟨rfl, hb5⟩
        have B5 := Lib.hid (B4.out.trans (hb5.mono B4.out.size))
        have Z5 := Lib.hid (show w.heap.size + 3 ≤ w5.heap.size by have := Z4.out; have := hb5.size; omega)
        have X5 := Lib.hid (X4.out.below hb5 (by have := Z4.out; omega))
        have Y5 := Lib.hid (Y4.out.below hb5 (by have := Z4.out; omega))
        clear hb5 k0 k1 k2 k3 k4 k5 k6 kf0 kf1 kf2 kf3 kf4 kf5 kf6 B4 X4 Y4 Z4 CT
        obtain ⟨k0, k1, k2, k3, k4, k5, k6, kf0, kf1, kf2, kf3, kf4, kf5, kf6⟩ := X5.out
        go_upto_region 4 with fail
        obtain ⟨w6, hw6⟩ : ∃ w6, w6 = putSl w.heap.size a b c d f y i w5 := ⟨_, rfl⟩
        have X6 := Lib.hid (show BxSl w.heap.size a b c d f y i w6 by rw [hw6]; exact X5.out.put)
        have Y6 := Lib.hid (show BxSl (w.heap.size + 2) 0 0 0 0 0 0 0 w6 by rw [hw6]; unfold putSl; exact (((((((Y5.out.other rfl (by first | omega | (simp only; omega))).other rfl (by first | omega | (simp only; omega))).other rfl (by first | omega | (simp only; omega))).other rfl (by first | omega | (simp only; omega))).other rfl (by first | omega | (simp only; omega))).other rfl (by first | omega | (simp only; omega))).other rfl (by first | omega | (simp only; omega))))
        have B6 := Lib.hid (show Below w.heap.size w w6 by rw [hw6]; exact B5.out.trans (putSl_below (Nat.le_refl _)))
        have Z6 := Lib.hid (show w.heap.size + 3 ≤ w6.heap.size by rw [hw6]; exact Nat.le_trans Z5.out (putSl_below (B := 0) (Nat.zero_le _)).size)
        rw [show ((((((w5.setCell ⟨w.heap.size, 0, none⟩ (.int .i64 a)).setCell ⟨w.heap.size, 1, none⟩ (.int .u64 (b : Int))).setCell ⟨w.heap.size, 2, none⟩ (.int .u64 (c : Int))).setCell ⟨w.heap.size, 3, none⟩ (.int .u64 (d : Int))).setCell ⟨w.heap.size, 4, none⟩ (.int .u64 (f : Int))).setCell ⟨w.heap.size, 5, none⟩ (.int .u64 (y : Int))).setCell ⟨w.heap.size, 6, none⟩ (.int .u64 (i : Int)) = w6 from hw6.symm]
        clear hw6 k0 k1 k2 k3 k4 k5 k6 kf0 kf1 kf2 kf3 kf4 kf5 kf6 B5 X5 Y5 Z5
        obtain ⟨k0, k1, k2, k3, k4, k5, k6, kf0, kf1, kf2, kf3, kf4, kf5, kf6⟩ := X6.out
        go_wp2_with fail
        refine (CX.out _).mono ?_
        rintro e _ ⟨rfl, rfl⟩
        go_upto_region 8 with fail
        obtain ⟨w7, hw7⟩ : ∃ wx, wx = (w6.setCell ⟨w.heap.size, 3, none⟩ (.int .u64 (lo : Int))).setCell ⟨w.heap.size, 4, none⟩ (.int .u64 (c1 : Int)) := ⟨_, rfl⟩
        have X7 := Lib.hid (show BxSl w.heap.size a b c lo c1 y i w7 by rw [hw7]; exact (X6.out.set3).set4)
        have Y7 := Lib.hid (show BxSl (w.heap.size + 2) 0 0 0 0 0 0 0 w7 by rw [hw7]; exact (Y6.out.other rfl (by first | omega | (simp only; omega))).other rfl (by first | omega | (simp only; omega)))
        have B7 := Lib.hid (show Below w.heap.size w w7 by rw [hw7]; exact Below.setCell (Below.setCell B6.out (Nat.le_refl _) _) (Nat.le_refl _) _)
        have Z7 := Lib.hid (show w.heap.size + 3 ≤ w7.heap.size by rw [hw7]; have := Z6.out; simpa using this)
        rw [← hw7]
        clear hw7 k0 k1 k2 k3 k4 k5 k6 kf0 kf1 kf2 kf3 kf4 kf5 kf6 B6 X6 Y6 Z6
        obtain ⟨k0, k1, k2, k3, k4, k5, k6, -, -, -, -, -, -, -⟩ := X7.out
        go_wp2_with fail
        refine (CJ.out _).mono ?_
        rintro e w8 ⟨rfl, hb⟩
        have B8 := Lib.hid (B7.out.trans (hb.mono B7.out.size))
        have Y8 := Lib.hid (Y7.out.below hb (by have := Z7.out; omega))
        clear hb k0 k1 k2 k3 k4 k5 k6 X7 Y7 B7 Z7
        obtain ⟨j0, j1, j2, j3, j4, j5, j6, l0, l1, l2, l3, l4, l5, l6⟩ := Y8.out
        go_wp2_with fail
        show bodyPost _ _ _ _ _ (putSl (w.heap.size + 2) ph' en' lm' nm' ct' ba' ro' w8)
        have BZ := B8.out.trans (putSl_below (B := w.heap.size) (p := (w.heap.size + 2)) (ph := ph') (en := en') (lm := lm') (nm := nm') (ct := ct') (ba := ba') (ro := ro') (w := w8) (by omega))
        obtain ⟨z0, z1, z2, z3, z4, z5, z6, -, -, -, -, -, -, -⟩ := Y8.out.put (ph' := ph') (en' := en') (lm' := lm') (nm' := nm') (ct' := ct') (ba' := ba') (ro' := ro')
        exact bodyPost_ret (v := aggSl ph' en' lm' nm' ct' ba' ro') (by simp [results, Try.results10, z0, z1, z2, z3, z4, z5, z6, go_sem]) rfl ⟨rfl, BZ⟩
    · obtain rfl : q = false := by rw [← hq, decide_eq_false g]; rfl
      have ht1 : Wig.hturn ⟨ph, en, lm, nm, ct, ba, ro⟩ m n = ⟨ph, en, lm, nm, ct, ba, ro⟩ := if_neg g
      rw [ht1] at he
      simp only at he
      rw [if_neg h] at he
      have ok := hok
      obtain ⟨lo, hlo⟩ : ∃ lo, lo = min nm t := ⟨_, rfl⟩
      obtain ⟨c1, hc1⟩ : ∃ c1, c1 = Wig.fadd ct 1 := ⟨_, rfl⟩
      have ok2 := Wig.hcount_ok (t := t) ok
      unfold Wig.hcount at he ok2
      simp only at he ok2
      rw [← hlo, ← hc1] at he ok2
      have CJ := Lib.hid (fun w => judged_any ph en lm lo c1 ba ro ph' en' lm' nm' ct' ba' ro' w ok2 he)
      have CX := Lib.hid (fun w => (show Calls Try.prog 20 #[.int .u64 (ct : Int), .int .u64 1] w fun e w' => e = .returned (.int .u64 (c1 : Int)) ∧ w = w' by rw [hc1]; exact add_any ct 1 w ok.2.2.2.2.2.1 (by omega)))
      have m1 : ∀ ts ty w, (Builtin.min_ ts ty #[.int .u64 (nm : Int), .int .u64 (t : Int)]).run Try.prog w = .ok (.int .u64 (lo : Int)) w := by
        intro ts ty w
        rw [run_min_int2, show (if (t : Int) < (nm : Int) then (t : Int) else (nm : Int)) = (lo : Int) by split <;> omega]
      clear hm hn ht ok ok2 hok he hlo hc1 hq ht1 g h
      go_enter Try.func10, Try.ntmps10
      go_upto_region 1 with fail
      rw [← hw1, ← hw2, ← hw3]
      clear hw1 hw2 hw3
      go_wp2_with fail
      refine (CM.out).mono ?_
      rintro e w4 ⟨rfl, hb4⟩
      have B4 := Lib.hid (BN.out.trans (hb4.mono BN.out.size))
      have Z4 := Lib.hid (show w.heap.size + 3 ≤ w4.heap.size by have := ZN.out; have := hb4.size; omega)
      have X4 := Lib.hid (XC.out.below hb4 (by have := ZN.out; omega))
      have Y4 := Lib.hid (XZ.out.below hb4 (by have := ZN.out; omega))
      clear hb4 k0 k1 k2 k3 k4 k5 k6 BN XC XZ CA ZN CM
      obtain ⟨k0, k1, k2, k3, k4, k5, k6, kf0, kf1, kf2, kf3, kf4, kf5, kf6⟩ := X4.out
      go_wp2_with fail
      refine (CX.out _).mono ?_
      rintro e _ ⟨rfl, rfl⟩
      go_upto_region 8 with fail
      obtain ⟨w5, hw5⟩ : ∃ wx, wx = (w4.setCell ⟨w.heap.size, 3, none⟩ (.int .u64 (lo : Int))).setCell ⟨w.heap.size, 4, none⟩ (.int .u64 (c1 : Int)) := ⟨_, rfl⟩
      have X5 := Lib.hid (show BxSl w.heap.size ph en lm lo c1 ba ro w5 by rw [hw5]; exact (X4.out.set3).set4)
      have Y5 := Lib.hid (show BxSl (w.heap.size + 2) 0 0 0 0 0 0 0 w5 by rw [hw5]; exact (Y4.out.other rfl (by first | omega | (simp only; omega))).other rfl (by first | omega | (simp only; omega)))
      have B5 := Lib.hid (show Below w.heap.size w w5 by rw [hw5]; exact Below.setCell (Below.setCell B4.out (Nat.le_refl _) _) (Nat.le_refl _) _)
      have Z5 := Lib.hid (show w.heap.size + 3 ≤ w5.heap.size by rw [hw5]; have := Z4.out; simpa using this)
      rw [← hw5]
      clear hw5 k0 k1 k2 k3 k4 k5 k6 kf0 kf1 kf2 kf3 kf4 kf5 kf6 B4 X4 Y4 Z4
      obtain ⟨k0, k1, k2, k3, k4, k5, k6, -, -, -, -, -, -, -⟩ := X5.out
      go_wp2_with fail
      refine (CJ.out _).mono ?_
      rintro e w6 ⟨rfl, hb⟩
      have B6 := Lib.hid (B5.out.trans (hb.mono B5.out.size))
      have Y6 := Lib.hid (Y5.out.below hb (by have := Z5.out; omega))
      clear hb k0 k1 k2 k3 k4 k5 k6 X5 Y5 B5 Z5
      obtain ⟨j0, j1, j2, j3, j4, j5, j6, l0, l1, l2, l3, l4, l5, l6⟩ := Y6.out
      go_wp2_with fail
      show bodyPost _ _ _ _ _ (putSl (w.heap.size + 2) ph' en' lm' nm' ct' ba' ro' w6)
      have BZ := B6.out.trans (putSl_below (B := w.heap.size) (p := (w.heap.size + 2)) (ph := ph') (en := en') (lm := lm') (nm := nm') (ct := ct') (ba := ba') (ro := ro') (w := w6) (by omega))
      obtain ⟨z0, z1, z2, z3, z4, z5, z6, -, -, -, -, -, -, -⟩ := Y6.out.put (ph' := ph') (en' := en') (lm' := lm') (nm' := nm') (ct' := ct') (ba' := ba') (ro' := ro')
      exact bodyPost_ret (v := aggSl ph' en' lm' nm' ct' ba' ro') (by simp [results, Try.results10, z0, z1, z2, z3, z4, z5, z6, go_sem]) rfl ⟨rfl, BZ⟩
end Go.Proofs.Ytaiephdacioedaa
