/-
  What package hystart's turned and judged return, and the document's round, for all numbers of 64 bits. No condition.
-/
import Derived.Test.YtaiephdacioedaaHyA
import Derived.Test.YtaiephdacioedaaRgn
import Derived.Deep.QuietTactic
import Derived.BigQuiet
namespace Go.Proofs.Ytaiephdacioedaa
open Go.ChangeShapes Go.WideShapes Go.ChangeAt Go.RowKit
set_option linter.unusedVariables false

theorem quiet_eq {P : Program} {f : FuncId} {args : Array Value} {w : World} {n : Nat} {v : Value}
    (h : Calls P f args (w.drewN n) fun e w' => e = .returned v ∧ w.drewN n = w') : Calls P f args (w.drewN n) fun e w'' => e = .returned v ∧ ∃ m, w'' = w.drewN m :=
  h.mono fun _ _ ⟨he, hm⟩ => ⟨he, n, hm.symm⟩

/-- Behind two boxes and a call: the second one's cells. -/
theorem two_boxes {w w3 : World} {o : Obj} {t : TypeId} {ph : Int} {en lm nm ct ba ro : Nat} (hb : Below ((w.alloc o).alloc (.cells #[.int .i64 ph, .int .u64 (en : Int), .int .u64 (lm : Int), .int .u64 (nm : Int), .int .u64 (ct : Int), .int .u64 (ba : Int), .int .u64 (ro : Int)] t)).heap.size ((w.alloc o).alloc (.cells #[.int .i64 ph, .int .u64 (en : Int), .int .u64 (lm : Int), .int .u64 (nm : Int), .int .u64 (ct : Int), .int .u64 (ba : Int), .int .u64 (ro : Int)] t)) w3) :
    Below w.heap.size w w3 ∧ BxSl (w.heap.size + 1) ph en lm nm ct ba ro w3 := by
  have h1 : (w.alloc o).heap.size = w.heap.size + 1 := by simp
  have h2 := BxSl.new (w.alloc o) ph en lm nm ct ba ro (t := t)
  rw [h1] at h2
  have hs : ((w.alloc o).alloc (.cells #[.int .i64 ph, .int .u64 (en : Int), .int .u64 (lm : Int), .int .u64 (nm : Int), .int .u64 (ct : Int), .int .u64 (ba : Int), .int .u64 (ro : Int)] t)).heap.size = w.heap.size + 2 := by simp
  refine ⟨(((Below.refl w.heap.size w).alloc (Nat.le_refl _) o).alloc (by simp) _).trans (hb.mono (by rw [hs]; omega)), h2.below hb (by rw [hs]; omega)⟩

set_option maxHeartbeats 2000000 in
theorem turned_any (ph : Int) (en lm nm ct ba ro n : Nat) (ph' : Int) (en' lm' nm' ct' ba' ro' : Nat) (w : World) (hro : ro < 18446744073709551616) (he : Wig.hround ⟨ph, en, lm, nm, ct, ba, ro⟩ n = ⟨ph', en', lm', nm', ct', ba', ro'⟩) :
    Calls Try.prog 19 #[aggSl ph en lm nm ct ba ro, .int .u64 (n : Int)] w fun e w' => e = .returned (aggSl ph' en' lm' nm' ct' ba' ro') ∧ Below w.heap.size w w' := by
  have B := Lib.hid (fun (o o' : Obj) => ((Below.refl w.heap.size w).alloc (Nat.le_refl _) o).alloc (by simp) o')
  unfold Wig.hround at he
  simp only at he
  by_cases h : ph = 1
  · rw [if_pos h] at he
    obtain ⟨x, hx⟩ : ∃ x, x = Wig.fadd ro 1 := ⟨_, rfl⟩
    have CA := Lib.hid (fun w => (show Calls Try.prog 20 #[.int .u64 (ro : Int), .int .u64 1] w fun e w' => e = .returned (.int .u64 (x : Int)) ∧ w = w' by rw [hx]; exact add_any ro 1 w hro (by omega)))
    rw [← hx] at he
    injection he with r1 r2 r3 r4 r5 r6 r7
    subst r2 r3 r4 r5 r6 r7 h
    by_cases g : x = 5
    · rw [if_pos g] at r1
      subst r1
      have CF := Lib.hid (fun w => finish_any 1 n nm 18446744073709551615 0 ba x w)
      have d1 : ((x : Int) == 5) = true := by simp; omega
      have d2 : ((1 : Int) != 1) = false := by decide
      clear hro hx g
      go_enter Try.func19, Try.ntmps19
      go_wp2_with fail
      refine (CA.out _).mono ?_
      rintro e _ ⟨rfl, rfl⟩
      go_wp2_with fail
      refine (CF.out _).mono ?_
      rintro e w3 ⟨rfl, hb⟩
      obtain ⟨b3, y3⟩ := two_boxes hb
      have B3 := Lib.hid b3
      have Y3 := Lib.hid y3
      clear hb b3 y3
      obtain ⟨j0, j1, j2, j3, j4, j5, j6, l0, l1, l2, l3, l4, l5, l6⟩ := Y3.out
      go_wp2_with fail
      show bodyPost _ _ _ _ _ (putSl (w.heap.size + 1) 2 n nm 18446744073709551615 0 ba x w3)
      have BZ := B3.out.trans (putSl_below (B := w.heap.size) (p := (w.heap.size + 1)) (ph := 2) (en := n) (lm := nm) (nm := 18446744073709551615) (ct := 0) (ba := ba) (ro := x) (w := w3) (by omega))
      obtain ⟨z0, z1, z2, z3, z4, z5, z6, -, -, -, -, -, -, -⟩ := Y3.out.put (ph' := 2) (en' := n) (lm' := nm) (nm' := 18446744073709551615) (ct' := 0) (ba' := ba) (ro' := x)
      exact bodyPost_ret (v := aggSl 2 n nm 18446744073709551615 0 ba x) (by simp [results, Try.results19, z0, z1, z2, z3, z4, z5, z6, go_sem]) rfl ⟨rfl, BZ⟩
    · rw [if_neg g] at r1
      subst r1
      have d1 : ((x : Int) == 5) = false := by simp; omega
      have d2 : ((1 : Int) != 1) = false := by decide
      clear hro hx g
      go_enter Try.func19, Try.ntmps19
      go_wp2_with fail
      refine (CA.out _).mono ?_
      rintro e _ ⟨rfl, rfl⟩
      go_wp2_with fail
      exact bodyPost_ret (v := aggSl 1 n nm 18446744073709551615 0 ba x) (by simp [results, Try.results19, go_sem]) rfl ⟨rfl, B.out _ _⟩
  · rw [if_neg h] at he
    injection he with r1 r2 r3 r4 r5 r6 r7
    subst r1 r2 r3 r4 r5 r6 r7
    have d1 : (ph != 1) = true := by simpa using h
    clear hro h
    go_enter Try.func19, Try.ntmps19
    go_wp2_with fail
    exact bodyPost_ret (v := aggSl ph n nm 18446744073709551615 0 ba ro) (by simp [results, Try.results19, go_sem]) rfl ⟨rfl, B.out _ _⟩

set_option maxHeartbeats 2000000 in
theorem rround_any (ph : Int) (en lm nm ct ba ro n : Nat) (ph' : Int) (en' lm' nm' ct' ba' ro' : Nat) (w : World) (hro : ro < 18446744073709551616) (he : Wig.hround ⟨ph, en, lm, nm, ct, ba, ro⟩ n = ⟨ph', en', lm', nm', ct', ba', ro'⟩) :
    Calls Try.prog 22 #[aggSl ph en lm nm ct ba ro, .int .u64 (n : Int)] w fun e w' => e = .returned (aggSl ph' en' lm' nm' ct' ba' ro') ∧ Below w.heap.size w w' := by
  have B := Lib.hid (fun (o o' : Obj) => ((Below.refl w.heap.size w).alloc (Nat.le_refl _) o).alloc (by simp) o')
  unfold Wig.hround at he
  simp only at he
  by_cases h : ph = 1
  · rw [if_pos h] at he
    obtain ⟨x, hx⟩ : ∃ x, x = Wig.fadd ro 1 := ⟨_, rfl⟩
    have CA := Lib.hid (fun w => (show Calls Try.prog 23 #[.int .u64 (ro : Int), .int .u64 1] w fun e w' => e = .returned (.int .u64 (x : Int)) ∧ w = w' by rw [hx]; exact radd_any ro 1 w hro (by omega)))
    rw [← hx] at he
    injection he with r1 r2 r3 r4 r5 r6 r7
    subst r2 r3 r4 r5 r6 r7 h
    by_cases g : x = 5
    · rw [if_pos g] at r1
      subst r1
      have d1 : ((x : Int) == 5) = true := by simp; omega
      have d2 : ((1 : Int) == 1) = true := by decide
      clear hro hx g
      go_enter Try.func22, Try.ntmps22
      go_wp2_with fail
      refine (CA.out _).mono ?_
      rintro e _ ⟨rfl, rfl⟩
      go_wp2_with fail
      exact bodyPost_ret (v := aggSl 2 n nm 18446744073709551615 0 ba x) (by simp [results, Try.results22, go_sem]) rfl ⟨rfl, B.out _ _⟩
    · rw [if_neg g] at r1
      subst r1
      have d1 : ((x : Int) == 5) = false := by simp; omega
      have d2 : ((1 : Int) == 1) = true := by decide
      clear hro hx g
      go_enter Try.func22, Try.ntmps22
      go_wp2_with fail
      refine (CA.out _).mono ?_
      rintro e _ ⟨rfl, rfl⟩
      go_wp2_with fail
      exact bodyPost_ret (v := aggSl 1 n nm 18446744073709551615 0 ba x) (by simp [results, Try.results22, go_sem]) rfl ⟨rfl, B.out _ _⟩
  · rw [if_neg h] at he
    injection he with r1 r2 r3 r4 r5 r6 r7
    subst r1 r2 r3 r4 r5 r6 r7
    have d1 : (ph == 1) = false := by simpa using h
    clear hro h
    go_enter Try.func22, Try.ntmps22
    go_wp2_with fail
    exact bodyPost_ret (v := aggSl ph n nm 18446744073709551615 0 ba ro) (by simp [results, Try.results22, go_sem]) rfl ⟨rfl, B.out _ _⟩

set_option maxHeartbeats 4000000 in
theorem judged_any (ph : Int) (en lm nm ct ba ro : Nat) (ph' : Int) (en' lm' nm' ct' ba' ro' : Nat) (w : World) (hok : Wig.Sw.Ok ⟨ph, en, lm, nm, ct, ba, ro⟩) (he : Wig.htell ⟨ph, en, lm, nm, ct, ba, ro⟩ = ⟨ph', en', lm', nm', ct', ba', ro'⟩) :
    Calls Try.prog 21 #[aggSl ph en lm nm ct ba ro] w fun e w' => e = .returned (aggSl ph' en' lm' nm' ct' ba' ro') ∧ Below w.heap.size w w' := by
  obtain ⟨-, -, hen, hlm, hnm, hct, hba, hro⟩ := hok
  simp only at hen hlm hnm hct hba hro
  have B := Lib.hid (fun (o o' : Obj) => ((Below.refl w.heap.size w).alloc (Nat.le_refl _) o).alloc (by simp) o')
  unfold Wig.htell at he
  simp only at he
  by_cases g1 : ct < 8
  · rw [if_pos (.inl g1)] at he
    injection he with r1 r2 r3 r4 r5 r6 r7
    subst r1 r2 r3 r4 r5 r6 r7
    have d1 : decide ((ct : Int) < 8) = true := decide_eq_true (by omega)
    clear hen hlm hnm hct hba hro g1
    go_enter Try.func21, Try.ntmps21
    go_wp2_with fail
    exact bodyPost_ret (v := aggSl ph en lm nm ct ba ro) (by simp [results, Try.results21, go_sem]) rfl ⟨rfl, B.out _ _⟩
  · by_cases g2 : nm = 18446744073709551615
    · rw [if_pos (.inr (.inl g2))] at he
      injection he with r1 r2 r3 r4 r5 r6 r7
      subst r1 r2 r3 r4 r5 r6 r7
      have d1 : decide ((ct : Int) < 8) = false := decide_eq_false (by omega)
      have d2 : ((nm : Int) == 18446744073709551615) = true := by simp; omega
      clear hen hlm hnm hct hba hro g1 g2
      go_enter Try.func21, Try.ntmps21
      go_wp2_with fail
      exact bodyPost_ret (v := aggSl ph en lm nm ct ba ro) (by simp [results, Try.results21, go_sem]) rfl ⟨rfl, B.out _ _⟩
    · by_cases g3 : lm = 18446744073709551615
      · rw [if_pos (.inr (.inr g3))] at he
        injection he with r1 r2 r3 r4 r5 r6 r7
        subst r1 r2 r3 r4 r5 r6 r7
        have d1 : decide ((ct : Int) < 8) = false := decide_eq_false (by omega)
        have d2 : ((nm : Int) == 18446744073709551615) = false := by simp; omega
        have d3 : ((lm : Int) == 18446744073709551615) = true := by simp; omega
        clear hen hlm hnm hct hba hro g1 g2 g3
        go_enter Try.func21, Try.ntmps21
        go_wp2_with fail
        exact bodyPost_ret (v := aggSl ph en lm nm ct ba ro) (by simp [results, Try.results21, go_sem]) rfl ⟨rfl, B.out _ _⟩
      · rw [if_neg (by omega)] at he
        have d1 : decide ((ct : Int) < 8) = false := decide_eq_false (by omega)
        have d2 : ((nm : Int) == 18446744073709551615) = false := by simp; omega
        have d3 : ((lm : Int) == 18446744073709551615) = false := by simp; omega
        by_cases p0 : ph = 0
        · rw [if_pos p0] at he
          subst p0
          obtain ⟨l, hl⟩ : ∃ l, l = Wig.hlimit lm := ⟨_, rfl⟩
          obtain ⟨s, hs⟩ : ∃ s, s = Wig.fadd lm l := ⟨_, rfl⟩
          have CL := Lib.hid (fun w => limit_any lm l w hl.symm hlm)
          have l16 := Wig.hlimit_le lm
          have CA := Lib.hid (fun w => add_any lm l w hlm (by omega))
          rw [← hs] at CA
          rw [← hl, ← hs] at he
          have p0 : ((0 : Int) == 0) = true := by decide
          obtain ⟨w1, hw1⟩ : ∃ wx, wx = w.alloc (.cells #[.int .i64 0, .int .u64 (en : Int), .int .u64 (lm : Int), .int .u64 (nm : Int), .int .u64 (ct : Int), .int .u64 (ba : Int), .int .u64 (ro : Int)] 25) := ⟨_, rfl⟩
          have z1 : w1.heap.size = w.heap.size + 1 := by rw [hw1]; simp
          obtain ⟨w2, hw2⟩ : ∃ wx, wx = w1.alloc (.cells #[.int .i64 0, .int .u64 0, .int .u64 0, .int .u64 0, .int .u64 0, .int .u64 0, .int .u64 0] 25) := ⟨_, rfl⟩
          have z2 : w2.heap.size = w.heap.size + 2 := by rw [hw2]; simp; omega
          have t2 : Below w2.heap.size w2 w2 := Below.refl _ _
          have t1 : Below w1.heap.size w1 w2 := (show Below w1.heap.size w1 w2 by rw [hw2]; exact (Below.refl _ _).alloc (Nat.le_refl _) _).trans (t2.mono (by omega))
          have t0 : Below w.heap.size w w2 := (show Below w.heap.size w w1 by rw [hw1]; exact (Below.refl _ _).alloc (Nat.le_refl _) _).trans (t1.mono (by omega))
          have BN := Lib.hid t0
          have ZN := Lib.hid z2
          have XC := Lib.hid (show BxSl w.heap.size 0 en lm nm ct ba ro w2 from (show BxSl w.heap.size 0 en lm nm ct ba ro w1 by rw [hw1]; exact BxSl.new _ 0 en lm nm ct ba ro).below t1 (by omega))
          have XZ := Lib.hid (show BxSl (w.heap.size + 1) 0 0 0 0 0 0 0 w2 from (show BxSl (w.heap.size + 1) 0 0 0 0 0 0 0 w2 by rw [hw2, ← z1]; exact BxSl.new _ 0 0 0 0 0 0 0).below t2 (by omega))
          clear t0 t1 t2 z1 z2
          obtain ⟨k0, k1, k2, k3, k4, k5, k6, -, -, -, -, -, -, -⟩ := XC.out
          clear l16 hl hen hlm hnm hct hba hro g1 g2 g3
          by_cases hc : s ≤ nm
          · rw [if_pos hc] at he
            injection he with r1 r2 r3 r4 r5 r6 r7
            subst r1 r2 r3 r4 r5 r6 r7
            have t1 : decide (s ≤ nm) = true := decide_eq_true hc
            clear hc hs
            go_enter Try.func21, Try.ntmps21
            go_upto_region 1 with fail
            rw [← hw1, ← hw2]
            clear hw1 hw2
            go_wp2_with fail
            go_quiet (first | (go_at_call 26; with_reducible exact quiet_eq (CL.out _)) | (go_at_call 20; with_reducible exact quiet_eq (CA.out _)) | fail)
            clear k0 k1 k2 k3 k4 k5 k6
            obtain ⟨k0, k1, k2, k3, k4, k5, k6, m0, m1, m2, m3, m4, m5, m6⟩ := XC.out.drewN nq
            go_upto_region 10 with fail
            obtain ⟨w3, hw3⟩ : ∃ w3, w3 = (((w2.drewN nq).setCell ⟨w.heap.size, 0, none⟩ (.int .i64 1)).setCell ⟨w.heap.size, 5, none⟩ (.int .u64 (nm : Int))).setCell ⟨w.heap.size, 6, none⟩ (.int .u64 0) := ⟨_, rfl⟩
            have X3 := Lib.hid (show BxSl w.heap.size 1 en lm nm ct nm 0 w3 by rw [hw3]; exact (((XC.out.drewN nq).set0).set5).set6)
            have Y3 := Lib.hid (show BxSl (w.heap.size + 1) 0 0 0 0 0 0 0 w3 by rw [hw3]; exact (((XZ.out.drewN nq).other rfl (by first | omega | (simp only; omega))).other rfl (by first | omega | (simp only; omega))).other rfl (by first | omega | (simp only; omega)))
            have B3 := Lib.hid (show Below w.heap.size w w3 by rw [hw3]; exact Below.setCell (Below.setCell (Below.setCell (below_drewN' BN.out nq) (Nat.le_refl _) _) (Nat.le_refl _) _) (Nat.le_refl _) _)
            rw [← hw3]
            clear hw3 k0 k1 k2 k3 k4 k5 k6 m0 m1 m2 m3 m4 m5 m6 XC XZ BN
            obtain ⟨k0, k1, k2, k3, k4, k5, k6, -, -, -, -, -, -, -⟩ := X3.out
            obtain ⟨j0, j1, j2, j3, j4, j5, j6, n0, n1, n2, n3, n4, n5, n6⟩ := Y3.out
            go_wp2_with fail
            show bodyPost _ _ _ _ _ (putSl (w.heap.size + 1) 1 en lm nm ct nm 0 w3)
            have BZ := B3.out.trans (putSl_below (B := w.heap.size) (p := (w.heap.size + 1)) (ph := 1) (en := en) (lm := lm) (nm := nm) (ct := ct) (ba := nm) (ro := 0) (w := w3) (by omega))
            obtain ⟨z0, z1, z2, z3, z4, z5, z6, -, -, -, -, -, -, -⟩ := Y3.out.put (ph' := 1) (en' := en) (lm' := lm) (nm' := nm) (ct' := ct) (ba' := nm) (ro' := 0)
            exact bodyPost_ret (v := aggSl 1 en lm nm ct nm 0) (by simp [results, Try.results21, z0, z1, z2, z3, z4, z5, z6, go_sem]) rfl ⟨rfl, BZ⟩
          · rw [if_neg hc] at he
            injection he with r1 r2 r3 r4 r5 r6 r7
            subst r1 r2 r3 r4 r5 r6 r7
            have t1 : decide (s ≤ nm) = false := decide_eq_false hc
            clear hc hs
            go_enter Try.func21, Try.ntmps21
            go_upto_region 1 with fail
            rw [← hw1, ← hw2]
            clear hw1 hw2
            go_wp2_with fail
            go_quiet (first | (go_at_call 26; with_reducible exact quiet_eq (CL.out _)) | (go_at_call 20; with_reducible exact quiet_eq (CA.out _)) | fail)
            clear k0 k1 k2 k3 k4 k5 k6
            obtain ⟨k0, k1, k2, k3, k4, k5, k6, m0, m1, m2, m3, m4, m5, m6⟩ := XC.out.drewN nq
            obtain ⟨w3, hw3⟩ : ∃ w3, w3 = w2.drewN nq := ⟨_, rfl⟩
            rw [← hw3] at k0 k1 k2 k3 k4 k5 k6 ⊢
            have Y3 := Lib.hid (show BxSl (w.heap.size + 1) 0 0 0 0 0 0 0 w3 by rw [hw3]; exact XZ.out.drewN nq)
            have B3 := Lib.hid (show Below w.heap.size w w3 by rw [hw3]; exact below_drewN' BN.out nq)
            clear hw3 m0 m1 m2 m3 m4 m5 m6 XC XZ BN
            obtain ⟨j0, j1, j2, j3, j4, j5, j6, n0, n1, n2, n3, n4, n5, n6⟩ := Y3.out
            go_wp2_with fail
            show bodyPost _ _ _ _ _ (putSl (w.heap.size + 1) 0 en lm nm ct ba ro w3)
            have BZ := B3.out.trans (putSl_below (B := w.heap.size) (p := (w.heap.size + 1)) (ph := 0) (en := en) (lm := lm) (nm := nm) (ct := ct) (ba := ba) (ro := ro) (w := w3) (by omega))
            obtain ⟨z0, z1, z2, z3, z4, z5, z6, -, -, -, -, -, -, -⟩ := Y3.out.put (ph' := 0) (en' := en) (lm' := lm) (nm' := nm) (ct' := ct) (ba' := ba) (ro' := ro)
            exact bodyPost_ret (v := aggSl 0 en lm nm ct ba ro) (by simp [results, Try.results21, z0, z1, z2, z3, z4, z5, z6, go_sem]) rfl ⟨rfl, BZ⟩
        · rw [if_neg p0] at he
          have q0 : (ph == 0) = false := by simpa using p0
          by_cases p1 : ph = 1
          · rw [if_pos p1] at he
            subst p1
            have q1 : ((1 : Int) == 1) = true := by decide
            by_cases hc : nm < ba
            · rw [if_pos hc] at he
              injection he with r1 r2 r3 r4 r5 r6 r7
              subst r1 r2 r3 r4 r5 r6 r7
              have t1 : decide (nm < ba) = true := decide_eq_true hc
              clear hen hlm hnm hct hba hro hc p0 g1 g2 g3
              go_enter Try.func21, Try.ntmps21
              go_wp2_with fail
              exact bodyPost_ret (v := aggSl 0 en lm nm ct 18446744073709551615 ro) (by simp [results, Try.results21, go_sem]) rfl ⟨rfl, B.out _ _⟩
            · rw [if_neg hc] at he
              injection he with r1 r2 r3 r4 r5 r6 r7
              subst r1 r2 r3 r4 r5 r6 r7
              have t1 : decide (nm < ba) = false := decide_eq_false hc
              clear hen hlm hnm hct hba hro hc p0 g1 g2 g3
              go_enter Try.func21, Try.ntmps21
              go_wp2_with fail
              exact bodyPost_ret (v := aggSl 1 en lm nm ct ba ro) (by simp [results, Try.results21, go_sem]) rfl ⟨rfl, B.out _ _⟩
          · rw [if_neg p1] at he
            have q1 : (ph == 1) = false := by simpa using p1
            injection he with r1 r2 r3 r4 r5 r6 r7
            subst r1 r2 r3 r4 r5 r6 r7
            clear hen hlm hnm hct hba hro p0 p1 g1 g2 g3
            go_enter Try.func21, Try.ntmps21
            go_wp2_with fail
            exact bodyPost_ret (v := aggSl ph en lm nm ct ba ro) (by simp [results, Try.results21, go_sem]) rfl ⟨rfl, B.out _ _⟩
end Go.Proofs.Ytaiephdacioedaa
