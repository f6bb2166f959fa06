/-
  What the document's Sample of layer 11 returns, for all numbers of 64 bits: the same as package hystart's. No condition.
-/
import Derived.Test.YtaiephdacioedaaHyB
import Derived.Deep.CutBlock
import Derived.Deep.DeepCutAuto
namespace Go.Proofs.Ytaiephdacioedaa
open Go.ChangeShapes Go.WideShapes Go.ChangeAt Go.RowKit
set_option linter.unusedVariables false

/-- What lies in the two boxes of the document's Sample. -/
def TwoRel (ph : Int) (en lm nm ct ba ro : Nat) (w wx : World) : Prop := BxSl w.heap.size ph en lm nm ct ba ro wx ∧ BxSl (w.heap.size + 1) 0 0 0 0 0 0 0 wx ∧ Below w.heap.size w wx ∧ w.heap.size + 2 ≤ wx.heap.size

set_option maxHeartbeats 8000000 in
theorem rsample_any (ph : Int) (en lm nm ct ba ro m n t : Nat) (ph' : Int) (en' lm' nm' ct' ba' ro' : Nat) (w : World) (hok : Wig.Sw.Ok ⟨ph, en, lm, nm, ct, ba, ro⟩) (hm : m < 18446744073709551616) (hn : n < 18446744073709551616) (ht : t < 18446744073709551616) (he : Wig.hsample ⟨ph, en, lm, nm, ct, ba, ro⟩ m n t = ⟨ph', en', lm', nm', ct', ba', ro'⟩) :
    Calls Try.prog 11 #[aggSl ph en lm nm ct ba ro, .int .u64 (m : Int), .int .u64 (n : Int), .int .u64 (t : Int)] w fun e w' => e = .returned (aggSl ph' en' lm' nm' ct' ba' ro') ∧ Below w.heap.size w w' := by
  obtain ⟨w1, hw1⟩ : ∃ wx, wx = w.alloc (.cells #[.int .i64 ph, .int .u64 (en : Int), .int .u64 (lm : Int), .int .u64 (nm : Int), .int .u64 (ct : Int), .int .u64 (ba : Int), .int .u64 (ro : Int)] 25) := ⟨_, rfl⟩
  have z1 : w1.heap.size = w.heap.size + 1 := by rw [hw1]; simp
  obtain ⟨w2, hw2⟩ : ∃ wx, wx = w1.alloc (.cells #[.int .i64 0, .int .u64 0, .int .u64 0, .int .u64 0, .int .u64 0, .int .u64 0, .int .u64 0] 25) := ⟨_, rfl⟩
  have z2 : w2.heap.size = w.heap.size + 2 := by rw [hw2]; simp; omega
  have t2 : Below w2.heap.size w2 w2 := Below.refl _ _
  have t1 : Below w1.heap.size w1 w2 := (show Below w1.heap.size w1 w2 by rw [hw2]; exact (Below.refl _ _).alloc (Nat.le_refl _) _).trans (t2.mono (by omega))
  have t0 : Below w.heap.size w w2 := (show Below w.heap.size w w1 by rw [hw1]; exact (Below.refl _ _).alloc (Nat.le_refl _) _).trans (t1.mono (by omega))
  have BN := Lib.hid t0
  have ZN := Lib.hid z2
  have XC := Lib.hid (show BxSl w.heap.size ph en lm nm ct ba ro w2 from (show BxSl w.heap.size ph en lm nm ct ba ro w1 by rw [hw1]; exact BxSl.new _ ph en lm nm ct ba ro).below t1 (by omega))
  have XZ := Lib.hid (show BxSl (w.heap.size + 1) 0 0 0 0 0 0 0 w2 from (show BxSl (w.heap.size + 1) 0 0 0 0 0 0 0 w2 by rw [hw2, ← z1]; exact BxSl.new _ 0 0 0 0 0 0 0).below t2 (by omega))
  clear t0 t1 t2 z1 z2
  obtain ⟨k0, k1, k2, k3, k4, k5, k6, kf0, kf1, kf2, kf3, kf4, kf5, kf6⟩ := XC.out
  unfold Wig.hsample at he
  by_cases h : ph = 2
  · rw [if_pos h] at he
    injection he with r1 r2 r3 r4 r5 r6 r7
    subst r1 r2 r3 r4 r5 r6 r7
    subst h
    have d1 : ((2 : Int) == 2) = true := by decide
    clear hok hm hn ht
    go_enter Try.func11, Try.ntmps11
    go_upto_region 1 with fail
    rw [← hw1, ← hw2]
    clear hw1 hw2
    obtain ⟨j0, j1, j2, j3, j4, j5, j6, l0, l1, l2, l3, l4, l5, l6⟩ := XZ.out
    go_wp2_with fail
    show bodyPost _ _ _ _ _ (putSl (w.heap.size + 1) 2 en lm nm ct ba ro w2)
    have BZ := BN.out.trans (putSl_below (B := w.heap.size) (p := (w.heap.size + 1)) (ph := 2) (en := en) (lm := lm) (nm := nm) (ct := ct) (ba := ba) (ro := ro) (w := w2) (by omega))
    obtain ⟨z0, z1, z2, z3, z4, z5, z6, -, -, -, -, -, -, -⟩ := XZ.out.put (ph' := 2) (en' := en) (lm' := lm) (nm' := nm) (ct' := ct) (ba' := ba) (ro' := ro)
    exact bodyPost_ret (v := aggSl 2 en lm nm ct ba ro) (by simp [results, Try.results11, z0, z1, z2, z3, z4, z5, z6, go_sem]) rfl ⟨rfl, BZ⟩
  · rw [if_neg h] at he
    have d1 : (ph == 2) = false := by simpa using h
    have ok := Wig.hturn_ok (m := m) (n := n) hok hn
    obtain ⟨⟨a, b, c, d, f, y, i⟩, hr⟩ : ∃ x, Wig.hturn ⟨ph, en, lm, nm, ct, ba, ro⟩ m n = x := ⟨_, rfl⟩
    rw [hr] at he ok
    simp only at he
    have HR := Lib.hid hr
    have HT := Lib.hid (And.intro hok (And.intro hn ok))
    have HE := Lib.hid he
    have HL := Lib.hid (And.intro hm ht)
    clear hr hok hn ok he hm ht h
    go_enter Try.func11, Try.ntmps11
    go_upto_region 1 with fail
    rw [← hw1, ← hw2]
    clear hw1 hw2
    go_upto_if 16 with fail
    go_cut [] (fun wx => TwoRel a b c d f y i w wx)
    case first =>
      by_cases g : en ≤ m
      · have t1 : decide (en ≤ m) = true := decide_eq_true g
        have hr : Wig.hround ⟨ph, en, lm, nm, ct, ba, ro⟩ n = ⟨a, b, c, d, f, y, i⟩ := by rw [← HR.out]; exact (if_pos g).symm
        have CT := Lib.hid (fun w => rround_any ph en lm nm ct ba ro n a b c d f y i w HT.out.1.2.2.2.2.2.2.2 hr)
        clear g hr
        rw [t1]
        clear t1
        go_wp2_with fail
        refine (CT.out _).mono ?_
        rintro e w5 ⟨rfl, hb5⟩
        have B5 := Lib.hid (BN.out.trans (hb5.mono BN.out.size))
        have X5 := Lib.hid (XC.out.below hb5 (by have := ZN.out; omega))
        have Y5 := Lib.hid (XZ.out.below hb5 (by have := ZN.out; omega))
        have Z5 := Lib.hid (show w.heap.size + 2 ≤ w5.heap.size by have := ZN.out; have := hb5.size; omega)
        have RZ := Lib.hid (show TwoRel a b c d f y i w (putSl w.heap.size a b c d f y i w5) from ⟨X5.out.put, (by unfold putSl; exact (((((((Y5.out.other rfl (by first | omega | (simp only; omega))).other rfl (by first | omega | (simp only; omega))).other rfl (by first | omega | (simp only; omega))).other rfl (by first | omega | (simp only; omega))).other rfl (by first | omega | (simp only; omega))).other rfl (by first | omega | (simp only; omega))).other rfl (by first | omega | (simp only; omega)))), B5.out.trans (putSl_below (Nat.le_refl _)), Nat.le_trans Z5.out (putSl_below (B := 0) (Nat.zero_le _)).size⟩)
        clear hb5 k0 k1 k2 k3 k4 k5 k6 kf0 kf1 kf2 kf3 kf4 kf5 kf6
        obtain ⟨k0, k1, k2, k3, k4, k5, k6, kf0, kf1, kf2, kf3, kf4, kf5, kf6⟩ := X5.out
        go_wp2_with fail
        go_meet
        case rel => exact RZ.out
      · have t1 : decide (en ≤ m) = false := decide_eq_false g
        have hr : (⟨ph, en, lm, nm, ct, ba, ro⟩ : Wig.Sw) = ⟨a, b, c, d, f, y, i⟩ := by rw [← HR.out]; exact (if_neg g).symm
        injection hr with r1 r2 r3 r4 r5 r6 r7
        subst r1 r2 r3 r4 r5 r6 r7
        clear g
        rw [t1]
        clear t1
        go_wp2_with fail
        go_meet
        case rel => exact ⟨XC.out, XZ.out, BN.out, Nat.le_of_eq ZN.out.symm⟩
    case rest =>
    obtain ⟨hx, hy, hb, hz⟩ := hcut
    have XC2 := Lib.hid hx
    have XZ2 := Lib.hid hy
    have B2 := Lib.hid hb
    have Z2 := Lib.hid hz
    clear hx hy hb hz k0 k1 k2 k3 k4 k5 k6 kf0 kf1 kf2 kf3 kf4 kf5 kf6 XC XZ BN ZN HR d1
    obtain ⟨k0, k1, k2, k3, k4, k5, k6, kf0, kf1, kf2, kf3, kf4, kf5, kf6⟩ := XC2.out
    have he := HE.out
    clear HE
    by_cases h2 : a = 2
    · rw [if_pos h2] at he
      injection he with r1 r2 r3 r4 r5 r6 r7
      subst r1 r2 r3 r4 r5 r6 r7
      have d1 : (a == 2) = true := by simpa using h2
      clear h2
      obtain ⟨j0, j1, j2, j3, j4, j5, j6, l0, l1, l2, l3, l4, l5, l6⟩ := XZ2.out
      go_wp2_with fail
      show bodyPost _ _ _ _ _ (putSl (w.heap.size + 1) a b c d f y i wc)
      have BZ := B2.out.trans (putSl_below (B := w.heap.size) (p := (w.heap.size + 1)) (ph := a) (en := b) (lm := c) (nm := d) (ct := f) (ba := y) (ro := i) (w := wc) (by omega))
      obtain ⟨z0, z1, z2, z3, z4, z5, z6, -, -, -, -, -, -, -⟩ := XZ2.out.put (ph' := a) (en' := b) (lm' := c) (nm' := d) (ct' := f) (ba' := y) (ro' := i)
      exact bodyPost_ret (v := aggSl a b c d f y i) (by simp [results, Try.results11, z0, z1, z2, z3, z4, z5, z6, go_sem]) rfl ⟨rfl, BZ⟩
    · rw [if_neg h2] at he
      have d1 : (a == 2) = false := by simpa using h2
      have ok := HT.out.2.2
      obtain ⟨lo, hlo⟩ : ∃ lo, lo = min d t := ⟨_, rfl⟩
      obtain ⟨c1, hc1⟩ : ∃ c1, c1 = Wig.fadd f 1 := ⟨_, rfl⟩
      have ok2 := Wig.hcount_ok (t := t) ok
      unfold Wig.hcount at he ok2
      simp only at he ok2
      rw [← hlo, ← hc1] at he ok2
      have CX := Lib.hid (fun w => (show Calls Try.prog 23 #[.int .u64 (f : Int), .int .u64 1] w fun e w' => e = .returned (.int .u64 (c1 : Int)) ∧ w = w' by rw [hc1]; exact radd_any f 1 w ok.2.2.2.2.2.1 (by omega)))
      have HLO := Lib.hid hlo
      have HE := Lib.hid he
      have HK := Lib.hid ok2
      clear hlo he ok2 hc1 ok h2 HT
      go_upto_if 27 with fail
      go_cut [] (fun wx => TwoRel a b c lo f y i w wx)
      case first =>
        by_cases g : t < d
        · have t1 : decide (t < d) = true := decide_eq_true g
          obtain rfl : lo = t := by have := HLO.out; omega
          clear g
          rw [t1]
          clear t1
          go_wp2_with fail
          go_meet
          case rel => exact ⟨XC2.out.set3, XZ2.out.other rfl (by first | omega | (simp only; omega)), Below.setCell B2.out (Nat.le_refl _) _, by have := Z2.out; simpa using this⟩
        · have t1 : decide (t < d) = false := decide_eq_false g
          obtain rfl : lo = d := by have := HLO.out; omega
          clear g
          rw [t1]
          clear t1
          go_wp2_with fail
          go_meet
          case rel => exact ⟨XC2.out, XZ2.out, B2.out, Z2.out⟩
      case rest =>
      clear k0 k1 k2 k3 k4 k5 k6 kf0 kf1 kf2 kf3 kf4 kf5 kf6 d1 HLO XC2 XZ2 B2 Z2
      obtain ⟨hx, hy, hb, hz⟩ := hcut
      have XC2 := Lib.hid hx
      have XZ2 := Lib.hid hy
      have B2 := Lib.hid hb
      have Z2 := Lib.hid hz
      clear hx hy hb hz
      obtain ⟨k0, k1, k2, k3, k4, k5, k6, kf0, kf1, kf2, kf3, kf4, kf5, kf6⟩ := XC2.out
      go_wp2_with fail
      refine (CX.out _).mono ?_
      rintro e _ ⟨rfl, rfl⟩
      go_upto_region 10 with fail
      obtain ⟨w7, hw7⟩ : ∃ wx, wx = wc.setCell ⟨w.heap.size, 4, none⟩ (.int .u64 (c1 : Int)) := ⟨_, rfl⟩
      rw [← hw7]
      have X7 := Lib.hid (show BxSl w.heap.size a b c lo c1 y i w7 by rw [hw7]; exact XC2.out.set4)
      have Y7 := Lib.hid (show BxSl (w.heap.size + 1) 0 0 0 0 0 0 0 w7 by rw [hw7]; exact XZ2.out.other rfl (by first | omega | (simp only; omega)))
      have B7 := Lib.hid (show Below w.heap.size w w7 by rw [hw7]; exact Below.setCell B2.out (Nat.le_refl _) _)
      clear hw7 k0 k1 k2 k3 k4 k5 k6 kf0 kf1 kf2 kf3 kf4 kf5 kf6 XC2 XZ2 B2 Z2 CX
      obtain ⟨k0, k1, k2, k3, k4, k5, k6, kf0, kf1, kf2, kf3, kf4, kf5, kf6⟩ := X7.out
      have he := HE.out
      obtain ⟨-, -, hen, hlm, hnm, hct, hba, hro⟩ := HK.out
      simp only at hen hlm hnm hct hba hro
      clear HE HK
      unfold Wig.htell at he
      simp only at he
      by_cases g1 : c1 < 8
      · rw [if_pos (.inl g1)] at he
        injection he with r1 r2 r3 r4 r5 r6 r7
        subst r1 r2 r3 r4 r5 r6 r7
        have d1 : decide ((c1 : Int) < 8) = true := decide_eq_true (by omega)
        clear hen hlm hnm hct hba hro g1
        obtain ⟨j0, j1, j2, j3, j4, j5, j6, l0, l1, l2, l3, l4, l5, l6⟩ := Y7.out
        go_wp2_with fail
        show bodyPost _ _ _ _ _ (putSl (w.heap.size + 1) a b c lo c1 y i w7)
        have BZ := B7.out.trans (putSl_below (B := w.heap.size) (p := (w.heap.size + 1)) (ph := a) (en := b) (lm := c) (nm := lo) (ct := c1) (ba := y) (ro := i) (w := w7) (by omega))
        obtain ⟨z0, z1, z2, z3, z4, z5, z6, -, -, -, -, -, -, -⟩ := Y7.out.put (ph' := a) (en' := b) (lm' := c) (nm' := lo) (ct' := c1) (ba' := y) (ro' := i)
        exact bodyPost_ret (v := aggSl a b c lo c1 y i) (by simp [results, Try.results11, z0, z1, z2, z3, z4, z5, z6, go_sem]) rfl ⟨rfl, BZ⟩
      · by_cases g2 : lo = 18446744073709551615
        · rw [if_pos (.inr (.inl g2))] at he
          injection he with r1 r2 r3 r4 r5 r6 r7
          subst r1 r2 r3 r4 r5 r6 r7
          have d1 : decide ((c1 : Int) < 8) = false := decide_eq_false (by omega)
          have d2 : ((lo : Int) == 18446744073709551615) = true := by simp; omega
          clear hen hlm hnm hct hba hro g1 g2
          obtain ⟨j0, j1, j2, j3, j4, j5, j6, l0, l1, l2, l3, l4, l5, l6⟩ := Y7.out
          go_wp2_with fail
          show bodyPost _ _ _ _ _ (putSl (w.heap.size + 1) a b c lo c1 y i w7)
          have BZ := B7.out.trans (putSl_below (B := w.heap.size) (p := (w.heap.size + 1)) (ph := a) (en := b) (lm := c) (nm := lo) (ct := c1) (ba := y) (ro := i) (w := w7) (by omega))
          obtain ⟨z0, z1, z2, z3, z4, z5, z6, -, -, -, -, -, -, -⟩ := Y7.out.put (ph' := a) (en' := b) (lm' := c) (nm' := lo) (ct' := c1) (ba' := y) (ro' := i)
          exact bodyPost_ret (v := aggSl a b c lo c1 y i) (by simp [results, Try.results11, z0, z1, z2, z3, z4, z5, z6, go_sem]) rfl ⟨rfl, BZ⟩
        · by_cases g3 : c = 18446744073709551615
          · rw [if_pos (.inr (.inr g3))] at he
            injection he with r1 r2 r3 r4 r5 r6 r7
            subst r1 r2 r3 r4 r5 r6 r7
            have d1 : decide ((c1 : Int) < 8) = false := decide_eq_false (by omega)
            have d2 : ((lo : Int) == 18446744073709551615) = false := by simp; omega
            have d3 : ((c : Int) == 18446744073709551615) = true := by simp; omega
            clear hen hlm hnm hct hba hro g1 g2 g3
            obtain ⟨j0, j1, j2, j3, j4, j5, j6, l0, l1, l2, l3, l4, l5, l6⟩ := Y7.out
            go_wp2_with fail
            show bodyPost _ _ _ _ _ (putSl (w.heap.size + 1) a b c lo c1 y i w7)
            have BZ := B7.out.trans (putSl_below (B := w.heap.size) (p := (w.heap.size + 1)) (ph := a) (en := b) (lm := c) (nm := lo) (ct := c1) (ba := y) (ro := i) (w := w7) (by omega))
            obtain ⟨z0, z1, z2, z3, z4, z5, z6, -, -, -, -, -, -, -⟩ := Y7.out.put (ph' := a) (en' := b) (lm' := c) (nm' := lo) (ct' := c1) (ba' := y) (ro' := i)
            exact bodyPost_ret (v := aggSl a b c lo c1 y i) (by simp [results, Try.results11, z0, z1, z2, z3, z4, z5, z6, go_sem]) rfl ⟨rfl, BZ⟩
          · rw [if_neg (by omega)] at he
            have d1 : decide ((c1 : Int) < 8) = false := decide_eq_false (by omega)
            have d2 : ((lo : Int) == 18446744073709551615) = false := by simp; omega
            have d3 : ((c : Int) == 18446744073709551615) = false := by simp; omega
            by_cases p0 : a = 0
            · rw [if_pos p0] at he
              subst p0
              obtain ⟨l, hl⟩ : ∃ l, l = Wig.hlimit c := ⟨_, rfl⟩
              obtain ⟨s, hs⟩ : ∃ s, s = Wig.fadd c l := ⟨_, rfl⟩
              have CL := Lib.hid (fun w => rlimit_any c l w hl.symm hlm)
              have l16 := Wig.hlimit_le c
              have CA := Lib.hid (fun w => radd_any c l w hlm (by omega))
              rw [← hs] at CA
              rw [← hl, ← hs] at he
              have p0 : ((0 : Int) == 0) = true := by decide
              have p1 : ((0 : Int) == 1) = false := by decide
              clear hen hlm hnm hct hba hro g1 g2 g3 l16 hl hs
              by_cases hc : s ≤ lo
              · rw [if_pos hc] at he
                injection he with r1 r2 r3 r4 r5 r6 r7
                subst r1 r2 r3 r4 r5 r6 r7
                have t1 : decide (s ≤ lo) = true := decide_eq_true hc
                clear hc
                go_wp2_with fail
                go_quiet (first | (go_at_call 24; with_reducible exact quiet_eq (CL.out _)) | (go_at_call 23; with_reducible exact quiet_eq (CA.out _)) | fail)
                clear k0 k1 k2 k3 k4 k5 k6 kf0 kf1 kf2 kf3 kf4 kf5 kf6
                obtain ⟨k0, k1, k2, k3, k4, k5, k6, kf0, kf1, kf2, kf3, kf4, kf5, kf6⟩ := X7.out.drewN nq
                go_upto_region 16 with fail
                obtain ⟨w8, hw8⟩ : ∃ w8, w8 = (((w7.drewN nq).setCell ⟨w.heap.size, 0, none⟩ (.int .i64 1)).setCell ⟨w.heap.size, 5, none⟩ (.int .u64 (lo : Int))).setCell ⟨w.heap.size, 6, none⟩ (.int .u64 0) := ⟨_, rfl⟩
                have X8 := Lib.hid (show BxSl w.heap.size 1 b c lo c1 lo 0 w8 by rw [hw8]; exact ((((X7.out.drewN nq).set0).set5).set6))
                have Y8 := Lib.hid (show BxSl (w.heap.size + 1) 0 0 0 0 0 0 0 w8 by rw [hw8]; exact ((((Y7.out.drewN nq).other rfl (by first | omega | (simp only; omega))).other rfl (by first | omega | (simp only; omega))).other rfl (by first | omega | (simp only; omega))))
                have B8 := Lib.hid (show Below w.heap.size w w8 by rw [hw8]; exact (Below.setCell (Below.setCell (Below.setCell (below_drewN' B7.out nq) (Nat.le_refl _) _) (Nat.le_refl _) _) (Nat.le_refl _) _))
                rw [← hw8]
                clear hw8 X7 Y7 B7 k0 k1 k2 k3 k4 k5 k6 kf0 kf1 kf2 kf3 kf4 kf5 kf6
                obtain ⟨k0, k1, k2, k3, k4, k5, k6, kf0, kf1, kf2, kf3, kf4, kf5, kf6⟩ := X8.out
                obtain ⟨j0, j1, j2, j3, j4, j5, j6, l0, l1, l2, l3, l4, l5, l6⟩ := Y8.out
                go_wp2_with fail
                show bodyPost _ _ _ _ _ (putSl (w.heap.size + 1) 1 b c lo c1 lo 0 w8)
                have BZ := B8.out.trans (putSl_below (B := w.heap.size) (p := (w.heap.size + 1)) (ph := 1) (en := b) (lm := c) (nm := lo) (ct := c1) (ba := lo) (ro := 0) (w := w8) (by omega))
                obtain ⟨z0, z1, z2, z3, z4, z5, z6, -, -, -, -, -, -, -⟩ := Y8.out.put (ph' := 1) (en' := b) (lm' := c) (nm' := lo) (ct' := c1) (ba' := lo) (ro' := 0)
                exact bodyPost_ret (v := aggSl 1 b c lo c1 lo 0) (by simp [results, Try.results11, z0, z1, z2, z3, z4, z5, z6, go_sem]) rfl ⟨rfl, BZ⟩
              · rw [if_neg hc] at he
                injection he with r1 r2 r3 r4 r5 r6 r7
                subst r1 r2 r3 r4 r5 r6 r7
                have t1 : decide (s ≤ lo) = false := decide_eq_false hc
                clear hc
                go_wp2_with fail
                go_quiet (first | (go_at_call 24; with_reducible exact quiet_eq (CL.out _)) | (go_at_call 23; with_reducible exact quiet_eq (CA.out _)) | fail)
                clear k0 k1 k2 k3 k4 k5 k6 kf0 kf1 kf2 kf3 kf4 kf5 kf6
                obtain ⟨w8, hw8⟩ : ∃ w8, w8 = w7.drewN nq := ⟨_, rfl⟩
                have X8 := Lib.hid (show BxSl w.heap.size 0 b c lo c1 y i w8 by rw [hw8]; exact (X7.out.drewN nq))
                have Y8 := Lib.hid (show BxSl (w.heap.size + 1) 0 0 0 0 0 0 0 w8 by rw [hw8]; exact (Y7.out.drewN nq))
                have B8 := Lib.hid (show Below w.heap.size w w8 by rw [hw8]; exact (below_drewN' B7.out nq))
                rw [← hw8]
                clear hw8 X7 Y7 B7
                obtain ⟨k0, k1, k2, k3, k4, k5, k6, kf0, kf1, kf2, kf3, kf4, kf5, kf6⟩ := X8.out
                obtain ⟨j0, j1, j2, j3, j4, j5, j6, l0, l1, l2, l3, l4, l5, l6⟩ := Y8.out
                go_wp2_with fail
                show bodyPost _ _ _ _ _ (putSl (w.heap.size + 1) 0 b c lo c1 y i w8)
                have BZ := B8.out.trans (putSl_below (B := w.heap.size) (p := (w.heap.size + 1)) (ph := 0) (en := b) (lm := c) (nm := lo) (ct := c1) (ba := y) (ro := i) (w := w8) (by omega))
                obtain ⟨z0, z1, z2, z3, z4, z5, z6, -, -, -, -, -, -, -⟩ := Y8.out.put (ph' := 0) (en' := b) (lm' := c) (nm' := lo) (ct' := c1) (ba' := y) (ro' := i)
                exact bodyPost_ret (v := aggSl 0 b c lo c1 y i) (by simp [results, Try.results11, z0, z1, z2, z3, z4, z5, z6, go_sem]) rfl ⟨rfl, BZ⟩
            · rw [if_neg p0] at he
              have q0 : (a == 0) = false := by simpa using p0
              by_cases p1 : a = 1
              · rw [if_pos p1] at he
                subst p1
                have q1 : ((1 : Int) == 1) = true := by decide
                clear hen hlm hnm hct hba hro g1 g2 g3 p0
                by_cases hc : lo < y
                · rw [if_pos hc] at he
                  injection he with r1 r2 r3 r4 r5 r6 r7
                  subst r1 r2 r3 r4 r5 r6 r7
                  have t1 : decide (lo < y) = true := decide_eq_true hc
                  clear hc
                  go_wp2_with fail
                  go_quiet (first | fail)
                  clear k0 k1 k2 k3 k4 k5 k6 kf0 kf1 kf2 kf3 kf4 kf5 kf6
                  obtain ⟨k0, k1, k2, k3, k4, k5, k6, kf0, kf1, kf2, kf3, kf4, kf5, kf6⟩ := X7.out.drewN nq
                  go_upto_region 20 with fail
                  obtain ⟨w8, hw8⟩ : ∃ w8, w8 = ((w7.drewN nq).setCell ⟨w.heap.size, 0, none⟩ (.int .i64 0)).setCell ⟨w.heap.size, 5, none⟩ (.int .u64 18446744073709551615) := ⟨_, rfl⟩
                  have X8 := Lib.hid (show BxSl w.heap.size 0 b c lo c1 18446744073709551615 i w8 by rw [hw8]; exact (((X7.out.drewN nq).set0).set5))
                  have Y8 := Lib.hid (show BxSl (w.heap.size + 1) 0 0 0 0 0 0 0 w8 by rw [hw8]; exact (((Y7.out.drewN nq).other rfl (by first | omega | (simp only; omega))).other rfl (by first | omega | (simp only; omega))))
                  have B8 := Lib.hid (show Below w.heap.size w w8 by rw [hw8]; exact (Below.setCell (Below.setCell (below_drewN' B7.out nq) (Nat.le_refl _) _) (Nat.le_refl _) _))
                  rw [← hw8]
                  clear hw8 X7 Y7 B7 k0 k1 k2 k3 k4 k5 k6 kf0 kf1 kf2 kf3 kf4 kf5 kf6
                  obtain ⟨k0, k1, k2, k3, k4, k5, k6, kf0, kf1, kf2, kf3, kf4, kf5, kf6⟩ := X8.out
                  obtain ⟨j0, j1, j2, j3, j4, j5, j6, l0, l1, l2, l3, l4, l5, l6⟩ := Y8.out
                  go_wp2_with fail
                  show bodyPost _ _ _ _ _ (putSl (w.heap.size + 1) 0 b c lo c1 18446744073709551615 i w8)
                  have BZ := B8.out.trans (putSl_below (B := w.heap.size) (p := (w.heap.size + 1)) (ph := 0) (en := b) (lm := c) (nm := lo) (ct := c1) (ba := 18446744073709551615) (ro := i) (w := w8) (by omega))
                  obtain ⟨z0, z1, z2, z3, z4, z5, z6, -, -, -, -, -, -, -⟩ := Y8.out.put (ph' := 0) (en' := b) (lm' := c) (nm' := lo) (ct' := c1) (ba' := 18446744073709551615) (ro' := i)
                  exact bodyPost_ret (v := aggSl 0 b c lo c1 18446744073709551615 i) (by simp [results, Try.results11, z0, z1, z2, z3, z4, z5, z6, go_sem]) rfl ⟨rfl, BZ⟩
                · rw [if_neg hc] at he
                  injection he with r1 r2 r3 r4 r5 r6 r7
                  subst r1 r2 r3 r4 r5 r6 r7
                  have t1 : decide (lo < y) = false := decide_eq_false hc
                  clear hc
                  go_wp2_with fail
                  go_quiet (first | fail)
                  clear k0 k1 k2 k3 k4 k5 k6 kf0 kf1 kf2 kf3 kf4 kf5 kf6
                  obtain ⟨w8, hw8⟩ : ∃ w8, w8 = w7.drewN nq := ⟨_, rfl⟩
                  have X8 := Lib.hid (show BxSl w.heap.size 1 b c lo c1 y i w8 by rw [hw8]; exact (X7.out.drewN nq))
                  have Y8 := Lib.hid (show BxSl (w.heap.size + 1) 0 0 0 0 0 0 0 w8 by rw [hw8]; exact (Y7.out.drewN nq))
                  have B8 := Lib.hid (show Below w.heap.size w w8 by rw [hw8]; exact (below_drewN' B7.out nq))
                  rw [← hw8]
                  clear hw8 X7 Y7 B7
                  obtain ⟨k0, k1, k2, k3, k4, k5, k6, kf0, kf1, kf2, kf3, kf4, kf5, kf6⟩ := X8.out
                  obtain ⟨j0, j1, j2, j3, j4, j5, j6, l0, l1, l2, l3, l4, l5, l6⟩ := Y8.out
                  go_wp2_with fail
                  show bodyPost _ _ _ _ _ (putSl (w.heap.size + 1) 1 b c lo c1 y i w8)
                  have BZ := B8.out.trans (putSl_below (B := w.heap.size) (p := (w.heap.size + 1)) (ph := 1) (en := b) (lm := c) (nm := lo) (ct := c1) (ba := y) (ro := i) (w := w8) (by omega))
                  obtain ⟨z0, z1, z2, z3, z4, z5, z6, -, -, -, -, -, -, -⟩ := Y8.out.put (ph' := 1) (en' := b) (lm' := c) (nm' := lo) (ct' := c1) (ba' := y) (ro' := i)
                  exact bodyPost_ret (v := aggSl 1 b c lo c1 y i) (by simp [results, Try.results11, z0, z1, z2, z3, z4, z5, z6, go_sem]) rfl ⟨rfl, BZ⟩
              · rw [if_neg p1] at he
                have q1 : (a == 1) = false := by simpa using p1
                injection he with r1 r2 r3 r4 r5 r6 r7
                subst r1 r2 r3 r4 r5 r6 r7
                clear hen hlm hnm hct hba hro g1 g2 g3 p0 p1
                go_wp2_with fail
                go_quiet (first | fail)
                clear k0 k1 k2 k3 k4 k5 k6 kf0 kf1 kf2 kf3 kf4 kf5 kf6
                obtain ⟨w8, hw8⟩ : ∃ w8, w8 = w7.drewN nq := ⟨_, rfl⟩
                have X8 := Lib.hid (show BxSl w.heap.size a b c lo c1 y i w8 by rw [hw8]; exact (X7.out.drewN nq))
                have Y8 := Lib.hid (show BxSl (w.heap.size + 1) 0 0 0 0 0 0 0 w8 by rw [hw8]; exact (Y7.out.drewN nq))
                have B8 := Lib.hid (show Below w.heap.size w w8 by rw [hw8]; exact (below_drewN' B7.out nq))
                rw [← hw8]
                clear hw8 X7 Y7 B7
                obtain ⟨k0, k1, k2, k3, k4, k5, k6, kf0, kf1, kf2, kf3, kf4, kf5, kf6⟩ := X8.out
                obtain ⟨j0, j1, j2, j3, j4, j5, j6, l0, l1, l2, l3, l4, l5, l6⟩ := Y8.out
                go_wp2_with fail
                show bodyPost _ _ _ _ _ (putSl (w.heap.size + 1) a b c lo c1 y i w8)
                have BZ := B8.out.trans (putSl_below (B := w.heap.size) (p := (w.heap.size + 1)) (ph := a) (en := b) (lm := c) (nm := lo) (ct := c1) (ba := y) (ro := i) (w := w8) (by omega))
                obtain ⟨z0, z1, z2, z3, z4, z5, z6, -, -, -, -, -, -, -⟩ := Y8.out.put (ph' := a) (en' := b) (lm' := c) (nm' := lo) (ct' := c1) (ba' := y) (ro' := i)
                exact bodyPost_ret (v := aggSl a b c lo c1 y i) (by simp [results, Try.results11, z0, z1, z2, z3, z4, z5, z6, go_sem]) rfl ⟨rfl, BZ⟩
end Go.Proofs.Ytaiephdacioedaa
