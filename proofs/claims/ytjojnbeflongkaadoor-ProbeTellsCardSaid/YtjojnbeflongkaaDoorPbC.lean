/-
  What package probe's started returns. Conditions: the numbers have 64 bits, at most four hundred rates.
-/
import Derived.Test.YtjojnbeflongkaaDoorPbA
namespace Go.Proofs.YtjojnbeflongkaaDoor
open Go.ChangeShapes Go.WideShapes Go.ChangeAt Go.RowKit
set_option linter.unusedVariables false

set_option maxHeartbeats 4000000 in
theorem started_any (s : Int) (A : Option Addr) (n c lo la fu sl ro ph si hi : Nat) (ss : List Wig.Smp) (g0 g1 g2 g3 g4 g5 g6 g7 : Nat) (gl gr : Bool) (s' : Int) (ss' : List Wig.Smp) (lo' la' fu' sl' ro' ph' si' hi' : Nat) (w : World) (hok : Wig.Pb.Ok ⟨s, ss, lo, la, fu, sl, ro, ph, si, hi⟩) (hR : Rt w 0 w.heap.size A n ss) (he : Wig.pbstart ⟨s, ss, lo, la, fu, sl, ro, ph, si, hi⟩ ⟨g0, g1, g2, g3, g4, g5, g6, g7, gl, gr⟩ = ⟨s', ss', lo', la', fu', sl', ro', ph', si', hi'⟩) : Calls Tryd.prog 44 #[aggPb s A n c lo la fu sl ro ph si hi, aggGt g0 g1 g2 g3 g4 g5 g6 g7 gl gr] w fun e w' => e = .returned (aggPb s' A n c lo' la' fu' sl' ro' ph' si' hi') ∧ Below w.heap.size w w' := by
  cases gr
  · have he : (⟨s, ss, lo, la, fu, sl, ro, ph, si, hi⟩ : Wig.Pb) = ⟨s', ss', lo', la', fu', sl', ro', ph', si', hi'⟩ := he
    injection he with r1 r2 r3 r4 r5 r6 r7 r8 r9 r10
    subst r1 r2 r3 r4 r5 r6 r7 r8 r9 r10
    clear hok hR
    obtain ⟨w1, hw1⟩ : ∃ wx, wx = w.alloc (.cells #[.int .i64 s, .slice A n c, .int .u64 (lo : Int), .int .u64 (la : Int), .int .u64 (fu : Int), .int .u64 (sl : Int), .int .u64 (ro : Int), .int .u64 (ph : Int), .int .u64 (si : Int), .int .u64 (hi : Int)] 26) := ⟨_, rfl⟩
    have z1 : w1.heap.size = w.heap.size + 1 := by rw [hw1]; simp
    obtain ⟨w2, hw2⟩ : ∃ wx, wx = w1.alloc (.cells #[.int .u64 (g0 : Int), .int .u64 (g1 : Int), .int .u64 (g2 : Int), .int .u64 (g3 : Int), .int .u64 (g4 : Int), .int .u64 (g5 : Int), .int .u64 (g6 : Int), .int .u64 (g7 : Int), .bool gl, .bool false] 28) := ⟨_, rfl⟩
    have z2 : w2.heap.size = w.heap.size + 2 := by rw [hw2]; simp; omega
    obtain ⟨w3, hw3⟩ : ∃ wx, wx = w2.alloc (.cells #[.int .i64 0, .slice none 0 0, .int .u64 0, .int .u64 0, .int .u64 0, .int .u64 0, .int .u64 0, .int .u64 0, .int .u64 0, .int .u64 0] 26) := ⟨_, rfl⟩
    have z3 : w3.heap.size = w.heap.size + 3 := by rw [hw3]; simp; omega
    have t3 : Below w3.heap.size w3 w3 := Below.refl _ _
    have t2 : Below w2.heap.size w2 w3 := (show Below w2.heap.size w2 w3 by rw [hw3]; exact (Below.refl _ _).alloc (Nat.le_refl _) _).trans (t3.mono (by omega))
    have t1 : Below w1.heap.size w1 w3 := (show Below w1.heap.size w1 w2 by rw [hw2]; exact (Below.refl _ _).alloc (Nat.le_refl _) _).trans (t2.mono (by omega))
    have t0 : Below w.heap.size w w3 := (show Below w.heap.size w w1 by rw [hw1]; exact (Below.refl _ _).alloc (Nat.le_refl _) _).trans (t1.mono (by omega))
    have BN := Lib.hid t0
    have ZN := Lib.hid z3
    have XP := Lib.hid (show BxPb w.heap.size s A n c lo la fu sl ro ph si hi w3 from (show BxPb w.heap.size s A n c lo la fu sl ro ph si hi w1 by rw [hw1]; exact BxPb.new _ s A n c lo la fu sl ro ph si hi).below t1 (by omega))
    have XG := Lib.hid (show BxGt (w.heap.size + 1) g0 g1 g2 g3 g4 g5 g6 g7 gl false w3 from (show BxGt (w.heap.size + 1) g0 g1 g2 g3 g4 g5 g6 g7 gl false w2 by rw [hw2, ← z1]; exact BxGt.new _ g0 g1 g2 g3 g4 g5 g6 g7 gl false).below t2 (by omega))
    have XZ := Lib.hid (show BxPb (w.heap.size + 2) 0 none 0 0 0 0 0 0 0 0 0 0 w3 from (show BxPb (w.heap.size + 2) 0 none 0 0 0 0 0 0 0 0 0 0 w3 by rw [hw3, ← z2]; exact BxPb.new _ 0 none 0 0 0 0 0 0 0 0 0 0).below t3 (by omega))
    clear t0 t1 t2 t3 z1 z2 z3
    have B3 := BN
    have XP3 := XP
    have SP3 := Lib.hid (show w.heap.size < w3.heap.size by have := ZN.out; omega)
    have GP := Lib.hid (show w.heap.size ≤ w.heap.size by omega)
    have XG3 := XG
    have SG3 := Lib.hid (show (w.heap.size + 1) < w3.heap.size by have := ZN.out; omega)
    have GG := Lib.hid (show w.heap.size ≤ (w.heap.size + 1) by omega)
    have OPG := Lib.hid (show w.heap.size < (w.heap.size + 1) by omega)
    have XZ3 := XZ
    have SZ3 := Lib.hid (show (w.heap.size + 2) < w3.heap.size by have := ZN.out; omega)
    have GZ := Lib.hid (show w.heap.size ≤ (w.heap.size + 2) by omega)
    have OPZ := Lib.hid (show w.heap.size < (w.heap.size + 2) by omega)
    have OGZ := Lib.hid (show (w.heap.size + 1) < (w.heap.size + 2) by omega)
    clear ZN BN XP XG XZ
    go_enter Tryd.func44, Tryd.ntmps44
    go_upto_region 1 with fail
    rw [← hw1, ← hw2, ← hw3]
    clear hw1 hw2 hw3
    have j8 := XG3.out.c8
    have j9 := XG3.out.c9
    go_upto_region 2 with fail
    clear j8 j9
    obtain ⟨k0, k1, k2, k3, k4, k5, k6, k7, k8, k9, -, -, -, -, -, -, -, -, -, -⟩ := XP3.out
    obtain ⟨z0, z1, z2, z3, z4, z5, z6, z7, z8, z9, zf0, zf1, zf2, zf3, zf4, zf5, zf6, zf7, zf8, zf9⟩ := XZ3.out
    go_wp2_with fail
    show bodyPost _ _ _ _ _ (putPb (w.heap.size + 2) s A n c lo la fu sl ro ph si hi w3)
    have BZ : Below w.heap.size w (putPb (w.heap.size + 2) s A n c lo la fu sl ro ph si hi w3) := B3.out.trans (putPb_below GZ.out)
    obtain ⟨z0, z1, z2, z3, z4, z5, z6, z7, z8, z9, -, -, -, -, -, -, -, -, -, -⟩ := (show BxPb (w.heap.size + 2) s A n c lo la fu sl ro ph si hi (putPb (w.heap.size + 2) s A n c lo la fu sl ro ph si hi w3) from XZ3.out.put)
    exact bodyPost_ret (v := aggPb s A n c lo la fu sl ro ph si hi) (by simp [results, Tryd.results44, z0, z1, z2, z3, z4, z5, z6, z7, z8, z9, go_sem]) rfl ⟨rfl, BZ⟩
  · cases gl
    · obtain ⟨w1, hw1⟩ : ∃ wx, wx = w.alloc (.cells #[.int .i64 s, .slice A n c, .int .u64 (lo : Int), .int .u64 (la : Int), .int .u64 (fu : Int), .int .u64 (sl : Int), .int .u64 (ro : Int), .int .u64 (ph : Int), .int .u64 (si : Int), .int .u64 (hi : Int)] 26) := ⟨_, rfl⟩
      have z1 : w1.heap.size = w.heap.size + 1 := by rw [hw1]; simp
      obtain ⟨w2, hw2⟩ : ∃ wx, wx = w1.alloc (.cells #[.int .u64 (g0 : Int), .int .u64 (g1 : Int), .int .u64 (g2 : Int), .int .u64 (g3 : Int), .int .u64 (g4 : Int), .int .u64 (g5 : Int), .int .u64 (g6 : Int), .int .u64 (g7 : Int), .bool false, .bool true] 28) := ⟨_, rfl⟩
      have z2 : w2.heap.size = w.heap.size + 2 := by rw [hw2]; simp; omega
      obtain ⟨w3, hw3⟩ : ∃ wx, wx = w2.alloc (.cells #[.int .i64 0, .slice none 0 0, .int .u64 0, .int .u64 0, .int .u64 0, .int .u64 0, .int .u64 0, .int .u64 0, .int .u64 0, .int .u64 0] 26) := ⟨_, rfl⟩
      have z3 : w3.heap.size = w.heap.size + 3 := by rw [hw3]; simp; omega
      have t3 : Below w3.heap.size w3 w3 := Below.refl _ _
      have t2 : Below w2.heap.size w2 w3 := (show Below w2.heap.size w2 w3 by rw [hw3]; exact (Below.refl _ _).alloc (Nat.le_refl _) _).trans (t3.mono (by omega))
      have t1 : Below w1.heap.size w1 w3 := (show Below w1.heap.size w1 w2 by rw [hw2]; exact (Below.refl _ _).alloc (Nat.le_refl _) _).trans (t2.mono (by omega))
      have t0 : Below w.heap.size w w3 := (show Below w.heap.size w w1 by rw [hw1]; exact (Below.refl _ _).alloc (Nat.le_refl _) _).trans (t1.mono (by omega))
      have BN := Lib.hid t0
      have ZN := Lib.hid z3
      have XP := Lib.hid (show BxPb w.heap.size s A n c lo la fu sl ro ph si hi w3 from (show BxPb w.heap.size s A n c lo la fu sl ro ph si hi w1 by rw [hw1]; exact BxPb.new _ s A n c lo la fu sl ro ph si hi).below t1 (by omega))
      have XG := Lib.hid (show BxGt (w.heap.size + 1) g0 g1 g2 g3 g4 g5 g6 g7 false true w3 from (show BxGt (w.heap.size + 1) g0 g1 g2 g3 g4 g5 g6 g7 false true w2 by rw [hw2, ← z1]; exact BxGt.new _ g0 g1 g2 g3 g4 g5 g6 g7 false true).below t2 (by omega))
      have XZ := Lib.hid (show BxPb (w.heap.size + 2) 0 none 0 0 0 0 0 0 0 0 0 0 w3 from (show BxPb (w.heap.size + 2) 0 none 0 0 0 0 0 0 0 0 0 0 w3 by rw [hw3, ← z2]; exact BxPb.new _ 0 none 0 0 0 0 0 0 0 0 0 0).below t3 (by omega))
      clear t0 t1 t2 t3 z1 z2 z3
      have B3 := BN
      have XP3 := XP
      have SP3 := Lib.hid (show w.heap.size < w3.heap.size by have := ZN.out; omega)
      have GP := Lib.hid (show w.heap.size ≤ w.heap.size by omega)
      have XG3 := XG
      have SG3 := Lib.hid (show (w.heap.size + 1) < w3.heap.size by have := ZN.out; omega)
      have GG := Lib.hid (show w.heap.size ≤ (w.heap.size + 1) by omega)
      have OPG := Lib.hid (show w.heap.size < (w.heap.size + 1) by omega)
      have XZ3 := XZ
      have SZ3 := Lib.hid (show (w.heap.size + 2) < w3.heap.size by have := ZN.out; omega)
      have GZ := Lib.hid (show w.heap.size ≤ (w.heap.size + 2) by omega)
      have OPZ := Lib.hid (show w.heap.size < (w.heap.size + 2) by omega)
      have OGZ := Lib.hid (show (w.heap.size + 1) < (w.heap.size + 2) by omega)
      clear ZN BN XP XG XZ
      unfold Wig.pbstart at he
      simp only at he
      rw [if_neg (by simp)] at he
      obtain ⟨b, hb⟩ : ∃ b, Wig.best ss = b := ⟨_, rfl⟩
      rw [hb] at he
      obtain ⟨d, hd⟩ : ∃ d, d = fu / 4 := ⟨_, rfl⟩
      have hfu : fu < 18446744073709551616 := hok.full
      have hsl : sl < 18446744073709551616 := hok.still
      have e1 : (fu : Int) / 4 = (d : Int) := by omega
      have e2 : IntKind.u64.wrap (d : Int) = (d : Int) := by rw [IntKind.wrap_u64]; omega
      obtain ⟨f, hf⟩ : ∃ f, Wig.fadd fu d = f := ⟨_, rfl⟩
      rw [← hd, hf] at he
      obtain ⟨x, hx⟩ : ∃ x, Wig.fadd sl 1 = x := ⟨_, rfl⟩
      rw [hx] at he
      have CB := Lib.hid (fun (w0 : World) (hb0 : Below w.heap.size w w0) => (show Calls Tryd.prog 23 #[.slice A n c] w0 fun e w' => e = .returned (.int .u64 (b : Int)) ∧ w0 = w' from best_rt ss n b A c w0 (hR.step hb0) hb))
      have CA := Lib.hid (fun w => (show Calls Tryd.prog 25 #[.int .u64 (fu : Int), .int .u64 (d : Int)] w fun e w' => e = .returned (.int .u64 (f : Int)) ∧ w = w' by rw [← hf]; exact add_any fu d w hfu (by omega)))
      have CX := Lib.hid (fun w => (show Calls Tryd.prog 25 #[.int .u64 (sl : Int), .int .u64 1] w fun e w' => e = .returned (.int .u64 (x : Int)) ∧ w = w' by rw [← hx]; exact add_any sl 1 w hsl (by decide)))
      clear hok hR hb hf hx hd hfu hsl
      by_cases h0 : 0 < b
      · have t1 : decide (0 < b) = true := decide_eq_true (by omega)
        by_cases h1 : f ≤ b
        · rw [if_pos ⟨h1, h0⟩] at he
          have t2 : decide (f ≤ b) = true := decide_eq_true h1
          injection he with r1 r2 r3 r4 r5 r6 r7 r8 r9 r10
          subst r1 r2 r3 r4 r5 r6 r7 r8 r9 r10
          clear h0 h1
          go_enter Tryd.func44, Tryd.ntmps44
          go_upto_region 1 with fail
          rw [← hw1, ← hw2, ← hw3]
          clear hw1 hw2 hw3
          have j8 := XG3.out.c8
          have j9 := XG3.out.c9
          go_upto_region 3 with fail
          clear j8 j9
          have k1 := XP3.out.c1
          go_wp2_with fail
          refine (CB.out _ B3.out).mono ?_
          rintro e _ ⟨rfl, rfl⟩
          clear k1
          have k4 := XP3.out.c4
          go_wp2_with fail
          refine (CA.out _).mono ?_
          rintro e _ ⟨rfl, rfl⟩
          clear k4
          have k4 := XP3.out.c4
          have kf4 := XP3.out.f4
          have k5 := XP3.out.c5
          have kf5 := XP3.out.f5
          go_upto_region 6 with fail
          obtain ⟨w4, hw⟩ : ∃ wx, wx = w3.setCell ⟨w.heap.size, 4, none⟩ (.int .u64 (b : Int)) := ⟨_, rfl⟩
          rw [← hw]
          have XP4 := Lib.hid (show BxPb w.heap.size s A n c lo la b sl ro ph si hi w4 by rw [hw]; exact XP3.out.set4)
          have B4 := Lib.hid (show Below w.heap.size w w4 by rw [hw]; exact Below.setCell B3.out GP.out _)
          have SP4 := Lib.hid (show w.heap.size < w4.heap.size by rw [hw]; have := SP3.out; simpa using this)
          have XG4 := Lib.hid (show BxGt (w.heap.size + 1) g0 g1 g2 g3 g4 g5 g6 g7 false true w4 by rw [hw]; exact XG3.out.other rfl (Nat.ne_of_lt OPG.out))
          have SG4 := Lib.hid (show (w.heap.size + 1) < w4.heap.size by rw [hw]; have := SG3.out; simpa using this)
          have XZ4 := Lib.hid (show BxPb (w.heap.size + 2) 0 none 0 0 0 0 0 0 0 0 0 0 w4 by rw [hw]; exact XZ3.out.other rfl (Nat.ne_of_lt OPZ.out))
          have SZ4 := Lib.hid (show (w.heap.size + 2) < w4.heap.size by rw [hw]; have := SZ3.out; simpa using this)
          clear k4 kf4 k5 kf5
          clear hw B3 XP3 SP3 XG3 SG3 XZ3 SZ3
          obtain ⟨w5, hw⟩ : ∃ wx, wx = w4.setCell ⟨w.heap.size, 5, none⟩ (.int .u64 0) := ⟨_, rfl⟩
          rw [← hw]
          have XP5 := Lib.hid (show BxPb w.heap.size s A n c lo la b 0 ro ph si hi w5 by rw [hw]; exact XP4.out.set5)
          have B5 := Lib.hid (show Below w.heap.size w w5 by rw [hw]; exact Below.setCell B4.out GP.out _)
          have SP5 := Lib.hid (show w.heap.size < w5.heap.size by rw [hw]; have := SP4.out; simpa using this)
          have XG5 := Lib.hid (show BxGt (w.heap.size + 1) g0 g1 g2 g3 g4 g5 g6 g7 false true w5 by rw [hw]; exact XG4.out.other rfl (Nat.ne_of_lt OPG.out))
          have SG5 := Lib.hid (show (w.heap.size + 1) < w5.heap.size by rw [hw]; have := SG4.out; simpa using this)
          have XZ5 := Lib.hid (show BxPb (w.heap.size + 2) 0 none 0 0 0 0 0 0 0 0 0 0 w5 by rw [hw]; exact XZ4.out.other rfl (Nat.ne_of_lt OPZ.out))
          have SZ5 := Lib.hid (show (w.heap.size + 2) < w5.heap.size by rw [hw]; have := SZ4.out; simpa using this)
          clear hw B4 XP4 SP4 XG4 SG4 XZ4 SZ4
          obtain ⟨k0, k1, k2, k3, k4, k5, k6, k7, k8, k9, -, -, -, -, -, -, -, -, -, -⟩ := XP5.out
          obtain ⟨z0, z1, z2, z3, z4, z5, z6, z7, z8, z9, zf0, zf1, zf2, zf3, zf4, zf5, zf6, zf7, zf8, zf9⟩ := XZ5.out
          go_wp2_with fail
          show bodyPost _ _ _ _ _ (putPb (w.heap.size + 2) s A n c lo la b 0 ro ph si hi w5)
          have BZ : Below w.heap.size w (putPb (w.heap.size + 2) s A n c lo la b 0 ro ph si hi w5) := B5.out.trans (putPb_below GZ.out)
          obtain ⟨z0, z1, z2, z3, z4, z5, z6, z7, z8, z9, -, -, -, -, -, -, -, -, -, -⟩ := (show BxPb (w.heap.size + 2) s A n c lo la b 0 ro ph si hi (putPb (w.heap.size + 2) s A n c lo la b 0 ro ph si hi w5) from XZ5.out.put)
          exact bodyPost_ret (v := aggPb s A n c lo la b 0 ro ph si hi) (by simp [results, Tryd.results44, z0, z1, z2, z3, z4, z5, z6, z7, z8, z9, go_sem]) rfl ⟨rfl, BZ⟩
        · rw [if_neg (by omega)] at he
          have t2 : decide (f ≤ b) = false := decide_eq_false h1
          clear h0 h1
          by_cases h3 : x = 3
          · rw [if_pos h3] at he
            have t3 : ((x : Int) == 3) = true := by simp; omega
            rw [← h3] at he
            injection he with r1 r2 r3 r4 r5 r6 r7 r8 r9 r10
            subst r1 r2 r3 r4 r5 r6 r7 r8 r9 r10
            clear h3
            go_enter Tryd.func44, Tryd.ntmps44
            go_upto_region 1 with fail
            rw [← hw1, ← hw2, ← hw3]
            clear hw1 hw2 hw3
            have j8 := XG3.out.c8
            have j9 := XG3.out.c9
            go_upto_region 3 with fail
            clear j8 j9
            have k1 := XP3.out.c1
            go_wp2_with fail
            refine (CB.out _ B3.out).mono ?_
            rintro e _ ⟨rfl, rfl⟩
            clear k1
            have k4 := XP3.out.c4
            go_wp2_with fail
            refine (CA.out _).mono ?_
            rintro e _ ⟨rfl, rfl⟩
            go_upto_region 7 with fail
            clear k4
            have k5 := XP3.out.c5
            have kf5 := XP3.out.f5
            go_wp2_with fail
            refine (CX.out _).mono ?_
            rintro e _ ⟨rfl, rfl⟩
            go_upto_region 8 with fail
            obtain ⟨w4, hw⟩ : ∃ wx, wx = w3.setCell ⟨w.heap.size, 5, none⟩ (.int .u64 (x : Int)) := ⟨_, rfl⟩
            rw [← hw]
            have XP4 := Lib.hid (show BxPb w.heap.size s A n c lo la fu x ro ph si hi w4 by rw [hw]; exact XP3.out.set5)
            have B4 := Lib.hid (show Below w.heap.size w w4 by rw [hw]; exact Below.setCell B3.out GP.out _)
            have SP4 := Lib.hid (show w.heap.size < w4.heap.size by rw [hw]; have := SP3.out; simpa using this)
            have XG4 := Lib.hid (show BxGt (w.heap.size + 1) g0 g1 g2 g3 g4 g5 g6 g7 false true w4 by rw [hw]; exact XG3.out.other rfl (Nat.ne_of_lt OPG.out))
            have SG4 := Lib.hid (show (w.heap.size + 1) < w4.heap.size by rw [hw]; have := SG3.out; simpa using this)
            have XZ4 := Lib.hid (show BxPb (w.heap.size + 2) 0 none 0 0 0 0 0 0 0 0 0 0 w4 by rw [hw]; exact XZ3.out.other rfl (Nat.ne_of_lt OPZ.out))
            have SZ4 := Lib.hid (show (w.heap.size + 2) < w4.heap.size by rw [hw]; have := SZ3.out; simpa using this)
            clear k5 kf5
            clear hw B3 XP3 SP3 XG3 SG3 XZ3 SZ3
            have k5 := XP4.out.c5
            go_upto_region 9 with fail
            clear k5
            have k0 := XP4.out.c0
            have kf0 := XP4.out.f0
            go_upto_region 10 with fail
            obtain ⟨w5, hw⟩ : ∃ wx, wx = w4.setCell ⟨w.heap.size, 0, none⟩ (.int .i64 1) := ⟨_, rfl⟩
            rw [← hw]
            have XP5 := Lib.hid (show BxPb w.heap.size 1 A n c lo la fu x ro ph si hi w5 by rw [hw]; exact XP4.out.set0)
            have B5 := Lib.hid (show Below w.heap.size w w5 by rw [hw]; exact Below.setCell B4.out GP.out _)
            have SP5 := Lib.hid (show w.heap.size < w5.heap.size by rw [hw]; have := SP4.out; simpa using this)
            have XG5 := Lib.hid (show BxGt (w.heap.size + 1) g0 g1 g2 g3 g4 g5 g6 g7 false true w5 by rw [hw]; exact XG4.out.other rfl (Nat.ne_of_lt OPG.out))
            have SG5 := Lib.hid (show (w.heap.size + 1) < w5.heap.size by rw [hw]; have := SG4.out; simpa using this)
            have XZ5 := Lib.hid (show BxPb (w.heap.size + 2) 0 none 0 0 0 0 0 0 0 0 0 0 w5 by rw [hw]; exact XZ4.out.other rfl (Nat.ne_of_lt OPZ.out))
            have SZ5 := Lib.hid (show (w.heap.size + 2) < w5.heap.size by rw [hw]; have := SZ4.out; simpa using this)
            clear k0 kf0
            clear hw B4 XP4 SP4 XG4 SG4 XZ4 SZ4
            obtain ⟨k0, k1, k2, k3, k4, k5, k6, k7, k8, k9, -, -, -, -, -, -, -, -, -, -⟩ := XP5.out
            obtain ⟨z0, z1, z2, z3, z4, z5, z6, z7, z8, z9, zf0, zf1, zf2, zf3, zf4, zf5, zf6, zf7, zf8, zf9⟩ := XZ5.out
            go_wp2_with fail
            show bodyPost _ _ _ _ _ (putPb (w.heap.size + 2) 1 A n c lo la fu x ro ph si hi w5)
            have BZ : Below w.heap.size w (putPb (w.heap.size + 2) 1 A n c lo la fu x ro ph si hi w5) := B5.out.trans (putPb_below GZ.out)
            obtain ⟨z0, z1, z2, z3, z4, z5, z6, z7, z8, z9, -, -, -, -, -, -, -, -, -, -⟩ := (show BxPb (w.heap.size + 2) 1 A n c lo la fu x ro ph si hi (putPb (w.heap.size + 2) 1 A n c lo la fu x ro ph si hi w5) from XZ5.out.put)
            exact bodyPost_ret (v := aggPb 1 A n c lo la fu x ro ph si hi) (by simp [results, Tryd.results44, z0, z1, z2, z3, z4, z5, z6, z7, z8, z9, go_sem]) rfl ⟨rfl, BZ⟩
          · rw [if_neg h3] at he
            have t3 : ((x : Int) == 3) = false := by simp; omega
            injection he with r1 r2 r3 r4 r5 r6 r7 r8 r9 r10
            subst r1 r2 r3 r4 r5 r6 r7 r8 r9 r10
            clear h3
            go_enter Tryd.func44, Tryd.ntmps44
            go_upto_region 1 with fail
            rw [← hw1, ← hw2, ← hw3]
            clear hw1 hw2 hw3
            have j8 := XG3.out.c8
            have j9 := XG3.out.c9
            go_upto_region 3 with fail
            clear j8 j9
            have k1 := XP3.out.c1
            go_wp2_with fail
            refine (CB.out _ B3.out).mono ?_
            rintro e _ ⟨rfl, rfl⟩
            clear k1
            have k4 := XP3.out.c4
            go_wp2_with fail
            refine (CA.out _).mono ?_
            rintro e _ ⟨rfl, rfl⟩
            go_upto_region 7 with fail
            clear k4
            have k5 := XP3.out.c5
            have kf5 := XP3.out.f5
            go_wp2_with fail
            refine (CX.out _).mono ?_
            rintro e _ ⟨rfl, rfl⟩
            go_upto_region 8 with fail
            obtain ⟨w4, hw⟩ : ∃ wx, wx = w3.setCell ⟨w.heap.size, 5, none⟩ (.int .u64 (x : Int)) := ⟨_, rfl⟩
            rw [← hw]
            have XP4 := Lib.hid (show BxPb w.heap.size s A n c lo la fu x ro ph si hi w4 by rw [hw]; exact XP3.out.set5)
            have B4 := Lib.hid (show Below w.heap.size w w4 by rw [hw]; exact Below.setCell B3.out GP.out _)
            have SP4 := Lib.hid (show w.heap.size < w4.heap.size by rw [hw]; have := SP3.out; simpa using this)
            have XG4 := Lib.hid (show BxGt (w.heap.size + 1) g0 g1 g2 g3 g4 g5 g6 g7 false true w4 by rw [hw]; exact XG3.out.other rfl (Nat.ne_of_lt OPG.out))
            have SG4 := Lib.hid (show (w.heap.size + 1) < w4.heap.size by rw [hw]; have := SG3.out; simpa using this)
            have XZ4 := Lib.hid (show BxPb (w.heap.size + 2) 0 none 0 0 0 0 0 0 0 0 0 0 w4 by rw [hw]; exact XZ3.out.other rfl (Nat.ne_of_lt OPZ.out))
            have SZ4 := Lib.hid (show (w.heap.size + 2) < w4.heap.size by rw [hw]; have := SZ3.out; simpa using this)
            clear k5 kf5
            clear hw B3 XP3 SP3 XG3 SG3 XZ3 SZ3
            have k5 := XP4.out.c5
            go_upto_region 10 with fail
            clear k5
            obtain ⟨k0, k1, k2, k3, k4, k5, k6, k7, k8, k9, -, -, -, -, -, -, -, -, -, -⟩ := XP4.out
            obtain ⟨z0, z1, z2, z3, z4, z5, z6, z7, z8, z9, zf0, zf1, zf2, zf3, zf4, zf5, zf6, zf7, zf8, zf9⟩ := XZ4.out
            go_wp2_with fail
            show bodyPost _ _ _ _ _ (putPb (w.heap.size + 2) s A n c lo la fu x ro ph si hi w4)
            have BZ : Below w.heap.size w (putPb (w.heap.size + 2) s A n c lo la fu x ro ph si hi w4) := B4.out.trans (putPb_below GZ.out)
            obtain ⟨z0, z1, z2, z3, z4, z5, z6, z7, z8, z9, -, -, -, -, -, -, -, -, -, -⟩ := (show BxPb (w.heap.size + 2) s A n c lo la fu x ro ph si hi (putPb (w.heap.size + 2) s A n c lo la fu x ro ph si hi w4) from XZ4.out.put)
            exact bodyPost_ret (v := aggPb s A n c lo la fu x ro ph si hi) (by simp [results, Tryd.results44, z0, z1, z2, z3, z4, z5, z6, z7, z8, z9, go_sem]) rfl ⟨rfl, BZ⟩
      · rw [if_neg (by omega)] at he
        have t1 : decide (0 < b) = false := decide_eq_false (by omega)
        clear h0
        by_cases h3 : x = 3
        · rw [if_pos h3] at he
          have t3 : ((x : Int) == 3) = true := by simp; omega
          rw [← h3] at he
          injection he with r1 r2 r3 r4 r5 r6 r7 r8 r9 r10
          subst r1 r2 r3 r4 r5 r6 r7 r8 r9 r10
          clear h3
          go_enter Tryd.func44, Tryd.ntmps44
          go_upto_region 1 with fail
          rw [← hw1, ← hw2, ← hw3]
          clear hw1 hw2 hw3
          have j8 := XG3.out.c8
          have j9 := XG3.out.c9
          go_upto_region 3 with fail
          clear j8 j9
          have k1 := XP3.out.c1
          go_wp2_with fail
          refine (CB.out _ B3.out).mono ?_
          rintro e _ ⟨rfl, rfl⟩
          clear k1
          have k4 := XP3.out.c4
          go_upto_region 7 with fail
          clear k4
          have k5 := XP3.out.c5
          have kf5 := XP3.out.f5
          go_wp2_with fail
          refine (CX.out _).mono ?_
          rintro e _ ⟨rfl, rfl⟩
          go_upto_region 8 with fail
          obtain ⟨w4, hw⟩ : ∃ wx, wx = w3.setCell ⟨w.heap.size, 5, none⟩ (.int .u64 (x : Int)) := ⟨_, rfl⟩
          rw [← hw]
          have XP4 := Lib.hid (show BxPb w.heap.size s A n c lo la fu x ro ph si hi w4 by rw [hw]; exact XP3.out.set5)
          have B4 := Lib.hid (show Below w.heap.size w w4 by rw [hw]; exact Below.setCell B3.out GP.out _)
          have SP4 := Lib.hid (show w.heap.size < w4.heap.size by rw [hw]; have := SP3.out; simpa using this)
          have XG4 := Lib.hid (show BxGt (w.heap.size + 1) g0 g1 g2 g3 g4 g5 g6 g7 false true w4 by rw [hw]; exact XG3.out.other rfl (Nat.ne_of_lt OPG.out))
          have SG4 := Lib.hid (show (w.heap.size + 1) < w4.heap.size by rw [hw]; have := SG3.out; simpa using this)
          have XZ4 := Lib.hid (show BxPb (w.heap.size + 2) 0 none 0 0 0 0 0 0 0 0 0 0 w4 by rw [hw]; exact XZ3.out.other rfl (Nat.ne_of_lt OPZ.out))
          have SZ4 := Lib.hid (show (w.heap.size + 2) < w4.heap.size by rw [hw]; have := SZ3.out; simpa using this)
          clear k5 kf5
          clear hw B3 XP3 SP3 XG3 SG3 XZ3 SZ3
          have k5 := XP4.out.c5
          go_upto_region 9 with fail
          clear k5
          have k0 := XP4.out.c0
          have kf0 := XP4.out.f0
          go_upto_region 10 with fail
          obtain ⟨w5, hw⟩ : ∃ wx, wx = w4.setCell ⟨w.heap.size, 0, none⟩ (.int .i64 1) := ⟨_, rfl⟩
          rw [← hw]
          have XP5 := Lib.hid (show BxPb w.heap.size 1 A n c lo la fu x ro ph si hi w5 by rw [hw]; exact XP4.out.set0)
          have B5 := Lib.hid (show Below w.heap.size w w5 by rw [hw]; exact Below.setCell B4.out GP.out _)
          have SP5 := Lib.hid (show w.heap.size < w5.heap.size by rw [hw]; have := SP4.out; simpa using this)
          have XG5 := Lib.hid (show BxGt (w.heap.size + 1) g0 g1 g2 g3 g4 g5 g6 g7 false true w5 by rw [hw]; exact XG4.out.other rfl (Nat.ne_of_lt OPG.out))
          have SG5 := Lib.hid (show (w.heap.size + 1) < w5.heap.size by rw [hw]; have := SG4.out; simpa using this)
          have XZ5 := Lib.hid (show BxPb (w.heap.size + 2) 0 none 0 0 0 0 0 0 0 0 0 0 w5 by rw [hw]; exact XZ4.out.other rfl (Nat.ne_of_lt OPZ.out))
          have SZ5 := Lib.hid (show (w.heap.size + 2) < w5.heap.size by rw [hw]; have := SZ4.out; simpa using this)
          clear k0 kf0
          clear hw B4 XP4 SP4 XG4 SG4 XZ4 SZ4
          obtain ⟨k0, k1, k2, k3, k4, k5, k6, k7, k8, k9, -, -, -, -, -, -, -, -, -, -⟩ := XP5.out
          obtain ⟨z0, z1, z2, z3, z4, z5, z6, z7, z8, z9, zf0, zf1, zf2, zf3, zf4, zf5, zf6, zf7, zf8, zf9⟩ := XZ5.out
          go_wp2_with fail
          show bodyPost _ _ _ _ _ (putPb (w.heap.size + 2) 1 A n c lo la fu x ro ph si hi w5)
          have BZ : Below w.heap.size w (putPb (w.heap.size + 2) 1 A n c lo la fu x ro ph si hi w5) := B5.out.trans (putPb_below GZ.out)
          obtain ⟨z0, z1, z2, z3, z4, z5, z6, z7, z8, z9, -, -, -, -, -, -, -, -, -, -⟩ := (show BxPb (w.heap.size + 2) 1 A n c lo la fu x ro ph si hi (putPb (w.heap.size + 2) 1 A n c lo la fu x ro ph si hi w5) from XZ5.out.put)
          exact bodyPost_ret (v := aggPb 1 A n c lo la fu x ro ph si hi) (by simp [results, Tryd.results44, z0, z1, z2, z3, z4, z5, z6, z7, z8, z9, go_sem]) rfl ⟨rfl, BZ⟩
        · rw [if_neg h3] at he
          have t3 : ((x : Int) == 3) = false := by simp; omega
          injection he with r1 r2 r3 r4 r5 r6 r7 r8 r9 r10
          subst r1 r2 r3 r4 r5 r6 r7 r8 r9 r10
          clear h3
          go_enter Tryd.func44, Tryd.ntmps44
          go_upto_region 1 with fail
          rw [← hw1, ← hw2, ← hw3]
          clear hw1 hw2 hw3
          have j8 := XG3.out.c8
          have j9 := XG3.out.c9
          go_upto_region 3 with fail
          clear j8 j9
          have k1 := XP3.out.c1
          go_wp2_with fail
          refine (CB.out _ B3.out).mono ?_
          rintro e _ ⟨rfl, rfl⟩
          clear k1
          have k4 := XP3.out.c4
          go_upto_region 7 with fail
          clear k4
          have k5 := XP3.out.c5
          have kf5 := XP3.out.f5
          go_wp2_with fail
          refine (CX.out _).mono ?_
          rintro e _ ⟨rfl, rfl⟩
          go_upto_region 8 with fail
          obtain ⟨w4, hw⟩ : ∃ wx, wx = w3.setCell ⟨w.heap.size, 5, none⟩ (.int .u64 (x : Int)) := ⟨_, rfl⟩
          rw [← hw]
          have XP4 := Lib.hid (show BxPb w.heap.size s A n c lo la fu x ro ph si hi w4 by rw [hw]; exact XP3.out.set5)
          have B4 := Lib.hid (show Below w.heap.size w w4 by rw [hw]; exact Below.setCell B3.out GP.out _)
          have SP4 := Lib.hid (show w.heap.size < w4.heap.size by rw [hw]; have := SP3.out; simpa using this)
          have XG4 := Lib.hid (show BxGt (w.heap.size + 1) g0 g1 g2 g3 g4 g5 g6 g7 false true w4 by rw [hw]; exact XG3.out.other rfl (Nat.ne_of_lt OPG.out))
          have SG4 := Lib.hid (show (w.heap.size + 1) < w4.heap.size by rw [hw]; have := SG3.out; simpa using this)
          have XZ4 := Lib.hid (show BxPb (w.heap.size + 2) 0 none 0 0 0 0 0 0 0 0 0 0 w4 by rw [hw]; exact XZ3.out.other rfl (Nat.ne_of_lt OPZ.out))
          have SZ4 := Lib.hid (show (w.heap.size + 2) < w4.heap.size by rw [hw]; have := SZ3.out; simpa using this)
          clear k5 kf5
          clear hw B3 XP3 SP3 XG3 SG3 XZ3 SZ3
          have k5 := XP4.out.c5
          go_upto_region 10 with fail
          clear k5
          obtain ⟨k0, k1, k2, k3, k4, k5, k6, k7, k8, k9, -, -, -, -, -, -, -, -, -, -⟩ := XP4.out
          obtain ⟨z0, z1, z2, z3, z4, z5, z6, z7, z8, z9, zf0, zf1, zf2, zf3, zf4, zf5, zf6, zf7, zf8, zf9⟩ := XZ4.out
          go_wp2_with fail
          show bodyPost _ _ _ _ _ (putPb (w.heap.size + 2) s A n c lo la fu x ro ph si hi w4)
          have BZ : Below w.heap.size w (putPb (w.heap.size + 2) s A n c lo la fu x ro ph si hi w4) := B4.out.trans (putPb_below GZ.out)
          obtain ⟨z0, z1, z2, z3, z4, z5, z6, z7, z8, z9, -, -, -, -, -, -, -, -, -, -⟩ := (show BxPb (w.heap.size + 2) s A n c lo la fu x ro ph si hi (putPb (w.heap.size + 2) s A n c lo la fu x ro ph si hi w4) from XZ4.out.put)
          exact bodyPost_ret (v := aggPb s A n c lo la fu x ro ph si hi) (by simp [results, Tryd.results44, z0, z1, z2, z3, z4, z5, z6, z7, z8, z9, go_sem]) rfl ⟨rfl, BZ⟩
    · have he : (⟨s, ss, lo, la, fu, sl, ro, ph, si, hi⟩ : Wig.Pb) = ⟨s', ss', lo', la', fu', sl', ro', ph', si', hi'⟩ := he
      injection he with r1 r2 r3 r4 r5 r6 r7 r8 r9 r10
      subst r1 r2 r3 r4 r5 r6 r7 r8 r9 r10
      clear hok hR
      obtain ⟨w1, hw1⟩ : ∃ wx, wx = w.alloc (.cells #[.int .i64 s, .slice A n c, .int .u64 (lo : Int), .int .u64 (la : Int), .int .u64 (fu : Int), .int .u64 (sl : Int), .int .u64 (ro : Int), .int .u64 (ph : Int), .int .u64 (si : Int), .int .u64 (hi : Int)] 26) := ⟨_, rfl⟩
      have z1 : w1.heap.size = w.heap.size + 1 := by rw [hw1]; simp
      obtain ⟨w2, hw2⟩ : ∃ wx, wx = w1.alloc (.cells #[.int .u64 (g0 : Int), .int .u64 (g1 : Int), .int .u64 (g2 : Int), .int .u64 (g3 : Int), .int .u64 (g4 : Int), .int .u64 (g5 : Int), .int .u64 (g6 : Int), .int .u64 (g7 : Int), .bool true, .bool true] 28) := ⟨_, rfl⟩
      have z2 : w2.heap.size = w.heap.size + 2 := by rw [hw2]; simp; omega
      obtain ⟨w3, hw3⟩ : ∃ wx, wx = w2.alloc (.cells #[.int .i64 0, .slice none 0 0, .int .u64 0, .int .u64 0, .int .u64 0, .int .u64 0, .int .u64 0, .int .u64 0, .int .u64 0, .int .u64 0] 26) := ⟨_, rfl⟩
      have z3 : w3.heap.size = w.heap.size + 3 := by rw [hw3]; simp; omega
      have t3 : Below w3.heap.size w3 w3 := Below.refl _ _
      have t2 : Below w2.heap.size w2 w3 := (show Below w2.heap.size w2 w3 by rw [hw3]; exact (Below.refl _ _).alloc (Nat.le_refl _) _).trans (t3.mono (by omega))
      have t1 : Below w1.heap.size w1 w3 := (show Below w1.heap.size w1 w2 by rw [hw2]; exact (Below.refl _ _).alloc (Nat.le_refl _) _).trans (t2.mono (by omega))
      have t0 : Below w.heap.size w w3 := (show Below w.heap.size w w1 by rw [hw1]; exact (Below.refl _ _).alloc (Nat.le_refl _) _).trans (t1.mono (by omega))
      have BN := Lib.hid t0
      have ZN := Lib.hid z3
      have XP := Lib.hid (show BxPb w.heap.size s A n c lo la fu sl ro ph si hi w3 from (show BxPb w.heap.size s A n c lo la fu sl ro ph si hi w1 by rw [hw1]; exact BxPb.new _ s A n c lo la fu sl ro ph si hi).below t1 (by omega))
      have XG := Lib.hid (show BxGt (w.heap.size + 1) g0 g1 g2 g3 g4 g5 g6 g7 true true w3 from (show BxGt (w.heap.size + 1) g0 g1 g2 g3 g4 g5 g6 g7 true true w2 by rw [hw2, ← z1]; exact BxGt.new _ g0 g1 g2 g3 g4 g5 g6 g7 true true).below t2 (by omega))
      have XZ := Lib.hid (show BxPb (w.heap.size + 2) 0 none 0 0 0 0 0 0 0 0 0 0 w3 from (show BxPb (w.heap.size + 2) 0 none 0 0 0 0 0 0 0 0 0 0 w3 by rw [hw3, ← z2]; exact BxPb.new _ 0 none 0 0 0 0 0 0 0 0 0 0).below t3 (by omega))
      clear t0 t1 t2 t3 z1 z2 z3
      have B3 := BN
      have XP3 := XP
      have SP3 := Lib.hid (show w.heap.size < w3.heap.size by have := ZN.out; omega)
      have GP := Lib.hid (show w.heap.size ≤ w.heap.size by omega)
      have XG3 := XG
      have SG3 := Lib.hid (show (w.heap.size + 1) < w3.heap.size by have := ZN.out; omega)
      have GG := Lib.hid (show w.heap.size ≤ (w.heap.size + 1) by omega)
      have OPG := Lib.hid (show w.heap.size < (w.heap.size + 1) by omega)
      have XZ3 := XZ
      have SZ3 := Lib.hid (show (w.heap.size + 2) < w3.heap.size by have := ZN.out; omega)
      have GZ := Lib.hid (show w.heap.size ≤ (w.heap.size + 2) by omega)
      have OPZ := Lib.hid (show w.heap.size < (w.heap.size + 2) by omega)
      have OGZ := Lib.hid (show (w.heap.size + 1) < (w.heap.size + 2) by omega)
      clear ZN BN XP XG XZ
      go_enter Tryd.func44, Tryd.ntmps44
      go_upto_region 1 with fail
      rw [← hw1, ← hw2, ← hw3]
      clear hw1 hw2 hw3
      have j8 := XG3.out.c8
      have j9 := XG3.out.c9
      go_upto_region 2 with fail
      clear j8 j9
      obtain ⟨k0, k1, k2, k3, k4, k5, k6, k7, k8, k9, -, -, -, -, -, -, -, -, -, -⟩ := XP3.out
      obtain ⟨z0, z1, z2, z3, z4, z5, z6, z7, z8, z9, zf0, zf1, zf2, zf3, zf4, zf5, zf6, zf7, zf8, zf9⟩ := XZ3.out
      go_wp2_with fail
      show bodyPost _ _ _ _ _ (putPb (w.heap.size + 2) s A n c lo la fu sl ro ph si hi w3)
      have BZ : Below w.heap.size w (putPb (w.heap.size + 2) s A n c lo la fu sl ro ph si hi w3) := B3.out.trans (putPb_below GZ.out)
      obtain ⟨z0, z1, z2, z3, z4, z5, z6, z7, z8, z9, -, -, -, -, -, -, -, -, -, -⟩ := (show BxPb (w.heap.size + 2) s A n c lo la fu sl ro ph si hi (putPb (w.heap.size + 2) s A n c lo la fu sl ro ph si hi w3) from XZ3.out.put)
      exact bodyPost_ret (v := aggPb s A n c lo la fu sl ro ph si hi) (by simp [results, Tryd.results44, z0, z1, z2, z3, z4, z5, z6, z7, z8, z9, go_sem]) rfl ⟨rfl, BZ⟩
end Go.Proofs.YtjojnbeflongkaaDoor
