/-
  What the document's moved of layer 13 returns. Conditions: the numbers have 64 bits, at most four hundred rates.
-/
import Derived.Test.YtjojnbeflongkaaDoorPbD
namespace Go.Proofs.YtjojnbeflongkaaDoor
open Go.ChangeShapes Go.WideShapes Go.ChangeAt Go.RowKit
set_option linter.unusedVariables false

set_option maxHeartbeats 8000000 in
theorem rmoved_any (s : Int) (A : Option Addr) (n c lo la fu sl ro ph si hi : Nat) (ss : List Wig.Smp) (g0 g1 g2 g3 g4 g5 g6 g7 : Nat) (gl gr : Bool) (q : Bool) (s' : Int) (ss' : List Wig.Smp) (lo' la' fu' sl' ro' ph' si' hi' : Nat) (w : World) (hok : Wig.Pb.Ok ⟨s, ss, lo, la, fu, sl, ro, ph, si, hi⟩) (hR : Rt w 0 w.heap.size A n ss) (hg : Wig.Gt.Ok ⟨g0, g1, g2, g3, g4, g5, g6, g7, gl, gr⟩) (he : Wig.pbmove ⟨s, ss, lo, la, fu, sl, ro, ph, si, hi⟩ ⟨g0, g1, g2, g3, g4, g5, g6, g7, gl, gr⟩ q = ⟨s', ss', lo', la', fu', sl', ro', ph', si', hi'⟩) : Calls Tryd.prog 33 #[aggPb s A n c lo la fu sl ro ph si hi, aggGt g0 g1 g2 g3 g4 g5 g6 g7 gl gr, .bool q] w fun e w' => e = .returned (aggPb s' A n c lo' la' fu' sl' ro' ph' si' hi') ∧ Below w.heap.size w w' := by
  obtain ⟨w1, hw1⟩ : ∃ wx, wx = w.alloc (.cells #[.int .i64 s, .slice A n c, .int .u64 (lo : Int), .int .u64 (la : Int), .int .u64 (fu : Int), .int .u64 (sl : Int), .int .u64 (ro : Int), .int .u64 (ph : Int), .int .u64 (si : Int), .int .u64 (hi : Int)] 26) := ⟨_, rfl⟩
  have z1 : w1.heap.size = w.heap.size + 1 := by rw [hw1]; simp
  obtain ⟨w2, hw2⟩ : ∃ wx, wx = w1.alloc (.cells #[.int .u64 (g0 : Int), .int .u64 (g1 : Int), .int .u64 (g2 : Int), .int .u64 (g3 : Int), .int .u64 (g4 : Int), .int .u64 (g5 : Int), .int .u64 (g6 : Int), .int .u64 (g7 : Int), .bool gl, .bool gr] 28) := ⟨_, rfl⟩
  have z2 : w2.heap.size = w.heap.size + 2 := by rw [hw2]; simp; omega
  obtain ⟨w3, hw3⟩ : ∃ wx, wx = w2.alloc (.cells #[.int .i64 0, .slice none 0 0, .int .u64 0, .int .u64 0, .int .u64 0, .int .u64 0, .int .u64 0, .int .u64 0, .int .u64 0, .int .u64 0] 26) := ⟨_, rfl⟩
  have z3 : w3.heap.size = w.heap.size + 3 := by rw [hw3]; simp; omega
  have t3 : Below w3.heap.size w3 w3 := Below.refl _ _
  have t2 : Below w2.heap.size w2 w3 := (show Below w2.heap.size w2 w3 by rw [hw3]; exact (Below.refl _ _).alloc (Nat.le_refl _) _).trans (t3.mono (by omega))
  have t1 : Below w1.heap.size w1 w3 := (show Below w1.heap.size w1 w2 by rw [hw2]; exact (Below.refl _ _).alloc (Nat.le_refl _) _).trans (t2.mono (by omega))
  have t0 : Below w.heap.size w w3 := (show Below w.heap.size w w1 by rw [hw1]; exact (Below.refl _ _).alloc (Nat.le_refl _) _).trans (t1.mono (by omega))
  have BN := Lib.hid t0
  have ZN := Lib.hid z3
  have XP := Lib.hid (show BxPb w.heap.size s A n c lo la fu sl ro ph si hi w3 from (show BxPb w.heap.size s A n c lo la fu sl ro ph si hi w1 by rw [hw1]; exact BxPb.new _ s A n c lo la fu sl ro ph si hi).below t1 (by omega))
  have XG := Lib.hid (show BxGt (w.heap.size + 1) g0 g1 g2 g3 g4 g5 g6 g7 gl gr w3 from (show BxGt (w.heap.size + 1) g0 g1 g2 g3 g4 g5 g6 g7 gl gr w2 by rw [hw2, ← z1]; exact BxGt.new _ g0 g1 g2 g3 g4 g5 g6 g7 gl gr).below t2 (by omega))
  have XZ := Lib.hid (show BxPb (w.heap.size + 2) 0 none 0 0 0 0 0 0 0 0 0 0 w3 from (show BxPb (w.heap.size + 2) 0 none 0 0 0 0 0 0 0 0 0 0 w3 by rw [hw3, ← z2]; exact BxPb.new _ 0 none 0 0 0 0 0 0 0 0 0 0).below t3 (by omega))
  clear t0 t1 t2 t3 z1 z2 z3
  have B3 := BN
  have XP3 := XP
  have SP3 := Lib.hid (show w.heap.size < w3.heap.size by have := ZN.out; omega)
  have GP := Lib.hid (show w.heap.size ≤ w.heap.size by omega)
  have XG3 := XG
  have SG3 := Lib.hid (show (w.heap.size + 1) < w3.heap.size by have := ZN.out; omega)
  have GG := Lib.hid (show w.heap.size ≤ (w.heap.size + 1) by omega)
  have OPG := Lib.hid (show w.heap.size < (w.heap.size + 1) by omega)
  have XZ3 := XZ
  have SZ3 := Lib.hid (show (w.heap.size + 2) < w3.heap.size by have := ZN.out; omega)
  have GZ := Lib.hid (show w.heap.size ≤ (w.heap.size + 2) by omega)
  have OPZ := Lib.hid (show w.heap.size < (w.heap.size + 2) by omega)
  have OGZ := Lib.hid (show (w.heap.size + 1) < (w.heap.size + 2) by omega)
  clear ZN BN XP XG XZ
  unfold Wig.pbmove at he
  try simp only at he
  by_cases h0 : s = 0
  · rw [if_pos h0] at he
    have t0 : (s == 0) = true := by simp [h0]
    have CS := Lib.hid (fun (w0 : World) (hb0 : Below w.heap.size w w0) => (show Calls Tryd.prog 47 #[aggPb s A n c lo la fu sl ro ph si hi, aggGt g0 g1 g2 g3 g4 g5 g6 g7 gl gr] w0 fun e w' => e = .returned (aggPb s' A n c lo' la' fu' sl' ro' ph' si' hi') ∧ Below w0.heap.size w0 w' from rstarted_any s A n c lo la fu sl ro ph si hi ss g0 g1 g2 g3 g4 g5 g6 g7 gl gr s' ss' lo' la' fu' sl' ro' ph' si' hi' w0 hok (hR.step hb0) he))
    clear hok hR hg he h0
    go_enter Tryd.func33, Tryd.ntmps33
    go_upto_region 1 with fail
    rw [← hw1, ← hw2, ← hw3]
    clear hw1 hw2 hw3
    have k0 := XP3.out.c0
    go_upto_region 3 with fail
    clear k0
    obtain ⟨k0, k1, k2, k3, k4, k5, k6, k7, k8, k9, -, -, -, -, -, -, -, -, -, -⟩ := XP3.out
    obtain ⟨j0, j1, j2, j3, j4, j5, j6, j7, j8, j9, -, -, -, -, -, -, -, -, -, -⟩ := XG3.out
    go_wp2_with fail
    refine (CS.out _ B3.out).mono ?_
    rintro e w4 ⟨rfl, hb⟩
    have B4 := Lib.hid (below_trans' B3.out hb)
    have XP4 := Lib.hid (XP3.out.below hb SP3.out)
    have SP4 := Lib.hid (Nat.lt_of_lt_of_le SP3.out hb.size)
    have XG4 := Lib.hid (XG3.out.below hb SG3.out)
    have SG4 := Lib.hid (Nat.lt_of_lt_of_le SG3.out hb.size)
    have XZ4 := Lib.hid (XZ3.out.below hb SZ3.out)
    have SZ4 := Lib.hid (Nat.lt_of_lt_of_le SZ3.out hb.size)
    clear k0 k1 k2 k3 k4 k5 k6 k7 k8 k9 j0 j1 j2 j3 j4 j5 j6 j7 j8 j9
    clear hb B3 XP3 SP3 XG3 SG3 XZ3 SZ3
    obtain ⟨z0, z1, z2, z3, z4, z5, z6, z7, z8, z9, zf0, zf1, zf2, zf3, zf4, zf5, zf6, zf7, zf8, zf9⟩ := XZ4.out
    go_wp2_with fail
    show bodyPost _ _ _ _ _ (putPb (w.heap.size + 2) s' A n c lo' la' fu' sl' ro' ph' si' hi' w4)
    have BZ : Below w.heap.size w (putPb (w.heap.size + 2) s' A n c lo' la' fu' sl' ro' ph' si' hi' w4) := B4.out.trans (putPb_below GZ.out)
    obtain ⟨z0, z1, z2, z3, z4, z5, z6, z7, z8, z9, -, -, -, -, -, -, -, -, -, -⟩ := (show BxPb (w.heap.size + 2) s' A n c lo' la' fu' sl' ro' ph' si' hi' (putPb (w.heap.size + 2) s' A n c lo' la' fu' sl' ro' ph' si' hi' w4) from XZ4.out.put)
    exact bodyPost_ret (v := aggPb s' A n c lo' la' fu' sl' ro' ph' si' hi') (by simp [results, Tryd.results33, z0, z1, z2, z3, z4, z5, z6, z7, z8, z9, go_sem]) rfl ⟨rfl, BZ⟩
  · rw [if_neg h0] at he
    have t0 : (s == 0) = false := by simp [h0]
    clear h0
    by_cases h1 : s = 1
    · rw [if_pos h1] at he
      have t1 : (s == 1) = true := by simp [h1]
      obtain ⟨z, hz⟩ : ∃ z, Wig.pbprod ⟨s, ss, lo, la, fu, sl, ro, ph, si, hi⟩ 256 = z := ⟨_, rfl⟩
      rw [hz] at he
      have CZ := Lib.hid (fun (w0 : World) (hb0 : Below w.heap.size w w0) => (show Calls Tryd.prog 18 #[aggPb s A n c lo la fu sl ro ph si hi, .int .u64 256] w0 fun e w' => e = .returned (.int .u64 (z : Int)) ∧ Below w0.heap.size w0 w' from rproduct_any s A n c lo la fu sl ro ph si hi ss 256 z w0 hok (hR.step hb0) (by decide) hz))
      clear hok hR hg hz h1
      by_cases h4 : g6 ≤ z
      · rw [if_pos h4] at he
        have t4 : decide (g6 ≤ z) = true := decide_eq_true h4
        injection he with r1 r2 r3 r4 r5 r6 r7 r8 r9 r10
        subst r1 r2 r3 r4 r5 r6 r7 r8 r9 r10
        clear h4
        go_enter Tryd.func33, Tryd.ntmps33
        go_upto_region 1 with fail
        rw [← hw1, ← hw2, ← hw3]
        clear hw1 hw2 hw3
        have k0 := XP3.out.c0
        go_upto_region 5 with fail
        clear k0
        refine wp_region_held_drew (S := fun wx => BxPb w.heap.size s A n c lo la fu sl ro ph si hi wx ∧ BxGt (w.heap.size + 1) g0 g1 g2 g3 g4 g5 g6 g7 gl gr wx ∧ BxPb (w.heap.size + 2) 0 none 0 0 0 0 0 0 0 0 0 0 wx ∧ Below w3.heap.size w3 wx) (by kernel_rfl) ?_ (fun hHeld => ?_)
        · exact ⟨XP3.out.drew, XG3.out.drew, XZ3.out.drew, (Below.refl _ _).drew⟩
        refine held_take (v := ?vv112) 0 rfl (by kernel_rfl) (by kernel_rfl) (by kernel_rfl) (fun _ _ _ h => h) (by rfl) ?yy112 (by assumption) ?nn112
        case yy112 =>
          intro w hSw
          (try dsimp only at hSw)
          go_simp
          try with_reducible rfl
        try simp only [Act.put, List.setIfInBounds_toArray, List.set_cons_zero, List.set_cons_succ]
        refine held_take (v := .int .u64 (g6 : Int)) 1 rfl (by kernel_rfl) (by kernel_rfl) (by kernel_rfl) (fun _ _ _ h => h) (by rfl) (fun wx hSw => by have c := hSw.2.1.c6; clear hSw; go_simp) (by assumption) ?_
        try simp only [Act.put, List.setIfInBounds_toArray, List.set_cons_zero, List.set_cons_succ]
        refine held_take (v := .agg #[.int .i64 s, .slice A n c, .int .u64 (lo : Int), .int .u64 (la : Int), .int .u64 (fu : Int), .int .u64 (sl : Int), .int .u64 (ro : Int), .int .u64 (ph : Int), .int .u64 (si : Int), .int .u64 (hi : Int)]) 2 rfl (by kernel_rfl) (by kernel_rfl) (by kernel_rfl) (fun _ _ _ h => h) (by rfl) (fun wx hSw => by obtain ⟨c0, c1, c2, c3, c4, c5, c6, c7, c8, c9, -, -, -, -, -, -, -, -, -, -⟩ := hSw.1; clear hSw; go_simp) (by assumption) ?_
        try simp only [Act.put, List.setIfInBounds_toArray, List.set_cons_zero, List.set_cons_succ]
        refine held_do 3 rfl (by kernel_rfl) (by rfl) (fun K hK => ?_)
        go_wp2_with (go_at_call 18; refine (CZ.out _ (below_trans' B3.out hHeld.2.2.2)).mono ?_; rintro e w4 ⟨rfl, hb4⟩; have K4 := Lib.hid (Below.trans hHeld.2.2.2 (hb4.mono hHeld.2.2.2.size)); clear hb4)
        refine hK.out _ _ ?_ (fun hHeld => ?_)
        · exact ⟨XP3.out.below K4.out SP3.out, XG3.out.below K4.out SG3.out, XZ3.out.below K4.out SZ3.out, K4.out⟩
        clear hK K
        try simp only [Act.put, List.setIfInBounds_toArray, List.set_cons_zero, List.set_cons_succ]
        refine held_take (v := ?vv116) 4 rfl (by kernel_rfl) (by kernel_rfl) (by kernel_rfl) (fun _ _ _ h => h) (by rfl) ?yy116 (by assumption) ?nn116
        case yy116 =>
          intro w hSw
          (try dsimp only at hSw)
          go_simp
          try with_reducible rfl
        try simp only [Act.put, List.setIfInBounds_toArray, List.set_cons_zero, List.set_cons_succ]
        refine wpAnyH_done (by kernel_rfl) ?_ _
        clear hHeld
        have B4 := Lib.hid (below_trans' B3.out K4.out)
        have XP4 := Lib.hid (XP3.out.below K4.out SP3.out)
        have SP4 := Lib.hid (Nat.lt_of_lt_of_le SP3.out K4.out.size)
        have XG4 := Lib.hid (XG3.out.below K4.out SG3.out)
        have SG4 := Lib.hid (Nat.lt_of_lt_of_le SG3.out K4.out.size)
        have XZ4 := Lib.hid (XZ3.out.below K4.out SZ3.out)
        have SZ4 := Lib.hid (Nat.lt_of_lt_of_le SZ3.out K4.out.size)
        clear B3 XP3 SP3 XG3 SG3 XZ3 SZ3
        have k0 := XP4.out.c0
        have kf0 := XP4.out.f0
        have j0 := XG4.out.c0
        go_upto_region 7 with fail
        obtain ⟨w5, hw⟩ : ∃ wx, wx = w4.setCell ⟨w.heap.size, 0, none⟩ (.int .i64 2) := ⟨_, rfl⟩
        rw [← hw]
        have XP5 := Lib.hid (show BxPb w.heap.size 2 A n c lo la fu sl ro ph si hi w5 by rw [hw]; exact XP4.out.set0)
        have B5 := Lib.hid (show Below w.heap.size w w5 by rw [hw]; exact Below.setCell B4.out GP.out _)
        have SP5 := Lib.hid (show w.heap.size < w5.heap.size by rw [hw]; have := SP4.out; simpa using this)
        have XG5 := Lib.hid (show BxGt (w.heap.size + 1) g0 g1 g2 g3 g4 g5 g6 g7 gl gr w5 by rw [hw]; exact XG4.out.other rfl (Nat.ne_of_lt OPG.out))
        have SG5 := Lib.hid (show (w.heap.size + 1) < w5.heap.size by rw [hw]; have := SG4.out; simpa using this)
        have XZ5 := Lib.hid (show BxPb (w.heap.size + 2) 0 none 0 0 0 0 0 0 0 0 0 0 w5 by rw [hw]; exact XZ4.out.other rfl (Nat.ne_of_lt OPZ.out))
        have SZ5 := Lib.hid (show (w.heap.size + 2) < w5.heap.size by rw [hw]; have := SZ4.out; simpa using this)
        clear k0 kf0 j0
        clear hw B4 XP4 SP4 XG4 SG4 XZ4 SZ4
        have k7 := XP5.out.c7
        have kf7 := XP5.out.f7
        have j0 := XG5.out.c0
        go_upto_region 8 with fail
        obtain ⟨w6, hw⟩ : ∃ wx, wx = w5.setCell ⟨w.heap.size, 7, none⟩ (.int .u64 0) := ⟨_, rfl⟩
        rw [← hw]
        have XP6 := Lib.hid (show BxPb w.heap.size 2 A n c lo la fu sl ro 0 si hi w6 by rw [hw]; exact XP5.out.set7)
        have B6 := Lib.hid (show Below w.heap.size w w6 by rw [hw]; exact Below.setCell B5.out GP.out _)
        have SP6 := Lib.hid (show w.heap.size < w6.heap.size by rw [hw]; have := SP5.out; simpa using this)
        have XG6 := Lib.hid (show BxGt (w.heap.size + 1) g0 g1 g2 g3 g4 g5 g6 g7 gl gr w6 by rw [hw]; exact XG5.out.other rfl (Nat.ne_of_lt OPG.out))
        have SG6 := Lib.hid (show (w.heap.size + 1) < w6.heap.size by rw [hw]; have := SG5.out; simpa using this)
        have XZ6 := Lib.hid (show BxPb (w.heap.size + 2) 0 none 0 0 0 0 0 0 0 0 0 0 w6 by rw [hw]; exact XZ5.out.other rfl (Nat.ne_of_lt OPZ.out))
        have SZ6 := Lib.hid (show (w.heap.size + 2) < w6.heap.size by rw [hw]; have := SZ5.out; simpa using this)
        clear k7 kf7 j0
        clear hw B5 XP5 SP5 XG5 SG5 XZ5 SZ5
        have k8 := XP6.out.c8
        have kf8 := XP6.out.f8
        have j0 := XG6.out.c0
        go_upto_region 21 with fail
        obtain ⟨w7, hw⟩ : ∃ wx, wx = w6.setCell ⟨w.heap.size, 8, none⟩ (.int .u64 (g0 : Int)) := ⟨_, rfl⟩
        rw [← hw]
        have XP7 := Lib.hid (show BxPb w.heap.size 2 A n c lo la fu sl ro 0 g0 hi w7 by rw [hw]; exact XP6.out.set8)
        have B7 := Lib.hid (show Below w.heap.size w w7 by rw [hw]; exact Below.setCell B6.out GP.out _)
        have SP7 := Lib.hid (show w.heap.size < w7.heap.size by rw [hw]; have := SP6.out; simpa using this)
        have XG7 := Lib.hid (show BxGt (w.heap.size + 1) g0 g1 g2 g3 g4 g5 g6 g7 gl gr w7 by rw [hw]; exact XG6.out.other rfl (Nat.ne_of_lt OPG.out))
        have SG7 := Lib.hid (show (w.heap.size + 1) < w7.heap.size by rw [hw]; have := SG6.out; simpa using this)
        have XZ7 := Lib.hid (show BxPb (w.heap.size + 2) 0 none 0 0 0 0 0 0 0 0 0 0 w7 by rw [hw]; exact XZ6.out.other rfl (Nat.ne_of_lt OPZ.out))
        have SZ7 := Lib.hid (show (w.heap.size + 2) < w7.heap.size by rw [hw]; have := SZ6.out; simpa using this)
        clear k8 kf8 j0
        clear hw B6 XP6 SP6 XG6 SG6 XZ6 SZ6
        obtain ⟨k0, k1, k2, k3, k4, k5, k6, k7, k8, k9, -, -, -, -, -, -, -, -, -, -⟩ := XP7.out
        obtain ⟨z0, z1, z2, z3, z4, z5, z6, z7, z8, z9, zf0, zf1, zf2, zf3, zf4, zf5, zf6, zf7, zf8, zf9⟩ := XZ7.out
        go_wp2_with fail
        show bodyPost _ _ _ _ _ (putPb (w.heap.size + 2) 2 A n c lo la fu sl ro 0 g0 hi w7)
        have BZ : Below w.heap.size w (putPb (w.heap.size + 2) 2 A n c lo la fu sl ro 0 g0 hi w7) := B7.out.trans (putPb_below GZ.out)
        obtain ⟨z0, z1, z2, z3, z4, z5, z6, z7, z8, z9, -, -, -, -, -, -, -, -, -, -⟩ := (show BxPb (w.heap.size + 2) 2 A n c lo la fu sl ro 0 g0 hi (putPb (w.heap.size + 2) 2 A n c lo la fu sl ro 0 g0 hi w7) from XZ7.out.put)
        exact bodyPost_ret (v := aggPb 2 A n c lo la fu sl ro 0 g0 hi) (by simp [results, Tryd.results33, z0, z1, z2, z3, z4, z5, z6, z7, z8, z9, go_sem]) rfl ⟨rfl, BZ⟩
      · rw [if_neg h4] at he
        have t4 : decide (g6 ≤ z) = false := decide_eq_false h4
        injection he with r1 r2 r3 r4 r5 r6 r7 r8 r9 r10
        subst r1 r2 r3 r4 r5 r6 r7 r8 r9 r10
        clear h4
        go_enter Tryd.func33, Tryd.ntmps33
        go_upto_region 1 with fail
        rw [← hw1, ← hw2, ← hw3]
        clear hw1 hw2 hw3
        have k0 := XP3.out.c0
        go_upto_region 5 with fail
        clear k0
        refine wp_region_held_drew (S := fun wx => BxPb w.heap.size s A n c lo la fu sl ro ph si hi wx ∧ BxGt (w.heap.size + 1) g0 g1 g2 g3 g4 g5 g6 g7 gl gr wx ∧ BxPb (w.heap.size + 2) 0 none 0 0 0 0 0 0 0 0 0 0 wx ∧ Below w3.heap.size w3 wx) (by kernel_rfl) ?_ (fun hHeld => ?_)
        · exact ⟨XP3.out.drew, XG3.out.drew, XZ3.out.drew, (Below.refl _ _).drew⟩
        refine held_take (v := ?vv118) 0 rfl (by kernel_rfl) (by kernel_rfl) (by kernel_rfl) (fun _ _ _ h => h) (by rfl) ?yy118 (by assumption) ?nn118
        case yy118 =>
          intro w hSw
          (try dsimp only at hSw)
          go_simp
          try with_reducible rfl
        try simp only [Act.put, List.setIfInBounds_toArray, List.set_cons_zero, List.set_cons_succ]
        refine held_take (v := .int .u64 (g6 : Int)) 1 rfl (by kernel_rfl) (by kernel_rfl) (by kernel_rfl) (fun _ _ _ h => h) (by rfl) (fun wx hSw => by have c := hSw.2.1.c6; clear hSw; go_simp) (by assumption) ?_
        try simp only [Act.put, List.setIfInBounds_toArray, List.set_cons_zero, List.set_cons_succ]
        refine held_take (v := .agg #[.int .i64 s, .slice A n c, .int .u64 (lo : Int), .int .u64 (la : Int), .int .u64 (fu : Int), .int .u64 (sl : Int), .int .u64 (ro : Int), .int .u64 (ph : Int), .int .u64 (si : Int), .int .u64 (hi : Int)]) 2 rfl (by kernel_rfl) (by kernel_rfl) (by kernel_rfl) (fun _ _ _ h => h) (by rfl) (fun wx hSw => by obtain ⟨c0, c1, c2, c3, c4, c5, c6, c7, c8, c9, -, -, -, -, -, -, -, -, -, -⟩ := hSw.1; clear hSw; go_simp) (by assumption) ?_
        try simp only [Act.put, List.setIfInBounds_toArray, List.set_cons_zero, List.set_cons_succ]
        refine held_do 3 rfl (by kernel_rfl) (by rfl) (fun K hK => ?_)
        go_wp2_with (go_at_call 18; refine (CZ.out _ (below_trans' B3.out hHeld.2.2.2)).mono ?_; rintro e w4 ⟨rfl, hb4⟩; have K4 := Lib.hid (Below.trans hHeld.2.2.2 (hb4.mono hHeld.2.2.2.size)); clear hb4)
        refine hK.out _ _ ?_ (fun hHeld => ?_)
        · exact ⟨XP3.out.below K4.out SP3.out, XG3.out.below K4.out SG3.out, XZ3.out.below K4.out SZ3.out, K4.out⟩
        clear hK K
        try simp only [Act.put, List.setIfInBounds_toArray, List.set_cons_zero, List.set_cons_succ]
        refine held_take (v := ?vv122) 4 rfl (by kernel_rfl) (by kernel_rfl) (by kernel_rfl) (fun _ _ _ h => h) (by rfl) ?yy122 (by assumption) ?nn122
        case yy122 =>
          intro w hSw
          (try dsimp only at hSw)
          go_simp
          try with_reducible rfl
        try simp only [Act.put, List.setIfInBounds_toArray, List.set_cons_zero, List.set_cons_succ]
        refine wpAnyH_done (by kernel_rfl) ?_ _
        clear hHeld
        have B4 := Lib.hid (below_trans' B3.out K4.out)
        have XP4 := Lib.hid (XP3.out.below K4.out SP3.out)
        have SP4 := Lib.hid (Nat.lt_of_lt_of_le SP3.out K4.out.size)
        have XG4 := Lib.hid (XG3.out.below K4.out SG3.out)
        have SG4 := Lib.hid (Nat.lt_of_lt_of_le SG3.out K4.out.size)
        have XZ4 := Lib.hid (XZ3.out.below K4.out SZ3.out)
        have SZ4 := Lib.hid (Nat.lt_of_lt_of_le SZ3.out K4.out.size)
        clear B3 XP3 SP3 XG3 SG3 XZ3 SZ3
        go_upto_region 21 with fail
        obtain ⟨k0, k1, k2, k3, k4, k5, k6, k7, k8, k9, -, -, -, -, -, -, -, -, -, -⟩ := XP4.out
        obtain ⟨z0, z1, z2, z3, z4, z5, z6, z7, z8, z9, zf0, zf1, zf2, zf3, zf4, zf5, zf6, zf7, zf8, zf9⟩ := XZ4.out
        go_wp2_with fail
        show bodyPost _ _ _ _ _ (putPb (w.heap.size + 2) s A n c lo la fu sl ro ph si hi w4)
        have BZ : Below w.heap.size w (putPb (w.heap.size + 2) s A n c lo la fu sl ro ph si hi w4) := B4.out.trans (putPb_below GZ.out)
        obtain ⟨z0, z1, z2, z3, z4, z5, z6, z7, z8, z9, -, -, -, -, -, -, -, -, -, -⟩ := (show BxPb (w.heap.size + 2) s A n c lo la fu sl ro ph si hi (putPb (w.heap.size + 2) s A n c lo la fu sl ro ph si hi w4) from XZ4.out.put)
        exact bodyPost_ret (v := aggPb s A n c lo la fu sl ro ph si hi) (by simp [results, Tryd.results33, z0, z1, z2, z3, z4, z5, z6, z7, z8, z9, go_sem]) rfl ⟨rfl, BZ⟩
    · rw [if_neg h1] at he
      have t1 : (s == 1) = false := by simp [h1]
      clear h1
      by_cases h2 : s = 2
      · rw [if_pos h2] at he
        have t2 : (s == 2) = true := by simp [h2]
        have HS2 := Lib.hid h2
        cases q
        · rw [if_neg (by simp)] at he
          obtain ⟨y, hy⟩ : ∃ y, Wig.fadd si lo = y := ⟨_, rfl⟩
          obtain ⟨x, hx⟩ : ∃ x, Wig.fadd ph 1 = x := ⟨_, rfl⟩
          rw [hy, hx] at he
          have CY := Lib.hid (fun w => (show Calls Tryd.prog 29 #[.int .u64 (si : Int), .int .u64 (lo : Int)] w fun e w' => e = .returned (.int .u64 (y : Int)) ∧ w = w' by rw [← hy]; exact radd_any si lo w hok.since hok.low))
          have CP1 := Lib.hid (fun w => (show Calls Tryd.prog 29 #[.int .u64 (ph : Int), .int .u64 1] w fun e w' => e = .returned (.int .u64 (x : Int)) ∧ w = w' by rw [← hx]; exact radd_any ph 1 w hok.phase (by decide)))
          clear hok hR hg hy hx h2
          by_cases h4 : y ≤ g0
          · rw [if_pos h4] at he
            have t4 : decide (y ≤ g0) = true := decide_eq_true h4
            injection he with r1 r2 r3 r4 r5 r6 r7 r8 r9 r10
            subst r1 r2 r3 r4 r5 r6 r7 r8 r9 r10
            clear h4
            go_enter Tryd.func33, Tryd.ntmps33
            go_upto_region 1 with fail
            rw [← hw1, ← hw2, ← hw3]
            clear hw1 hw2 hw3
            have k0 := XP3.out.c0
            go_upto_region 13 with fail
            clear k0
            have k2 := XP3.out.c2
            have k8 := XP3.out.c8
            have j0 := XG3.out.c0
            go_quiet (first | (go_at_call 29; with_reducible exact quiet_eq (CY.out _)) | fail)
            obtain ⟨w4, hw⟩ : ∃ wx, wx = w3.drewN nq := ⟨_, rfl⟩
            rw [← hw]
            have B4 := Lib.hid (show Below w.heap.size w w4 by rw [hw]; exact below_drewN' B3.out nq)
            have XP4 := Lib.hid (show BxPb w.heap.size s A n c lo la fu sl ro ph si hi w4 by rw [hw]; exact XP3.out.drewN nq)
            have SP4 := Lib.hid (show w.heap.size < w4.heap.size by rw [hw]; exact SP3.out)
            have XG4 := Lib.hid (show BxGt (w.heap.size + 1) g0 g1 g2 g3 g4 g5 g6 g7 gl gr w4 by rw [hw]; exact XG3.out.drewN nq)
            have SG4 := Lib.hid (show (w.heap.size + 1) < w4.heap.size by rw [hw]; exact SG3.out)
            have XZ4 := Lib.hid (show BxPb (w.heap.size + 2) 0 none 0 0 0 0 0 0 0 0 0 0 w4 by rw [hw]; exact XZ3.out.drewN nq)
            have SZ4 := Lib.hid (show (w.heap.size + 2) < w4.heap.size by rw [hw]; exact SZ3.out)
            clear k2 k8 j0
            clear hw B3 XP3 SP3 XG3 SG3 XZ3 SZ3
            have k7 := XP4.out.c7
            have kf7 := XP4.out.f7
            go_wp2_with fail
            refine (CP1.out _).mono ?_
            rintro e _ ⟨rfl, rfl⟩
            go_upto_region 15 with fail
            obtain ⟨w5, hw⟩ : ∃ wx, wx = w4.setCell ⟨w.heap.size, 7, none⟩ (.int .u64 (x : Int)) := ⟨_, rfl⟩
            rw [← hw]
            have XP5 := Lib.hid (show BxPb w.heap.size s A n c lo la fu sl ro x si hi w5 by rw [hw]; exact XP4.out.set7)
            have B5 := Lib.hid (show Below w.heap.size w w5 by rw [hw]; exact Below.setCell B4.out GP.out _)
            have SP5 := Lib.hid (show w.heap.size < w5.heap.size by rw [hw]; have := SP4.out; simpa using this)
            have XG5 := Lib.hid (show BxGt (w.heap.size + 1) g0 g1 g2 g3 g4 g5 g6 g7 gl gr w5 by rw [hw]; exact XG4.out.other rfl (Nat.ne_of_lt OPG.out))
            have SG5 := Lib.hid (show (w.heap.size + 1) < w5.heap.size by rw [hw]; have := SG4.out; simpa using this)
            have XZ5 := Lib.hid (show BxPb (w.heap.size + 2) 0 none 0 0 0 0 0 0 0 0 0 0 w5 by rw [hw]; exact XZ4.out.other rfl (Nat.ne_of_lt OPZ.out))
            have SZ5 := Lib.hid (show (w.heap.size + 2) < w5.heap.size by rw [hw]; have := SZ4.out; simpa using this)
            clear k7 kf7
            clear hw B4 XP4 SP4 XG4 SG4 XZ4 SZ4
            have k8 := XP5.out.c8
            have kf8 := XP5.out.f8
            have j0 := XG5.out.c0
            go_upto_region 21 with fail
            obtain ⟨w6, hw⟩ : ∃ wx, wx = w5.setCell ⟨w.heap.size, 8, none⟩ (.int .u64 (g0 : Int)) := ⟨_, rfl⟩
            rw [← hw]
            have XP6 := Lib.hid (show BxPb w.heap.size s A n c lo la fu sl ro x g0 hi w6 by rw [hw]; exact XP5.out.set8)
            have B6 := Lib.hid (show Below w.heap.size w w6 by rw [hw]; exact Below.setCell B5.out GP.out _)
            have SP6 := Lib.hid (show w.heap.size < w6.heap.size by rw [hw]; have := SP5.out; simpa using this)
            have XG6 := Lib.hid (show BxGt (w.heap.size + 1) g0 g1 g2 g3 g4 g5 g6 g7 gl gr w6 by rw [hw]; exact XG5.out.other rfl (Nat.ne_of_lt OPG.out))
            have SG6 := Lib.hid (show (w.heap.size + 1) < w6.heap.size by rw [hw]; have := SG5.out; simpa using this)
            have XZ6 := Lib.hid (show BxPb (w.heap.size + 2) 0 none 0 0 0 0 0 0 0 0 0 0 w6 by rw [hw]; exact XZ5.out.other rfl (Nat.ne_of_lt OPZ.out))
            have SZ6 := Lib.hid (show (w.heap.size + 2) < w6.heap.size by rw [hw]; have := SZ5.out; simpa using this)
            clear k8 kf8 j0
            clear hw B5 XP5 SP5 XG5 SG5 XZ5 SZ5
            obtain ⟨k0, k1, k2, k3, k4, k5, k6, k7, k8, k9, -, -, -, -, -, -, -, -, -, -⟩ := XP6.out
            obtain ⟨z0, z1, z2, z3, z4, z5, z6, z7, z8, z9, zf0, zf1, zf2, zf3, zf4, zf5, zf6, zf7, zf8, zf9⟩ := XZ6.out
            go_wp2_with fail
            show bodyPost _ _ _ _ _ (putPb (w.heap.size + 2) s A n c lo la fu sl ro x g0 hi w6)
            have BZ : Below w.heap.size w (putPb (w.heap.size + 2) s A n c lo la fu sl ro x g0 hi w6) := B6.out.trans (putPb_below GZ.out)
            obtain ⟨z0, z1, z2, z3, z4, z5, z6, z7, z8, z9, -, -, -, -, -, -, -, -, -, -⟩ := (show BxPb (w.heap.size + 2) s A n c lo la fu sl ro x g0 hi (putPb (w.heap.size + 2) s A n c lo la fu sl ro x g0 hi w6) from XZ6.out.put)
            exact bodyPost_ret (v := aggPb s A n c lo la fu sl ro x g0 hi) (by simp [results, Tryd.results33, z0, z1, z2, z3, z4, z5, z6, z7, z8, z9, go_sem]) rfl ⟨rfl, BZ⟩
          · rw [if_neg h4] at he
            have t4 : decide (y ≤ g0) = false := decide_eq_false h4
            injection he with r1 r2 r3 r4 r5 r6 r7 r8 r9 r10
            subst r1 r2 r3 r4 r5 r6 r7 r8 r9 r10
            clear h4
            go_enter Tryd.func33, Tryd.ntmps33
            go_upto_region 1 with fail
            rw [← hw1, ← hw2, ← hw3]
            clear hw1 hw2 hw3
            have k0 := XP3.out.c0
            go_upto_region 13 with fail
            clear k0
            have k2 := XP3.out.c2
            have k8 := XP3.out.c8
            have j0 := XG3.out.c0
            go_quiet (first | (go_at_call 29; with_reducible exact quiet_eq (CY.out _)) | fail)
            obtain ⟨w4, hw⟩ : ∃ wx, wx = w3.drewN nq := ⟨_, rfl⟩
            rw [← hw]
            have B4 := Lib.hid (show Below w.heap.size w w4 by rw [hw]; exact below_drewN' B3.out nq)
            have XP4 := Lib.hid (show BxPb w.heap.size s A n c lo la fu sl ro ph si hi w4 by rw [hw]; exact XP3.out.drewN nq)
            have SP4 := Lib.hid (show w.heap.size < w4.heap.size by rw [hw]; exact SP3.out)
            have XG4 := Lib.hid (show BxGt (w.heap.size + 1) g0 g1 g2 g3 g4 g5 g6 g7 gl gr w4 by rw [hw]; exact XG3.out.drewN nq)
            have SG4 := Lib.hid (show (w.heap.size + 1) < w4.heap.size by rw [hw]; exact SG3.out)
            have XZ4 := Lib.hid (show BxPb (w.heap.size + 2) 0 none 0 0 0 0 0 0 0 0 0 0 w4 by rw [hw]; exact XZ3.out.drewN nq)
            have SZ4 := Lib.hid (show (w.heap.size + 2) < w4.heap.size by rw [hw]; exact SZ3.out)
            clear k2 k8 j0
            clear hw B3 XP3 SP3 XG3 SG3 XZ3 SZ3
            go_upto_region 21 with fail
            obtain ⟨k0, k1, k2, k3, k4, k5, k6, k7, k8, k9, -, -, -, -, -, -, -, -, -, -⟩ := XP4.out
            obtain ⟨z0, z1, z2, z3, z4, z5, z6, z7, z8, z9, zf0, zf1, zf2, zf3, zf4, zf5, zf6, zf7, zf8, zf9⟩ := XZ4.out
            go_wp2_with fail
            show bodyPost _ _ _ _ _ (putPb (w.heap.size + 2) s A n c lo la fu sl ro ph si hi w4)
            have BZ : Below w.heap.size w (putPb (w.heap.size + 2) s A n c lo la fu sl ro ph si hi w4) := B4.out.trans (putPb_below GZ.out)
            obtain ⟨z0, z1, z2, z3, z4, z5, z6, z7, z8, z9, -, -, -, -, -, -, -, -, -, -⟩ := (show BxPb (w.heap.size + 2) s A n c lo la fu sl ro ph si hi (putPb (w.heap.size + 2) s A n c lo la fu sl ro ph si hi w4) from XZ4.out.put)
            exact bodyPost_ret (v := aggPb s A n c lo la fu sl ro ph si hi) (by simp [results, Tryd.results33, z0, z1, z2, z3, z4, z5, z6, z7, z8, z9, go_sem]) rfl ⟨rfl, BZ⟩
        · rw [if_pos rfl] at he
          injection he with r1 r2 r3 r4 r5 r6 r7 r8 r9 r10
          subst r1 r2 r3 r4 r5 r6 r7 r8 r9 r10
          clear hok hR hg h2
          go_enter Tryd.func33, Tryd.ntmps33
          go_upto_region 1 with fail
          rw [← hw1, ← hw2, ← hw3]
          clear hw1 hw2 hw3
          have k0 := XP3.out.c0
          go_upto_region 11 with fail
          clear k0
          have k0 := XP3.out.c0
          have kf0 := XP3.out.f0
          have j0 := XG3.out.c0
          go_upto_region 12 with fail
          obtain ⟨w4, hw⟩ : ∃ wx, wx = w3.setCell ⟨w.heap.size, 0, none⟩ (.int .i64 3) := ⟨_, rfl⟩
          rw [← hw]
          have XP4 := Lib.hid (show BxPb w.heap.size 3 A n c lo la fu sl ro ph si hi w4 by rw [hw]; exact XP3.out.set0)
          have B4 := Lib.hid (show Below w.heap.size w w4 by rw [hw]; exact Below.setCell B3.out GP.out _)
          have SP4 := Lib.hid (show w.heap.size < w4.heap.size by rw [hw]; have := SP3.out; simpa using this)
          have XG4 := Lib.hid (show BxGt (w.heap.size + 1) g0 g1 g2 g3 g4 g5 g6 g7 gl gr w4 by rw [hw]; exact XG3.out.other rfl (Nat.ne_of_lt OPG.out))
          have SG4 := Lib.hid (show (w.heap.size + 1) < w4.heap.size by rw [hw]; have := SG3.out; simpa using this)
          have XZ4 := Lib.hid (show BxPb (w.heap.size + 2) 0 none 0 0 0 0 0 0 0 0 0 0 w4 by rw [hw]; exact XZ3.out.other rfl (Nat.ne_of_lt OPZ.out))
          have SZ4 := Lib.hid (show (w.heap.size + 2) < w4.heap.size by rw [hw]; have := SZ3.out; simpa using this)
          clear k0 kf0 j0
          clear hw B3 XP3 SP3 XG3 SG3 XZ3 SZ3
          have k8 := XP4.out.c8
          have kf8 := XP4.out.f8
          have j0 := XG4.out.c0
          go_upto_region 21 with fail
          obtain ⟨w5, hw⟩ : ∃ wx, wx = w4.setCell ⟨w.heap.size, 8, none⟩ (.int .u64 (g0 : Int)) := ⟨_, rfl⟩
          rw [← hw]
          have XP5 := Lib.hid (show BxPb w.heap.size 3 A n c lo la fu sl ro ph g0 hi w5 by rw [hw]; exact XP4.out.set8)
          have B5 := Lib.hid (show Below w.heap.size w w5 by rw [hw]; exact Below.setCell B4.out GP.out _)
          have SP5 := Lib.hid (show w.heap.size < w5.heap.size by rw [hw]; have := SP4.out; simpa using this)
          have XG5 := Lib.hid (show BxGt (w.heap.size + 1) g0 g1 g2 g3 g4 g5 g6 g7 gl gr w5 by rw [hw]; exact XG4.out.other rfl (Nat.ne_of_lt OPG.out))
          have SG5 := Lib.hid (show (w.heap.size + 1) < w5.heap.size by rw [hw]; have := SG4.out; simpa using this)
          have XZ5 := Lib.hid (show BxPb (w.heap.size + 2) 0 none 0 0 0 0 0 0 0 0 0 0 w5 by rw [hw]; exact XZ4.out.other rfl (Nat.ne_of_lt OPZ.out))
          have SZ5 := Lib.hid (show (w.heap.size + 2) < w5.heap.size by rw [hw]; have := SZ4.out; simpa using this)
          clear k8 kf8 j0
          clear hw B4 XP4 SP4 XG4 SG4 XZ4 SZ4
          obtain ⟨k0, k1, k2, k3, k4, k5, k6, k7, k8, k9, -, -, -, -, -, -, -, -, -, -⟩ := XP5.out
          obtain ⟨z0, z1, z2, z3, z4, z5, z6, z7, z8, z9, zf0, zf1, zf2, zf3, zf4, zf5, zf6, zf7, zf8, zf9⟩ := XZ5.out
          go_wp2_with fail
          show bodyPost _ _ _ _ _ (putPb (w.heap.size + 2) 3 A n c lo la fu sl ro ph g0 hi w5)
          have BZ : Below w.heap.size w (putPb (w.heap.size + 2) 3 A n c lo la fu sl ro ph g0 hi w5) := B5.out.trans (putPb_below GZ.out)
          obtain ⟨z0, z1, z2, z3, z4, z5, z6, z7, z8, z9, -, -, -, -, -, -, -, -, -, -⟩ := (show BxPb (w.heap.size + 2) 3 A n c lo la fu sl ro ph g0 hi (putPb (w.heap.size + 2) 3 A n c lo la fu sl ro ph g0 hi w5) from XZ5.out.put)
          exact bodyPost_ret (v := aggPb 3 A n c lo la fu sl ro ph g0 hi) (by simp [results, Tryd.results33, z0, z1, z2, z3, z4, z5, z6, z7, z8, z9, go_sem]) rfl ⟨rfl, BZ⟩
      · rw [if_neg h2] at he
        have t2 : (s == 2) = false := by simp [h2]
        clear h2
        by_cases h3 : s = 3
        · rw [if_pos h3] at he
          have t3 : (s == 3) = true := by simp [h3]
          obtain ⟨y, hy⟩ : ∃ y, Wig.fadd si 200 = y := ⟨_, rfl⟩
          rw [hy] at he
          have CY := Lib.hid (fun w => (show Calls Tryd.prog 29 #[.int .u64 (si : Int), .int .u64 200] w fun e w' => e = .returned (.int .u64 (y : Int)) ∧ w = w' by rw [← hy]; exact radd_any si 200 w hok.since (by decide)))
          clear hok hR hg hy h3
          by_cases h4 : y ≤ g0
          · rw [if_pos h4] at he
            have t4 : decide (y ≤ g0) = true := decide_eq_true h4
            injection he with r1 r2 r3 r4 r5 r6 r7 r8 r9 r10
            subst r1 r2 r3 r4 r5 r6 r7 r8 r9 r10
            clear h4
            go_enter Tryd.func33, Tryd.ntmps33
            go_upto_region 1 with fail
            rw [← hw1, ← hw2, ← hw3]
            clear hw1 hw2 hw3
            have k0 := XP3.out.c0
            go_upto_region 17 with fail
            clear k0
            have k2 := XP3.out.c2
            have k8 := XP3.out.c8
            have j0 := XG3.out.c0
            go_quiet (first | (go_at_call 29; with_reducible exact quiet_eq (CY.out _)) | fail)
            obtain ⟨w4, hw⟩ : ∃ wx, wx = w3.drewN nq := ⟨_, rfl⟩
            rw [← hw]
            have B4 := Lib.hid (show Below w.heap.size w w4 by rw [hw]; exact below_drewN' B3.out nq)
            have XP4 := Lib.hid (show BxPb w.heap.size s A n c lo la fu sl ro ph si hi w4 by rw [hw]; exact XP3.out.drewN nq)
            have SP4 := Lib.hid (show w.heap.size < w4.heap.size by rw [hw]; exact SP3.out)
            have XG4 := Lib.hid (show BxGt (w.heap.size + 1) g0 g1 g2 g3 g4 g5 g6 g7 gl gr w4 by rw [hw]; exact XG3.out.drewN nq)
            have SG4 := Lib.hid (show (w.heap.size + 1) < w4.heap.size by rw [hw]; exact SG3.out)
            have XZ4 := Lib.hid (show BxPb (w.heap.size + 2) 0 none 0 0 0 0 0 0 0 0 0 0 w4 by rw [hw]; exact XZ3.out.drewN nq)
            have SZ4 := Lib.hid (show (w.heap.size + 2) < w4.heap.size by rw [hw]; exact SZ3.out)
            clear k2 k8 j0
            clear hw B3 XP3 SP3 XG3 SG3 XZ3 SZ3
            have k0 := XP4.out.c0
            have kf0 := XP4.out.f0
            have j0 := XG4.out.c0
            go_upto_region 19 with fail
            obtain ⟨w5, hw⟩ : ∃ wx, wx = w4.setCell ⟨w.heap.size, 0, none⟩ (.int .i64 2) := ⟨_, rfl⟩
            rw [← hw]
            have XP5 := Lib.hid (show BxPb w.heap.size 2 A n c lo la fu sl ro ph si hi w5 by rw [hw]; exact XP4.out.set0)
            have B5 := Lib.hid (show Below w.heap.size w w5 by rw [hw]; exact Below.setCell B4.out GP.out _)
            have SP5 := Lib.hid (show w.heap.size < w5.heap.size by rw [hw]; have := SP4.out; simpa using this)
            have XG5 := Lib.hid (show BxGt (w.heap.size + 1) g0 g1 g2 g3 g4 g5 g6 g7 gl gr w5 by rw [hw]; exact XG4.out.other rfl (Nat.ne_of_lt OPG.out))
            have SG5 := Lib.hid (show (w.heap.size + 1) < w5.heap.size by rw [hw]; have := SG4.out; simpa using this)
            have XZ5 := Lib.hid (show BxPb (w.heap.size + 2) 0 none 0 0 0 0 0 0 0 0 0 0 w5 by rw [hw]; exact XZ4.out.other rfl (Nat.ne_of_lt OPZ.out))
            have SZ5 := Lib.hid (show (w.heap.size + 2) < w5.heap.size by rw [hw]; have := SZ4.out; simpa using this)
            clear k0 kf0 j0
            clear hw B4 XP4 SP4 XG4 SG4 XZ4 SZ4
            have k7 := XP5.out.c7
            have kf7 := XP5.out.f7
            have j0 := XG5.out.c0
            go_upto_region 20 with fail
            obtain ⟨w6, hw⟩ : ∃ wx, wx = w5.setCell ⟨w.heap.size, 7, none⟩ (.int .u64 2) := ⟨_, rfl⟩
            rw [← hw]
            have XP6 := Lib.hid (show BxPb w.heap.size 2 A n c lo la fu sl ro 2 si hi w6 by rw [hw]; exact XP5.out.set7)
            have B6 := Lib.hid (show Below w.heap.size w w6 by rw [hw]; exact Below.setCell B5.out GP.out _)
            have SP6 := Lib.hid (show w.heap.size < w6.heap.size by rw [hw]; have := SP5.out; simpa using this)
            have XG6 := Lib.hid (show BxGt (w.heap.size + 1) g0 g1 g2 g3 g4 g5 g6 g7 gl gr w6 by rw [hw]; exact XG5.out.other rfl (Nat.ne_of_lt OPG.out))
            have SG6 := Lib.hid (show (w.heap.size + 1) < w6.heap.size by rw [hw]; have := SG5.out; simpa using this)
            have XZ6 := Lib.hid (show BxPb (w.heap.size + 2) 0 none 0 0 0 0 0 0 0 0 0 0 w6 by rw [hw]; exact XZ5.out.other rfl (Nat.ne_of_lt OPZ.out))
            have SZ6 := Lib.hid (show (w.heap.size + 2) < w6.heap.size by rw [hw]; have := SZ5.out; simpa using this)
            clear k7 kf7 j0
            clear hw B5 XP5 SP5 XG5 SG5 XZ5 SZ5
            have k8 := XP6.out.c8
            have kf8 := XP6.out.f8
            have j0 := XG6.out.c0
            go_upto_region 21 with fail
            obtain ⟨w7, hw⟩ : ∃ wx, wx = w6.setCell ⟨w.heap.size, 8, none⟩ (.int .u64 (g0 : Int)) := ⟨_, rfl⟩
            rw [← hw]
            have XP7 := Lib.hid (show BxPb w.heap.size 2 A n c lo la fu sl ro 2 g0 hi w7 by rw [hw]; exact XP6.out.set8)
            have B7 := Lib.hid (show Below w.heap.size w w7 by rw [hw]; exact Below.setCell B6.out GP.out _)
            have SP7 := Lib.hid (show w.heap.size < w7.heap.size by rw [hw]; have := SP6.out; simpa using this)
            have XG7 := Lib.hid (show BxGt (w.heap.size + 1) g0 g1 g2 g3 g4 g5 g6 g7 gl gr w7 by rw [hw]; exact XG6.out.other rfl (Nat.ne_of_lt OPG.out))
            have SG7 := Lib.hid (show (w.heap.size + 1) < w7.heap.size by rw [hw]; have := SG6.out; simpa using this)
            have XZ7 := Lib.hid (show BxPb (w.heap.size + 2) 0 none 0 0 0 0 0 0 0 0 0 0 w7 by rw [hw]; exact XZ6.out.other rfl (Nat.ne_of_lt OPZ.out))
            have SZ7 := Lib.hid (show (w.heap.size + 2) < w7.heap.size by rw [hw]; have := SZ6.out; simpa using this)
            clear k8 kf8 j0
            clear hw B6 XP6 SP6 XG6 SG6 XZ6 SZ6
            obtain ⟨k0, k1, k2, k3, k4, k5, k6, k7, k8, k9, -, -, -, -, -, -, -, -, -, -⟩ := XP7.out
            obtain ⟨z0, z1, z2, z3, z4, z5, z6, z7, z8, z9, zf0, zf1, zf2, zf3, zf4, zf5, zf6, zf7, zf8, zf9⟩ := XZ7.out
            go_wp2_with fail
            show bodyPost _ _ _ _ _ (putPb (w.heap.size + 2) 2 A n c lo la fu sl ro 2 g0 hi w7)
            have BZ : Below w.heap.size w (putPb (w.heap.size + 2) 2 A n c lo la fu sl ro 2 g0 hi w7) := B7.out.trans (putPb_below GZ.out)
            obtain ⟨z0, z1, z2, z3, z4, z5, z6, z7, z8, z9, -, -, -, -, -, -, -, -, -, -⟩ := (show BxPb (w.heap.size + 2) 2 A n c lo la fu sl ro 2 g0 hi (putPb (w.heap.size + 2) 2 A n c lo la fu sl ro 2 g0 hi w7) from XZ7.out.put)
            exact bodyPost_ret (v := aggPb 2 A n c lo la fu sl ro 2 g0 hi) (by simp [results, Tryd.results33, z0, z1, z2, z3, z4, z5, z6, z7, z8, z9, go_sem]) rfl ⟨rfl, BZ⟩
          · rw [if_neg h4] at he
            have t4 : decide (y ≤ g0) = false := decide_eq_false h4
            injection he with r1 r2 r3 r4 r5 r6 r7 r8 r9 r10
            subst r1 r2 r3 r4 r5 r6 r7 r8 r9 r10
            clear h4
            go_enter Tryd.func33, Tryd.ntmps33
            go_upto_region 1 with fail
            rw [← hw1, ← hw2, ← hw3]
            clear hw1 hw2 hw3
            have k0 := XP3.out.c0
            go_upto_region 17 with fail
            clear k0
            have k2 := XP3.out.c2
            have k8 := XP3.out.c8
            have j0 := XG3.out.c0
            go_quiet (first | (go_at_call 29; with_reducible exact quiet_eq (CY.out _)) | fail)
            obtain ⟨w4, hw⟩ : ∃ wx, wx = w3.drewN nq := ⟨_, rfl⟩
            rw [← hw]
            have B4 := Lib.hid (show Below w.heap.size w w4 by rw [hw]; exact below_drewN' B3.out nq)
            have XP4 := Lib.hid (show BxPb w.heap.size s A n c lo la fu sl ro ph si hi w4 by rw [hw]; exact XP3.out.drewN nq)
            have SP4 := Lib.hid (show w.heap.size < w4.heap.size by rw [hw]; exact SP3.out)
            have XG4 := Lib.hid (show BxGt (w.heap.size + 1) g0 g1 g2 g3 g4 g5 g6 g7 gl gr w4 by rw [hw]; exact XG3.out.drewN nq)
            have SG4 := Lib.hid (show (w.heap.size + 1) < w4.heap.size by rw [hw]; exact SG3.out)
            have XZ4 := Lib.hid (show BxPb (w.heap.size + 2) 0 none 0 0 0 0 0 0 0 0 0 0 w4 by rw [hw]; exact XZ3.out.drewN nq)
            have SZ4 := Lib.hid (show (w.heap.size + 2) < w4.heap.size by rw [hw]; exact SZ3.out)
            clear k2 k8 j0
            clear hw B3 XP3 SP3 XG3 SG3 XZ3 SZ3
            go_upto_region 21 with fail
            obtain ⟨k0, k1, k2, k3, k4, k5, k6, k7, k8, k9, -, -, -, -, -, -, -, -, -, -⟩ := XP4.out
            obtain ⟨z0, z1, z2, z3, z4, z5, z6, z7, z8, z9, zf0, zf1, zf2, zf3, zf4, zf5, zf6, zf7, zf8, zf9⟩ := XZ4.out
            go_wp2_with fail
            show bodyPost _ _ _ _ _ (putPb (w.heap.size + 2) s A n c lo la fu sl ro ph si hi w4)
            have BZ : Below w.heap.size w (putPb (w.heap.size + 2) s A n c lo la fu sl ro ph si hi w4) := B4.out.trans (putPb_below GZ.out)
            obtain ⟨z0, z1, z2, z3, z4, z5, z6, z7, z8, z9, -, -, -, -, -, -, -, -, -, -⟩ := (show BxPb (w.heap.size + 2) s A n c lo la fu sl ro ph si hi (putPb (w.heap.size + 2) s A n c lo la fu sl ro ph si hi w4) from XZ4.out.put)
            exact bodyPost_ret (v := aggPb s A n c lo la fu sl ro ph si hi) (by simp [results, Tryd.results33, z0, z1, z2, z3, z4, z5, z6, z7, z8, z9, go_sem]) rfl ⟨rfl, BZ⟩
        · rw [if_neg h3] at he
          have t3 : (s == 3) = false := by simp [h3]
          injection he with r1 r2 r3 r4 r5 r6 r7 r8 r9 r10
          subst r1 r2 r3 r4 r5 r6 r7 r8 r9 r10
          clear hok hR hg h3
          go_enter Tryd.func33, Tryd.ntmps33
          go_upto_region 1 with fail
          rw [← hw1, ← hw2, ← hw3]
          clear hw1 hw2 hw3
          have k0 := XP3.out.c0
          go_upto_region 21 with fail
          clear k0
          go_upto_region 21 with fail
          obtain ⟨k0, k1, k2, k3, k4, k5, k6, k7, k8, k9, -, -, -, -, -, -, -, -, -, -⟩ := XP3.out
          obtain ⟨z0, z1, z2, z3, z4, z5, z6, z7, z8, z9, zf0, zf1, zf2, zf3, zf4, zf5, zf6, zf7, zf8, zf9⟩ := XZ3.out
          go_wp2_with fail
          show bodyPost _ _ _ _ _ (putPb (w.heap.size + 2) s A n c lo la fu sl ro ph si hi w3)
          have BZ : Below w.heap.size w (putPb (w.heap.size + 2) s A n c lo la fu sl ro ph si hi w3) := B3.out.trans (putPb_below GZ.out)
          obtain ⟨z0, z1, z2, z3, z4, z5, z6, z7, z8, z9, -, -, -, -, -, -, -, -, -, -⟩ := (show BxPb (w.heap.size + 2) s A n c lo la fu sl ro ph si hi (putPb (w.heap.size + 2) s A n c lo la fu sl ro ph si hi w3) from XZ3.out.put)
          exact bodyPost_ret (v := aggPb s A n c lo la fu sl ro ph si hi) (by simp [results, Tryd.results33, z0, z1, z2, z3, z4, z5, z6, z7, z8, z9, go_sem]) rfl ⟨rfl, BZ⟩
end Go.Proofs.YtjojnbeflongkaaDoor
