/-
  What package probe's moved returns. Conditions: the numbers have 64 bits, at most four hundred rates.
-/
import Derived.Test.YtjojnbeflongkaaDoorPbB
import Derived.Test.YtjojnbeflongkaaDoorPbC
namespace Go.Proofs.YtjojnbeflongkaaDoor
open Go.ChangeShapes Go.WideShapes Go.ChangeAt Go.RowKit
set_option linter.unusedVariables false

set_option maxHeartbeats 8000000 in
theorem moved_any (s : Int) (A : Option Addr) (n c lo la fu sl ro ph si hi : Nat) (ss : List Wig.Smp) (g0 g1 g2 g3 g4 g5 g6 g7 : Nat) (gl gr : Bool) (q : Bool) (s' : Int) (ss' : List Wig.Smp) (lo' la' fu' sl' ro' ph' si' hi' : Nat) (w : World) (hok : Wig.Pb.Ok ⟨s, ss, lo, la, fu, sl, ro, ph, si, hi⟩) (hR : Rt w 0 w.heap.size A n ss) (hg : Wig.Gt.Ok ⟨g0, g1, g2, g3, g4, g5, g6, g7, gl, gr⟩) (he : Wig.pbmove ⟨s, ss, lo, la, fu, sl, ro, ph, si, hi⟩ ⟨g0, g1, g2, g3, g4, g5, g6, g7, gl, gr⟩ q = ⟨s', ss', lo', la', fu', sl', ro', ph', si', hi'⟩) : Calls Tryd.prog 28 #[aggPb s A n c lo la fu sl ro ph si hi, aggGt g0 g1 g2 g3 g4 g5 g6 g7 gl gr, .bool q] w fun e w' => e = .returned (aggPb s' A n c lo' la' fu' sl' ro' ph' si' hi') ∧ Below w.heap.size w w' := by
  obtain ⟨w1, hw1⟩ : ∃ wx, wx = w.alloc (.cells #[.int .i64 s, .slice A n c, .int .u64 (lo : Int), .int .u64 (la : Int), .int .u64 (fu : Int), .int .u64 (sl : Int), .int .u64 (ro : Int), .int .u64 (ph : Int), .int .u64 (si : Int), .int .u64 (hi : Int)] 26) := ⟨_, rfl⟩
  have z1 : w1.heap.size = w.heap.size + 1 := by rw [hw1]; simp
  obtain ⟨w2, hw2⟩ : ∃ wx, wx = w1.alloc (.cells #[.int .u64 (g0 : Int), .int .u64 (g1 : Int), .int .u64 (g2 : Int), .int .u64 (g3 : Int), .int .u64 (g4 : Int), .int .u64 (g5 : Int), .int .u64 (g6 : Int), .int .u64 (g7 : Int), .bool gl, .bool gr] 28) := ⟨_, rfl⟩
  have z2 : w2.heap.size = w.heap.size + 2 := by rw [hw2]; simp; omega
  obtain ⟨w3, hw3⟩ : ∃ wx, wx = w2.alloc (.cells #[.int .i64 0, .slice none 0 0, .int .u64 0, .int .u64 0, .int .u64 0, .int .u64 0, .int .u64 0, .int .u64 0, .int .u64 0, .int .u64 0] 26) := ⟨_, rfl⟩
  have z3 : w3.heap.size = w.heap.size + 3 := by rw [hw3]; simp; omega
  have t3 : Below w3.heap.size w3 w3 := Below.refl _ _
  have t2 : Below w2.heap.size w2 w3 := (show Below w2.heap.size w2 w3 by rw [hw3]; exact (Below.refl _ _).alloc (Nat.le_refl _) _).trans (t3.mono (by omega))
  have t1 : Below w1.heap.size w1 w3 := (show Below w1.heap.size w1 w2 by rw [hw2]; exact (Below.refl _ _).alloc (Nat.le_refl _) _).trans (t2.mono (by omega))
  have t0 : Below w.heap.size w w3 := (show Below w.heap.size w w1 by rw [hw1]; exact (Below.refl _ _).alloc (Nat.le_refl _) _).trans (t1.mono (by omega))
  have BN := Lib.hid t0
  have ZN := Lib.hid z3
  have XP := Lib.hid (show BxPb w.heap.size s A n c lo la fu sl ro ph si hi w3 from (show BxPb w.heap.size s A n c lo la fu sl ro ph si hi w1 by rw [hw1]; exact BxPb.new _ s A n c lo la fu sl ro ph si hi).below t1 (by omega))
  have XG := Lib.hid (show BxGt (w.heap.size + 1) g0 g1 g2 g3 g4 g5 g6 g7 gl gr w3 from (show BxGt (w.heap.size + 1) g0 g1 g2 g3 g4 g5 g6 g7 gl gr w2 by rw [hw2, ← z1]; exact BxGt.new _ g0 g1 g2 g3 g4 g5 g6 g7 gl gr).below t2 (by omega))
  have XZ := Lib.hid (show BxPb (w.heap.size + 2) 0 none 0 0 0 0 0 0 0 0 0 0 w3 from (show BxPb (w.heap.size + 2) 0 none 0 0 0 0 0 0 0 0 0 0 w3 by rw [hw3, ← z2]; exact BxPb.new _ 0 none 0 0 0 0 0 0 0 0 0 0).below t3 (by omega))
  clear t0 t1 t2 t3 z1 z2 z3
  have B3 := BN
  have XP3 := XP
  have SP3 := Lib.hid (show w.heap.size < w3.heap.size by have := ZN.out; omega)
  have GP := Lib.hid (show w.heap.size ≤ w.heap.size by omega)
  have XG3 := XG
  have SG3 := Lib.hid (show (w.heap.size + 1) < w3.heap.size by have := ZN.out; omega)
  have GG := Lib.hid (show w.heap.size ≤ (w.heap.size + 1) by omega)
  have OPG := Lib.hid (show w.heap.size < (w.heap.size + 1) by omega)
  have XZ3 := XZ
  have SZ3 := Lib.hid (show (w.heap.size + 2) < w3.heap.size by have := ZN.out; omega)
  have GZ := Lib.hid (show w.heap.size ≤ (w.heap.size + 2) by omega)
  have OPZ := Lib.hid (show w.heap.size < (w.heap.size + 2) by omega)
  have OGZ := Lib.hid (show (w.heap.size + 1) < (w.heap.size + 2) by omega)
  clear ZN BN XP XG XZ
  have hmf : ∀ (fn : Fn) (first cap : Array Value) (w : World), (Instr.makeFunc fn first cap).run Tryd.prog w = .ok (.func fn first cap) w := fun _ _ _ _ => rfl
  have CX := Lib.hid (fun (s' s2 : Int) (hs : s' = s2) (ph' : Nat) (w0 : World) (hp : BxPb w.heap.size s A n c lo la fu sl ro ph si hi w0) (hq : BxGt (w.heap.size + 1) g0 g1 g2 g3 g4 g5 g6 g7 gl gr w0) => (show Calls Tryd.prog 43 #[.int .i64 s', .int .u64 (ph' : Int), .pointer (some ⟨w.heap.size, 0, none⟩), .pointer (some ⟨w.heap.size + 1, 0, none⟩)] w0 fun e w' => e = .returned (.agg #[.int .i64 s2, .slice A n c, .int .u64 (lo : Int), .int .u64 (la : Int), .int .u64 (fu : Int), .int .u64 (sl : Int), .int .u64 (ro : Int), .int .u64 (ph' : Int), .int .u64 (g0 : Int), .int .u64 (hi : Int)]) ∧ Below w0.heap.size w0 w' by subst hs; exact becomes_any s A n c lo la fu sl ro ph si hi g0 g1 g2 g3 g4 g5 g6 g7 gl gr s' ph' w.heap.size (w.heap.size + 1) w0 hp hq))
  unfold Wig.pbmove at he
  try simp only at he
  by_cases h0 : s = 0
  · rw [if_pos h0] at he
    have t0 : (s == 0) = true := by simp [h0]
    have CS := Lib.hid (fun (w0 : World) (hb0 : Below w.heap.size w w0) => (show Calls Tryd.prog 44 #[aggPb s A n c lo la fu sl ro ph si hi, aggGt g0 g1 g2 g3 g4 g5 g6 g7 gl gr] w0 fun e w' => e = .returned (aggPb s' A n c lo' la' fu' sl' ro' ph' si' hi') ∧ Below w0.heap.size w0 w' from started_any s A n c lo la fu sl ro ph si hi ss g0 g1 g2 g3 g4 g5 g6 g7 gl gr s' ss' lo' la' fu' sl' ro' ph' si' hi' w0 hok (hR.step hb0) he))
    clear hok hR hg he h0
    go_enter Tryd.func28, Tryd.ntmps28
    go_upto_region 1 with fail
    rw [← hw1, ← hw2, ← hw3]
    clear hw1 hw2 hw3
    have k0 := XP3.out.c0
    go_upto_region 4 with fail
    clear k0
    obtain ⟨k0, k1, k2, k3, k4, k5, k6, k7, k8, k9, -, -, -, -, -, -, -, -, -, -⟩ := XP3.out
    obtain ⟨j0, j1, j2, j3, j4, j5, j6, j7, j8, j9, -, -, -, -, -, -, -, -, -, -⟩ := XG3.out
    go_wp2_with fail
    refine (CS.out _ B3.out).mono ?_
    rintro e w4 ⟨rfl, hb⟩
    have B4 := Lib.hid (below_trans' B3.out hb)
    have XP4 := Lib.hid (XP3.out.below hb SP3.out)
    have SP4 := Lib.hid (Nat.lt_of_lt_of_le SP3.out hb.size)
    have XG4 := Lib.hid (XG3.out.below hb SG3.out)
    have SG4 := Lib.hid (Nat.lt_of_lt_of_le SG3.out hb.size)
    have XZ4 := Lib.hid (XZ3.out.below hb SZ3.out)
    have SZ4 := Lib.hid (Nat.lt_of_lt_of_le SZ3.out hb.size)
    clear k0 k1 k2 k3 k4 k5 k6 k7 k8 k9 j0 j1 j2 j3 j4 j5 j6 j7 j8 j9
    clear hb B3 XP3 SP3 XG3 SG3 XZ3 SZ3
    obtain ⟨z0, z1, z2, z3, z4, z5, z6, z7, z8, z9, zf0, zf1, zf2, zf3, zf4, zf5, zf6, zf7, zf8, zf9⟩ := XZ4.out
    go_wp2_with fail
    show bodyPost _ _ _ _ _ (putPb (w.heap.size + 2) s' A n c lo' la' fu' sl' ro' ph' si' hi' w4)
    have BZ : Below w.heap.size w (putPb (w.heap.size + 2) s' A n c lo' la' fu' sl' ro' ph' si' hi' w4) := B4.out.trans (putPb_below GZ.out)
    obtain ⟨z0, z1, z2, z3, z4, z5, z6, z7, z8, z9, -, -, -, -, -, -, -, -, -, -⟩ := (show BxPb (w.heap.size + 2) s' A n c lo' la' fu' sl' ro' ph' si' hi' (putPb (w.heap.size + 2) s' A n c lo' la' fu' sl' ro' ph' si' hi' w4) from XZ4.out.put)
    exact bodyPost_ret (v := aggPb s' A n c lo' la' fu' sl' ro' ph' si' hi') (by simp [results, Tryd.results28, z0, z1, z2, z3, z4, z5, z6, z7, z8, z9, go_sem]) rfl ⟨rfl, BZ⟩
  · rw [if_neg h0] at he
    have t0 : (s == 0) = false := by simp [h0]
    clear h0
    by_cases h1 : s = 1
    · rw [if_pos h1] at he
      have t1 : (s == 1) = true := by simp [h1]
      obtain ⟨z, hz⟩ : ∃ z, Wig.pbprod ⟨s, ss, lo, la, fu, sl, ro, ph, si, hi⟩ 256 = z := ⟨_, rfl⟩
      rw [hz] at he
      have CZ := Lib.hid (fun (w0 : World) (hb0 : Below w.heap.size w w0) => (show Calls Tryd.prog 17 #[aggPb s A n c lo la fu sl ro ph si hi, .int .u64 256] w0 fun e w' => e = .returned (.int .u64 (z : Int)) ∧ Below w0.heap.size w0 w' from product_any s A n c lo la fu sl ro ph si hi ss 256 z w0 hok (hR.step hb0) (by decide) hz))
      clear hok hR hg hz h1
      by_cases h4 : g6 ≤ z
      · rw [if_pos h4] at he
        have t4 : decide (g6 ≤ z) = true := decide_eq_true h4
        injection he with r1 r2 r3 r4 r5 r6 r7 r8 r9 r10
        subst r1 r2 r3 r4 r5 r6 r7 r8 r9 r10
        clear h4
        go_enter Tryd.func28, Tryd.ntmps28
        go_upto_region 1 with fail
        rw [← hw1, ← hw2, ← hw3]
        clear hw1 hw2 hw3
        have k0 := XP3.out.c0
        go_upto_region 6 with fail
        clear k0
        refine wp_region_held_drew (S := fun wx => BxPb w.heap.size s A n c lo la fu sl ro ph si hi wx ∧ BxGt (w.heap.size + 1) g0 g1 g2 g3 g4 g5 g6 g7 gl gr wx ∧ BxPb (w.heap.size + 2) 0 none 0 0 0 0 0 0 0 0 0 0 wx ∧ Below w3.heap.size w3 wx) (by kernel_rfl) ?_ (fun hHeld => ?_)
        · exact ⟨XP3.out.drew, XG3.out.drew, XZ3.out.drew, (Below.refl _ _).drew⟩
        refine held_take (v := ?vv112) 0 rfl (by kernel_rfl) (by kernel_rfl) (by kernel_rfl) (fun _ _ _ h => h) (by rfl) ?yy112 (by assumption) ?nn112
        case yy112 =>
          intro w hSw
          (try dsimp only at hSw)
          go_simp
          try with_reducible rfl
        try simp only [Act.put, List.setIfInBounds_toArray, List.set_cons_zero, List.set_cons_succ]
        refine held_take (v := .int .u64 (g6 : Int)) 1 rfl (by kernel_rfl) (by kernel_rfl) (by kernel_rfl) (fun _ _ _ h => h) (by rfl) (fun wx hSw => by have c := hSw.2.1.c6; clear hSw; go_simp) (by assumption) ?_
        try simp only [Act.put, List.setIfInBounds_toArray, List.set_cons_zero, List.set_cons_succ]
        refine held_take (v := .agg #[.int .i64 s, .slice A n c, .int .u64 (lo : Int), .int .u64 (la : Int), .int .u64 (fu : Int), .int .u64 (sl : Int), .int .u64 (ro : Int), .int .u64 (ph : Int), .int .u64 (si : Int), .int .u64 (hi : Int)]) 2 rfl (by kernel_rfl) (by kernel_rfl) (by kernel_rfl) (fun _ _ _ h => h) (by rfl) (fun wx hSw => by obtain ⟨c0, c1, c2, c3, c4, c5, c6, c7, c8, c9, -, -, -, -, -, -, -, -, -, -⟩ := hSw.1; clear hSw; go_simp) (by assumption) ?_
        try simp only [Act.put, List.setIfInBounds_toArray, List.set_cons_zero, List.set_cons_succ]
        refine held_do 3 rfl (by kernel_rfl) (by rfl) (fun K hK => ?_)
        go_wp2_with (go_at_call 17; refine (CZ.out _ (below_trans' B3.out hHeld.2.2.2)).mono ?_; rintro e w4 ⟨rfl, hb4⟩; have K4 := Lib.hid (Below.trans hHeld.2.2.2 (hb4.mono hHeld.2.2.2.size)); clear hb4)
        refine hK.out _ _ ?_ (fun hHeld => ?_)
        · exact ⟨XP3.out.below K4.out SP3.out, XG3.out.below K4.out SG3.out, XZ3.out.below K4.out SZ3.out, K4.out⟩
        clear hK K
        try simp only [Act.put, List.setIfInBounds_toArray, List.set_cons_zero, List.set_cons_succ]
        refine held_take (v := ?vv116) 4 rfl (by kernel_rfl) (by kernel_rfl) (by kernel_rfl) (fun _ _ _ h => h) (by rfl) ?yy116 (by assumption) ?nn116
        case yy116 =>
          intro w hSw
          (try dsimp only at hSw)
          go_simp
          try with_reducible rfl
        try simp only [Act.put, List.setIfInBounds_toArray, List.set_cons_zero, List.set_cons_succ]
        refine wpAnyH_done (by kernel_rfl) ?_ _
        clear hHeld
        have B4 := Lib.hid (below_trans' B3.out K4.out)
        have XP4 := Lib.hid (XP3.out.below K4.out SP3.out)
        have SP4 := Lib.hid (Nat.lt_of_lt_of_le SP3.out K4.out.size)
        have XG4 := Lib.hid (XG3.out.below K4.out SG3.out)
        have SG4 := Lib.hid (Nat.lt_of_lt_of_le SG3.out K4.out.size)
        have XZ4 := Lib.hid (XZ3.out.below K4.out SZ3.out)
        have SZ4 := Lib.hid (Nat.lt_of_lt_of_le SZ3.out K4.out.size)
        clear B3 XP3 SP3 XG3 SG3 XZ3 SZ3
        go_wp2_with fail
        refine ((show Calls Tryd.prog 43 #[.int .i64 2, .int .u64 0, .pointer (some ⟨w.heap.size, 0, none⟩), .pointer (some ⟨w.heap.size + 1, 0, none⟩)] _ fun e w' => e = .returned (.agg #[.int .i64 2, .slice A n c, .int .u64 (lo : Int), .int .u64 (la : Int), .int .u64 (fu : Int), .int .u64 (sl : Int), .int .u64 (ro : Int), .int .u64 0, .int .u64 (g0 : Int), .int .u64 (hi : Int)]) ∧ Below _ _ w' from CX.out 2 2 rfl 0 _ XP4.out XG4.out)).mono ?_
        rintro e w5 ⟨rfl, hb⟩
        have B5 := Lib.hid (below_trans' B4.out hb)
        have XP5 := Lib.hid (XP4.out.below hb SP4.out)
        have SP5 := Lib.hid (Nat.lt_of_lt_of_le SP4.out hb.size)
        have XG5 := Lib.hid (XG4.out.below hb SG4.out)
        have SG5 := Lib.hid (Nat.lt_of_lt_of_le SG4.out hb.size)
        have XZ5 := Lib.hid (XZ4.out.below hb SZ4.out)
        have SZ5 := Lib.hid (Nat.lt_of_lt_of_le SZ4.out hb.size)
        clear hb B4 XP4 SP4 XG4 SG4 XZ4 SZ4
        obtain ⟨z0, z1, z2, z3, z4, z5, z6, z7, z8, z9, zf0, zf1, zf2, zf3, zf4, zf5, zf6, zf7, zf8, zf9⟩ := XZ5.out
        go_wp2_with fail
        show bodyPost _ _ _ _ _ (putPb (w.heap.size + 2) 2 A n c lo la fu sl ro 0 g0 hi w5)
        have BZ : Below w.heap.size w (putPb (w.heap.size + 2) 2 A n c lo la fu sl ro 0 g0 hi w5) := B5.out.trans (putPb_below GZ.out)
        obtain ⟨z0, z1, z2, z3, z4, z5, z6, z7, z8, z9, -, -, -, -, -, -, -, -, -, -⟩ := (show BxPb (w.heap.size + 2) 2 A n c lo la fu sl ro 0 g0 hi (putPb (w.heap.size + 2) 2 A n c lo la fu sl ro 0 g0 hi w5) from XZ5.out.put)
        exact bodyPost_ret (v := aggPb 2 A n c lo la fu sl ro 0 g0 hi) (by simp [results, Tryd.results28, z0, z1, z2, z3, z4, z5, z6, z7, z8, z9, go_sem]) rfl ⟨rfl, BZ⟩
      · rw [if_neg h4] at he
        have t4 : decide (g6 ≤ z) = false := decide_eq_false h4
        injection he with r1 r2 r3 r4 r5 r6 r7 r8 r9 r10
        subst r1 r2 r3 r4 r5 r6 r7 r8 r9 r10
        clear h4
        go_enter Tryd.func28, Tryd.ntmps28
        go_upto_region 1 with fail
        rw [← hw1, ← hw2, ← hw3]
        clear hw1 hw2 hw3
        have k0 := XP3.out.c0
        go_upto_region 6 with fail
        clear k0
        refine wp_region_held_drew (S := fun wx => BxPb w.heap.size s A n c lo la fu sl ro ph si hi wx ∧ BxGt (w.heap.size + 1) g0 g1 g2 g3 g4 g5 g6 g7 gl gr wx ∧ BxPb (w.heap.size + 2) 0 none 0 0 0 0 0 0 0 0 0 0 wx ∧ Below w3.heap.size w3 wx) (by kernel_rfl) ?_ (fun hHeld => ?_)
        · exact ⟨XP3.out.drew, XG3.out.drew, XZ3.out.drew, (Below.refl _ _).drew⟩
        refine held_take (v := ?vv118) 0 rfl (by kernel_rfl) (by kernel_rfl) (by kernel_rfl) (fun _ _ _ h => h) (by rfl) ?yy118 (by assumption) ?nn118
        case yy118 =>
          intro w hSw
          (try dsimp only at hSw)
          go_simp
          try with_reducible rfl
        try simp only [Act.put, List.setIfInBounds_toArray, List.set_cons_zero, List.set_cons_succ]
        refine held_take (v := .int .u64 (g6 : Int)) 1 rfl (by kernel_rfl) (by kernel_rfl) (by kernel_rfl) (fun _ _ _ h => h) (by rfl) (fun wx hSw => by have c := hSw.2.1.c6; clear hSw; go_simp) (by assumption) ?_
        try simp only [Act.put, List.setIfInBounds_toArray, List.set_cons_zero, List.set_cons_succ]
        refine held_take (v := .agg #[.int .i64 s, .slice A n c, .int .u64 (lo : Int), .int .u64 (la : Int), .int .u64 (fu : Int), .int .u64 (sl : Int), .int .u64 (ro : Int), .int .u64 (ph : Int), .int .u64 (si : Int), .int .u64 (hi : Int)]) 2 rfl (by kernel_rfl) (by kernel_rfl) (by kernel_rfl) (fun _ _ _ h => h) (by rfl) (fun wx hSw => by obtain ⟨c0, c1, c2, c3, c4, c5, c6, c7, c8, c9, -, -, -, -, -, -, -, -, -, -⟩ := hSw.1; clear hSw; go_simp) (by assumption) ?_
        try simp only [Act.put, List.setIfInBounds_toArray, List.set_cons_zero, List.set_cons_succ]
        refine held_do 3 rfl (by kernel_rfl) (by rfl) (fun K hK => ?_)
        go_wp2_with (go_at_call 17; refine (CZ.out _ (below_trans' B3.out hHeld.2.2.2)).mono ?_; rintro e w4 ⟨rfl, hb4⟩; have K4 := Lib.hid (Below.trans hHeld.2.2.2 (hb4.mono hHeld.2.2.2.size)); clear hb4)
        refine hK.out _ _ ?_ (fun hHeld => ?_)
        · exact ⟨XP3.out.below K4.out SP3.out, XG3.out.below K4.out SG3.out, XZ3.out.below K4.out SZ3.out, K4.out⟩
        clear hK K
        try simp only [Act.put, List.setIfInBounds_toArray, List.set_cons_zero, List.set_cons_succ]
        refine held_take (v := ?vv122) 4 rfl (by kernel_rfl) (by kernel_rfl) (by kernel_rfl) (fun _ _ _ h => h) (by rfl) ?yy122 (by assumption) ?nn122
        case yy122 =>
          intro w hSw
          (try dsimp only at hSw)
          go_simp
          try with_reducible rfl
        try simp only [Act.put, List.setIfInBounds_toArray, List.set_cons_zero, List.set_cons_succ]
        refine wpAnyH_done (by kernel_rfl) ?_ _
        clear hHeld
        have B4 := Lib.hid (below_trans' B3.out K4.out)
        have XP4 := Lib.hid (XP3.out.below K4.out SP3.out)
        have SP4 := Lib.hid (Nat.lt_of_lt_of_le SP3.out K4.out.size)
        have XG4 := Lib.hid (XG3.out.below K4.out SG3.out)
        have SG4 := Lib.hid (Nat.lt_of_lt_of_le SG3.out K4.out.size)
        have XZ4 := Lib.hid (XZ3.out.below K4.out SZ3.out)
        have SZ4 := Lib.hid (Nat.lt_of_lt_of_le SZ3.out K4.out.size)
        clear B3 XP3 SP3 XG3 SG3 XZ3 SZ3
        go_upto_region 16 with fail
        obtain ⟨k0, k1, k2, k3, k4, k5, k6, k7, k8, k9, -, -, -, -, -, -, -, -, -, -⟩ := XP4.out
        obtain ⟨z0, z1, z2, z3, z4, z5, z6, z7, z8, z9, zf0, zf1, zf2, zf3, zf4, zf5, zf6, zf7, zf8, zf9⟩ := XZ4.out
        go_wp2_with fail
        show bodyPost _ _ _ _ _ (putPb (w.heap.size + 2) s A n c lo la fu sl ro ph si hi w4)
        have BZ : Below w.heap.size w (putPb (w.heap.size + 2) s A n c lo la fu sl ro ph si hi w4) := B4.out.trans (putPb_below GZ.out)
        obtain ⟨z0, z1, z2, z3, z4, z5, z6, z7, z8, z9, -, -, -, -, -, -, -, -, -, -⟩ := (show BxPb (w.heap.size + 2) s A n c lo la fu sl ro ph si hi (putPb (w.heap.size + 2) s A n c lo la fu sl ro ph si hi w4) from XZ4.out.put)
        exact bodyPost_ret (v := aggPb s A n c lo la fu sl ro ph si hi) (by simp [results, Tryd.results28, z0, z1, z2, z3, z4, z5, z6, z7, z8, z9, go_sem]) rfl ⟨rfl, BZ⟩
    · rw [if_neg h1] at he
      have t1 : (s == 1) = false := by simp [h1]
      clear h1
      by_cases h2 : s = 2
      · rw [if_pos h2] at he
        have t2 : (s == 2) = true := by simp [h2]
        have HS2 := Lib.hid h2
        cases q
        · rw [if_neg (by simp)] at he
          obtain ⟨y, hy⟩ : ∃ y, Wig.fadd si lo = y := ⟨_, rfl⟩
          obtain ⟨x, hx⟩ : ∃ x, Wig.fadd ph 1 = x := ⟨_, rfl⟩
          rw [hy, hx] at he
          have CY := Lib.hid (fun w => (show Calls Tryd.prog 25 #[.int .u64 (si : Int), .int .u64 (lo : Int)] w fun e w' => e = .returned (.int .u64 (y : Int)) ∧ w = w' by rw [← hy]; exact add_any si lo w hok.since hok.low))
          have CP1 := Lib.hid (fun w => (show Calls Tryd.prog 25 #[.int .u64 (ph : Int), .int .u64 1] w fun e w' => e = .returned (.int .u64 (x : Int)) ∧ w = w' by rw [← hx]; exact add_any ph 1 w hok.phase (by decide)))
          clear hok hR hg hy hx h2
          by_cases h4 : y ≤ g0
          · rw [if_pos h4] at he
            have t4 : decide (y ≤ g0) = true := decide_eq_true h4
            injection he with r1 r2 r3 r4 r5 r6 r7 r8 r9 r10
            subst r1 r2 r3 r4 r5 r6 r7 r8 r9 r10
            clear h4
            go_enter Tryd.func28, Tryd.ntmps28
            go_upto_region 1 with fail
            rw [← hw1, ← hw2, ← hw3]
            clear hw1 hw2 hw3
            have k0 := XP3.out.c0
            go_upto_region 11 with fail
            clear k0
            have k2 := XP3.out.c2
            have k8 := XP3.out.c8
            have j0 := XG3.out.c0
            go_quiet (first | (go_at_call 25; with_reducible exact quiet_eq (CY.out _)) | fail)
            obtain ⟨w4, hw⟩ : ∃ wx, wx = w3.drewN nq := ⟨_, rfl⟩
            rw [← hw]
            have B4 := Lib.hid (show Below w.heap.size w w4 by rw [hw]; exact below_drewN' B3.out nq)
            have XP4 := Lib.hid (show BxPb w.heap.size s A n c lo la fu sl ro ph si hi w4 by rw [hw]; exact XP3.out.drewN nq)
            have SP4 := Lib.hid (show w.heap.size < w4.heap.size by rw [hw]; exact SP3.out)
            have XG4 := Lib.hid (show BxGt (w.heap.size + 1) g0 g1 g2 g3 g4 g5 g6 g7 gl gr w4 by rw [hw]; exact XG3.out.drewN nq)
            have SG4 := Lib.hid (show (w.heap.size + 1) < w4.heap.size by rw [hw]; exact SG3.out)
            have XZ4 := Lib.hid (show BxPb (w.heap.size + 2) 0 none 0 0 0 0 0 0 0 0 0 0 w4 by rw [hw]; exact XZ3.out.drewN nq)
            have SZ4 := Lib.hid (show (w.heap.size + 2) < w4.heap.size by rw [hw]; exact SZ3.out)
            clear k2 k8 j0
            clear hw B3 XP3 SP3 XG3 SG3 XZ3 SZ3
            have k7 := XP4.out.c7
            go_wp2_with fail
            refine (CP1.out _).mono ?_
            rintro e _ ⟨rfl, rfl⟩
            go_wp2_with fail
            refine ((show Calls Tryd.prog 43 #[.int .i64 2, .int .u64 (x : Int), .pointer (some ⟨w.heap.size, 0, none⟩), .pointer (some ⟨w.heap.size + 1, 0, none⟩)] _ fun e w' => e = .returned (.agg #[.int .i64 s, .slice A n c, .int .u64 (lo : Int), .int .u64 (la : Int), .int .u64 (fu : Int), .int .u64 (sl : Int), .int .u64 (ro : Int), .int .u64 (x : Int), .int .u64 (g0 : Int), .int .u64 (hi : Int)]) ∧ Below _ _ w' from CX.out 2 s HS2.out.symm x _ XP4.out XG4.out)).mono ?_
            rintro e w5 ⟨rfl, hb⟩
            have B5 := Lib.hid (below_trans' B4.out hb)
            have XP5 := Lib.hid (XP4.out.below hb SP4.out)
            have SP5 := Lib.hid (Nat.lt_of_lt_of_le SP4.out hb.size)
            have XG5 := Lib.hid (XG4.out.below hb SG4.out)
            have SG5 := Lib.hid (Nat.lt_of_lt_of_le SG4.out hb.size)
            have XZ5 := Lib.hid (XZ4.out.below hb SZ4.out)
            have SZ5 := Lib.hid (Nat.lt_of_lt_of_le SZ4.out hb.size)
            clear k7
            clear hb B4 XP4 SP4 XG4 SG4 XZ4 SZ4
            obtain ⟨z0, z1, z2, z3, z4, z5, z6, z7, z8, z9, zf0, zf1, zf2, zf3, zf4, zf5, zf6, zf7, zf8, zf9⟩ := XZ5.out
            go_wp2_with fail
            show bodyPost _ _ _ _ _ (putPb (w.heap.size + 2) s A n c lo la fu sl ro x g0 hi w5)
            have BZ : Below w.heap.size w (putPb (w.heap.size + 2) s A n c lo la fu sl ro x g0 hi w5) := B5.out.trans (putPb_below GZ.out)
            obtain ⟨z0, z1, z2, z3, z4, z5, z6, z7, z8, z9, -, -, -, -, -, -, -, -, -, -⟩ := (show BxPb (w.heap.size + 2) s A n c lo la fu sl ro x g0 hi (putPb (w.heap.size + 2) s A n c lo la fu sl ro x g0 hi w5) from XZ5.out.put)
            exact bodyPost_ret (v := aggPb s A n c lo la fu sl ro x g0 hi) (by simp [results, Tryd.results28, z0, z1, z2, z3, z4, z5, z6, z7, z8, z9, go_sem]) rfl ⟨rfl, BZ⟩
          · rw [if_neg h4] at he
            have t4 : decide (y ≤ g0) = false := decide_eq_false h4
            injection he with r1 r2 r3 r4 r5 r6 r7 r8 r9 r10
            subst r1 r2 r3 r4 r5 r6 r7 r8 r9 r10
            clear h4
            go_enter Tryd.func28, Tryd.ntmps28
            go_upto_region 1 with fail
            rw [← hw1, ← hw2, ← hw3]
            clear hw1 hw2 hw3
            have k0 := XP3.out.c0
            go_upto_region 11 with fail
            clear k0
            have k2 := XP3.out.c2
            have k8 := XP3.out.c8
            have j0 := XG3.out.c0
            go_quiet (first | (go_at_call 25; with_reducible exact quiet_eq (CY.out _)) | fail)
            obtain ⟨w4, hw⟩ : ∃ wx, wx = w3.drewN nq := ⟨_, rfl⟩
            rw [← hw]
            have B4 := Lib.hid (show Below w.heap.size w w4 by rw [hw]; exact below_drewN' B3.out nq)
            have XP4 := Lib.hid (show BxPb w.heap.size s A n c lo la fu sl ro ph si hi w4 by rw [hw]; exact XP3.out.drewN nq)
            have SP4 := Lib.hid (show w.heap.size < w4.heap.size by rw [hw]; exact SP3.out)
            have XG4 := Lib.hid (show BxGt (w.heap.size + 1) g0 g1 g2 g3 g4 g5 g6 g7 gl gr w4 by rw [hw]; exact XG3.out.drewN nq)
            have SG4 := Lib.hid (show (w.heap.size + 1) < w4.heap.size by rw [hw]; exact SG3.out)
            have XZ4 := Lib.hid (show BxPb (w.heap.size + 2) 0 none 0 0 0 0 0 0 0 0 0 0 w4 by rw [hw]; exact XZ3.out.drewN nq)
            have SZ4 := Lib.hid (show (w.heap.size + 2) < w4.heap.size by rw [hw]; exact SZ3.out)
            clear k2 k8 j0
            clear hw B3 XP3 SP3 XG3 SG3 XZ3 SZ3
            go_upto_region 16 with fail
            obtain ⟨k0, k1, k2, k3, k4, k5, k6, k7, k8, k9, -, -, -, -, -, -, -, -, -, -⟩ := XP4.out
            obtain ⟨z0, z1, z2, z3, z4, z5, z6, z7, z8, z9, zf0, zf1, zf2, zf3, zf4, zf5, zf6, zf7, zf8, zf9⟩ := XZ4.out
            go_wp2_with fail
            show bodyPost _ _ _ _ _ (putPb (w.heap.size + 2) s A n c lo la fu sl ro ph si hi w4)
            have BZ : Below w.heap.size w (putPb (w.heap.size + 2) s A n c lo la fu sl ro ph si hi w4) := B4.out.trans (putPb_below GZ.out)
            obtain ⟨z0, z1, z2, z3, z4, z5, z6, z7, z8, z9, -, -, -, -, -, -, -, -, -, -⟩ := (show BxPb (w.heap.size + 2) s A n c lo la fu sl ro ph si hi (putPb (w.heap.size + 2) s A n c lo la fu sl ro ph si hi w4) from XZ4.out.put)
            exact bodyPost_ret (v := aggPb s A n c lo la fu sl ro ph si hi) (by simp [results, Tryd.results28, z0, z1, z2, z3, z4, z5, z6, z7, z8, z9, go_sem]) rfl ⟨rfl, BZ⟩
        · rw [if_pos rfl] at he
          injection he with r1 r2 r3 r4 r5 r6 r7 r8 r9 r10
          subst r1 r2 r3 r4 r5 r6 r7 r8 r9 r10
          clear hok hR hg h2
          go_enter Tryd.func28, Tryd.ntmps28
          go_upto_region 1 with fail
          rw [← hw1, ← hw2, ← hw3]
          clear hw1 hw2 hw3
          have k0 := XP3.out.c0
          go_upto_region 10 with fail
          clear k0
          have k7 := XP3.out.c7
          go_wp2_with fail
          refine ((show Calls Tryd.prog 43 #[.int .i64 3, .int .u64 (ph : Int), .pointer (some ⟨w.heap.size, 0, none⟩), .pointer (some ⟨w.heap.size + 1, 0, none⟩)] _ fun e w' => e = .returned (.agg #[.int .i64 3, .slice A n c, .int .u64 (lo : Int), .int .u64 (la : Int), .int .u64 (fu : Int), .int .u64 (sl : Int), .int .u64 (ro : Int), .int .u64 (ph : Int), .int .u64 (g0 : Int), .int .u64 (hi : Int)]) ∧ Below _ _ w' from CX.out 3 3 rfl ph _ XP3.out XG3.out)).mono ?_
          rintro e w4 ⟨rfl, hb⟩
          have B4 := Lib.hid (below_trans' B3.out hb)
          have XP4 := Lib.hid (XP3.out.below hb SP3.out)
          have SP4 := Lib.hid (Nat.lt_of_lt_of_le SP3.out hb.size)
          have XG4 := Lib.hid (XG3.out.below hb SG3.out)
          have SG4 := Lib.hid (Nat.lt_of_lt_of_le SG3.out hb.size)
          have XZ4 := Lib.hid (XZ3.out.below hb SZ3.out)
          have SZ4 := Lib.hid (Nat.lt_of_lt_of_le SZ3.out hb.size)
          clear k7
          clear hb B3 XP3 SP3 XG3 SG3 XZ3 SZ3
          obtain ⟨z0, z1, z2, z3, z4, z5, z6, z7, z8, z9, zf0, zf1, zf2, zf3, zf4, zf5, zf6, zf7, zf8, zf9⟩ := XZ4.out
          go_wp2_with fail
          show bodyPost _ _ _ _ _ (putPb (w.heap.size + 2) 3 A n c lo la fu sl ro ph g0 hi w4)
          have BZ : Below w.heap.size w (putPb (w.heap.size + 2) 3 A n c lo la fu sl ro ph g0 hi w4) := B4.out.trans (putPb_below GZ.out)
          obtain ⟨z0, z1, z2, z3, z4, z5, z6, z7, z8, z9, -, -, -, -, -, -, -, -, -, -⟩ := (show BxPb (w.heap.size + 2) 3 A n c lo la fu sl ro ph g0 hi (putPb (w.heap.size + 2) 3 A n c lo la fu sl ro ph g0 hi w4) from XZ4.out.put)
          exact bodyPost_ret (v := aggPb 3 A n c lo la fu sl ro ph g0 hi) (by simp [results, Tryd.results28, z0, z1, z2, z3, z4, z5, z6, z7, z8, z9, go_sem]) rfl ⟨rfl, BZ⟩
      · rw [if_neg h2] at he
        have t2 : (s == 2) = false := by simp [h2]
        clear h2
        by_cases h3 : s = 3
        · rw [if_pos h3] at he
          have t3 : (s == 3) = true := by simp [h3]
          obtain ⟨y, hy⟩ : ∃ y, Wig.fadd si 200 = y := ⟨_, rfl⟩
          rw [hy] at he
          have CY := Lib.hid (fun w => (show Calls Tryd.prog 25 #[.int .u64 (si : Int), .int .u64 200] w fun e w' => e = .returned (.int .u64 (y : Int)) ∧ w = w' by rw [← hy]; exact add_any si 200 w hok.since (by decide)))
          clear hok hR hg hy h3
          by_cases h4 : y ≤ g0
          · rw [if_pos h4] at he
            have t4 : decide (y ≤ g0) = true := decide_eq_true h4
            injection he with r1 r2 r3 r4 r5 r6 r7 r8 r9 r10
            subst r1 r2 r3 r4 r5 r6 r7 r8 r9 r10
            clear h4
            go_enter Tryd.func28, Tryd.ntmps28
            go_upto_region 1 with fail
            rw [← hw1, ← hw2, ← hw3]
            clear hw1 hw2 hw3
            have k0 := XP3.out.c0
            go_upto_region 14 with fail
            clear k0
            have k2 := XP3.out.c2
            have k8 := XP3.out.c8
            have j0 := XG3.out.c0
            go_quiet (first | (go_at_call 25; with_reducible exact quiet_eq (CY.out _)) | fail)
            obtain ⟨w4, hw⟩ : ∃ wx, wx = w3.drewN nq := ⟨_, rfl⟩
            rw [← hw]
            have B4 := Lib.hid (show Below w.heap.size w w4 by rw [hw]; exact below_drewN' B3.out nq)
            have XP4 := Lib.hid (show BxPb w.heap.size s A n c lo la fu sl ro ph si hi w4 by rw [hw]; exact XP3.out.drewN nq)
            have SP4 := Lib.hid (show w.heap.size < w4.heap.size by rw [hw]; exact SP3.out)
            have XG4 := Lib.hid (show BxGt (w.heap.size + 1) g0 g1 g2 g3 g4 g5 g6 g7 gl gr w4 by rw [hw]; exact XG3.out.drewN nq)
            have SG4 := Lib.hid (show (w.heap.size + 1) < w4.heap.size by rw [hw]; exact SG3.out)
            have XZ4 := Lib.hid (show BxPb (w.heap.size + 2) 0 none 0 0 0 0 0 0 0 0 0 0 w4 by rw [hw]; exact XZ3.out.drewN nq)
            have SZ4 := Lib.hid (show (w.heap.size + 2) < w4.heap.size by rw [hw]; exact SZ3.out)
            clear k2 k8 j0
            clear hw B3 XP3 SP3 XG3 SG3 XZ3 SZ3
            go_wp2_with fail
            refine ((show Calls Tryd.prog 43 #[.int .i64 2, .int .u64 2, .pointer (some ⟨w.heap.size, 0, none⟩), .pointer (some ⟨w.heap.size + 1, 0, none⟩)] _ fun e w' => e = .returned (.agg #[.int .i64 2, .slice A n c, .int .u64 (lo : Int), .int .u64 (la : Int), .int .u64 (fu : Int), .int .u64 (sl : Int), .int .u64 (ro : Int), .int .u64 2, .int .u64 (g0 : Int), .int .u64 (hi : Int)]) ∧ Below _ _ w' from CX.out 2 2 rfl 2 _ XP4.out XG4.out)).mono ?_
            rintro e w5 ⟨rfl, hb⟩
            have B5 := Lib.hid (below_trans' B4.out hb)
            have XP5 := Lib.hid (XP4.out.below hb SP4.out)
            have SP5 := Lib.hid (Nat.lt_of_lt_of_le SP4.out hb.size)
            have XG5 := Lib.hid (XG4.out.below hb SG4.out)
            have SG5 := Lib.hid (Nat.lt_of_lt_of_le SG4.out hb.size)
            have XZ5 := Lib.hid (XZ4.out.below hb SZ4.out)
            have SZ5 := Lib.hid (Nat.lt_of_lt_of_le SZ4.out hb.size)
            clear hb B4 XP4 SP4 XG4 SG4 XZ4 SZ4
            obtain ⟨z0, z1, z2, z3, z4, z5, z6, z7, z8, z9, zf0, zf1, zf2, zf3, zf4, zf5, zf6, zf7, zf8, zf9⟩ := XZ5.out
            go_wp2_with fail
            show bodyPost _ _ _ _ _ (putPb (w.heap.size + 2) 2 A n c lo la fu sl ro 2 g0 hi w5)
            have BZ : Below w.heap.size w (putPb (w.heap.size + 2) 2 A n c lo la fu sl ro 2 g0 hi w5) := B5.out.trans (putPb_below GZ.out)
            obtain ⟨z0, z1, z2, z3, z4, z5, z6, z7, z8, z9, -, -, -, -, -, -, -, -, -, -⟩ := (show BxPb (w.heap.size + 2) 2 A n c lo la fu sl ro 2 g0 hi (putPb (w.heap.size + 2) 2 A n c lo la fu sl ro 2 g0 hi w5) from XZ5.out.put)
            exact bodyPost_ret (v := aggPb 2 A n c lo la fu sl ro 2 g0 hi) (by simp [results, Tryd.results28, z0, z1, z2, z3, z4, z5, z6, z7, z8, z9, go_sem]) rfl ⟨rfl, BZ⟩
          · rw [if_neg h4] at he
            have t4 : decide (y ≤ g0) = false := decide_eq_false h4
            injection he with r1 r2 r3 r4 r5 r6 r7 r8 r9 r10
            subst r1 r2 r3 r4 r5 r6 r7 r8 r9 r10
            clear h4
            go_enter Tryd.func28, Tryd.ntmps28
            go_upto_region 1 with fail
            rw [← hw1, ← hw2, ← hw3]
            clear hw1 hw2 hw3
            have k0 := XP3.out.c0
            go_upto_region 14 with fail
            clear k0
            have k2 := XP3.out.c2
            have k8 := XP3.out.c8
            have j0 := XG3.out.c0
            go_quiet (first | (go_at_call 25; with_reducible exact quiet_eq (CY.out _)) | fail)
            obtain ⟨w4, hw⟩ : ∃ wx, wx = w3.drewN nq := ⟨_, rfl⟩
            rw [← hw]
            have B4 := Lib.hid (show Below w.heap.size w w4 by rw [hw]; exact below_drewN' B3.out nq)
            have XP4 := Lib.hid (show BxPb w.heap.size s A n c lo la fu sl ro ph si hi w4 by rw [hw]; exact XP3.out.drewN nq)
            have SP4 := Lib.hid (show w.heap.size < w4.heap.size by rw [hw]; exact SP3.out)
            have XG4 := Lib.hid (show BxGt (w.heap.size + 1) g0 g1 g2 g3 g4 g5 g6 g7 gl gr w4 by rw [hw]; exact XG3.out.drewN nq)
            have SG4 := Lib.hid (show (w.heap.size + 1) < w4.heap.size by rw [hw]; exact SG3.out)
            have XZ4 := Lib.hid (show BxPb (w.heap.size + 2) 0 none 0 0 0 0 0 0 0 0 0 0 w4 by rw [hw]; exact XZ3.out.drewN nq)
            have SZ4 := Lib.hid (show (w.heap.size + 2) < w4.heap.size by rw [hw]; exact SZ3.out)
            clear k2 k8 j0
            clear hw B3 XP3 SP3 XG3 SG3 XZ3 SZ3
            go_upto_region 16 with fail
            obtain ⟨k0, k1, k2, k3, k4, k5, k6, k7, k8, k9, -, -, -, -, -, -, -, -, -, -⟩ := XP4.out
            obtain ⟨z0, z1, z2, z3, z4, z5, z6, z7, z8, z9, zf0, zf1, zf2, zf3, zf4, zf5, zf6, zf7, zf8, zf9⟩ := XZ4.out
            go_wp2_with fail
            show bodyPost _ _ _ _ _ (putPb (w.heap.size + 2) s A n c lo la fu sl ro ph si hi w4)
            have BZ : Below w.heap.size w (putPb (w.heap.size + 2) s A n c lo la fu sl ro ph si hi w4) := B4.out.trans (putPb_below GZ.out)
            obtain ⟨z0, z1, z2, z3, z4, z5, z6, z7, z8, z9, -, -, -, -, -, -, -, -, -, -⟩ := (show BxPb (w.heap.size + 2) s A n c lo la fu sl ro ph si hi (putPb (w.heap.size + 2) s A n c lo la fu sl ro ph si hi w4) from XZ4.out.put)
            exact bodyPost_ret (v := aggPb s A n c lo la fu sl ro ph si hi) (by simp [results, Tryd.results28, z0, z1, z2, z3, z4, z5, z6, z7, z8, z9, go_sem]) rfl ⟨rfl, BZ⟩
        · rw [if_neg h3] at he
          have t3 : (s == 3) = false := by simp [h3]
          injection he with r1 r2 r3 r4 r5 r6 r7 r8 r9 r10
          subst r1 r2 r3 r4 r5 r6 r7 r8 r9 r10
          clear hok hR hg h3
          go_enter Tryd.func28, Tryd.ntmps28
          go_upto_region 1 with fail
          rw [← hw1, ← hw2, ← hw3]
          clear hw1 hw2 hw3
          have k0 := XP3.out.c0
          go_upto_region 16 with fail
          clear k0
          go_upto_region 16 with fail
          obtain ⟨k0, k1, k2, k3, k4, k5, k6, k7, k8, k9, -, -, -, -, -, -, -, -, -, -⟩ := XP3.out
          obtain ⟨z0, z1, z2, z3, z4, z5, z6, z7, z8, z9, zf0, zf1, zf2, zf3, zf4, zf5, zf6, zf7, zf8, zf9⟩ := XZ3.out
          go_wp2_with fail
          show bodyPost _ _ _ _ _ (putPb (w.heap.size + 2) s A n c lo la fu sl ro ph si hi w3)
          have BZ : Below w.heap.size w (putPb (w.heap.size + 2) s A n c lo la fu sl ro ph si hi w3) := B3.out.trans (putPb_below GZ.out)
          obtain ⟨z0, z1, z2, z3, z4, z5, z6, z7, z8, z9, -, -, -, -, -, -, -, -, -, -⟩ := (show BxPb (w.heap.size + 2) s A n c lo la fu sl ro ph si hi (putPb (w.heap.size + 2) s A n c lo la fu sl ro ph si hi w3) from XZ3.out.put)
          exact bodyPost_ret (v := aggPb s A n c lo la fu sl ro ph si hi) (by simp [results, Tryd.results28, z0, z1, z2, z3, z4, z5, z6, z7, z8, z9, go_sem]) rfl ⟨rfl, BZ⟩
end Go.Proofs.YtjojnbeflongkaaDoor
