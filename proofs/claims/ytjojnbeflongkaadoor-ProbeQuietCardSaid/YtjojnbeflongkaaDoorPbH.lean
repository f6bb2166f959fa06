/-
  What the document's Loss, Same and Ack of layer 13 return. Conditions: the numbers have 64 bits, fewer than four hundred rates.
-/
import Derived.Test.YtjojnbeflongkaaDoorPbF
namespace Go.Proofs.YtjojnbeflongkaaDoor
open Go.ChangeShapes Go.WideShapes Go.ChangeAt Go.RowKit
set_option linter.unusedVariables false

/-- An answer, cut at its steps. -/
theorem rpback_eq {s : Int} {ss ss1 : List Wig.Smp} {lo la fu sl ro ph si hi R H l3 a3 : Nat} {g : Wig.Gt} {q : Bool} (hr : Wig.pbround ⟨s, ss, lo, la, fu, sl, ro, ph, si, hi⟩ g = ⟨s, ss, lo, la, fu, sl, R, ph, si, H⟩) (hs : (Wig.pbpush ⟨s, ss, lo, la, fu, sl, R, ph, si, H⟩ g).rates = ss1) (hq : Wig.pbstale ⟨s, ss, lo, la, fu, sl, ro, ph, si, hi⟩ g = q)
    (hl : (if q = true ∨ g.took < lo then g.took else lo) = l3) (ha : (if q = true ∨ g.took < lo then g.now else la) = a3) : Wig.pback ⟨s, ss, lo, la, fu, sl, ro, ph, si, hi⟩ g = Wig.pbmove ⟨s, ss1, l3, a3, fu, sl, R, ph, si, H⟩ g q := by
  have e1 : Wig.pbpush ⟨s, ss, lo, la, fu, sl, R, ph, si, H⟩ g = ⟨s, ss1, lo, la, fu, sl, R, ph, si, H⟩ := by rw [← hs]; unfold Wig.pbpush; split <;> rfl
  unfold Wig.pback
  rw [hr, e1, hq]
  have e2 : Wig.pblow ⟨s, ss1, lo, la, fu, sl, R, ph, si, H⟩ g = ⟨s, ss1, l3, a3, fu, sl, R, ph, si, H⟩ := by
    unfold Wig.pblow
    rw [show Wig.pbstale ⟨s, ss1, lo, la, fu, sl, R, ph, si, H⟩ g = q from hq]
    split
    · rename_i h
      rw [if_pos h] at hl ha
      subst hl ha
      rfl
    · rename_i h
      rw [if_neg h] at hl ha
      subst hl ha
      rfl
  rw [e2]
theorem rpback_rates {p : Wig.Pb} {g : Wig.Gt} : (Wig.pback p g).rates = (Wig.pbpush (Wig.pbround p g) g).rates := by
  unfold Wig.pback
  rw [Wig.pbmove_rates, Wig.pblow_rates]

set_option maxHeartbeats 2000000 in
theorem rloss_any (s : Int) (A : Option Addr) (n c lo la fu sl ro ph si hi : Nat) (ss : List Wig.Smp) (f : Nat) (s' : Int) (ss' : List Wig.Smp) (lo' la' fu' sl' ro' ph' si' hi' : Nat) (w : World) (hok : Wig.Pb.Ok ⟨s, ss, lo, la, fu, sl, ro, ph, si, hi⟩) (hR : Rt w 0 w.heap.size A n ss) (hf : f < 18446744073709551616) (he : Wig.pbloss ⟨s, ss, lo, la, fu, sl, ro, ph, si, hi⟩ f = ⟨s', ss', lo', la', fu', sl', ro', ph', si', hi'⟩) :
    Calls Tryd.prog 14 #[aggPb s A n c lo la fu sl ro ph si hi, .int .u64 (f : Int)] w fun e w' => e = .returned (aggPb s' A n c lo' la' fu' sl' ro' ph' si' hi') ∧ ss = ss' ∧ Below w.heap.size w w' := by
  obtain ⟨w1, hw1⟩ : ∃ wx, wx = w.alloc (.cells #[.int .i64 s, .slice A n c, .int .u64 (lo : Int), .int .u64 (la : Int), .int .u64 (fu : Int), .int .u64 (sl : Int), .int .u64 (ro : Int), .int .u64 (ph : Int), .int .u64 (si : Int), .int .u64 (hi : Int)] 26) := ⟨_, rfl⟩
  have z1 : w1.heap.size = w.heap.size + 1 := by rw [hw1]; simp
  obtain ⟨w2, hw2⟩ : ∃ wx, wx = w1.alloc (.cells #[.int .i64 0, .slice none 0 0, .int .u64 0, .int .u64 0, .int .u64 0, .int .u64 0, .int .u64 0, .int .u64 0, .int .u64 0, .int .u64 0] 26) := ⟨_, rfl⟩
  have z2 : w2.heap.size = w.heap.size + 2 := by rw [hw2]; simp; omega
  have t2 : Below w2.heap.size w2 w2 := Below.refl _ _
  have t1 : Below w1.heap.size w1 w2 := (show Below w1.heap.size w1 w2 by rw [hw2]; exact (Below.refl _ _).alloc (Nat.le_refl _) _).trans (t2.mono (by omega))
  have t0 : Below w.heap.size w w2 := (show Below w.heap.size w w1 by rw [hw1]; exact (Below.refl _ _).alloc (Nat.le_refl _) _).trans (t1.mono (by omega))
  have BN := Lib.hid t0
  have ZN := Lib.hid z2
  have XP := Lib.hid (show BxPb w.heap.size s A n c lo la fu sl ro ph si hi w2 from (show BxPb w.heap.size s A n c lo la fu sl ro ph si hi w1 by rw [hw1]; exact BxPb.new _ s A n c lo la fu sl ro ph si hi).below t1 (by omega))
  have XZ := Lib.hid (show BxPb (w.heap.size + 1) 0 none 0 0 0 0 0 0 0 0 0 0 w2 from (show BxPb (w.heap.size + 1) 0 none 0 0 0 0 0 0 0 0 0 0 w2 by rw [hw2, ← z1]; exact BxPb.new _ 0 none 0 0 0 0 0 0 0 0 0 0).below t2 (by omega))
  clear t0 t1 t2 z1 z2
  have B2 := BN
  have XP2 := XP
  have SP2 := Lib.hid (show w.heap.size < w2.heap.size by have := ZN.out; omega)
  have GP := Lib.hid (show w.heap.size ≤ w.heap.size by omega)
  have XZ2 := XZ
  have SZ2 := Lib.hid (show (w.heap.size + 1) < w2.heap.size by have := ZN.out; omega)
  have GZ := Lib.hid (show w.heap.size ≤ (w.heap.size + 1) by omega)
  have OPZ := Lib.hid (show w.heap.size < (w.heap.size + 1) by omega)
  clear ZN BN XP XZ
  obtain ⟨x, hx⟩ : ∃ x, Wig.fmuldiv f 7 10 = x := ⟨_, rfl⟩
  obtain ⟨h, hh⟩ : ∃ h, Wig.nheld x = h := ⟨_, rfl⟩
  unfold Wig.pbloss Wig.pbhigh at he
  simp only [hx, hh] at he
  have CV := Lib.hid (fun w => (show Calls Tryd.prog 36 #[.int .u64 (f : Int), .int .u64 7, .int .u64 10] w fun e w' => e = .returned (.int .u64 (x : Int)) ∧ w = w' by rw [← hx]; exact rmuldiv_any f 7 10 w hf (by decide) (by decide)))
  have CH := Lib.hid (fun w => rheld_any x h w hh)
  clear hok hR hf hx hh
  by_cases h1 : h < hi
  · rw [if_pos h1] at he
    have t1 : decide (h < hi) = true := decide_eq_true h1
    injection he with r1 r2 r3 r4 r5 r6 r7 r8 r9 r10
    subst r1 r2 r3 r4 r5 r6 r7 r8 r9 r10
    clear h1
    go_enter Tryd.func14, Tryd.ntmps14
    go_upto_region 1 with fail
    rw [← hw1, ← hw2]
    clear hw1 hw2
    go_wp2_with fail
    refine (CV.out _).mono ?_
    rintro e _ ⟨rfl, rfl⟩
    go_wp2_with fail
    refine (CH.out _).mono ?_
    rintro e _ ⟨rfl, rfl⟩
    have k9 := XP2.out.c9
    have kf9 := XP2.out.f9
    go_upto_region 4 with fail
    obtain ⟨w3, hw⟩ : ∃ wx, wx = w2.setCell ⟨w.heap.size, 9, none⟩ (.int .u64 (h : Int)) := ⟨_, rfl⟩
    rw [← hw]
    have XP3 := Lib.hid (show BxPb w.heap.size s A n c lo la fu sl ro ph si h w3 by rw [hw]; exact XP2.out.set9)
    have B3 := Lib.hid (show Below w.heap.size w w3 by rw [hw]; exact Below.setCell B2.out GP.out _)
    have SP3 := Lib.hid (show w.heap.size < w3.heap.size by rw [hw]; have := SP2.out; simpa using this)
    have XZ3 := Lib.hid (show BxPb (w.heap.size + 1) 0 none 0 0 0 0 0 0 0 0 0 0 w3 by rw [hw]; exact XZ2.out.other rfl (Nat.ne_of_lt OPZ.out))
    have SZ3 := Lib.hid (show (w.heap.size + 1) < w3.heap.size by rw [hw]; have := SZ2.out; simpa using this)
    clear k9 kf9
    clear hw B2 XP2 SP2 XZ2 SZ2
    obtain ⟨k0, k1, k2, k3, k4, k5, k6, k7, k8, k9, -, -, -, -, -, -, -, -, -, -⟩ := XP3.out
    obtain ⟨z0, z1, z2, z3, z4, z5, z6, z7, z8, z9, zf0, zf1, zf2, zf3, zf4, zf5, zf6, zf7, zf8, zf9⟩ := XZ3.out
    go_wp2_with fail
    show bodyPost _ _ _ _ _ (putPb (w.heap.size + 1) s A n c lo la fu sl ro ph si h w3)
    have BZ : Below w.heap.size w (putPb (w.heap.size + 1) s A n c lo la fu sl ro ph si h w3) := B3.out.trans (putPb_below GZ.out)
    obtain ⟨z0, z1, z2, z3, z4, z5, z6, z7, z8, z9, -, -, -, -, -, -, -, -, -, -⟩ := (show BxPb (w.heap.size + 1) s A n c lo la fu sl ro ph si h (putPb (w.heap.size + 1) s A n c lo la fu sl ro ph si h w3) from XZ3.out.put)
    exact bodyPost_ret (v := aggPb s A n c lo la fu sl ro ph si h) (by simp [results, Tryd.results14, z0, z1, z2, z3, z4, z5, z6, z7, z8, z9, go_sem]) rfl ⟨rfl, by simp, BZ⟩
  · rw [if_neg h1] at he
    have t1 : decide (h < hi) = false := decide_eq_false h1
    injection he with r1 r2 r3 r4 r5 r6 r7 r8 r9 r10
    subst r1 r2 r3 r4 r5 r6 r7 r8 r9 r10
    clear h1
    go_enter Tryd.func14, Tryd.ntmps14
    go_upto_region 1 with fail
    rw [← hw1, ← hw2]
    clear hw1 hw2
    go_wp2_with fail
    refine (CV.out _).mono ?_
    rintro e _ ⟨rfl, rfl⟩
    go_wp2_with fail
    refine (CH.out _).mono ?_
    rintro e _ ⟨rfl, rfl⟩
    have k9 := XP2.out.c9
    have kf9 := XP2.out.f9
    go_upto_region 4 with fail
    clear k9 kf9
    obtain ⟨k0, k1, k2, k3, k4, k5, k6, k7, k8, k9, -, -, -, -, -, -, -, -, -, -⟩ := XP2.out
    obtain ⟨z0, z1, z2, z3, z4, z5, z6, z7, z8, z9, zf0, zf1, zf2, zf3, zf4, zf5, zf6, zf7, zf8, zf9⟩ := XZ2.out
    go_wp2_with fail
    show bodyPost _ _ _ _ _ (putPb (w.heap.size + 1) s A n c lo la fu sl ro ph si hi w2)
    have BZ : Below w.heap.size w (putPb (w.heap.size + 1) s A n c lo la fu sl ro ph si hi w2) := B2.out.trans (putPb_below GZ.out)
    obtain ⟨z0, z1, z2, z3, z4, z5, z6, z7, z8, z9, -, -, -, -, -, -, -, -, -, -⟩ := (show BxPb (w.heap.size + 1) s A n c lo la fu sl ro ph si hi (putPb (w.heap.size + 1) s A n c lo la fu sl ro ph si hi w2) from XZ2.out.put)
    exact bodyPost_ret (v := aggPb s A n c lo la fu sl ro ph si hi) (by simp [results, Tryd.results14, z0, z1, z2, z3, z4, z5, z6, z7, z8, z9, go_sem]) rfl ⟨rfl, by simp, BZ⟩
set_option maxHeartbeats 2000000 in
theorem rsame_any (s : Int) (A : Option Addr) (n c lo la fu sl ro ph si hi : Nat) (ss : List Wig.Smp) (B : Option Addr) (d : Nat) (w : World) (hR : Rt w 0 w.heap.size A n ss) (hQ : Rt w 0 w.heap.size B n ss) :
    Calls Tryd.prog 10 #[aggPb s A n c lo la fu sl ro ph si hi, aggPb s B n d lo la fu sl ro ph si hi] w fun e w' => e = .returned (.bool true) ∧ Below w.heap.size w w' := by
  obtain ⟨w1, hw1⟩ : ∃ wx, wx = w.alloc (.cells #[.int .i64 s, .slice A n c, .int .u64 (lo : Int), .int .u64 (la : Int), .int .u64 (fu : Int), .int .u64 (sl : Int), .int .u64 (ro : Int), .int .u64 (ph : Int), .int .u64 (si : Int), .int .u64 (hi : Int)] 26) := ⟨_, rfl⟩
  have z1 : w1.heap.size = w.heap.size + 1 := by rw [hw1]; simp
  obtain ⟨w2, hw2⟩ : ∃ wx, wx = w1.alloc (.cells #[.int .i64 s, .slice B n d, .int .u64 (lo : Int), .int .u64 (la : Int), .int .u64 (fu : Int), .int .u64 (sl : Int), .int .u64 (ro : Int), .int .u64 (ph : Int), .int .u64 (si : Int), .int .u64 (hi : Int)] 26) := ⟨_, rfl⟩
  have z2 : w2.heap.size = w.heap.size + 2 := by rw [hw2]; simp; omega
  have t2 : Below w2.heap.size w2 w2 := Below.refl _ _
  have t1 : Below w1.heap.size w1 w2 := (show Below w1.heap.size w1 w2 by rw [hw2]; exact (Below.refl _ _).alloc (Nat.le_refl _) _).trans (t2.mono (by omega))
  have t0 : Below w.heap.size w w2 := (show Below w.heap.size w w1 by rw [hw1]; exact (Below.refl _ _).alloc (Nat.le_refl _) _).trans (t1.mono (by omega))
  have BN := Lib.hid t0
  have ZN := Lib.hid z2
  have XP := Lib.hid (show BxPb w.heap.size s A n c lo la fu sl ro ph si hi w2 from (show BxPb w.heap.size s A n c lo la fu sl ro ph si hi w1 by rw [hw1]; exact BxPb.new _ s A n c lo la fu sl ro ph si hi).below t1 (by omega))
  have XQ := Lib.hid (show BxPb (w.heap.size + 1) s B n d lo la fu sl ro ph si hi w2 from (show BxPb (w.heap.size + 1) s B n d lo la fu sl ro ph si hi w2 by rw [hw2, ← z1]; exact BxPb.new _ s B n d lo la fu sl ro ph si hi).below t2 (by omega))
  clear t0 t1 t2 z1 z2
  have B2 := BN
  have XP2 := XP
  have SP2 := Lib.hid (show w.heap.size < w2.heap.size by have := ZN.out; omega)
  have GP := Lib.hid (show w.heap.size ≤ w.heap.size by omega)
  have XQ2 := XQ
  have SQ2 := Lib.hid (show (w.heap.size + 1) < w2.heap.size by have := ZN.out; omega)
  have GQ := Lib.hid (show w.heap.size ≤ (w.heap.size + 1) by omega)
  have OPQ := Lib.hid (show w.heap.size < (w.heap.size + 1) by omega)
  clear ZN BN XP XQ
  have CS := Lib.hid (fun (w0 : World) (hb0 : Below w.heap.size w w0) => same_rt ss n A B c d w0 (hR.step hb0) (hQ.step hb0))
  clear hR hQ
  go_enter Tryd.func10, Tryd.ntmps10
  go_upto_region 1 with fail
  rw [← hw1, ← hw2]
  clear hw1 hw2
  have k1 := XP2.out.c1
  have j1 := XQ2.out.c1
  go_wp2_with fail
  refine (CS.out _ B2.out).mono ?_
  rintro e _ ⟨rfl, nq, rfl⟩
  obtain ⟨w3, hw⟩ : ∃ wx, wx = w2.drewN nq := ⟨_, rfl⟩
  rw [← hw]
  have B3 := Lib.hid (show Below w.heap.size w w3 by rw [hw]; exact below_drewN' B2.out nq)
  have XP3 := Lib.hid (show BxPb w.heap.size s A n c lo la fu sl ro ph si hi w3 by rw [hw]; exact XP2.out.drewN nq)
  have SP3 := Lib.hid (show w.heap.size < w3.heap.size by rw [hw]; exact SP2.out)
  have XQ3 := Lib.hid (show BxPb (w.heap.size + 1) s B n d lo la fu sl ro ph si hi w3 by rw [hw]; exact XQ2.out.drewN nq)
  have SQ3 := Lib.hid (show (w.heap.size + 1) < w3.heap.size by rw [hw]; exact SQ2.out)
  clear k1 j1
  clear hw B2 XP2 SP2 XQ2 SQ2
  obtain ⟨k0, k1, k2, k3, k4, k5, k6, k7, k8, k9, -, -, -, -, -, -, -, -, -, -⟩ := XP3.out
  obtain ⟨j0, j1, j2, j3, j4, j5, j6, j7, j8, j9, -, -, -, -, -, -, -, -, -, -⟩ := XQ3.out
  go_wp2_with fail
  go_ret
  exact ⟨rfl, B3.out⟩
set_option maxHeartbeats 8000000 in
theorem rack_any (s : Int) (A : Option Addr) (n c lo la fu sl ro ph si hi : Nat) (ss : List Wig.Smp) (g0 g1 g2 g3 g4 g5 g6 g7 : Nat) (gl gr : Bool) (s' : Int) (ss' : List Wig.Smp) (lo' la' fu' sl' ro' ph' si' hi' : Nat) (n' : Nat) (w : World) (hok : Wig.Pb.Ok ⟨s, ss, lo, la, fu, sl, ro, ph, si, hi⟩) (hR : Rt w 0 w.heap.size A n ss) (hg : Wig.Gt.Ok ⟨g0, g1, g2, g3, g4, g5, g6, g7, gl, gr⟩) (hn2 : n < 400) (he : Wig.pback ⟨s, ss, lo, la, fu, sl, ro, ph, si, hi⟩ ⟨g0, g1, g2, g3, g4, g5, g6, g7, gl, gr⟩ = ⟨s', ss', lo', la', fu', sl', ro', ph', si', hi'⟩) (hn' : ss'.length = n') :
    Calls Tryd.prog 12 #[aggPb s A n c lo la fu sl ro ph si hi, aggGt g0 g1 g2 g3 g4 g5 g6 g7 gl gr] w fun e w' => ∃ A' c', e = .returned (aggPb s' A' n' c' lo' la' fu' sl' ro' ph' si' hi') ∧ Rt w' w.heap.size w'.heap.size A' n' ss' ∧ Below w.heap.size w w' := by
  cases gr
  · cases gl
    · obtain ⟨w1, hw1⟩ : ∃ wx, wx = w.alloc (.cells #[.int .i64 s, .slice A n c, .int .u64 (lo : Int), .int .u64 (la : Int), .int .u64 (fu : Int), .int .u64 (sl : Int), .int .u64 (ro : Int), .int .u64 (ph : Int), .int .u64 (si : Int), .int .u64 (hi : Int)] 26) := ⟨_, rfl⟩
      have z1 : w1.heap.size = w.heap.size + 1 := by rw [hw1]; simp
      obtain ⟨w2, hw2⟩ : ∃ wx, wx = w1.alloc (.cells #[.int .u64 (g0 : Int), .int .u64 (g1 : Int), .int .u64 (g2 : Int), .int .u64 (g3 : Int), .int .u64 (g4 : Int), .int .u64 (g5 : Int), .int .u64 (g6 : Int), .int .u64 (g7 : Int), .bool false, .bool false] 28) := ⟨_, rfl⟩
      have z2 : w2.heap.size = w.heap.size + 2 := by rw [hw2]; simp; omega
      obtain ⟨w3, hw3⟩ : ∃ wx, wx = w2.alloc (.cells #[.int .i64 0, .slice none 0 0, .int .u64 0, .int .u64 0, .int .u64 0, .int .u64 0, .int .u64 0, .int .u64 0, .int .u64 0, .int .u64 0] 26) := ⟨_, rfl⟩
      have z3 : w3.heap.size = w.heap.size + 3 := by rw [hw3]; simp; omega
      have t3 : Below w3.heap.size w3 w3 := Below.refl _ _
      have t2 : Below w2.heap.size w2 w3 := (show Below w2.heap.size w2 w3 by rw [hw3]; exact (Below.refl _ _).alloc (Nat.le_refl _) _).trans (t3.mono (by omega))
      have t1 : Below w1.heap.size w1 w3 := (show Below w1.heap.size w1 w2 by rw [hw2]; exact (Below.refl _ _).alloc (Nat.le_refl _) _).trans (t2.mono (by omega))
      have t0 : Below w.heap.size w w3 := (show Below w.heap.size w w1 by rw [hw1]; exact (Below.refl _ _).alloc (Nat.le_refl _) _).trans (t1.mono (by omega))
      have BN := Lib.hid t0
      have ZN := Lib.hid z3
      have XP := Lib.hid (show BxPb w.heap.size s A n c lo la fu sl ro ph si hi w3 from (show BxPb w.heap.size s A n c lo la fu sl ro ph si hi w1 by rw [hw1]; exact BxPb.new _ s A n c lo la fu sl ro ph si hi).below t1 (by omega))
      have XG := Lib.hid (show BxGt (w.heap.size + 1) g0 g1 g2 g3 g4 g5 g6 g7 false false w3 from (show BxGt (w.heap.size + 1) g0 g1 g2 g3 g4 g5 g6 g7 false false w2 by rw [hw2, ← z1]; exact BxGt.new _ g0 g1 g2 g3 g4 g5 g6 g7 false false).below t2 (by omega))
      have XZ := Lib.hid (show BxPb (w.heap.size + 2) 0 none 0 0 0 0 0 0 0 0 0 0 w3 from (show BxPb (w.heap.size + 2) 0 none 0 0 0 0 0 0 0 0 0 0 w3 by rw [hw3, ← z2]; exact BxPb.new _ 0 none 0 0 0 0 0 0 0 0 0 0).below t3 (by omega))
      clear t0 t1 t2 t3 z1 z2 z3
      have B3 := BN
      have XP3 := XP
      have SP3 := Lib.hid (show w.heap.size < w3.heap.size by have := ZN.out; omega)
      have GP := Lib.hid (show w.heap.size ≤ w.heap.size by omega)
      have XG3 := XG
      have SG3 := Lib.hid (show (w.heap.size + 1) < w3.heap.size by have := ZN.out; omega)
      have GG := Lib.hid (show w.heap.size ≤ (w.heap.size + 1) by omega)
      have OPG := Lib.hid (show w.heap.size < (w.heap.size + 1) by omega)
      have XZ3 := XZ
      have SZ3 := Lib.hid (show (w.heap.size + 2) < w3.heap.size by have := ZN.out; omega)
      have GZ := Lib.hid (show w.heap.size ≤ (w.heap.size + 2) by omega)
      have OPZ := Lib.hid (show w.heap.size < (w.heap.size + 2) by omega)
      have OGZ := Lib.hid (show (w.heap.size + 1) < (w.heap.size + 2) by omega)
      clear ZN BN XP XG XZ
      have hro : ro < 18446744073709551616 := hok.rounds
      have hhi : hi < 18446744073709551616 := hok.high
      have hla : la < 18446744073709551616 := hok.lowAt
      have hr : Wig.pbround ⟨s, ss, lo, la, fu, sl, ro, ph, si, hi⟩ ⟨g0, g1, g2, g3, g4, g5, g6, g7, false, false⟩ = ⟨s, ss, lo, la, fu, sl, ro, ph, si, hi⟩ := rfl
      have ok1 : Wig.Pb.Ok ⟨s, ss, lo, la, fu, sl, ro, ph, si, hi⟩ := by rw [← hr]; exact Wig.pbround_ok hok
      have hs : (Wig.pbpush ⟨s, ss, lo, la, fu, sl, ro, ph, si, hi⟩ ⟨g0, g1, g2, g3, g4, g5, g6, g7, false, false⟩).rates = ss' := by rw [← hr, ← rpback_rates, he]
      obtain ⟨y, hy⟩ : ∃ y, Wig.fadd la 10000 = y := ⟨_, rfl⟩
      obtain ⟨q, hq⟩ : ∃ q, decide (y ≤ g0) = q := ⟨_, rfl⟩
      have hst : Wig.pbstale ⟨s, ss, lo, la, fu, sl, ro, ph, si, hi⟩ ⟨g0, g1, g2, g3, g4, g5, g6, g7, false, false⟩ = q := by rw [← hq, ← hy]; rfl
      have CY := Lib.hid (fun w => (show Calls Tryd.prog 29 #[.int .u64 (la : Int), .int .u64 10000] w fun e w' => e = .returned (.int .u64 (y : Int)) ∧ w = w' by rw [← hy]; exact radd_any la 10000 w hla (by decide)))
      have ok2 : Wig.Pb.Ok ⟨s, ss', lo, la, fu, sl, ro, ph, si, hi⟩ := by
        have h0 := Wig.pbpush_ok (g := ⟨g0, g1, g2, g3, g4, g5, g6, g7, false, false⟩) ok1 hg
        have e : Wig.pbpush ⟨s, ss, lo, la, fu, sl, ro, ph, si, hi⟩ ⟨g0, g1, g2, g3, g4, g5, g6, g7, false, false⟩ = ⟨s, ss', lo, la, fu, sl, ro, ph, si, hi⟩ := by
          rw [← hs]
          unfold Wig.pbpush
          split <;> rfl
        rw [e] at h0
        exact h0
      obtain ⟨b, hb⟩ : ∃ b, Wig.best ss = b := ⟨_, rfl⟩
      have CB := Lib.hid (fun (w0 : World) (hb0 : Below w.heap.size w w0) => (show Calls Tryd.prog 31 #[aggPb s A n c lo la fu sl ro ph si hi] w0 fun e w' => e = .returned (.int .u64 (b : Int)) ∧ Below w0.heap.size w0 w' from rbestp_any s A n c lo la fu sl ro ph si hi ss b w0 ok1 (hR.step hb0) hb))
      have hs2 : Wig.pushed true 10 (ro, g7) ss = ss' := by
        rw [← hs]
        unfold Wig.pbpush
        rw [if_pos (.inl rfl)]
      have hm2 : n' ≤ 400 := by
        rw [← hn', ← hs2]
        have h1 := Wig.pushed_le true 10 (ro, g7) ss
        have h2 := hR.len
        omega
      have CU := Lib.hid (fun (w0 : World) (hb0 : Below w.heap.size w w0) => (show Calls Tryd.prog 32 #[.slice A n c, .int .u64 10, .agg #[.int .u64 (ro : Int), .int .u64 (g7 : Int)]] w0 fun e w' => ∃ A' c', e = .returned (.slice A' n' c') ∧ Rt w' w0.heap.size w'.heap.size A' n' ss' ∧ Below w0.heap.size w0 w' from rpush_rt 10 ro g7 ss ss' n n' A c w0 hn' hm2 (hR.step hb0) (by decide) ok1.rounds hg.2.2.2.2.2.2.2 hs2))
      clear hs2 hm2
      have CM := Lib.hid (fun (l3 a3 : Nat) (q' : Bool) (hq' : q = q') (hl : (if q = true ∨ g5 < lo then g5 else lo) = l3) (ha : (if q = true ∨ g5 < lo then g0 else la) = a3) (A' : Option Addr) (c' : Nat) (w0 : World) (hT : Rt w0 0 w0.heap.size A' n' ss') =>
        (show Calls Tryd.prog 33 #[aggPb s A' n' c' l3 a3 fu sl ro ph si hi, aggGt g0 g1 g2 g3 g4 g5 g6 g7 false false, .bool q'] w0 fun e w' => e = .returned (aggPb s' A' n' c' lo' la' fu' sl' ro' ph' si' hi') ∧ Below w0.heap.size w0 w' by
          subst hq'
          have ok3 : Wig.Pb.Ok ⟨s, ss', l3, a3, fu, sl, ro, ph, si, hi⟩ := ⟨ok2.s0, ok2.s1, ok2.rates, (by show l3 < _; rw [← hl]; split; exact hg.2.2.2.2.2.1; exact ok2.low), (by show a3 < _; rw [← ha]; split; exact hg.1; exact ok2.lowAt), ok2.full, ok2.still, ok2.rounds, ok2.phase, ok2.since, ok2.high⟩
          exact rmoved_any s A' n' c' l3 a3 fu sl ro ph si hi ss' g0 g1 g2 g3 g4 g5 g6 g7 false false q s' ss' lo' la' fu' sl' ro' ph' si' hi' w0 ok3 hT hg (by rw [← he]; exact (rpback_eq hr hs hst hl ha).symm)))
      have HQ := Lib.hid hq
      clear hok hR hg hn2 he hn' hro hhi hla hr ok1 hs hy hst ok2 hb
      have t5 := hq
      clear hq
      go_enter Tryd.func12, Tryd.ntmps12
      go_upto_region 1 with fail
      rw [← hw1, ← hw2, ← hw3]
      clear hw1 hw2 hw3
      have j9 := XG3.out.c9
      go_upto_region 4 with fail
      clear j9
      have j7 := XG3.out.c7
      have j8 := XG3.out.c8
      go_quiet (first | fail)
      obtain ⟨w4, hw⟩ : ∃ wx, wx = w3.drewN nq := ⟨_, rfl⟩
      rw [← hw]
      have B4 := Lib.hid (show Below w.heap.size w w4 by rw [hw]; exact below_drewN' B3.out nq)
      have XP4 := Lib.hid (show BxPb w.heap.size s A n c lo la fu sl ro ph si hi w4 by rw [hw]; exact XP3.out.drewN nq)
      have SP4 := Lib.hid (show w.heap.size < w4.heap.size by rw [hw]; exact SP3.out)
      have XG4 := Lib.hid (show BxGt (w.heap.size + 1) g0 g1 g2 g3 g4 g5 g6 g7 false false w4 by rw [hw]; exact XG3.out.drewN nq)
      have SG4 := Lib.hid (show (w.heap.size + 1) < w4.heap.size by rw [hw]; exact SG3.out)
      have XZ4 := Lib.hid (show BxPb (w.heap.size + 2) 0 none 0 0 0 0 0 0 0 0 0 0 w4 by rw [hw]; exact XZ3.out.drewN nq)
      have SZ4 := Lib.hid (show (w.heap.size + 2) < w4.heap.size by rw [hw]; exact SZ3.out)
      clear j7 j8
      clear hw B3 XP3 SP3 XG3 SG3 XZ3 SZ3
      have k1 := XP4.out.c1
      have k6 := XP4.out.c6
      have j7 := XG4.out.c7
      go_wp2_with fail
      refine (CU.out _ B4.out).mono ?_
      rintro e w5 ⟨A', c', rfl, hr, hb⟩
      have LTP := Lib.hid (show w.heap.size < w4.heap.size from SP4.out)
      have LTG := Lib.hid (show (w.heap.size + 1) < w4.heap.size from SG4.out)
      have LTZ := Lib.hid (show (w.heap.size + 2) < w4.heap.size from SZ4.out)
      have QT := Lib.hid (show w.heap.size ≤ w4.heap.size from B4.out.size)
      have B5 := Lib.hid (below_trans' B4.out hb)
      have XP5 := Lib.hid (XP4.out.below hb SP4.out)
      have SP5 := Lib.hid (Nat.lt_of_lt_of_le SP4.out hb.size)
      have XG5 := Lib.hid (XG4.out.below hb SG4.out)
      have SG5 := Lib.hid (Nat.lt_of_lt_of_le SG4.out hb.size)
      have XZ5 := Lib.hid (XZ4.out.below hb SZ4.out)
      have SZ5 := Lib.hid (Nat.lt_of_lt_of_le SZ4.out hb.size)
      clear k1 k6 j7
      clear hb B4 XP4 SP4 XG4 SG4 XZ4 SZ4
      have RT5 := Lib.hid hr
      clear hr
      have k1 := XP5.out.c1
      have kf1 := XP5.out.f1
      go_upto_region 7 with fail
      obtain ⟨w6, hw⟩ : ∃ wx, wx = w5.setCell ⟨w.heap.size, 1, none⟩ (.slice A' n' c') := ⟨_, rfl⟩
      rw [← hw]
      have XP6 := Lib.hid (show BxPb w.heap.size s A' n' c' lo la fu sl ro ph si hi w6 by rw [hw]; exact XP5.out.set1)
      have B6 := Lib.hid (show Below w.heap.size w w6 by rw [hw]; exact Below.setCell B5.out GP.out _)
      have SP6 := Lib.hid (show w.heap.size < w6.heap.size by rw [hw]; have := SP5.out; simpa using this)
      have XG6 := Lib.hid (show BxGt (w.heap.size + 1) g0 g1 g2 g3 g4 g5 g6 g7 false false w6 by rw [hw]; exact XG5.out.other rfl (Nat.ne_of_lt OPG.out))
      have SG6 := Lib.hid (show (w.heap.size + 1) < w6.heap.size by rw [hw]; have := SG5.out; simpa using this)
      have XZ6 := Lib.hid (show BxPb (w.heap.size + 2) 0 none 0 0 0 0 0 0 0 0 0 0 w6 by rw [hw]; exact XZ5.out.other rfl (Nat.ne_of_lt OPZ.out))
      have SZ6 := Lib.hid (show (w.heap.size + 2) < w6.heap.size by rw [hw]; have := SZ5.out; simpa using this)
      have RT6 := Lib.hid (show Rt w6 w4.heap.size w6.heap.size A' n' ss' by rw [hw]; exact RT5.out.set LTP.out)
      clear k1 kf1
      clear hw B5 XP5 SP5 XG5 SG5 XZ5 SZ5 RT5
      have k3 := XP6.out.c3
      have j0 := XG6.out.c0
      go_quiet (first | (go_at_call 29; with_reducible exact quiet_eq (CY.out _)) | fail)
      obtain ⟨w7, hw⟩ : ∃ wx, wx = w6.drewN nq := ⟨_, rfl⟩
      rw [← hw]
      have B7 := Lib.hid (show Below w.heap.size w w7 by rw [hw]; exact below_drewN' B6.out nq)
      have XP7 := Lib.hid (show BxPb w.heap.size s A' n' c' lo la fu sl ro ph si hi w7 by rw [hw]; exact XP6.out.drewN nq)
      have SP7 := Lib.hid (show w.heap.size < w7.heap.size by rw [hw]; exact SP6.out)
      have XG7 := Lib.hid (show BxGt (w.heap.size + 1) g0 g1 g2 g3 g4 g5 g6 g7 false false w7 by rw [hw]; exact XG6.out.drewN nq)
      have SG7 := Lib.hid (show (w.heap.size + 1) < w7.heap.size by rw [hw]; exact SG6.out)
      have XZ7 := Lib.hid (show BxPb (w.heap.size + 2) 0 none 0 0 0 0 0 0 0 0 0 0 w7 by rw [hw]; exact XZ6.out.drewN nq)
      have SZ7 := Lib.hid (show (w.heap.size + 2) < w7.heap.size by rw [hw]; exact SZ6.out)
      have RT7 := Lib.hid (show Rt w7 w4.heap.size w7.heap.size A' n' ss' by rw [hw]; exact RT6.out.drewN nq)
      clear k3 j0
      clear hw B6 XP6 SP6 XG6 SG6 XZ6 SZ6 RT6
      by_cases hq : q = true
      · have HQQ := Lib.hid hq
        have HIF := Lib.hid (show q = true ∨ g5 < lo from .inl hq)
        rw [hq]
        clear hq t5 HQ
        go_upto_region 9 with fail
        have k2 := XP7.out.c2
        have kf2 := XP7.out.f2
        have j5 := XG7.out.c5
        go_upto_region 10 with fail
        obtain ⟨w8, hw⟩ : ∃ wx, wx = w7.setCell ⟨w.heap.size, 2, none⟩ (.int .u64 (g5 : Int)) := ⟨_, rfl⟩
        rw [← hw]
        have XP8 := Lib.hid (show BxPb w.heap.size s A' n' c' g5 la fu sl ro ph si hi w8 by rw [hw]; exact XP7.out.set2)
        have B8 := Lib.hid (show Below w.heap.size w w8 by rw [hw]; exact Below.setCell B7.out GP.out _)
        have SP8 := Lib.hid (show w.heap.size < w8.heap.size by rw [hw]; have := SP7.out; simpa using this)
        have XG8 := Lib.hid (show BxGt (w.heap.size + 1) g0 g1 g2 g3 g4 g5 g6 g7 false false w8 by rw [hw]; exact XG7.out.other rfl (Nat.ne_of_lt OPG.out))
        have SG8 := Lib.hid (show (w.heap.size + 1) < w8.heap.size by rw [hw]; have := SG7.out; simpa using this)
        have XZ8 := Lib.hid (show BxPb (w.heap.size + 2) 0 none 0 0 0 0 0 0 0 0 0 0 w8 by rw [hw]; exact XZ7.out.other rfl (Nat.ne_of_lt OPZ.out))
        have SZ8 := Lib.hid (show (w.heap.size + 2) < w8.heap.size by rw [hw]; have := SZ7.out; simpa using this)
        have RT8 := Lib.hid (show Rt w8 w4.heap.size w8.heap.size A' n' ss' by rw [hw]; exact RT7.out.set LTP.out)
        clear k2 kf2 j5
        clear hw B7 XP7 SP7 XG7 SG7 XZ7 SZ7 RT7
        have k3 := XP8.out.c3
        have kf3 := XP8.out.f3
        have j0 := XG8.out.c0
        go_upto_region 11 with fail
        obtain ⟨w9, hw⟩ : ∃ wx, wx = w8.setCell ⟨w.heap.size, 3, none⟩ (.int .u64 (g0 : Int)) := ⟨_, rfl⟩
        rw [← hw]
        have XP9 := Lib.hid (show BxPb w.heap.size s A' n' c' g5 g0 fu sl ro ph si hi w9 by rw [hw]; exact XP8.out.set3)
        have B9 := Lib.hid (show Below w.heap.size w w9 by rw [hw]; exact Below.setCell B8.out GP.out _)
        have SP9 := Lib.hid (show w.heap.size < w9.heap.size by rw [hw]; have := SP8.out; simpa using this)
        have XG9 := Lib.hid (show BxGt (w.heap.size + 1) g0 g1 g2 g3 g4 g5 g6 g7 false false w9 by rw [hw]; exact XG8.out.other rfl (Nat.ne_of_lt OPG.out))
        have SG9 := Lib.hid (show (w.heap.size + 1) < w9.heap.size by rw [hw]; have := SG8.out; simpa using this)
        have XZ9 := Lib.hid (show BxPb (w.heap.size + 2) 0 none 0 0 0 0 0 0 0 0 0 0 w9 by rw [hw]; exact XZ8.out.other rfl (Nat.ne_of_lt OPZ.out))
        have SZ9 := Lib.hid (show (w.heap.size + 2) < w9.heap.size by rw [hw]; have := SZ8.out; simpa using this)
        have RT9 := Lib.hid (show Rt w9 w4.heap.size w9.heap.size A' n' ss' by rw [hw]; exact RT8.out.set LTP.out)
        clear k3 kf3 j0
        clear hw B8 XP8 SP8 XG8 SG8 XZ8 SZ8 RT8
        obtain ⟨k0, k1, k2, k3, k4, k5, k6, k7, k8, k9, -, -, -, -, -, -, -, -, -, -⟩ := XP9.out
        obtain ⟨j0, j1, j2, j3, j4, j5, j6, j7, j8, j9, -, -, -, -, -, -, -, -, -, -⟩ := XG9.out
        go_wp2_with fail
        refine (CM.out g5 g0 true HQQ.out (if_pos HIF.out) (if_pos HIF.out) A' c' _ RT9.out.low).mono ?_
        rintro e w10 ⟨rfl, hb⟩
        have B10 := Lib.hid (below_trans' B9.out hb)
        have XP10 := Lib.hid (XP9.out.below hb SP9.out)
        have SP10 := Lib.hid (Nat.lt_of_lt_of_le SP9.out hb.size)
        have XG10 := Lib.hid (XG9.out.below hb SG9.out)
        have SG10 := Lib.hid (Nat.lt_of_lt_of_le SG9.out hb.size)
        have XZ10 := Lib.hid (XZ9.out.below hb SZ9.out)
        have SZ10 := Lib.hid (Nat.lt_of_lt_of_le SZ9.out hb.size)
        have RT10 := Lib.hid (RT9.out.step hb)
        clear k0 k1 k2 k3 k4 k5 k6 k7 k8 k9 j0 j1 j2 j3 j4 j5 j6 j7 j8 j9
        clear hb B9 XP9 SP9 XG9 SG9 XZ9 SZ9 RT9
        obtain ⟨z0, z1, z2, z3, z4, z5, z6, z7, z8, z9, zf0, zf1, zf2, zf3, zf4, zf5, zf6, zf7, zf8, zf9⟩ := XZ10.out
        go_wp2_with fail
        show bodyPost _ _ _ _ _ (putPb (w.heap.size + 2) s' A' n' c' lo' la' fu' sl' ro' ph' si' hi' w10)
        have BZ : Below w.heap.size w (putPb (w.heap.size + 2) s' A' n' c' lo' la' fu' sl' ro' ph' si' hi' w10) := B10.out.trans (putPb_below GZ.out)
        obtain ⟨z0, z1, z2, z3, z4, z5, z6, z7, z8, z9, -, -, -, -, -, -, -, -, -, -⟩ := (show BxPb (w.heap.size + 2) s' A' n' c' lo' la' fu' sl' ro' ph' si' hi' (putPb (w.heap.size + 2) s' A' n' c' lo' la' fu' sl' ro' ph' si' hi' w10) from XZ10.out.put)
        exact bodyPost_ret (v := aggPb s' A' n' c' lo' la' fu' sl' ro' ph' si' hi') (by simp [results, Tryd.results12, z0, z1, z2, z3, z4, z5, z6, z7, z8, z9, go_sem]) rfl ⟨A', c', rfl, (RT10.out.put LTZ.out _ _ _ _ _ _ _ _ _ _ _ _ ).wide QT.out (Nat.le_refl _), BZ⟩
      · have hq : q = false := by simpa using hq
        have HQQ := Lib.hid hq
        by_cases h6 : g5 < lo
        · have HIF := Lib.hid (show q = true ∨ g5 < lo from .inr h6)
          have t6 : decide (g5 < lo) = true := decide_eq_true h6
          rw [hq]
          clear hq t5 HQ h6
          have j5 := XG7.out.c5
          have k2 := XP7.out.c2
          go_upto_region 9 with fail
          clear j5 k2
          have k2 := XP7.out.c2
          have kf2 := XP7.out.f2
          have j5 := XG7.out.c5
          go_upto_region 10 with fail
          obtain ⟨w8, hw⟩ : ∃ wx, wx = w7.setCell ⟨w.heap.size, 2, none⟩ (.int .u64 (g5 : Int)) := ⟨_, rfl⟩
          rw [← hw]
          have XP8 := Lib.hid (show BxPb w.heap.size s A' n' c' g5 la fu sl ro ph si hi w8 by rw [hw]; exact XP7.out.set2)
          have B8 := Lib.hid (show Below w.heap.size w w8 by rw [hw]; exact Below.setCell B7.out GP.out _)
          have SP8 := Lib.hid (show w.heap.size < w8.heap.size by rw [hw]; have := SP7.out; simpa using this)
          have XG8 := Lib.hid (show BxGt (w.heap.size + 1) g0 g1 g2 g3 g4 g5 g6 g7 false false w8 by rw [hw]; exact XG7.out.other rfl (Nat.ne_of_lt OPG.out))
          have SG8 := Lib.hid (show (w.heap.size + 1) < w8.heap.size by rw [hw]; have := SG7.out; simpa using this)
          have XZ8 := Lib.hid (show BxPb (w.heap.size + 2) 0 none 0 0 0 0 0 0 0 0 0 0 w8 by rw [hw]; exact XZ7.out.other rfl (Nat.ne_of_lt OPZ.out))
          have SZ8 := Lib.hid (show (w.heap.size + 2) < w8.heap.size by rw [hw]; have := SZ7.out; simpa using this)
          have RT8 := Lib.hid (show Rt w8 w4.heap.size w8.heap.size A' n' ss' by rw [hw]; exact RT7.out.set LTP.out)
          clear k2 kf2 j5
          clear hw B7 XP7 SP7 XG7 SG7 XZ7 SZ7 RT7
          have k3 := XP8.out.c3
          have kf3 := XP8.out.f3
          have j0 := XG8.out.c0
          go_upto_region 11 with fail
          obtain ⟨w9, hw⟩ : ∃ wx, wx = w8.setCell ⟨w.heap.size, 3, none⟩ (.int .u64 (g0 : Int)) := ⟨_, rfl⟩
          rw [← hw]
          have XP9 := Lib.hid (show BxPb w.heap.size s A' n' c' g5 g0 fu sl ro ph si hi w9 by rw [hw]; exact XP8.out.set3)
          have B9 := Lib.hid (show Below w.heap.size w w9 by rw [hw]; exact Below.setCell B8.out GP.out _)
          have SP9 := Lib.hid (show w.heap.size < w9.heap.size by rw [hw]; have := SP8.out; simpa using this)
          have XG9 := Lib.hid (show BxGt (w.heap.size + 1) g0 g1 g2 g3 g4 g5 g6 g7 false false w9 by rw [hw]; exact XG8.out.other rfl (Nat.ne_of_lt OPG.out))
          have SG9 := Lib.hid (show (w.heap.size + 1) < w9.heap.size by rw [hw]; have := SG8.out; simpa using this)
          have XZ9 := Lib.hid (show BxPb (w.heap.size + 2) 0 none 0 0 0 0 0 0 0 0 0 0 w9 by rw [hw]; exact XZ8.out.other rfl (Nat.ne_of_lt OPZ.out))
          have SZ9 := Lib.hid (show (w.heap.size + 2) < w9.heap.size by rw [hw]; have := SZ8.out; simpa using this)
          have RT9 := Lib.hid (show Rt w9 w4.heap.size w9.heap.size A' n' ss' by rw [hw]; exact RT8.out.set LTP.out)
          clear k3 kf3 j0
          clear hw B8 XP8 SP8 XG8 SG8 XZ8 SZ8 RT8
          obtain ⟨k0, k1, k2, k3, k4, k5, k6, k7, k8, k9, -, -, -, -, -, -, -, -, -, -⟩ := XP9.out
          obtain ⟨j0, j1, j2, j3, j4, j5, j6, j7, j8, j9, -, -, -, -, -, -, -, -, -, -⟩ := XG9.out
          go_wp2_with fail
          refine (CM.out g5 g0 false HQQ.out (if_pos HIF.out) (if_pos HIF.out) A' c' _ RT9.out.low).mono ?_
          rintro e w10 ⟨rfl, hb⟩
          have B10 := Lib.hid (below_trans' B9.out hb)
          have XP10 := Lib.hid (XP9.out.below hb SP9.out)
          have SP10 := Lib.hid (Nat.lt_of_lt_of_le SP9.out hb.size)
          have XG10 := Lib.hid (XG9.out.below hb SG9.out)
          have SG10 := Lib.hid (Nat.lt_of_lt_of_le SG9.out hb.size)
          have XZ10 := Lib.hid (XZ9.out.below hb SZ9.out)
          have SZ10 := Lib.hid (Nat.lt_of_lt_of_le SZ9.out hb.size)
          have RT10 := Lib.hid (RT9.out.step hb)
          clear k0 k1 k2 k3 k4 k5 k6 k7 k8 k9 j0 j1 j2 j3 j4 j5 j6 j7 j8 j9
          clear hb B9 XP9 SP9 XG9 SG9 XZ9 SZ9 RT9
          obtain ⟨z0, z1, z2, z3, z4, z5, z6, z7, z8, z9, zf0, zf1, zf2, zf3, zf4, zf5, zf6, zf7, zf8, zf9⟩ := XZ10.out
          go_wp2_with fail
          show bodyPost _ _ _ _ _ (putPb (w.heap.size + 2) s' A' n' c' lo' la' fu' sl' ro' ph' si' hi' w10)
          have BZ : Below w.heap.size w (putPb (w.heap.size + 2) s' A' n' c' lo' la' fu' sl' ro' ph' si' hi' w10) := B10.out.trans (putPb_below GZ.out)
          obtain ⟨z0, z1, z2, z3, z4, z5, z6, z7, z8, z9, -, -, -, -, -, -, -, -, -, -⟩ := (show BxPb (w.heap.size + 2) s' A' n' c' lo' la' fu' sl' ro' ph' si' hi' (putPb (w.heap.size + 2) s' A' n' c' lo' la' fu' sl' ro' ph' si' hi' w10) from XZ10.out.put)
          exact bodyPost_ret (v := aggPb s' A' n' c' lo' la' fu' sl' ro' ph' si' hi') (by simp [results, Tryd.results12, z0, z1, z2, z3, z4, z5, z6, z7, z8, z9, go_sem]) rfl ⟨A', c', rfl, (RT10.out.put LTZ.out _ _ _ _ _ _ _ _ _ _ _ _ ).wide QT.out (Nat.le_refl _), BZ⟩
        · have HIF := Lib.hid (show ¬ (q = true ∨ g5 < lo) by rw [hq]; simp; omega)
          have t6 : decide (g5 < lo) = false := decide_eq_false h6
          rw [hq]
          clear hq t5 HQ h6
          have j5 := XG7.out.c5
          have k2 := XP7.out.c2
          go_upto_region 11 with fail
          clear j5 k2
          obtain ⟨k0, k1, k2, k3, k4, k5, k6, k7, k8, k9, -, -, -, -, -, -, -, -, -, -⟩ := XP7.out
          obtain ⟨j0, j1, j2, j3, j4, j5, j6, j7, j8, j9, -, -, -, -, -, -, -, -, -, -⟩ := XG7.out
          go_wp2_with fail
          refine (CM.out lo la false HQQ.out (if_neg HIF.out) (if_neg HIF.out) A' c' _ RT7.out.low).mono ?_
          rintro e w8 ⟨rfl, hb⟩
          have B8 := Lib.hid (below_trans' B7.out hb)
          have XP8 := Lib.hid (XP7.out.below hb SP7.out)
          have SP8 := Lib.hid (Nat.lt_of_lt_of_le SP7.out hb.size)
          have XG8 := Lib.hid (XG7.out.below hb SG7.out)
          have SG8 := Lib.hid (Nat.lt_of_lt_of_le SG7.out hb.size)
          have XZ8 := Lib.hid (XZ7.out.below hb SZ7.out)
          have SZ8 := Lib.hid (Nat.lt_of_lt_of_le SZ7.out hb.size)
          have RT8 := Lib.hid (RT7.out.step hb)
          clear k0 k1 k2 k3 k4 k5 k6 k7 k8 k9 j0 j1 j2 j3 j4 j5 j6 j7 j8 j9
          clear hb B7 XP7 SP7 XG7 SG7 XZ7 SZ7 RT7
          obtain ⟨z0, z1, z2, z3, z4, z5, z6, z7, z8, z9, zf0, zf1, zf2, zf3, zf4, zf5, zf6, zf7, zf8, zf9⟩ := XZ8.out
          go_wp2_with fail
          show bodyPost _ _ _ _ _ (putPb (w.heap.size + 2) s' A' n' c' lo' la' fu' sl' ro' ph' si' hi' w8)
          have BZ : Below w.heap.size w (putPb (w.heap.size + 2) s' A' n' c' lo' la' fu' sl' ro' ph' si' hi' w8) := B8.out.trans (putPb_below GZ.out)
          obtain ⟨z0, z1, z2, z3, z4, z5, z6, z7, z8, z9, -, -, -, -, -, -, -, -, -, -⟩ := (show BxPb (w.heap.size + 2) s' A' n' c' lo' la' fu' sl' ro' ph' si' hi' (putPb (w.heap.size + 2) s' A' n' c' lo' la' fu' sl' ro' ph' si' hi' w8) from XZ8.out.put)
          exact bodyPost_ret (v := aggPb s' A' n' c' lo' la' fu' sl' ro' ph' si' hi') (by simp [results, Tryd.results12, z0, z1, z2, z3, z4, z5, z6, z7, z8, z9, go_sem]) rfl ⟨A', c', rfl, (RT8.out.put LTZ.out _ _ _ _ _ _ _ _ _ _ _ _ ).wide QT.out (Nat.le_refl _), BZ⟩
    · by_cases h1 : Wig.best ss ≤ g7
      · obtain ⟨w1, hw1⟩ : ∃ wx, wx = w.alloc (.cells #[.int .i64 s, .slice A n c, .int .u64 (lo : Int), .int .u64 (la : Int), .int .u64 (fu : Int), .int .u64 (sl : Int), .int .u64 (ro : Int), .int .u64 (ph : Int), .int .u64 (si : Int), .int .u64 (hi : Int)] 26) := ⟨_, rfl⟩
        have z1 : w1.heap.size = w.heap.size + 1 := by rw [hw1]; simp
        obtain ⟨w2, hw2⟩ : ∃ wx, wx = w1.alloc (.cells #[.int .u64 (g0 : Int), .int .u64 (g1 : Int), .int .u64 (g2 : Int), .int .u64 (g3 : Int), .int .u64 (g4 : Int), .int .u64 (g5 : Int), .int .u64 (g6 : Int), .int .u64 (g7 : Int), .bool true, .bool false] 28) := ⟨_, rfl⟩
        have z2 : w2.heap.size = w.heap.size + 2 := by rw [hw2]; simp; omega
        obtain ⟨w3, hw3⟩ : ∃ wx, wx = w2.alloc (.cells #[.int .i64 0, .slice none 0 0, .int .u64 0, .int .u64 0, .int .u64 0, .int .u64 0, .int .u64 0, .int .u64 0, .int .u64 0, .int .u64 0] 26) := ⟨_, rfl⟩
        have z3 : w3.heap.size = w.heap.size + 3 := by rw [hw3]; simp; omega
        have t3 : Below w3.heap.size w3 w3 := Below.refl _ _
        have t2 : Below w2.heap.size w2 w3 := (show Below w2.heap.size w2 w3 by rw [hw3]; exact (Below.refl _ _).alloc (Nat.le_refl _) _).trans (t3.mono (by omega))
        have t1 : Below w1.heap.size w1 w3 := (show Below w1.heap.size w1 w2 by rw [hw2]; exact (Below.refl _ _).alloc (Nat.le_refl _) _).trans (t2.mono (by omega))
        have t0 : Below w.heap.size w w3 := (show Below w.heap.size w w1 by rw [hw1]; exact (Below.refl _ _).alloc (Nat.le_refl _) _).trans (t1.mono (by omega))
        have BN := Lib.hid t0
        have ZN := Lib.hid z3
        have XP := Lib.hid (show BxPb w.heap.size s A n c lo la fu sl ro ph si hi w3 from (show BxPb w.heap.size s A n c lo la fu sl ro ph si hi w1 by rw [hw1]; exact BxPb.new _ s A n c lo la fu sl ro ph si hi).below t1 (by omega))
        have XG := Lib.hid (show BxGt (w.heap.size + 1) g0 g1 g2 g3 g4 g5 g6 g7 true false w3 from (show BxGt (w.heap.size + 1) g0 g1 g2 g3 g4 g5 g6 g7 true false w2 by rw [hw2, ← z1]; exact BxGt.new _ g0 g1 g2 g3 g4 g5 g6 g7 true false).below t2 (by omega))
        have XZ := Lib.hid (show BxPb (w.heap.size + 2) 0 none 0 0 0 0 0 0 0 0 0 0 w3 from (show BxPb (w.heap.size + 2) 0 none 0 0 0 0 0 0 0 0 0 0 w3 by rw [hw3, ← z2]; exact BxPb.new _ 0 none 0 0 0 0 0 0 0 0 0 0).below t3 (by omega))
        clear t0 t1 t2 t3 z1 z2 z3
        have B3 := BN
        have XP3 := XP
        have SP3 := Lib.hid (show w.heap.size < w3.heap.size by have := ZN.out; omega)
        have GP := Lib.hid (show w.heap.size ≤ w.heap.size by omega)
        have XG3 := XG
        have SG3 := Lib.hid (show (w.heap.size + 1) < w3.heap.size by have := ZN.out; omega)
        have GG := Lib.hid (show w.heap.size ≤ (w.heap.size + 1) by omega)
        have OPG := Lib.hid (show w.heap.size < (w.heap.size + 1) by omega)
        have XZ3 := XZ
        have SZ3 := Lib.hid (show (w.heap.size + 2) < w3.heap.size by have := ZN.out; omega)
        have GZ := Lib.hid (show w.heap.size ≤ (w.heap.size + 2) by omega)
        have OPZ := Lib.hid (show w.heap.size < (w.heap.size + 2) by omega)
        have OGZ := Lib.hid (show (w.heap.size + 1) < (w.heap.size + 2) by omega)
        clear ZN BN XP XG XZ
        have hro : ro < 18446744073709551616 := hok.rounds
        have hhi : hi < 18446744073709551616 := hok.high
        have hla : la < 18446744073709551616 := hok.lowAt
        have hr : Wig.pbround ⟨s, ss, lo, la, fu, sl, ro, ph, si, hi⟩ ⟨g0, g1, g2, g3, g4, g5, g6, g7, true, false⟩ = ⟨s, ss, lo, la, fu, sl, ro, ph, si, hi⟩ := rfl
        have ok1 : Wig.Pb.Ok ⟨s, ss, lo, la, fu, sl, ro, ph, si, hi⟩ := by rw [← hr]; exact Wig.pbround_ok hok
        have hs : (Wig.pbpush ⟨s, ss, lo, la, fu, sl, ro, ph, si, hi⟩ ⟨g0, g1, g2, g3, g4, g5, g6, g7, true, false⟩).rates = ss' := by rw [← hr, ← rpback_rates, he]
        obtain ⟨y, hy⟩ : ∃ y, Wig.fadd la 10000 = y := ⟨_, rfl⟩
        obtain ⟨q, hq⟩ : ∃ q, decide (y ≤ g0) = q := ⟨_, rfl⟩
        have hst : Wig.pbstale ⟨s, ss, lo, la, fu, sl, ro, ph, si, hi⟩ ⟨g0, g1, g2, g3, g4, g5, g6, g7, true, false⟩ = q := by rw [← hq, ← hy]; rfl
        have CY := Lib.hid (fun w => (show Calls Tryd.prog 29 #[.int .u64 (la : Int), .int .u64 10000] w fun e w' => e = .returned (.int .u64 (y : Int)) ∧ w = w' by rw [← hy]; exact radd_any la 10000 w hla (by decide)))
        have ok2 : Wig.Pb.Ok ⟨s, ss', lo, la, fu, sl, ro, ph, si, hi⟩ := by
          have h0 := Wig.pbpush_ok (g := ⟨g0, g1, g2, g3, g4, g5, g6, g7, true, false⟩) ok1 hg
          have e : Wig.pbpush ⟨s, ss, lo, la, fu, sl, ro, ph, si, hi⟩ ⟨g0, g1, g2, g3, g4, g5, g6, g7, true, false⟩ = ⟨s, ss', lo, la, fu, sl, ro, ph, si, hi⟩ := by
            rw [← hs]
            unfold Wig.pbpush
            split <;> rfl
          rw [e] at h0
          exact h0
        obtain ⟨b, hb⟩ : ∃ b, Wig.best ss = b := ⟨_, rfl⟩
        have CB := Lib.hid (fun (w0 : World) (hb0 : Below w.heap.size w w0) => (show Calls Tryd.prog 31 #[aggPb s A n c lo la fu sl ro ph si hi] w0 fun e w' => e = .returned (.int .u64 (b : Int)) ∧ Below w0.heap.size w0 w' from rbestp_any s A n c lo la fu sl ro ph si hi ss b w0 ok1 (hR.step hb0) hb))
        have t1 : decide (b ≤ g7) = true := decide_eq_true (by rw [← hb]; exact h1)
        have hs2 : Wig.pushed true 10 (ro, g7) ss = ss' := by
          rw [← hs]
          unfold Wig.pbpush
          rw [if_pos (.inr (by simp only; rw [hb]; omega))]
        have hm2 : n' ≤ 400 := by
          rw [← hn', ← hs2]
          have h1 := Wig.pushed_le true 10 (ro, g7) ss
          have h2 := hR.len
          omega
        have CU := Lib.hid (fun (w0 : World) (hb0 : Below w.heap.size w w0) => (show Calls Tryd.prog 32 #[.slice A n c, .int .u64 10, .agg #[.int .u64 (ro : Int), .int .u64 (g7 : Int)]] w0 fun e w' => ∃ A' c', e = .returned (.slice A' n' c') ∧ Rt w' w0.heap.size w'.heap.size A' n' ss' ∧ Below w0.heap.size w0 w' from rpush_rt 10 ro g7 ss ss' n n' A c w0 hn' hm2 (hR.step hb0) (by decide) ok1.rounds hg.2.2.2.2.2.2.2 hs2))
        clear hs2 hm2
        clear h1
        have CM := Lib.hid (fun (l3 a3 : Nat) (q' : Bool) (hq' : q = q') (hl : (if q = true ∨ g5 < lo then g5 else lo) = l3) (ha : (if q = true ∨ g5 < lo then g0 else la) = a3) (A' : Option Addr) (c' : Nat) (w0 : World) (hT : Rt w0 0 w0.heap.size A' n' ss') =>
          (show Calls Tryd.prog 33 #[aggPb s A' n' c' l3 a3 fu sl ro ph si hi, aggGt g0 g1 g2 g3 g4 g5 g6 g7 true false, .bool q'] w0 fun e w' => e = .returned (aggPb s' A' n' c' lo' la' fu' sl' ro' ph' si' hi') ∧ Below w0.heap.size w0 w' by
            subst hq'
            have ok3 : Wig.Pb.Ok ⟨s, ss', l3, a3, fu, sl, ro, ph, si, hi⟩ := ⟨ok2.s0, ok2.s1, ok2.rates, (by show l3 < _; rw [← hl]; split; exact hg.2.2.2.2.2.1; exact ok2.low), (by show a3 < _; rw [← ha]; split; exact hg.1; exact ok2.lowAt), ok2.full, ok2.still, ok2.rounds, ok2.phase, ok2.since, ok2.high⟩
            exact rmoved_any s A' n' c' l3 a3 fu sl ro ph si hi ss' g0 g1 g2 g3 g4 g5 g6 g7 true false q s' ss' lo' la' fu' sl' ro' ph' si' hi' w0 ok3 hT hg (by rw [← he]; exact (rpback_eq hr hs hst hl ha).symm)))
        have HQ := Lib.hid hq
        clear hok hR hg hn2 he hn' hro hhi hla hr ok1 hs hy hst ok2 hb
        have t5 := hq
        clear hq
        go_enter Tryd.func12, Tryd.ntmps12
        go_upto_region 1 with fail
        rw [← hw1, ← hw2, ← hw3]
        clear hw1 hw2 hw3
        have j9 := XG3.out.c9
        go_upto_region 4 with fail
        clear j9
        refine wp_region_held_drew (S := fun wx => BxPb w.heap.size s A n c lo la fu sl ro ph si hi wx ∧ BxGt (w.heap.size + 1) g0 g1 g2 g3 g4 g5 g6 g7 true false wx ∧ BxPb (w.heap.size + 2) 0 none 0 0 0 0 0 0 0 0 0 0 wx ∧ Below w3.heap.size w3 wx) (by kernel_rfl) ?_ (fun hHeld => ?_)
        · exact ⟨XP3.out.drew, XG3.out.drew, XZ3.out.drew, (Below.refl _ _).drew⟩
        refine held_take (v := ?vv155) 0 rfl (by kernel_rfl) (by kernel_rfl) (by kernel_rfl) (fun _ _ _ h => h) (by rfl) ?yy155 (by assumption) ?nn155
        case yy155 =>
          intro w hSw
          (try dsimp only at hSw)
          go_simp
          try with_reducible rfl
        try simp only [Act.put, List.setIfInBounds_toArray, List.set_cons_zero, List.set_cons_succ]
        refine held_take (v := .bool true) 1 rfl (by kernel_rfl) (by kernel_rfl) (by kernel_rfl) (fun _ _ _ h => h) (by rfl) (fun wx hSw => by have c := hSw.2.1.c8; clear hSw; go_simp) (by assumption) ?_
        try simp only [Act.put, List.setIfInBounds_toArray, List.set_cons_zero, List.set_cons_succ]
        refine held_take (v := ?vv157) 2 rfl (by kernel_rfl) (by kernel_rfl) (by kernel_rfl) (fun _ _ _ h => h) (by rfl) ?yy157 (by assumption) ?nn157
        case yy157 =>
          intro w hSw
          (try dsimp only at hSw)
          go_simp
          try with_reducible rfl
        try simp only [Act.put, List.setIfInBounds_toArray, List.set_cons_zero, List.set_cons_succ]
        refine held_take (v := ?vv158) 3 rfl (by kernel_rfl) (by kernel_rfl) (by kernel_rfl) (fun _ _ _ h => h) (by rfl) ?yy158 (by assumption) ?nn158
        case yy158 =>
          intro w hSw
          (try dsimp only at hSw)
          go_simp
          try with_reducible rfl
        try simp only [Act.put, List.setIfInBounds_toArray, List.set_cons_zero, List.set_cons_succ]
        refine held_take (v := ?vv159) 4 rfl (by kernel_rfl) (by kernel_rfl) (by kernel_rfl) (fun _ _ _ h => h) (by rfl) ?yy159 (by assumption) ?nn159
        case yy159 =>
          intro w hSw
          (try dsimp only at hSw)
          go_simp
          try with_reducible rfl
        try simp only [Act.put, List.setIfInBounds_toArray, List.set_cons_zero, List.set_cons_succ]
        refine held_take (v := .int .u64 (g7 : Int)) 5 rfl (by kernel_rfl) (by kernel_rfl) (by kernel_rfl) (fun _ _ _ h => h) (by rfl) (fun wx hSw => by have c := hSw.2.1.c7; clear hSw; go_simp) (by assumption) ?_
        try simp only [Act.put, List.setIfInBounds_toArray, List.set_cons_zero, List.set_cons_succ]
        refine held_take (v := .agg #[.int .i64 s, .slice A n c, .int .u64 (lo : Int), .int .u64 (la : Int), .int .u64 (fu : Int), .int .u64 (sl : Int), .int .u64 (ro : Int), .int .u64 (ph : Int), .int .u64 (si : Int), .int .u64 (hi : Int)]) 6 rfl (by kernel_rfl) (by kernel_rfl) (by kernel_rfl) (fun _ _ _ h => h) (by rfl) (fun wx hSw => by obtain ⟨c0, c1, c2, c3, c4, c5, c6, c7, c8, c9, -, -, -, -, -, -, -, -, -, -⟩ := hSw.1; clear hSw; go_simp) (by assumption) ?_
        try simp only [Act.put, List.setIfInBounds_toArray, List.set_cons_zero, List.set_cons_succ]
        refine held_do 7 rfl (by kernel_rfl) (by rfl) (fun K hK => ?_)
        go_wp2_with (go_at_call 31; refine (CB.out _ (below_trans' B3.out hHeld.2.2.2)).mono ?_; rintro e w4 ⟨rfl, hb4⟩; have K4 := Lib.hid (Below.trans hHeld.2.2.2 (hb4.mono hHeld.2.2.2.size)); clear hb4)
        refine hK.out _ _ ?_ (fun hHeld => ?_)
        · exact ⟨XP3.out.below K4.out SP3.out, XG3.out.below K4.out SG3.out, XZ3.out.below K4.out SZ3.out, K4.out⟩
        clear hK K
        try simp only [Act.put, List.setIfInBounds_toArray, List.set_cons_zero, List.set_cons_succ]
        refine held_take (v := ?vv163) 8 rfl (by kernel_rfl) (by kernel_rfl) (by kernel_rfl) (fun _ _ _ h => h) (by rfl) ?yy163 (by assumption) ?nn163
        case yy163 =>
          intro w hSw
          (try dsimp only at hSw)
          go_simp
          try with_reducible rfl
        try simp only [Act.put, List.setIfInBounds_toArray, List.set_cons_zero, List.set_cons_succ]
        refine held_take (v := ?vv164) 9 rfl (by kernel_rfl) (by kernel_rfl) (by kernel_rfl) (fun _ _ _ h => h) (by rfl) ?yy164 (by assumption) ?nn164
        case yy164 =>
          intro w hSw
          (try dsimp only at hSw)
          go_simp
          try with_reducible rfl
        try simp only [Act.put, List.setIfInBounds_toArray, List.set_cons_zero, List.set_cons_succ]
        refine wpAnyH_done (by kernel_rfl) ?_ _
        clear hHeld
        have B4 := Lib.hid (below_trans' B3.out K4.out)
        have XP4 := Lib.hid (XP3.out.below K4.out SP3.out)
        have SP4 := Lib.hid (Nat.lt_of_lt_of_le SP3.out K4.out.size)
        have XG4 := Lib.hid (XG3.out.below K4.out SG3.out)
        have SG4 := Lib.hid (Nat.lt_of_lt_of_le SG3.out K4.out.size)
        have XZ4 := Lib.hid (XZ3.out.below K4.out SZ3.out)
        have SZ4 := Lib.hid (Nat.lt_of_lt_of_le SZ3.out K4.out.size)
        clear B3 XP3 SP3 XG3 SG3 XZ3 SZ3
        have k1 := XP4.out.c1
        have k6 := XP4.out.c6
        have j7 := XG4.out.c7
        go_wp2_with fail
        refine (CU.out _ B4.out).mono ?_
        rintro e w5 ⟨A', c', rfl, hr, hb⟩
        have LTP := Lib.hid (show w.heap.size < w4.heap.size from SP4.out)
        have LTG := Lib.hid (show (w.heap.size + 1) < w4.heap.size from SG4.out)
        have LTZ := Lib.hid (show (w.heap.size + 2) < w4.heap.size from SZ4.out)
        have QT := Lib.hid (show w.heap.size ≤ w4.heap.size from B4.out.size)
        have B5 := Lib.hid (below_trans' B4.out hb)
        have XP5 := Lib.hid (XP4.out.below hb SP4.out)
        have SP5 := Lib.hid (Nat.lt_of_lt_of_le SP4.out hb.size)
        have XG5 := Lib.hid (XG4.out.below hb SG4.out)
        have SG5 := Lib.hid (Nat.lt_of_lt_of_le SG4.out hb.size)
        have XZ5 := Lib.hid (XZ4.out.below hb SZ4.out)
        have SZ5 := Lib.hid (Nat.lt_of_lt_of_le SZ4.out hb.size)
        clear k1 k6 j7
        clear hb B4 XP4 SP4 XG4 SG4 XZ4 SZ4
        have RT5 := Lib.hid hr
        clear hr
        have k1 := XP5.out.c1
        have kf1 := XP5.out.f1
        go_upto_region 7 with fail
        obtain ⟨w6, hw⟩ : ∃ wx, wx = w5.setCell ⟨w.heap.size, 1, none⟩ (.slice A' n' c') := ⟨_, rfl⟩
        rw [← hw]
        have XP6 := Lib.hid (show BxPb w.heap.size s A' n' c' lo la fu sl ro ph si hi w6 by rw [hw]; exact XP5.out.set1)
        have B6 := Lib.hid (show Below w.heap.size w w6 by rw [hw]; exact Below.setCell B5.out GP.out _)
        have SP6 := Lib.hid (show w.heap.size < w6.heap.size by rw [hw]; have := SP5.out; simpa using this)
        have XG6 := Lib.hid (show BxGt (w.heap.size + 1) g0 g1 g2 g3 g4 g5 g6 g7 true false w6 by rw [hw]; exact XG5.out.other rfl (Nat.ne_of_lt OPG.out))
        have SG6 := Lib.hid (show (w.heap.size + 1) < w6.heap.size by rw [hw]; have := SG5.out; simpa using this)
        have XZ6 := Lib.hid (show BxPb (w.heap.size + 2) 0 none 0 0 0 0 0 0 0 0 0 0 w6 by rw [hw]; exact XZ5.out.other rfl (Nat.ne_of_lt OPZ.out))
        have SZ6 := Lib.hid (show (w.heap.size + 2) < w6.heap.size by rw [hw]; have := SZ5.out; simpa using this)
        have RT6 := Lib.hid (show Rt w6 w4.heap.size w6.heap.size A' n' ss' by rw [hw]; exact RT5.out.set LTP.out)
        clear k1 kf1
        clear hw B5 XP5 SP5 XG5 SG5 XZ5 SZ5 RT5
        have k3 := XP6.out.c3
        have j0 := XG6.out.c0
        go_quiet (first | (go_at_call 29; with_reducible exact quiet_eq (CY.out _)) | fail)
        obtain ⟨w7, hw⟩ : ∃ wx, wx = w6.drewN nq := ⟨_, rfl⟩
        rw [← hw]
        have B7 := Lib.hid (show Below w.heap.size w w7 by rw [hw]; exact below_drewN' B6.out nq)
        have XP7 := Lib.hid (show BxPb w.heap.size s A' n' c' lo la fu sl ro ph si hi w7 by rw [hw]; exact XP6.out.drewN nq)
        have SP7 := Lib.hid (show w.heap.size < w7.heap.size by rw [hw]; exact SP6.out)
        have XG7 := Lib.hid (show BxGt (w.heap.size + 1) g0 g1 g2 g3 g4 g5 g6 g7 true false w7 by rw [hw]; exact XG6.out.drewN nq)
        have SG7 := Lib.hid (show (w.heap.size + 1) < w7.heap.size by rw [hw]; exact SG6.out)
        have XZ7 := Lib.hid (show BxPb (w.heap.size + 2) 0 none 0 0 0 0 0 0 0 0 0 0 w7 by rw [hw]; exact XZ6.out.drewN nq)
        have SZ7 := Lib.hid (show (w.heap.size + 2) < w7.heap.size by rw [hw]; exact SZ6.out)
        have RT7 := Lib.hid (show Rt w7 w4.heap.size w7.heap.size A' n' ss' by rw [hw]; exact RT6.out.drewN nq)
        clear k3 j0
        clear hw B6 XP6 SP6 XG6 SG6 XZ6 SZ6 RT6
        by_cases hq : q = true
        · have HQQ := Lib.hid hq
          have HIF := Lib.hid (show q = true ∨ g5 < lo from .inl hq)
          rw [hq]
          clear hq t5 HQ
          go_upto_region 9 with fail
          have k2 := XP7.out.c2
          have kf2 := XP7.out.f2
          have j5 := XG7.out.c5
          go_upto_region 10 with fail
          obtain ⟨w8, hw⟩ : ∃ wx, wx = w7.setCell ⟨w.heap.size, 2, none⟩ (.int .u64 (g5 : Int)) := ⟨_, rfl⟩
          rw [← hw]
          have XP8 := Lib.hid (show BxPb w.heap.size s A' n' c' g5 la fu sl ro ph si hi w8 by rw [hw]; exact XP7.out.set2)
          have B8 := Lib.hid (show Below w.heap.size w w8 by rw [hw]; exact Below.setCell B7.out GP.out _)
          have SP8 := Lib.hid (show w.heap.size < w8.heap.size by rw [hw]; have := SP7.out; simpa using this)
          have XG8 := Lib.hid (show BxGt (w.heap.size + 1) g0 g1 g2 g3 g4 g5 g6 g7 true false w8 by rw [hw]; exact XG7.out.other rfl (Nat.ne_of_lt OPG.out))
          have SG8 := Lib.hid (show (w.heap.size + 1) < w8.heap.size by rw [hw]; have := SG7.out; simpa using this)
          have XZ8 := Lib.hid (show BxPb (w.heap.size + 2) 0 none 0 0 0 0 0 0 0 0 0 0 w8 by rw [hw]; exact XZ7.out.other rfl (Nat.ne_of_lt OPZ.out))
          have SZ8 := Lib.hid (show (w.heap.size + 2) < w8.heap.size by rw [hw]; have := SZ7.out; simpa using this)
          have RT8 := Lib.hid (show Rt w8 w4.heap.size w8.heap.size A' n' ss' by rw [hw]; exact RT7.out.set LTP.out)
          clear k2 kf2 j5
          clear hw B7 XP7 SP7 XG7 SG7 XZ7 SZ7 RT7
          have k3 := XP8.out.c3
          have kf3 := XP8.out.f3
          have j0 := XG8.out.c0
          go_upto_region 11 with fail
          obtain ⟨w9, hw⟩ : ∃ wx, wx = w8.setCell ⟨w.heap.size, 3, none⟩ (.int .u64 (g0 : Int)) := ⟨_, rfl⟩
          rw [← hw]
          have XP9 := Lib.hid (show BxPb w.heap.size s A' n' c' g5 g0 fu sl ro ph si hi w9 by rw [hw]; exact XP8.out.set3)
          have B9 := Lib.hid (show Below w.heap.size w w9 by rw [hw]; exact Below.setCell B8.out GP.out _)
          have SP9 := Lib.hid (show w.heap.size < w9.heap.size by rw [hw]; have := SP8.out; simpa using this)
          have XG9 := Lib.hid (show BxGt (w.heap.size + 1) g0 g1 g2 g3 g4 g5 g6 g7 true false w9 by rw [hw]; exact XG8.out.other rfl (Nat.ne_of_lt OPG.out))
          have SG9 := Lib.hid (show (w.heap.size + 1) < w9.heap.size by rw [hw]; have := SG8.out; simpa using this)
          have XZ9 := Lib.hid (show BxPb (w.heap.size + 2) 0 none 0 0 0 0 0 0 0 0 0 0 w9 by rw [hw]; exact XZ8.out.other rfl (Nat.ne_of_lt OPZ.out))
          have SZ9 := Lib.hid (show (w.heap.size + 2) < w9.heap.size by rw [hw]; have := SZ8.out; simpa using this)
          have RT9 := Lib.hid (show Rt w9 w4.heap.size w9.heap.size A' n' ss' by rw [hw]; exact RT8.out.set LTP.out)
          clear k3 kf3 j0
          clear hw B8 XP8 SP8 XG8 SG8 XZ8 SZ8 RT8
          obtain ⟨k0, k1, k2, k3, k4, k5, k6, k7, k8, k9, -, -, -, -, -, -, -, -, -, -⟩ := XP9.out
          obtain ⟨j0, j1, j2, j3, j4, j5, j6, j7, j8, j9, -, -, -, -, -, -, -, -, -, -⟩ := XG9.out
          go_wp2_with fail
          refine (CM.out g5 g0 true HQQ.out (if_pos HIF.out) (if_pos HIF.out) A' c' _ RT9.out.low).mono ?_
          rintro e w10 ⟨rfl, hb⟩
          have B10 := Lib.hid (below_trans' B9.out hb)
          have XP10 := Lib.hid (XP9.out.below hb SP9.out)
          have SP10 := Lib.hid (Nat.lt_of_lt_of_le SP9.out hb.size)
          have XG10 := Lib.hid (XG9.out.below hb SG9.out)
          have SG10 := Lib.hid (Nat.lt_of_lt_of_le SG9.out hb.size)
          have XZ10 := Lib.hid (XZ9.out.below hb SZ9.out)
          have SZ10 := Lib.hid (Nat.lt_of_lt_of_le SZ9.out hb.size)
          have RT10 := Lib.hid (RT9.out.step hb)
          clear k0 k1 k2 k3 k4 k5 k6 k7 k8 k9 j0 j1 j2 j3 j4 j5 j6 j7 j8 j9
          clear hb B9 XP9 SP9 XG9 SG9 XZ9 SZ9 RT9
          obtain ⟨z0, z1, z2, z3, z4, z5, z6, z7, z8, z9, zf0, zf1, zf2, zf3, zf4, zf5, zf6, zf7, zf8, zf9⟩ := XZ10.out
          go_wp2_with fail
          show bodyPost _ _ _ _ _ (putPb (w.heap.size + 2) s' A' n' c' lo' la' fu' sl' ro' ph' si' hi' w10)
          have BZ : Below w.heap.size w (putPb (w.heap.size + 2) s' A' n' c' lo' la' fu' sl' ro' ph' si' hi' w10) := B10.out.trans (putPb_below GZ.out)
          obtain ⟨z0, z1, z2, z3, z4, z5, z6, z7, z8, z9, -, -, -, -, -, -, -, -, -, -⟩ := (show BxPb (w.heap.size + 2) s' A' n' c' lo' la' fu' sl' ro' ph' si' hi' (putPb (w.heap.size + 2) s' A' n' c' lo' la' fu' sl' ro' ph' si' hi' w10) from XZ10.out.put)
          exact bodyPost_ret (v := aggPb s' A' n' c' lo' la' fu' sl' ro' ph' si' hi') (by simp [results, Tryd.results12, z0, z1, z2, z3, z4, z5, z6, z7, z8, z9, go_sem]) rfl ⟨A', c', rfl, (RT10.out.put LTZ.out _ _ _ _ _ _ _ _ _ _ _ _ ).wide QT.out (Nat.le_refl _), BZ⟩
        · have hq : q = false := by simpa using hq
          have HQQ := Lib.hid hq
          by_cases h6 : g5 < lo
          · have HIF := Lib.hid (show q = true ∨ g5 < lo from .inr h6)
            have t6 : decide (g5 < lo) = true := decide_eq_true h6
            rw [hq]
            clear hq t5 HQ h6
            have j5 := XG7.out.c5
            have k2 := XP7.out.c2
            go_upto_region 9 with fail
            clear j5 k2
            have k2 := XP7.out.c2
            have kf2 := XP7.out.f2
            have j5 := XG7.out.c5
            go_upto_region 10 with fail
            obtain ⟨w8, hw⟩ : ∃ wx, wx = w7.setCell ⟨w.heap.size, 2, none⟩ (.int .u64 (g5 : Int)) := ⟨_, rfl⟩
            rw [← hw]
            have XP8 := Lib.hid (show BxPb w.heap.size s A' n' c' g5 la fu sl ro ph si hi w8 by rw [hw]; exact XP7.out.set2)
            have B8 := Lib.hid (show Below w.heap.size w w8 by rw [hw]; exact Below.setCell B7.out GP.out _)
            have SP8 := Lib.hid (show w.heap.size < w8.heap.size by rw [hw]; have := SP7.out; simpa using this)
            have XG8 := Lib.hid (show BxGt (w.heap.size + 1) g0 g1 g2 g3 g4 g5 g6 g7 true false w8 by rw [hw]; exact XG7.out.other rfl (Nat.ne_of_lt OPG.out))
            have SG8 := Lib.hid (show (w.heap.size + 1) < w8.heap.size by rw [hw]; have := SG7.out; simpa using this)
            have XZ8 := Lib.hid (show BxPb (w.heap.size + 2) 0 none 0 0 0 0 0 0 0 0 0 0 w8 by rw [hw]; exact XZ7.out.other rfl (Nat.ne_of_lt OPZ.out))
            have SZ8 := Lib.hid (show (w.heap.size + 2) < w8.heap.size by rw [hw]; have := SZ7.out; simpa using this)
            have RT8 := Lib.hid (show Rt w8 w4.heap.size w8.heap.size A' n' ss' by rw [hw]; exact RT7.out.set LTP.out)
            clear k2 kf2 j5
            clear hw B7 XP7 SP7 XG7 SG7 XZ7 SZ7 RT7
            have k3 := XP8.out.c3
            have kf3 := XP8.out.f3
            have j0 := XG8.out.c0
            go_upto_region 11 with fail
            obtain ⟨w9, hw⟩ : ∃ wx, wx = w8.setCell ⟨w.heap.size, 3, none⟩ (.int .u64 (g0 : Int)) := ⟨_, rfl⟩
            rw [← hw]
            have XP9 := Lib.hid (show BxPb w.heap.size s A' n' c' g5 g0 fu sl ro ph si hi w9 by rw [hw]; exact XP8.out.set3)
            have B9 := Lib.hid (show Below w.heap.size w w9 by rw [hw]; exact Below.setCell B8.out GP.out _)
            have SP9 := Lib.hid (show w.heap.size < w9.heap.size by rw [hw]; have := SP8.out; simpa using this)
            have XG9 := Lib.hid (show BxGt (w.heap.size + 1) g0 g1 g2 g3 g4 g5 g6 g7 true false w9 by rw [hw]; exact XG8.out.other rfl (Nat.ne_of_lt OPG.out))
            have SG9 := Lib.hid (show (w.heap.size + 1) < w9.heap.size by rw [hw]; have := SG8.out; simpa using this)
            have XZ9 := Lib.hid (show BxPb (w.heap.size + 2) 0 none 0 0 0 0 0 0 0 0 0 0 w9 by rw [hw]; exact XZ8.out.other rfl (Nat.ne_of_lt OPZ.out))
            have SZ9 := Lib.hid (show (w.heap.size + 2) < w9.heap.size by rw [hw]; have := SZ8.out; simpa using this)
            have RT9 := Lib.hid (show Rt w9 w4.heap.size w9.heap.size A' n' ss' by rw [hw]; exact RT8.out.set LTP.out)
            clear k3 kf3 j0
            clear hw B8 XP8 SP8 XG8 SG8 XZ8 SZ8 RT8
            obtain ⟨k0, k1, k2, k3, k4, k5, k6, k7, k8, k9, -, -, -, -, -, -, -, -, -, -⟩ := XP9.out
            obtain ⟨j0, j1, j2, j3, j4, j5, j6, j7, j8, j9, -, -, -, -, -, -, -, -, -, -⟩ := XG9.out
            go_wp2_with fail
            refine (CM.out g5 g0 false HQQ.out (if_pos HIF.out) (if_pos HIF.out) A' c' _ RT9.out.low).mono ?_
            rintro e w10 ⟨rfl, hb⟩
            have B10 := Lib.hid (below_trans' B9.out hb)
            have XP10 := Lib.hid (XP9.out.below hb SP9.out)
            have SP10 := Lib.hid (Nat.lt_of_lt_of_le SP9.out hb.size)
            have XG10 := Lib.hid (XG9.out.below hb SG9.out)
            have SG10 := Lib.hid (Nat.lt_of_lt_of_le SG9.out hb.size)
            have XZ10 := Lib.hid (XZ9.out.below hb SZ9.out)
            have SZ10 := Lib.hid (Nat.lt_of_lt_of_le SZ9.out hb.size)
            have RT10 := Lib.hid (RT9.out.step hb)
            clear k0 k1 k2 k3 k4 k5 k6 k7 k8 k9 j0 j1 j2 j3 j4 j5 j6 j7 j8 j9
            clear hb B9 XP9 SP9 XG9 SG9 XZ9 SZ9 RT9
            obtain ⟨z0, z1, z2, z3, z4, z5, z6, z7, z8, z9, zf0, zf1, zf2, zf3, zf4, zf5, zf6, zf7, zf8, zf9⟩ := XZ10.out
            go_wp2_with fail
            show bodyPost _ _ _ _ _ (putPb (w.heap.size + 2) s' A' n' c' lo' la' fu' sl' ro' ph' si' hi' w10)
            have BZ : Below w.heap.size w (putPb (w.heap.size + 2) s' A' n' c' lo' la' fu' sl' ro' ph' si' hi' w10) := B10.out.trans (putPb_below GZ.out)
            obtain ⟨z0, z1, z2, z3, z4, z5, z6, z7, z8, z9, -, -, -, -, -, -, -, -, -, -⟩ := (show BxPb (w.heap.size + 2) s' A' n' c' lo' la' fu' sl' ro' ph' si' hi' (putPb (w.heap.size + 2) s' A' n' c' lo' la' fu' sl' ro' ph' si' hi' w10) from XZ10.out.put)
            exact bodyPost_ret (v := aggPb s' A' n' c' lo' la' fu' sl' ro' ph' si' hi') (by simp [results, Tryd.results12, z0, z1, z2, z3, z4, z5, z6, z7, z8, z9, go_sem]) rfl ⟨A', c', rfl, (RT10.out.put LTZ.out _ _ _ _ _ _ _ _ _ _ _ _ ).wide QT.out (Nat.le_refl _), BZ⟩
          · have HIF := Lib.hid (show ¬ (q = true ∨ g5 < lo) by rw [hq]; simp; omega)
            have t6 : decide (g5 < lo) = false := decide_eq_false h6
            rw [hq]
            clear hq t5 HQ h6
            have j5 := XG7.out.c5
            have k2 := XP7.out.c2
            go_upto_region 11 with fail
            clear j5 k2
            obtain ⟨k0, k1, k2, k3, k4, k5, k6, k7, k8, k9, -, -, -, -, -, -, -, -, -, -⟩ := XP7.out
            obtain ⟨j0, j1, j2, j3, j4, j5, j6, j7, j8, j9, -, -, -, -, -, -, -, -, -, -⟩ := XG7.out
            go_wp2_with fail
            refine (CM.out lo la false HQQ.out (if_neg HIF.out) (if_neg HIF.out) A' c' _ RT7.out.low).mono ?_
            rintro e w8 ⟨rfl, hb⟩
            have B8 := Lib.hid (below_trans' B7.out hb)
            have XP8 := Lib.hid (XP7.out.below hb SP7.out)
            have SP8 := Lib.hid (Nat.lt_of_lt_of_le SP7.out hb.size)
            have XG8 := Lib.hid (XG7.out.below hb SG7.out)
            have SG8 := Lib.hid (Nat.lt_of_lt_of_le SG7.out hb.size)
            have XZ8 := Lib.hid (XZ7.out.below hb SZ7.out)
            have SZ8 := Lib.hid (Nat.lt_of_lt_of_le SZ7.out hb.size)
            have RT8 := Lib.hid (RT7.out.step hb)
            clear k0 k1 k2 k3 k4 k5 k6 k7 k8 k9 j0 j1 j2 j3 j4 j5 j6 j7 j8 j9
            clear hb B7 XP7 SP7 XG7 SG7 XZ7 SZ7 RT7
            obtain ⟨z0, z1, z2, z3, z4, z5, z6, z7, z8, z9, zf0, zf1, zf2, zf3, zf4, zf5, zf6, zf7, zf8, zf9⟩ := XZ8.out
            go_wp2_with fail
            show bodyPost _ _ _ _ _ (putPb (w.heap.size + 2) s' A' n' c' lo' la' fu' sl' ro' ph' si' hi' w8)
            have BZ : Below w.heap.size w (putPb (w.heap.size + 2) s' A' n' c' lo' la' fu' sl' ro' ph' si' hi' w8) := B8.out.trans (putPb_below GZ.out)
            obtain ⟨z0, z1, z2, z3, z4, z5, z6, z7, z8, z9, -, -, -, -, -, -, -, -, -, -⟩ := (show BxPb (w.heap.size + 2) s' A' n' c' lo' la' fu' sl' ro' ph' si' hi' (putPb (w.heap.size + 2) s' A' n' c' lo' la' fu' sl' ro' ph' si' hi' w8) from XZ8.out.put)
            exact bodyPost_ret (v := aggPb s' A' n' c' lo' la' fu' sl' ro' ph' si' hi') (by simp [results, Tryd.results12, z0, z1, z2, z3, z4, z5, z6, z7, z8, z9, go_sem]) rfl ⟨A', c', rfl, (RT8.out.put LTZ.out _ _ _ _ _ _ _ _ _ _ _ _ ).wide QT.out (Nat.le_refl _), BZ⟩
      · obtain ⟨w1, hw1⟩ : ∃ wx, wx = w.alloc (.cells #[.int .i64 s, .slice A n c, .int .u64 (lo : Int), .int .u64 (la : Int), .int .u64 (fu : Int), .int .u64 (sl : Int), .int .u64 (ro : Int), .int .u64 (ph : Int), .int .u64 (si : Int), .int .u64 (hi : Int)] 26) := ⟨_, rfl⟩
        have z1 : w1.heap.size = w.heap.size + 1 := by rw [hw1]; simp
        obtain ⟨w2, hw2⟩ : ∃ wx, wx = w1.alloc (.cells #[.int .u64 (g0 : Int), .int .u64 (g1 : Int), .int .u64 (g2 : Int), .int .u64 (g3 : Int), .int .u64 (g4 : Int), .int .u64 (g5 : Int), .int .u64 (g6 : Int), .int .u64 (g7 : Int), .bool true, .bool false] 28) := ⟨_, rfl⟩
        have z2 : w2.heap.size = w.heap.size + 2 := by rw [hw2]; simp; omega
        obtain ⟨w3, hw3⟩ : ∃ wx, wx = w2.alloc (.cells #[.int .i64 0, .slice none 0 0, .int .u64 0, .int .u64 0, .int .u64 0, .int .u64 0, .int .u64 0, .int .u64 0, .int .u64 0, .int .u64 0] 26) := ⟨_, rfl⟩
        have z3 : w3.heap.size = w.heap.size + 3 := by rw [hw3]; simp; omega
        have t3 : Below w3.heap.size w3 w3 := Below.refl _ _
        have t2 : Below w2.heap.size w2 w3 := (show Below w2.heap.size w2 w3 by rw [hw3]; exact (Below.refl _ _).alloc (Nat.le_refl _) _).trans (t3.mono (by omega))
        have t1 : Below w1.heap.size w1 w3 := (show Below w1.heap.size w1 w2 by rw [hw2]; exact (Below.refl _ _).alloc (Nat.le_refl _) _).trans (t2.mono (by omega))
        have t0 : Below w.heap.size w w3 := (show Below w.heap.size w w1 by rw [hw1]; exact (Below.refl _ _).alloc (Nat.le_refl _) _).trans (t1.mono (by omega))
        have BN := Lib.hid t0
        have ZN := Lib.hid z3
        have XP := Lib.hid (show BxPb w.heap.size s A n c lo la fu sl ro ph si hi w3 from (show BxPb w.heap.size s A n c lo la fu sl ro ph si hi w1 by rw [hw1]; exact BxPb.new _ s A n c lo la fu sl ro ph si hi).below t1 (by omega))
        have XG := Lib.hid (show BxGt (w.heap.size + 1) g0 g1 g2 g3 g4 g5 g6 g7 true false w3 from (show BxGt (w.heap.size + 1) g0 g1 g2 g3 g4 g5 g6 g7 true false w2 by rw [hw2, ← z1]; exact BxGt.new _ g0 g1 g2 g3 g4 g5 g6 g7 true false).below t2 (by omega))
        have XZ := Lib.hid (show BxPb (w.heap.size + 2) 0 none 0 0 0 0 0 0 0 0 0 0 w3 from (show BxPb (w.heap.size + 2) 0 none 0 0 0 0 0 0 0 0 0 0 w3 by rw [hw3, ← z2]; exact BxPb.new _ 0 none 0 0 0 0 0 0 0 0 0 0).below t3 (by omega))
        clear t0 t1 t2 t3 z1 z2 z3
        have B3 := BN
        have XP3 := XP
        have SP3 := Lib.hid (show w.heap.size < w3.heap.size by have := ZN.out; omega)
        have GP := Lib.hid (show w.heap.size ≤ w.heap.size by omega)
        have XG3 := XG
        have SG3 := Lib.hid (show (w.heap.size + 1) < w3.heap.size by have := ZN.out; omega)
        have GG := Lib.hid (show w.heap.size ≤ (w.heap.size + 1) by omega)
        have OPG := Lib.hid (show w.heap.size < (w.heap.size + 1) by omega)
        have XZ3 := XZ
        have SZ3 := Lib.hid (show (w.heap.size + 2) < w3.heap.size by have := ZN.out; omega)
        have GZ := Lib.hid (show w.heap.size ≤ (w.heap.size + 2) by omega)
        have OPZ := Lib.hid (show w.heap.size < (w.heap.size + 2) by omega)
        have OGZ := Lib.hid (show (w.heap.size + 1) < (w.heap.size + 2) by omega)
        clear ZN BN XP XG XZ
        have hro : ro < 18446744073709551616 := hok.rounds
        have hhi : hi < 18446744073709551616 := hok.high
        have hla : la < 18446744073709551616 := hok.lowAt
        have hr : Wig.pbround ⟨s, ss, lo, la, fu, sl, ro, ph, si, hi⟩ ⟨g0, g1, g2, g3, g4, g5, g6, g7, true, false⟩ = ⟨s, ss, lo, la, fu, sl, ro, ph, si, hi⟩ := rfl
        have ok1 : Wig.Pb.Ok ⟨s, ss, lo, la, fu, sl, ro, ph, si, hi⟩ := by rw [← hr]; exact Wig.pbround_ok hok
        have hs : (Wig.pbpush ⟨s, ss, lo, la, fu, sl, ro, ph, si, hi⟩ ⟨g0, g1, g2, g3, g4, g5, g6, g7, true, false⟩).rates = ss' := by rw [← hr, ← rpback_rates, he]
        obtain ⟨y, hy⟩ : ∃ y, Wig.fadd la 10000 = y := ⟨_, rfl⟩
        obtain ⟨q, hq⟩ : ∃ q, decide (y ≤ g0) = q := ⟨_, rfl⟩
        have hst : Wig.pbstale ⟨s, ss, lo, la, fu, sl, ro, ph, si, hi⟩ ⟨g0, g1, g2, g3, g4, g5, g6, g7, true, false⟩ = q := by rw [← hq, ← hy]; rfl
        have CY := Lib.hid (fun w => (show Calls Tryd.prog 29 #[.int .u64 (la : Int), .int .u64 10000] w fun e w' => e = .returned (.int .u64 (y : Int)) ∧ w = w' by rw [← hy]; exact radd_any la 10000 w hla (by decide)))
        have ok2 : Wig.Pb.Ok ⟨s, ss', lo, la, fu, sl, ro, ph, si, hi⟩ := by
          have h0 := Wig.pbpush_ok (g := ⟨g0, g1, g2, g3, g4, g5, g6, g7, true, false⟩) ok1 hg
          have e : Wig.pbpush ⟨s, ss, lo, la, fu, sl, ro, ph, si, hi⟩ ⟨g0, g1, g2, g3, g4, g5, g6, g7, true, false⟩ = ⟨s, ss', lo, la, fu, sl, ro, ph, si, hi⟩ := by
            rw [← hs]
            unfold Wig.pbpush
            split <;> rfl
          rw [e] at h0
          exact h0
        obtain ⟨b, hb⟩ : ∃ b, Wig.best ss = b := ⟨_, rfl⟩
        have CB := Lib.hid (fun (w0 : World) (hb0 : Below w.heap.size w w0) => (show Calls Tryd.prog 31 #[aggPb s A n c lo la fu sl ro ph si hi] w0 fun e w' => e = .returned (.int .u64 (b : Int)) ∧ Below w0.heap.size w0 w' from rbestp_any s A n c lo la fu sl ro ph si hi ss b w0 ok1 (hR.step hb0) hb))
        have t1 : decide (b ≤ g7) = false := decide_eq_false (by rw [← hb]; exact h1)
        have hs2 : ss = ss' := by
          rw [← hs]
          unfold Wig.pbpush
          rw [if_neg (by simp only; rw [hb]; simp; omega)]
        subst hs2
        obtain rfl : n = n' := hR.len.symm.trans hn'
        have HRR := Lib.hid (fun (w0 : World) (hb0 : Below w.heap.size w w0) => hR.step hb0)
        clear h1
        have CM := Lib.hid (fun (l3 a3 : Nat) (q' : Bool) (hq' : q = q') (hl : (if q = true ∨ g5 < lo then g5 else lo) = l3) (ha : (if q = true ∨ g5 < lo then g0 else la) = a3) (A' : Option Addr) (c' : Nat) (w0 : World) (hT : Rt w0 0 w0.heap.size A' n ss) =>
          (show Calls Tryd.prog 33 #[aggPb s A' n c' l3 a3 fu sl ro ph si hi, aggGt g0 g1 g2 g3 g4 g5 g6 g7 true false, .bool q'] w0 fun e w' => e = .returned (aggPb s' A' n c' lo' la' fu' sl' ro' ph' si' hi') ∧ Below w0.heap.size w0 w' by
            subst hq'
            have ok3 : Wig.Pb.Ok ⟨s, ss, l3, a3, fu, sl, ro, ph, si, hi⟩ := ⟨ok2.s0, ok2.s1, ok2.rates, (by show l3 < _; rw [← hl]; split; exact hg.2.2.2.2.2.1; exact ok2.low), (by show a3 < _; rw [← ha]; split; exact hg.1; exact ok2.lowAt), ok2.full, ok2.still, ok2.rounds, ok2.phase, ok2.since, ok2.high⟩
            exact rmoved_any s A' n c' l3 a3 fu sl ro ph si hi ss g0 g1 g2 g3 g4 g5 g6 g7 true false q s' ss lo' la' fu' sl' ro' ph' si' hi' w0 ok3 hT hg (by rw [← he]; exact (rpback_eq hr hs hst hl ha).symm)))
        have HQ := Lib.hid hq
        clear hok hR hg hn2 he hn' hro hhi hla hr ok1 hs hy hst ok2 hb
        have t5 := hq
        clear hq
        go_enter Tryd.func12, Tryd.ntmps12
        go_upto_region 1 with fail
        rw [← hw1, ← hw2, ← hw3]
        clear hw1 hw2 hw3
        have j9 := XG3.out.c9
        go_upto_region 4 with fail
        clear j9
        refine wp_region_held_drew (S := fun wx => BxPb w.heap.size s A n c lo la fu sl ro ph si hi wx ∧ BxGt (w.heap.size + 1) g0 g1 g2 g3 g4 g5 g6 g7 true false wx ∧ BxPb (w.heap.size + 2) 0 none 0 0 0 0 0 0 0 0 0 0 wx ∧ Below w3.heap.size w3 wx) (by kernel_rfl) ?_ (fun hHeld => ?_)
        · exact ⟨XP3.out.drew, XG3.out.drew, XZ3.out.drew, (Below.refl _ _).drew⟩
        refine held_take (v := ?vv166) 0 rfl (by kernel_rfl) (by kernel_rfl) (by kernel_rfl) (fun _ _ _ h => h) (by rfl) ?yy166 (by assumption) ?nn166
        case yy166 =>
          intro w hSw
          (try dsimp only at hSw)
          go_simp
          try with_reducible rfl
        try simp only [Act.put, List.setIfInBounds_toArray, List.set_cons_zero, List.set_cons_succ]
        refine held_take (v := .bool true) 1 rfl (by kernel_rfl) (by kernel_rfl) (by kernel_rfl) (fun _ _ _ h => h) (by rfl) (fun wx hSw => by have c := hSw.2.1.c8; clear hSw; go_simp) (by assumption) ?_
        try simp only [Act.put, List.setIfInBounds_toArray, List.set_cons_zero, List.set_cons_succ]
        refine held_take (v := ?vv168) 2 rfl (by kernel_rfl) (by kernel_rfl) (by kernel_rfl) (fun _ _ _ h => h) (by rfl) ?yy168 (by assumption) ?nn168
        case yy168 =>
          intro w hSw
          (try dsimp only at hSw)
          go_simp
          try with_reducible rfl
        try simp only [Act.put, List.setIfInBounds_toArray, List.set_cons_zero, List.set_cons_succ]
        refine held_take (v := ?vv169) 3 rfl (by kernel_rfl) (by kernel_rfl) (by kernel_rfl) (fun _ _ _ h => h) (by rfl) ?yy169 (by assumption) ?nn169
        case yy169 =>
          intro w hSw
          (try dsimp only at hSw)
          go_simp
          try with_reducible rfl
        try simp only [Act.put, List.setIfInBounds_toArray, List.set_cons_zero, List.set_cons_succ]
        refine held_take (v := ?vv170) 4 rfl (by kernel_rfl) (by kernel_rfl) (by kernel_rfl) (fun _ _ _ h => h) (by rfl) ?yy170 (by assumption) ?nn170
        case yy170 =>
          intro w hSw
          (try dsimp only at hSw)
          go_simp
          try with_reducible rfl
        try simp only [Act.put, List.setIfInBounds_toArray, List.set_cons_zero, List.set_cons_succ]
        refine held_take (v := .int .u64 (g7 : Int)) 5 rfl (by kernel_rfl) (by kernel_rfl) (by kernel_rfl) (fun _ _ _ h => h) (by rfl) (fun wx hSw => by have c := hSw.2.1.c7; clear hSw; go_simp) (by assumption) ?_
        try simp only [Act.put, List.setIfInBounds_toArray, List.set_cons_zero, List.set_cons_succ]
        refine held_take (v := .agg #[.int .i64 s, .slice A n c, .int .u64 (lo : Int), .int .u64 (la : Int), .int .u64 (fu : Int), .int .u64 (sl : Int), .int .u64 (ro : Int), .int .u64 (ph : Int), .int .u64 (si : Int), .int .u64 (hi : Int)]) 6 rfl (by kernel_rfl) (by kernel_rfl) (by kernel_rfl) (fun _ _ _ h => h) (by rfl) (fun wx hSw => by obtain ⟨c0, c1, c2, c3, c4, c5, c6, c7, c8, c9, -, -, -, -, -, -, -, -, -, -⟩ := hSw.1; clear hSw; go_simp) (by assumption) ?_
        try simp only [Act.put, List.setIfInBounds_toArray, List.set_cons_zero, List.set_cons_succ]
        refine held_do 7 rfl (by kernel_rfl) (by rfl) (fun K hK => ?_)
        go_wp2_with (go_at_call 31; refine (CB.out _ (below_trans' B3.out hHeld.2.2.2)).mono ?_; rintro e w4 ⟨rfl, hb4⟩; have K4 := Lib.hid (Below.trans hHeld.2.2.2 (hb4.mono hHeld.2.2.2.size)); clear hb4)
        refine hK.out _ _ ?_ (fun hHeld => ?_)
        · exact ⟨XP3.out.below K4.out SP3.out, XG3.out.below K4.out SG3.out, XZ3.out.below K4.out SZ3.out, K4.out⟩
        clear hK K
        try simp only [Act.put, List.setIfInBounds_toArray, List.set_cons_zero, List.set_cons_succ]
        refine held_take (v := ?vv174) 8 rfl (by kernel_rfl) (by kernel_rfl) (by kernel_rfl) (fun _ _ _ h => h) (by rfl) ?yy174 (by assumption) ?nn174
        case yy174 =>
          intro w hSw
          (try dsimp only at hSw)
          go_simp
          try with_reducible rfl
        try simp only [Act.put, List.setIfInBounds_toArray, List.set_cons_zero, List.set_cons_succ]
        refine held_take (v := ?vv175) 9 rfl (by kernel_rfl) (by kernel_rfl) (by kernel_rfl) (fun _ _ _ h => h) (by rfl) ?yy175 (by assumption) ?nn175
        case yy175 =>
          intro w hSw
          (try dsimp only at hSw)
          go_simp
          try with_reducible rfl
        try simp only [Act.put, List.setIfInBounds_toArray, List.set_cons_zero, List.set_cons_succ]
        refine wpAnyH_done (by kernel_rfl) ?_ _
        clear hHeld
        have B4 := Lib.hid (below_trans' B3.out K4.out)
        have XP4 := Lib.hid (XP3.out.below K4.out SP3.out)
        have SP4 := Lib.hid (Nat.lt_of_lt_of_le SP3.out K4.out.size)
        have XG4 := Lib.hid (XG3.out.below K4.out SG3.out)
        have SG4 := Lib.hid (Nat.lt_of_lt_of_le SG3.out K4.out.size)
        have XZ4 := Lib.hid (XZ3.out.below K4.out SZ3.out)
        have SZ4 := Lib.hid (Nat.lt_of_lt_of_le SZ3.out K4.out.size)
        clear B3 XP3 SP3 XG3 SG3 XZ3 SZ3
        have k1 := XP4.out.c1
        have kf1 := XP4.out.f1
        have k1z : ∀ o, (w4.alloc o).cell? ⟨w.heap.size, 1, none⟩ = some (.slice A n c) := fun o => by rw [World.cell?_alloc_past _ _ _ SP4.out]; exact XP4.out.c1
        go_wp2_with (at_builtin; refine wpList_append_smps rfl _ _ rfl w4.heap.size _ [] ss rfl (World.ownsRow_made w4 #[] 0 (Nat.le_refl _) (Nat.zero_le _) (by simp)) w4.heap.size A c n (HRR.out _ B4.out).len rfl ?qc1 ?qc2 ?qc3 ?_)
        case qc1 => exact (HRR.out _ B4.out).rd.below ((Below.refl w4.heap.size w4).alloc (Nat.le_refl _) _)
        case qc2 => have := (HRR.out _ B4.out).few; simp; omega
        case qc3 => simp
        intro v' w5 hown hgrow
        obtain ⟨A', c', rfl, hrt⟩ := hown.rt (n := n) (by simpa using (HRR.out _ B4.out).len) (HRR.out _ B4.out).few (by simpa using (HRR.out _ B4.out).fits)
        have hr : Rt w5 w4.heap.size w5.heap.size A' n ss := by simpa using hrt
        have hb := ((Below.refl w4.heap.size w4).alloc (Nat.le_refl _) _).grown hgrow (by simp) (by intro k hk; simp [Value.ownBlock] at hk; omega)
        clear hown hgrow hrt
        have LTP := Lib.hid (show w.heap.size < w4.heap.size from SP4.out)
        have LTG := Lib.hid (show (w.heap.size + 1) < w4.heap.size from SG4.out)
        have LTZ := Lib.hid (show (w.heap.size + 2) < w4.heap.size from SZ4.out)
        have QT := Lib.hid (show w.heap.size ≤ w4.heap.size from B4.out.size)
        have B5 := Lib.hid (below_trans' B4.out hb)
        have XP5 := Lib.hid (XP4.out.below hb SP4.out)
        have SP5 := Lib.hid (Nat.lt_of_lt_of_le SP4.out hb.size)
        have XG5 := Lib.hid (XG4.out.below hb SG4.out)
        have SG5 := Lib.hid (Nat.lt_of_lt_of_le SG4.out hb.size)
        have XZ5 := Lib.hid (XZ4.out.below hb SZ4.out)
        have SZ5 := Lib.hid (Nat.lt_of_lt_of_le SZ4.out hb.size)
        clear k1 kf1 k1z
        clear hb B4 XP4 SP4 XG4 SG4 XZ4 SZ4
        have RT5 := Lib.hid hr
        clear hr
        have k1 := XP5.out.c1
        have kf1 := XP5.out.f1
        go_upto_region 7 with fail
        obtain ⟨w6, hw⟩ : ∃ wx, wx = w5.setCell ⟨w.heap.size, 1, none⟩ (.slice A' n c') := ⟨_, rfl⟩
        rw [← hw]
        have XP6 := Lib.hid (show BxPb w.heap.size s A' n c' lo la fu sl ro ph si hi w6 by rw [hw]; exact XP5.out.set1)
        have B6 := Lib.hid (show Below w.heap.size w w6 by rw [hw]; exact Below.setCell B5.out GP.out _)
        have SP6 := Lib.hid (show w.heap.size < w6.heap.size by rw [hw]; have := SP5.out; simpa using this)
        have XG6 := Lib.hid (show BxGt (w.heap.size + 1) g0 g1 g2 g3 g4 g5 g6 g7 true false w6 by rw [hw]; exact XG5.out.other rfl (Nat.ne_of_lt OPG.out))
        have SG6 := Lib.hid (show (w.heap.size + 1) < w6.heap.size by rw [hw]; have := SG5.out; simpa using this)
        have XZ6 := Lib.hid (show BxPb (w.heap.size + 2) 0 none 0 0 0 0 0 0 0 0 0 0 w6 by rw [hw]; exact XZ5.out.other rfl (Nat.ne_of_lt OPZ.out))
        have SZ6 := Lib.hid (show (w.heap.size + 2) < w6.heap.size by rw [hw]; have := SZ5.out; simpa using this)
        have RT6 := Lib.hid (show Rt w6 w4.heap.size w6.heap.size A' n ss by rw [hw]; exact RT5.out.set LTP.out)
        clear k1 kf1
        clear hw B5 XP5 SP5 XG5 SG5 XZ5 SZ5 RT5
        have k3 := XP6.out.c3
        have j0 := XG6.out.c0
        go_quiet (first | (go_at_call 29; with_reducible exact quiet_eq (CY.out _)) | fail)
        obtain ⟨w7, hw⟩ : ∃ wx, wx = w6.drewN nq := ⟨_, rfl⟩
        rw [← hw]
        have B7 := Lib.hid (show Below w.heap.size w w7 by rw [hw]; exact below_drewN' B6.out nq)
        have XP7 := Lib.hid (show BxPb w.heap.size s A' n c' lo la fu sl ro ph si hi w7 by rw [hw]; exact XP6.out.drewN nq)
        have SP7 := Lib.hid (show w.heap.size < w7.heap.size by rw [hw]; exact SP6.out)
        have XG7 := Lib.hid (show BxGt (w.heap.size + 1) g0 g1 g2 g3 g4 g5 g6 g7 true false w7 by rw [hw]; exact XG6.out.drewN nq)
        have SG7 := Lib.hid (show (w.heap.size + 1) < w7.heap.size by rw [hw]; exact SG6.out)
        have XZ7 := Lib.hid (show BxPb (w.heap.size + 2) 0 none 0 0 0 0 0 0 0 0 0 0 w7 by rw [hw]; exact XZ6.out.drewN nq)
        have SZ7 := Lib.hid (show (w.heap.size + 2) < w7.heap.size by rw [hw]; exact SZ6.out)
        have RT7 := Lib.hid (show Rt w7 w4.heap.size w7.heap.size A' n ss by rw [hw]; exact RT6.out.drewN nq)
        clear k3 j0
        clear hw B6 XP6 SP6 XG6 SG6 XZ6 SZ6 RT6
        by_cases hq : q = true
        · have HQQ := Lib.hid hq
          have HIF := Lib.hid (show q = true ∨ g5 < lo from .inl hq)
          rw [hq]
          clear hq t5 HQ
          go_upto_region 9 with fail
          have k2 := XP7.out.c2
          have kf2 := XP7.out.f2
          have j5 := XG7.out.c5
          go_upto_region 10 with fail
          obtain ⟨w8, hw⟩ : ∃ wx, wx = w7.setCell ⟨w.heap.size, 2, none⟩ (.int .u64 (g5 : Int)) := ⟨_, rfl⟩
          rw [← hw]
          have XP8 := Lib.hid (show BxPb w.heap.size s A' n c' g5 la fu sl ro ph si hi w8 by rw [hw]; exact XP7.out.set2)
          have B8 := Lib.hid (show Below w.heap.size w w8 by rw [hw]; exact Below.setCell B7.out GP.out _)
          have SP8 := Lib.hid (show w.heap.size < w8.heap.size by rw [hw]; have := SP7.out; simpa using this)
          have XG8 := Lib.hid (show BxGt (w.heap.size + 1) g0 g1 g2 g3 g4 g5 g6 g7 true false w8 by rw [hw]; exact XG7.out.other rfl (Nat.ne_of_lt OPG.out))
          have SG8 := Lib.hid (show (w.heap.size + 1) < w8.heap.size by rw [hw]; have := SG7.out; simpa using this)
          have XZ8 := Lib.hid (show BxPb (w.heap.size + 2) 0 none 0 0 0 0 0 0 0 0 0 0 w8 by rw [hw]; exact XZ7.out.other rfl (Nat.ne_of_lt OPZ.out))
          have SZ8 := Lib.hid (show (w.heap.size + 2) < w8.heap.size by rw [hw]; have := SZ7.out; simpa using this)
          have RT8 := Lib.hid (show Rt w8 w4.heap.size w8.heap.size A' n ss by rw [hw]; exact RT7.out.set LTP.out)
          clear k2 kf2 j5
          clear hw B7 XP7 SP7 XG7 SG7 XZ7 SZ7 RT7
          have k3 := XP8.out.c3
          have kf3 := XP8.out.f3
          have j0 := XG8.out.c0
          go_upto_region 11 with fail
          obtain ⟨w9, hw⟩ : ∃ wx, wx = w8.setCell ⟨w.heap.size, 3, none⟩ (.int .u64 (g0 : Int)) := ⟨_, rfl⟩
          rw [← hw]
          have XP9 := Lib.hid (show BxPb w.heap.size s A' n c' g5 g0 fu sl ro ph si hi w9 by rw [hw]; exact XP8.out.set3)
          have B9 := Lib.hid (show Below w.heap.size w w9 by rw [hw]; exact Below.setCell B8.out GP.out _)
          have SP9 := Lib.hid (show w.heap.size < w9.heap.size by rw [hw]; have := SP8.out; simpa using this)
          have XG9 := Lib.hid (show BxGt (w.heap.size + 1) g0 g1 g2 g3 g4 g5 g6 g7 true false w9 by rw [hw]; exact XG8.out.other rfl (Nat.ne_of_lt OPG.out))
          have SG9 := Lib.hid (show (w.heap.size + 1) < w9.heap.size by rw [hw]; have := SG8.out; simpa using this)
          have XZ9 := Lib.hid (show BxPb (w.heap.size + 2) 0 none 0 0 0 0 0 0 0 0 0 0 w9 by rw [hw]; exact XZ8.out.other rfl (Nat.ne_of_lt OPZ.out))
          have SZ9 := Lib.hid (show (w.heap.size + 2) < w9.heap.size by rw [hw]; have := SZ8.out; simpa using this)
          have RT9 := Lib.hid (show Rt w9 w4.heap.size w9.heap.size A' n ss by rw [hw]; exact RT8.out.set LTP.out)
          clear k3 kf3 j0
          clear hw B8 XP8 SP8 XG8 SG8 XZ8 SZ8 RT8
          obtain ⟨k0, k1, k2, k3, k4, k5, k6, k7, k8, k9, -, -, -, -, -, -, -, -, -, -⟩ := XP9.out
          obtain ⟨j0, j1, j2, j3, j4, j5, j6, j7, j8, j9, -, -, -, -, -, -, -, -, -, -⟩ := XG9.out
          go_wp2_with fail
          refine (CM.out g5 g0 true HQQ.out (if_pos HIF.out) (if_pos HIF.out) A' c' _ RT9.out.low).mono ?_
          rintro e w10 ⟨rfl, hb⟩
          have B10 := Lib.hid (below_trans' B9.out hb)
          have XP10 := Lib.hid (XP9.out.below hb SP9.out)
          have SP10 := Lib.hid (Nat.lt_of_lt_of_le SP9.out hb.size)
          have XG10 := Lib.hid (XG9.out.below hb SG9.out)
          have SG10 := Lib.hid (Nat.lt_of_lt_of_le SG9.out hb.size)
          have XZ10 := Lib.hid (XZ9.out.below hb SZ9.out)
          have SZ10 := Lib.hid (Nat.lt_of_lt_of_le SZ9.out hb.size)
          have RT10 := Lib.hid (RT9.out.step hb)
          clear k0 k1 k2 k3 k4 k5 k6 k7 k8 k9 j0 j1 j2 j3 j4 j5 j6 j7 j8 j9
          clear hb B9 XP9 SP9 XG9 SG9 XZ9 SZ9 RT9
          obtain ⟨z0, z1, z2, z3, z4, z5, z6, z7, z8, z9, zf0, zf1, zf2, zf3, zf4, zf5, zf6, zf7, zf8, zf9⟩ := XZ10.out
          go_wp2_with fail
          show bodyPost _ _ _ _ _ (putPb (w.heap.size + 2) s' A' n c' lo' la' fu' sl' ro' ph' si' hi' w10)
          have BZ : Below w.heap.size w (putPb (w.heap.size + 2) s' A' n c' lo' la' fu' sl' ro' ph' si' hi' w10) := B10.out.trans (putPb_below GZ.out)
          obtain ⟨z0, z1, z2, z3, z4, z5, z6, z7, z8, z9, -, -, -, -, -, -, -, -, -, -⟩ := (show BxPb (w.heap.size + 2) s' A' n c' lo' la' fu' sl' ro' ph' si' hi' (putPb (w.heap.size + 2) s' A' n c' lo' la' fu' sl' ro' ph' si' hi' w10) from XZ10.out.put)
          exact bodyPost_ret (v := aggPb s' A' n c' lo' la' fu' sl' ro' ph' si' hi') (by simp [results, Tryd.results12, z0, z1, z2, z3, z4, z5, z6, z7, z8, z9, go_sem]) rfl ⟨A', c', rfl, (RT10.out.put LTZ.out _ _ _ _ _ _ _ _ _ _ _ _ ).wide QT.out (Nat.le_refl _), BZ⟩
        · have hq : q = false := by simpa using hq
          have HQQ := Lib.hid hq
          by_cases h6 : g5 < lo
          · have HIF := Lib.hid (show q = true ∨ g5 < lo from .inr h6)
            have t6 : decide (g5 < lo) = true := decide_eq_true h6
            rw [hq]
            clear hq t5 HQ h6
            have j5 := XG7.out.c5
            have k2 := XP7.out.c2
            go_upto_region 9 with fail
            clear j5 k2
            have k2 := XP7.out.c2
            have kf2 := XP7.out.f2
            have j5 := XG7.out.c5
            go_upto_region 10 with fail
            obtain ⟨w8, hw⟩ : ∃ wx, wx = w7.setCell ⟨w.heap.size, 2, none⟩ (.int .u64 (g5 : Int)) := ⟨_, rfl⟩
            rw [← hw]
            have XP8 := Lib.hid (show BxPb w.heap.size s A' n c' g5 la fu sl ro ph si hi w8 by rw [hw]; exact XP7.out.set2)
            have B8 := Lib.hid (show Below w.heap.size w w8 by rw [hw]; exact Below.setCell B7.out GP.out _)
            have SP8 := Lib.hid (show w.heap.size < w8.heap.size by rw [hw]; have := SP7.out; simpa using this)
            have XG8 := Lib.hid (show BxGt (w.heap.size + 1) g0 g1 g2 g3 g4 g5 g6 g7 true false w8 by rw [hw]; exact XG7.out.other rfl (Nat.ne_of_lt OPG.out))
            have SG8 := Lib.hid (show (w.heap.size + 1) < w8.heap.size by rw [hw]; have := SG7.out; simpa using this)
            have XZ8 := Lib.hid (show BxPb (w.heap.size + 2) 0 none 0 0 0 0 0 0 0 0 0 0 w8 by rw [hw]; exact XZ7.out.other rfl (Nat.ne_of_lt OPZ.out))
            have SZ8 := Lib.hid (show (w.heap.size + 2) < w8.heap.size by rw [hw]; have := SZ7.out; simpa using this)
            have RT8 := Lib.hid (show Rt w8 w4.heap.size w8.heap.size A' n ss by rw [hw]; exact RT7.out.set LTP.out)
            clear k2 kf2 j5
            clear hw B7 XP7 SP7 XG7 SG7 XZ7 SZ7 RT7
            have k3 := XP8.out.c3
            have kf3 := XP8.out.f3
            have j0 := XG8.out.c0
            go_upto_region 11 with fail
            obtain ⟨w9, hw⟩ : ∃ wx, wx = w8.setCell ⟨w.heap.size, 3, none⟩ (.int .u64 (g0 : Int)) := ⟨_, rfl⟩
            rw [← hw]
            have XP9 := Lib.hid (show BxPb w.heap.size s A' n c' g5 g0 fu sl ro ph si hi w9 by rw [hw]; exact XP8.out.set3)
            have B9 := Lib.hid (show Below w.heap.size w w9 by rw [hw]; exact Below.setCell B8.out GP.out _)
            have SP9 := Lib.hid (show w.heap.size < w9.heap.size by rw [hw]; have := SP8.out; simpa using this)
            have XG9 := Lib.hid (show BxGt (w.heap.size + 1) g0 g1 g2 g3 g4 g5 g6 g7 true false w9 by rw [hw]; exact XG8.out.other rfl (Nat.ne_of_lt OPG.out))
            have SG9 := Lib.hid (show (w.heap.size + 1) < w9.heap.size by rw [hw]; have := SG8.out; simpa using this)
            have XZ9 := Lib.hid (show BxPb (w.heap.size + 2) 0 none 0 0 0 0 0 0 0 0 0 0 w9 by rw [hw]; exact XZ8.out.other rfl (Nat.ne_of_lt OPZ.out))
            have SZ9 := Lib.hid (show (w.heap.size + 2) < w9.heap.size by rw [hw]; have := SZ8.out; simpa using this)
            have RT9 := Lib.hid (show Rt w9 w4.heap.size w9.heap.size A' n ss by rw [hw]; exact RT8.out.set LTP.out)
            clear k3 kf3 j0
            clear hw B8 XP8 SP8 XG8 SG8 XZ8 SZ8 RT8
            obtain ⟨k0, k1, k2, k3, k4, k5, k6, k7, k8, k9, -, -, -, -, -, -, -, -, -, -⟩ := XP9.out
            obtain ⟨j0, j1, j2, j3, j4, j5, j6, j7, j8, j9, -, -, -, -, -, -, -, -, -, -⟩ := XG9.out
            go_wp2_with fail
            refine (CM.out g5 g0 false HQQ.out (if_pos HIF.out) (if_pos HIF.out) A' c' _ RT9.out.low).mono ?_
            rintro e w10 ⟨rfl, hb⟩
            have B10 := Lib.hid (below_trans' B9.out hb)
            have XP10 := Lib.hid (XP9.out.below hb SP9.out)
            have SP10 := Lib.hid (Nat.lt_of_lt_of_le SP9.out hb.size)
            have XG10 := Lib.hid (XG9.out.below hb SG9.out)
            have SG10 := Lib.hid (Nat.lt_of_lt_of_le SG9.out hb.size)
            have XZ10 := Lib.hid (XZ9.out.below hb SZ9.out)
            have SZ10 := Lib.hid (Nat.lt_of_lt_of_le SZ9.out hb.size)
            have RT10 := Lib.hid (RT9.out.step hb)
            clear k0 k1 k2 k3 k4 k5 k6 k7 k8 k9 j0 j1 j2 j3 j4 j5 j6 j7 j8 j9
            clear hb B9 XP9 SP9 XG9 SG9 XZ9 SZ9 RT9
            obtain ⟨z0, z1, z2, z3, z4, z5, z6, z7, z8, z9, zf0, zf1, zf2, zf3, zf4, zf5, zf6, zf7, zf8, zf9⟩ := XZ10.out
            go_wp2_with fail
            show bodyPost _ _ _ _ _ (putPb (w.heap.size + 2) s' A' n c' lo' la' fu' sl' ro' ph' si' hi' w10)
            have BZ : Below w.heap.size w (putPb (w.heap.size + 2) s' A' n c' lo' la' fu' sl' ro' ph' si' hi' w10) := B10.out.trans (putPb_below GZ.out)
            obtain ⟨z0, z1, z2, z3, z4, z5, z6, z7, z8, z9, -, -, -, -, -, -, -, -, -, -⟩ := (show BxPb (w.heap.size + 2) s' A' n c' lo' la' fu' sl' ro' ph' si' hi' (putPb (w.heap.size + 2) s' A' n c' lo' la' fu' sl' ro' ph' si' hi' w10) from XZ10.out.put)
            exact bodyPost_ret (v := aggPb s' A' n c' lo' la' fu' sl' ro' ph' si' hi') (by simp [results, Tryd.results12, z0, z1, z2, z3, z4, z5, z6, z7, z8, z9, go_sem]) rfl ⟨A', c', rfl, (RT10.out.put LTZ.out _ _ _ _ _ _ _ _ _ _ _ _ ).wide QT.out (Nat.le_refl _), BZ⟩
          · have HIF := Lib.hid (show ¬ (q = true ∨ g5 < lo) by rw [hq]; simp; omega)
            have t6 : decide (g5 < lo) = false := decide_eq_false h6
            rw [hq]
            clear hq t5 HQ h6
            have j5 := XG7.out.c5
            have k2 := XP7.out.c2
            go_upto_region 11 with fail
            clear j5 k2
            obtain ⟨k0, k1, k2, k3, k4, k5, k6, k7, k8, k9, -, -, -, -, -, -, -, -, -, -⟩ := XP7.out
            obtain ⟨j0, j1, j2, j3, j4, j5, j6, j7, j8, j9, -, -, -, -, -, -, -, -, -, -⟩ := XG7.out
            go_wp2_with fail
            refine (CM.out lo la false HQQ.out (if_neg HIF.out) (if_neg HIF.out) A' c' _ RT7.out.low).mono ?_
            rintro e w8 ⟨rfl, hb⟩
            have B8 := Lib.hid (below_trans' B7.out hb)
            have XP8 := Lib.hid (XP7.out.below hb SP7.out)
            have SP8 := Lib.hid (Nat.lt_of_lt_of_le SP7.out hb.size)
            have XG8 := Lib.hid (XG7.out.below hb SG7.out)
            have SG8 := Lib.hid (Nat.lt_of_lt_of_le SG7.out hb.size)
            have XZ8 := Lib.hid (XZ7.out.below hb SZ7.out)
            have SZ8 := Lib.hid (Nat.lt_of_lt_of_le SZ7.out hb.size)
            have RT8 := Lib.hid (RT7.out.step hb)
            clear k0 k1 k2 k3 k4 k5 k6 k7 k8 k9 j0 j1 j2 j3 j4 j5 j6 j7 j8 j9
            clear hb B7 XP7 SP7 XG7 SG7 XZ7 SZ7 RT7
            obtain ⟨z0, z1, z2, z3, z4, z5, z6, z7, z8, z9, zf0, zf1, zf2, zf3, zf4, zf5, zf6, zf7, zf8, zf9⟩ := XZ8.out
            go_wp2_with fail
            show bodyPost _ _ _ _ _ (putPb (w.heap.size + 2) s' A' n c' lo' la' fu' sl' ro' ph' si' hi' w8)
            have BZ : Below w.heap.size w (putPb (w.heap.size + 2) s' A' n c' lo' la' fu' sl' ro' ph' si' hi' w8) := B8.out.trans (putPb_below GZ.out)
            obtain ⟨z0, z1, z2, z3, z4, z5, z6, z7, z8, z9, -, -, -, -, -, -, -, -, -, -⟩ := (show BxPb (w.heap.size + 2) s' A' n c' lo' la' fu' sl' ro' ph' si' hi' (putPb (w.heap.size + 2) s' A' n c' lo' la' fu' sl' ro' ph' si' hi' w8) from XZ8.out.put)
            exact bodyPost_ret (v := aggPb s' A' n c' lo' la' fu' sl' ro' ph' si' hi') (by simp [results, Tryd.results12, z0, z1, z2, z3, z4, z5, z6, z7, z8, z9, go_sem]) rfl ⟨A', c', rfl, (RT8.out.put LTZ.out _ _ _ _ _ _ _ _ _ _ _ _ ).wide QT.out (Nat.le_refl _), BZ⟩
  · cases gl
    · obtain ⟨w1, hw1⟩ : ∃ wx, wx = w.alloc (.cells #[.int .i64 s, .slice A n c, .int .u64 (lo : Int), .int .u64 (la : Int), .int .u64 (fu : Int), .int .u64 (sl : Int), .int .u64 (ro : Int), .int .u64 (ph : Int), .int .u64 (si : Int), .int .u64 (hi : Int)] 26) := ⟨_, rfl⟩
      have z1 : w1.heap.size = w.heap.size + 1 := by rw [hw1]; simp
      obtain ⟨w2, hw2⟩ : ∃ wx, wx = w1.alloc (.cells #[.int .u64 (g0 : Int), .int .u64 (g1 : Int), .int .u64 (g2 : Int), .int .u64 (g3 : Int), .int .u64 (g4 : Int), .int .u64 (g5 : Int), .int .u64 (g6 : Int), .int .u64 (g7 : Int), .bool false, .bool true] 28) := ⟨_, rfl⟩
      have z2 : w2.heap.size = w.heap.size + 2 := by rw [hw2]; simp; omega
      obtain ⟨w3, hw3⟩ : ∃ wx, wx = w2.alloc (.cells #[.int .i64 0, .slice none 0 0, .int .u64 0, .int .u64 0, .int .u64 0, .int .u64 0, .int .u64 0, .int .u64 0, .int .u64 0, .int .u64 0] 26) := ⟨_, rfl⟩
      have z3 : w3.heap.size = w.heap.size + 3 := by rw [hw3]; simp; omega
      have t3 : Below w3.heap.size w3 w3 := Below.refl _ _
      have t2 : Below w2.heap.size w2 w3 := (show Below w2.heap.size w2 w3 by rw [hw3]; exact (Below.refl _ _).alloc (Nat.le_refl _) _).trans (t3.mono (by omega))
      have t1 : Below w1.heap.size w1 w3 := (show Below w1.heap.size w1 w2 by rw [hw2]; exact (Below.refl _ _).alloc (Nat.le_refl _) _).trans (t2.mono (by omega))
      have t0 : Below w.heap.size w w3 := (show Below w.heap.size w w1 by rw [hw1]; exact (Below.refl _ _).alloc (Nat.le_refl _) _).trans (t1.mono (by omega))
      have BN := Lib.hid t0
      have ZN := Lib.hid z3
      have XP := Lib.hid (show BxPb w.heap.size s A n c lo la fu sl ro ph si hi w3 from (show BxPb w.heap.size s A n c lo la fu sl ro ph si hi w1 by rw [hw1]; exact BxPb.new _ s A n c lo la fu sl ro ph si hi).below t1 (by omega))
      have XG := Lib.hid (show BxGt (w.heap.size + 1) g0 g1 g2 g3 g4 g5 g6 g7 false true w3 from (show BxGt (w.heap.size + 1) g0 g1 g2 g3 g4 g5 g6 g7 false true w2 by rw [hw2, ← z1]; exact BxGt.new _ g0 g1 g2 g3 g4 g5 g6 g7 false true).below t2 (by omega))
      have XZ := Lib.hid (show BxPb (w.heap.size + 2) 0 none 0 0 0 0 0 0 0 0 0 0 w3 from (show BxPb (w.heap.size + 2) 0 none 0 0 0 0 0 0 0 0 0 0 w3 by rw [hw3, ← z2]; exact BxPb.new _ 0 none 0 0 0 0 0 0 0 0 0 0).below t3 (by omega))
      clear t0 t1 t2 t3 z1 z2 z3
      have B3 := BN
      have XP3 := XP
      have SP3 := Lib.hid (show w.heap.size < w3.heap.size by have := ZN.out; omega)
      have GP := Lib.hid (show w.heap.size ≤ w.heap.size by omega)
      have XG3 := XG
      have SG3 := Lib.hid (show (w.heap.size + 1) < w3.heap.size by have := ZN.out; omega)
      have GG := Lib.hid (show w.heap.size ≤ (w.heap.size + 1) by omega)
      have OPG := Lib.hid (show w.heap.size < (w.heap.size + 1) by omega)
      have XZ3 := XZ
      have SZ3 := Lib.hid (show (w.heap.size + 2) < w3.heap.size by have := ZN.out; omega)
      have GZ := Lib.hid (show w.heap.size ≤ (w.heap.size + 2) by omega)
      have OPZ := Lib.hid (show w.heap.size < (w.heap.size + 2) by omega)
      have OGZ := Lib.hid (show (w.heap.size + 1) < (w.heap.size + 2) by omega)
      clear ZN BN XP XG XZ
      have hro : ro < 18446744073709551616 := hok.rounds
      have hhi : hi < 18446744073709551616 := hok.high
      have hla : la < 18446744073709551616 := hok.lowAt
      obtain ⟨R, hR1⟩ : ∃ R, Wig.fadd ro 1 = R := ⟨_, rfl⟩
      obtain ⟨d, hd⟩ : ∃ d, d = hi / 8 := ⟨_, rfl⟩
      obtain ⟨x, hx⟩ : ∃ x, Wig.fadd hi d = x := ⟨_, rfl⟩
      obtain ⟨H, hH⟩ : ∃ H, Wig.nheld x = H := ⟨_, rfl⟩
      have hr : Wig.pbround ⟨s, ss, lo, la, fu, sl, ro, ph, si, hi⟩ ⟨g0, g1, g2, g3, g4, g5, g6, g7, false, true⟩ = ⟨s, ss, lo, la, fu, sl, R, ph, si, H⟩ := by rw [← hH, ← hx, hd, ← hR1]; rfl
      have e1 : (hi : Int) / 8 = (d : Int) := by omega
      have e2 : IntKind.u64.wrap (d : Int) = (d : Int) := by rw [IntKind.wrap_u64]; omega
      have CA := Lib.hid (fun w => (show Calls Tryd.prog 29 #[.int .u64 (ro : Int), .int .u64 1] w fun e w' => e = .returned (.int .u64 (R : Int)) ∧ w = w' by rw [← hR1]; exact radd_any ro 1 w hro (by decide)))
      have CD := Lib.hid (fun w => (show Calls Tryd.prog 29 #[.int .u64 (hi : Int), .int .u64 (d : Int)] w fun e w' => e = .returned (.int .u64 (x : Int)) ∧ w = w' by rw [← hx]; exact radd_any hi d w hhi (by omega)))
      have CH := Lib.hid (fun w => rheld_any x H w hH)
      have ok1 : Wig.Pb.Ok ⟨s, ss, lo, la, fu, sl, R, ph, si, H⟩ := by rw [← hr]; exact Wig.pbround_ok hok
      have hs : (Wig.pbpush ⟨s, ss, lo, la, fu, sl, R, ph, si, H⟩ ⟨g0, g1, g2, g3, g4, g5, g6, g7, false, true⟩).rates = ss' := by rw [← hr, ← rpback_rates, he]
      obtain ⟨y, hy⟩ : ∃ y, Wig.fadd la 10000 = y := ⟨_, rfl⟩
      obtain ⟨q, hq⟩ : ∃ q, decide (y ≤ g0) = q := ⟨_, rfl⟩
      have hst : Wig.pbstale ⟨s, ss, lo, la, fu, sl, ro, ph, si, hi⟩ ⟨g0, g1, g2, g3, g4, g5, g6, g7, false, true⟩ = q := by rw [← hq, ← hy]; rfl
      have CY := Lib.hid (fun w => (show Calls Tryd.prog 29 #[.int .u64 (la : Int), .int .u64 10000] w fun e w' => e = .returned (.int .u64 (y : Int)) ∧ w = w' by rw [← hy]; exact radd_any la 10000 w hla (by decide)))
      have ok2 : Wig.Pb.Ok ⟨s, ss', lo, la, fu, sl, R, ph, si, H⟩ := by
        have h0 := Wig.pbpush_ok (g := ⟨g0, g1, g2, g3, g4, g5, g6, g7, false, true⟩) ok1 hg
        have e : Wig.pbpush ⟨s, ss, lo, la, fu, sl, R, ph, si, H⟩ ⟨g0, g1, g2, g3, g4, g5, g6, g7, false, true⟩ = ⟨s, ss', lo, la, fu, sl, R, ph, si, H⟩ := by
          rw [← hs]
          unfold Wig.pbpush
          split <;> rfl
        rw [e] at h0
        exact h0
      obtain ⟨b, hb⟩ : ∃ b, Wig.best ss = b := ⟨_, rfl⟩
      have CB := Lib.hid (fun (w0 : World) (hb0 : Below w.heap.size w w0) => (show Calls Tryd.prog 31 #[aggPb s A n c lo la fu sl R ph si H] w0 fun e w' => e = .returned (.int .u64 (b : Int)) ∧ Below w0.heap.size w0 w' from rbestp_any s A n c lo la fu sl R ph si H ss b w0 ok1 (hR.step hb0) hb))
      have hs2 : Wig.pushed true 10 (R, g7) ss = ss' := by
        rw [← hs]
        unfold Wig.pbpush
        rw [if_pos (.inl rfl)]
      have hm2 : n' ≤ 400 := by
        rw [← hn', ← hs2]
        have h1 := Wig.pushed_le true 10 (R, g7) ss
        have h2 := hR.len
        omega
      have CU := Lib.hid (fun (w0 : World) (hb0 : Below w.heap.size w w0) => (show Calls Tryd.prog 32 #[.slice A n c, .int .u64 10, .agg #[.int .u64 (R : Int), .int .u64 (g7 : Int)]] w0 fun e w' => ∃ A' c', e = .returned (.slice A' n' c') ∧ Rt w' w0.heap.size w'.heap.size A' n' ss' ∧ Below w0.heap.size w0 w' from rpush_rt 10 R g7 ss ss' n n' A c w0 hn' hm2 (hR.step hb0) (by decide) ok1.rounds hg.2.2.2.2.2.2.2 hs2))
      clear hs2 hm2
      have CM := Lib.hid (fun (l3 a3 : Nat) (q' : Bool) (hq' : q = q') (hl : (if q = true ∨ g5 < lo then g5 else lo) = l3) (ha : (if q = true ∨ g5 < lo then g0 else la) = a3) (A' : Option Addr) (c' : Nat) (w0 : World) (hT : Rt w0 0 w0.heap.size A' n' ss') =>
        (show Calls Tryd.prog 33 #[aggPb s A' n' c' l3 a3 fu sl R ph si H, aggGt g0 g1 g2 g3 g4 g5 g6 g7 false true, .bool q'] w0 fun e w' => e = .returned (aggPb s' A' n' c' lo' la' fu' sl' ro' ph' si' hi') ∧ Below w0.heap.size w0 w' by
          subst hq'
          have ok3 : Wig.Pb.Ok ⟨s, ss', l3, a3, fu, sl, R, ph, si, H⟩ := ⟨ok2.s0, ok2.s1, ok2.rates, (by show l3 < _; rw [← hl]; split; exact hg.2.2.2.2.2.1; exact ok2.low), (by show a3 < _; rw [← ha]; split; exact hg.1; exact ok2.lowAt), ok2.full, ok2.still, ok2.rounds, ok2.phase, ok2.since, ok2.high⟩
          exact rmoved_any s A' n' c' l3 a3 fu sl R ph si H ss' g0 g1 g2 g3 g4 g5 g6 g7 false true q s' ss' lo' la' fu' sl' ro' ph' si' hi' w0 ok3 hT hg (by rw [← he]; exact (rpback_eq hr hs hst hl ha).symm)))
      have HQ := Lib.hid hq
      clear hok hR hg hn2 he hn' hro hhi hla hr ok1 hs hy hst ok2 hR1 hd hx hH hb
      have t5 := hq
      clear hq
      go_enter Tryd.func12, Tryd.ntmps12
      go_upto_region 1 with fail
      rw [← hw1, ← hw2, ← hw3]
      clear hw1 hw2 hw3
      have j9 := XG3.out.c9
      clear j9
      have k6 := XP3.out.c6
      have kf6 := XP3.out.f6
      have j9 := XG3.out.c9
      go_wp2_with fail
      refine (CA.out _).mono ?_
      rintro e _ ⟨rfl, rfl⟩
      go_upto_region 3 with fail
      obtain ⟨w4, hw⟩ : ∃ wx, wx = w3.setCell ⟨w.heap.size, 6, none⟩ (.int .u64 (R : Int)) := ⟨_, rfl⟩
      rw [← hw]
      have XP4 := Lib.hid (show BxPb w.heap.size s A n c lo la fu sl R ph si hi w4 by rw [hw]; exact XP3.out.set6)
      have B4 := Lib.hid (show Below w.heap.size w w4 by rw [hw]; exact Below.setCell B3.out GP.out _)
      have SP4 := Lib.hid (show w.heap.size < w4.heap.size by rw [hw]; have := SP3.out; simpa using this)
      have XG4 := Lib.hid (show BxGt (w.heap.size + 1) g0 g1 g2 g3 g4 g5 g6 g7 false true w4 by rw [hw]; exact XG3.out.other rfl (Nat.ne_of_lt OPG.out))
      have SG4 := Lib.hid (show (w.heap.size + 1) < w4.heap.size by rw [hw]; have := SG3.out; simpa using this)
      have XZ4 := Lib.hid (show BxPb (w.heap.size + 2) 0 none 0 0 0 0 0 0 0 0 0 0 w4 by rw [hw]; exact XZ3.out.other rfl (Nat.ne_of_lt OPZ.out))
      have SZ4 := Lib.hid (show (w.heap.size + 2) < w4.heap.size by rw [hw]; have := SZ3.out; simpa using this)
      clear k6 kf6 j9
      clear hw B3 XP3 SP3 XG3 SG3 XZ3 SZ3
      have k9 := XP4.out.c9
      have kf9 := XP4.out.f9
      go_wp2_with fail
      refine (CD.out _).mono ?_
      rintro e _ ⟨rfl, rfl⟩
      go_wp2_with fail
      refine (CH.out _).mono ?_
      rintro e _ ⟨rfl, rfl⟩
      go_upto_region 4 with fail
      obtain ⟨w5, hw⟩ : ∃ wx, wx = w4.setCell ⟨w.heap.size, 9, none⟩ (.int .u64 (H : Int)) := ⟨_, rfl⟩
      rw [← hw]
      have XP5 := Lib.hid (show BxPb w.heap.size s A n c lo la fu sl R ph si H w5 by rw [hw]; exact XP4.out.set9)
      have B5 := Lib.hid (show Below w.heap.size w w5 by rw [hw]; exact Below.setCell B4.out GP.out _)
      have SP5 := Lib.hid (show w.heap.size < w5.heap.size by rw [hw]; have := SP4.out; simpa using this)
      have XG5 := Lib.hid (show BxGt (w.heap.size + 1) g0 g1 g2 g3 g4 g5 g6 g7 false true w5 by rw [hw]; exact XG4.out.other rfl (Nat.ne_of_lt OPG.out))
      have SG5 := Lib.hid (show (w.heap.size + 1) < w5.heap.size by rw [hw]; have := SG4.out; simpa using this)
      have XZ5 := Lib.hid (show BxPb (w.heap.size + 2) 0 none 0 0 0 0 0 0 0 0 0 0 w5 by rw [hw]; exact XZ4.out.other rfl (Nat.ne_of_lt OPZ.out))
      have SZ5 := Lib.hid (show (w.heap.size + 2) < w5.heap.size by rw [hw]; have := SZ4.out; simpa using this)
      clear k9 kf9
      clear hw B4 XP4 SP4 XG4 SG4 XZ4 SZ4
      have j7 := XG5.out.c7
      have j8 := XG5.out.c8
      go_quiet (first | fail)
      obtain ⟨w6, hw⟩ : ∃ wx, wx = w5.drewN nq := ⟨_, rfl⟩
      rw [← hw]
      have B6 := Lib.hid (show Below w.heap.size w w6 by rw [hw]; exact below_drewN' B5.out nq)
      have XP6 := Lib.hid (show BxPb w.heap.size s A n c lo la fu sl R ph si H w6 by rw [hw]; exact XP5.out.drewN nq)
      have SP6 := Lib.hid (show w.heap.size < w6.heap.size by rw [hw]; exact SP5.out)
      have XG6 := Lib.hid (show BxGt (w.heap.size + 1) g0 g1 g2 g3 g4 g5 g6 g7 false true w6 by rw [hw]; exact XG5.out.drewN nq)
      have SG6 := Lib.hid (show (w.heap.size + 1) < w6.heap.size by rw [hw]; exact SG5.out)
      have XZ6 := Lib.hid (show BxPb (w.heap.size + 2) 0 none 0 0 0 0 0 0 0 0 0 0 w6 by rw [hw]; exact XZ5.out.drewN nq)
      have SZ6 := Lib.hid (show (w.heap.size + 2) < w6.heap.size by rw [hw]; exact SZ5.out)
      clear j7 j8
      clear hw B5 XP5 SP5 XG5 SG5 XZ5 SZ5
      have k1 := XP6.out.c1
      have k6 := XP6.out.c6
      have j7 := XG6.out.c7
      go_wp2_with fail
      refine (CU.out _ B6.out).mono ?_
      rintro e w7 ⟨A', c', rfl, hr, hb⟩
      have LTP := Lib.hid (show w.heap.size < w6.heap.size from SP6.out)
      have LTG := Lib.hid (show (w.heap.size + 1) < w6.heap.size from SG6.out)
      have LTZ := Lib.hid (show (w.heap.size + 2) < w6.heap.size from SZ6.out)
      have QT := Lib.hid (show w.heap.size ≤ w6.heap.size from B6.out.size)
      have B7 := Lib.hid (below_trans' B6.out hb)
      have XP7 := Lib.hid (XP6.out.below hb SP6.out)
      have SP7 := Lib.hid (Nat.lt_of_lt_of_le SP6.out hb.size)
      have XG7 := Lib.hid (XG6.out.below hb SG6.out)
      have SG7 := Lib.hid (Nat.lt_of_lt_of_le SG6.out hb.size)
      have XZ7 := Lib.hid (XZ6.out.below hb SZ6.out)
      have SZ7 := Lib.hid (Nat.lt_of_lt_of_le SZ6.out hb.size)
      clear k1 k6 j7
      clear hb B6 XP6 SP6 XG6 SG6 XZ6 SZ6
      have RT7 := Lib.hid hr
      clear hr
      have k1 := XP7.out.c1
      have kf1 := XP7.out.f1
      go_upto_region 7 with fail
      obtain ⟨w8, hw⟩ : ∃ wx, wx = w7.setCell ⟨w.heap.size, 1, none⟩ (.slice A' n' c') := ⟨_, rfl⟩
      rw [← hw]
      have XP8 := Lib.hid (show BxPb w.heap.size s A' n' c' lo la fu sl R ph si H w8 by rw [hw]; exact XP7.out.set1)
      have B8 := Lib.hid (show Below w.heap.size w w8 by rw [hw]; exact Below.setCell B7.out GP.out _)
      have SP8 := Lib.hid (show w.heap.size < w8.heap.size by rw [hw]; have := SP7.out; simpa using this)
      have XG8 := Lib.hid (show BxGt (w.heap.size + 1) g0 g1 g2 g3 g4 g5 g6 g7 false true w8 by rw [hw]; exact XG7.out.other rfl (Nat.ne_of_lt OPG.out))
      have SG8 := Lib.hid (show (w.heap.size + 1) < w8.heap.size by rw [hw]; have := SG7.out; simpa using this)
      have XZ8 := Lib.hid (show BxPb (w.heap.size + 2) 0 none 0 0 0 0 0 0 0 0 0 0 w8 by rw [hw]; exact XZ7.out.other rfl (Nat.ne_of_lt OPZ.out))
      have SZ8 := Lib.hid (show (w.heap.size + 2) < w8.heap.size by rw [hw]; have := SZ7.out; simpa using this)
      have RT8 := Lib.hid (show Rt w8 w6.heap.size w8.heap.size A' n' ss' by rw [hw]; exact RT7.out.set LTP.out)
      clear k1 kf1
      clear hw B7 XP7 SP7 XG7 SG7 XZ7 SZ7 RT7
      have k3 := XP8.out.c3
      have j0 := XG8.out.c0
      go_quiet (first | (go_at_call 29; with_reducible exact quiet_eq (CY.out _)) | fail)
      obtain ⟨w9, hw⟩ : ∃ wx, wx = w8.drewN nq := ⟨_, rfl⟩
      rw [← hw]
      have B9 := Lib.hid (show Below w.heap.size w w9 by rw [hw]; exact below_drewN' B8.out nq)
      have XP9 := Lib.hid (show BxPb w.heap.size s A' n' c' lo la fu sl R ph si H w9 by rw [hw]; exact XP8.out.drewN nq)
      have SP9 := Lib.hid (show w.heap.size < w9.heap.size by rw [hw]; exact SP8.out)
      have XG9 := Lib.hid (show BxGt (w.heap.size + 1) g0 g1 g2 g3 g4 g5 g6 g7 false true w9 by rw [hw]; exact XG8.out.drewN nq)
      have SG9 := Lib.hid (show (w.heap.size + 1) < w9.heap.size by rw [hw]; exact SG8.out)
      have XZ9 := Lib.hid (show BxPb (w.heap.size + 2) 0 none 0 0 0 0 0 0 0 0 0 0 w9 by rw [hw]; exact XZ8.out.drewN nq)
      have SZ9 := Lib.hid (show (w.heap.size + 2) < w9.heap.size by rw [hw]; exact SZ8.out)
      have RT9 := Lib.hid (show Rt w9 w6.heap.size w9.heap.size A' n' ss' by rw [hw]; exact RT8.out.drewN nq)
      clear k3 j0
      clear hw B8 XP8 SP8 XG8 SG8 XZ8 SZ8 RT8
      by_cases hq : q = true
      · have HQQ := Lib.hid hq
        have HIF := Lib.hid (show q = true ∨ g5 < lo from .inl hq)
        rw [hq]
        clear hq t5 HQ
        go_upto_region 9 with fail
        have k2 := XP9.out.c2
        have kf2 := XP9.out.f2
        have j5 := XG9.out.c5
        go_upto_region 10 with fail
        obtain ⟨w10, hw⟩ : ∃ wx, wx = w9.setCell ⟨w.heap.size, 2, none⟩ (.int .u64 (g5 : Int)) := ⟨_, rfl⟩
        rw [← hw]
        have XP10 := Lib.hid (show BxPb w.heap.size s A' n' c' g5 la fu sl R ph si H w10 by rw [hw]; exact XP9.out.set2)
        have B10 := Lib.hid (show Below w.heap.size w w10 by rw [hw]; exact Below.setCell B9.out GP.out _)
        have SP10 := Lib.hid (show w.heap.size < w10.heap.size by rw [hw]; have := SP9.out; simpa using this)
        have XG10 := Lib.hid (show BxGt (w.heap.size + 1) g0 g1 g2 g3 g4 g5 g6 g7 false true w10 by rw [hw]; exact XG9.out.other rfl (Nat.ne_of_lt OPG.out))
        have SG10 := Lib.hid (show (w.heap.size + 1) < w10.heap.size by rw [hw]; have := SG9.out; simpa using this)
        have XZ10 := Lib.hid (show BxPb (w.heap.size + 2) 0 none 0 0 0 0 0 0 0 0 0 0 w10 by rw [hw]; exact XZ9.out.other rfl (Nat.ne_of_lt OPZ.out))
        have SZ10 := Lib.hid (show (w.heap.size + 2) < w10.heap.size by rw [hw]; have := SZ9.out; simpa using this)
        have RT10 := Lib.hid (show Rt w10 w6.heap.size w10.heap.size A' n' ss' by rw [hw]; exact RT9.out.set LTP.out)
        clear k2 kf2 j5
        clear hw B9 XP9 SP9 XG9 SG9 XZ9 SZ9 RT9
        have k3 := XP10.out.c3
        have kf3 := XP10.out.f3
        have j0 := XG10.out.c0
        go_upto_region 11 with fail
        obtain ⟨w11, hw⟩ : ∃ wx, wx = w10.setCell ⟨w.heap.size, 3, none⟩ (.int .u64 (g0 : Int)) := ⟨_, rfl⟩
        rw [← hw]
        have XP11 := Lib.hid (show BxPb w.heap.size s A' n' c' g5 g0 fu sl R ph si H w11 by rw [hw]; exact XP10.out.set3)
        have B11 := Lib.hid (show Below w.heap.size w w11 by rw [hw]; exact Below.setCell B10.out GP.out _)
        have SP11 := Lib.hid (show w.heap.size < w11.heap.size by rw [hw]; have := SP10.out; simpa using this)
        have XG11 := Lib.hid (show BxGt (w.heap.size + 1) g0 g1 g2 g3 g4 g5 g6 g7 false true w11 by rw [hw]; exact XG10.out.other rfl (Nat.ne_of_lt OPG.out))
        have SG11 := Lib.hid (show (w.heap.size + 1) < w11.heap.size by rw [hw]; have := SG10.out; simpa using this)
        have XZ11 := Lib.hid (show BxPb (w.heap.size + 2) 0 none 0 0 0 0 0 0 0 0 0 0 w11 by rw [hw]; exact XZ10.out.other rfl (Nat.ne_of_lt OPZ.out))
        have SZ11 := Lib.hid (show (w.heap.size + 2) < w11.heap.size by rw [hw]; have := SZ10.out; simpa using this)
        have RT11 := Lib.hid (show Rt w11 w6.heap.size w11.heap.size A' n' ss' by rw [hw]; exact RT10.out.set LTP.out)
        clear k3 kf3 j0
        clear hw B10 XP10 SP10 XG10 SG10 XZ10 SZ10 RT10
        obtain ⟨k0, k1, k2, k3, k4, k5, k6, k7, k8, k9, -, -, -, -, -, -, -, -, -, -⟩ := XP11.out
        obtain ⟨j0, j1, j2, j3, j4, j5, j6, j7, j8, j9, -, -, -, -, -, -, -, -, -, -⟩ := XG11.out
        go_wp2_with fail
        refine (CM.out g5 g0 true HQQ.out (if_pos HIF.out) (if_pos HIF.out) A' c' _ RT11.out.low).mono ?_
        rintro e w12 ⟨rfl, hb⟩
        have B12 := Lib.hid (below_trans' B11.out hb)
        have XP12 := Lib.hid (XP11.out.below hb SP11.out)
        have SP12 := Lib.hid (Nat.lt_of_lt_of_le SP11.out hb.size)
        have XG12 := Lib.hid (XG11.out.below hb SG11.out)
        have SG12 := Lib.hid (Nat.lt_of_lt_of_le SG11.out hb.size)
        have XZ12 := Lib.hid (XZ11.out.below hb SZ11.out)
        have SZ12 := Lib.hid (Nat.lt_of_lt_of_le SZ11.out hb.size)
        have RT12 := Lib.hid (RT11.out.step hb)
        clear k0 k1 k2 k3 k4 k5 k6 k7 k8 k9 j0 j1 j2 j3 j4 j5 j6 j7 j8 j9
        clear hb B11 XP11 SP11 XG11 SG11 XZ11 SZ11 RT11
        obtain ⟨z0, z1, z2, z3, z4, z5, z6, z7, z8, z9, zf0, zf1, zf2, zf3, zf4, zf5, zf6, zf7, zf8, zf9⟩ := XZ12.out
        go_wp2_with fail
        show bodyPost _ _ _ _ _ (putPb (w.heap.size + 2) s' A' n' c' lo' la' fu' sl' ro' ph' si' hi' w12)
        have BZ : Below w.heap.size w (putPb (w.heap.size + 2) s' A' n' c' lo' la' fu' sl' ro' ph' si' hi' w12) := B12.out.trans (putPb_below GZ.out)
        obtain ⟨z0, z1, z2, z3, z4, z5, z6, z7, z8, z9, -, -, -, -, -, -, -, -, -, -⟩ := (show BxPb (w.heap.size + 2) s' A' n' c' lo' la' fu' sl' ro' ph' si' hi' (putPb (w.heap.size + 2) s' A' n' c' lo' la' fu' sl' ro' ph' si' hi' w12) from XZ12.out.put)
        exact bodyPost_ret (v := aggPb s' A' n' c' lo' la' fu' sl' ro' ph' si' hi') (by simp [results, Tryd.results12, z0, z1, z2, z3, z4, z5, z6, z7, z8, z9, go_sem]) rfl ⟨A', c', rfl, (RT12.out.put LTZ.out _ _ _ _ _ _ _ _ _ _ _ _ ).wide QT.out (Nat.le_refl _), BZ⟩
      · have hq : q = false := by simpa using hq
        have HQQ := Lib.hid hq
        by_cases h6 : g5 < lo
        · have HIF := Lib.hid (show q = true ∨ g5 < lo from .inr h6)
          have t6 : decide (g5 < lo) = true := decide_eq_true h6
          rw [hq]
          clear hq t5 HQ h6
          have j5 := XG9.out.c5
          have k2 := XP9.out.c2
          go_upto_region 9 with fail
          clear j5 k2
          have k2 := XP9.out.c2
          have kf2 := XP9.out.f2
          have j5 := XG9.out.c5
          go_upto_region 10 with fail
          obtain ⟨w10, hw⟩ : ∃ wx, wx = w9.setCell ⟨w.heap.size, 2, none⟩ (.int .u64 (g5 : Int)) := ⟨_, rfl⟩
          rw [← hw]
          have XP10 := Lib.hid (show BxPb w.heap.size s A' n' c' g5 la fu sl R ph si H w10 by rw [hw]; exact XP9.out.set2)
          have B10 := Lib.hid (show Below w.heap.size w w10 by rw [hw]; exact Below.setCell B9.out GP.out _)
          have SP10 := Lib.hid (show w.heap.size < w10.heap.size by rw [hw]; have := SP9.out; simpa using this)
          have XG10 := Lib.hid (show BxGt (w.heap.size + 1) g0 g1 g2 g3 g4 g5 g6 g7 false true w10 by rw [hw]; exact XG9.out.other rfl (Nat.ne_of_lt OPG.out))
          have SG10 := Lib.hid (show (w.heap.size + 1) < w10.heap.size by rw [hw]; have := SG9.out; simpa using this)
          have XZ10 := Lib.hid (show BxPb (w.heap.size + 2) 0 none 0 0 0 0 0 0 0 0 0 0 w10 by rw [hw]; exact XZ9.out.other rfl (Nat.ne_of_lt OPZ.out))
          have SZ10 := Lib.hid (show (w.heap.size + 2) < w10.heap.size by rw [hw]; have := SZ9.out; simpa using this)
          have RT10 := Lib.hid (show Rt w10 w6.heap.size w10.heap.size A' n' ss' by rw [hw]; exact RT9.out.set LTP.out)
          clear k2 kf2 j5
          clear hw B9 XP9 SP9 XG9 SG9 XZ9 SZ9 RT9
          have k3 := XP10.out.c3
          have kf3 := XP10.out.f3
          have j0 := XG10.out.c0
          go_upto_region 11 with fail
          obtain ⟨w11, hw⟩ : ∃ wx, wx = w10.setCell ⟨w.heap.size, 3, none⟩ (.int .u64 (g0 : Int)) := ⟨_, rfl⟩
          rw [← hw]
          have XP11 := Lib.hid (show BxPb w.heap.size s A' n' c' g5 g0 fu sl R ph si H w11 by rw [hw]; exact XP10.out.set3)
          have B11 := Lib.hid (show Below w.heap.size w w11 by rw [hw]; exact Below.setCell B10.out GP.out _)
          have SP11 := Lib.hid (show w.heap.size < w11.heap.size by rw [hw]; have := SP10.out; simpa using this)
          have XG11 := Lib.hid (show BxGt (w.heap.size + 1) g0 g1 g2 g3 g4 g5 g6 g7 false true w11 by rw [hw]; exact XG10.out.other rfl (Nat.ne_of_lt OPG.out))
          have SG11 := Lib.hid (show (w.heap.size + 1) < w11.heap.size by rw [hw]; have := SG10.out; simpa using this)
          have XZ11 := Lib.hid (show BxPb (w.heap.size + 2) 0 none 0 0 0 0 0 0 0 0 0 0 w11 by rw [hw]; exact XZ10.out.other rfl (Nat.ne_of_lt OPZ.out))
          have SZ11 := Lib.hid (show (w.heap.size + 2) < w11.heap.size by rw [hw]; have := SZ10.out; simpa using this)
          have RT11 := Lib.hid (show Rt w11 w6.heap.size w11.heap.size A' n' ss' by rw [hw]; exact RT10.out.set LTP.out)
          clear k3 kf3 j0
          clear hw B10 XP10 SP10 XG10 SG10 XZ10 SZ10 RT10
          obtain ⟨k0, k1, k2, k3, k4, k5, k6, k7, k8, k9, -, -, -, -, -, -, -, -, -, -⟩ := XP11.out
          obtain ⟨j0, j1, j2, j3, j4, j5, j6, j7, j8, j9, -, -, -, -, -, -, -, -, -, -⟩ := XG11.out
          go_wp2_with fail
          refine (CM.out g5 g0 false HQQ.out (if_pos HIF.out) (if_pos HIF.out) A' c' _ RT11.out.low).mono ?_
          rintro e w12 ⟨rfl, hb⟩
          have B12 := Lib.hid (below_trans' B11.out hb)
          have XP12 := Lib.hid (XP11.out.below hb SP11.out)
          have SP12 := Lib.hid (Nat.lt_of_lt_of_le SP11.out hb.size)
          have XG12 := Lib.hid (XG11.out.below hb SG11.out)
          have SG12 := Lib.hid (Nat.lt_of_lt_of_le SG11.out hb.size)
          have XZ12 := Lib.hid (XZ11.out.below hb SZ11.out)
          have SZ12 := Lib.hid (Nat.lt_of_lt_of_le SZ11.out hb.size)
          have RT12 := Lib.hid (RT11.out.step hb)
          clear k0 k1 k2 k3 k4 k5 k6 k7 k8 k9 j0 j1 j2 j3 j4 j5 j6 j7 j8 j9
          clear hb B11 XP11 SP11 XG11 SG11 XZ11 SZ11 RT11
          obtain ⟨z0, z1, z2, z3, z4, z5, z6, z7, z8, z9, zf0, zf1, zf2, zf3, zf4, zf5, zf6, zf7, zf8, zf9⟩ := XZ12.out
          go_wp2_with fail
          show bodyPost _ _ _ _ _ (putPb (w.heap.size + 2) s' A' n' c' lo' la' fu' sl' ro' ph' si' hi' w12)
          have BZ : Below w.heap.size w (putPb (w.heap.size + 2) s' A' n' c' lo' la' fu' sl' ro' ph' si' hi' w12) := B12.out.trans (putPb_below GZ.out)
          obtain ⟨z0, z1, z2, z3, z4, z5, z6, z7, z8, z9, -, -, -, -, -, -, -, -, -, -⟩ := (show BxPb (w.heap.size + 2) s' A' n' c' lo' la' fu' sl' ro' ph' si' hi' (putPb (w.heap.size + 2) s' A' n' c' lo' la' fu' sl' ro' ph' si' hi' w12) from XZ12.out.put)
          exact bodyPost_ret (v := aggPb s' A' n' c' lo' la' fu' sl' ro' ph' si' hi') (by simp [results, Tryd.results12, z0, z1, z2, z3, z4, z5, z6, z7, z8, z9, go_sem]) rfl ⟨A', c', rfl, (RT12.out.put LTZ.out _ _ _ _ _ _ _ _ _ _ _ _ ).wide QT.out (Nat.le_refl _), BZ⟩
        · have HIF := Lib.hid (show ¬ (q = true ∨ g5 < lo) by rw [hq]; simp; omega)
          have t6 : decide (g5 < lo) = false := decide_eq_false h6
          rw [hq]
          clear hq t5 HQ h6
          have j5 := XG9.out.c5
          have k2 := XP9.out.c2
          go_upto_region 11 with fail
          clear j5 k2
          obtain ⟨k0, k1, k2, k3, k4, k5, k6, k7, k8, k9, -, -, -, -, -, -, -, -, -, -⟩ := XP9.out
          obtain ⟨j0, j1, j2, j3, j4, j5, j6, j7, j8, j9, -, -, -, -, -, -, -, -, -, -⟩ := XG9.out
          go_wp2_with fail
          refine (CM.out lo la false HQQ.out (if_neg HIF.out) (if_neg HIF.out) A' c' _ RT9.out.low).mono ?_
          rintro e w10 ⟨rfl, hb⟩
          have B10 := Lib.hid (below_trans' B9.out hb)
          have XP10 := Lib.hid (XP9.out.below hb SP9.out)
          have SP10 := Lib.hid (Nat.lt_of_lt_of_le SP9.out hb.size)
          have XG10 := Lib.hid (XG9.out.below hb SG9.out)
          have SG10 := Lib.hid (Nat.lt_of_lt_of_le SG9.out hb.size)
          have XZ10 := Lib.hid (XZ9.out.below hb SZ9.out)
          have SZ10 := Lib.hid (Nat.lt_of_lt_of_le SZ9.out hb.size)
          have RT10 := Lib.hid (RT9.out.step hb)
          clear k0 k1 k2 k3 k4 k5 k6 k7 k8 k9 j0 j1 j2 j3 j4 j5 j6 j7 j8 j9
          clear hb B9 XP9 SP9 XG9 SG9 XZ9 SZ9 RT9
          obtain ⟨z0, z1, z2, z3, z4, z5, z6, z7, z8, z9, zf0, zf1, zf2, zf3, zf4, zf5, zf6, zf7, zf8, zf9⟩ := XZ10.out
          go_wp2_with fail
          show bodyPost _ _ _ _ _ (putPb (w.heap.size + 2) s' A' n' c' lo' la' fu' sl' ro' ph' si' hi' w10)
          have BZ : Below w.heap.size w (putPb (w.heap.size + 2) s' A' n' c' lo' la' fu' sl' ro' ph' si' hi' w10) := B10.out.trans (putPb_below GZ.out)
          obtain ⟨z0, z1, z2, z3, z4, z5, z6, z7, z8, z9, -, -, -, -, -, -, -, -, -, -⟩ := (show BxPb (w.heap.size + 2) s' A' n' c' lo' la' fu' sl' ro' ph' si' hi' (putPb (w.heap.size + 2) s' A' n' c' lo' la' fu' sl' ro' ph' si' hi' w10) from XZ10.out.put)
          exact bodyPost_ret (v := aggPb s' A' n' c' lo' la' fu' sl' ro' ph' si' hi') (by simp [results, Tryd.results12, z0, z1, z2, z3, z4, z5, z6, z7, z8, z9, go_sem]) rfl ⟨A', c', rfl, (RT10.out.put LTZ.out _ _ _ _ _ _ _ _ _ _ _ _ ).wide QT.out (Nat.le_refl _), BZ⟩
    · by_cases h1 : Wig.best ss ≤ g7
      · obtain ⟨w1, hw1⟩ : ∃ wx, wx = w.alloc (.cells #[.int .i64 s, .slice A n c, .int .u64 (lo : Int), .int .u64 (la : Int), .int .u64 (fu : Int), .int .u64 (sl : Int), .int .u64 (ro : Int), .int .u64 (ph : Int), .int .u64 (si : Int), .int .u64 (hi : Int)] 26) := ⟨_, rfl⟩
        have z1 : w1.heap.size = w.heap.size + 1 := by rw [hw1]; simp
        obtain ⟨w2, hw2⟩ : ∃ wx, wx = w1.alloc (.cells #[.int .u64 (g0 : Int), .int .u64 (g1 : Int), .int .u64 (g2 : Int), .int .u64 (g3 : Int), .int .u64 (g4 : Int), .int .u64 (g5 : Int), .int .u64 (g6 : Int), .int .u64 (g7 : Int), .bool true, .bool true] 28) := ⟨_, rfl⟩
        have z2 : w2.heap.size = w.heap.size + 2 := by rw [hw2]; simp; omega
        obtain ⟨w3, hw3⟩ : ∃ wx, wx = w2.alloc (.cells #[.int .i64 0, .slice none 0 0, .int .u64 0, .int .u64 0, .int .u64 0, .int .u64 0, .int .u64 0, .int .u64 0, .int .u64 0, .int .u64 0] 26) := ⟨_, rfl⟩
        have z3 : w3.heap.size = w.heap.size + 3 := by rw [hw3]; simp; omega
        have t3 : Below w3.heap.size w3 w3 := Below.refl _ _
        have t2 : Below w2.heap.size w2 w3 := (show Below w2.heap.size w2 w3 by rw [hw3]; exact (Below.refl _ _).alloc (Nat.le_refl _) _).trans (t3.mono (by omega))
        have t1 : Below w1.heap.size w1 w3 := (show Below w1.heap.size w1 w2 by rw [hw2]; exact (Below.refl _ _).alloc (Nat.le_refl _) _).trans (t2.mono (by omega))
        have t0 : Below w.heap.size w w3 := (show Below w.heap.size w w1 by rw [hw1]; exact (Below.refl _ _).alloc (Nat.le_refl _) _).trans (t1.mono (by omega))
        have BN := Lib.hid t0
        have ZN := Lib.hid z3
        have XP := Lib.hid (show BxPb w.heap.size s A n c lo la fu sl ro ph si hi w3 from (show BxPb w.heap.size s A n c lo la fu sl ro ph si hi w1 by rw [hw1]; exact BxPb.new _ s A n c lo la fu sl ro ph si hi).below t1 (by omega))
        have XG := Lib.hid (show BxGt (w.heap.size + 1) g0 g1 g2 g3 g4 g5 g6 g7 true true w3 from (show BxGt (w.heap.size + 1) g0 g1 g2 g3 g4 g5 g6 g7 true true w2 by rw [hw2, ← z1]; exact BxGt.new _ g0 g1 g2 g3 g4 g5 g6 g7 true true).below t2 (by omega))
        have XZ := Lib.hid (show BxPb (w.heap.size + 2) 0 none 0 0 0 0 0 0 0 0 0 0 w3 from (show BxPb (w.heap.size + 2) 0 none 0 0 0 0 0 0 0 0 0 0 w3 by rw [hw3, ← z2]; exact BxPb.new _ 0 none 0 0 0 0 0 0 0 0 0 0).below t3 (by omega))
        clear t0 t1 t2 t3 z1 z2 z3
        have B3 := BN
        have XP3 := XP
        have SP3 := Lib.hid (show w.heap.size < w3.heap.size by have := ZN.out; omega)
        have GP := Lib.hid (show w.heap.size ≤ w.heap.size by omega)
        have XG3 := XG
        have SG3 := Lib.hid (show (w.heap.size + 1) < w3.heap.size by have := ZN.out; omega)
        have GG := Lib.hid (show w.heap.size ≤ (w.heap.size + 1) by omega)
        have OPG := Lib.hid (show w.heap.size < (w.heap.size + 1) by omega)
        have XZ3 := XZ
        have SZ3 := Lib.hid (show (w.heap.size + 2) < w3.heap.size by have := ZN.out; omega)
        have GZ := Lib.hid (show w.heap.size ≤ (w.heap.size + 2) by omega)
        have OPZ := Lib.hid (show w.heap.size < (w.heap.size + 2) by omega)
        have OGZ := Lib.hid (show (w.heap.size + 1) < (w.heap.size + 2) by omega)
        clear ZN BN XP XG XZ
        have hro : ro < 18446744073709551616 := hok.rounds
        have hhi : hi < 18446744073709551616 := hok.high
        have hla : la < 18446744073709551616 := hok.lowAt
        obtain ⟨R, hR1⟩ : ∃ R, Wig.fadd ro 1 = R := ⟨_, rfl⟩
        obtain ⟨d, hd⟩ : ∃ d, d = hi / 8 := ⟨_, rfl⟩
        obtain ⟨x, hx⟩ : ∃ x, Wig.fadd hi d = x := ⟨_, rfl⟩
        obtain ⟨H, hH⟩ : ∃ H, Wig.nheld x = H := ⟨_, rfl⟩
        have hr : Wig.pbround ⟨s, ss, lo, la, fu, sl, ro, ph, si, hi⟩ ⟨g0, g1, g2, g3, g4, g5, g6, g7, true, true⟩ = ⟨s, ss, lo, la, fu, sl, R, ph, si, H⟩ := by rw [← hH, ← hx, hd, ← hR1]; rfl
        have e1 : (hi : Int) / 8 = (d : Int) := by omega
        have e2 : IntKind.u64.wrap (d : Int) = (d : Int) := by rw [IntKind.wrap_u64]; omega
        have CA := Lib.hid (fun w => (show Calls Tryd.prog 29 #[.int .u64 (ro : Int), .int .u64 1] w fun e w' => e = .returned (.int .u64 (R : Int)) ∧ w = w' by rw [← hR1]; exact radd_any ro 1 w hro (by decide)))
        have CD := Lib.hid (fun w => (show Calls Tryd.prog 29 #[.int .u64 (hi : Int), .int .u64 (d : Int)] w fun e w' => e = .returned (.int .u64 (x : Int)) ∧ w = w' by rw [← hx]; exact radd_any hi d w hhi (by omega)))
        have CH := Lib.hid (fun w => rheld_any x H w hH)
        have ok1 : Wig.Pb.Ok ⟨s, ss, lo, la, fu, sl, R, ph, si, H⟩ := by rw [← hr]; exact Wig.pbround_ok hok
        have hs : (Wig.pbpush ⟨s, ss, lo, la, fu, sl, R, ph, si, H⟩ ⟨g0, g1, g2, g3, g4, g5, g6, g7, true, true⟩).rates = ss' := by rw [← hr, ← rpback_rates, he]
        obtain ⟨y, hy⟩ : ∃ y, Wig.fadd la 10000 = y := ⟨_, rfl⟩
        obtain ⟨q, hq⟩ : ∃ q, decide (y ≤ g0) = q := ⟨_, rfl⟩
        have hst : Wig.pbstale ⟨s, ss, lo, la, fu, sl, ro, ph, si, hi⟩ ⟨g0, g1, g2, g3, g4, g5, g6, g7, true, true⟩ = q := by rw [← hq, ← hy]; rfl
        have CY := Lib.hid (fun w => (show Calls Tryd.prog 29 #[.int .u64 (la : Int), .int .u64 10000] w fun e w' => e = .returned (.int .u64 (y : Int)) ∧ w = w' by rw [← hy]; exact radd_any la 10000 w hla (by decide)))
        have ok2 : Wig.Pb.Ok ⟨s, ss', lo, la, fu, sl, R, ph, si, H⟩ := by
          have h0 := Wig.pbpush_ok (g := ⟨g0, g1, g2, g3, g4, g5, g6, g7, true, true⟩) ok1 hg
          have e : Wig.pbpush ⟨s, ss, lo, la, fu, sl, R, ph, si, H⟩ ⟨g0, g1, g2, g3, g4, g5, g6, g7, true, true⟩ = ⟨s, ss', lo, la, fu, sl, R, ph, si, H⟩ := by
            rw [← hs]
            unfold Wig.pbpush
            split <;> rfl
          rw [e] at h0
          exact h0
        obtain ⟨b, hb⟩ : ∃ b, Wig.best ss = b := ⟨_, rfl⟩
        have CB := Lib.hid (fun (w0 : World) (hb0 : Below w.heap.size w w0) => (show Calls Tryd.prog 31 #[aggPb s A n c lo la fu sl R ph si H] w0 fun e w' => e = .returned (.int .u64 (b : Int)) ∧ Below w0.heap.size w0 w' from rbestp_any s A n c lo la fu sl R ph si H ss b w0 ok1 (hR.step hb0) hb))
        have t1 : decide (b ≤ g7) = true := decide_eq_true (by rw [← hb]; exact h1)
        have hs2 : Wig.pushed true 10 (R, g7) ss = ss' := by
          rw [← hs]
          unfold Wig.pbpush
          rw [if_pos (.inr (by simp only; rw [hb]; omega))]
        have hm2 : n' ≤ 400 := by
          rw [← hn', ← hs2]
          have h1 := Wig.pushed_le true 10 (R, g7) ss
          have h2 := hR.len
          omega
        have CU := Lib.hid (fun (w0 : World) (hb0 : Below w.heap.size w w0) => (show Calls Tryd.prog 32 #[.slice A n c, .int .u64 10, .agg #[.int .u64 (R : Int), .int .u64 (g7 : Int)]] w0 fun e w' => ∃ A' c', e = .returned (.slice A' n' c') ∧ Rt w' w0.heap.size w'.heap.size A' n' ss' ∧ Below w0.heap.size w0 w' from rpush_rt 10 R g7 ss ss' n n' A c w0 hn' hm2 (hR.step hb0) (by decide) ok1.rounds hg.2.2.2.2.2.2.2 hs2))
        clear hs2 hm2
        clear h1
        have CM := Lib.hid (fun (l3 a3 : Nat) (q' : Bool) (hq' : q = q') (hl : (if q = true ∨ g5 < lo then g5 else lo) = l3) (ha : (if q = true ∨ g5 < lo then g0 else la) = a3) (A' : Option Addr) (c' : Nat) (w0 : World) (hT : Rt w0 0 w0.heap.size A' n' ss') =>
          (show Calls Tryd.prog 33 #[aggPb s A' n' c' l3 a3 fu sl R ph si H, aggGt g0 g1 g2 g3 g4 g5 g6 g7 true true, .bool q'] w0 fun e w' => e = .returned (aggPb s' A' n' c' lo' la' fu' sl' ro' ph' si' hi') ∧ Below w0.heap.size w0 w' by
            subst hq'
            have ok3 : Wig.Pb.Ok ⟨s, ss', l3, a3, fu, sl, R, ph, si, H⟩ := ⟨ok2.s0, ok2.s1, ok2.rates, (by show l3 < _; rw [← hl]; split; exact hg.2.2.2.2.2.1; exact ok2.low), (by show a3 < _; rw [← ha]; split; exact hg.1; exact ok2.lowAt), ok2.full, ok2.still, ok2.rounds, ok2.phase, ok2.since, ok2.high⟩
            exact rmoved_any s A' n' c' l3 a3 fu sl R ph si H ss' g0 g1 g2 g3 g4 g5 g6 g7 true true q s' ss' lo' la' fu' sl' ro' ph' si' hi' w0 ok3 hT hg (by rw [← he]; exact (rpback_eq hr hs hst hl ha).symm)))
        have HQ := Lib.hid hq
        clear hok hR hg hn2 he hn' hro hhi hla hr ok1 hs hy hst ok2 hR1 hd hx hH hb
        have t5 := hq
        clear hq
        go_enter Tryd.func12, Tryd.ntmps12
        go_upto_region 1 with fail
        rw [← hw1, ← hw2, ← hw3]
        clear hw1 hw2 hw3
        have j9 := XG3.out.c9
        clear j9
        have k6 := XP3.out.c6
        have kf6 := XP3.out.f6
        have j9 := XG3.out.c9
        go_wp2_with fail
        refine (CA.out _).mono ?_
        rintro e _ ⟨rfl, rfl⟩
        go_upto_region 3 with fail
        obtain ⟨w4, hw⟩ : ∃ wx, wx = w3.setCell ⟨w.heap.size, 6, none⟩ (.int .u64 (R : Int)) := ⟨_, rfl⟩
        rw [← hw]
        have XP4 := Lib.hid (show BxPb w.heap.size s A n c lo la fu sl R ph si hi w4 by rw [hw]; exact XP3.out.set6)
        have B4 := Lib.hid (show Below w.heap.size w w4 by rw [hw]; exact Below.setCell B3.out GP.out _)
        have SP4 := Lib.hid (show w.heap.size < w4.heap.size by rw [hw]; have := SP3.out; simpa using this)
        have XG4 := Lib.hid (show BxGt (w.heap.size + 1) g0 g1 g2 g3 g4 g5 g6 g7 true true w4 by rw [hw]; exact XG3.out.other rfl (Nat.ne_of_lt OPG.out))
        have SG4 := Lib.hid (show (w.heap.size + 1) < w4.heap.size by rw [hw]; have := SG3.out; simpa using this)
        have XZ4 := Lib.hid (show BxPb (w.heap.size + 2) 0 none 0 0 0 0 0 0 0 0 0 0 w4 by rw [hw]; exact XZ3.out.other rfl (Nat.ne_of_lt OPZ.out))
        have SZ4 := Lib.hid (show (w.heap.size + 2) < w4.heap.size by rw [hw]; have := SZ3.out; simpa using this)
        clear k6 kf6 j9
        clear hw B3 XP3 SP3 XG3 SG3 XZ3 SZ3
        have k9 := XP4.out.c9
        have kf9 := XP4.out.f9
        go_wp2_with fail
        refine (CD.out _).mono ?_
        rintro e _ ⟨rfl, rfl⟩
        go_wp2_with fail
        refine (CH.out _).mono ?_
        rintro e _ ⟨rfl, rfl⟩
        go_upto_region 4 with fail
        obtain ⟨w5, hw⟩ : ∃ wx, wx = w4.setCell ⟨w.heap.size, 9, none⟩ (.int .u64 (H : Int)) := ⟨_, rfl⟩
        rw [← hw]
        have XP5 := Lib.hid (show BxPb w.heap.size s A n c lo la fu sl R ph si H w5 by rw [hw]; exact XP4.out.set9)
        have B5 := Lib.hid (show Below w.heap.size w w5 by rw [hw]; exact Below.setCell B4.out GP.out _)
        have SP5 := Lib.hid (show w.heap.size < w5.heap.size by rw [hw]; have := SP4.out; simpa using this)
        have XG5 := Lib.hid (show BxGt (w.heap.size + 1) g0 g1 g2 g3 g4 g5 g6 g7 true true w5 by rw [hw]; exact XG4.out.other rfl (Nat.ne_of_lt OPG.out))
        have SG5 := Lib.hid (show (w.heap.size + 1) < w5.heap.size by rw [hw]; have := SG4.out; simpa using this)
        have XZ5 := Lib.hid (show BxPb (w.heap.size + 2) 0 none 0 0 0 0 0 0 0 0 0 0 w5 by rw [hw]; exact XZ4.out.other rfl (Nat.ne_of_lt OPZ.out))
        have SZ5 := Lib.hid (show (w.heap.size + 2) < w5.heap.size by rw [hw]; have := SZ4.out; simpa using this)
        clear k9 kf9
        clear hw B4 XP4 SP4 XG4 SG4 XZ4 SZ4
        refine wp_region_held_drew (S := fun wx => BxPb w.heap.size s A n c lo la fu sl R ph si H wx ∧ BxGt (w.heap.size + 1) g0 g1 g2 g3 g4 g5 g6 g7 true true wx ∧ BxPb (w.heap.size + 2) 0 none 0 0 0 0 0 0 0 0 0 0 wx ∧ Below w5.heap.size w5 wx) (by kernel_rfl) ?_ (fun hHeld => ?_)
        · exact ⟨XP5.out.drew, XG5.out.drew, XZ5.out.drew, (Below.refl _ _).drew⟩
        refine held_take (v := ?vv177) 0 rfl (by kernel_rfl) (by kernel_rfl) (by kernel_rfl) (fun _ _ _ h => h) (by rfl) ?yy177 (by assumption) ?nn177
        case yy177 =>
          intro w hSw
          (try dsimp only at hSw)
          go_simp
          try with_reducible rfl
        try simp only [Act.put, List.setIfInBounds_toArray, List.set_cons_zero, List.set_cons_succ]
        refine held_take (v := .bool true) 1 rfl (by kernel_rfl) (by kernel_rfl) (by kernel_rfl) (fun _ _ _ h => h) (by rfl) (fun wx hSw => by have c := hSw.2.1.c8; clear hSw; go_simp) (by assumption) ?_
        try simp only [Act.put, List.setIfInBounds_toArray, List.set_cons_zero, List.set_cons_succ]
        refine held_take (v := ?vv179) 2 rfl (by kernel_rfl) (by kernel_rfl) (by kernel_rfl) (fun _ _ _ h => h) (by rfl) ?yy179 (by assumption) ?nn179
        case yy179 =>
          intro w hSw
          (try dsimp only at hSw)
          go_simp
          try with_reducible rfl
        try simp only [Act.put, List.setIfInBounds_toArray, List.set_cons_zero, List.set_cons_succ]
        refine held_take (v := ?vv180) 3 rfl (by kernel_rfl) (by kernel_rfl) (by kernel_rfl) (fun _ _ _ h => h) (by rfl) ?yy180 (by assumption) ?nn180
        case yy180 =>
          intro w hSw
          (try dsimp only at hSw)
          go_simp
          try with_reducible rfl
        try simp only [Act.put, List.setIfInBounds_toArray, List.set_cons_zero, List.set_cons_succ]
        refine held_take (v := ?vv181) 4 rfl (by kernel_rfl) (by kernel_rfl) (by kernel_rfl) (fun _ _ _ h => h) (by rfl) ?yy181 (by assumption) ?nn181
        case yy181 =>
          intro w hSw
          (try dsimp only at hSw)
          go_simp
          try with_reducible rfl
        try simp only [Act.put, List.setIfInBounds_toArray, List.set_cons_zero, List.set_cons_succ]
        refine held_take (v := .int .u64 (g7 : Int)) 5 rfl (by kernel_rfl) (by kernel_rfl) (by kernel_rfl) (fun _ _ _ h => h) (by rfl) (fun wx hSw => by have c := hSw.2.1.c7; clear hSw; go_simp) (by assumption) ?_
        try simp only [Act.put, List.setIfInBounds_toArray, List.set_cons_zero, List.set_cons_succ]
        refine held_take (v := .agg #[.int .i64 s, .slice A n c, .int .u64 (lo : Int), .int .u64 (la : Int), .int .u64 (fu : Int), .int .u64 (sl : Int), .int .u64 (R : Int), .int .u64 (ph : Int), .int .u64 (si : Int), .int .u64 (H : Int)]) 6 rfl (by kernel_rfl) (by kernel_rfl) (by kernel_rfl) (fun _ _ _ h => h) (by rfl) (fun wx hSw => by obtain ⟨c0, c1, c2, c3, c4, c5, c6, c7, c8, c9, -, -, -, -, -, -, -, -, -, -⟩ := hSw.1; clear hSw; go_simp) (by assumption) ?_
        try simp only [Act.put, List.setIfInBounds_toArray, List.set_cons_zero, List.set_cons_succ]
        refine held_do 7 rfl (by kernel_rfl) (by rfl) (fun K hK => ?_)
        go_wp2_with (go_at_call 31; refine (CB.out _ (below_trans' B5.out hHeld.2.2.2)).mono ?_; rintro e w6 ⟨rfl, hb6⟩; have K6 := Lib.hid (Below.trans hHeld.2.2.2 (hb6.mono hHeld.2.2.2.size)); clear hb6)
        refine hK.out _ _ ?_ (fun hHeld => ?_)
        · exact ⟨XP5.out.below K6.out SP5.out, XG5.out.below K6.out SG5.out, XZ5.out.below K6.out SZ5.out, K6.out⟩
        clear hK K
        try simp only [Act.put, List.setIfInBounds_toArray, List.set_cons_zero, List.set_cons_succ]
        refine held_take (v := ?vv185) 8 rfl (by kernel_rfl) (by kernel_rfl) (by kernel_rfl) (fun _ _ _ h => h) (by rfl) ?yy185 (by assumption) ?nn185
        case yy185 =>
          intro w hSw
          (try dsimp only at hSw)
          go_simp
          try with_reducible rfl
        try simp only [Act.put, List.setIfInBounds_toArray, List.set_cons_zero, List.set_cons_succ]
        refine held_take (v := ?vv186) 9 rfl (by kernel_rfl) (by kernel_rfl) (by kernel_rfl) (fun _ _ _ h => h) (by rfl) ?yy186 (by assumption) ?nn186
        case yy186 =>
          intro w hSw
          (try dsimp only at hSw)
          go_simp
          try with_reducible rfl
        try simp only [Act.put, List.setIfInBounds_toArray, List.set_cons_zero, List.set_cons_succ]
        refine wpAnyH_done (by kernel_rfl) ?_ _
        clear hHeld
        have B6 := Lib.hid (below_trans' B5.out K6.out)
        have XP6 := Lib.hid (XP5.out.below K6.out SP5.out)
        have SP6 := Lib.hid (Nat.lt_of_lt_of_le SP5.out K6.out.size)
        have XG6 := Lib.hid (XG5.out.below K6.out SG5.out)
        have SG6 := Lib.hid (Nat.lt_of_lt_of_le SG5.out K6.out.size)
        have XZ6 := Lib.hid (XZ5.out.below K6.out SZ5.out)
        have SZ6 := Lib.hid (Nat.lt_of_lt_of_le SZ5.out K6.out.size)
        clear B5 XP5 SP5 XG5 SG5 XZ5 SZ5
        have k1 := XP6.out.c1
        have k6 := XP6.out.c6
        have j7 := XG6.out.c7
        go_wp2_with fail
        refine (CU.out _ B6.out).mono ?_
        rintro e w7 ⟨A', c', rfl, hr, hb⟩
        have LTP := Lib.hid (show w.heap.size < w6.heap.size from SP6.out)
        have LTG := Lib.hid (show (w.heap.size + 1) < w6.heap.size from SG6.out)
        have LTZ := Lib.hid (show (w.heap.size + 2) < w6.heap.size from SZ6.out)
        have QT := Lib.hid (show w.heap.size ≤ w6.heap.size from B6.out.size)
        have B7 := Lib.hid (below_trans' B6.out hb)
        have XP7 := Lib.hid (XP6.out.below hb SP6.out)
        have SP7 := Lib.hid (Nat.lt_of_lt_of_le SP6.out hb.size)
        have XG7 := Lib.hid (XG6.out.below hb SG6.out)
        have SG7 := Lib.hid (Nat.lt_of_lt_of_le SG6.out hb.size)
        have XZ7 := Lib.hid (XZ6.out.below hb SZ6.out)
        have SZ7 := Lib.hid (Nat.lt_of_lt_of_le SZ6.out hb.size)
        clear k1 k6 j7
        clear hb B6 XP6 SP6 XG6 SG6 XZ6 SZ6
        have RT7 := Lib.hid hr
        clear hr
        have k1 := XP7.out.c1
        have kf1 := XP7.out.f1
        go_upto_region 7 with fail
        obtain ⟨w8, hw⟩ : ∃ wx, wx = w7.setCell ⟨w.heap.size, 1, none⟩ (.slice A' n' c') := ⟨_, rfl⟩
        rw [← hw]
        have XP8 := Lib.hid (show BxPb w.heap.size s A' n' c' lo la fu sl R ph si H w8 by rw [hw]; exact XP7.out.set1)
        have B8 := Lib.hid (show Below w.heap.size w w8 by rw [hw]; exact Below.setCell B7.out GP.out _)
        have SP8 := Lib.hid (show w.heap.size < w8.heap.size by rw [hw]; have := SP7.out; simpa using this)
        have XG8 := Lib.hid (show BxGt (w.heap.size + 1) g0 g1 g2 g3 g4 g5 g6 g7 true true w8 by rw [hw]; exact XG7.out.other rfl (Nat.ne_of_lt OPG.out))
        have SG8 := Lib.hid (show (w.heap.size + 1) < w8.heap.size by rw [hw]; have := SG7.out; simpa using this)
        have XZ8 := Lib.hid (show BxPb (w.heap.size + 2) 0 none 0 0 0 0 0 0 0 0 0 0 w8 by rw [hw]; exact XZ7.out.other rfl (Nat.ne_of_lt OPZ.out))
        have SZ8 := Lib.hid (show (w.heap.size + 2) < w8.heap.size by rw [hw]; have := SZ7.out; simpa using this)
        have RT8 := Lib.hid (show Rt w8 w6.heap.size w8.heap.size A' n' ss' by rw [hw]; exact RT7.out.set LTP.out)
        clear k1 kf1
        clear hw B7 XP7 SP7 XG7 SG7 XZ7 SZ7 RT7
        have k3 := XP8.out.c3
        have j0 := XG8.out.c0
        go_quiet (first | (go_at_call 29; with_reducible exact quiet_eq (CY.out _)) | fail)
        obtain ⟨w9, hw⟩ : ∃ wx, wx = w8.drewN nq := ⟨_, rfl⟩
        rw [← hw]
        have B9 := Lib.hid (show Below w.heap.size w w9 by rw [hw]; exact below_drewN' B8.out nq)
        have XP9 := Lib.hid (show BxPb w.heap.size s A' n' c' lo la fu sl R ph si H w9 by rw [hw]; exact XP8.out.drewN nq)
        have SP9 := Lib.hid (show w.heap.size < w9.heap.size by rw [hw]; exact SP8.out)
        have XG9 := Lib.hid (show BxGt (w.heap.size + 1) g0 g1 g2 g3 g4 g5 g6 g7 true true w9 by rw [hw]; exact XG8.out.drewN nq)
        have SG9 := Lib.hid (show (w.heap.size + 1) < w9.heap.size by rw [hw]; exact SG8.out)
        have XZ9 := Lib.hid (show BxPb (w.heap.size + 2) 0 none 0 0 0 0 0 0 0 0 0 0 w9 by rw [hw]; exact XZ8.out.drewN nq)
        have SZ9 := Lib.hid (show (w.heap.size + 2) < w9.heap.size by rw [hw]; exact SZ8.out)
        have RT9 := Lib.hid (show Rt w9 w6.heap.size w9.heap.size A' n' ss' by rw [hw]; exact RT8.out.drewN nq)
        clear k3 j0
        clear hw B8 XP8 SP8 XG8 SG8 XZ8 SZ8 RT8
        by_cases hq : q = true
        · have HQQ := Lib.hid hq
          have HIF := Lib.hid (show q = true ∨ g5 < lo from .inl hq)
          rw [hq]
          clear hq t5 HQ
          go_upto_region 9 with fail
          have k2 := XP9.out.c2
          have kf2 := XP9.out.f2
          have j5 := XG9.out.c5
          go_upto_region 10 with fail
          obtain ⟨w10, hw⟩ : ∃ wx, wx = w9.setCell ⟨w.heap.size, 2, none⟩ (.int .u64 (g5 : Int)) := ⟨_, rfl⟩
          rw [← hw]
          have XP10 := Lib.hid (show BxPb w.heap.size s A' n' c' g5 la fu sl R ph si H w10 by rw [hw]; exact XP9.out.set2)
          have B10 := Lib.hid (show Below w.heap.size w w10 by rw [hw]; exact Below.setCell B9.out GP.out _)
          have SP10 := Lib.hid (show w.heap.size < w10.heap.size by rw [hw]; have := SP9.out; simpa using this)
          have XG10 := Lib.hid (show BxGt (w.heap.size + 1) g0 g1 g2 g3 g4 g5 g6 g7 true true w10 by rw [hw]; exact XG9.out.other rfl (Nat.ne_of_lt OPG.out))
          have SG10 := Lib.hid (show (w.heap.size + 1) < w10.heap.size by rw [hw]; have := SG9.out; simpa using this)
          have XZ10 := Lib.hid (show BxPb (w.heap.size + 2) 0 none 0 0 0 0 0 0 0 0 0 0 w10 by rw [hw]; exact XZ9.out.other rfl (Nat.ne_of_lt OPZ.out))
          have SZ10 := Lib.hid (show (w.heap.size + 2) < w10.heap.size by rw [hw]; have := SZ9.out; simpa using this)
          have RT10 := Lib.hid (show Rt w10 w6.heap.size w10.heap.size A' n' ss' by rw [hw]; exact RT9.out.set LTP.out)
          clear k2 kf2 j5
          clear hw B9 XP9 SP9 XG9 SG9 XZ9 SZ9 RT9
          have k3 := XP10.out.c3
          have kf3 := XP10.out.f3
          have j0 := XG10.out.c0
          go_upto_region 11 with fail
          obtain ⟨w11, hw⟩ : ∃ wx, wx = w10.setCell ⟨w.heap.size, 3, none⟩ (.int .u64 (g0 : Int)) := ⟨_, rfl⟩
          rw [← hw]
          have XP11 := Lib.hid (show BxPb w.heap.size s A' n' c' g5 g0 fu sl R ph si H w11 by rw [hw]; exact XP10.out.set3)
          have B11 := Lib.hid (show Below w.heap.size w w11 by rw [hw]; exact Below.setCell B10.out GP.out _)
          have SP11 := Lib.hid (show w.heap.size < w11.heap.size by rw [hw]; have := SP10.out; simpa using this)
          have XG11 := Lib.hid (show BxGt (w.heap.size + 1) g0 g1 g2 g3 g4 g5 g6 g7 true true w11 by rw [hw]; exact XG10.out.other rfl (Nat.ne_of_lt OPG.out))
          have SG11 := Lib.hid (show (w.heap.size + 1) < w11.heap.size by rw [hw]; have := SG10.out; simpa using this)
          have XZ11 := Lib.hid (show BxPb (w.heap.size + 2) 0 none 0 0 0 0 0 0 0 0 0 0 w11 by rw [hw]; exact XZ10.out.other rfl (Nat.ne_of_lt OPZ.out))
          have SZ11 := Lib.hid (show (w.heap.size + 2) < w11.heap.size by rw [hw]; have := SZ10.out; simpa using this)
          have RT11 := Lib.hid (show Rt w11 w6.heap.size w11.heap.size A' n' ss' by rw [hw]; exact RT10.out.set LTP.out)
          clear k3 kf3 j0
          clear hw B10 XP10 SP10 XG10 SG10 XZ10 SZ10 RT10
          obtain ⟨k0, k1, k2, k3, k4, k5, k6, k7, k8, k9, -, -, -, -, -, -, -, -, -, -⟩ := XP11.out
          obtain ⟨j0, j1, j2, j3, j4, j5, j6, j7, j8, j9, -, -, -, -, -, -, -, -, -, -⟩ := XG11.out
          go_wp2_with fail
          refine (CM.out g5 g0 true HQQ.out (if_pos HIF.out) (if_pos HIF.out) A' c' _ RT11.out.low).mono ?_
          rintro e w12 ⟨rfl, hb⟩
          have B12 := Lib.hid (below_trans' B11.out hb)
          have XP12 := Lib.hid (XP11.out.below hb SP11.out)
          have SP12 := Lib.hid (Nat.lt_of_lt_of_le SP11.out hb.size)
          have XG12 := Lib.hid (XG11.out.below hb SG11.out)
          have SG12 := Lib.hid (Nat.lt_of_lt_of_le SG11.out hb.size)
          have XZ12 := Lib.hid (XZ11.out.below hb SZ11.out)
          have SZ12 := Lib.hid (Nat.lt_of_lt_of_le SZ11.out hb.size)
          have RT12 := Lib.hid (RT11.out.step hb)
          clear k0 k1 k2 k3 k4 k5 k6 k7 k8 k9 j0 j1 j2 j3 j4 j5 j6 j7 j8 j9
          clear hb B11 XP11 SP11 XG11 SG11 XZ11 SZ11 RT11
          obtain ⟨z0, z1, z2, z3, z4, z5, z6, z7, z8, z9, zf0, zf1, zf2, zf3, zf4, zf5, zf6, zf7, zf8, zf9⟩ := XZ12.out
          go_wp2_with fail
          show bodyPost _ _ _ _ _ (putPb (w.heap.size + 2) s' A' n' c' lo' la' fu' sl' ro' ph' si' hi' w12)
          have BZ : Below w.heap.size w (putPb (w.heap.size + 2) s' A' n' c' lo' la' fu' sl' ro' ph' si' hi' w12) := B12.out.trans (putPb_below GZ.out)
          obtain ⟨z0, z1, z2, z3, z4, z5, z6, z7, z8, z9, -, -, -, -, -, -, -, -, -, -⟩ := (show BxPb (w.heap.size + 2) s' A' n' c' lo' la' fu' sl' ro' ph' si' hi' (putPb (w.heap.size + 2) s' A' n' c' lo' la' fu' sl' ro' ph' si' hi' w12) from XZ12.out.put)
          exact bodyPost_ret (v := aggPb s' A' n' c' lo' la' fu' sl' ro' ph' si' hi') (by simp [results, Tryd.results12, z0, z1, z2, z3, z4, z5, z6, z7, z8, z9, go_sem]) rfl ⟨A', c', rfl, (RT12.out.put LTZ.out _ _ _ _ _ _ _ _ _ _ _ _ ).wide QT.out (Nat.le_refl _), BZ⟩
        · have hq : q = false := by simpa using hq
          have HQQ := Lib.hid hq
          by_cases h6 : g5 < lo
          · have HIF := Lib.hid (show q = true ∨ g5 < lo from .inr h6)
            have t6 : decide (g5 < lo) = true := decide_eq_true h6
            rw [hq]
            clear hq t5 HQ h6
            have j5 := XG9.out.c5
            have k2 := XP9.out.c2
            go_upto_region 9 with fail
            clear j5 k2
            have k2 := XP9.out.c2
            have kf2 := XP9.out.f2
            have j5 := XG9.out.c5
            go_upto_region 10 with fail
            obtain ⟨w10, hw⟩ : ∃ wx, wx = w9.setCell ⟨w.heap.size, 2, none⟩ (.int .u64 (g5 : Int)) := ⟨_, rfl⟩
            rw [← hw]
            have XP10 := Lib.hid (show BxPb w.heap.size s A' n' c' g5 la fu sl R ph si H w10 by rw [hw]; exact XP9.out.set2)
            have B10 := Lib.hid (show Below w.heap.size w w10 by rw [hw]; exact Below.setCell B9.out GP.out _)
            have SP10 := Lib.hid (show w.heap.size < w10.heap.size by rw [hw]; have := SP9.out; simpa using this)
            have XG10 := Lib.hid (show BxGt (w.heap.size + 1) g0 g1 g2 g3 g4 g5 g6 g7 true true w10 by rw [hw]; exact XG9.out.other rfl (Nat.ne_of_lt OPG.out))
            have SG10 := Lib.hid (show (w.heap.size + 1) < w10.heap.size by rw [hw]; have := SG9.out; simpa using this)
            have XZ10 := Lib.hid (show BxPb (w.heap.size + 2) 0 none 0 0 0 0 0 0 0 0 0 0 w10 by rw [hw]; exact XZ9.out.other rfl (Nat.ne_of_lt OPZ.out))
            have SZ10 := Lib.hid (show (w.heap.size + 2) < w10.heap.size by rw [hw]; have := SZ9.out; simpa using this)
            have RT10 := Lib.hid (show Rt w10 w6.heap.size w10.heap.size A' n' ss' by rw [hw]; exact RT9.out.set LTP.out)
            clear k2 kf2 j5
            clear hw B9 XP9 SP9 XG9 SG9 XZ9 SZ9 RT9
            have k3 := XP10.out.c3
            have kf3 := XP10.out.f3
            have j0 := XG10.out.c0
            go_upto_region 11 with fail
            obtain ⟨w11, hw⟩ : ∃ wx, wx = w10.setCell ⟨w.heap.size, 3, none⟩ (.int .u64 (g0 : Int)) := ⟨_, rfl⟩
            rw [← hw]
            have XP11 := Lib.hid (show BxPb w.heap.size s A' n' c' g5 g0 fu sl R ph si H w11 by rw [hw]; exact XP10.out.set3)
            have B11 := Lib.hid (show Below w.heap.size w w11 by rw [hw]; exact Below.setCell B10.out GP.out _)
            have SP11 := Lib.hid (show w.heap.size < w11.heap.size by rw [hw]; have := SP10.out; simpa using this)
            have XG11 := Lib.hid (show BxGt (w.heap.size + 1) g0 g1 g2 g3 g4 g5 g6 g7 true true w11 by rw [hw]; exact XG10.out.other rfl (Nat.ne_of_lt OPG.out))
            have SG11 := Lib.hid (show (w.heap.size + 1) < w11.heap.size by rw [hw]; have := SG10.out; simpa using this)
            have XZ11 := Lib.hid (show BxPb (w.heap.size + 2) 0 none 0 0 0 0 0 0 0 0 0 0 w11 by rw [hw]; exact XZ10.out.other rfl (Nat.ne_of_lt OPZ.out))
            have SZ11 := Lib.hid (show (w.heap.size + 2) < w11.heap.size by rw [hw]; have := SZ10.out; simpa using this)
            have RT11 := Lib.hid (show Rt w11 w6.heap.size w11.heap.size A' n' ss' by rw [hw]; exact RT10.out.set LTP.out)
            clear k3 kf3 j0
            clear hw B10 XP10 SP10 XG10 SG10 XZ10 SZ10 RT10
            obtain ⟨k0, k1, k2, k3, k4, k5, k6, k7, k8, k9, -, -, -, -, -, -, -, -, -, -⟩ := XP11.out
            obtain ⟨j0, j1, j2, j3, j4, j5, j6, j7, j8, j9, -, -, -, -, -, -, -, -, -, -⟩ := XG11.out
            go_wp2_with fail
            refine (CM.out g5 g0 false HQQ.out (if_pos HIF.out) (if_pos HIF.out) A' c' _ RT11.out.low).mono ?_
            rintro e w12 ⟨rfl, hb⟩
            have B12 := Lib.hid (below_trans' B11.out hb)
            have XP12 := Lib.hid (XP11.out.below hb SP11.out)
            have SP12 := Lib.hid (Nat.lt_of_lt_of_le SP11.out hb.size)
            have XG12 := Lib.hid (XG11.out.below hb SG11.out)
            have SG12 := Lib.hid (Nat.lt_of_lt_of_le SG11.out hb.size)
            have XZ12 := Lib.hid (XZ11.out.below hb SZ11.out)
            have SZ12 := Lib.hid (Nat.lt_of_lt_of_le SZ11.out hb.size)
            have RT12 := Lib.hid (RT11.out.step hb)
            clear k0 k1 k2 k3 k4 k5 k6 k7 k8 k9 j0 j1 j2 j3 j4 j5 j6 j7 j8 j9
            clear hb B11 XP11 SP11 XG11 SG11 XZ11 SZ11 RT11
            obtain ⟨z0, z1, z2, z3, z4, z5, z6, z7, z8, z9, zf0, zf1, zf2, zf3, zf4, zf5, zf6, zf7, zf8, zf9⟩ := XZ12.out
            go_wp2_with fail
            show bodyPost _ _ _ _ _ (putPb (w.heap.size + 2) s' A' n' c' lo' la' fu' sl' ro' ph' si' hi' w12)
            have BZ : Below w.heap.size w (putPb (w.heap.size + 2) s' A' n' c' lo' la' fu' sl' ro' ph' si' hi' w12) := B12.out.trans (putPb_below GZ.out)
            obtain ⟨z0, z1, z2, z3, z4, z5, z6, z7, z8, z9, -, -, -, -, -, -, -, -, -, -⟩ := (show BxPb (w.heap.size + 2) s' A' n' c' lo' la' fu' sl' ro' ph' si' hi' (putPb (w.heap.size + 2) s' A' n' c' lo' la' fu' sl' ro' ph' si' hi' w12) from XZ12.out.put)
            exact bodyPost_ret (v := aggPb s' A' n' c' lo' la' fu' sl' ro' ph' si' hi') (by simp [results, Tryd.results12, z0, z1, z2, z3, z4, z5, z6, z7, z8, z9, go_sem]) rfl ⟨A', c', rfl, (RT12.out.put LTZ.out _ _ _ _ _ _ _ _ _ _ _ _ ).wide QT.out (Nat.le_refl _), BZ⟩
          · have HIF := Lib.hid (show ¬ (q = true ∨ g5 < lo) by rw [hq]; simp; omega)
            have t6 : decide (g5 < lo) = false := decide_eq_false h6
            rw [hq]
            clear hq t5 HQ h6
            have j5 := XG9.out.c5
            have k2 := XP9.out.c2
            go_upto_region 11 with fail
            clear j5 k2
            obtain ⟨k0, k1, k2, k3, k4, k5, k6, k7, k8, k9, -, -, -, -, -, -, -, -, -, -⟩ := XP9.out
            obtain ⟨j0, j1, j2, j3, j4, j5, j6, j7, j8, j9, -, -, -, -, -, -, -, -, -, -⟩ := XG9.out
            go_wp2_with fail
            refine (CM.out lo la false HQQ.out (if_neg HIF.out) (if_neg HIF.out) A' c' _ RT9.out.low).mono ?_
            rintro e w10 ⟨rfl, hb⟩
            have B10 := Lib.hid (below_trans' B9.out hb)
            have XP10 := Lib.hid (XP9.out.below hb SP9.out)
            have SP10 := Lib.hid (Nat.lt_of_lt_of_le SP9.out hb.size)
            have XG10 := Lib.hid (XG9.out.below hb SG9.out)
            have SG10 := Lib.hid (Nat.lt_of_lt_of_le SG9.out hb.size)
            have XZ10 := Lib.hid (XZ9.out.below hb SZ9.out)
            have SZ10 := Lib.hid (Nat.lt_of_lt_of_le SZ9.out hb.size)
            have RT10 := Lib.hid (RT9.out.step hb)
            clear k0 k1 k2 k3 k4 k5 k6 k7 k8 k9 j0 j1 j2 j3 j4 j5 j6 j7 j8 j9
            clear hb B9 XP9 SP9 XG9 SG9 XZ9 SZ9 RT9
            obtain ⟨z0, z1, z2, z3, z4, z5, z6, z7, z8, z9, zf0, zf1, zf2, zf3, zf4, zf5, zf6, zf7, zf8, zf9⟩ := XZ10.out
            go_wp2_with fail
            show bodyPost _ _ _ _ _ (putPb (w.heap.size + 2) s' A' n' c' lo' la' fu' sl' ro' ph' si' hi' w10)
            have BZ : Below w.heap.size w (putPb (w.heap.size + 2) s' A' n' c' lo' la' fu' sl' ro' ph' si' hi' w10) := B10.out.trans (putPb_below GZ.out)
            obtain ⟨z0, z1, z2, z3, z4, z5, z6, z7, z8, z9, -, -, -, -, -, -, -, -, -, -⟩ := (show BxPb (w.heap.size + 2) s' A' n' c' lo' la' fu' sl' ro' ph' si' hi' (putPb (w.heap.size + 2) s' A' n' c' lo' la' fu' sl' ro' ph' si' hi' w10) from XZ10.out.put)
            exact bodyPost_ret (v := aggPb s' A' n' c' lo' la' fu' sl' ro' ph' si' hi') (by simp [results, Tryd.results12, z0, z1, z2, z3, z4, z5, z6, z7, z8, z9, go_sem]) rfl ⟨A', c', rfl, (RT10.out.put LTZ.out _ _ _ _ _ _ _ _ _ _ _ _ ).wide QT.out (Nat.le_refl _), BZ⟩
      · obtain ⟨w1, hw1⟩ : ∃ wx, wx = w.alloc (.cells #[.int .i64 s, .slice A n c, .int .u64 (lo : Int), .int .u64 (la : Int), .int .u64 (fu : Int), .int .u64 (sl : Int), .int .u64 (ro : Int), .int .u64 (ph : Int), .int .u64 (si : Int), .int .u64 (hi : Int)] 26) := ⟨_, rfl⟩
        have z1 : w1.heap.size = w.heap.size + 1 := by rw [hw1]; simp
        obtain ⟨w2, hw2⟩ : ∃ wx, wx = w1.alloc (.cells #[.int .u64 (g0 : Int), .int .u64 (g1 : Int), .int .u64 (g2 : Int), .int .u64 (g3 : Int), .int .u64 (g4 : Int), .int .u64 (g5 : Int), .int .u64 (g6 : Int), .int .u64 (g7 : Int), .bool true, .bool true] 28) := ⟨_, rfl⟩
        have z2 : w2.heap.size = w.heap.size + 2 := by rw [hw2]; simp; omega
        obtain ⟨w3, hw3⟩ : ∃ wx, wx = w2.alloc (.cells #[.int .i64 0, .slice none 0 0, .int .u64 0, .int .u64 0, .int .u64 0, .int .u64 0, .int .u64 0, .int .u64 0, .int .u64 0, .int .u64 0] 26) := ⟨_, rfl⟩
        have z3 : w3.heap.size = w.heap.size + 3 := by rw [hw3]; simp; omega
        have t3 : Below w3.heap.size w3 w3 := Below.refl _ _
        have t2 : Below w2.heap.size w2 w3 := (show Below w2.heap.size w2 w3 by rw [hw3]; exact (Below.refl _ _).alloc (Nat.le_refl _) _).trans (t3.mono (by omega))
        have t1 : Below w1.heap.size w1 w3 := (show Below w1.heap.size w1 w2 by rw [hw2]; exact (Below.refl _ _).alloc (Nat.le_refl _) _).trans (t2.mono (by omega))
        have t0 : Below w.heap.size w w3 := (show Below w.heap.size w w1 by rw [hw1]; exact (Below.refl _ _).alloc (Nat.le_refl _) _).trans (t1.mono (by omega))
        have BN := Lib.hid t0
        have ZN := Lib.hid z3
        have XP := Lib.hid (show BxPb w.heap.size s A n c lo la fu sl ro ph si hi w3 from (show BxPb w.heap.size s A n c lo la fu sl ro ph si hi w1 by rw [hw1]; exact BxPb.new _ s A n c lo la fu sl ro ph si hi).below t1 (by omega))
        have XG := Lib.hid (show BxGt (w.heap.size + 1) g0 g1 g2 g3 g4 g5 g6 g7 true true w3 from (show BxGt (w.heap.size + 1) g0 g1 g2 g3 g4 g5 g6 g7 true true w2 by rw [hw2, ← z1]; exact BxGt.new _ g0 g1 g2 g3 g4 g5 g6 g7 true true).below t2 (by omega))
        have XZ := Lib.hid (show BxPb (w.heap.size + 2) 0 none 0 0 0 0 0 0 0 0 0 0 w3 from (show BxPb (w.heap.size + 2) 0 none 0 0 0 0 0 0 0 0 0 0 w3 by rw [hw3, ← z2]; exact BxPb.new _ 0 none 0 0 0 0 0 0 0 0 0 0).below t3 (by omega))
        clear t0 t1 t2 t3 z1 z2 z3
        have B3 := BN
        have XP3 := XP
        have SP3 := Lib.hid (show w.heap.size < w3.heap.size by have := ZN.out; omega)
        have GP := Lib.hid (show w.heap.size ≤ w.heap.size by omega)
        have XG3 := XG
        have SG3 := Lib.hid (show (w.heap.size + 1) < w3.heap.size by have := ZN.out; omega)
        have GG := Lib.hid (show w.heap.size ≤ (w.heap.size + 1) by omega)
        have OPG := Lib.hid (show w.heap.size < (w.heap.size + 1) by omega)
        have XZ3 := XZ
        have SZ3 := Lib.hid (show (w.heap.size + 2) < w3.heap.size by have := ZN.out; omega)
        have GZ := Lib.hid (show w.heap.size ≤ (w.heap.size + 2) by omega)
        have OPZ := Lib.hid (show w.heap.size < (w.heap.size + 2) by omega)
        have OGZ := Lib.hid (show (w.heap.size + 1) < (w.heap.size + 2) by omega)
        clear ZN BN XP XG XZ
        have hro : ro < 18446744073709551616 := hok.rounds
        have hhi : hi < 18446744073709551616 := hok.high
        have hla : la < 18446744073709551616 := hok.lowAt
        obtain ⟨R, hR1⟩ : ∃ R, Wig.fadd ro 1 = R := ⟨_, rfl⟩
        obtain ⟨d, hd⟩ : ∃ d, d = hi / 8 := ⟨_, rfl⟩
        obtain ⟨x, hx⟩ : ∃ x, Wig.fadd hi d = x := ⟨_, rfl⟩
        obtain ⟨H, hH⟩ : ∃ H, Wig.nheld x = H := ⟨_, rfl⟩
        have hr : Wig.pbround ⟨s, ss, lo, la, fu, sl, ro, ph, si, hi⟩ ⟨g0, g1, g2, g3, g4, g5, g6, g7, true, true⟩ = ⟨s, ss, lo, la, fu, sl, R, ph, si, H⟩ := by rw [← hH, ← hx, hd, ← hR1]; rfl
        have e1 : (hi : Int) / 8 = (d : Int) := by omega
        have e2 : IntKind.u64.wrap (d : Int) = (d : Int) := by rw [IntKind.wrap_u64]; omega
        have CA := Lib.hid (fun w => (show Calls Tryd.prog 29 #[.int .u64 (ro : Int), .int .u64 1] w fun e w' => e = .returned (.int .u64 (R : Int)) ∧ w = w' by rw [← hR1]; exact radd_any ro 1 w hro (by decide)))
        have CD := Lib.hid (fun w => (show Calls Tryd.prog 29 #[.int .u64 (hi : Int), .int .u64 (d : Int)] w fun e w' => e = .returned (.int .u64 (x : Int)) ∧ w = w' by rw [← hx]; exact radd_any hi d w hhi (by omega)))
        have CH := Lib.hid (fun w => rheld_any x H w hH)
        have ok1 : Wig.Pb.Ok ⟨s, ss, lo, la, fu, sl, R, ph, si, H⟩ := by rw [← hr]; exact Wig.pbround_ok hok
        have hs : (Wig.pbpush ⟨s, ss, lo, la, fu, sl, R, ph, si, H⟩ ⟨g0, g1, g2, g3, g4, g5, g6, g7, true, true⟩).rates = ss' := by rw [← hr, ← rpback_rates, he]
        obtain ⟨y, hy⟩ : ∃ y, Wig.fadd la 10000 = y := ⟨_, rfl⟩
        obtain ⟨q, hq⟩ : ∃ q, decide (y ≤ g0) = q := ⟨_, rfl⟩
        have hst : Wig.pbstale ⟨s, ss, lo, la, fu, sl, ro, ph, si, hi⟩ ⟨g0, g1, g2, g3, g4, g5, g6, g7, true, true⟩ = q := by rw [← hq, ← hy]; rfl
        have CY := Lib.hid (fun w => (show Calls Tryd.prog 29 #[.int .u64 (la : Int), .int .u64 10000] w fun e w' => e = .returned (.int .u64 (y : Int)) ∧ w = w' by rw [← hy]; exact radd_any la 10000 w hla (by decide)))
        have ok2 : Wig.Pb.Ok ⟨s, ss', lo, la, fu, sl, R, ph, si, H⟩ := by
          have h0 := Wig.pbpush_ok (g := ⟨g0, g1, g2, g3, g4, g5, g6, g7, true, true⟩) ok1 hg
          have e : Wig.pbpush ⟨s, ss, lo, la, fu, sl, R, ph, si, H⟩ ⟨g0, g1, g2, g3, g4, g5, g6, g7, true, true⟩ = ⟨s, ss', lo, la, fu, sl, R, ph, si, H⟩ := by
            rw [← hs]
            unfold Wig.pbpush
            split <;> rfl
          rw [e] at h0
          exact h0
        obtain ⟨b, hb⟩ : ∃ b, Wig.best ss = b := ⟨_, rfl⟩
        have CB := Lib.hid (fun (w0 : World) (hb0 : Below w.heap.size w w0) => (show Calls Tryd.prog 31 #[aggPb s A n c lo la fu sl R ph si H] w0 fun e w' => e = .returned (.int .u64 (b : Int)) ∧ Below w0.heap.size w0 w' from rbestp_any s A n c lo la fu sl R ph si H ss b w0 ok1 (hR.step hb0) hb))
        have t1 : decide (b ≤ g7) = false := decide_eq_false (by rw [← hb]; exact h1)
        have hs2 : ss = ss' := by
          rw [← hs]
          unfold Wig.pbpush
          rw [if_neg (by simp only; rw [hb]; simp; omega)]
        subst hs2
        obtain rfl : n = n' := hR.len.symm.trans hn'
        have HRR := Lib.hid (fun (w0 : World) (hb0 : Below w.heap.size w w0) => hR.step hb0)
        clear h1
        have CM := Lib.hid (fun (l3 a3 : Nat) (q' : Bool) (hq' : q = q') (hl : (if q = true ∨ g5 < lo then g5 else lo) = l3) (ha : (if q = true ∨ g5 < lo then g0 else la) = a3) (A' : Option Addr) (c' : Nat) (w0 : World) (hT : Rt w0 0 w0.heap.size A' n ss) =>
          (show Calls Tryd.prog 33 #[aggPb s A' n c' l3 a3 fu sl R ph si H, aggGt g0 g1 g2 g3 g4 g5 g6 g7 true true, .bool q'] w0 fun e w' => e = .returned (aggPb s' A' n c' lo' la' fu' sl' ro' ph' si' hi') ∧ Below w0.heap.size w0 w' by
            subst hq'
            have ok3 : Wig.Pb.Ok ⟨s, ss, l3, a3, fu, sl, R, ph, si, H⟩ := ⟨ok2.s0, ok2.s1, ok2.rates, (by show l3 < _; rw [← hl]; split; exact hg.2.2.2.2.2.1; exact ok2.low), (by show a3 < _; rw [← ha]; split; exact hg.1; exact ok2.lowAt), ok2.full, ok2.still, ok2.rounds, ok2.phase, ok2.since, ok2.high⟩
            exact rmoved_any s A' n c' l3 a3 fu sl R ph si H ss g0 g1 g2 g3 g4 g5 g6 g7 true true q s' ss lo' la' fu' sl' ro' ph' si' hi' w0 ok3 hT hg (by rw [← he]; exact (rpback_eq hr hs hst hl ha).symm)))
        have HQ := Lib.hid hq
        clear hok hR hg hn2 he hn' hro hhi hla hr ok1 hs hy hst ok2 hR1 hd hx hH hb
        have t5 := hq
        clear hq
        go_enter Tryd.func12, Tryd.ntmps12
        go_upto_region 1 with fail
        rw [← hw1, ← hw2, ← hw3]
        clear hw1 hw2 hw3
        have j9 := XG3.out.c9
        clear j9
        have k6 := XP3.out.c6
        have kf6 := XP3.out.f6
        have j9 := XG3.out.c9
        go_wp2_with fail
        refine (CA.out _).mono ?_
        rintro e _ ⟨rfl, rfl⟩
        go_upto_region 3 with fail
        obtain ⟨w4, hw⟩ : ∃ wx, wx = w3.setCell ⟨w.heap.size, 6, none⟩ (.int .u64 (R : Int)) := ⟨_, rfl⟩
        rw [← hw]
        have XP4 := Lib.hid (show BxPb w.heap.size s A n c lo la fu sl R ph si hi w4 by rw [hw]; exact XP3.out.set6)
        have B4 := Lib.hid (show Below w.heap.size w w4 by rw [hw]; exact Below.setCell B3.out GP.out _)
        have SP4 := Lib.hid (show w.heap.size < w4.heap.size by rw [hw]; have := SP3.out; simpa using this)
        have XG4 := Lib.hid (show BxGt (w.heap.size + 1) g0 g1 g2 g3 g4 g5 g6 g7 true true w4 by rw [hw]; exact XG3.out.other rfl (Nat.ne_of_lt OPG.out))
        have SG4 := Lib.hid (show (w.heap.size + 1) < w4.heap.size by rw [hw]; have := SG3.out; simpa using this)
        have XZ4 := Lib.hid (show BxPb (w.heap.size + 2) 0 none 0 0 0 0 0 0 0 0 0 0 w4 by rw [hw]; exact XZ3.out.other rfl (Nat.ne_of_lt OPZ.out))
        have SZ4 := Lib.hid (show (w.heap.size + 2) < w4.heap.size by rw [hw]; have := SZ3.out; simpa using this)
        clear k6 kf6 j9
        clear hw B3 XP3 SP3 XG3 SG3 XZ3 SZ3
        have k9 := XP4.out.c9
        have kf9 := XP4.out.f9
        go_wp2_with fail
        refine (CD.out _).mono ?_
        rintro e _ ⟨rfl, rfl⟩
        go_wp2_with fail
        refine (CH.out _).mono ?_
        rintro e _ ⟨rfl, rfl⟩
        go_upto_region 4 with fail
        obtain ⟨w5, hw⟩ : ∃ wx, wx = w4.setCell ⟨w.heap.size, 9, none⟩ (.int .u64 (H : Int)) := ⟨_, rfl⟩
        rw [← hw]
        have XP5 := Lib.hid (show BxPb w.heap.size s A n c lo la fu sl R ph si H w5 by rw [hw]; exact XP4.out.set9)
        have B5 := Lib.hid (show Below w.heap.size w w5 by rw [hw]; exact Below.setCell B4.out GP.out _)
        have SP5 := Lib.hid (show w.heap.size < w5.heap.size by rw [hw]; have := SP4.out; simpa using this)
        have XG5 := Lib.hid (show BxGt (w.heap.size + 1) g0 g1 g2 g3 g4 g5 g6 g7 true true w5 by rw [hw]; exact XG4.out.other rfl (Nat.ne_of_lt OPG.out))
        have SG5 := Lib.hid (show (w.heap.size + 1) < w5.heap.size by rw [hw]; have := SG4.out; simpa using this)
        have XZ5 := Lib.hid (show BxPb (w.heap.size + 2) 0 none 0 0 0 0 0 0 0 0 0 0 w5 by rw [hw]; exact XZ4.out.other rfl (Nat.ne_of_lt OPZ.out))
        have SZ5 := Lib.hid (show (w.heap.size + 2) < w5.heap.size by rw [hw]; have := SZ4.out; simpa using this)
        clear k9 kf9
        clear hw B4 XP4 SP4 XG4 SG4 XZ4 SZ4
        refine wp_region_held_drew (S := fun wx => BxPb w.heap.size s A n c lo la fu sl R ph si H wx ∧ BxGt (w.heap.size + 1) g0 g1 g2 g3 g4 g5 g6 g7 true true wx ∧ BxPb (w.heap.size + 2) 0 none 0 0 0 0 0 0 0 0 0 0 wx ∧ Below w5.heap.size w5 wx) (by kernel_rfl) ?_ (fun hHeld => ?_)
        · exact ⟨XP5.out.drew, XG5.out.drew, XZ5.out.drew, (Below.refl _ _).drew⟩
        refine held_take (v := ?vv188) 0 rfl (by kernel_rfl) (by kernel_rfl) (by kernel_rfl) (fun _ _ _ h => h) (by rfl) ?yy188 (by assumption) ?nn188
        case yy188 =>
          intro w hSw
          (try dsimp only at hSw)
          go_simp
          try with_reducible rfl
        try simp only [Act.put, List.setIfInBounds_toArray, List.set_cons_zero, List.set_cons_succ]
        refine held_take (v := .bool true) 1 rfl (by kernel_rfl) (by kernel_rfl) (by kernel_rfl) (fun _ _ _ h => h) (by rfl) (fun wx hSw => by have c := hSw.2.1.c8; clear hSw; go_simp) (by assumption) ?_
        try simp only [Act.put, List.setIfInBounds_toArray, List.set_cons_zero, List.set_cons_succ]
        refine held_take (v := ?vv190) 2 rfl (by kernel_rfl) (by kernel_rfl) (by kernel_rfl) (fun _ _ _ h => h) (by rfl) ?yy190 (by assumption) ?nn190
        case yy190 =>
          intro w hSw
          (try dsimp only at hSw)
          go_simp
          try with_reducible rfl
        try simp only [Act.put, List.setIfInBounds_toArray, List.set_cons_zero, List.set_cons_succ]
        refine held_take (v := ?vv191) 3 rfl (by kernel_rfl) (by kernel_rfl) (by kernel_rfl) (fun _ _ _ h => h) (by rfl) ?yy191 (by assumption) ?nn191
        case yy191 =>
          intro w hSw
          (try dsimp only at hSw)
          go_simp
          try with_reducible rfl
        try simp only [Act.put, List.setIfInBounds_toArray, List.set_cons_zero, List.set_cons_succ]
        refine held_take (v := ?vv192) 4 rfl (by kernel_rfl) (by kernel_rfl) (by kernel_rfl) (fun _ _ _ h => h) (by rfl) ?yy192 (by assumption) ?nn192
        case yy192 =>
          intro w hSw
          (try dsimp only at hSw)
          go_simp
          try with_reducible rfl
        try simp only [Act.put, List.setIfInBounds_toArray, List.set_cons_zero, List.set_cons_succ]
        refine held_take (v := .int .u64 (g7 : Int)) 5 rfl (by kernel_rfl) (by kernel_rfl) (by kernel_rfl) (fun _ _ _ h => h) (by rfl) (fun wx hSw => by have c := hSw.2.1.c7; clear hSw; go_simp) (by assumption) ?_
        try simp only [Act.put, List.setIfInBounds_toArray, List.set_cons_zero, List.set_cons_succ]
        refine held_take (v := .agg #[.int .i64 s, .slice A n c, .int .u64 (lo : Int), .int .u64 (la : Int), .int .u64 (fu : Int), .int .u64 (sl : Int), .int .u64 (R : Int), .int .u64 (ph : Int), .int .u64 (si : Int), .int .u64 (H : Int)]) 6 rfl (by kernel_rfl) (by kernel_rfl) (by kernel_rfl) (fun _ _ _ h => h) (by rfl) (fun wx hSw => by obtain ⟨c0, c1, c2, c3, c4, c5, c6, c7, c8, c9, -, -, -, -, -, -, -, -, -, -⟩ := hSw.1; clear hSw; go_simp) (by assumption) ?_
        try simp only [Act.put, List.setIfInBounds_toArray, List.set_cons_zero, List.set_cons_succ]
        refine held_do 7 rfl (by kernel_rfl) (by rfl) (fun K hK => ?_)
        go_wp2_with (go_at_call 31; refine (CB.out _ (below_trans' B5.out hHeld.2.2.2)).mono ?_; rintro e w6 ⟨rfl, hb6⟩; have K6 := Lib.hid (Below.trans hHeld.2.2.2 (hb6.mono hHeld.2.2.2.size)); clear hb6)
        refine hK.out _ _ ?_ (fun hHeld => ?_)
        · exact ⟨XP5.out.below K6.out SP5.out, XG5.out.below K6.out SG5.out, XZ5.out.below K6.out SZ5.out, K6.out⟩
        clear hK K
        try simp only [Act.put, List.setIfInBounds_toArray, List.set_cons_zero, List.set_cons_succ]
        refine held_take (v := ?vv196) 8 rfl (by kernel_rfl) (by kernel_rfl) (by kernel_rfl) (fun _ _ _ h => h) (by rfl) ?yy196 (by assumption) ?nn196
        case yy196 =>
          intro w hSw
          (try dsimp only at hSw)
          go_simp
          try with_reducible rfl
        try simp only [Act.put, List.setIfInBounds_toArray, List.set_cons_zero, List.set_cons_succ]
        refine held_take (v := ?vv197) 9 rfl (by kernel_rfl) (by kernel_rfl) (by kernel_rfl) (fun _ _ _ h => h) (by rfl) ?yy197 (by assumption) ?nn197
        case yy197 =>
          intro w hSw
          (try dsimp only at hSw)
          go_simp
          try with_reducible rfl
        try simp only [Act.put, List.setIfInBounds_toArray, List.set_cons_zero, List.set_cons_succ]
        refine wpAnyH_done (by kernel_rfl) ?_ _
        clear hHeld
        have B6 := Lib.hid (below_trans' B5.out K6.out)
        have XP6 := Lib.hid (XP5.out.below K6.out SP5.out)
        have SP6 := Lib.hid (Nat.lt_of_lt_of_le SP5.out K6.out.size)
        have XG6 := Lib.hid (XG5.out.below K6.out SG5.out)
        have SG6 := Lib.hid (Nat.lt_of_lt_of_le SG5.out K6.out.size)
        have XZ6 := Lib.hid (XZ5.out.below K6.out SZ5.out)
        have SZ6 := Lib.hid (Nat.lt_of_lt_of_le SZ5.out K6.out.size)
        clear B5 XP5 SP5 XG5 SG5 XZ5 SZ5
        have k1 := XP6.out.c1
        have kf1 := XP6.out.f1
        have k1z : ∀ o, (w6.alloc o).cell? ⟨w.heap.size, 1, none⟩ = some (.slice A n c) := fun o => by rw [World.cell?_alloc_past _ _ _ SP6.out]; exact XP6.out.c1
        go_wp2_with (at_builtin; refine wpList_append_smps rfl _ _ rfl w6.heap.size _ [] ss rfl (World.ownsRow_made w6 #[] 0 (Nat.le_refl _) (Nat.zero_le _) (by simp)) w6.heap.size A c n (HRR.out _ B6.out).len rfl ?qc1 ?qc2 ?qc3 ?_)
        case qc1 => exact (HRR.out _ B6.out).rd.below ((Below.refl w6.heap.size w6).alloc (Nat.le_refl _) _)
        case qc2 => have := (HRR.out _ B6.out).few; simp; omega
        case qc3 => simp
        intro v' w7 hown hgrow
        obtain ⟨A', c', rfl, hrt⟩ := hown.rt (n := n) (by simpa using (HRR.out _ B6.out).len) (HRR.out _ B6.out).few (by simpa using (HRR.out _ B6.out).fits)
        have hr : Rt w7 w6.heap.size w7.heap.size A' n ss := by simpa using hrt
        have hb := ((Below.refl w6.heap.size w6).alloc (Nat.le_refl _) _).grown hgrow (by simp) (by intro k hk; simp [Value.ownBlock] at hk; omega)
        clear hown hgrow hrt
        have LTP := Lib.hid (show w.heap.size < w6.heap.size from SP6.out)
        have LTG := Lib.hid (show (w.heap.size + 1) < w6.heap.size from SG6.out)
        have LTZ := Lib.hid (show (w.heap.size + 2) < w6.heap.size from SZ6.out)
        have QT := Lib.hid (show w.heap.size ≤ w6.heap.size from B6.out.size)
        have B7 := Lib.hid (below_trans' B6.out hb)
        have XP7 := Lib.hid (XP6.out.below hb SP6.out)
        have SP7 := Lib.hid (Nat.lt_of_lt_of_le SP6.out hb.size)
        have XG7 := Lib.hid (XG6.out.below hb SG6.out)
        have SG7 := Lib.hid (Nat.lt_of_lt_of_le SG6.out hb.size)
        have XZ7 := Lib.hid (XZ6.out.below hb SZ6.out)
        have SZ7 := Lib.hid (Nat.lt_of_lt_of_le SZ6.out hb.size)
        clear k1 kf1 k1z
        clear hb B6 XP6 SP6 XG6 SG6 XZ6 SZ6
        have RT7 := Lib.hid hr
        clear hr
        have k1 := XP7.out.c1
        have kf1 := XP7.out.f1
        go_upto_region 7 with fail
        obtain ⟨w8, hw⟩ : ∃ wx, wx = w7.setCell ⟨w.heap.size, 1, none⟩ (.slice A' n c') := ⟨_, rfl⟩
        rw [← hw]
        have XP8 := Lib.hid (show BxPb w.heap.size s A' n c' lo la fu sl R ph si H w8 by rw [hw]; exact XP7.out.set1)
        have B8 := Lib.hid (show Below w.heap.size w w8 by rw [hw]; exact Below.setCell B7.out GP.out _)
        have SP8 := Lib.hid (show w.heap.size < w8.heap.size by rw [hw]; have := SP7.out; simpa using this)
        have XG8 := Lib.hid (show BxGt (w.heap.size + 1) g0 g1 g2 g3 g4 g5 g6 g7 true true w8 by rw [hw]; exact XG7.out.other rfl (Nat.ne_of_lt OPG.out))
        have SG8 := Lib.hid (show (w.heap.size + 1) < w8.heap.size by rw [hw]; have := SG7.out; simpa using this)
        have XZ8 := Lib.hid (show BxPb (w.heap.size + 2) 0 none 0 0 0 0 0 0 0 0 0 0 w8 by rw [hw]; exact XZ7.out.other rfl (Nat.ne_of_lt OPZ.out))
        have SZ8 := Lib.hid (show (w.heap.size + 2) < w8.heap.size by rw [hw]; have := SZ7.out; simpa using this)
        have RT8 := Lib.hid (show Rt w8 w6.heap.size w8.heap.size A' n ss by rw [hw]; exact RT7.out.set LTP.out)
        clear k1 kf1
        clear hw B7 XP7 SP7 XG7 SG7 XZ7 SZ7 RT7
        have k3 := XP8.out.c3
        have j0 := XG8.out.c0
        go_quiet (first | (go_at_call 29; with_reducible exact quiet_eq (CY.out _)) | fail)
        obtain ⟨w9, hw⟩ : ∃ wx, wx = w8.drewN nq := ⟨_, rfl⟩
        rw [← hw]
        have B9 := Lib.hid (show Below w.heap.size w w9 by rw [hw]; exact below_drewN' B8.out nq)
        have XP9 := Lib.hid (show BxPb w.heap.size s A' n c' lo la fu sl R ph si H w9 by rw [hw]; exact XP8.out.drewN nq)
        have SP9 := Lib.hid (show w.heap.size < w9.heap.size by rw [hw]; exact SP8.out)
        have XG9 := Lib.hid (show BxGt (w.heap.size + 1) g0 g1 g2 g3 g4 g5 g6 g7 true true w9 by rw [hw]; exact XG8.out.drewN nq)
        have SG9 := Lib.hid (show (w.heap.size + 1) < w9.heap.size by rw [hw]; exact SG8.out)
        have XZ9 := Lib.hid (show BxPb (w.heap.size + 2) 0 none 0 0 0 0 0 0 0 0 0 0 w9 by rw [hw]; exact XZ8.out.drewN nq)
        have SZ9 := Lib.hid (show (w.heap.size + 2) < w9.heap.size by rw [hw]; exact SZ8.out)
        have RT9 := Lib.hid (show Rt w9 w6.heap.size w9.heap.size A' n ss by rw [hw]; exact RT8.out.drewN nq)
        clear k3 j0
        clear hw B8 XP8 SP8 XG8 SG8 XZ8 SZ8 RT8
        by_cases hq : q = true
        · have HQQ := Lib.hid hq
          have HIF := Lib.hid (show q = true ∨ g5 < lo from .inl hq)
          rw [hq]
          clear hq t5 HQ
          go_upto_region 9 with fail
          have k2 := XP9.out.c2
          have kf2 := XP9.out.f2
          have j5 := XG9.out.c5
          go_upto_region 10 with fail
          obtain ⟨w10, hw⟩ : ∃ wx, wx = w9.setCell ⟨w.heap.size, 2, none⟩ (.int .u64 (g5 : Int)) := ⟨_, rfl⟩
          rw [← hw]
          have XP10 := Lib.hid (show BxPb w.heap.size s A' n c' g5 la fu sl R ph si H w10 by rw [hw]; exact XP9.out.set2)
          have B10 := Lib.hid (show Below w.heap.size w w10 by rw [hw]; exact Below.setCell B9.out GP.out _)
          have SP10 := Lib.hid (show w.heap.size < w10.heap.size by rw [hw]; have := SP9.out; simpa using this)
          have XG10 := Lib.hid (show BxGt (w.heap.size + 1) g0 g1 g2 g3 g4 g5 g6 g7 true true w10 by rw [hw]; exact XG9.out.other rfl (Nat.ne_of_lt OPG.out))
          have SG10 := Lib.hid (show (w.heap.size + 1) < w10.heap.size by rw [hw]; have := SG9.out; simpa using this)
          have XZ10 := Lib.hid (show BxPb (w.heap.size + 2) 0 none 0 0 0 0 0 0 0 0 0 0 w10 by rw [hw]; exact XZ9.out.other rfl (Nat.ne_of_lt OPZ.out))
          have SZ10 := Lib.hid (show (w.heap.size + 2) < w10.heap.size by rw [hw]; have := SZ9.out; simpa using this)
          have RT10 := Lib.hid (show Rt w10 w6.heap.size w10.heap.size A' n ss by rw [hw]; exact RT9.out.set LTP.out)
          clear k2 kf2 j5
          clear hw B9 XP9 SP9 XG9 SG9 XZ9 SZ9 RT9
          have k3 := XP10.out.c3
          have kf3 := XP10.out.f3
          have j0 := XG10.out.c0
          go_upto_region 11 with fail
          obtain ⟨w11, hw⟩ : ∃ wx, wx = w10.setCell ⟨w.heap.size, 3, none⟩ (.int .u64 (g0 : Int)) := ⟨_, rfl⟩
          rw [← hw]
          have XP11 := Lib.hid (show BxPb w.heap.size s A' n c' g5 g0 fu sl R ph si H w11 by rw [hw]; exact XP10.out.set3)
          have B11 := Lib.hid (show Below w.heap.size w w11 by rw [hw]; exact Below.setCell B10.out GP.out _)
          have SP11 := Lib.hid (show w.heap.size < w11.heap.size by rw [hw]; have := SP10.out; simpa using this)
          have XG11 := Lib.hid (show BxGt (w.heap.size + 1) g0 g1 g2 g3 g4 g5 g6 g7 true true w11 by rw [hw]; exact XG10.out.other rfl (Nat.ne_of_lt OPG.out))
          have SG11 := Lib.hid (show (w.heap.size + 1) < w11.heap.size by rw [hw]; have := SG10.out; simpa using this)
          have XZ11 := Lib.hid (show BxPb (w.heap.size + 2) 0 none 0 0 0 0 0 0 0 0 0 0 w11 by rw [hw]; exact XZ10.out.other rfl (Nat.ne_of_lt OPZ.out))
          have SZ11 := Lib.hid (show (w.heap.size + 2) < w11.heap.size by rw [hw]; have := SZ10.out; simpa using this)
          have RT11 := Lib.hid (show Rt w11 w6.heap.size w11.heap.size A' n ss by rw [hw]; exact RT10.out.set LTP.out)
          clear k3 kf3 j0
          clear hw B10 XP10 SP10 XG10 SG10 XZ10 SZ10 RT10
          obtain ⟨k0, k1, k2, k3, k4, k5, k6, k7, k8, k9, -, -, -, -, -, -, -, -, -, -⟩ := XP11.out
          obtain ⟨j0, j1, j2, j3, j4, j5, j6, j7, j8, j9, -, -, -, -, -, -, -, -, -, -⟩ := XG11.out
          go_wp2_with fail
          refine (CM.out g5 g0 true HQQ.out (if_pos HIF.out) (if_pos HIF.out) A' c' _ RT11.out.low).mono ?_
          rintro e w12 ⟨rfl, hb⟩
          have B12 := Lib.hid (below_trans' B11.out hb)
          have XP12 := Lib.hid (XP11.out.below hb SP11.out)
          have SP12 := Lib.hid (Nat.lt_of_lt_of_le SP11.out hb.size)
          have XG12 := Lib.hid (XG11.out.below hb SG11.out)
          have SG12 := Lib.hid (Nat.lt_of_lt_of_le SG11.out hb.size)
          have XZ12 := Lib.hid (XZ11.out.below hb SZ11.out)
          have SZ12 := Lib.hid (Nat.lt_of_lt_of_le SZ11.out hb.size)
          have RT12 := Lib.hid (RT11.out.step hb)
          clear k0 k1 k2 k3 k4 k5 k6 k7 k8 k9 j0 j1 j2 j3 j4 j5 j6 j7 j8 j9
          clear hb B11 XP11 SP11 XG11 SG11 XZ11 SZ11 RT11
          obtain ⟨z0, z1, z2, z3, z4, z5, z6, z7, z8, z9, zf0, zf1, zf2, zf3, zf4, zf5, zf6, zf7, zf8, zf9⟩ := XZ12.out
          go_wp2_with fail
          show bodyPost _ _ _ _ _ (putPb (w.heap.size + 2) s' A' n c' lo' la' fu' sl' ro' ph' si' hi' w12)
          have BZ : Below w.heap.size w (putPb (w.heap.size + 2) s' A' n c' lo' la' fu' sl' ro' ph' si' hi' w12) := B12.out.trans (putPb_below GZ.out)
          obtain ⟨z0, z1, z2, z3, z4, z5, z6, z7, z8, z9, -, -, -, -, -, -, -, -, -, -⟩ := (show BxPb (w.heap.size + 2) s' A' n c' lo' la' fu' sl' ro' ph' si' hi' (putPb (w.heap.size + 2) s' A' n c' lo' la' fu' sl' ro' ph' si' hi' w12) from XZ12.out.put)
          exact bodyPost_ret (v := aggPb s' A' n c' lo' la' fu' sl' ro' ph' si' hi') (by simp [results, Tryd.results12, z0, z1, z2, z3, z4, z5, z6, z7, z8, z9, go_sem]) rfl ⟨A', c', rfl, (RT12.out.put LTZ.out _ _ _ _ _ _ _ _ _ _ _ _ ).wide QT.out (Nat.le_refl _), BZ⟩
        · have hq : q = false := by simpa using hq
          have HQQ := Lib.hid hq
          by_cases h6 : g5 < lo
          · have HIF := Lib.hid (show q = true ∨ g5 < lo from .inr h6)
            have t6 : decide (g5 < lo) = true := decide_eq_true h6
            rw [hq]
            clear hq t5 HQ h6
            have j5 := XG9.out.c5
            have k2 := XP9.out.c2
            go_upto_region 9 with fail
            clear j5 k2
            have k2 := XP9.out.c2
            have kf2 := XP9.out.f2
            have j5 := XG9.out.c5
            go_upto_region 10 with fail
            obtain ⟨w10, hw⟩ : ∃ wx, wx = w9.setCell ⟨w.heap.size, 2, none⟩ (.int .u64 (g5 : Int)) := ⟨_, rfl⟩
            rw [← hw]
            have XP10 := Lib.hid (show BxPb w.heap.size s A' n c' g5 la fu sl R ph si H w10 by rw [hw]; exact XP9.out.set2)
            have B10 := Lib.hid (show Below w.heap.size w w10 by rw [hw]; exact Below.setCell B9.out GP.out _)
            have SP10 := Lib.hid (show w.heap.size < w10.heap.size by rw [hw]; have := SP9.out; simpa using this)
            have XG10 := Lib.hid (show BxGt (w.heap.size + 1) g0 g1 g2 g3 g4 g5 g6 g7 true true w10 by rw [hw]; exact XG9.out.other rfl (Nat.ne_of_lt OPG.out))
            have SG10 := Lib.hid (show (w.heap.size + 1) < w10.heap.size by rw [hw]; have := SG9.out; simpa using this)
            have XZ10 := Lib.hid (show BxPb (w.heap.size + 2) 0 none 0 0 0 0 0 0 0 0 0 0 w10 by rw [hw]; exact XZ9.out.other rfl (Nat.ne_of_lt OPZ.out))
            have SZ10 := Lib.hid (show (w.heap.size + 2) < w10.heap.size by rw [hw]; have := SZ9.out; simpa using this)
            have RT10 := Lib.hid (show Rt w10 w6.heap.size w10.heap.size A' n ss by rw [hw]; exact RT9.out.set LTP.out)
            clear k2 kf2 j5
            clear hw B9 XP9 SP9 XG9 SG9 XZ9 SZ9 RT9
            have k3 := XP10.out.c3
            have kf3 := XP10.out.f3
            have j0 := XG10.out.c0
            go_upto_region 11 with fail
            obtain ⟨w11, hw⟩ : ∃ wx, wx = w10.setCell ⟨w.heap.size, 3, none⟩ (.int .u64 (g0 : Int)) := ⟨_, rfl⟩
            rw [← hw]
            have XP11 := Lib.hid (show BxPb w.heap.size s A' n c' g5 g0 fu sl R ph si H w11 by rw [hw]; exact XP10.out.set3)
            have B11 := Lib.hid (show Below w.heap.size w w11 by rw [hw]; exact Below.setCell B10.out GP.out _)
            have SP11 := Lib.hid (show w.heap.size < w11.heap.size by rw [hw]; have := SP10.out; simpa using this)
            have XG11 := Lib.hid (show BxGt (w.heap.size + 1) g0 g1 g2 g3 g4 g5 g6 g7 true true w11 by rw [hw]; exact XG10.out.other rfl (Nat.ne_of_lt OPG.out))
            have SG11 := Lib.hid (show (w.heap.size + 1) < w11.heap.size by rw [hw]; have := SG10.out; simpa using this)
            have XZ11 := Lib.hid (show BxPb (w.heap.size + 2) 0 none 0 0 0 0 0 0 0 0 0 0 w11 by rw [hw]; exact XZ10.out.other rfl (Nat.ne_of_lt OPZ.out))
            have SZ11 := Lib.hid (show (w.heap.size + 2) < w11.heap.size by rw [hw]; have := SZ10.out; simpa using this)
            have RT11 := Lib.hid (show Rt w11 w6.heap.size w11.heap.size A' n ss by rw [hw]; exact RT10.out.set LTP.out)
            clear k3 kf3 j0
            clear hw B10 XP10 SP10 XG10 SG10 XZ10 SZ10 RT10
            obtain ⟨k0, k1, k2, k3, k4, k5, k6, k7, k8, k9, -, -, -, -, -, -, -, -, -, -⟩ := XP11.out
            obtain ⟨j0, j1, j2, j3, j4, j5, j6, j7, j8, j9, -, -, -, -, -, -, -, -, -, -⟩ := XG11.out
            go_wp2_with fail
            refine (CM.out g5 g0 false HQQ.out (if_pos HIF.out) (if_pos HIF.out) A' c' _ RT11.out.low).mono ?_
            rintro e w12 ⟨rfl, hb⟩
            have B12 := Lib.hid (below_trans' B11.out hb)
            have XP12 := Lib.hid (XP11.out.below hb SP11.out)
            have SP12 := Lib.hid (Nat.lt_of_lt_of_le SP11.out hb.size)
            have XG12 := Lib.hid (XG11.out.below hb SG11.out)
            have SG12 := Lib.hid (Nat.lt_of_lt_of_le SG11.out hb.size)
            have XZ12 := Lib.hid (XZ11.out.below hb SZ11.out)
            have SZ12 := Lib.hid (Nat.lt_of_lt_of_le SZ11.out hb.size)
            have RT12 := Lib.hid (RT11.out.step hb)
            clear k0 k1 k2 k3 k4 k5 k6 k7 k8 k9 j0 j1 j2 j3 j4 j5 j6 j7 j8 j9
            clear hb B11 XP11 SP11 XG11 SG11 XZ11 SZ11 RT11
            obtain ⟨z0, z1, z2, z3, z4, z5, z6, z7, z8, z9, zf0, zf1, zf2, zf3, zf4, zf5, zf6, zf7, zf8, zf9⟩ := XZ12.out
            go_wp2_with fail
            show bodyPost _ _ _ _ _ (putPb (w.heap.size + 2) s' A' n c' lo' la' fu' sl' ro' ph' si' hi' w12)
            have BZ : Below w.heap.size w (putPb (w.heap.size + 2) s' A' n c' lo' la' fu' sl' ro' ph' si' hi' w12) := B12.out.trans (putPb_below GZ.out)
            obtain ⟨z0, z1, z2, z3, z4, z5, z6, z7, z8, z9, -, -, -, -, -, -, -, -, -, -⟩ := (show BxPb (w.heap.size + 2) s' A' n c' lo' la' fu' sl' ro' ph' si' hi' (putPb (w.heap.size + 2) s' A' n c' lo' la' fu' sl' ro' ph' si' hi' w12) from XZ12.out.put)
            exact bodyPost_ret (v := aggPb s' A' n c' lo' la' fu' sl' ro' ph' si' hi') (by simp [results, Tryd.results12, z0, z1, z2, z3, z4, z5, z6, z7, z8, z9, go_sem]) rfl ⟨A', c', rfl, (RT12.out.put LTZ.out _ _ _ _ _ _ _ _ _ _ _ _ ).wide QT.out (Nat.le_refl _), BZ⟩
          · have HIF := Lib.hid (show ¬ (q = true ∨ g5 < lo) by rw [hq]; simp; omega)
            have t6 : decide (g5 < lo) = false := decide_eq_false h6
            rw [hq]
            clear hq t5 HQ h6
            have j5 := XG9.out.c5
            have k2 := XP9.out.c2
            go_upto_region 11 with fail
            clear j5 k2
            obtain ⟨k0, k1, k2, k3, k4, k5, k6, k7, k8, k9, -, -, -, -, -, -, -, -, -, -⟩ := XP9.out
            obtain ⟨j0, j1, j2, j3, j4, j5, j6, j7, j8, j9, -, -, -, -, -, -, -, -, -, -⟩ := XG9.out
            go_wp2_with fail
            refine (CM.out lo la false HQQ.out (if_neg HIF.out) (if_neg HIF.out) A' c' _ RT9.out.low).mono ?_
            rintro e w10 ⟨rfl, hb⟩
            have B10 := Lib.hid (below_trans' B9.out hb)
            have XP10 := Lib.hid (XP9.out.below hb SP9.out)
            have SP10 := Lib.hid (Nat.lt_of_lt_of_le SP9.out hb.size)
            have XG10 := Lib.hid (XG9.out.below hb SG9.out)
            have SG10 := Lib.hid (Nat.lt_of_lt_of_le SG9.out hb.size)
            have XZ10 := Lib.hid (XZ9.out.below hb SZ9.out)
            have SZ10 := Lib.hid (Nat.lt_of_lt_of_le SZ9.out hb.size)
            have RT10 := Lib.hid (RT9.out.step hb)
            clear k0 k1 k2 k3 k4 k5 k6 k7 k8 k9 j0 j1 j2 j3 j4 j5 j6 j7 j8 j9
            clear hb B9 XP9 SP9 XG9 SG9 XZ9 SZ9 RT9
            obtain ⟨z0, z1, z2, z3, z4, z5, z6, z7, z8, z9, zf0, zf1, zf2, zf3, zf4, zf5, zf6, zf7, zf8, zf9⟩ := XZ10.out
            go_wp2_with fail
            show bodyPost _ _ _ _ _ (putPb (w.heap.size + 2) s' A' n c' lo' la' fu' sl' ro' ph' si' hi' w10)
            have BZ : Below w.heap.size w (putPb (w.heap.size + 2) s' A' n c' lo' la' fu' sl' ro' ph' si' hi' w10) := B10.out.trans (putPb_below GZ.out)
            obtain ⟨z0, z1, z2, z3, z4, z5, z6, z7, z8, z9, -, -, -, -, -, -, -, -, -, -⟩ := (show BxPb (w.heap.size + 2) s' A' n c' lo' la' fu' sl' ro' ph' si' hi' (putPb (w.heap.size + 2) s' A' n c' lo' la' fu' sl' ro' ph' si' hi' w10) from XZ10.out.put)
            exact bodyPost_ret (v := aggPb s' A' n c' lo' la' fu' sl' ro' ph' si' hi') (by simp [results, Tryd.results12, z0, z1, z2, z3, z4, z5, z6, z7, z8, z9, go_sem]) rfl ⟨A', c', rfl, (RT10.out.put LTZ.out _ _ _ _ _ _ _ _ _ _ _ _ ).wide QT.out (Nat.le_refl _), BZ⟩
end Go.Proofs.YtjojnbeflongkaaDoor
