/-
  What package probe's rates, the closure of moved, started and moved return. Conditions: the numbers have 64 bits, fewer than four hundred rates.
-/
import Derived.Test.YtjojnbeflongkaaDoorPbA
namespace Go.Proofs.YtjojnbeflongkaaDoor
open Go.ChangeShapes Go.WideShapes Go.ChangeAt Go.RowKit
set_option linter.unusedVariables false

set_option maxHeartbeats 2000000 in
theorem rates_any (s : Int) (A : Option Addr) (n c lo la fu sl ro ph si hi : Nat) (ss : List Wig.Smp) (g0 g1 g2 g3 g4 g5 g6 g7 : Nat) (gl gr : Bool) (ss' : List Wig.Smp) (n' : Nat) (w : World) (hok : Wig.Pb.Ok ⟨s, ss, lo, la, fu, sl, ro, ph, si, hi⟩) (hR : Rt w 0 w.heap.size A n ss) (hg : Wig.Gt.Ok ⟨g0, g1, g2, g3, g4, g5, g6, g7, gl, gr⟩) (hn2 : n < 400) (he : (Wig.pbpush ⟨s, ss, lo, la, fu, sl, ro, ph, si, hi⟩ ⟨g0, g1, g2, g3, g4, g5, g6, g7, gl, gr⟩).rates = ss') (hn' : ss'.length = n') :
    Calls Tryd.prog 27 #[aggPb s A n c lo la fu sl ro ph si hi, aggGt g0 g1 g2 g3 g4 g5 g6 g7 gl gr] w fun e w' => ∃ A' c', e = .returned (.slice A' n' c') ∧ Rt w' w.heap.size w'.heap.size A' n' ss' ∧ Below w.heap.size w w' := by
  cases gl
  · obtain ⟨w1, hw1⟩ : ∃ wx, wx = w.alloc (.cells #[.int .i64 s, .slice A n c, .int .u64 (lo : Int), .int .u64 (la : Int), .int .u64 (fu : Int), .int .u64 (sl : Int), .int .u64 (ro : Int), .int .u64 (ph : Int), .int .u64 (si : Int), .int .u64 (hi : Int)] 26) := ⟨_, rfl⟩
    have z1 : w1.heap.size = w.heap.size + 1 := by rw [hw1]; simp
    obtain ⟨w2, hw2⟩ : ∃ wx, wx = w1.alloc (.cells #[.int .u64 (g0 : Int), .int .u64 (g1 : Int), .int .u64 (g2 : Int), .int .u64 (g3 : Int), .int .u64 (g4 : Int), .int .u64 (g5 : Int), .int .u64 (g6 : Int), .int .u64 (g7 : Int), .bool false, .bool gr] 28) := ⟨_, rfl⟩
    have z2 : w2.heap.size = w.heap.size + 2 := by rw [hw2]; simp; omega
    have t2 : Below w2.heap.size w2 w2 := Below.refl _ _
    have t1 : Below w1.heap.size w1 w2 := (show Below w1.heap.size w1 w2 by rw [hw2]; exact (Below.refl _ _).alloc (Nat.le_refl _) _).trans (t2.mono (by omega))
    have t0 : Below w.heap.size w w2 := (show Below w.heap.size w w1 by rw [hw1]; exact (Below.refl _ _).alloc (Nat.le_refl _) _).trans (t1.mono (by omega))
    have BN := Lib.hid t0
    have ZN := Lib.hid z2
    have XP := Lib.hid (show BxPb w.heap.size s A n c lo la fu sl ro ph si hi w2 from (show BxPb w.heap.size s A n c lo la fu sl ro ph si hi w1 by rw [hw1]; exact BxPb.new _ s A n c lo la fu sl ro ph si hi).below t1 (by omega))
    have XG := Lib.hid (show BxGt (w.heap.size + 1) g0 g1 g2 g3 g4 g5 g6 g7 false gr w2 from (show BxGt (w.heap.size + 1) g0 g1 g2 g3 g4 g5 g6 g7 false gr w2 by rw [hw2, ← z1]; exact BxGt.new _ g0 g1 g2 g3 g4 g5 g6 g7 false gr).below t2 (by omega))
    clear t0 t1 t2 z1 z2
    have B2 := BN
    have XP2 := XP
    have SP2 := Lib.hid (show w.heap.size < w2.heap.size by have := ZN.out; omega)
    have GP := Lib.hid (show w.heap.size ≤ w.heap.size by omega)
    have XG2 := XG
    have SG2 := Lib.hid (show (w.heap.size + 1) < w2.heap.size by have := ZN.out; omega)
    have GG := Lib.hid (show w.heap.size ≤ (w.heap.size + 1) by omega)
    have OPG := Lib.hid (show w.heap.size < (w.heap.size + 1) by omega)
    clear ZN BN XP XG
    obtain ⟨b, hb⟩ : ∃ b, Wig.best ss = b := ⟨_, rfl⟩
    have CB := Lib.hid (fun (w0 : World) (hb0 : Below w.heap.size w w0) => (show Calls Tryd.prog 23 #[.slice A n c] w0 fun e w' => e = .returned (.int .u64 (b : Int)) ∧ w0 = w' from best_rt ss n b A c w0 (hR.step hb0) hb))
    have he : Wig.pushed true 10 (ro, g7) ss = ss' := he
    have hm2 : n' ≤ 400 := by
      rw [← hn', ← he]
      have h1 := Wig.pushed_le true 10 (ro, g7) ss
      have h2 := hR.len
      omega
    have CU := Lib.hid (fun (w0 : World) (hb0 : Below w.heap.size w w0) => (show Calls Tryd.prog 42 #[.slice A n c, .int .u64 10, .agg #[.int .u64 (ro : Int), .int .u64 (g7 : Int)]] w0 fun e w' => ∃ A' c', e = .returned (.slice A' n' c') ∧ Rt w' w0.heap.size w'.heap.size A' n' ss' ∧ Below w0.heap.size w0 w' from push_rt 10 ro g7 ss ss' n n' A c w0 hn' hm2 (hR.step hb0) (by decide) hok.rounds hg.2.2.2.2.2.2.2 he))
    clear hok hR hg hn2 he hn' hb hm2
    go_enter Tryd.func27, Tryd.ntmps27
    go_upto_region 1 with fail
    rw [← hw1, ← hw2]
    clear hw1 hw2
    obtain ⟨k0, k1, k2, k3, k4, k5, k6, k7, k8, k9, -, -, -, -, -, -, -, -, -, -⟩ := XP2.out
    obtain ⟨j0, j1, j2, j3, j4, j5, j6, j7, j8, j9, -, -, -, -, -, -, -, -, -, -⟩ := XG2.out
    go_wp2_with fail
    go_quiet (first | (go_at_call 23; with_reducible exact quiet_eq (CB.out _ (below_drewN' B2.out _))) | fail)
    obtain ⟨w3, hw⟩ : ∃ wx, wx = w2.drewN nq := ⟨_, rfl⟩
    rw [← hw]
    have B3 := Lib.hid (show Below w.heap.size w w3 by rw [hw]; exact below_drewN' B2.out nq)
    have XP3 := Lib.hid (show BxPb w.heap.size s A n c lo la fu sl ro ph si hi w3 by rw [hw]; exact XP2.out.drewN nq)
    have SP3 := Lib.hid (show w.heap.size < w3.heap.size by rw [hw]; exact SP2.out)
    have XG3 := Lib.hid (show BxGt (w.heap.size + 1) g0 g1 g2 g3 g4 g5 g6 g7 false gr w3 by rw [hw]; exact XG2.out.drewN nq)
    have SG3 := Lib.hid (show (w.heap.size + 1) < w3.heap.size by rw [hw]; exact SG2.out)
    clear k0 k1 k2 k3 k4 k5 k6 k7 k8 k9 j0 j1 j2 j3 j4 j5 j6 j7 j8 j9
    clear hw B2 XP2 SP2 XG2 SG2
    obtain ⟨k0, k1, k2, k3, k4, k5, k6, k7, k8, k9, -, -, -, -, -, -, -, -, -, -⟩ := XP3.out
    obtain ⟨j0, j1, j2, j3, j4, j5, j6, j7, j8, j9, -, -, -, -, -, -, -, -, -, -⟩ := XG3.out
    go_wp2_with fail
    refine (CU.out _ B3.out).mono ?_
    rintro e w4 ⟨A', c', rfl, hr, hb⟩
    have LTP := Lib.hid (show w.heap.size < w3.heap.size from SP3.out)
    have LTG := Lib.hid (show (w.heap.size + 1) < w3.heap.size from SG3.out)
    have QT := Lib.hid (show w.heap.size ≤ w3.heap.size from B3.out.size)
    have B4 := Lib.hid (below_trans' B3.out hb)
    have XP4 := Lib.hid (XP3.out.below hb SP3.out)
    have SP4 := Lib.hid (Nat.lt_of_lt_of_le SP3.out hb.size)
    have XG4 := Lib.hid (XG3.out.below hb SG3.out)
    have SG4 := Lib.hid (Nat.lt_of_lt_of_le SG3.out hb.size)
    clear k0 k1 k2 k3 k4 k5 k6 k7 k8 k9 j0 j1 j2 j3 j4 j5 j6 j7 j8 j9
    clear hb B3 XP3 SP3 XG3 SG3
    have RT4 := Lib.hid hr
    clear hr
    go_wp2_with fail
    go_ret
    exact ⟨A', c', rfl, RT4.out.wide QT.out (Nat.le_refl _), B4.out⟩
  · obtain ⟨w1, hw1⟩ : ∃ wx, wx = w.alloc (.cells #[.int .i64 s, .slice A n c, .int .u64 (lo : Int), .int .u64 (la : Int), .int .u64 (fu : Int), .int .u64 (sl : Int), .int .u64 (ro : Int), .int .u64 (ph : Int), .int .u64 (si : Int), .int .u64 (hi : Int)] 26) := ⟨_, rfl⟩
    have z1 : w1.heap.size = w.heap.size + 1 := by rw [hw1]; simp
    obtain ⟨w2, hw2⟩ : ∃ wx, wx = w1.alloc (.cells #[.int .u64 (g0 : Int), .int .u64 (g1 : Int), .int .u64 (g2 : Int), .int .u64 (g3 : Int), .int .u64 (g4 : Int), .int .u64 (g5 : Int), .int .u64 (g6 : Int), .int .u64 (g7 : Int), .bool true, .bool gr] 28) := ⟨_, rfl⟩
    have z2 : w2.heap.size = w.heap.size + 2 := by rw [hw2]; simp; omega
    have t2 : Below w2.heap.size w2 w2 := Below.refl _ _
    have t1 : Below w1.heap.size w1 w2 := (show Below w1.heap.size w1 w2 by rw [hw2]; exact (Below.refl _ _).alloc (Nat.le_refl _) _).trans (t2.mono (by omega))
    have t0 : Below w.heap.size w w2 := (show Below w.heap.size w w1 by rw [hw1]; exact (Below.refl _ _).alloc (Nat.le_refl _) _).trans (t1.mono (by omega))
    have BN := Lib.hid t0
    have ZN := Lib.hid z2
    have XP := Lib.hid (show BxPb w.heap.size s A n c lo la fu sl ro ph si hi w2 from (show BxPb w.heap.size s A n c lo la fu sl ro ph si hi w1 by rw [hw1]; exact BxPb.new _ s A n c lo la fu sl ro ph si hi).below t1 (by omega))
    have XG := Lib.hid (show BxGt (w.heap.size + 1) g0 g1 g2 g3 g4 g5 g6 g7 true gr w2 from (show BxGt (w.heap.size + 1) g0 g1 g2 g3 g4 g5 g6 g7 true gr w2 by rw [hw2, ← z1]; exact BxGt.new _ g0 g1 g2 g3 g4 g5 g6 g7 true gr).below t2 (by omega))
    clear t0 t1 t2 z1 z2
    have B2 := BN
    have XP2 := XP
    have SP2 := Lib.hid (show w.heap.size < w2.heap.size by have := ZN.out; omega)
    have GP := Lib.hid (show w.heap.size ≤ w.heap.size by omega)
    have XG2 := XG
    have SG2 := Lib.hid (show (w.heap.size + 1) < w2.heap.size by have := ZN.out; omega)
    have GG := Lib.hid (show w.heap.size ≤ (w.heap.size + 1) by omega)
    have OPG := Lib.hid (show w.heap.size < (w.heap.size + 1) by omega)
    clear ZN BN XP XG
    obtain ⟨b, hb⟩ : ∃ b, Wig.best ss = b := ⟨_, rfl⟩
    have CB := Lib.hid (fun (w0 : World) (hb0 : Below w.heap.size w w0) => (show Calls Tryd.prog 23 #[.slice A n c] w0 fun e w' => e = .returned (.int .u64 (b : Int)) ∧ w0 = w' from best_rt ss n b A c w0 (hR.step hb0) hb))
    by_cases h1 : g7 < b
    · have he : ss = ss' := by
        rw [← he]
        unfold Wig.pbpush
        rw [if_neg (by simp only; rw [hb]; simp; omega)]
      subst he
      obtain rfl : n = n' := hR.len.symm.trans hn'
      have t1 : decide (g7 < b) = true := decide_eq_true h1
      have CC := Lib.hid (fun (w0 : World) (hb0 : Below w.heap.size w w0) => (show Calls Tryd.prog 34 #[.slice A n c] w0 fun e w' => ∃ A' c', e = .returned (.slice A' n c') ∧ Rt w' w0.heap.size w'.heap.size A' n ss ∧ Below w0.heap.size w0 w' from clone_any A n c ss w0 (hR.step hb0)))
      clear hok hR hg hn2 hn' hb h1
      go_enter Tryd.func27, Tryd.ntmps27
      go_upto_region 1 with fail
      rw [← hw1, ← hw2]
      clear hw1 hw2
      obtain ⟨k0, k1, k2, k3, k4, k5, k6, k7, k8, k9, -, -, -, -, -, -, -, -, -, -⟩ := XP2.out
      obtain ⟨j0, j1, j2, j3, j4, j5, j6, j7, j8, j9, -, -, -, -, -, -, -, -, -, -⟩ := XG2.out
      go_wp2_with fail
      go_quiet (first | (go_at_call 23; with_reducible exact quiet_eq (CB.out _ (below_drewN' B2.out _))) | fail)
      obtain ⟨w3, hw⟩ : ∃ wx, wx = w2.drewN nq := ⟨_, rfl⟩
      rw [← hw]
      have B3 := Lib.hid (show Below w.heap.size w w3 by rw [hw]; exact below_drewN' B2.out nq)
      have XP3 := Lib.hid (show BxPb w.heap.size s A n c lo la fu sl ro ph si hi w3 by rw [hw]; exact XP2.out.drewN nq)
      have SP3 := Lib.hid (show w.heap.size < w3.heap.size by rw [hw]; exact SP2.out)
      have XG3 := Lib.hid (show BxGt (w.heap.size + 1) g0 g1 g2 g3 g4 g5 g6 g7 true gr w3 by rw [hw]; exact XG2.out.drewN nq)
      have SG3 := Lib.hid (show (w.heap.size + 1) < w3.heap.size by rw [hw]; exact SG2.out)
      clear k0 k1 k2 k3 k4 k5 k6 k7 k8 k9 j0 j1 j2 j3 j4 j5 j6 j7 j8 j9
      clear hw B2 XP2 SP2 XG2 SG2
      obtain ⟨k0, k1, k2, k3, k4, k5, k6, k7, k8, k9, -, -, -, -, -, -, -, -, -, -⟩ := XP3.out
      obtain ⟨j0, j1, j2, j3, j4, j5, j6, j7, j8, j9, -, -, -, -, -, -, -, -, -, -⟩ := XG3.out
      go_wp2_with fail
      refine (CC.out _ B3.out).mono ?_
      rintro e w4 ⟨A', c', rfl, hr, hb⟩
      have LTP := Lib.hid (show w.heap.size < w3.heap.size from SP3.out)
      have LTG := Lib.hid (show (w.heap.size + 1) < w3.heap.size from SG3.out)
      have QT := Lib.hid (show w.heap.size ≤ w3.heap.size from B3.out.size)
      have B4 := Lib.hid (below_trans' B3.out hb)
      have XP4 := Lib.hid (XP3.out.below hb SP3.out)
      have SP4 := Lib.hid (Nat.lt_of_lt_of_le SP3.out hb.size)
      have XG4 := Lib.hid (XG3.out.below hb SG3.out)
      have SG4 := Lib.hid (Nat.lt_of_lt_of_le SG3.out hb.size)
      clear k0 k1 k2 k3 k4 k5 k6 k7 k8 k9 j0 j1 j2 j3 j4 j5 j6 j7 j8 j9
      clear hb B3 XP3 SP3 XG3 SG3
      have RT4 := Lib.hid hr
      clear hr
      go_wp2_with fail
      go_ret
      exact ⟨A', c', rfl, RT4.out.wide QT.out (Nat.le_refl _), B4.out⟩
    · have he : Wig.pushed true 10 (ro, g7) ss = ss' := by
        rw [← he]
        unfold Wig.pbpush
        rw [if_pos (.inr (by simp only; rw [hb]; omega))]
      have t1 : decide (g7 < b) = false := decide_eq_false h1
      clear h1
      have hm2 : n' ≤ 400 := by
        rw [← hn', ← he]
        have h1 := Wig.pushed_le true 10 (ro, g7) ss
        have h2 := hR.len
        omega
      have CU := Lib.hid (fun (w0 : World) (hb0 : Below w.heap.size w w0) => (show Calls Tryd.prog 42 #[.slice A n c, .int .u64 10, .agg #[.int .u64 (ro : Int), .int .u64 (g7 : Int)]] w0 fun e w' => ∃ A' c', e = .returned (.slice A' n' c') ∧ Rt w' w0.heap.size w'.heap.size A' n' ss' ∧ Below w0.heap.size w0 w' from push_rt 10 ro g7 ss ss' n n' A c w0 hn' hm2 (hR.step hb0) (by decide) hok.rounds hg.2.2.2.2.2.2.2 he))
      clear hok hR hg hn2 he hn' hb hm2
      go_enter Tryd.func27, Tryd.ntmps27
      go_upto_region 1 with fail
      rw [← hw1, ← hw2]
      clear hw1 hw2
      obtain ⟨k0, k1, k2, k3, k4, k5, k6, k7, k8, k9, -, -, -, -, -, -, -, -, -, -⟩ := XP2.out
      obtain ⟨j0, j1, j2, j3, j4, j5, j6, j7, j8, j9, -, -, -, -, -, -, -, -, -, -⟩ := XG2.out
      go_wp2_with fail
      go_quiet (first | (go_at_call 23; with_reducible exact quiet_eq (CB.out _ (below_drewN' B2.out _))) | fail)
      obtain ⟨w3, hw⟩ : ∃ wx, wx = w2.drewN nq := ⟨_, rfl⟩
      rw [← hw]
      have B3 := Lib.hid (show Below w.heap.size w w3 by rw [hw]; exact below_drewN' B2.out nq)
      have XP3 := Lib.hid (show BxPb w.heap.size s A n c lo la fu sl ro ph si hi w3 by rw [hw]; exact XP2.out.drewN nq)
      have SP3 := Lib.hid (show w.heap.size < w3.heap.size by rw [hw]; exact SP2.out)
      have XG3 := Lib.hid (show BxGt (w.heap.size + 1) g0 g1 g2 g3 g4 g5 g6 g7 true gr w3 by rw [hw]; exact XG2.out.drewN nq)
      have SG3 := Lib.hid (show (w.heap.size + 1) < w3.heap.size by rw [hw]; exact SG2.out)
      clear k0 k1 k2 k3 k4 k5 k6 k7 k8 k9 j0 j1 j2 j3 j4 j5 j6 j7 j8 j9
      clear hw B2 XP2 SP2 XG2 SG2
      obtain ⟨k0, k1, k2, k3, k4, k5, k6, k7, k8, k9, -, -, -, -, -, -, -, -, -, -⟩ := XP3.out
      obtain ⟨j0, j1, j2, j3, j4, j5, j6, j7, j8, j9, -, -, -, -, -, -, -, -, -, -⟩ := XG3.out
      go_wp2_with fail
      refine (CU.out _ B3.out).mono ?_
      rintro e w4 ⟨A', c', rfl, hr, hb⟩
      have LTP := Lib.hid (show w.heap.size < w3.heap.size from SP3.out)
      have LTG := Lib.hid (show (w.heap.size + 1) < w3.heap.size from SG3.out)
      have QT := Lib.hid (show w.heap.size ≤ w3.heap.size from B3.out.size)
      have B4 := Lib.hid (below_trans' B3.out hb)
      have XP4 := Lib.hid (XP3.out.below hb SP3.out)
      have SP4 := Lib.hid (Nat.lt_of_lt_of_le SP3.out hb.size)
      have XG4 := Lib.hid (XG3.out.below hb SG3.out)
      have SG4 := Lib.hid (Nat.lt_of_lt_of_le SG3.out hb.size)
      clear k0 k1 k2 k3 k4 k5 k6 k7 k8 k9 j0 j1 j2 j3 j4 j5 j6 j7 j8 j9
      clear hb B3 XP3 SP3 XG3 SG3
      have RT4 := Lib.hid hr
      clear hr
      go_wp2_with fail
      go_ret
      exact ⟨A', c', rfl, RT4.out.wide QT.out (Nat.le_refl _), B4.out⟩
set_option maxHeartbeats 2000000 in
theorem becomes_any (s : Int) (A : Option Addr) (n c lo la fu sl ro ph si hi : Nat) (g0 g1 g2 g3 g4 g5 g6 g7 : Nat) (gl gr : Bool) (s' : Int) (ph' pp pg : Nat) (w : World) (hp : BxPb pp s A n c lo la fu sl ro ph si hi w) (hq : BxGt pg g0 g1 g2 g3 g4 g5 g6 g7 gl gr w) :
    Calls Tryd.prog 43 #[.int .i64 s', .int .u64 (ph' : Int), .pointer (some ⟨pp, 0, none⟩), .pointer (some ⟨pg, 0, none⟩)] w fun e w' => e = .returned (.agg #[.int .i64 (s'), .slice A n c, .int .u64 (lo : Int), .int .u64 (la : Int), .int .u64 (fu : Int), .int .u64 (sl : Int), .int .u64 (ro : Int), .int .u64 (ph' : Int), .int .u64 (g0 : Int), .int .u64 (hi : Int)]) ∧ Below w.heap.size w w' := by
  have hpp : pp < w.heap.size := by have := World.block_lt_of_cell? w _ hp.c0; exact this
  have hpg : pg < w.heap.size := by have := World.block_lt_of_cell? w _ hq.c0; exact this
  obtain ⟨w1, hw1⟩ : ∃ wx, wx = w.alloc (.cells #[.int .i64 0, .slice none 0 0, .int .u64 0, .int .u64 0, .int .u64 0, .int .u64 0, .int .u64 0, .int .u64 0, .int .u64 0, .int .u64 0] 26) := ⟨_, rfl⟩
  have z1 : w1.heap.size = w.heap.size + 1 := by rw [hw1]; simp
  have t1 : Below w1.heap.size w1 w1 := Below.refl _ _
  have t0 : Below w.heap.size w w1 := (show Below w.heap.size w w1 by rw [hw1]; exact (Below.refl _ _).alloc (Nat.le_refl _) _).trans (t1.mono (by omega))
  have BN := Lib.hid t0
  have ZN := Lib.hid z1
  have XZ := Lib.hid (show BxPb w.heap.size 0 none 0 0 0 0 0 0 0 0 0 0 w1 from (show BxPb w.heap.size 0 none 0 0 0 0 0 0 0 0 0 0 w1 by rw [hw1]; exact BxPb.new _ 0 none 0 0 0 0 0 0 0 0 0 0).below t1 (by omega))
  clear t0 t1 z1
  have B1 := BN
  have XZ1 := XZ
  have SZ1 := Lib.hid (show w.heap.size < w1.heap.size by have := ZN.out; omega)
  have GZ := Lib.hid (show w.heap.size ≤ w.heap.size by omega)
  have OUZ := Lib.hid (show pp < w.heap.size by omega)
  have OVZ := Lib.hid (show pg < w.heap.size by omega)
  clear ZN BN XZ
  have XU1 := Lib.hid (hp.below B1.out hpp)
  have XV1 := Lib.hid (hq.below B1.out hpg)
  have SU1 := Lib.hid (show pp < w1.heap.size from Nat.lt_of_lt_of_le hpp B1.out.size)
  have SV1 := Lib.hid (show pg < w1.heap.size from Nat.lt_of_lt_of_le hpg B1.out.size)
  clear hp hq hpp hpg
  go_enter Tryd.func43, Tryd.ntmps43
  go_upto_region 1 with fail
  rw [← hw1]
  clear hw1
  obtain ⟨u0, u1, u2, u3, u4, u5, u6, u7, u8, u9, -, -, -, -, -, -, -, -, -, -⟩ := XU1.out
  go_upto_region 2 with fail
  obtain ⟨w2, hw⟩ : ∃ wx, wx = w1.alloc (.cells #[.int .i64 s, .slice A n c, .int .u64 (lo : Int), .int .u64 (la : Int), .int .u64 (fu : Int), .int .u64 (sl : Int), .int .u64 (ro : Int), .int .u64 (ph : Int), .int .u64 (si : Int), .int .u64 (hi : Int)] 26) := ⟨_, rfl⟩
  rw [← hw]
  obtain ⟨pN, hp⟩ : ∃ px, px = w1.heap.size := ⟨_, rfl⟩
  rw [← hp]
  have hb : Below w1.heap.size w1 w2 := by rw [hw]; exact (Below.refl _ _).alloc (Nat.le_refl _) _
  have hx : BxPb pN s A n c lo la fu sl ro ph si hi w2 := by rw [hp, hw]; exact BxPb.new _ s A n c lo la fu sl ro ph si hi
  have hs : pN < w2.heap.size := by rw [hp, hw]; simp
  have GN := Lib.hid (show w.heap.size ≤ pN by rw [hp]; exact B1.out.size)
  have OUN := Lib.hid (show pp < pN by rw [hp]; exact SU1.out)
  have OVN := Lib.hid (show pg < pN by rw [hp]; exact SV1.out)
  have OZN := Lib.hid (show w.heap.size < pN by rw [hp]; exact SZ1.out)
  have B2 := Lib.hid (below_trans' B1.out hb)
  have XU2 := Lib.hid (XU1.out.below hb SU1.out)
  have SU2 := Lib.hid (Nat.lt_of_lt_of_le SU1.out hb.size)
  have XV2 := Lib.hid (XV1.out.below hb SV1.out)
  have SV2 := Lib.hid (Nat.lt_of_lt_of_le SV1.out hb.size)
  have XZ2 := Lib.hid (XZ1.out.below hb SZ1.out)
  have SZ2 := Lib.hid (Nat.lt_of_lt_of_le SZ1.out hb.size)
  clear u0 u1 u2 u3 u4 u5 u6 u7 u8 u9
  clear hb B1 XU1 SU1 XV1 SV1 XZ1 SZ1
  have XN2 := Lib.hid hx
  have SN2 := Lib.hid hs
  clear hx hs hw hp
  obtain ⟨k0, k1, k2, k3, k4, k5, k6, k7, k8, k9, kf0, kf1, kf2, kf3, kf4, kf5, kf6, kf7, kf8, kf9⟩ := XN2.out
  refine wp_region_held_drew (S := fun wx => BxGt pg g0 g1 g2 g3 g4 g5 g6 g7 gl gr wx) (by kernel_rfl) ?_ (fun hHeld => ?_)
  · exact XV2.out.drew
  refine held_take (v := ?vv101) 0 rfl (by kernel_rfl) (by kernel_rfl) (by kernel_rfl) (fun _ _ _ h => h) (by rfl) ?yy101 (by assumption) ?nn101
  case yy101 =>
    intro w hSw
    (try dsimp only at hSw)
    go_simp
    try with_reducible rfl
  try simp only [Act.put, List.setIfInBounds_toArray, List.set_cons_zero, List.set_cons_succ]
  refine held_take (v := ?vv102) 1 rfl (by kernel_rfl) (by kernel_rfl) (by kernel_rfl) (fun _ _ _ h => h) (by rfl) ?yy102 (by assumption) ?nn102
  case yy102 =>
    intro w hSw
    (try dsimp only at hSw)
    go_simp
    try with_reducible rfl
  try simp only [Act.put, List.setIfInBounds_toArray, List.set_cons_zero, List.set_cons_succ]
  refine held_take (v := ?vv103) 2 rfl (by kernel_rfl) (by kernel_rfl) (by kernel_rfl) (fun _ _ _ h => h) (by rfl) ?yy103 (by assumption) ?nn103
  case yy103 =>
    intro w hSw
    (try dsimp only at hSw)
    go_simp
    try with_reducible rfl
  try simp only [Act.put, List.setIfInBounds_toArray, List.set_cons_zero, List.set_cons_succ]
  refine held_take (v := .int .u64 (g0 : Int)) 3 rfl (by kernel_rfl) (by kernel_rfl) (by kernel_rfl) (fun _ _ _ h => h) (by rfl) (fun wx hSw => by have c := hSw.c0; clear hSw; go_simp) (by assumption) ?_
  try simp only [Act.put, List.setIfInBounds_toArray, List.set_cons_zero, List.set_cons_succ]
  refine held_take (v := ?vv105) 4 rfl (by kernel_rfl) (by kernel_rfl) (by kernel_rfl) (fun _ _ _ h => h) (by rfl) ?yy105 (by assumption) ?nn105
  case yy105 =>
    intro w hSw
    (try dsimp only at hSw)
    go_simp
    try with_reducible rfl
  try simp only [Act.put, List.setIfInBounds_toArray, List.set_cons_zero, List.set_cons_succ]
  refine held_do 5 rfl (by kernel_rfl) (by rfl) (fun K hK => ?_)
  go_wp2_with fail
  refine hK.out _ _ ?_ (fun hHeld => ?_)
  · exact (XV2.out.drew.other rfl (Nat.ne_of_gt OVN.out))
  clear hK K
  try simp only [Act.put, List.setIfInBounds_toArray, List.set_cons_zero, List.set_cons_succ]
  refine held_take (v := ?vv107) 6 rfl (by kernel_rfl) (by kernel_rfl) (by kernel_rfl) (fun _ _ _ h => h) (by rfl) ?yy107 (by assumption) ?nn107
  case yy107 =>
    intro w hSw
    (try dsimp only at hSw)
    go_simp
    try with_reducible rfl
  try simp only [Act.put, List.setIfInBounds_toArray, List.set_cons_zero, List.set_cons_succ]
  refine held_do 7 rfl (by kernel_rfl) (by rfl) (fun K hK => ?_)
  go_wp2_with fail
  refine hK.out _ _ ?_ (fun hHeld => ?_)
  · exact ((XV2.out.drew.other rfl (Nat.ne_of_gt OVN.out)).other rfl (Nat.ne_of_gt OVN.out))
  clear hK K
  try simp only [Act.put, List.setIfInBounds_toArray, List.set_cons_zero, List.set_cons_succ]
  refine held_take (v := ?vv109) 8 rfl (by kernel_rfl) (by kernel_rfl) (by kernel_rfl) (fun _ _ _ h => h) (by rfl) ?yy109 (by assumption) ?nn109
  case yy109 =>
    intro w hSw
    (try dsimp only at hSw)
    go_simp
    try with_reducible rfl
  try simp only [Act.put, List.setIfInBounds_toArray, List.set_cons_zero, List.set_cons_succ]
  refine held_do 9 rfl (by kernel_rfl) (by rfl) (fun K hK => ?_)
  go_wp2_with fail
  refine hK.out _ _ ?_ (fun hHeld => ?_)
  · exact (((XV2.out.drew.other rfl (Nat.ne_of_gt OVN.out)).other rfl (Nat.ne_of_gt OVN.out)).other rfl (Nat.ne_of_gt OVN.out))
  clear hK K
  try simp only [Act.put, List.setIfInBounds_toArray, List.set_cons_zero, List.set_cons_succ]
  refine wpAnyH_done (by kernel_rfl) ?_ _
  clear hHeld
  obtain ⟨w3, hw⟩ : ∃ wx, wx = w2.setCell ⟨pN, 0, none⟩ (.int .i64 (s')) := ⟨_, rfl⟩
  rw [← hw]
  have XN3 := Lib.hid (show BxPb pN s' A n c lo la fu sl ro ph si hi w3 by rw [hw]; exact XN2.out.set0)
  have B3 := Lib.hid (show Below w.heap.size w w3 by rw [hw]; exact Below.setCell B2.out GN.out _)
  have SN3 := Lib.hid (show pN < w3.heap.size by rw [hw]; have := SN2.out; simpa using this)
  have XU3 := Lib.hid (show BxPb pp s A n c lo la fu sl ro ph si hi w3 by rw [hw]; exact XU2.out.other rfl (Nat.ne_of_gt OUN.out))
  have SU3 := Lib.hid (show pp < w3.heap.size by rw [hw]; have := SU2.out; simpa using this)
  have XV3 := Lib.hid (show BxGt pg g0 g1 g2 g3 g4 g5 g6 g7 gl gr w3 by rw [hw]; exact XV2.out.other rfl (Nat.ne_of_gt OVN.out))
  have SV3 := Lib.hid (show pg < w3.heap.size by rw [hw]; have := SV2.out; simpa using this)
  have XZ3 := Lib.hid (show BxPb w.heap.size 0 none 0 0 0 0 0 0 0 0 0 0 w3 by rw [hw]; exact XZ2.out.other rfl (Nat.ne_of_gt OZN.out))
  have SZ3 := Lib.hid (show w.heap.size < w3.heap.size by rw [hw]; have := SZ2.out; simpa using this)
  clear k0 k1 k2 k3 k4 k5 k6 k7 k8 k9 kf0 kf1 kf2 kf3 kf4 kf5 kf6 kf7 kf8 kf9
  clear hw B2 XN2 SN2 XU2 SU2 XV2 SV2 XZ2 SZ2
  obtain ⟨w4, hw⟩ : ∃ wx, wx = w3.setCell ⟨pN, 7, none⟩ (.int .u64 (ph' : Int)) := ⟨_, rfl⟩
  rw [← hw]
  have XN4 := Lib.hid (show BxPb pN s' A n c lo la fu sl ro ph' si hi w4 by rw [hw]; exact XN3.out.set7)
  have B4 := Lib.hid (show Below w.heap.size w w4 by rw [hw]; exact Below.setCell B3.out GN.out _)
  have SN4 := Lib.hid (show pN < w4.heap.size by rw [hw]; have := SN3.out; simpa using this)
  have XU4 := Lib.hid (show BxPb pp s A n c lo la fu sl ro ph si hi w4 by rw [hw]; exact XU3.out.other rfl (Nat.ne_of_gt OUN.out))
  have SU4 := Lib.hid (show pp < w4.heap.size by rw [hw]; have := SU3.out; simpa using this)
  have XV4 := Lib.hid (show BxGt pg g0 g1 g2 g3 g4 g5 g6 g7 gl gr w4 by rw [hw]; exact XV3.out.other rfl (Nat.ne_of_gt OVN.out))
  have SV4 := Lib.hid (show pg < w4.heap.size by rw [hw]; have := SV3.out; simpa using this)
  have XZ4 := Lib.hid (show BxPb w.heap.size 0 none 0 0 0 0 0 0 0 0 0 0 w4 by rw [hw]; exact XZ3.out.other rfl (Nat.ne_of_gt OZN.out))
  have SZ4 := Lib.hid (show w.heap.size < w4.heap.size by rw [hw]; have := SZ3.out; simpa using this)
  clear hw B3 XN3 SN3 XU3 SU3 XV3 SV3 XZ3 SZ3
  obtain ⟨w5, hw⟩ : ∃ wx, wx = w4.setCell ⟨pN, 8, none⟩ (.int .u64 (g0 : Int)) := ⟨_, rfl⟩
  rw [← hw]
  have XN5 := Lib.hid (show BxPb pN s' A n c lo la fu sl ro ph' g0 hi w5 by rw [hw]; exact XN4.out.set8)
  have B5 := Lib.hid (show Below w.heap.size w w5 by rw [hw]; exact Below.setCell B4.out GN.out _)
  have SN5 := Lib.hid (show pN < w5.heap.size by rw [hw]; have := SN4.out; simpa using this)
  have XU5 := Lib.hid (show BxPb pp s A n c lo la fu sl ro ph si hi w5 by rw [hw]; exact XU4.out.other rfl (Nat.ne_of_gt OUN.out))
  have SU5 := Lib.hid (show pp < w5.heap.size by rw [hw]; have := SU4.out; simpa using this)
  have XV5 := Lib.hid (show BxGt pg g0 g1 g2 g3 g4 g5 g6 g7 gl gr w5 by rw [hw]; exact XV4.out.other rfl (Nat.ne_of_gt OVN.out))
  have SV5 := Lib.hid (show pg < w5.heap.size by rw [hw]; have := SV4.out; simpa using this)
  have XZ5 := Lib.hid (show BxPb w.heap.size 0 none 0 0 0 0 0 0 0 0 0 0 w5 by rw [hw]; exact XZ4.out.other rfl (Nat.ne_of_gt OZN.out))
  have SZ5 := Lib.hid (show w.heap.size < w5.heap.size by rw [hw]; have := SZ4.out; simpa using this)
  clear hw B4 XN4 SN4 XU4 SU4 XV4 SV4 XZ4 SZ4
  obtain ⟨w6, hw⟩ : ∃ wx, wx = w5.drew := ⟨_, rfl⟩
  rw [← hw]
  have B6 := Lib.hid (show Below w.heap.size w w6 by rw [hw]; exact B5.out.drew)
  have XU6 := Lib.hid (show BxPb pp s A n c lo la fu sl ro ph si hi w6 by rw [hw]; exact XU5.out.drew)
  have SU6 := Lib.hid (show pp < w6.heap.size by rw [hw]; exact SU5.out)
  have XV6 := Lib.hid (show BxGt pg g0 g1 g2 g3 g4 g5 g6 g7 gl gr w6 by rw [hw]; exact XV5.out.drew)
  have SV6 := Lib.hid (show pg < w6.heap.size by rw [hw]; exact SV5.out)
  have XZ6 := Lib.hid (show BxPb w.heap.size 0 none 0 0 0 0 0 0 0 0 0 0 w6 by rw [hw]; exact XZ5.out.drew)
  have SZ6 := Lib.hid (show w.heap.size < w6.heap.size by rw [hw]; exact SZ5.out)
  have XN6 := Lib.hid (show BxPb pN s' A n c lo la fu sl ro ph' g0 hi w6 by rw [hw]; exact XN5.out.drew)
  have SN6 := Lib.hid (show pN < w6.heap.size by rw [hw]; exact SN5.out)
  clear hw B5 XU5 SU5 XV5 SV5 XZ5 SZ5 XN5 SN5
  obtain ⟨k0, k1, k2, k3, k4, k5, k6, k7, k8, k9, -, -, -, -, -, -, -, -, -, -⟩ := XN6.out
  obtain ⟨z0, z1, z2, z3, z4, z5, z6, z7, z8, z9, zf0, zf1, zf2, zf3, zf4, zf5, zf6, zf7, zf8, zf9⟩ := XZ6.out
  go_wp2_with fail
  show bodyPost _ _ _ _ _ (putPb w.heap.size s' A n c lo la fu sl ro ph' g0 hi w6)
  have BZ : Below w.heap.size w (putPb w.heap.size s' A n c lo la fu sl ro ph' g0 hi w6) := B6.out.trans (putPb_below GZ.out)
  obtain ⟨z0, z1, z2, z3, z4, z5, z6, z7, z8, z9, -, -, -, -, -, -, -, -, -, -⟩ := (show BxPb w.heap.size s' A n c lo la fu sl ro ph' g0 hi (putPb w.heap.size s' A n c lo la fu sl ro ph' g0 hi w6) from XZ6.out.put)
  exact bodyPost_ret (v := aggPb s' A n c lo la fu sl ro ph' g0 hi) (by simp [results, Tryd.results43, z0, z1, z2, z3, z4, z5, z6, z7, z8, z9, go_sem]) rfl ⟨rfl, BZ⟩
end Go.Proofs.YtjojnbeflongkaaDoor
