/-
  What the document's least, greater and Update of estimates return, for all numbers of 64 bits. No condition.
-/
import Derived.Test.YteaodhgfmbcmfaaRtB
import Derived.Deep.QuietTactic
import Derived.BigQuiet
namespace Go.Proofs.Yteaodhgfmbcmfaa
open Go.ChangeShapes Go.WideShapes Go.ChangeAt Go.RowKit
set_option linter.unusedVariables false

theorem quiet_eq {P : Program} {f : FuncId} {args : Array Value} {w : World} {n : Nat} {v : Value}
    (h : Calls P f args (w.drewN n) fun e w' => e = .returned v ∧ w.drewN n = w') : Calls P f args (w.drewN n) fun e w'' => e = .returned v ∧ ∃ m, w'' = w.drewN m :=
  h.mono fun _ _ ⟨he, hm⟩ => ⟨he, n, hm.symm⟩

theorem rleast_any (a b r : Nat) (w : World) (hr : min a b = r) : Calls Try.prog 20 #[.int .u64 (a : Int), .int .u64 (b : Int)] w fun e w' => e = .returned (.int .u64 (r : Int)) ∧ w = w' := by
  subst hr
  by_cases h : a < b
  · rw [show min a b = a by omega]
    have h1 : decide (a < b) = true := decide_eq_true h
    clear h
    go_enter Try.func20, Try.ntmps20
    go_wp2_with fail
    go_ret
    exact ⟨rfl, rfl⟩
  · rw [show min a b = b by omega]
    have h1 : decide (a < b) = false := decide_eq_false h
    clear h
    go_enter Try.func20, Try.ntmps20
    go_wp2_with fail
    go_ret
    exact ⟨rfl, rfl⟩
theorem rgreater_any (a b r : Nat) (w : World) (hr : max a b = r) : Calls Try.prog 22 #[.int .u64 (a : Int), .int .u64 (b : Int)] w fun e w' => e = .returned (.int .u64 (r : Int)) ∧ w = w' := by
  subst hr
  by_cases h : b < a
  · rw [show max a b = a by omega]
    have h1 : decide (b < a) = true := decide_eq_true h
    clear h
    go_enter Try.func22, Try.ntmps22
    go_wp2_with fail
    go_ret
    exact ⟨rfl, rfl⟩
  · rw [show max a b = b by omega]
    have h1 : decide (b < a) = false := decide_eq_false h
    clear h
    go_enter Try.func22, Try.ntmps22
    go_wp2_with fail
    go_ret
    exact ⟨rfl, rfl⟩

set_option maxHeartbeats 4000000 in
theorem rupdate_any (h : Bool) (a b c d s dl m a' b' c' d' : Nat) (w : World) (hok : Wig.Rt.Ok ⟨h, a, b, c, d⟩) (hs : s < 18446744073709551616) (hdl : dl < 18446744073709551616) (hm : m < 18446744073709551616)
    (he : Wig.rup ⟨h, a, b, c, d⟩ s dl m = ⟨true, a', b', c', d'⟩) :
    Calls Try.prog 10 #[.agg #[.bool h, .int .u64 (a : Int), .int .u64 (b : Int), .int .u64 (c : Int), .int .u64 (d : Int)], .int .u64 (s : Int), .int .u64 (dl : Int), .int .u64 (m : Int)] w fun e w' =>
      e = .returned (.agg #[.bool true, .int .u64 (a' : Int), .int .u64 (b' : Int), .int .u64 (c' : Int), .int .u64 (d' : Int)]) ∧ Below w.heap.size w w' := by
  obtain ⟨w1, hw1⟩ : ∃ w1, w1 = w.alloc (.cells #[.bool h, .int .u64 (a : Int), .int .u64 (b : Int), .int .u64 (c : Int), .int .u64 (d : Int)] 24) := ⟨_, rfl⟩
  obtain ⟨w4, hw2⟩ : ∃ w2, w2 = w1.alloc (.cells #[.bool false, .int .u64 0, .int .u64 0, .int .u64 0, .int .u64 0] 24) := ⟨_, rfl⟩
  have hs1 : w1.heap.size = w.heap.size + 1 := by rw [hw1]; simp
  have HB1 := Lib.hid (show Below w.heap.size w w1 by rw [hw1]; exact (Below.refl _ _).alloc (Nat.le_refl _) _)
  have HB12 := Lib.hid (show Below w1.heap.size w1 w4 by rw [hw2]; exact (Below.refl _ _).alloc (Nat.le_refl _) _)
  have B4 := Lib.hid (show Below w.heap.size w w4 from HB1.out.trans (HB12.out.mono (by omega)))
  have S4 := Lib.hid (show w.heap.size + 1 < w4.heap.size by rw [hw2]; simp; omega)
  have X4 := Lib.hid (show Bx (w.heap.size + 1) false 0 0 0 0 w4 by rw [hw2, ← hs1]; exact Bx.new w1 false 0 0 0 0)
  have Y4 := Lib.hid (show Bx w.heap.size h a b c d w4 from (show Bx w.heap.size h a b c d w1 by rw [hw1]; exact Bx.new w h a b c d).below HB12.out (by omega))
  clear hs1 HB1 HB12
  obtain ⟨-, -, -, -, -, l0, l1, l2, l3, l4⟩ := X4.out
  obtain ⟨n0, n1, n2, n3, n4, -, -, -, -, -⟩ := X4.out
  obtain ⟨k0, k1, k2, k3, k4, -, -, -, -, -⟩ := Y4.out
  cases h with
  | false =>
    obtain ⟨sq, hsq⟩ : ∃ sq, sq = s / 2 := ⟨_, rfl⟩
    have e1 : (s : Int) / 2 = (sq : Int) := by omega
    have e2 : IntKind.u64.wrap (sq : Int) = (sq : Int) := by rw [IntKind.wrap_u64]; omega
    unfold Wig.rup at he
    rw [if_neg (by simp), ← hsq] at he
    injection he with _ r1 r2 r3 r4
    subst r1 r2 r3 r4
    have BN := Lib.hid (fun (o o' : Obj) => ((Below.refl w.heap.size w).alloc (Nat.le_refl _) o).alloc (by simp) o')
    clear hok hs hdl hm hsq hw1 hw2 l0 l1 l2 l3 l4 n0 n1 n2 n3 n4 k0 k1 k2 k3 k4
    go_enter Try.func10, Try.ntmps10
    go_wp2_with fail
    exact bodyPost_ret (v := .agg #[.bool true, .int .u64 (s : Int), .int .u64 (s : Int), .int .u64 (s : Int), .int .u64 (sq : Int)]) (by simp [results, Try.results10, go_sem]) rfl ⟨rfl, BN.out _ _⟩
  | true =>
    obtain ⟨lo, hlo⟩ : ∃ lo, lo = min b s := ⟨_, rfl⟩
    obtain ⟨wt, hwt⟩ : ∃ wt, wt = min dl m := ⟨_, rfl⟩
    obtain ⟨t, ht⟩ : ∃ t, t = Wig.fadd lo wt := ⟨_, rfl⟩
    obtain ⟨ok1, ok2, ok3, ok4⟩ := hok
    simp only at ok1 ok2 ok3 ok4
    have C1 := Lib.hid (fun w => rleast_any b s lo w hlo.symm)
    have C2 := Lib.hid (fun w => rleast_any dl m wt w hwt.symm)
    have C3 := Lib.hid (fun w => radd_any lo wt w (by omega) (by omega))
    rw [← ht] at C3
    obtain ⟨cq, hcq⟩ : ∃ cq, cq = c / 8 := ⟨_, rfl⟩
    obtain ⟨p, hp⟩ : ∃ p, p = c - cq := ⟨_, rfl⟩
    obtain ⟨dq, hdq⟩ : ∃ dq, dq = d / 4 := ⟨_, rfl⟩
    obtain ⟨pv, hpv⟩ : ∃ pv, pv = d - dq := ⟨_, rfl⟩
    have e1 : (c : Int) / 8 = (cq : Int) := by omega
    have e2 : IntKind.u64.wrap (cq : Int) = (cq : Int) := by rw [IntKind.wrap_u64]; omega
    have e3 : IntKind.u64.wrap ((c : Int) - (cq : Int)) = (p : Int) := by rw [IntKind.wrap_u64]; omega
    have e6 : (d : Int) / 4 = (dq : Int) := by omega
    have e7 : IntKind.u64.wrap (dq : Int) = (dq : Int) := by rw [IntKind.wrap_u64]; omega
    have e8 : IntKind.u64.wrap ((d : Int) - (dq : Int)) = (pv : Int) := by rw [IntKind.wrap_u64]; omega
    by_cases hge : t ≤ s
    · have t1 : decide (t ≤ s) = true := decide_eq_true hge
      have wl : wt ≤ s := by have := ht; unfold Wig.fadd at this; split at this <;> omega
      obtain ⟨x, hx⟩ : ∃ x, x = s - wt := ⟨_, rfl⟩
      have e0 : IntKind.u64.wrap ((s : Int) - (wt : Int)) = (x : Int) := by rw [IntKind.wrap_u64]; omega
      have hro : Wig.rown s lo wt = x := by unfold Wig.rown; rw [← ht, if_neg (by omega), hx]
      obtain ⟨xq, hxq⟩ : ∃ xq, xq = x / 8 := ⟨_, rfl⟩
      obtain ⟨gx, hgx⟩ : ∃ gx, gx = max c x := ⟨_, rfl⟩
      obtain ⟨gn, hgn⟩ : ∃ gn, gn = min c x := ⟨_, rfl⟩
      obtain ⟨gp, hgp⟩ : ∃ gp, gp = gx - gn := ⟨_, rfl⟩
      obtain ⟨gq, hgq⟩ : ∃ gq, gq = gp / 4 := ⟨_, rfl⟩
      have e4 : (x : Int) / 8 = (xq : Int) := by omega
      have e5 : IntKind.u64.wrap (xq : Int) = (xq : Int) := by rw [IntKind.wrap_u64]; omega
      have e9 : (gp : Int) / 4 = (gq : Int) := by omega
      have e10 : IntKind.u64.wrap (gq : Int) = (gq : Int) := by rw [IntKind.wrap_u64]; omega
      have e11 : IntKind.u64.wrap ((gx : Int) - (gn : Int)) = (gp : Int) := by rw [IntKind.wrap_u64]; omega
      have hrg : Wig.rgap x c = gp := by unfold Wig.rgap; omega
      unfold Wig.rup at he
      rw [if_pos rfl] at he
      simp only at he
      rw [← hlo, ← hwt, hro, ← hcq, ← hp, ← hxq, hrg, ← hgq, ← hdq, ← hpv] at he
      injection he with _ r1 r2 r3 r4
      have CA := Lib.hid (fun w => radd_any p xq w (by omega) (by omega))
      have CB := Lib.hid (fun w => radd_any pv gq w (by omega) (by omega))
      rw [r3] at CA
      rw [r4] at CB
      have CX := Lib.hid (fun w => rgreater_any c x gx w hgx.symm)
      have CN := Lib.hid (fun w => rleast_any c x gn w hgn.symm)
      subst r1 r2
      clear ok1 ok2 ok3 ok4 hs hdl hm hlo hwt ht hge hro hrg hxq hgx hgn hgp hgq hcq hp hdq hpv r3 r4 hx wl
      go_enter Try.func10, Try.ntmps10
      go_wp2_with fail
      rw [← hw1, ← hw2]
      clear hw1 hw2
      go_wp2_with fail
      refine (C1.out _).mono ?_
      rintro e _ ⟨rfl, rfl⟩
      go_wp2_with fail
      refine (C2.out _).mono ?_
      rintro e _ ⟨rfl, rfl⟩
      go_wp2_with fail
      refine (C3.out _).mono ?_
      rintro e _ ⟨rfl, rfl⟩
      go_wp2_with fail
      go_quiet (first | (go_at_call 22; exact quiet_eq (CX.out _)) | (go_at_call 20; exact quiet_eq (CN.out _)) | fail)
      go_wp2_with fail
      refine (CB.out _).mono ?_
      rintro e _ ⟨rfl, rfl⟩
      go_wp2_with fail
      refine (CA.out _).mono ?_
      rintro e _ ⟨rfl, rfl⟩
      go_wp2_with fail
      obtain ⟨wz, hwz⟩ : ∃ wz, wz = put (w.heap.size + 1) true s lo c' d' (w4.drewN nq) := ⟨_, rfl⟩
      have XZ : Bx (w.heap.size + 1) true s lo c' d' wz := by rw [hwz]; exact (X4.out.drewN nq).put
      have BZ : Below w.heap.size w wz := by rw [hwz]; exact (below_drewN' B4.out nq).trans (put_below (Nat.le_succ _))
      show bodyPost _ _ _ _ _ (put (w.heap.size + 1) true s lo c' d' (w4.drewN nq))
      rw [← hwz]
      obtain ⟨z0, z1, z2, z3, z4, -, -, -, -, -⟩ := XZ
      exact bodyPost_ret (v := .agg #[.bool true, .int .u64 (s : Int), .int .u64 (lo : Int), .int .u64 (c' : Int), .int .u64 (d' : Int)]) (by simp [results, Try.results10, z0, z1, z2, z3, z4, go_sem]) rfl ⟨rfl, BZ⟩
    · have t1 : decide (t ≤ s) = false := decide_eq_false hge
      have hro : Wig.rown s lo wt = s := by unfold Wig.rown; rw [← ht, if_pos (by omega)]
      obtain ⟨xq, hxq⟩ : ∃ xq, xq = s / 8 := ⟨_, rfl⟩
      obtain ⟨gx, hgx⟩ : ∃ gx, gx = max c s := ⟨_, rfl⟩
      obtain ⟨gn, hgn⟩ : ∃ gn, gn = min c s := ⟨_, rfl⟩
      obtain ⟨gp, hgp⟩ : ∃ gp, gp = gx - gn := ⟨_, rfl⟩
      obtain ⟨gq, hgq⟩ : ∃ gq, gq = gp / 4 := ⟨_, rfl⟩
      have e4 : (s : Int) / 8 = (xq : Int) := by omega
      have e5 : IntKind.u64.wrap (xq : Int) = (xq : Int) := by rw [IntKind.wrap_u64]; omega
      have e9 : (gp : Int) / 4 = (gq : Int) := by omega
      have e10 : IntKind.u64.wrap (gq : Int) = (gq : Int) := by rw [IntKind.wrap_u64]; omega
      have e11 : IntKind.u64.wrap ((gx : Int) - (gn : Int)) = (gp : Int) := by rw [IntKind.wrap_u64]; omega
      have hrg : Wig.rgap s c = gp := by unfold Wig.rgap; omega
      unfold Wig.rup at he
      rw [if_pos rfl] at he
      simp only at he
      rw [← hlo, ← hwt, hro, ← hcq, ← hp, ← hxq, hrg, ← hgq, ← hdq, ← hpv] at he
      injection he with _ r1 r2 r3 r4
      have CA := Lib.hid (fun w => radd_any p xq w (by omega) (by omega))
      have CB := Lib.hid (fun w => radd_any pv gq w (by omega) (by omega))
      rw [r3] at CA
      rw [r4] at CB
      have CX := Lib.hid (fun w => rgreater_any c s gx w hgx.symm)
      have CN := Lib.hid (fun w => rleast_any c s gn w hgn.symm)
      subst r1 r2
      clear ok1 ok2 ok3 ok4 hs hdl hm hlo hwt ht hge hro hrg hxq hgx hgn hgp hgq hcq hp hdq hpv r3 r4
      go_enter Try.func10, Try.ntmps10
      go_wp2_with fail
      rw [← hw1, ← hw2]
      clear hw1 hw2
      go_wp2_with fail
      refine (C1.out _).mono ?_
      rintro e _ ⟨rfl, rfl⟩
      go_wp2_with fail
      refine (C2.out _).mono ?_
      rintro e _ ⟨rfl, rfl⟩
      go_wp2_with fail
      refine (C3.out _).mono ?_
      rintro e _ ⟨rfl, rfl⟩
      go_wp2_with fail
      go_quiet (first | (go_at_call 22; exact quiet_eq (CX.out _)) | (go_at_call 20; exact quiet_eq (CN.out _)) | fail)
      go_wp2_with fail
      refine (CB.out _).mono ?_
      rintro e _ ⟨rfl, rfl⟩
      go_wp2_with fail
      refine (CA.out _).mono ?_
      rintro e _ ⟨rfl, rfl⟩
      go_wp2_with fail
      obtain ⟨wz, hwz⟩ : ∃ wz, wz = put (w.heap.size + 1) true s lo c' d' (w4.drewN nq) := ⟨_, rfl⟩
      have XZ : Bx (w.heap.size + 1) true s lo c' d' wz := by rw [hwz]; exact (X4.out.drewN nq).put
      have BZ : Below w.heap.size w wz := by rw [hwz]; exact (below_drewN' B4.out nq).trans (put_below (Nat.le_succ _))
      show bodyPost _ _ _ _ _ (put (w.heap.size + 1) true s lo c' d' (w4.drewN nq))
      rw [← hwz]
      obtain ⟨z0, z1, z2, z3, z4, -, -, -, -, -⟩ := XZ
      exact bodyPost_ret (v := .agg #[.bool true, .int .u64 (s : Int), .int .u64 (lo : Int), .int .u64 (c' : Int), .int .u64 (d' : Int)]) (by simp [results, Try.results10, z0, z1, z2, z3, z4, go_sem]) rfl ⟨rfl, BZ⟩
end Go.Proofs.Yteaodhgfmbcmfaa
