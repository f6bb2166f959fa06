/-
  What package reno's closure of Ack, wider, Ack, Loss and Collapse return, for all numbers of 64 bits. No condition.
-/
import Derived.Test.YtpdmepblmjjeeaaNRnA
import Derived.Test.YtpdmepblmjjeeaaRgn
import Derived.Deep.QuietTactic
import Derived.BigQuiet
namespace Go.Proofs.Ytpdmepblmjjeeaa.Rno
open Go.ChangeShapes Go.WideShapes Go.ChangeAt Go.RowKit
set_option linter.unusedVariables false

theorem quiet_eq {P : Program} {f : FuncId} {args : Array Value} {w : World} {n : Nat} {v : Value}
    (h : Calls P f args (w.drewN n) fun e w' => e = .returned v ∧ w.drewN n = w') : Calls P f args (w.drewN n) fun e w'' => e = .returned v ∧ ∃ m, w'' = w.drewN m :=
  h.mono fun _ _ ⟨he, hm⟩ => ⟨he, n, hm.symm⟩

theorem may_any (c t s r a pl pa : Nat) (l q : Bool) (w : World) (hs : s < 18446744073709551616) (ha : a < 18446744073709551616) (hq : (!l && !decide (a < s)) = q)
    (hpl : pl < w.heap.size) (hpa : pa < w.heap.size) (k1 : w.cell? ⟨pl, 0, none⟩ = some (.bool l)) (k2 : w.cell? ⟨pa, 0, none⟩ = some (.int .u64 (a : Int))) :
    Calls Try.prog 38 #[aggRn c t s r, .pointer (some ⟨pl, 0, none⟩), .pointer (some ⟨pa, 0, none⟩)] w fun e w' => e = .returned (.bool q) ∧ Below w.heap.size w w' := by
  obtain ⟨w1, hw1⟩ : ∃ wx, wx = w.alloc (.cells #[.int .u64 (c : Int), .int .u64 (t : Int), .int .u64 (s : Int), .int .u64 (r : Int)] 24) := ⟨_, rfl⟩
  have z1 : w1.heap.size = w.heap.size + 1 := by rw [hw1]; simp
  have t1 : Below w1.heap.size w1 w1 := Below.refl _ _
  have t0 : Below w.heap.size w w1 := (show Below w.heap.size w w1 by rw [hw1]; exact (Below.refl _ _).alloc (Nat.le_refl _) _).trans (t1.mono (by omega))
  have BN := Lib.hid t0
  have ZN := Lib.hid z1
  have XC := Lib.hid (show BxRn w.heap.size c t s r w1 from (show BxRn w.heap.size c t s r w1 by rw [hw1]; exact BxRn.new _ c t s r).below t1 (by omega))
  clear t0 t1 z1
  have j1 : w1.cell? ⟨pl, 0, none⟩ = some (.bool l) := (BN.out.cell hpl).trans k1
  have j2 : w1.cell? ⟨pa, 0, none⟩ = some (.int .u64 (a : Int)) := (BN.out.cell hpa).trans k2
  have C := Lib.hid (fun w => elder_any c t s r a _ w hs ha rfl)
  obtain ⟨y, hy⟩ : ∃ y, decide (a < s) = y := ⟨_, rfl⟩
  rw [hy] at C hq
  obtain ⟨k0, k1', k2', k3, -, -, -, -⟩ := XC.out
  clear hs ha hy k1 k2 hpl hpa
  cases l with
  | true =>
    subst hq
    go_enter Try.func38, Try.ntmps38
    go_upto_region 1 with fail
    rw [← hw1]
    clear hw1
    go_wp2_with fail
    go_ret
    exact ⟨rfl, BN.out⟩
  | false =>
    subst hq
    go_enter Try.func38, Try.ntmps38
    go_upto_region 1 with fail
    rw [← hw1]
    clear hw1
    go_wp2_with fail
    refine (C.out _).mono ?_
    rintro e w2 ⟨rfl, hb⟩
    have B2 := Lib.hid (BN.out.trans (hb.mono BN.out.size))
    clear hb k0 k1' k2' k3 j1 j2
    go_wp2_with fail
    go_ret
    exact ⟨by cases y <;> rfl, B2.out⟩

theorem wider_any (c t s r m c' : Nat) (w : World) (hc : c < 18446744073709551616) (hm : m < 18446744073709551616) (hr : Wig.nheld (Wig.fadd c m) = c') :
    Calls Try.prog 40 #[aggRn c t s r, .int .u64 (m : Int)] w fun e w' => e = .returned (aggRn c' t s r) ∧ Below w.heap.size w w' := by
  have CA := Lib.hid (fun w => add_any c m w hc hm)
  have CH := Lib.hid (fun w => held_any (Wig.fadd c m) c' w hr)
  obtain ⟨x, hx⟩ : ∃ x, x = Wig.fadd c m := ⟨_, rfl⟩
  rw [← hx] at CA CH
  have B := Lib.hid (fun (o o' : Obj) => ((Below.refl w.heap.size w).alloc (Nat.le_refl _) o).alloc (by simp) o')
  clear hc hm hr hx
  go_enter Try.func40, Try.ntmps40
  go_wp2_with fail
  refine (CA.out _).mono ?_
  rintro e _ ⟨rfl, rfl⟩
  go_wp2_with fail
  refine (CH.out _).mono ?_
  rintro e _ ⟨rfl, rfl⟩
  go_wp2_with fail
  exact bodyPost_ret (v := aggRn c' t s r) (by simp [results, Try.results40, go_sem]) rfl ⟨rfl, B.out _ _⟩

theorem coll_any (c t s r : Nat) (w : World) :
    Calls Try.prog 22 #[aggRn c t s r] w fun e w' => e = .returned (.agg #[.int .u64 2400, .int .u64 (t : Int), .int .u64 0, .int .u64 0]) ∧ Below w.heap.size w w' := by
  have B := Lib.hid (fun (o o' : Obj) => ((Below.refl w.heap.size w).alloc (Nat.le_refl _) o).alloc (by simp) o')
  go_enter Try.func22, Try.ntmps22
  go_wp2_with fail
  exact bodyPost_ret (v := .agg #[.int .u64 2400, .int .u64 (t : Int), .int .u64 0, .int .u64 0]) (by simp [results, Try.results22, go_sem]) rfl ⟨rfl, B.out _ _⟩

set_option maxHeartbeats 2000000 in
theorem loss_any (c t s r a n c' t' s' r' : Nat) (w : World) (hok : Wig.Rn.Ok ⟨c, t, s, r⟩) (ha : a < 18446744073709551616) (hn : n < 18446744073709551616) (he : Wig.nloss ⟨c, t, s, r⟩ a n = ⟨c', t', s', r'⟩) :
    Calls Try.prog 21 #[aggRn c t s r, .int .u64 (a : Int), .int .u64 (n : Int)] w fun e w' => e = .returned (aggRn c' t' s' r') ∧ Below w.heap.size w w' := by
  obtain ⟨hc, ht, hs, hr⟩ := hok
  simp only at hc ht hs hr
  obtain ⟨w1, hw1⟩ : ∃ wx, wx = w.alloc (.cells #[.int .u64 (c : Int), .int .u64 (t : Int), .int .u64 (s : Int), .int .u64 (r : Int)] 24) := ⟨_, rfl⟩
  have z1 : w1.heap.size = w.heap.size + 1 := by rw [hw1]; simp
  obtain ⟨w2, hw2⟩ : ∃ wx, wx = w1.alloc (.cells #[.int .u64 0, .int .u64 0, .int .u64 0, .int .u64 0] 24) := ⟨_, rfl⟩
  have z2 : w2.heap.size = w.heap.size + 2 := by rw [hw2]; simp; omega
  have t2 : Below w2.heap.size w2 w2 := Below.refl _ _
  have t1 : Below w1.heap.size w1 w2 := (show Below w1.heap.size w1 w2 by rw [hw2]; exact (Below.refl _ _).alloc (Nat.le_refl _) _).trans (t2.mono (by omega))
  have t0 : Below w.heap.size w w2 := (show Below w.heap.size w w1 by rw [hw1]; exact (Below.refl _ _).alloc (Nat.le_refl _) _).trans (t1.mono (by omega))
  have BN := Lib.hid t0
  have ZN := Lib.hid z2
  have XC := Lib.hid (show BxRn w.heap.size c t s r w2 from (show BxRn w.heap.size c t s r w1 by rw [hw1]; exact BxRn.new _ c t s r).below t1 (by omega))
  have XZ := Lib.hid (show BxRn (w.heap.size + 1) 0 0 0 0 w2 from (show BxRn (w.heap.size + 1) 0 0 0 0 w2 by rw [hw2, ← z1]; exact BxRn.new _ 0 0 0 0).below t2 (by omega))
  clear t0 t1 t2 z1 z2
  have CE := Lib.hid (fun w => elder_any c t s r a _ w hs ha rfl)
  obtain ⟨k0, k1, k2, k3, -, -, -, -⟩ := XC.out
  by_cases h : a < s
  · rw [Wig.nloss_none h] at he
    injection he with r1 r2 r3 r4
    subst r1 r2 r3 r4
    rw [decide_eq_true h] at CE
    clear hc ht hs hr ha hn h
    go_enter Try.func21, Try.ntmps21
    go_upto_region 1 with fail
    rw [← hw1, ← hw2]
    clear hw1 hw2
    go_wp2_with fail
    refine (CE.out _).mono ?_
    rintro e w3 ⟨rfl, hb⟩
    have B3 := Lib.hid (BN.out.trans (hb.mono BN.out.size))
    have X3 := Lib.hid (XC.out.below hb (by have := ZN.out; omega))
    have Y3 := Lib.hid (XZ.out.below hb (by have := ZN.out; omega))
    clear hb k0 k1 k2 k3 BN XC XZ
    obtain ⟨k0, k1, k2, k3, -, -, -, -⟩ := X3.out
    obtain ⟨j0, j1, j2, j3, l0, l1, l2, l3⟩ := Y3.out
    go_wp2_with fail
    show bodyPost _ _ _ _ _ (putRn (w.heap.size + 1) c t s r w3)
    have BZ := B3.out.trans (putRn_below (B := w.heap.size) (p := w.heap.size + 1) (cw := c) (th := t) (si := s) (re := r) (w := w3) (by omega))
    obtain ⟨z0, z1, z2, z3, -, -, -, -⟩ := Y3.out.put (cw' := c) (th' := t) (si' := s) (re' := r)
    exact bodyPost_ret (v := aggRn c t s r) (by simp [results, Try.results21, z0, z1, z2, z3, go_sem]) rfl ⟨rfl, BZ⟩
  · rw [Wig.nloss_some h] at he
    injection he with r1 r2 r3 r4
    simp only at r1 r2 r3
    rw [r1] at r2
    subst r2 r4
    rw [decide_eq_false h] at CE
    obtain ⟨x, hx⟩ : ∃ x, x = c / 2 := ⟨_, rfl⟩
    have CH := Lib.hid (fun w => held_any (c / 2) c' w r1)
    have CA := Lib.hid (fun w => (show Calls Try.prog 24 #[.int .u64 (n : Int), .int .u64 1] w fun e w' => e = .returned (.int .u64 (s' : Int)) ∧ w = w' by have := add_any n 1 w hn (by omega); rw [r3] at this; exact this))
    rw [← hx] at CH
    have e1 : (c : Int) / 2 = (x : Int) := by omega
    have e2 : IntKind.u64.wrap (x : Int) = (x : Int) := by rw [IntKind.wrap_u64]; omega
    clear hc ht hs hr ha hn h r1 r3 hx
    go_enter Try.func21, Try.ntmps21
    go_upto_region 1 with fail
    rw [← hw1, ← hw2]
    clear hw1 hw2
    go_wp2_with fail
    refine (CE.out _).mono ?_
    rintro e w3 ⟨rfl, hb⟩
    have B3 := Lib.hid (BN.out.trans (hb.mono BN.out.size))
    have X3 := Lib.hid (XC.out.below hb (by have := ZN.out; omega))
    have Y3 := Lib.hid (XZ.out.below hb (by have := ZN.out; omega))
    clear hb k0 k1 k2 k3 BN XC XZ
    obtain ⟨k0, k1, k2, k3, -, -, -, -⟩ := X3.out
    obtain ⟨j0, j1, j2, j3, l0, l1, l2, l3⟩ := Y3.out
    go_wp2_with fail
    refine (CH.out _).mono ?_
    rintro e _ ⟨rfl, rfl⟩
    go_wp2_with fail
    refine (CA.out _).mono ?_
    rintro e _ ⟨rfl, rfl⟩
    go_wp2_with fail
    show bodyPost _ _ _ _ _ (putRn (w.heap.size + 1) c' c' s' 0 w3)
    have BZ := B3.out.trans (putRn_below (B := w.heap.size) (p := w.heap.size + 1) (cw := c') (th := c') (si := s') (re := 0) (w := w3) (by omega))
    obtain ⟨z0, z1, z2, z3, -, -, -, -⟩ := Y3.out.put (cw' := c') (th' := c') (si' := s') (re' := 0)
    exact bodyPost_ret (v := aggRn c' c' s' 0) (by simp [results, Try.results21, z0, z1, z2, z3, go_sem]) rfl ⟨rfl, BZ⟩
end Go.Proofs.Ytpdmepblmjjeeaa.Rno
