/-
  What package reno's Ack returns, for all numbers of 64 bits. No condition.
-/
import Derived.Test.YtpdmepblmjjeeaaNRnB
namespace Go.Proofs.Ytpdmepblmjjeeaa.Rno
open Go.ChangeShapes Go.WideShapes Go.ChangeAt Go.RowKit
set_option linter.unusedVariables false

set_option maxHeartbeats 4000000 in
theorem ack_any (c t s r b a c' t' s' r' : Nat) (l : Bool) (w : World) (hok : Wig.Rn.Ok ⟨c, t, s, r⟩) (hb : b < 18446744073709551616) (ha : a < 18446744073709551616) (he : Wig.nack ⟨c, t, s, r⟩ b a l = ⟨c', t', s', r'⟩) :
    Calls Try.prog 20 #[aggRn c t s r, .int .u64 (b : Int), .int .u64 (a : Int), .bool l] w fun e w' => e = .returned (aggRn c' t' s' r') ∧ Below w.heap.size w w' := by
  obtain ⟨hc, ht, hs, hr⟩ := hok
  simp only at hc ht hs hr
  obtain ⟨w1, hw1⟩ : ∃ wx, wx = w.alloc (.cells #[.int .u64 (c : Int), .int .u64 (t : Int), .int .u64 (s : Int), .int .u64 (r : Int)] 24) := ⟨_, rfl⟩
  have z1 : w1.heap.size = w.heap.size + 1 := by rw [hw1]; simp
  obtain ⟨w2, hw2⟩ : ∃ wx, wx = w1.alloc (.cells #[.int .u64 (a : Int)] 22) := ⟨_, rfl⟩
  have z2 : w2.heap.size = w.heap.size + 2 := by rw [hw2]; simp; omega
  obtain ⟨w3, hw3⟩ : ∃ wx, wx = w2.alloc (.cells #[.bool l] 4) := ⟨_, rfl⟩
  have z3 : w3.heap.size = w.heap.size + 3 := by rw [hw3]; simp; omega
  obtain ⟨w4, hw4⟩ : ∃ wx, wx = w3.alloc (.cells #[.int .u64 0, .int .u64 0, .int .u64 0, .int .u64 0] 24) := ⟨_, rfl⟩
  have z4 : w4.heap.size = w.heap.size + 4 := by rw [hw4]; simp; omega
  have t4 : Below w4.heap.size w4 w4 := Below.refl _ _
  have t3 : Below w3.heap.size w3 w4 := (show Below w3.heap.size w3 w4 by rw [hw4]; exact (Below.refl _ _).alloc (Nat.le_refl _) _).trans (t4.mono (by omega))
  have t2 : Below w2.heap.size w2 w4 := (show Below w2.heap.size w2 w3 by rw [hw3]; exact (Below.refl _ _).alloc (Nat.le_refl _) _).trans (t3.mono (by omega))
  have t1 : Below w1.heap.size w1 w4 := (show Below w1.heap.size w1 w2 by rw [hw2]; exact (Below.refl _ _).alloc (Nat.le_refl _) _).trans (t2.mono (by omega))
  have t0 : Below w.heap.size w w4 := (show Below w.heap.size w w1 by rw [hw1]; exact (Below.refl _ _).alloc (Nat.le_refl _) _).trans (t1.mono (by omega))
  have BN := Lib.hid t0
  have ZN := Lib.hid z4
  have XC := Lib.hid (show BxRn w.heap.size c t s r w4 from (show BxRn w.heap.size c t s r w1 by rw [hw1]; exact BxRn.new _ c t s r).below t1 (by omega))
  have CA := Lib.hid (show w4.cell? ⟨(w.heap.size + 1), 0, none⟩ = some (.int .u64 (a : Int)) ∧ w4.frozen? ⟨(w.heap.size + 1), 0, none⟩ = false from ⟨(t2.cell (by show _ < _; simp only; omega)).trans (by rw [hw2, ← z1, World.cell?_alloc_at _ _ _ _ rfl]; rfl), (t2.frozen (by show _ < _; simp only; omega)).trans (by rw [hw2, ← z1]; exact World.frozen?_alloc_at _ _ _ _ rfl)⟩)
  have CL := Lib.hid (show w4.cell? ⟨(w.heap.size + 2), 0, none⟩ = some (.bool l) ∧ w4.frozen? ⟨(w.heap.size + 2), 0, none⟩ = false from ⟨(t3.cell (by show _ < _; simp only; omega)).trans (by rw [hw3, ← z2, World.cell?_alloc_at _ _ _ _ rfl]; rfl), (t3.frozen (by show _ < _; simp only; omega)).trans (by rw [hw3, ← z2]; exact World.frozen?_alloc_at _ _ _ _ rfl)⟩)
  have XZ := Lib.hid (show BxRn (w.heap.size + 3) 0 0 0 0 w4 from (show BxRn (w.heap.size + 3) 0 0 0 0 w4 by rw [hw4, ← z3]; exact BxRn.new _ 0 0 0 0).below t4 (by omega))
  clear t0 t1 t2 t3 t4 z1 z2 z3 z4
  obtain ⟨q, hq⟩ : ∃ q, (!l && !decide (a < s)) = q := ⟨_, rfl⟩
  have CM := Lib.hid (may_any c t s r a (w.heap.size + 2) (w.heap.size + 1) l q w4 hs ha hq (by have := ZN.out; omega) (by have := ZN.out; omega) CL.out.1 CA.out.1)
  have hmf : ∀ (fn : Fn) (first cap : Array Value) (w : World), (Instr.makeFunc fn first cap).run Try.prog w = .ok (.func fn first cap) w := fun _ _ _ _ => rfl
  obtain ⟨k0, k1, k2, k3, -, -, -, -⟩ := XC.out
  cases q with
  | false =>
    have h0 : a < s ∨ l = true := by
      by_cases h : a < s
      · exact .inl h
      · rw [decide_eq_false h] at hq; cases l <;> simp at hq ⊢
    unfold Wig.nack at he
    rw [if_pos h0] at he
    injection he with r1 r2 r3 r4
    subst r1 r2 r3 r4
    clear hc ht hs hr hb ha hq h0
    go_enter Try.func20, Try.ntmps20
    go_upto_region 1 with fail
    rw [← hw1, ← hw2, ← hw3, ← hw4]
    clear hw1 hw2 hw3 hw4
    go_wp2_with fail
    refine (CM.out).mono ?_
    rintro e w5 ⟨rfl, hb5⟩
    have B5 := Lib.hid (BN.out.trans (hb5.mono BN.out.size))
    have Z5 := Lib.hid (show w.heap.size + 4 ≤ w5.heap.size by have := ZN.out; have := hb5.size; omega)
    have X5 := Lib.hid (XC.out.below hb5 (by have := ZN.out; omega))
    have Y5 := Lib.hid (XZ.out.below hb5 (by have := ZN.out; omega))
    clear hb5 k0 k1 k2 k3 BN XC XZ CA CL ZN CM
    obtain ⟨k0, k1, k2, k3, -, -, -, -⟩ := X5.out
    obtain ⟨j0, j1, j2, j3, l0, l1, l2, l3⟩ := Y5.out
    go_wp2_with fail
    show bodyPost _ _ _ _ _ (putRn (w.heap.size + 3) c t s r w5)
    have BZ := B5.out.trans (putRn_below (B := w.heap.size) (p := w.heap.size + 3) (cw := c) (th := t) (si := s) (re := r) (w := w5) (by omega))
    obtain ⟨z0, z1, z2, z3, -, -, -, -⟩ := Y5.out.put (cw' := c) (th' := t) (si' := s) (re' := r)
    exact bodyPost_ret (v := aggRn c t s r) (by simp [results, Try.results20, z0, z1, z2, z3, go_sem]) rfl ⟨rfl, BZ⟩
  | true =>
    have h0 : ¬ (a < s ∨ l = true) := by
      rintro (h | h)
      · rw [decide_eq_true h] at hq; cases l <;> simp at hq
      · subst h; simp at hq
    unfold Wig.nack at he
    rw [if_neg h0] at he
    simp only at he
    clear hq h0
    by_cases h : c < t
    · rw [if_pos h] at he
      injection he with r1 r2 r3 r4
      subst r2 r3 r4
      have t1 : decide (c < t) = true := decide_eq_true h
      have CW := Lib.hid (fun w => wider_any c t s r b c' w hc hb r1)
      clear hc ht hs hr hb ha h r1
      go_enter Try.func20, Try.ntmps20
      go_upto_region 1 with fail
      rw [← hw1, ← hw2, ← hw3, ← hw4]
      clear hw1 hw2 hw3 hw4
      go_wp2_with fail
      refine (CM.out).mono ?_
      rintro e w5 ⟨rfl, hb5⟩
      have B5 := Lib.hid (BN.out.trans (hb5.mono BN.out.size))
      have Z5 := Lib.hid (show w.heap.size + 4 ≤ w5.heap.size by have := ZN.out; have := hb5.size; omega)
      have X5 := Lib.hid (XC.out.below hb5 (by have := ZN.out; omega))
      have Y5 := Lib.hid (XZ.out.below hb5 (by have := ZN.out; omega))
      clear hb5 k0 k1 k2 k3 BN XC XZ CA CL ZN CM
      obtain ⟨k0, k1, k2, k3, -, -, -, -⟩ := X5.out
      go_wp2_with fail
      refine (CW.out _).mono ?_
      rintro e w6 ⟨rfl, hb6⟩
      have B6 := Lib.hid (B5.out.trans (hb6.mono B5.out.size))
      have Y6 := Lib.hid (Y5.out.below hb6 (by have := Z5.out; omega))
      clear hb6 k0 k1 k2 k3 B5 X5 Y5 Z5
      obtain ⟨j0, j1, j2, j3, l0, l1, l2, l3⟩ := Y6.out
      go_wp2_with fail
      show bodyPost _ _ _ _ _ (putRn (w.heap.size + 3) c' t s r w6)
      have BZ := B6.out.trans (putRn_below (B := w.heap.size) (p := w.heap.size + 3) (cw := c') (th := t) (si := s) (re := r) (w := w6) (by omega))
      obtain ⟨z0, z1, z2, z3, -, -, -, -⟩ := Y6.out.put (cw' := c') (th' := t) (si' := s) (re' := r)
      exact bodyPost_ret (v := aggRn c' t s r) (by simp [results, Try.results20, z0, z1, z2, z3, go_sem]) rfl ⟨rfl, BZ⟩
    · rw [if_neg h] at he
      injection he with r1 r2 r3 r4
      subst r2 r3
      have t1 : decide (c < t) = false := decide_eq_false h
      obtain ⟨x, hx⟩ : ∃ x, x = Wig.nrest ⟨c, t, s, r⟩ b := ⟨_, rfl⟩
      obtain ⟨y, hy⟩ : ∃ y, y = Wig.nby ⟨c, t, s, r⟩ := ⟨_, rfl⟩
      rw [← hx, ← hy] at r1 r4
      have y0 : 0 < y := by rw [hy]; exact Wig.nby_pos _
      have x1 : x < 18446744073709551616 := by rw [hx]; exact Wig.nrest_lt _ _
      obtain ⟨g, hg⟩ : ∃ g, g = x / y := ⟨_, rfl⟩
      rw [← hg] at r1
      have g1 : g < 18446744073709551616 := by rw [hg]; exact Nat.lt_of_le_of_lt (Nat.div_le_self _ _) x1
      have m1 : ∀ ts t w, (Builtin.max_ ts t #[.int .u64 (c : Int), .int .u64 1]).run Try.prog w = .ok (.int .u64 (y : Int)) w := by
        intro ts t w
        unfold Wig.nby at hy
        simp only at hy
        rw [run_max_int2, show (if (1 : Int) > (c : Int) then (1 : Int) else (c : Int)) = (y : Int) by split <;> split at hy <;> omega]
      have e1 : (x : Int) / (y : Int) = (g : Int) := by rw [hg]; exact (Int.natCast_ediv _ _).symm
      have e2 : IntKind.u64.wrap (g : Int) = (g : Int) := by rw [IntKind.wrap_u64]; omega
      have e3 : (x : Int) % (y : Int) = (r' : Int) := by rw [← r4]; exact (Int.natCast_emod _ _).symm
      have y1 : ¬ y = 0 := by omega
      obtain ⟨v, hv⟩ : ∃ v, v = Wig.fmul b 1200 := ⟨_, rfl⟩
      have CU := Lib.hid (fun w => (show Calls Try.prog 41 #[.int .u64 (b : Int), .int .u64 1200] w fun e w' => e = .returned (.int .u64 (v : Int)) ∧ w = w' by rw [hv]; exact mul_any b 1200 w hb (by omega)))
      have CX := Lib.hid (fun w => add_any r v w hr (by rw [hv]; exact Wig.fmul_lt0 _ _))
      rw [show Wig.fadd r v = x by rw [hv, hx]; rfl] at CX
      have CW := Lib.hid (fun w => wider_any c t s r' g c' w hc g1 r1)
      clear hc ht hs hr hb ha h r1 r4 hx hy y0 x1 hg g1 hv
      go_enter Try.func20, Try.ntmps20
      go_upto_region 1 with fail
      rw [← hw1, ← hw2, ← hw3, ← hw4]
      clear hw1 hw2 hw3 hw4
      go_wp2_with fail
      refine (CM.out).mono ?_
      rintro e w5 ⟨rfl, hb5⟩
      have B5 := Lib.hid (BN.out.trans (hb5.mono BN.out.size))
      have Z5 := Lib.hid (show w.heap.size + 4 ≤ w5.heap.size by have := ZN.out; have := hb5.size; omega)
      have X5 := Lib.hid (XC.out.below hb5 (by have := ZN.out; omega))
      have Y5 := Lib.hid (XZ.out.below hb5 (by have := ZN.out; omega))
      clear hb5 k0 k1 k2 k3 BN XC XZ CA CL ZN CM
      obtain ⟨k0, k1, k2, k3, -, -, -, -⟩ := X5.out
      go_wp2_with fail
      go_quiet (first | (go_at_call 41; with_reducible exact quiet_eq (CU.out _)) | (go_at_call 24; with_reducible exact quiet_eq (CX.out _)) | fail)
      have n3 : w5.frozen? ⟨w.heap.size, 3, none⟩ = false := X5.out.f3
      go_upto_region 9 with fail
      obtain ⟨w6, hw6⟩ : ∃ w6, w6 = (w5.drewN nq).setCell ⟨w.heap.size, 3, none⟩ (.int .u64 (r' : Int)) := ⟨_, rfl⟩
      have X6 := Lib.hid (show BxRn w.heap.size c t s r' w6 by rw [hw6]; exact (X5.out.drewN nq).set3)
      have Y6 := Lib.hid (show BxRn (w.heap.size + 3) 0 0 0 0 w6 by rw [hw6]; exact (Y5.out.drewN nq).other rfl (by simp only; omega))
      have B6 := Lib.hid (show Below w.heap.size w w6 by rw [hw6]; exact Below.setCell (below_drewN' B5.out nq) (Nat.le_refl _) _)
      have Z6 := Lib.hid (show w.heap.size + 4 ≤ w6.heap.size by rw [hw6]; have := Z5.out; simpa using this)
      rw [← hw6]
      clear hw6 k0 k1 k2 k3 n3 X5 Y5 B5 Z5 CU CX
      refine wp_region_held_drew (S := fun wx => BxRn w.heap.size c t s r' wx ∧ Below w.heap.size w wx) (by kernel_rfl) ?_ (fun hHeld => ?_)
      · exact ⟨X6.out.drew, B6.out.drew⟩
      refine held_take (v := aggRn c t s r') 0 rfl (by kernel_rfl) (by kernel_rfl) (by kernel_rfl) (fun _ _ _ h => h) (by rfl) (fun wx hSw => by obtain ⟨c0, c1, c2, c3, -, -, -, -⟩ := hSw.1; clear hSw; go_simp) (by assumption) ?_
      try simp only [Act.put, List.setIfInBounds_toArray, List.set_cons_zero, List.set_cons_succ]
      refine held_take (v := ?vv102) 1 rfl (by kernel_rfl) (by kernel_rfl) (by kernel_rfl) (fun _ _ _ h => h) (by rfl) ?yy102 (by assumption) ?nn102
      case yy102 =>
        intro w hSw
        (try dsimp only at hSw)
        go_simp
        try with_reducible rfl
      try simp only [Act.put, List.setIfInBounds_toArray, List.set_cons_zero, List.set_cons_succ]
      refine held_take (v := ?vv103) 2 rfl (by kernel_rfl) (by kernel_rfl) (by kernel_rfl) (fun _ _ _ h => h) (by rfl) ?yy103 (by assumption) ?nn103
      case yy103 =>
        intro w hSw
        (try dsimp only at hSw)
        go_simp
        try with_reducible rfl
      try simp only [Act.put, List.setIfInBounds_toArray, List.set_cons_zero, List.set_cons_succ]
      refine held_take (v := ?vv104) 3 rfl (by kernel_rfl) (by kernel_rfl) (by kernel_rfl) (fun _ _ _ h => h) (by rfl) ?yy104 (by assumption) ?nn104
      case yy104 =>
        intro w hSw
        (try dsimp only at hSw)
        go_simp
        try with_reducible rfl
      try simp only [Act.put, List.setIfInBounds_toArray, List.set_cons_zero, List.set_cons_succ]
      refine held_do 4 rfl (by kernel_rfl) (by rfl) (fun K hK => ?_)
      go_wp2_with (go_at_call 40; refine (CW.out _).mono ?_; rintro e w7 ⟨rfl, hb7⟩; have B7 := Lib.hid (below_trans' B6.out.drew hb7); have X7 := Lib.hid (X6.out.drew.below hb7 (by have := Z6.out; show w.heap.size < w6.heap.size; omega)); have Y7 := Lib.hid (Y6.out.drew.below hb7 (by have := Z6.out; show w.heap.size + 3 < w6.heap.size; omega)); clear hb7)
      refine hK.out _ _ ?_ (fun hHeld => ?_)
      · exact ⟨X7.out, B7.out⟩
      clear hK K
      try simp only [Act.put, List.setIfInBounds_toArray, List.set_cons_zero, List.set_cons_succ]
      refine held_do 5 rfl (by kernel_rfl) (by rfl) (fun K hK => ?_)
      obtain ⟨j0, j1, j2, j3, l0, l1, l2, l3⟩ := Y7.out
      go_wp2_with fail
      refine hK.out _ _ ?_ (fun hHeld => ?_)
      · exact ⟨(((X7.out.other rfl (by first | omega | (simp only; omega))).other rfl (by first | omega | (simp only; omega))).other rfl (by first | omega | (simp only; omega))).other rfl (by first | omega | (simp only; omega)), B7.out.trans (putRn_below (B := w.heap.size) (p := w.heap.size + 3) (cw := c') (th := t) (si := s) (re := r') (w := w7) (by omega))⟩
      clear hK K
      try simp only [Act.put, List.setIfInBounds_toArray, List.set_cons_zero, List.set_cons_succ]
      refine wpAnyH_done (by kernel_rfl) ?_ _
      clear hHeld
      go_wp2_with fail
      show bodyPost _ _ _ _ _ (putRn (w.heap.size + 3) c' t s r' w7)
      have BZ := B7.out.trans (putRn_below (B := w.heap.size) (p := w.heap.size + 3) (cw := c') (th := t) (si := s) (re := r') (w := w7) (by omega))
      obtain ⟨z0, z1, z2, z3, -, -, -, -⟩ := Y7.out.put (cw' := c') (th' := t) (si' := s) (re' := r')
      exact bodyPost_ret (v := aggRn c' t s r') (by simp [results, Try.results20, z0, z1, z2, z3, go_sem]) rfl ⟨rfl, BZ⟩
end Go.Proofs.Ytpdmepblmjjeeaa.Rno
