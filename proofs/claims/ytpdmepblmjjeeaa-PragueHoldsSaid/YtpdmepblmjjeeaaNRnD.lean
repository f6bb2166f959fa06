/-
  What the document's Held, New, Ack, Loss and Collapse of layer 10 return, for all numbers of 64 bits: the same as package reno's. No condition.
-/
import Derived.Test.YtpdmepblmjjeeaaNRnB
namespace Go.Proofs.Ytpdmepblmjjeeaa.Rno
open Go.ChangeShapes Go.WideShapes Go.ChangeAt Go.RowKit
set_option linter.unusedVariables false

theorem rheld_any (n r : Nat) (w : World) (hr : Wig.nheld n = r) : Calls Try.prog 32 #[.int .u64 (n : Int)] w fun e w' => e = .returned (.int .u64 (r : Int)) ∧ w = w' := by
  unfold Wig.nheld at hr
  by_cases h1 : n < 2400
  · rw [if_pos h1] at hr
    subst hr
    have t1 : decide ((n : Int) < 2400) = true := decide_eq_true (by omega)
    clear h1
    go_enter Try.func32, Try.ntmps32
    go_wp2_with fail
    go_ret
    exact ⟨rfl, rfl⟩
  · rw [if_neg h1] at hr
    have t1 : decide ((n : Int) < 2400) = false := decide_eq_false (by omega)
    by_cases h2 : 16777216 < n
    · rw [if_pos h2] at hr
      subst hr
      have t2 : decide ((16777216 : Int) < (n : Int)) = true := decide_eq_true (by omega)
      clear h1 h2
      go_enter Try.func32, Try.ntmps32
      go_wp2_with fail
      go_ret
      exact ⟨rfl, rfl⟩
    · rw [if_neg h2] at hr
      subst hr
      have t2 : decide ((16777216 : Int) < (n : Int)) = false := decide_eq_false (by omega)
      clear h1 h2
      go_enter Try.func32, Try.ntmps32
      go_wp2_with fail
      go_ret
      exact ⟨rfl, rfl⟩
theorem rnew_any (w : World) : Calls Try.prog 37 #[] w fun e w' => e = .returned (.agg #[.int .u64 12000, .int .u64 16777216, .int .u64 0, .int .u64 0]) ∧ Below w.heap.size w w' := by
  have B := Lib.hid (fun (o : Obj) => (Below.refl w.heap.size w).alloc (Nat.le_refl _) o)
  go_enter Try.func37, Try.ntmps37
  go_wp2_with fail
  exact bodyPost_ret (v := .agg #[.int .u64 12000, .int .u64 16777216, .int .u64 0, .int .u64 0]) (by simp [results, Try.results37, go_sem]) rfl ⟨rfl, B.out _⟩
theorem rcoll_any (c t s r : Nat) (w : World) :
    Calls Try.prog 36 #[aggRn c t s r] w fun e w' => e = .returned (.agg #[.int .u64 2400, .int .u64 (t : Int), .int .u64 0, .int .u64 0]) ∧ Below w.heap.size w w' := by
  have B := Lib.hid (fun (o o' : Obj) => ((Below.refl w.heap.size w).alloc (Nat.le_refl _) o).alloc (by simp) o')
  go_enter Try.func36, Try.ntmps36
  go_wp2_with fail
  exact bodyPost_ret (v := .agg #[.int .u64 2400, .int .u64 (t : Int), .int .u64 0, .int .u64 0]) (by simp [results, Try.results36, go_sem]) rfl ⟨rfl, B.out _ _⟩

set_option maxHeartbeats 2000000 in
theorem rloss_any (c t s r a n c' t' s' r' : Nat) (w : World) (hok : Wig.Rn.Ok ⟨c, t, s, r⟩) (ha : a < 18446744073709551616) (hn : n < 18446744073709551616) (he : Wig.nloss ⟨c, t, s, r⟩ a n = ⟨c', t', s', r'⟩) :
    Calls Try.prog 35 #[aggRn c t s r, .int .u64 (a : Int), .int .u64 (n : Int)] w fun e w' => e = .returned (aggRn c' t' s' r') ∧ Below w.heap.size w w' := by
  obtain ⟨hc, ht, hs, hr⟩ := hok
  simp only at hc ht hs hr
  have B := Lib.hid (fun (o o' : Obj) => ((Below.refl w.heap.size w).alloc (Nat.le_refl _) o).alloc (by simp) o')
  by_cases h : a < s
  · rw [Wig.nloss_none h] at he
    injection he with r1 r2 r3 r4
    subst r1 r2 r3 r4
    have t1 : decide (a < s) = true := decide_eq_true h
    clear hc ht hs hr ha hn h
    go_enter Try.func35, Try.ntmps35
    go_wp2_with fail
    exact bodyPost_ret (v := aggRn c t s r) (by simp [results, Try.results35, go_sem]) rfl ⟨rfl, B.out _ _⟩
  · rw [Wig.nloss_some h] at he
    injection he with r1 r2 r3 r4
    simp only at r1 r2 r3
    rw [r1] at r2
    subst r2 r4
    have t1 : decide (a < s) = false := decide_eq_false h
    obtain ⟨x, hx⟩ : ∃ x, x = c / 2 := ⟨_, rfl⟩
    have CH := Lib.hid (fun w => rheld_any (c / 2) c' w r1)
    have CA := Lib.hid (fun w => (show Calls Try.prog 27 #[.int .u64 (n : Int), .int .u64 1] w fun e w' => e = .returned (.int .u64 (s' : Int)) ∧ w = w' by have := radd_any n 1 w hn (by omega); rw [r3] at this; exact this))
    rw [← hx] at CH
    have e1 : (c : Int) / 2 = (x : Int) := by omega
    have e2 : IntKind.u64.wrap (x : Int) = (x : Int) := by rw [IntKind.wrap_u64]; omega
    clear hc ht hs hr ha hn h r1 r3 hx
    go_enter Try.func35, Try.ntmps35
    go_wp2_with fail
    refine (CH.out _).mono ?_
    rintro e _ ⟨rfl, rfl⟩
    go_wp2_with fail
    refine (CA.out _).mono ?_
    rintro e _ ⟨rfl, rfl⟩
    go_wp2_with fail
    exact bodyPost_ret (v := aggRn c' c' s' 0) (by simp [results, Try.results35, go_sem]) rfl ⟨rfl, B.out _ _⟩

set_option maxHeartbeats 1600000 in
theorem rack_any (c t s r b a c' t' s' r' : Nat) (l : Bool) (w : World) (hok : Wig.Rn.Ok ⟨c, t, s, r⟩) (hb : b < 18446744073709551616) (ha : a < 18446744073709551616) (he : Wig.nack ⟨c, t, s, r⟩ b a l = ⟨c', t', s', r'⟩) :
    Calls Try.prog 29 #[aggRn c t s r, .int .u64 (b : Int), .int .u64 (a : Int), .bool l] w fun e w' => e = .returned (aggRn c' t' s' r') ∧ Below w.heap.size w w' := by
  obtain ⟨hc, ht, hs, hr⟩ := hok
  simp only at hc ht hs hr
  have B := Lib.hid (fun (o o' : Obj) => ((Below.refl w.heap.size w).alloc (Nat.le_refl _) o).alloc (by simp) o')
  by_cases h0 : a < s ∨ l = true
  · unfold Wig.nack at he
    rw [if_pos h0] at he
    injection he with r1 r2 r3 r4
    subst r1 r2 r3 r4
    by_cases h : a < s
    · have t1 : decide (a < s) = true := decide_eq_true h
      clear hc ht hs hr hb ha h h0
      go_enter Try.func29, Try.ntmps29
      go_wp2_with fail
      exact bodyPost_ret (v := aggRn c t s r) (by simp [results, Try.results29, go_sem]) rfl ⟨rfl, B.out _ _⟩
    · have t1 : decide (a < s) = false := decide_eq_false h
      obtain rfl : l = true := by rcases h0 with h1 | h1; exact absurd h1 h; exact h1
      clear hc ht hs hr hb ha h h0
      go_enter Try.func29, Try.ntmps29
      go_wp2_with fail
      exact bodyPost_ret (v := aggRn c t s r) (by simp [results, Try.results29, go_sem]) rfl ⟨rfl, B.out _ _⟩
  · unfold Wig.nack at he
    rw [if_neg h0] at he
    simp only at he
    have t0 : decide (a < s) = false := decide_eq_false (fun h => h0 (.inl h))
    obtain rfl : l = false := by cases l; rfl; exact absurd (.inr rfl) h0
    clear h0
    by_cases h : c < t
    · rw [if_pos h] at he
      injection he with r1 r2 r3 r4
      subst r2 r3 r4
      have t1 : decide (c < t) = true := decide_eq_true h
      obtain ⟨x, hx⟩ : ∃ x, x = Wig.fadd c b := ⟨_, rfl⟩
      have CA := Lib.hid (fun w => radd_any c b w hc hb)
      have CH := Lib.hid (fun w => rheld_any _ c' w r1)
      rw [← hx] at CA CH
      clear hc ht hs hr hb ha h r1 hx
      go_enter Try.func29, Try.ntmps29
      go_wp2_with fail
      refine (CA.out _).mono ?_
      rintro e _ ⟨rfl, rfl⟩
      go_wp2_with fail
      refine (CH.out _).mono ?_
      rintro e _ ⟨rfl, rfl⟩
      go_wp2_with fail
      exact bodyPost_ret (v := aggRn c' t s r) (by simp [results, Try.results29, go_sem]) rfl ⟨rfl, B.out _ _⟩
    · rw [if_neg h] at he
      injection he with r1 r2 r3 r4
      subst r2 r3
      have t1 : decide (c < t) = false := decide_eq_false h
      obtain ⟨x, hx⟩ : ∃ x, x = Wig.nrest ⟨c, t, s, r⟩ b := ⟨_, rfl⟩
      obtain ⟨y, hy⟩ : ∃ y, y = Wig.nby ⟨c, t, s, r⟩ := ⟨_, rfl⟩
      rw [← hx, ← hy] at r1 r4
      have y0 : 0 < y := by rw [hy]; exact Wig.nby_pos _
      have x1 : x < 18446744073709551616 := by rw [hx]; exact Wig.nrest_lt _ _
      obtain ⟨g, hg⟩ : ∃ g, g = x / y := ⟨_, rfl⟩
      rw [← hg] at r1
      have g1 : g < 18446744073709551616 := by rw [hg]; exact Nat.lt_of_le_of_lt (Nat.div_le_self _ _) x1
      have e1 : (x : Int) / (y : Int) = (g : Int) := by rw [hg]; exact (Int.natCast_ediv _ _).symm
      have e2 : IntKind.u64.wrap (g : Int) = (g : Int) := by rw [IntKind.wrap_u64]; omega
      have e3 : (x : Int) % (y : Int) = (r' : Int) := by rw [← r4]; exact (Int.natCast_emod _ _).symm
      have y1 : ¬ y = 0 := by omega
      obtain ⟨v, hv⟩ : ∃ v, v = Wig.fmul b 1200 := ⟨_, rfl⟩
      obtain ⟨f, hf⟩ : ∃ f, f = Wig.fadd c g := ⟨_, rfl⟩
      have CU := Lib.hid (fun w => (show Calls Try.prog 45 #[.int .u64 (b : Int), .int .u64 1200] w fun e w' => e = .returned (.int .u64 (v : Int)) ∧ w = w' by rw [hv]; exact rmul_any b 1200 w hb (by omega)))
      have CX := Lib.hid (fun w => radd_any r v w hr (by rw [hv]; exact Wig.fmul_lt0 _ _))
      rw [show Wig.fadd r v = x by rw [hv, hx]; rfl] at CX
      have CA := Lib.hid (fun w => radd_any c g w hc g1)
      have CH := Lib.hid (fun w => rheld_any _ c' w r1)
      rw [← hf] at CA CH
      have HY := Lib.hid hy
      clear ht hs hr hb ha h r1 r4 hx y0 x1 hg g1 hv hf hy
      obtain ⟨w1, hw1⟩ : ∃ wx, wx = w.alloc (.cells #[.int .u64 (c : Int), .int .u64 (t : Int), .int .u64 (s : Int), .int .u64 (r : Int)] 24) := ⟨_, rfl⟩
      have z1 : w1.heap.size = w.heap.size + 1 := by rw [hw1]; simp
      obtain ⟨w2, hw2⟩ : ∃ wx, wx = w1.alloc (.cells #[.int .u64 0, .int .u64 0, .int .u64 0, .int .u64 0] 24) := ⟨_, rfl⟩
      have z2 : w2.heap.size = w.heap.size + 2 := by rw [hw2]; simp; omega
      have t2 : Below w2.heap.size w2 w2 := Below.refl _ _
      have t1 : Below w1.heap.size w1 w2 := (show Below w1.heap.size w1 w2 by rw [hw2]; exact (Below.refl _ _).alloc (Nat.le_refl _) _).trans (t2.mono (by omega))
      have t0 : Below w.heap.size w w2 := (show Below w.heap.size w w1 by rw [hw1]; exact (Below.refl _ _).alloc (Nat.le_refl _) _).trans (t1.mono (by omega))
      have BN := Lib.hid t0
      have ZN := Lib.hid z2
      have XC := Lib.hid (show BxRn w.heap.size c t s r w2 from (show BxRn w.heap.size c t s r w1 by rw [hw1]; exact BxRn.new _ c t s r).below t1 (by omega))
      have XZ := Lib.hid (show BxRn (w.heap.size + 1) 0 0 0 0 w2 from (show BxRn (w.heap.size + 1) 0 0 0 0 w2 by rw [hw2, ← z1]; exact BxRn.new _ 0 0 0 0).below t2 (by omega))
      clear t0 t1 t2 z1 z2
      obtain ⟨k0, k1, k2, k3, n0, -, -, n3⟩ := XC.out
      by_cases hz : c = 0
      · have d1 : ((c : Int) == 0) = true := by simp; omega
        have q1 : (y : Int) = 1 := by have := HY.out; unfold Wig.nby at this; rw [if_pos hz] at this; omega
        have q2 : y = 1 := by omega
        have q3 : g = x := by rw [q2] at e1; omega
        have q4 : r' = 0 := by rw [q2] at e3; omega
        subst q3 q4
        clear q1 q2 hz y1 e1 e3 HY
        go_enter Try.func29, Try.ntmps29
        go_upto_region 1 with fail
        rw [← hw1, ← hw2]
        clear hw1 hw2
        go_wp2_with fail
        go_quiet (first | (go_at_call 45; with_reducible exact quiet_eq (CU.out _)) | (go_at_call 27; with_reducible exact quiet_eq (CX.out _)) | fail)
        go_wp2_with fail
        refine wp_region_held_drew (S := fun _ => True) (by kernel_rfl) ?_ (fun hHeld => ?_)
        · trivial
        refine held_take (v := ?vv101) 0 rfl (by kernel_rfl) (by kernel_rfl) (by kernel_rfl) (fun _ _ _ h => h) (by rfl) ?yy101 (by assumption) ?nn101
        case yy101 =>
          intro w hSw
          (try dsimp only at hSw)
          go_simp
          try with_reducible rfl
        try simp only [Act.put, List.setIfInBounds_toArray, List.set_cons_zero, List.set_cons_succ]
        refine held_take (v := ?vv102) 2 rfl (by kernel_rfl) (by kernel_rfl) (by kernel_rfl) (fun _ _ _ h => h) (by rfl) ?yy102 (by assumption) ?nn102
        case yy102 =>
          intro w hSw
          (try dsimp only at hSw)
          go_simp
          try with_reducible rfl
        try simp only [Act.put, List.setIfInBounds_toArray, List.set_cons_zero, List.set_cons_succ]
        refine held_take (v := ?vv103) 3 rfl (by kernel_rfl) (by kernel_rfl) (by kernel_rfl) (fun _ _ _ h => h) (by rfl) ?yy103 (by assumption) ?nn103
        case yy103 =>
          intro w hSw
          (try dsimp only at hSw)
          go_simp
          try with_reducible rfl
        try simp only [Act.put, List.setIfInBounds_toArray, List.set_cons_zero, List.set_cons_succ]
        refine held_take (v := ?vv104) 4 rfl (by kernel_rfl) (by kernel_rfl) (by kernel_rfl) (fun _ _ _ h => h) (by rfl) ?yy104 (by assumption) ?nn104
        case yy104 =>
          intro w hSw
          (try dsimp only at hSw)
          go_simp
          try with_reducible rfl
        try simp only [Act.put, List.setIfInBounds_toArray, List.set_cons_zero, List.set_cons_succ]
        refine held_do 1 rfl (by kernel_rfl) (by rfl) (fun K hK => ?_)
        go_wp2_with fail
        refine hK.out _ _ ?_ (fun hHeld => ?_)
        · trivial
        clear hK K
        try simp only [Act.put, List.setIfInBounds_toArray, List.set_cons_zero, List.set_cons_succ]
        refine held_do 5 rfl (by kernel_rfl) (by rfl) (fun K hK => ?_)
        go_wp2_with (go_at_call 27; with_reducible refine (CA.out _).mono ?_; rintro e _ ⟨rfl, rfl⟩)
        refine hK.out _ _ ?_ (fun hHeld => ?_)
        · trivial
        clear hK K
        try simp only [Act.put, List.setIfInBounds_toArray, List.set_cons_zero, List.set_cons_succ]
        refine held_do 6 rfl (by kernel_rfl) (by rfl) (fun K hK => ?_)
        go_wp2_with (go_at_call 32; with_reducible refine (CH.out _).mono ?_; rintro e _ ⟨rfl, rfl⟩)
        refine hK.out _ _ ?_ (fun hHeld => ?_)
        · trivial
        clear hK K
        try simp only [Act.put, List.setIfInBounds_toArray, List.set_cons_zero, List.set_cons_succ]
        refine held_take (v := ?vv108) 7 rfl (by kernel_rfl) (by kernel_rfl) (by kernel_rfl) (fun _ _ _ h => h) (by rfl) ?yy108 (by assumption) ?nn108
        case yy108 =>
          intro w hSw
          (try dsimp only at hSw)
          go_simp
          try with_reducible rfl
        try simp only [Act.put, List.setIfInBounds_toArray, List.set_cons_zero, List.set_cons_succ]
        refine held_do 8 rfl (by kernel_rfl) (by rfl) (fun K hK => ?_)
        go_wp2_with fail
        refine hK.out _ _ ?_ (fun hHeld => ?_)
        · trivial
        clear hK K
        try simp only [Act.put, List.setIfInBounds_toArray, List.set_cons_zero, List.set_cons_succ]
        refine wpAnyH_done (by kernel_rfl) ?_ _
        clear hHeld
        go_upto_region 11 with fail
        obtain ⟨w3, hw3⟩ : ∃ w3, w3 = (w2.drewN (nq + 1)).setCell ⟨w.heap.size, 0, none⟩ (.int .u64 (c' : Int)) := ⟨_, rfl⟩
        have X3 := Lib.hid (show BxRn w.heap.size c' t s r w3 by rw [hw3]; exact (XC.out.drewN (nq + 1)).set0)
        have Y3 := Lib.hid (show BxRn (w.heap.size + 1) 0 0 0 0 w3 by rw [hw3]; exact (XZ.out.drewN (nq + 1)).other rfl (by first | omega | (simp only; omega)))
        have B3 := Lib.hid (show Below w.heap.size w w3 by rw [hw3]; exact Below.setCell (below_drewN' BN.out (nq + 1)) (Nat.le_refl _) _)
        rw [← hw3]
        clear hw3 k0 k1 k2 k3 n0 n3 XC XZ BN
        obtain ⟨k0, k1, k2, k3, n0, -, -, n3⟩ := X3.out
        go_upto_region 12 with fail
        obtain ⟨w4, hw4⟩ : ∃ w4, w4 = w3.setCell ⟨w.heap.size, 3, none⟩ (.int .u64 0) := ⟨_, rfl⟩
        have X4 := Lib.hid (show BxRn w.heap.size c' t s 0 w4 by rw [hw4]; exact X3.out.set3)
        have Y4 := Lib.hid (show BxRn (w.heap.size + 1) 0 0 0 0 w4 by rw [hw4]; exact Y3.out.other rfl (by first | omega | (simp only; omega)))
        have B4 := Lib.hid (show Below w.heap.size w w4 by rw [hw4]; exact Below.setCell B3.out (Nat.le_refl _) _)
        rw [← hw4]
        clear hw4 k0 k1 k2 k3 n0 n3 X3 Y3 B3
        obtain ⟨k0, k1, k2, k3, -, -, -, -⟩ := X4.out
        obtain ⟨j0, j1, j2, j3, l0, l1, l2, l3⟩ := Y4.out
        go_wp2_with fail
        show bodyPost _ _ _ _ _ (putRn (w.heap.size + 1) c' t s 0 w4)
        have BZ := B4.out.trans (putRn_below (B := w.heap.size) (p := w.heap.size + 1) (cw := c') (th := t) (si := s) (re := 0) (w := w4) (by omega))
        obtain ⟨z0, z1, z2, z3, -, -, -, -⟩ := Y4.out.put (cw' := c') (th' := t) (si' := s) (re' := 0)
        exact bodyPost_ret (v := aggRn c' t s 0) (by simp [results, Try.results29, z0, z1, z2, z3, go_sem]) rfl ⟨rfl, BZ⟩
      · have d1 : ((c : Int) == 0) = false := by simp; omega
        have q1 : (y : Int) = (c : Int) := by have := HY.out; unfold Wig.nby at this; rw [if_neg hz] at this; simp only at this; omega
        rw [q1] at e1 e3
        clear q1 y1 HY
        go_enter Try.func29, Try.ntmps29
        go_upto_region 1 with fail
        rw [← hw1, ← hw2]
        clear hw1 hw2
        go_wp2_with fail
        go_quiet (first | (go_at_call 45; with_reducible exact quiet_eq (CU.out _)) | (go_at_call 27; with_reducible exact quiet_eq (CX.out _)) | fail)
        go_wp2_with fail
        refine wp_region_held_drew (S := fun _ => True) (by kernel_rfl) ?_ (fun hHeld => ?_)
        · trivial
        refine held_take (v := ?vv111) 0 rfl (by kernel_rfl) (by kernel_rfl) (by kernel_rfl) (fun _ _ _ h => h) (by rfl) ?yy111 (by assumption) ?nn111
        case yy111 =>
          intro w hSw
          (try dsimp only at hSw)
          go_simp
          try with_reducible rfl
        try simp only [Act.put, List.setIfInBounds_toArray, List.set_cons_zero, List.set_cons_succ]
        refine held_take (v := ?vv112) 2 rfl (by kernel_rfl) (by kernel_rfl) (by kernel_rfl) (fun _ _ _ h => h) (by rfl) ?yy112 (by assumption) ?nn112
        case yy112 =>
          intro w hSw
          (try dsimp only at hSw)
          go_simp
          try with_reducible rfl
        try simp only [Act.put, List.setIfInBounds_toArray, List.set_cons_zero, List.set_cons_succ]
        refine held_take (v := ?vv113) 3 rfl (by kernel_rfl) (by kernel_rfl) (by kernel_rfl) (fun _ _ _ h => h) (by rfl) ?yy113 (by assumption) ?nn113
        case yy113 =>
          intro w hSw
          (try dsimp only at hSw)
          go_simp
          try with_reducible rfl
        try simp only [Act.put, List.setIfInBounds_toArray, List.set_cons_zero, List.set_cons_succ]
        refine held_take (v := ?vv114) 4 rfl (by kernel_rfl) (by kernel_rfl) (by kernel_rfl) (fun _ _ _ h => h) (by rfl) ?yy114 (by assumption) ?nn114
        case yy114 =>
          intro w hSw
          (try dsimp only at hSw)
          go_simp
          try with_reducible rfl
        try simp only [Act.put, List.setIfInBounds_toArray, List.set_cons_zero, List.set_cons_succ]
        refine held_do 1 rfl (by kernel_rfl) (by rfl) (fun K hK => ?_)
        go_wp2_with fail
        refine hK.out _ _ ?_ (fun hHeld => ?_)
        · trivial
        clear hK K
        try simp only [Act.put, List.setIfInBounds_toArray, List.set_cons_zero, List.set_cons_succ]
        refine held_do 5 rfl (by kernel_rfl) (by rfl) (fun K hK => ?_)
        go_wp2_with (go_at_call 27; with_reducible refine (CA.out _).mono ?_; rintro e _ ⟨rfl, rfl⟩)
        refine hK.out _ _ ?_ (fun hHeld => ?_)
        · trivial
        clear hK K
        try simp only [Act.put, List.setIfInBounds_toArray, List.set_cons_zero, List.set_cons_succ]
        refine held_do 6 rfl (by kernel_rfl) (by rfl) (fun K hK => ?_)
        go_wp2_with (go_at_call 32; with_reducible refine (CH.out _).mono ?_; rintro e _ ⟨rfl, rfl⟩)
        refine hK.out _ _ ?_ (fun hHeld => ?_)
        · trivial
        clear hK K
        try simp only [Act.put, List.setIfInBounds_toArray, List.set_cons_zero, List.set_cons_succ]
        refine held_take (v := ?vv118) 7 rfl (by kernel_rfl) (by kernel_rfl) (by kernel_rfl) (fun _ _ _ h => h) (by rfl) ?yy118 (by assumption) ?nn118
        case yy118 =>
          intro w hSw
          (try dsimp only at hSw)
          go_simp
          try with_reducible rfl
        try simp only [Act.put, List.setIfInBounds_toArray, List.set_cons_zero, List.set_cons_succ]
        refine held_do 8 rfl (by kernel_rfl) (by rfl) (fun K hK => ?_)
        go_wp2_with fail
        refine hK.out _ _ ?_ (fun hHeld => ?_)
        · trivial
        clear hK K
        try simp only [Act.put, List.setIfInBounds_toArray, List.set_cons_zero, List.set_cons_succ]
        refine wpAnyH_done (by kernel_rfl) ?_ _
        clear hHeld
        go_upto_region 11 with fail
        obtain ⟨w3, hw3⟩ : ∃ w3, w3 = (w2.drewN (nq + 1)).setCell ⟨w.heap.size, 0, none⟩ (.int .u64 (c' : Int)) := ⟨_, rfl⟩
        have X3 := Lib.hid (show BxRn w.heap.size c' t s r w3 by rw [hw3]; exact (XC.out.drewN (nq + 1)).set0)
        have Y3 := Lib.hid (show BxRn (w.heap.size + 1) 0 0 0 0 w3 by rw [hw3]; exact (XZ.out.drewN (nq + 1)).other rfl (by first | omega | (simp only; omega)))
        have B3 := Lib.hid (show Below w.heap.size w w3 by rw [hw3]; exact Below.setCell (below_drewN' BN.out (nq + 1)) (Nat.le_refl _) _)
        rw [← hw3]
        clear hw3 k0 k1 k2 k3 n0 n3 XC XZ BN
        obtain ⟨k0, k1, k2, k3, n0, -, -, n3⟩ := X3.out
        go_upto_region 12 with fail
        obtain ⟨w4, hw4⟩ : ∃ w4, w4 = w3.setCell ⟨w.heap.size, 3, none⟩ (.int .u64 (r' : Int)) := ⟨_, rfl⟩
        have X4 := Lib.hid (show BxRn w.heap.size c' t s r' w4 by rw [hw4]; exact X3.out.set3)
        have Y4 := Lib.hid (show BxRn (w.heap.size + 1) 0 0 0 0 w4 by rw [hw4]; exact Y3.out.other rfl (by first | omega | (simp only; omega)))
        have B4 := Lib.hid (show Below w.heap.size w w4 by rw [hw4]; exact Below.setCell B3.out (Nat.le_refl _) _)
        rw [← hw4]
        clear hw4 k0 k1 k2 k3 n0 n3 X3 Y3 B3
        obtain ⟨k0, k1, k2, k3, -, -, -, -⟩ := X4.out
        obtain ⟨j0, j1, j2, j3, l0, l1, l2, l3⟩ := Y4.out
        go_wp2_with fail
        show bodyPost _ _ _ _ _ (putRn (w.heap.size + 1) c' t s r' w4)
        have BZ := B4.out.trans (putRn_below (B := w.heap.size) (p := w.heap.size + 1) (cw := c') (th := t) (si := s) (re := r') (w := w4) (by omega))
        obtain ⟨z0, z1, z2, z3, -, -, -, -⟩ := Y4.out.put (cw' := c') (th' := t) (si' := s) (re' := r')
        exact bodyPost_ret (v := aggRn c' t s r') (by simp [results, Try.results29, z0, z1, z2, z3, go_sem]) rfl ⟨rfl, BZ⟩
end Go.Proofs.Ytpdmepblmjjeeaa.Rno
