/-
  SpanOrder: the order of what is added to any set of at most fifty spans of its own does not matter, nor that it is added twice; what is added and cut out again is what was cut out at once; a set and itself have all in common. No condition.
-/
import Derived.Test.YtfibbohccaknjaaSpW
namespace Go.Proofs.Ytfibbohccaknjaa.spanOrder
open Go.ChangeShapes Go.WideShapes Go.ChangeAt Go.RowKit Go.Deep
set_option linter.unusedVariables false

theorem held_two_bx {w1 w' : World} {b1 b2 s0 s1 t0 t1 : Nat} (h : Bx b1 s0 s1 w1) (k : Bx b2 t0 t1 w1) (hb : b1 < w1.heap.size) (kb : b2 < w1.heap.size) (l : Below w1.heap.size w1 w') :
    w'.cell? ⟨b1, 0, none⟩ = some (.int .u64 (s0 : Int)) ∧ w'.cell? ⟨b1, 1, none⟩ = some (.int .u64 (s1 : Int)) ∧ w'.cell? ⟨b2, 0, none⟩ = some (.int .u64 (t0 : Int)) ∧ w'.cell? ⟨b2, 1, none⟩ = some (.int .u64 (t1 : Int)) ∧ Below w1.heap.size w1 w' :=
  ⟨(l.cell hb).trans h.c0, (l.cell hb).trans h.c1, (l.cell kb).trans k.c0, (l.cell kb).trans k.c1, l⟩
theorem add_order {ss : List Wig.Spn} {s t : Wig.Spn} (oa : Wig.SOwn ss) : Wig.sadd (Wig.sadd ss t) s = Wig.sadd (Wig.sadd ss s) t :=
  Wig.own_unique (Wig.sadd_own (Wig.sadd_own oa)) (Wig.sadd_own (Wig.sadd_own oa)) fun n => by
    rw [Wig.sadd_has (Wig.sadd_own oa), Wig.sadd_has oa, Wig.sadd_has (Wig.sadd_own oa), Wig.sadd_has oa]
    cases Wig.shas ss n <;> cases Wig.inn s n <;> cases Wig.inn t n <;> rfl
theorem add_twice {ss : List Wig.Spn} {s t : Wig.Spn} (oa : Wig.SOwn ss) : Wig.sadd (Wig.sadd (Wig.sadd ss s) t) s = Wig.sadd (Wig.sadd ss s) t :=
  Wig.own_unique (Wig.sadd_own (Wig.sadd_own (Wig.sadd_own oa))) (Wig.sadd_own (Wig.sadd_own oa)) fun n => by
    rw [Wig.sadd_has (Wig.sadd_own (Wig.sadd_own oa)), Wig.sadd_has (Wig.sadd_own oa), Wig.sadd_has oa]
    cases Wig.shas ss n <;> cases Wig.inn s n <;> cases Wig.inn t n <;> rfl
theorem add_cut {ss : List Wig.Spn} {s : Wig.Spn} (oa : Wig.SOwn ss) : Wig.scut (Wig.sadd ss s) s = Wig.scut ss s :=
  Wig.own_unique (Wig.scut_own (Wig.sadd_own oa)) (Wig.scut_own oa) fun n => by
    rw [Wig.scut_has, Wig.sadd_has oa, Wig.scut_has]
    cases Wig.shas ss n <;> cases Wig.inn s n <;> rfl
theorem both_self {ss : List Wig.Spn} (oa : Wig.SOwn ss) : Wig.sboth ss ss = ss :=
  Wig.own_unique (Wig.sboth_own oa oa) oa fun n => by rw [Wig.sboth_has, Bool.and_self]
set_option maxHeartbeats 8000000 in
theorem walk (A : Option Addr) (c : Nat) (ss : List Wig.Spn) (s0 s1 t0 t1 : Nat) (hf : Wig.SFits ss) (hl : ss.length ≤ maxLen) (hc : ss.length ≤ c)
    (hs0 : s0 < 18446744073709551616) (hs1 : s1 < 18446744073709551616) (ht0 : t0 < 18446744073709551616) (ht1 : t1 < 18446744073709551616) (w : World) (hr : RdS w w.heap.size A ss) :
    Calls Try.prog 6 #[.slice A ss.length c, .agg #[.int .u64 (s0 : Int), .int .u64 (s1 : Int)], .agg #[.int .u64 (t0 : Int), .int .u64 (t1 : Int)]] w fun e w' => e = .returned (.bool true) ∧ Below w.heap.size w w' := by
  obtain ⟨w1, hw1⟩ : ∃ w1, w1 = (w.alloc (.cells #[.int .u64 (s0 : Int), .int .u64 (s1 : Int)] 25)).alloc (.cells #[.int .u64 (t0 : Int), .int .u64 (t1 : Int)] 25) := ⟨_, rfl⟩
  have hB1 : Below w.heap.size w w1 := by rw [hw1]; exact ((Below.refl _ _).alloc (Nat.le_refl _) _).alloc (by simp) _
  have HX := Lib.hid (show Bx w.heap.size s0 s1 w1 by
    rw [hw1]
    exact (Bx.new w s0 s1).below (((Below.refl _ _).alloc (Nat.le_refl _) _)) (by simp))
  have HY := Lib.hid (show Bx (w.heap.size + 1) t0 t1 w1 by
    rw [hw1]
    have h := Bx.new (w.alloc (.cells #[.int .u64 (s0 : Int), .int .u64 (s1 : Int)] 25)) t0 t1 (t := 25)
    rw [show (w.alloc (.cells #[.int .u64 (s0 : Int), .int .u64 (s1 : Int)] 25)).heap.size = w.heap.size + 1 by simp] at h
    exact h)
  have LT := Lib.hid (show w.heap.size + 1 < w1.heap.size by rw [hw1]; simp)
  have HB1 := Lib.hid hB1
  have B0 := Lib.hid (Below.refl w1.heap.size w1)
  obtain ⟨n, hn⟩ : ∃ n, n = ss.length := ⟨_, rfl⟩
  rw [← hn] at hl hc ⊢
  have RA := Lib.hid ((hr.below hB1).wide hB1.size)
  have C0 := Lib.hid (fun w => awake_any w)
  clear hB1 hr hl hs0 hs1 ht0 ht1 hf
  by_cases h1 : n ≤ 50
  · have CF := Lib.hid (fun A c w => few_any A n c true w (decide_eq_true h1))
    obtain ⟨ra, hra⟩ : ∃ ra, Wig.sown ss = ra := ⟨_, rfl⟩
    have K1 := Lib.hid (fun A c w h => check_any ss ra A n c w hn (by omega) h hra)
    cases ra with
    | false =>
      clear hn hc h1 hra
      go_enter Try.func6, Try.ntmps6
      go_wp2_with fail
      rw [← hw1]
      clear hw1
      refine (C0.out _).mono ?_
      rintro e x386 ⟨rfl, hb⟩
      have RA_387 := Lib.hid (RA.out.step hb)
      have B_387 := Lib.hid (B0.out.trans (hb.mono B0.out.size))
      have HX_387 := Lib.hid (HX.out.below hb (by have := LT.out; have := B0.out.size; omega))
      have HY_387 := Lib.hid (HY.out.below hb (by have := LT.out; have := B0.out.size; omega))
      clear hb RA B0 HX HY
      have k0 := HX_387.out.c0
      have k1 := HX_387.out.c1
      have m0 := HY_387.out.c0
      have m1 := HY_387.out.c1
      go_wp2_with fail
      clear k0 k1 m0 m1
      refine (CF.out _ _ _).mono ?_
      rintro e _ ⟨rfl, rfl⟩
      have k0 := HX_387.out.c0
      have k1 := HX_387.out.c1
      have m0 := HY_387.out.c0
      have m1 := HY_387.out.c1
      go_wp2_with fail
      clear k0 k1 m0 m1
      refine (K1.out _ _ _ RA_387.out).mono ?_
      rintro e x389 ⟨rfl, hb⟩
      have RA_390 := Lib.hid (RA_387.out.step hb)
      have B_390 := Lib.hid (B_387.out.trans (hb.mono B_387.out.size))
      have HX_390 := Lib.hid (HX_387.out.below hb (by have := LT.out; have := B_387.out.size; omega))
      have HY_390 := Lib.hid (HY_387.out.below hb (by have := LT.out; have := B_387.out.size; omega))
      clear hb RA_387 B_387 HX_387 HY_387
      have k0 := HX_390.out.c0
      have k1 := HX_390.out.c1
      have m0 := HY_390.out.c0
      have m1 := HY_390.out.c1
      go_wp2_with fail
      clear k0 k1 m0 m1
      go_ret
      exact ⟨rfl, HB1.out.trans (B_390.out.mono (by have := LT.out; omega))⟩
    | true =>
      have oa := Wig.sown_iff.1 hra
      obtain ⟨ra, hra2⟩ : ∃ r, r = Wig.sadd ss (s0, s1) := ⟨_, rfl⟩
      obtain ⟨rb, hrb⟩ : ∃ r, r = Wig.sadd ss (t0, t1) := ⟨_, rfl⟩
      obtain ⟨rx, hrx⟩ : ∃ r, r = Wig.sadd ra (t0, t1) := ⟨_, rfl⟩
      obtain ⟨rc, hrc⟩ : ∃ r, r = Wig.scut ss (s0, s1) := ⟨_, rfl⟩
      have o1 : Wig.SOwn ra := by rw [hra2]; exact Wig.sadd_own oa
      have o2 : Wig.SOwn rb := by rw [hrb]; exact Wig.sadd_own oa
      have o3 : Wig.SOwn rx := by rw [hrx]; exact Wig.sadd_own o1
      have y1 : Wig.sadd rb (s0, s1) = rx := by rw [hrb, hrx, hra2]; exact add_order oa
      have y2 : Wig.sadd rx (s0, s1) = rx := by rw [hrx, hra2]; exact add_twice oa
      have y3 : Wig.scut ra (s0, s1) = rc := by rw [hra2, hrc]; exact add_cut oa
      obtain ⟨ma, hma⟩ : ∃ m, m = ra.length := ⟨_, rfl⟩
      obtain ⟨mb, hmb⟩ : ∃ m, m = rb.length := ⟨_, rfl⟩
      obtain ⟨mx, hmx⟩ : ∃ m, m = rx.length := ⟨_, rfl⟩
      obtain ⟨mc, hmc⟩ : ∃ m, m = rc.length := ⟨_, rfl⟩
      have b1 : ma ≤ 51 := by rcases Wig.sadd_len ss (s0, s1) with h | h; (rw [hma, hra2]; omega); exact absurd oa h
      have b2 : mb ≤ 51 := by rcases Wig.sadd_len ss (t0, t1) with h | h; (rw [hmb, hrb]; omega); exact absurd oa h
      have b3 : mx ≤ 52 := by rcases Wig.sadd_len ra (t0, t1) with h | h; (rw [hmx, hrx]; omega); exact absurd o1 h
      have b4 : mc ≤ 100 := by have := Wig.scut_len ss (s0, s1); rw [hmc, hrc]; omega
      have A1 := Lib.hid (fun w h => add_gives ss ra s0 s1 n ma A c w hn hma.symm (by omega) h oa hc hra2.symm)
      have A2 := Lib.hid (fun w h => add_gives ss rb t0 t1 n mb A c w hn hmb.symm (by omega) h oa hc hrb.symm)
      have A3 := Lib.hid (fun w A c h hc => add_gives ra rx t0 t1 ma mx A c w hma hmx.symm (by omega) h o1 hc hrx.symm)
      have A4 := Lib.hid (fun w A c h hc => add_gives rb rx s0 s1 mb mx A c w hmb hmx.symm (by omega) h o2 hc y1)
      have A5 := Lib.hid (fun w A c h hc => add_gives rx rx s0 s1 mx mx A c w hmx hmx.symm (by omega) h o3 hc y2)
      have S1 := Lib.hid (fun A B c d w h k => same_any rx A B mx c d w hmx (by omega) h k)
      have E1 := Lib.hid (fun w A c h hc => cut_gives ra rc s0 s1 ma mc A c w hma hmc.symm (by omega) h o1 hc y3)
      have E2 := Lib.hid (fun w h => cut_gives ss rc s0 s1 n mc A c w hn hmc.symm (by omega) h oa hc hrc.symm)
      have S2 := Lib.hid (fun A B c d w h k => same_any rc A B mc c d w hmc (by omega) h k)
      have F1 := Lib.hid (fun w h k => both_gives ss ss ss n n n A A c c w hn hn hn.symm (by omega) (by omega) hc hc h k oa oa (both_self oa))
      have S3 := Lib.hid (fun A B c d w h k => same_any ss A B n c d w hn (by omega) h k)
      have HN := Lib.hid hn
      have HM := Lib.hid (show n ≤ 50 from h1)
      clear hn hc h1 hra oa hra2 hrb hrx hrc o1 o2 o3 y1 y2 y3 hma hmb hmx hmc b1 b2 b3 b4
      go_enter Try.func6, Try.ntmps6
      go_wp2_with fail
      rw [← hw1]
      clear hw1
      refine (C0.out _).mono ?_
      rintro e x391 ⟨rfl, hb⟩
      have RA_392 := Lib.hid (RA.out.step hb)
      have B_392 := Lib.hid (B0.out.trans (hb.mono B0.out.size))
      have HX_392 := Lib.hid (HX.out.below hb (by have := LT.out; have := B0.out.size; omega))
      have HY_392 := Lib.hid (HY.out.below hb (by have := LT.out; have := B0.out.size; omega))
      clear hb RA B0 HX HY
      have k0 := HX_392.out.c0
      have k1 := HX_392.out.c1
      have m0 := HY_392.out.c0
      have m1 := HY_392.out.c1
      go_wp2_with fail
      clear k0 k1 m0 m1
      refine (CF.out _ _ _).mono ?_
      rintro e _ ⟨rfl, rfl⟩
      have k0 := HX_392.out.c0
      have k1 := HX_392.out.c1
      have m0 := HY_392.out.c0
      have m1 := HY_392.out.c1
      go_wp2_with fail
      clear k0 k1 m0 m1
      refine (K1.out _ _ _ RA_392.out).mono ?_
      rintro e x394 ⟨rfl, hb⟩
      have RA_395 := Lib.hid (RA_392.out.step hb)
      have B_395 := Lib.hid (B_392.out.trans (hb.mono B_392.out.size))
      have HX_395 := Lib.hid (HX_392.out.below hb (by have := LT.out; have := B_392.out.size; omega))
      have HY_395 := Lib.hid (HY_392.out.below hb (by have := LT.out; have := B_392.out.size; omega))
      clear hb RA_392 B_392 HX_392 HY_392
      have k0 := HX_395.out.c0
      have k1 := HX_395.out.c1
      have m0 := HY_395.out.c0
      have m1 := HY_395.out.c1
      go_wp2_with fail
      clear k0 k1 m0 m1
      refine wp_region_held_drew (S := (fun w' => w'.cell? ⟨w.heap.size, 0, none⟩ = some (.int .u64 (s0 : Int)) ∧ w'.cell? ⟨w.heap.size, 1, none⟩ = some (.int .u64 (s1 : Int)) ∧ w'.cell? ⟨w.heap.size + 1, 0, none⟩ = some (.int .u64 (t0 : Int)) ∧ w'.cell? ⟨w.heap.size + 1, 1, none⟩ = some (.int .u64 (t1 : Int)) ∧ Below x394.heap.size x394 w')) (by kernel_rfl) ?_ (fun hHeld => ?_)
      · exact held_two_bx HX_395.out HY_395.out (by have := LT.out; have := B_395.out.size; omega) (by have := LT.out; have := B_395.out.size; omega) (Below.refl _ _).drew
      refine held_take (v := ?vv2044) 0 rfl (by kernel_rfl) (by kernel_rfl) (by kernel_rfl) (fun _ _ _ h => h) (by rfl) ?yy2044 (by assumption) ?nn2044
      case yy2044 =>
        intro w hSw
        (try dsimp only at hSw)
        go_simp
        try with_reducible rfl
      try simp only [Act.put, List.setIfInBounds_toArray, List.set_cons_zero, List.set_cons_succ]
      refine held_take (v := ?vv2045) 1 rfl (by kernel_rfl) (by kernel_rfl) (by kernel_rfl) (fun _ _ _ h => h) (by rfl) ?yy2045 (by assumption) ?nn2045
      case yy2045 =>
        intro w hSw
        (try dsimp only at hSw)
        go_simp
        try with_reducible rfl
      try simp only [Act.put, List.setIfInBounds_toArray, List.set_cons_zero, List.set_cons_succ]
      refine held_take (v := ?vv2046) 3 rfl (by kernel_rfl) (by kernel_rfl) (by kernel_rfl) (fun _ _ _ h => h) (by rfl) ?yy2046 (by assumption) ?nn2046
      case yy2046 =>
        intro w hSw
        (try dsimp only at hSw)
        go_simp
        try with_reducible rfl
      try simp only [Act.put, List.setIfInBounds_toArray, List.set_cons_zero, List.set_cons_succ]
      refine held_do 2 rfl (by kernel_rfl) (by rfl) (fun K hK => ?_)
      go_wp2_with (go_at_call 17; refine (A1.out _ (RA_395.out.step hHeld.2.2.2.2)).mono ?_; rintro e y1 ⟨Ap1, cp1, rfl, hc1, hr1, hb1, -⟩; have Y1 := Lib.hid (And.intro hr1 (And.intro (hHeld.2.2.2.2.trans (hb1.mono hHeld.2.2.2.2.size)) hc1)); clear hr1 hb1 hc1)
      refine hK.out _ _ ?_ (fun hHeld => ?_)
      · exact held_two_bx HX_395.out HY_395.out (by have := LT.out; have := B_395.out.size; omega) (by have := LT.out; have := B_395.out.size; omega) Y1.out.2.1
      clear hK K
      try simp only [Act.put, List.setIfInBounds_toArray, List.set_cons_zero, List.set_cons_succ]
      refine held_do 4 rfl (by kernel_rfl) (by rfl) (fun K hK => ?_)
      go_wp2_with (go_at_call 17; refine (A3.out _ _ _ Y1.out.1 Y1.out.2.2).mono ?_; rintro e y2 ⟨Ax, cx, rfl, hc2, hr2, hb2, -⟩; have Y2 := Lib.hid (And.intro hr2 (And.intro (hHeld.2.2.2.2.trans (hb2.mono hHeld.2.2.2.2.size)) hc2)); clear hr2 hb2 hc2)
      refine hK.out _ _ ?_ (fun hHeld => ?_)
      · exact held_two_bx HX_395.out HY_395.out (by have := LT.out; have := B_395.out.size; omega) (by have := LT.out; have := B_395.out.size; omega) Y2.out.2.1
      clear hK K
      try simp only [Act.put, List.setIfInBounds_toArray, List.set_cons_zero, List.set_cons_succ]
      refine held_take (v := ?vv2049) 5 rfl (by kernel_rfl) (by kernel_rfl) (by kernel_rfl) (fun _ _ _ h => h) (by rfl) ?yy2049 (by assumption) ?nn2049
      case yy2049 =>
        intro w hSw
        (try dsimp only at hSw)
        go_simp
        try with_reducible rfl
      try simp only [Act.put, List.setIfInBounds_toArray, List.set_cons_zero, List.set_cons_succ]
      refine wpAnyH_done (by kernel_rfl) ?_ _
      obtain ⟨z396, hzw⟩ : ∃ z396, z396 = y2 := ⟨_, rfl⟩
      rw [← hzw] at Y2 ⊢
      have hb := Y2.out.2.1
      have Rx := Lib.hid Y2.out.1
      have HCx := Lib.hid Y2.out.2.2
      have RA_397 := Lib.hid (RA_395.out.step hb)
      have B_397 := Lib.hid (B_395.out.trans (hb.mono B_395.out.size))
      have HX_397 := Lib.hid (HX_395.out.below hb (by have := LT.out; have := B_395.out.size; omega))
      have HY_397 := Lib.hid (HY_395.out.below hb (by have := LT.out; have := B_395.out.size; omega))
      clear hb hzw Y1 Y2 RA_395 B_395 HX_395 HY_395
      have k0 := HX_397.out.c0
      have k1 := HX_397.out.c1
      have m0 := HY_397.out.c0
      have m1 := HY_397.out.c1
      go_wp2_with fail
      clear k0 k1 m0 m1
      refine wp_region_held_drew (S := (fun w' => w'.cell? ⟨w.heap.size, 0, none⟩ = some (.int .u64 (s0 : Int)) ∧ w'.cell? ⟨w.heap.size, 1, none⟩ = some (.int .u64 (s1 : Int)) ∧ w'.cell? ⟨w.heap.size + 1, 0, none⟩ = some (.int .u64 (t0 : Int)) ∧ w'.cell? ⟨w.heap.size + 1, 1, none⟩ = some (.int .u64 (t1 : Int)) ∧ Below z396.heap.size z396 w')) (by kernel_rfl) ?_ (fun hHeld => ?_)
      · exact held_two_bx HX_397.out HY_397.out (by have := LT.out; have := B_397.out.size; omega) (by have := LT.out; have := B_397.out.size; omega) (Below.refl _ _).drew
      refine held_take (v := ?vv2051) 0 rfl (by kernel_rfl) (by kernel_rfl) (by kernel_rfl) (fun _ _ _ h => h) (by rfl) ?yy2051 (by assumption) ?nn2051
      case yy2051 =>
        intro w hSw
        (try dsimp only at hSw)
        go_simp
        try with_reducible rfl
      try simp only [Act.put, List.setIfInBounds_toArray, List.set_cons_zero, List.set_cons_succ]
      refine held_take (v := ?vv2052) 1 rfl (by kernel_rfl) (by kernel_rfl) (by kernel_rfl) (fun _ _ _ h => h) (by rfl) ?yy2052 (by assumption) ?nn2052
      case yy2052 =>
        intro w hSw
        (try dsimp only at hSw)
        go_simp
        try with_reducible rfl
      try simp only [Act.put, List.setIfInBounds_toArray, List.set_cons_zero, List.set_cons_succ]
      refine held_take (v := ?vv2053) 3 rfl (by kernel_rfl) (by kernel_rfl) (by kernel_rfl) (fun _ _ _ h => h) (by rfl) ?yy2053 (by assumption) ?nn2053
      case yy2053 =>
        intro w hSw
        (try dsimp only at hSw)
        go_simp
        try with_reducible rfl
      try simp only [Act.put, List.setIfInBounds_toArray, List.set_cons_zero, List.set_cons_succ]
      refine held_do 2 rfl (by kernel_rfl) (by rfl) (fun K hK => ?_)
      go_wp2_with (go_at_call 17; refine (A2.out _ (RA_397.out.step hHeld.2.2.2.2)).mono ?_; rintro e y1 ⟨Ap1, cp1, rfl, hc1, hr1, hb1, -⟩; have Y1 := Lib.hid (And.intro hr1 (And.intro (hHeld.2.2.2.2.trans (hb1.mono hHeld.2.2.2.2.size)) hc1)); clear hr1 hb1 hc1)
      refine hK.out _ _ ?_ (fun hHeld => ?_)
      · exact held_two_bx HX_397.out HY_397.out (by have := LT.out; have := B_397.out.size; omega) (by have := LT.out; have := B_397.out.size; omega) Y1.out.2.1
      clear hK K
      try simp only [Act.put, List.setIfInBounds_toArray, List.set_cons_zero, List.set_cons_succ]
      refine held_do 4 rfl (by kernel_rfl) (by rfl) (fun K hK => ?_)
      go_wp2_with (go_at_call 17; refine (A4.out _ _ _ Y1.out.1 Y1.out.2.2).mono ?_; rintro e y2 ⟨Ay, cy, rfl, hc2, hr2, hb2, -⟩; have Y2 := Lib.hid (And.intro hr2 (And.intro (hHeld.2.2.2.2.trans (hb2.mono hHeld.2.2.2.2.size)) hc2)); clear hr2 hb2 hc2)
      refine hK.out _ _ ?_ (fun hHeld => ?_)
      · exact held_two_bx HX_397.out HY_397.out (by have := LT.out; have := B_397.out.size; omega) (by have := LT.out; have := B_397.out.size; omega) Y2.out.2.1
      clear hK K
      try simp only [Act.put, List.setIfInBounds_toArray, List.set_cons_zero, List.set_cons_succ]
      refine held_take (v := ?vv2056) 5 rfl (by kernel_rfl) (by kernel_rfl) (by kernel_rfl) (fun _ _ _ h => h) (by rfl) ?yy2056 (by assumption) ?nn2056
      case yy2056 =>
        intro w hSw
        (try dsimp only at hSw)
        go_simp
        try with_reducible rfl
      try simp only [Act.put, List.setIfInBounds_toArray, List.set_cons_zero, List.set_cons_succ]
      refine wpAnyH_done (by kernel_rfl) ?_ _
      obtain ⟨z398, hzw⟩ : ∃ z398, z398 = y2 := ⟨_, rfl⟩
      rw [← hzw] at Y2 ⊢
      have hb := Y2.out.2.1
      have Ry := Lib.hid Y2.out.1
      have HCy := Lib.hid Y2.out.2.2
      have RA_399 := Lib.hid (RA_397.out.step hb)
      have x_399 := Lib.hid (Rx.out.step hb)
      have B_399 := Lib.hid (B_397.out.trans (hb.mono B_397.out.size))
      have HX_399 := Lib.hid (HX_397.out.below hb (by have := LT.out; have := B_397.out.size; omega))
      have HY_399 := Lib.hid (HY_397.out.below hb (by have := LT.out; have := B_397.out.size; omega))
      clear hb hzw Y1 Y2 RA_397 Rx B_397 HX_397 HY_397
      have k0 := HX_399.out.c0
      have k1 := HX_399.out.c1
      have m0 := HY_399.out.c0
      have m1 := HY_399.out.c1
      go_wp2_with fail
      clear k0 k1 m0 m1
      refine (S1.out _ _ _ _ _ x_399.out Ry.out).mono ?_
      rintro e x400 ⟨rfl, hb⟩
      have RA_401 := Lib.hid (RA_399.out.step hb)
      have x_401 := Lib.hid (x_399.out.step hb)
      have y_401 := Lib.hid (Ry.out.step hb)
      have B_401 := Lib.hid (B_399.out.trans (hb.mono B_399.out.size))
      have HX_401 := Lib.hid (HX_399.out.below hb (by have := LT.out; have := B_399.out.size; omega))
      have HY_401 := Lib.hid (HY_399.out.below hb (by have := LT.out; have := B_399.out.size; omega))
      clear hb RA_399 x_399 Ry B_399 HX_399 HY_399
      have k0 := HX_401.out.c0
      have k1 := HX_401.out.c1
      have m0 := HY_401.out.c0
      have m1 := HY_401.out.c1
      go_wp2_with fail
      clear k0 k1 m0 m1
      refine (A5.out _ _ _ x_401.out HCx.out).mono ?_
      rintro e x402 ⟨Av, cv, rfl, hc, hr, hb, ho⟩
      have RA_403 := Lib.hid (RA_401.out.step hb)
      have x_403 := Lib.hid (x_401.out.step hb)
      have B_403 := Lib.hid (B_401.out.trans (hb.mono B_401.out.size))
      have HX_403 := Lib.hid (HX_401.out.below hb (by have := LT.out; have := B_401.out.size; omega))
      have HY_403 := Lib.hid (HY_401.out.below hb (by have := LT.out; have := B_401.out.size; omega))
      have Rv := Lib.hid hr
      have HCv := Lib.hid hc
      have HOv := Lib.hid ho
      clear hr hc ho
      clear hb RA_401 x_401 B_401 HX_401 HY_401
      have k0 := HX_403.out.c0
      have k1 := HX_403.out.c1
      have m0 := HY_403.out.c0
      have m1 := HY_403.out.c1
      go_wp2_with fail
      clear k0 k1 m0 m1
      refine (S1.out _ _ _ _ _ Rv.out x_403.out).mono ?_
      rintro e x404 ⟨rfl, hb⟩
      have RA_405 := Lib.hid (RA_403.out.step hb)
      have x_405 := Lib.hid (x_403.out.step hb)
      have v_405 := Lib.hid (Rv.out.step hb)
      have B_405 := Lib.hid (B_403.out.trans (hb.mono B_403.out.size))
      have HX_405 := Lib.hid (HX_403.out.below hb (by have := LT.out; have := B_403.out.size; omega))
      have HY_405 := Lib.hid (HY_403.out.below hb (by have := LT.out; have := B_403.out.size; omega))
      clear hb RA_403 x_403 Rv B_403 HX_403 HY_403
      have k0 := HX_405.out.c0
      have k1 := HX_405.out.c1
      have m0 := HY_405.out.c0
      have m1 := HY_405.out.c1
      go_wp2_with fail
      clear k0 k1 m0 m1
      refine wp_region_held_drew (S := (fun w' => w'.cell? ⟨w.heap.size, 0, none⟩ = some (.int .u64 (s0 : Int)) ∧ w'.cell? ⟨w.heap.size, 1, none⟩ = some (.int .u64 (s1 : Int)) ∧ w'.cell? ⟨w.heap.size + 1, 0, none⟩ = some (.int .u64 (t0 : Int)) ∧ w'.cell? ⟨w.heap.size + 1, 1, none⟩ = some (.int .u64 (t1 : Int)) ∧ Below x404.heap.size x404 w')) (by kernel_rfl) ?_ (fun hHeld => ?_)
      · exact held_two_bx HX_405.out HY_405.out (by have := LT.out; have := B_405.out.size; omega) (by have := LT.out; have := B_405.out.size; omega) (Below.refl _ _).drew
      refine held_take (v := ?vv2058) 0 rfl (by kernel_rfl) (by kernel_rfl) (by kernel_rfl) (fun _ _ _ h => h) (by rfl) ?yy2058 (by assumption) ?nn2058
      case yy2058 =>
        intro w hSw
        (try dsimp only at hSw)
        go_simp
        try with_reducible rfl
      try simp only [Act.put, List.setIfInBounds_toArray, List.set_cons_zero, List.set_cons_succ]
      refine held_take (v := ?vv2059) 1 rfl (by kernel_rfl) (by kernel_rfl) (by kernel_rfl) (fun _ _ _ h => h) (by rfl) ?yy2059 (by assumption) ?nn2059
      case yy2059 =>
        intro w hSw
        (try dsimp only at hSw)
        go_simp
        try with_reducible rfl
      try simp only [Act.put, List.setIfInBounds_toArray, List.set_cons_zero, List.set_cons_succ]
      refine held_take (v := ?vv2060) 3 rfl (by kernel_rfl) (by kernel_rfl) (by kernel_rfl) (fun _ _ _ h => h) (by rfl) ?yy2060 (by assumption) ?nn2060
      case yy2060 =>
        intro w hSw
        (try dsimp only at hSw)
        go_simp
        try with_reducible rfl
      try simp only [Act.put, List.setIfInBounds_toArray, List.set_cons_zero, List.set_cons_succ]
      refine held_take (v := ?vv2061) 5 rfl (by kernel_rfl) (by kernel_rfl) (by kernel_rfl) (fun _ _ _ h => h) (by rfl) ?yy2061 (by assumption) ?nn2061
      case yy2061 =>
        intro w hSw
        (try dsimp only at hSw)
        go_simp
        try with_reducible rfl
      try simp only [Act.put, List.setIfInBounds_toArray, List.set_cons_zero, List.set_cons_succ]
      refine held_take (v := ?vv2062) 6 rfl (by kernel_rfl) (by kernel_rfl) (by kernel_rfl) (fun _ _ _ h => h) (by rfl) ?yy2062 (by assumption) ?nn2062
      case yy2062 =>
        intro w hSw
        (try dsimp only at hSw)
        go_simp
        try with_reducible rfl
      try simp only [Act.put, List.setIfInBounds_toArray, List.set_cons_zero, List.set_cons_succ]
      refine held_do 2 rfl (by kernel_rfl) (by rfl) (fun K hK => ?_)
      go_wp2_with (go_at_call 17; refine (A1.out _ (RA_405.out.step hHeld.2.2.2.2)).mono ?_; rintro e y1 ⟨Ap1, cp1, rfl, hc1, hr1, hb1, -⟩; have Y1 := Lib.hid (And.intro hr1 (And.intro (hHeld.2.2.2.2.trans (hb1.mono hHeld.2.2.2.2.size)) hc1)); clear hr1 hb1 hc1)
      refine hK.out _ _ ?_ (fun hHeld => ?_)
      · exact held_two_bx HX_405.out HY_405.out (by have := LT.out; have := B_405.out.size; omega) (by have := LT.out; have := B_405.out.size; omega) Y1.out.2.1
      clear hK K
      try simp only [Act.put, List.setIfInBounds_toArray, List.set_cons_zero, List.set_cons_succ]
      refine held_do 4 rfl (by kernel_rfl) (by rfl) (fun K hK => ?_)
      go_wp2_with (go_at_call 19; refine (E1.out _ _ _ Y1.out.1 Y1.out.2.2).mono ?_; rintro e y2 ⟨Ap2, cp2, rfl, hc2, hr2, hb2, -⟩; have Y2 := Lib.hid (And.intro hr2 (hHeld.2.2.2.2.trans (hb2.mono hHeld.2.2.2.2.size))); clear hr2 hb2 hc2)
      refine hK.out _ _ ?_ (fun hHeld => ?_)
      · exact held_two_bx HX_405.out HY_405.out (by have := LT.out; have := B_405.out.size; omega) (by have := LT.out; have := B_405.out.size; omega) Y2.out.2
      clear hK K
      try simp only [Act.put, List.setIfInBounds_toArray, List.set_cons_zero, List.set_cons_succ]
      refine held_do 7 rfl (by kernel_rfl) (by rfl) (fun K hK => ?_)
      go_wp2_with (go_at_call 19; refine (E2.out _ (RA_405.out.step hHeld.2.2.2.2)).mono ?_; rintro e y3 ⟨Ap3, cp3, rfl, hc3, hr3, hb3, -⟩; have Y3 := Lib.hid (And.intro hr3 (And.intro (Y2.out.1.step hb3) (hHeld.2.2.2.2.trans (hb3.mono hHeld.2.2.2.2.size)))); clear hr3 hb3 hc3)
      refine hK.out _ _ ?_ (fun hHeld => ?_)
      · exact held_two_bx HX_405.out HY_405.out (by have := LT.out; have := B_405.out.size; omega) (by have := LT.out; have := B_405.out.size; omega) Y3.out.2.2
      clear hK K
      try simp only [Act.put, List.setIfInBounds_toArray, List.set_cons_zero, List.set_cons_succ]
      refine held_do 8 rfl (by kernel_rfl) (by rfl) (fun K hK => ?_)
      go_wp2_with (go_at_call 16; refine (S2.out _ _ _ _ _ Y3.out.2.1 Y3.out.1).mono ?_; rintro e y4 ⟨rfl, hb4⟩; have Y4 := Lib.hid (hHeld.2.2.2.2.trans (hb4.mono hHeld.2.2.2.2.size)); clear hb4)
      refine hK.out _ _ ?_ (fun hHeld => ?_)
      · exact held_two_bx HX_405.out HY_405.out (by have := LT.out; have := B_405.out.size; omega) (by have := LT.out; have := B_405.out.size; omega) Y4.out
      clear hK K
      try simp only [Act.put, List.setIfInBounds_toArray, List.set_cons_zero, List.set_cons_succ]
      refine held_take (v := ?vv2067) 9 rfl (by kernel_rfl) (by kernel_rfl) (by kernel_rfl) (fun _ _ _ h => h) (by rfl) ?yy2067 (by assumption) ?nn2067
      case yy2067 =>
        intro w hSw
        (try dsimp only at hSw)
        go_simp
        try with_reducible rfl
      try simp only [Act.put, List.setIfInBounds_toArray, List.set_cons_zero, List.set_cons_succ]
      refine wpAnyH_done (by kernel_rfl) ?_ _
      obtain ⟨z9, hzw⟩ : ∃ z9, z9 = y4 := ⟨_, rfl⟩
      rw [← hzw] at Y4 ⊢
      have hb := Y4.out
      have RA_406 := Lib.hid (RA_405.out.step hb)
      have B_406 := Lib.hid (B_405.out.trans (hb.mono B_405.out.size))
      have HX_406 := Lib.hid (HX_405.out.below hb (by have := LT.out; have := B_405.out.size; omega))
      have HY_406 := Lib.hid (HY_405.out.below hb (by have := LT.out; have := B_405.out.size; omega))
      clear hb hzw Y1 Y2 Y3 Y4 RA_405 B_405 HX_405 HY_405
      have k0 := HX_406.out.c0
      have k1 := HX_406.out.c1
      have m0 := HY_406.out.c0
      have m1 := HY_406.out.c1
      go_wp2_with fail
      clear k0 k1 m0 m1
      refine (F1.out _ RA_406.out RA_406.out).mono ?_
      rintro e x407 ⟨Ab, cb, rfl, hc, hr, hb, ho⟩
      have RA_408 := Lib.hid (RA_406.out.step hb)
      have B_408 := Lib.hid (B_406.out.trans (hb.mono B_406.out.size))
      have HX_408 := Lib.hid (HX_406.out.below hb (by have := LT.out; have := B_406.out.size; omega))
      have HY_408 := Lib.hid (HY_406.out.below hb (by have := LT.out; have := B_406.out.size; omega))
      have Rb := Lib.hid hr
      have HCb := Lib.hid hc
      have HOb := Lib.hid ho
      clear hr hc ho
      clear hb RA_406 B_406 HX_406 HY_406
      have BE := Lib.hid (show Below x407.heap.size x407 (x407.alloc (.cells #[] 25)) from (Below.refl _ _).alloc (Nat.le_refl _) _)
      go_wp2_with (at_builtin; refine wpList_append_spans rfl _ _ rfl x407.heap.size _ [] ss rfl (own_lit0 x407) _ A c n HN.out.symm rfl (RA_408.out.step BE.out) (by have := HM.out; simp; omega) BE.out.size ?_)
      intro vm wm hm1 hm2
      have hb : Below x407.heap.size x407 wm := BE.out.grown hm2 BE.out.size (fun q hq => by simp [Value.ownBlock] at hq; omega)
      have hown : OwnS wm x407.heap.size vm ss := hm1
      obtain ⟨Am, cm, hv, -, hrm, -⟩ := hown.rd
      rw [← HN.out] at hv
      subst hv
      have RM := Lib.hid hrm
      have RA_409 := Lib.hid (RA_408.out.step hb)
      have b_409 := Lib.hid (Rb.out.step hb)
      have B_409 := Lib.hid (B_408.out.trans (hb.mono B_408.out.size))
      have HX_409 := Lib.hid (HX_408.out.below hb (by have := LT.out; have := B_408.out.size; omega))
      have HY_409 := Lib.hid (HY_408.out.below hb (by have := LT.out; have := B_408.out.size; omega))
      clear hb hm1 hm2 hown hrm BE RA_408 Rb B_408 HX_408 HY_408
      have k0 := HX_409.out.c0
      have k1 := HX_409.out.c1
      have m0 := HY_409.out.c0
      have m1 := HY_409.out.c1
      go_wp2_with fail
      clear k0 k1 m0 m1
      refine (S3.out _ _ _ _ _ b_409.out RM.out).mono ?_
      rintro e x410 ⟨rfl, hb⟩
      have RA_411 := Lib.hid (RA_409.out.step hb)
      have b_411 := Lib.hid (b_409.out.step hb)
      have m_411 := Lib.hid (RM.out.step hb)
      have B_411 := Lib.hid (B_409.out.trans (hb.mono B_409.out.size))
      have HX_411 := Lib.hid (HX_409.out.below hb (by have := LT.out; have := B_409.out.size; omega))
      have HY_411 := Lib.hid (HY_409.out.below hb (by have := LT.out; have := B_409.out.size; omega))
      clear hb RA_409 b_409 RM B_409 HX_409 HY_409
      have k0 := HX_411.out.c0
      have k1 := HX_411.out.c1
      have m0 := HY_411.out.c0
      have m1 := HY_411.out.c1
      go_wp2_with fail
      clear k0 k1 m0 m1
      go_ret
      exact ⟨rfl, HB1.out.trans (B_411.out.mono (by have := LT.out; omega))⟩
  · have CF := Lib.hid (fun A c w => few_any A n c false w (decide_eq_false h1))
    clear hn hc h1
    go_enter Try.func6, Try.ntmps6
    go_wp2_with fail
    rw [← hw1]
    clear hw1
    refine (C0.out _).mono ?_
    rintro e x412 ⟨rfl, hb⟩
    have RA_413 := Lib.hid (RA.out.step hb)
    have B_413 := Lib.hid (B0.out.trans (hb.mono B0.out.size))
    have HX_413 := Lib.hid (HX.out.below hb (by have := LT.out; have := B0.out.size; omega))
    have HY_413 := Lib.hid (HY.out.below hb (by have := LT.out; have := B0.out.size; omega))
    clear hb RA B0 HX HY
    have k0 := HX_413.out.c0
    have k1 := HX_413.out.c1
    have m0 := HY_413.out.c0
    have m1 := HY_413.out.c1
    go_wp2_with fail
    clear k0 k1 m0 m1
    refine (CF.out _ _ _).mono ?_
    rintro e _ ⟨rfl, rfl⟩
    have k0 := HX_413.out.c0
    have k1 := HX_413.out.c1
    have m0 := HY_413.out.c0
    have m1 := HY_413.out.c1
    go_wp2_with fail
    clear k0 k1 m0 m1
    go_ret
    exact ⟨rfl, HB1.out.trans (B_413.out.mono (by have := LT.out; omega))⟩

set_option maxRecDepth 100000 in
theorem lifted (os : Os) (started : os.Started) (H : Type) (enc : TypeId × Value → H) :
    ReturnsInHanded {} Try.checked os 6 .any (Rows.spanOrderSpec.pre6 enc Try.prog Try.f6 Rows.spanOrderRow.domain false) (Rows.spanOrderSpec.post enc Try.prog Try.f6 false true false false) := by
  refine returnsInHanded_of_change (C := Try.checked) own started (by kernel_rfl) Try.func6
    (ChangeSpec.witness6 (enc := enc) (C := Try.checked) false ⟨#[], #[.slice none 0 0, .agg #[.int .u64 0, .int .u64 0], .agg #[.int .u64 0, .int .u64 0]], []⟩ 8 (by kernel_rfl) (by kernel_rfl) (by kernel_rfl) (by kernel_rfl)) ?_
  intro W base args ds gs before hval0 hW hcnd _
  have hval : ∀ (j : Nat) t v, Try.f6.params[j]? = some t → args[j]? = some v → Value.okWide Try.prog W .any base t v := hval0
  have hW' := hW
  obtain ⟨p, q, hA0, hV, rfl, hfz, hnd⟩ := hW
  have hA : DataW.TrodAll enc Try.prog W 0 (fun _ => true) true Try.f6.params.toList args.toList ds p := hA0
  obtain ⟨rfl, rfl⟩ := trodVars_none hV
  simp only [List.append_nil] at hW'
  have hlow : ∀ x ∈ p, x.block < W.heap.size := fun x hx => hW'.lt x hx
  have hA2 := hA
  rw [Try.params6] at hval hA2
  obtain ⟨v0, vs0, d0, ds0, p0, q0, hargs, rfl, rfl, h0, r0⟩ := trodAll_cons hA2
  obtain ⟨v1, vs1, d1, ds1, p1, q1, rfl, rfl, rfl, h1, r1⟩ := trodAll_cons r0
  obtain ⟨v2, vs2, d2, ds2, p2, q2, rfl, rfl, rfl, h2, r2⟩ := trodAll_cons r1
  obtain ⟨rfl, rfl, rfl⟩ := trodAll_nil r2
  obtain rfl : args = #[v0, v1, v2] := by cases args; simp_all
  obtain ⟨A0, c0, ss0, rfl, hf0, hr0, hl0, hc0⟩ := open_spansc Try.underlying22 Try.underlying25 (by kernel_rfl) (by kernel_rfl) rfl rfl Try.underlying23 (hval 0 22 v0 rfl rfl) h0 (fun x hx => hlow x (by simp [hx]))
  obtain ⟨a1, b1, rfl, ha1, hb1⟩ := open_two Try.underlying25 (by kernel_rfl) (by kernel_rfl) rfl rfl Try.underlying23 (hval 1 25 v1 rfl rfl) h1
  obtain ⟨a2, b2, rfl, ha2, hb2⟩ := open_two Try.underlying25 (by kernel_rfl) (by kernel_rfl) rfl rfl Try.underlying23 (hval 2 25 v2 rfl rfl) h2
  refine (walk A0 c0 ss0 a1 b1 a2 b2 hf0 hl0 hc0 ha1 hb1 ha2 hb2 W hr0).mono fun e W' ⟨he, hg⟩ => ?_
  subst he
  exact ⟨_, rfl, law_true laid_out (by kernel_rfl) rfl Try.underlying4 (by kernel_rfl) hW' hA rfl rfl rfl hg⟩

theorem over : Rows.spanOrderRow.holds Try.pinned (OpenSpec.ofChange Rows.spanOrderSpec) :=
  OpenClaim.holds_of_wide 6 Try.f6 rfl rfl rfl rfl rfl rfl rfl ⟨rfl, rfl, rfl, rfl, rfl⟩ rfl rfl rfl rfl rfl (by kernel_rfl) Try.func6 (by kernel_rfl)
    (of_decide_eq_true (by kernel_rfl)) (by unfold Func.isWrapper; first | (rw [if_pos (by decide +kernel)]; kernel_rfl) | (rw [if_neg (by decide +kernel)]; exact ⟨rfl, rfl⟩))
    (fun os started H enc _ => lifted os started H enc)

/-- The statement. -/
theorem proved : Rows.SpanOrderSaid := over
end Go.Proofs.Ytfibbohccaknjaa.spanOrder
