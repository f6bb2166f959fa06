/-
  SpanCounts: adding and cutting (any set of at most fifty spans of its own, any span that has a number) change how many numbers there are by those that are new, and those that were in. No condition.
-/
import Derived.Test.YtfibbohccaknjaaSpW
namespace Go.Proofs.Ytfibbohccaknjaa.spanCounts
open Go.ChangeShapes Go.WideShapes Go.ChangeAt Go.RowKit Go.Deep
set_option linter.unusedVariables false

set_option maxHeartbeats 8000000 in
theorem walk (A : Option Addr) (c : Nat) (ss : List Wig.Spn) (s0 s1 : Nat) (hf : Wig.SFits ss) (hl : ss.length ≤ maxLen) (hc : ss.length ≤ c)
    (hs0 : s0 < 18446744073709551616) (hs1 : s1 < 18446744073709551616) (w : World) (hr : RdS w w.heap.size A ss) :
    Calls Try.prog 5 #[.slice A ss.length c, .agg #[.int .u64 (s0 : Int), .int .u64 (s1 : Int)]] w fun e w' => e = .returned (.bool true) ∧ Below w.heap.size w w' := by
  obtain ⟨w1, hw1⟩ : ∃ w1, w1 = w.alloc (.cells #[.int .u64 (s0 : Int), .int .u64 (s1 : Int)] 25) := ⟨_, rfl⟩
  have hB1 : Below w.heap.size w w1 := by rw [hw1]; exact (Below.refl _ _).alloc (Nat.le_refl _) _
  have HX := Lib.hid (show Bx w.heap.size s0 s1 w1 by rw [hw1]; exact Bx.new w s0 s1)
  have LT := Lib.hid (show w.heap.size < w1.heap.size by rw [hw1]; simp)
  have HB1 := Lib.hid hB1
  have B0 := Lib.hid (Below.refl w1.heap.size w1)
  obtain ⟨n, hn⟩ : ∃ n, n = ss.length := ⟨_, rfl⟩
  rw [← hn] at hl hc ⊢
  have RA := Lib.hid ((hr.below hB1).wide hB1.size)
  have C0 := Lib.hid (fun w => awake_any w)
  clear hB1 hr hl
  by_cases h1 : n ≤ 50
  · have CF := Lib.hid (fun A c w => few_any A n c true w (decide_eq_true h1))
    obtain ⟨ra, hra⟩ : ∃ ra, Wig.sown ss = ra := ⟨_, rfl⟩
    have K1 := Lib.hid (fun A c w h => check_any ss ra A n c w hn (by omega) h hra)
    cases ra with
    | false =>
      clear hn hc hf hs0 hs1 h1 hra
      go_enter Try.func5, Try.ntmps5
      go_wp2_with fail
      rw [← hw1]
      clear hw1
      refine (C0.out _).mono ?_
      rintro e x293 ⟨rfl, hb⟩
      have RA_294 := Lib.hid (RA.out.step hb)
      have B_294 := Lib.hid (B0.out.trans (hb.mono B0.out.size))
      have X_294 := Lib.hid (HX.out.below hb (by have := LT.out; have := B0.out.size; omega))
      clear hb RA HX B0
      have k0 := X_294.out.c0
      have k1 := X_294.out.c1
      go_wp2_with fail
      clear k0 k1
      refine (CF.out _ _ _).mono ?_
      rintro e _ ⟨rfl, rfl⟩
      have k0 := X_294.out.c0
      have k1 := X_294.out.c1
      go_wp2_with fail
      clear k0 k1
      refine (K1.out _ _ _ RA_294.out).mono ?_
      rintro e x296 ⟨rfl, hb⟩
      have RA_297 := Lib.hid (RA_294.out.step hb)
      have B_297 := Lib.hid (B_294.out.trans (hb.mono B_294.out.size))
      have X_297 := Lib.hid (X_294.out.below hb (by have := LT.out; have := B_294.out.size; omega))
      clear hb RA_294 X_294 B_294
      have k0 := X_297.out.c0
      have k1 := X_297.out.c1
      go_wp2_with fail
      clear k0 k1
      go_ret
      exact ⟨rfl, HB1.out.trans (B_297.out.mono (Nat.le_of_lt LT.out))⟩
    | true =>
      by_cases he : s1 ≤ s0
      · have de : decide (s1 ≤ s0) = true := decide_eq_true he
        clear hn hc hf hs0 hs1 h1 hra he
        go_enter Try.func5, Try.ntmps5
        go_wp2_with fail
        rw [← hw1]
        clear hw1
        refine (C0.out _).mono ?_
        rintro e x298 ⟨rfl, hb⟩
        have RA_299 := Lib.hid (RA.out.step hb)
        have B_299 := Lib.hid (B0.out.trans (hb.mono B0.out.size))
        have X_299 := Lib.hid (HX.out.below hb (by have := LT.out; have := B0.out.size; omega))
        clear hb RA HX B0
        have k0 := X_299.out.c0
        have k1 := X_299.out.c1
        go_wp2_with fail
        clear k0 k1
        refine (CF.out _ _ _).mono ?_
        rintro e _ ⟨rfl, rfl⟩
        have k0 := X_299.out.c0
        have k1 := X_299.out.c1
        go_wp2_with fail
        clear k0 k1
        refine (K1.out _ _ _ RA_299.out).mono ?_
        rintro e x301 ⟨rfl, hb⟩
        have RA_302 := Lib.hid (RA_299.out.step hb)
        have B_302 := Lib.hid (B_299.out.trans (hb.mono B_299.out.size))
        have X_302 := Lib.hid (X_299.out.below hb (by have := LT.out; have := B_299.out.size; omega))
        clear hb RA_299 X_299 B_299
        have k0 := X_302.out.c0
        have k1 := X_302.out.c1
        go_wp2_with fail
        clear k0 k1
        go_ret
        exact ⟨rfl, HB1.out.trans (B_302.out.mono (Nat.le_of_lt LT.out))⟩
      · have de : decide (s1 ≤ s0) = false := decide_eq_false he
        have oa := Wig.sown_iff.1 hra
        have hlt : s0 < s1 := by omega
        have os : Wig.SOwn [(s0, s1)] := Wig.own_one hlt
        obtain ⟨r1, hr1⟩ : ∃ r1, r1 = Wig.sadd ss (s0, s1) := ⟨_, rfl⟩
        obtain ⟨r2, hr2⟩ : ∃ r2, r2 = Wig.scut ss (s0, s1) := ⟨_, rfl⟩
        obtain ⟨r3, hr3⟩ : ∃ r3, r3 = Wig.sboth ss [(s0, s1)] := ⟨_, rfl⟩
        obtain ⟨m1, hm1⟩ : ∃ m1, m1 = r1.length := ⟨_, rfl⟩
        obtain ⟨m2, hm2⟩ : ∃ m2, m2 = r2.length := ⟨_, rfl⟩
        obtain ⟨m3, hm3⟩ : ∃ m3, m3 = r3.length := ⟨_, rfl⟩
        have b1 : m1 ≤ 100000 := by rcases Wig.sadd_len ss (s0, s1) with h | h; (rw [hm1, hr1]; omega); exact absurd oa h
        have b2 : m2 ≤ 100000 := by have := Wig.scut_len ss (s0, s1); rw [hm2, hr2]; omega
        have b3 : m3 ≤ 100000 := by
          have h := Wig.sboth_len ss [(s0, s1)]
          rw [hm3, hr3]; simp only [List.length_singleton] at h; omega
        have o1 : Wig.SOwn r1 := by rw [hr1]; exact Wig.sadd_own oa
        have o2 : Wig.SOwn r2 := by rw [hr2]; exact Wig.scut_own oa
        have o3 : Wig.SOwn r3 := by rw [hr3]; exact Wig.sboth_own oa os
        have f1 : Wig.SFits r1 := by rw [hr1]; exact Wig.sadd_fits hf ⟨hs0, hs1⟩
        have f2 : Wig.SFits r2 := by rw [hr2]; exact Wig.scut_fits hf ⟨hs0, hs1⟩
        have f3 : Wig.SFits r3 := by rw [hr3]; exact Wig.sboth_fits hf (Wig.sfits_one ⟨hs0, hs1⟩)
        obtain ⟨za, hza⟩ : ∃ z, z = Wig.ssum ss := ⟨_, rfl⟩
        obtain ⟨zm, hzm⟩ : ∃ z, z = Wig.ssum r1 := ⟨_, rfl⟩
        obtain ⟨zl, hzl⟩ : ∃ z, z = Wig.ssum r2 := ⟨_, rfl⟩
        obtain ⟨zb, hzb⟩ : ∃ z, z = Wig.ssum r3 := ⟨_, rfl⟩
        have q1 := Wig.sadd_sum (N := 18446744073709551615) oa (fun p hp => by have := (hf p hp).2; omega) (s := (s0, s1)) hlt (by simp only; omega)
        have q2 := Wig.scut_sum (N := 18446744073709551615) oa (fun p hp => by have := (hf p hp).2; omega) (s := (s0, s1)) hlt (by simp only; omega)
        rw [← hr1, ← hr3, ← hzm, ← hzb, ← hza] at q1
        rw [← hr2, ← hr3, ← hzl, ← hzb, ← hza] at q2
        simp only at q1
        have l1 : za < 18446744073709551616 := by rw [hza]; exact Wig.ssum_lt oa hf
        have l2 : zm < 18446744073709551616 := by rw [hzm]; exact Wig.ssum_lt o1 f1
        obtain ⟨dl, hdl⟩ : ∃ dl, dl = s1 - s0 := ⟨_, rfl⟩
        obtain ⟨y, hy⟩ : ∃ y, y = (za + dl) % 18446744073709551616 := ⟨_, rfl⟩
        have e1 : IntKind.u64.wrap ((s1 : Int) - (s0 : Int)) = (dl : Int) := by rw [IntKind.wrap_u64]; omega
        have e2 : IntKind.u64.wrap ((za : Int) + (dl : Int)) = (y : Int) := by rw [IntKind.wrap_u64]; omega
        have e3 : IntKind.u64.wrap ((y : Int) - (zb : Int)) = (zm : Int) := by rw [IntKind.wrap_u64]; omega
        have e4 : IntKind.u64.wrap ((za : Int) - (zb : Int)) = (zl : Int) := by rw [IntKind.wrap_u64]; omega
        have t1 : ((zm : Int) == (zm : Int)) = true := by simp
        have t2 : ((zl : Int) == (zl : Int)) = true := by simp
        have F1 := Lib.hid (fun w B h k => both_gives ss [(s0, s1)] r3 n 1 m3 A B c 1 w hn rfl hm3.symm (by omega) (by omega) hc (by omega) h k oa os hr3.symm)
        have D1 := Lib.hid (fun w h => add_gives ss r1 s0 s1 n m1 A c w hn hm1.symm (by omega) h oa hc hr1.symm)
        have E1 := Lib.hid (fun w h => cut_gives ss r2 s0 s1 n m2 A c w hn hm2.symm (by omega) h oa hc hr2.symm)
        have ZB := Lib.hid (fun A c w h => size_any r3 zb A m3 c w hm3 b3 h o3 f3 hzb.symm)
        have ZM := Lib.hid (fun A c w h => size_any r1 zm A m1 c w hm1 b1 h o1 f1 hzm.symm)
        have ZL := Lib.hid (fun A c w h => size_any r2 zl A m2 c w hm2 b2 h o2 f2 hzl.symm)
        have ZA := Lib.hid (fun A c w h => size_any ss za A n c w hn (by omega) h oa hf hza.symm)
        clear hn hc hf hs0 hs1 h1 hra he oa os hlt hr1 hr2 hr3 hm1 hm2 hm3 b1 b2 b3 o1 o2 o3 f1 f2 f3 hza hzm hzl hzb q1 q2 l1 l2 hdl hy
        go_enter Try.func5, Try.ntmps5
        go_wp2_with fail
        rw [← hw1]
        clear hw1
        refine (C0.out _).mono ?_
        rintro e x303 ⟨rfl, hb⟩
        have RA_304 := Lib.hid (RA.out.step hb)
        have B_304 := Lib.hid (B0.out.trans (hb.mono B0.out.size))
        have X_304 := Lib.hid (HX.out.below hb (by have := LT.out; have := B0.out.size; omega))
        clear hb RA HX B0
        have k0 := X_304.out.c0
        have k1 := X_304.out.c1
        go_wp2_with fail
        clear k0 k1
        refine (CF.out _ _ _).mono ?_
        rintro e _ ⟨rfl, rfl⟩
        have k0 := X_304.out.c0
        have k1 := X_304.out.c1
        go_wp2_with fail
        clear k0 k1
        refine (K1.out _ _ _ RA_304.out).mono ?_
        rintro e x306 ⟨rfl, hb⟩
        have RA_307 := Lib.hid (RA_304.out.step hb)
        have B_307 := Lib.hid (B_304.out.trans (hb.mono B_304.out.size))
        have X_307 := Lib.hid (X_304.out.below hb (by have := LT.out; have := B_304.out.size; omega))
        clear hb RA_304 X_304 B_304
        obtain ⟨wn, hwn⟩ : ∃ wn, wn = x306.alloc (.cells #[.int .u64 (s0 : Int), .int .u64 (s1 : Int)] 25) := ⟨_, rfl⟩
        have hb : Below x306.heap.size x306 wn := by rw [hwn]; exact (Below.refl _ _).alloc (Nat.le_refl _) _
        have ON := Lib.hid (show RdS wn wn.heap.size (some ⟨x306.heap.size, 0, none⟩) [(s0, s1)] by rw [hwn]; exact one_rd (by simp) (new_sp x306 s0 s1).1 (new_sp x306 s0 s1).2)
        have k0 := X_307.out.c0
        have k1 := X_307.out.c1
        go_wp2_with fail
        clear k0 k1
        rw [← hwn]
        have RA_308 := Lib.hid (RA_307.out.step hb)
        have B_308 := Lib.hid (B_307.out.trans (hb.mono B_307.out.size))
        have X_308 := Lib.hid (X_307.out.below hb (by have := LT.out; have := B_307.out.size; omega))
        clear hb hwn RA_307 X_307 B_307
        refine (F1.out _ _ RA_308.out ON.out).mono ?_
        rintro e x309 ⟨Az, cz, rfl, hc, hr, hb, ho⟩
        have RA_310 := Lib.hid (RA_308.out.step hb)
        have B_310 := Lib.hid (B_308.out.trans (hb.mono B_308.out.size))
        have X_310 := Lib.hid (X_308.out.below hb (by have := LT.out; have := B_308.out.size; omega))
        have Rz := Lib.hid hr
        have HCz := Lib.hid hc
        have HOz := Lib.hid ho
        clear hr hc ho
        clear hb RA_308 X_308 B_308
        have k0 := X_310.out.c0
        have k1 := X_310.out.c1
        go_wp2_with fail
        clear k0 k1
        refine (ZB.out _ _ _ Rz.out).mono ?_
        rintro e x311 ⟨rfl, hb⟩
        have RA_312 := Lib.hid (RA_310.out.step hb)
        have z_312 := Lib.hid (Rz.out.step hb)
        have B_312 := Lib.hid (B_310.out.trans (hb.mono B_310.out.size))
        have X_312 := Lib.hid (X_310.out.below hb (by have := LT.out; have := B_310.out.size; omega))
        clear hb RA_310 Rz X_310 B_310
        have k0 := X_312.out.c0
        have k1 := X_312.out.c1
        go_wp2_with fail
        clear k0 k1
        refine (D1.out _ RA_312.out).mono ?_
        rintro e x313 ⟨Ap, cp, rfl, hc, hr, hb, ho⟩
        have RA_314 := Lib.hid (RA_312.out.step hb)
        have B_314 := Lib.hid (B_312.out.trans (hb.mono B_312.out.size))
        have X_314 := Lib.hid (X_312.out.below hb (by have := LT.out; have := B_312.out.size; omega))
        have Rp := Lib.hid hr
        have HCp := Lib.hid hc
        have HOp := Lib.hid ho
        clear hr hc ho
        clear hb RA_312 X_312 B_312
        have k0 := X_314.out.c0
        have k1 := X_314.out.c1
        go_wp2_with fail
        clear k0 k1
        refine (ZM.out _ _ _ Rp.out).mono ?_
        rintro e x315 ⟨rfl, hb⟩
        have RA_316 := Lib.hid (RA_314.out.step hb)
        have p_316 := Lib.hid (Rp.out.step hb)
        have B_316 := Lib.hid (B_314.out.trans (hb.mono B_314.out.size))
        have X_316 := Lib.hid (X_314.out.below hb (by have := LT.out; have := B_314.out.size; omega))
        clear hb RA_314 Rp X_314 B_314
        have k0 := X_316.out.c0
        have k1 := X_316.out.c1
        go_wp2_with fail
        clear k0 k1
        refine (E1.out _ RA_316.out).mono ?_
        rintro e x317 ⟨Aq, cq, rfl, hc, hr, hb, ho⟩
        have RA_318 := Lib.hid (RA_316.out.step hb)
        have B_318 := Lib.hid (B_316.out.trans (hb.mono B_316.out.size))
        have X_318 := Lib.hid (X_316.out.below hb (by have := LT.out; have := B_316.out.size; omega))
        have Rq := Lib.hid hr
        have HCq := Lib.hid hc
        have HOq := Lib.hid ho
        clear hr hc ho
        clear hb RA_316 X_316 B_316
        have k0 := X_318.out.c0
        have k1 := X_318.out.c1
        go_wp2_with fail
        clear k0 k1
        refine (ZL.out _ _ _ Rq.out).mono ?_
        rintro e x319 ⟨rfl, hb⟩
        have RA_320 := Lib.hid (RA_318.out.step hb)
        have q_320 := Lib.hid (Rq.out.step hb)
        have B_320 := Lib.hid (B_318.out.trans (hb.mono B_318.out.size))
        have X_320 := Lib.hid (X_318.out.below hb (by have := LT.out; have := B_318.out.size; omega))
        clear hb RA_318 Rq X_318 B_318
        have k0 := X_320.out.c0
        have k1 := X_320.out.c1
        go_wp2_with fail
        clear k0 k1
        refine wp_region_held_drew (S := (fun w' => w'.cell? ⟨w.heap.size, 0, none⟩ = some (.int .u64 (s0 : Int)) ∧ w'.cell? ⟨w.heap.size, 1, none⟩ = some (.int .u64 (s1 : Int)) ∧ Below x319.heap.size x319 w')) (by kernel_rfl) ?_ (fun hHeld => ?_)
        · exact held_bx X_320.out (by have := LT.out; have := B_320.out.size; omega) (Below.refl _ _).drew
        refine held_take (v := ?vv2019) 0 rfl (by kernel_rfl) (by kernel_rfl) (by kernel_rfl) (fun _ _ _ h => h) (by rfl) ?yy2019 (by assumption) ?nn2019
        case yy2019 =>
          intro w hSw
          (try dsimp only at hSw)
          go_simp
          try with_reducible rfl
        try simp only [Act.put, List.setIfInBounds_toArray, List.set_cons_zero, List.set_cons_succ]
        refine held_take (v := ?vv2020) 1 rfl (by kernel_rfl) (by kernel_rfl) (by kernel_rfl) (fun _ _ _ h => h) (by rfl) ?yy2020 (by assumption) ?nn2020
        case yy2020 =>
          intro w hSw
          (try dsimp only at hSw)
          go_simp
          try with_reducible rfl
        try simp only [Act.put, List.setIfInBounds_toArray, List.set_cons_zero, List.set_cons_succ]
        refine held_take (v := ?vv2021) 2 rfl (by kernel_rfl) (by kernel_rfl) (by kernel_rfl) (fun _ _ _ h => h) (by rfl) ?yy2021 (by assumption) ?nn2021
        case yy2021 =>
          intro w hSw
          (try dsimp only at hSw)
          go_simp
          try with_reducible rfl
        try simp only [Act.put, List.setIfInBounds_toArray, List.set_cons_zero, List.set_cons_succ]
        refine held_take (v := ?vv2022) 3 rfl (by kernel_rfl) (by kernel_rfl) (by kernel_rfl) (fun _ _ _ h => h) (by rfl) ?yy2022 (by assumption) ?nn2022
        case yy2022 =>
          intro w hSw
          (try dsimp only at hSw)
          go_simp
          try with_reducible rfl
        try simp only [Act.put, List.setIfInBounds_toArray, List.set_cons_zero, List.set_cons_succ]
        refine held_take (v := ?vv2023) 5 rfl (by kernel_rfl) (by kernel_rfl) (by kernel_rfl) (fun _ _ _ h => h) (by rfl) ?yy2023 (by assumption) ?nn2023
        case yy2023 =>
          intro w hSw
          (try dsimp only at hSw)
          go_simp
          try with_reducible rfl
        try simp only [Act.put, List.setIfInBounds_toArray, List.set_cons_zero, List.set_cons_succ]
        refine held_take (v := ?vv2024) 6 rfl (by kernel_rfl) (by kernel_rfl) (by kernel_rfl) (fun _ _ _ h => h) (by rfl) ?yy2024 (by assumption) ?nn2024
        case yy2024 =>
          intro w hSw
          (try dsimp only at hSw)
          go_simp
          try with_reducible rfl
        try simp only [Act.put, List.setIfInBounds_toArray, List.set_cons_zero, List.set_cons_succ]
        refine held_take (v := ?vv2025) 7 rfl (by kernel_rfl) (by kernel_rfl) (by kernel_rfl) (fun _ _ _ h => h) (by rfl) ?yy2025 (by assumption) ?nn2025
        case yy2025 =>
          intro w hSw
          (try dsimp only at hSw)
          go_simp
          try with_reducible rfl
        try simp only [Act.put, List.setIfInBounds_toArray, List.set_cons_zero, List.set_cons_succ]
        refine held_take (v := ?vv2026) 8 rfl (by kernel_rfl) (by kernel_rfl) (by kernel_rfl) (fun _ _ _ h => h) (by rfl) ?yy2026 (by assumption) ?nn2026
        case yy2026 =>
          intro w hSw
          (try dsimp only at hSw)
          go_simp
          try with_reducible rfl
        try simp only [Act.put, List.setIfInBounds_toArray, List.set_cons_zero, List.set_cons_succ]
        refine held_take (v := ?vv2027) 9 rfl (by kernel_rfl) (by kernel_rfl) (by kernel_rfl) (fun _ _ _ h => h) (by rfl) ?yy2027 (by assumption) ?nn2027
        case yy2027 =>
          intro w hSw
          (try dsimp only at hSw)
          go_simp
          try with_reducible rfl
        try simp only [Act.put, List.setIfInBounds_toArray, List.set_cons_zero, List.set_cons_succ]
        refine held_take (v := ?vv2028) 11 rfl (by kernel_rfl) (by kernel_rfl) (by kernel_rfl) (fun _ _ _ h => h) (by rfl) ?yy2028 (by assumption) ?nn2028
        case yy2028 =>
          intro w hSw
          (try dsimp only at hSw)
          go_simp
          try with_reducible rfl
        try simp only [Act.put, List.setIfInBounds_toArray, List.set_cons_zero, List.set_cons_succ]
        refine held_do 4 rfl (by kernel_rfl) (by rfl) (fun K hK => ?_)
        go_wp2_with (go_at_call 25; refine (ZA.out _ _ _ (RA_320.out.step hHeld.2.2)).mono ?_; rintro e y1 ⟨rfl, hb1⟩; have Yy1 := Lib.hid (hHeld.2.2.trans (hb1.mono hHeld.2.2.size)); clear hb1)
        refine hK.out _ _ ?_ (fun hHeld => ?_)
        · exact held_bx X_320.out (by have := LT.out; have := B_320.out.size; omega) Yy1.out
        clear hK K
        try simp only [Act.put, List.setIfInBounds_toArray, List.set_cons_zero, List.set_cons_succ]
        refine held_take (v := ?vv2030) 10 rfl (by kernel_rfl) (by kernel_rfl) (by kernel_rfl) (fun _ _ _ h => h) (by rfl) ?yy2030 (by assumption) ?nn2030
        case yy2030 =>
          intro w hSw
          (try dsimp only at hSw)
          go_simp
          try with_reducible rfl
        try simp only [Act.put, List.setIfInBounds_toArray, List.set_cons_zero, List.set_cons_succ]
        refine held_take (v := ?vv2031) 12 rfl (by kernel_rfl) (by kernel_rfl) (by kernel_rfl) (fun _ _ _ h => h) (by rfl) ?yy2031 (by assumption) ?nn2031
        case yy2031 =>
          intro w hSw
          (try dsimp only at hSw)
          go_simp
          try with_reducible rfl
        try simp only [Act.put, List.setIfInBounds_toArray, List.set_cons_zero, List.set_cons_succ]
        refine held_take (v := ?vv2032) 13 rfl (by kernel_rfl) (by kernel_rfl) (by kernel_rfl) (fun _ _ _ h => h) (by rfl) ?yy2032 (by assumption) ?nn2032
        case yy2032 =>
          intro w hSw
          (try dsimp only at hSw)
          go_simp
          try with_reducible rfl
        try simp only [Act.put, List.setIfInBounds_toArray, List.set_cons_zero, List.set_cons_succ]
        refine held_take (v := ?vv2033) 14 rfl (by kernel_rfl) (by kernel_rfl) (by kernel_rfl) (fun _ _ _ h => h) (by rfl) ?yy2033 (by assumption) ?nn2033
        case yy2033 =>
          intro w hSw
          (try dsimp only at hSw)
          go_simp
          try with_reducible rfl
        try simp only [Act.put, List.setIfInBounds_toArray, List.set_cons_zero, List.set_cons_succ]
        refine held_take (v := ?vv2034) 15 rfl (by kernel_rfl) (by kernel_rfl) (by kernel_rfl) (fun _ _ _ h => h) (by rfl) ?yy2034 (by assumption) ?nn2034
        case yy2034 =>
          intro w hSw
          (try dsimp only at hSw)
          go_simp
          try with_reducible rfl
        try simp only [Act.put, List.setIfInBounds_toArray, List.set_cons_zero, List.set_cons_succ]
        refine held_take (v := ?vv2035) 16 rfl (by kernel_rfl) (by kernel_rfl) (by kernel_rfl) (fun _ _ _ h => h) (by rfl) ?yy2035 (by assumption) ?nn2035
        case yy2035 =>
          intro w hSw
          (try dsimp only at hSw)
          go_simp
          try with_reducible rfl
        try simp only [Act.put, List.setIfInBounds_toArray, List.set_cons_zero, List.set_cons_succ]
        refine held_take (v := ?vv2036) 17 rfl (by kernel_rfl) (by kernel_rfl) (by kernel_rfl) (fun _ _ _ h => h) (by rfl) ?yy2036 (by assumption) ?nn2036
        case yy2036 =>
          intro w hSw
          (try dsimp only at hSw)
          go_simp
          try with_reducible rfl
        try simp only [Act.put, List.setIfInBounds_toArray, List.set_cons_zero, List.set_cons_succ]
        refine held_take (v := ?vv2037) 19 rfl (by kernel_rfl) (by kernel_rfl) (by kernel_rfl) (fun _ _ _ h => h) (by rfl) ?yy2037 (by assumption) ?nn2037
        case yy2037 =>
          intro w hSw
          (try dsimp only at hSw)
          go_simp
          try with_reducible rfl
        try simp only [Act.put, List.setIfInBounds_toArray, List.set_cons_zero, List.set_cons_succ]
        refine held_do 18 rfl (by kernel_rfl) (by rfl) (fun K hK => ?_)
        go_wp2_with (go_at_call 25; refine (ZA.out _ _ _ (RA_320.out.step hHeld.2.2)).mono ?_; rintro e y2 ⟨rfl, hb1⟩; have Yy2 := Lib.hid (hHeld.2.2.trans (hb1.mono hHeld.2.2.size)); clear hb1)
        refine hK.out _ _ ?_ (fun hHeld => ?_)
        · exact held_bx X_320.out (by have := LT.out; have := B_320.out.size; omega) Yy2.out
        clear hK K
        try simp only [Act.put, List.setIfInBounds_toArray, List.set_cons_zero, List.set_cons_succ]
        refine held_take (v := ?vv2039) 20 rfl (by kernel_rfl) (by kernel_rfl) (by kernel_rfl) (fun _ _ _ h => h) (by rfl) ?yy2039 (by assumption) ?nn2039
        case yy2039 =>
          intro w hSw
          (try dsimp only at hSw)
          go_simp
          try with_reducible rfl
        try simp only [Act.put, List.setIfInBounds_toArray, List.set_cons_zero, List.set_cons_succ]
        refine held_take (v := ?vv2040) 21 rfl (by kernel_rfl) (by kernel_rfl) (by kernel_rfl) (fun _ _ _ h => h) (by rfl) ?yy2040 (by assumption) ?nn2040
        case yy2040 =>
          intro w hSw
          (try dsimp only at hSw)
          go_simp
          try with_reducible rfl
        try simp only [Act.put, List.setIfInBounds_toArray, List.set_cons_zero, List.set_cons_succ]
        refine held_take (v := ?vv2041) 22 rfl (by kernel_rfl) (by kernel_rfl) (by kernel_rfl) (fun _ _ _ h => h) (by rfl) ?yy2041 (by assumption) ?nn2041
        case yy2041 =>
          intro w hSw
          (try dsimp only at hSw)
          go_simp
          try with_reducible rfl
        try simp only [Act.put, List.setIfInBounds_toArray, List.set_cons_zero, List.set_cons_succ]
        refine held_take (v := ?vv2042) 23 rfl (by kernel_rfl) (by kernel_rfl) (by kernel_rfl) (fun _ _ _ h => h) (by rfl) ?yy2042 (by assumption) ?nn2042
        case yy2042 =>
          intro w hSw
          (try dsimp only at hSw)
          go_simp
          try with_reducible rfl
        try simp only [Act.put, List.setIfInBounds_toArray, List.set_cons_zero, List.set_cons_succ]
        refine wpAnyH_done (by kernel_rfl) ?_ _
        go_wp2_with fail
        go_ret
        exact ⟨rfl, HB1.out.trans ((B_320.out.trans (Yy2.out.mono B_320.out.size)).mono (Nat.le_of_lt LT.out))⟩
  · have CF := Lib.hid (fun A c w => few_any A n c false w (decide_eq_false h1))
    clear hn hc hf hs0 hs1 h1
    go_enter Try.func5, Try.ntmps5
    go_wp2_with fail
    rw [← hw1]
    clear hw1
    refine (C0.out _).mono ?_
    rintro e x321 ⟨rfl, hb⟩
    have RA_322 := Lib.hid (RA.out.step hb)
    have B_322 := Lib.hid (B0.out.trans (hb.mono B0.out.size))
    have X_322 := Lib.hid (HX.out.below hb (by have := LT.out; have := B0.out.size; omega))
    clear hb RA HX B0
    have k0 := X_322.out.c0
    have k1 := X_322.out.c1
    go_wp2_with fail
    clear k0 k1
    refine (CF.out _ _ _).mono ?_
    rintro e _ ⟨rfl, rfl⟩
    have k0 := X_322.out.c0
    have k1 := X_322.out.c1
    go_wp2_with fail
    clear k0 k1
    go_ret
    exact ⟨rfl, HB1.out.trans (B_322.out.mono (Nat.le_of_lt LT.out))⟩

set_option maxRecDepth 100000 in
theorem lifted (os : Os) (started : os.Started) (H : Type) (enc : TypeId × Value → H) :
    ReturnsInHanded {} Try.checked os 5 .any (Rows.spanCountsSpec.pre6 enc Try.prog Try.f5 Rows.spanCountsRow.domain false) (Rows.spanCountsSpec.post enc Try.prog Try.f5 false true false false) := by
  refine returnsInHanded_of_change (C := Try.checked) own started (by kernel_rfl) Try.func5
    (ChangeSpec.witness6 (enc := enc) (C := Try.checked) false ⟨#[], #[.slice none 0 0, .agg #[.int .u64 0, .int .u64 0]], []⟩ 8 (by kernel_rfl) (by kernel_rfl) (by kernel_rfl) (by kernel_rfl)) ?_
  intro W base args ds gs before hval0 hW hcnd _
  have hval : ∀ (j : Nat) t v, Try.f5.params[j]? = some t → args[j]? = some v → Value.okWide Try.prog W .any base t v := hval0
  have hW' := hW
  obtain ⟨p, q, hA0, hV, rfl, hfz, hnd⟩ := hW
  have hA : DataW.TrodAll enc Try.prog W 0 (fun _ => true) true Try.f5.params.toList args.toList ds p := hA0
  obtain ⟨rfl, rfl⟩ := trodVars_none hV
  simp only [List.append_nil] at hW'
  have hlow : ∀ x ∈ p, x.block < W.heap.size := fun x hx => hW'.lt x hx
  have hA2 := hA
  rw [Try.params5] at hval hA2
  obtain ⟨v0, vs0, d0, ds0, p0, q0, hargs, rfl, rfl, h0, r0⟩ := trodAll_cons hA2
  obtain ⟨v1, vs1, d1, ds1, p1, q1, rfl, rfl, rfl, h1, r1⟩ := trodAll_cons r0
  obtain ⟨rfl, rfl, rfl⟩ := trodAll_nil r1
  obtain rfl : args = #[v0, v1] := by cases args; simp_all
  obtain ⟨A0, c0, ss0, rfl, hf0, hr0, hl0, hc0⟩ := open_spansc Try.underlying22 Try.underlying25 (by kernel_rfl) (by kernel_rfl) rfl rfl Try.underlying23 (hval 0 22 v0 rfl rfl) h0 (fun x hx => hlow x (by simp [hx]))
  obtain ⟨a1, b1, rfl, ha1, hb1⟩ := open_two Try.underlying25 (by kernel_rfl) (by kernel_rfl) rfl rfl Try.underlying23 (hval 1 25 v1 rfl rfl) h1
  refine (walk A0 c0 ss0 a1 b1 hf0 hl0 hc0 ha1 hb1 W hr0).mono fun e W' ⟨he, hg⟩ => ?_
  subst he
  exact ⟨_, rfl, law_true laid_out (by kernel_rfl) rfl Try.underlying4 (by kernel_rfl) hW' hA rfl rfl rfl hg⟩

theorem over : Rows.spanCountsRow.holds Try.pinned (OpenSpec.ofChange Rows.spanCountsSpec) :=
  OpenClaim.holds_of_wide 5 Try.f5 rfl rfl rfl rfl rfl rfl rfl ⟨rfl, rfl, rfl, rfl, rfl⟩ rfl rfl rfl rfl rfl (by kernel_rfl) Try.func5 (by kernel_rfl)
    (of_decide_eq_true (by kernel_rfl)) (by unfold Func.isWrapper; first | (rw [if_pos (by decide +kernel)]; kernel_rfl) | (rw [if_neg (by decide +kernel)]; exact ⟨rfl, rfl⟩))
    (fun os started H enc _ => lifted os started H enc)

/-- The statement. -/
theorem proved : Rows.SpanCountsSaid := over
end Go.Proofs.Ytfibbohccaknjaa.spanCounts
