/-
  SpanHolds: a number is in what was added to (any set of at most fifty spans of its own) just if it was in or is added, in what was cut just if it was in and is not cut, in both just if it is in each; the answers are sets' own spans. No condition.
-/
import Derived.Test.YtfibbohccaknjaaSpW
namespace Go.Proofs.Ytfibbohccaknjaa.spanHolds
open Go.ChangeShapes Go.WideShapes Go.ChangeAt Go.RowKit Go.Deep
set_option linter.unusedVariables false

set_option maxHeartbeats 8000000 in
theorem walk (A : Option Addr) (c : Nat) (ss : List Wig.Spn) (B : Option Addr) (d : Nat) (tt : List Wig.Spn) (s0 s1 x : Nat) (hf : Wig.SFits ss) (hl : ss.length ≤ maxLen) (hc : ss.length ≤ c) (hf2 : Wig.SFits tt) (hl2 : tt.length ≤ maxLen) (hc2 : tt.length ≤ d)
    (hs0 : s0 < 18446744073709551616) (hs1 : s1 < 18446744073709551616) (hx : x < 18446744073709551616) (w : World) (hr : RdS w w.heap.size A ss) (hq : RdS w w.heap.size B tt) :
    Calls Try.prog 4 #[.slice A ss.length c, .slice B tt.length d, .agg #[.int .u64 (s0 : Int), .int .u64 (s1 : Int)], .int .u64 (x : Int)] w fun e w' => e = .returned (.bool true) ∧ Below w.heap.size w w' := by
  obtain ⟨w1, hw1⟩ : ∃ w1, w1 = w.alloc (.cells #[.int .u64 (s0 : Int), .int .u64 (s1 : Int)] 25) := ⟨_, rfl⟩
  have hB1 : Below w.heap.size w w1 := by rw [hw1]; exact (Below.refl _ _).alloc (Nat.le_refl _) _
  have HX := Lib.hid (show Bx w.heap.size s0 s1 w1 by rw [hw1]; exact Bx.new w s0 s1)
  have LT := Lib.hid (show w.heap.size < w1.heap.size by rw [hw1]; simp)
  have HB1 := Lib.hid hB1
  have B0 := Lib.hid (Below.refl w1.heap.size w1)
  obtain ⟨n, hn⟩ : ∃ n, n = ss.length := ⟨_, rfl⟩
  obtain ⟨m, hm⟩ : ∃ m, m = tt.length := ⟨_, rfl⟩
  rw [← hn] at hl hc ⊢
  rw [← hm] at hl2 hc2 ⊢
  have RA := Lib.hid ((hr.below hB1).wide hB1.size)
  have RB := Lib.hid ((hq.below hB1).wide hB1.size)
  have C0 := Lib.hid (fun w => awake_any w)
  clear hB1 hr hq hl hl2 hs0 hs1 hx hf hf2
  by_cases h1 : n ≤ 50
  · have CF := Lib.hid (fun A c w => few_any A n c true w (decide_eq_true h1))
    by_cases h2 : m ≤ 50
    · have CG := Lib.hid (fun A c w => few_any A m c true w (decide_eq_true h2))
      obtain ⟨ra, hra⟩ : ∃ ra, Wig.sown ss = ra := ⟨_, rfl⟩
      obtain ⟨rt, hrt⟩ : ∃ rt, Wig.sown tt = rt := ⟨_, rfl⟩
      have K1 := Lib.hid (fun A c w h => check_any ss ra A n c w hn (by omega) h hra)
      have K3 := Lib.hid (fun A c w h => check_any tt rt A m c w hm (by omega) h hrt)
      cases ra with
      | false =>
        clear hn hm hc hc2 h1 h2 hra hrt
        go_enter Try.func4, Try.ntmps4
        go_wp2_with fail
        rw [← hw1]
        clear hw1
        refine (C0.out _).mono ?_
        rintro e x74 ⟨rfl, hb⟩
        have RA_75 := Lib.hid (RA.out.step hb)
        have RB_75 := Lib.hid (RB.out.step hb)
        have B_75 := Lib.hid (B0.out.trans (hb.mono B0.out.size))
        have X_75 := Lib.hid (HX.out.below hb (by have := LT.out; have := B0.out.size; omega))
        clear hb RA RB HX B0
        have k0 := X_75.out.c0
        have k1 := X_75.out.c1
        go_wp2_with fail
        clear k0 k1
        refine (CF.out _ _ _).mono ?_
        rintro e _ ⟨rfl, rfl⟩
        have k0 := X_75.out.c0
        have k1 := X_75.out.c1
        go_wp2_with fail
        clear k0 k1
        refine (CG.out _ _ _).mono ?_
        rintro e _ ⟨rfl, rfl⟩
        have k0 := X_75.out.c0
        have k1 := X_75.out.c1
        go_wp2_with fail
        clear k0 k1
        refine (K1.out _ _ _ RA_75.out).mono ?_
        rintro e x78 ⟨rfl, hb⟩
        have RA_79 := Lib.hid (RA_75.out.step hb)
        have RB_79 := Lib.hid (RB_75.out.step hb)
        have B_79 := Lib.hid (B_75.out.trans (hb.mono B_75.out.size))
        have X_79 := Lib.hid (X_75.out.below hb (by have := LT.out; have := B_75.out.size; omega))
        clear hb RA_75 RB_75 X_75 B_75
        have k0 := X_79.out.c0
        have k1 := X_79.out.c1
        go_wp2_with fail
        clear k0 k1
        go_ret
        exact ⟨rfl, HB1.out.trans (B_79.out.mono (Nat.le_of_lt LT.out))⟩
      | true =>
        cases rt with
        | false =>
          clear hn hm hc hc2 h1 h2 hra hrt
          go_enter Try.func4, Try.ntmps4
          go_wp2_with fail
          rw [← hw1]
          clear hw1
          refine (C0.out _).mono ?_
          rintro e x80 ⟨rfl, hb⟩
          have RA_81 := Lib.hid (RA.out.step hb)
          have RB_81 := Lib.hid (RB.out.step hb)
          have B_81 := Lib.hid (B0.out.trans (hb.mono B0.out.size))
          have X_81 := Lib.hid (HX.out.below hb (by have := LT.out; have := B0.out.size; omega))
          clear hb RA RB HX B0
          have k0 := X_81.out.c0
          have k1 := X_81.out.c1
          go_wp2_with fail
          clear k0 k1
          refine (CF.out _ _ _).mono ?_
          rintro e _ ⟨rfl, rfl⟩
          have k0 := X_81.out.c0
          have k1 := X_81.out.c1
          go_wp2_with fail
          clear k0 k1
          refine (CG.out _ _ _).mono ?_
          rintro e _ ⟨rfl, rfl⟩
          have k0 := X_81.out.c0
          have k1 := X_81.out.c1
          go_wp2_with fail
          clear k0 k1
          refine (K1.out _ _ _ RA_81.out).mono ?_
          rintro e x84 ⟨rfl, hb⟩
          have RA_85 := Lib.hid (RA_81.out.step hb)
          have RB_85 := Lib.hid (RB_81.out.step hb)
          have B_85 := Lib.hid (B_81.out.trans (hb.mono B_81.out.size))
          have X_85 := Lib.hid (X_81.out.below hb (by have := LT.out; have := B_81.out.size; omega))
          clear hb RA_81 RB_81 X_81 B_81
          have k0 := X_85.out.c0
          have k1 := X_85.out.c1
          go_wp2_with fail
          clear k0 k1
          refine (K3.out _ _ _ RB_85.out).mono ?_
          rintro e x86 ⟨rfl, hb⟩
          have RA_87 := Lib.hid (RA_85.out.step hb)
          have RB_87 := Lib.hid (RB_85.out.step hb)
          have B_87 := Lib.hid (B_85.out.trans (hb.mono B_85.out.size))
          have X_87 := Lib.hid (X_85.out.below hb (by have := LT.out; have := B_85.out.size; omega))
          clear hb RA_85 RB_85 X_85 B_85
          have k0 := X_87.out.c0
          have k1 := X_87.out.c1
          go_wp2_with fail
          clear k0 k1
          go_ret
          exact ⟨rfl, HB1.out.trans (B_87.out.mono (Nat.le_of_lt LT.out))⟩
        | true =>
          have oa := Wig.sown_iff.1 hra
          have ob := Wig.sown_iff.1 hrt
          obtain ⟨r1, hr1⟩ : ∃ r1, r1 = Wig.sadd ss (s0, s1) := ⟨_, rfl⟩
          obtain ⟨r2, hr2⟩ : ∃ r2, r2 = Wig.scut ss (s0, s1) := ⟨_, rfl⟩
          obtain ⟨r3, hr3⟩ : ∃ r3, r3 = Wig.sboth ss tt := ⟨_, rfl⟩
          obtain ⟨m1, hm1⟩ : ∃ m1, m1 = r1.length := ⟨_, rfl⟩
          obtain ⟨m2, hm2⟩ : ∃ m2, m2 = r2.length := ⟨_, rfl⟩
          obtain ⟨m3, hm3⟩ : ∃ m3, m3 = r3.length := ⟨_, rfl⟩
          have b1 : m1 ≤ 100000 := by rcases Wig.sadd_len ss (s0, s1) with h | h; (rw [hm1, hr1]; omega); exact absurd oa h
          have b2 : m2 ≤ 100000 := by have := Wig.scut_len ss (s0, s1); rw [hm2, hr2]; omega
          have b3 : m3 ≤ 100000 := by
            have h := Wig.sboth_len ss tt
            rw [← hn, ← hm] at h
            have : m * n ≤ 50 * 50 := Nat.mul_le_mul h2 h1
            rw [hm3, hr3]; omega
          have D1 := Lib.hid (fun w h => add_gives ss r1 s0 s1 n m1 A c w hn hm1.symm (by omega) h oa hc hr1.symm)
          have E1 := Lib.hid (fun w h => cut_gives ss r2 s0 s1 n m2 A c w hn hm2.symm (by omega) h oa hc hr2.symm)
          have F1 := Lib.hid (fun w h k => both_gives ss tt r3 n m m3 A B c d w hn hm hm3.symm (by omega) (by omega) hc hc2 h k oa ob hr3.symm)
          have CX := Lib.hid (fun A c w h => check_any r1 true A m1 c w hm1 b1 h (Wig.sown_iff.2 (by rw [hr1]; exact Wig.sadd_own oa)))
          have CY := Lib.hid (fun A c w h => check_any r2 true A m2 c w hm2 b2 h (Wig.sown_iff.2 (by rw [hr2]; exact Wig.scut_own oa)))
          have CZ := Lib.hid (fun A c w h => check_any r3 true A m3 c w hm3 b3 h (Wig.sown_iff.2 (by rw [hr3]; exact Wig.sboth_own oa ob)))
          obtain ⟨va, hva⟩ : ∃ va, Wig.shas ss x = va := ⟨_, rfl⟩
          obtain ⟨vb, hvb⟩ : ∃ vb, Wig.shas tt x = vb := ⟨_, rfl⟩
          have HA := Lib.hid (fun A c w h => has_any ss x va A n c w hn (by omega) h hva)
          have HB := Lib.hid (fun A c w h => has_any tt x vb A m c w hm (by omega) h hvb)
          have tb : (vb == vb) = true := by simp
          by_cases p1 : s0 ≤ x
          · by_cases p2 : x < s1
            · cases va with
              | true =>
                have hin : Wig.inn (s0, s1) x = true := by simp [Wig.inn, p1, p2]
                have d1 : decide (s0 ≤ x) = true := decide_eq_true p1
                have d2 : decide (x < s1) = true := decide_eq_true p2
                have HX1 := Lib.hid (fun A c w h => has_any r1 x true A m1 c w hm1 b1 h (by rw [hr1, Wig.sadd_has oa, hva, hin]; rfl))
                have HY1 := Lib.hid (fun A c w h => has_any r2 x false A m2 c w hm2 b2 h (by rw [hr2, Wig.scut_has, hva, hin]; rfl))
                have HZ1 := Lib.hid (fun A c w h => has_any r3 x vb A m3 c w hm3 b3 h (by rw [hr3, Wig.sboth_has, hva, hvb]; rfl))
                clear hn hm hc hc2 h1 h2 hra hrt oa ob hr1 hr2 hr3 hm1 hm2 hm3 b1 b2 b3 hva hvb hin p1 p2
                go_enter Try.func4, Try.ntmps4
                go_wp2_with fail
                rw [← hw1]
                clear hw1
                refine (C0.out _).mono ?_
                rintro e x88 ⟨rfl, hb⟩
                have RA_89 := Lib.hid (RA.out.step hb)
                have RB_89 := Lib.hid (RB.out.step hb)
                have B_89 := Lib.hid (B0.out.trans (hb.mono B0.out.size))
                have X_89 := Lib.hid (HX.out.below hb (by have := LT.out; have := B0.out.size; omega))
                clear hb RA RB HX B0
                have k0 := X_89.out.c0
                have k1 := X_89.out.c1
                go_wp2_with fail
                clear k0 k1
                refine (CF.out _ _ _).mono ?_
                rintro e _ ⟨rfl, rfl⟩
                have k0 := X_89.out.c0
                have k1 := X_89.out.c1
                go_wp2_with fail
                clear k0 k1
                refine (CG.out _ _ _).mono ?_
                rintro e _ ⟨rfl, rfl⟩
                have k0 := X_89.out.c0
                have k1 := X_89.out.c1
                go_wp2_with fail
                clear k0 k1
                refine (K1.out _ _ _ RA_89.out).mono ?_
                rintro e x92 ⟨rfl, hb⟩
                have RA_93 := Lib.hid (RA_89.out.step hb)
                have RB_93 := Lib.hid (RB_89.out.step hb)
                have B_93 := Lib.hid (B_89.out.trans (hb.mono B_89.out.size))
                have X_93 := Lib.hid (X_89.out.below hb (by have := LT.out; have := B_89.out.size; omega))
                clear hb RA_89 RB_89 X_89 B_89
                have k0 := X_93.out.c0
                have k1 := X_93.out.c1
                go_wp2_with fail
                clear k0 k1
                refine (K3.out _ _ _ RB_93.out).mono ?_
                rintro e x94 ⟨rfl, hb⟩
                have RA_95 := Lib.hid (RA_93.out.step hb)
                have RB_95 := Lib.hid (RB_93.out.step hb)
                have B_95 := Lib.hid (B_93.out.trans (hb.mono B_93.out.size))
                have X_95 := Lib.hid (X_93.out.below hb (by have := LT.out; have := B_93.out.size; omega))
                clear hb RA_93 RB_93 X_93 B_93
                have k0 := X_95.out.c0
                have k1 := X_95.out.c1
                go_wp2_with fail
                clear k0 k1
                refine (D1.out _ RA_95.out).mono ?_
                rintro e x96 ⟨Ap, cp, rfl, hc, hr, hb, ho⟩
                have RA_97 := Lib.hid (RA_95.out.step hb)
                have RB_97 := Lib.hid (RB_95.out.step hb)
                have B_97 := Lib.hid (B_95.out.trans (hb.mono B_95.out.size))
                have X_97 := Lib.hid (X_95.out.below hb (by have := LT.out; have := B_95.out.size; omega))
                have Rp := Lib.hid hr
                have HCp := Lib.hid hc
                have HOp := Lib.hid ho
                clear hr hc ho
                clear hb RA_95 RB_95 X_95 B_95
                have k0 := X_97.out.c0
                have k1 := X_97.out.c1
                go_wp2_with fail
                clear k0 k1
                refine (E1.out _ RA_97.out).mono ?_
                rintro e x98 ⟨Aq, cq, rfl, hc, hr, hb, ho⟩
                have RA_99 := Lib.hid (RA_97.out.step hb)
                have RB_99 := Lib.hid (RB_97.out.step hb)
                have p_99 := Lib.hid (Rp.out.step hb)
                have B_99 := Lib.hid (B_97.out.trans (hb.mono B_97.out.size))
                have X_99 := Lib.hid (X_97.out.below hb (by have := LT.out; have := B_97.out.size; omega))
                have Rq := Lib.hid hr
                have HCq := Lib.hid hc
                have HOq := Lib.hid ho
                clear hr hc ho
                clear hb RA_97 RB_97 Rp X_97 B_97
                have k0 := X_99.out.c0
                have k1 := X_99.out.c1
                go_wp2_with fail
                clear k0 k1
                refine (F1.out _ RA_99.out RB_99.out).mono ?_
                rintro e x100 ⟨Az, cz, rfl, hc, hr, hb, ho⟩
                have RA_101 := Lib.hid (RA_99.out.step hb)
                have RB_101 := Lib.hid (RB_99.out.step hb)
                have p_101 := Lib.hid (p_99.out.step hb)
                have q_101 := Lib.hid (Rq.out.step hb)
                have B_101 := Lib.hid (B_99.out.trans (hb.mono B_99.out.size))
                have X_101 := Lib.hid (X_99.out.below hb (by have := LT.out; have := B_99.out.size; omega))
                have Rz := Lib.hid hr
                have HCz := Lib.hid hc
                have HOz := Lib.hid ho
                clear hr hc ho
                clear hb RA_99 RB_99 p_99 Rq X_99 B_99
                have k0 := X_101.out.c0
                have k1 := X_101.out.c1
                go_wp2_with fail
                clear k0 k1
                refine (HX1.out _ _ _ p_101.out).mono ?_
                rintro e x102 ⟨rfl, hb⟩
                have RA_103 := Lib.hid (RA_101.out.step hb)
                have RB_103 := Lib.hid (RB_101.out.step hb)
                have p_103 := Lib.hid (p_101.out.step hb)
                have q_103 := Lib.hid (q_101.out.step hb)
                have z_103 := Lib.hid (Rz.out.step hb)
                have B_103 := Lib.hid (B_101.out.trans (hb.mono B_101.out.size))
                have X_103 := Lib.hid (X_101.out.below hb (by have := LT.out; have := B_101.out.size; omega))
                clear hb RA_101 RB_101 p_101 q_101 Rz X_101 B_101
                have k0 := X_103.out.c0
                have k1 := X_103.out.c1
                go_wp2_with fail
                clear k0 k1
                refine (HA.out _ _ _ RA_103.out).mono ?_
                rintro e x104 ⟨rfl, hb⟩
                have RA_105 := Lib.hid (RA_103.out.step hb)
                have RB_105 := Lib.hid (RB_103.out.step hb)
                have p_105 := Lib.hid (p_103.out.step hb)
                have q_105 := Lib.hid (q_103.out.step hb)
                have z_105 := Lib.hid (z_103.out.step hb)
                have B_105 := Lib.hid (B_103.out.trans (hb.mono B_103.out.size))
                have X_105 := Lib.hid (X_103.out.below hb (by have := LT.out; have := B_103.out.size; omega))
                clear hb RA_103 RB_103 p_103 q_103 z_103 X_103 B_103
                have k0 := X_105.out.c0
                have k1 := X_105.out.c1
                go_wp2_with fail
                clear k0 k1
                refine (HY1.out _ _ _ q_105.out).mono ?_
                rintro e x106 ⟨rfl, hb⟩
                have RA_107 := Lib.hid (RA_105.out.step hb)
                have RB_107 := Lib.hid (RB_105.out.step hb)
                have p_107 := Lib.hid (p_105.out.step hb)
                have q_107 := Lib.hid (q_105.out.step hb)
                have z_107 := Lib.hid (z_105.out.step hb)
                have B_107 := Lib.hid (B_105.out.trans (hb.mono B_105.out.size))
                have X_107 := Lib.hid (X_105.out.below hb (by have := LT.out; have := B_105.out.size; omega))
                clear hb RA_105 RB_105 p_105 q_105 z_105 X_105 B_105
                have k0 := X_107.out.c0
                have k1 := X_107.out.c1
                go_wp2_with fail
                clear k0 k1
                refine (HA.out _ _ _ RA_107.out).mono ?_
                rintro e x108 ⟨rfl, hb⟩
                have RA_109 := Lib.hid (RA_107.out.step hb)
                have RB_109 := Lib.hid (RB_107.out.step hb)
                have p_109 := Lib.hid (p_107.out.step hb)
                have q_109 := Lib.hid (q_107.out.step hb)
                have z_109 := Lib.hid (z_107.out.step hb)
                have B_109 := Lib.hid (B_107.out.trans (hb.mono B_107.out.size))
                have X_109 := Lib.hid (X_107.out.below hb (by have := LT.out; have := B_107.out.size; omega))
                clear hb RA_107 RB_107 p_107 q_107 z_107 X_107 B_107
                have k0 := X_109.out.c0
                have k1 := X_109.out.c1
                go_wp2_with fail
                clear k0 k1
                refine (HZ1.out _ _ _ z_109.out).mono ?_
                rintro e x110 ⟨rfl, hb⟩
                have RA_111 := Lib.hid (RA_109.out.step hb)
                have RB_111 := Lib.hid (RB_109.out.step hb)
                have p_111 := Lib.hid (p_109.out.step hb)
                have q_111 := Lib.hid (q_109.out.step hb)
                have z_111 := Lib.hid (z_109.out.step hb)
                have B_111 := Lib.hid (B_109.out.trans (hb.mono B_109.out.size))
                have X_111 := Lib.hid (X_109.out.below hb (by have := LT.out; have := B_109.out.size; omega))
                clear hb RA_109 RB_109 p_109 q_109 z_109 X_109 B_109
                have k0 := X_111.out.c0
                have k1 := X_111.out.c1
                go_wp2_with fail
                clear k0 k1
                refine (HA.out _ _ _ RA_111.out).mono ?_
                rintro e x112 ⟨rfl, hb⟩
                have RA_113 := Lib.hid (RA_111.out.step hb)
                have RB_113 := Lib.hid (RB_111.out.step hb)
                have p_113 := Lib.hid (p_111.out.step hb)
                have q_113 := Lib.hid (q_111.out.step hb)
                have z_113 := Lib.hid (z_111.out.step hb)
                have B_113 := Lib.hid (B_111.out.trans (hb.mono B_111.out.size))
                have X_113 := Lib.hid (X_111.out.below hb (by have := LT.out; have := B_111.out.size; omega))
                clear hb RA_111 RB_111 p_111 q_111 z_111 X_111 B_111
                have k0 := X_113.out.c0
                have k1 := X_113.out.c1
                go_wp2_with fail
                clear k0 k1
                refine (HB.out _ _ _ RB_113.out).mono ?_
                rintro e x114 ⟨rfl, hb⟩
                have RA_115 := Lib.hid (RA_113.out.step hb)
                have RB_115 := Lib.hid (RB_113.out.step hb)
                have p_115 := Lib.hid (p_113.out.step hb)
                have q_115 := Lib.hid (q_113.out.step hb)
                have z_115 := Lib.hid (z_113.out.step hb)
                have B_115 := Lib.hid (B_113.out.trans (hb.mono B_113.out.size))
                have X_115 := Lib.hid (X_113.out.below hb (by have := LT.out; have := B_113.out.size; omega))
                clear hb RA_113 RB_113 p_113 q_113 z_113 X_113 B_113
                have k0 := X_115.out.c0
                have k1 := X_115.out.c1
                go_wp2_with fail
                clear k0 k1
                refine (CX.out _ _ _ p_115.out).mono ?_
                rintro e x116 ⟨rfl, hb⟩
                have RA_117 := Lib.hid (RA_115.out.step hb)
                have RB_117 := Lib.hid (RB_115.out.step hb)
                have p_117 := Lib.hid (p_115.out.step hb)
                have q_117 := Lib.hid (q_115.out.step hb)
                have z_117 := Lib.hid (z_115.out.step hb)
                have B_117 := Lib.hid (B_115.out.trans (hb.mono B_115.out.size))
                have X_117 := Lib.hid (X_115.out.below hb (by have := LT.out; have := B_115.out.size; omega))
                clear hb RA_115 RB_115 p_115 q_115 z_115 X_115 B_115
                have k0 := X_117.out.c0
                have k1 := X_117.out.c1
                go_wp2_with fail
                clear k0 k1
                refine (CY.out _ _ _ q_117.out).mono ?_
                rintro e x118 ⟨rfl, hb⟩
                have RA_119 := Lib.hid (RA_117.out.step hb)
                have RB_119 := Lib.hid (RB_117.out.step hb)
                have p_119 := Lib.hid (p_117.out.step hb)
                have q_119 := Lib.hid (q_117.out.step hb)
                have z_119 := Lib.hid (z_117.out.step hb)
                have B_119 := Lib.hid (B_117.out.trans (hb.mono B_117.out.size))
                have X_119 := Lib.hid (X_117.out.below hb (by have := LT.out; have := B_117.out.size; omega))
                clear hb RA_117 RB_117 p_117 q_117 z_117 X_117 B_117
                have k0 := X_119.out.c0
                have k1 := X_119.out.c1
                go_wp2_with fail
                clear k0 k1
                refine (CZ.out _ _ _ z_119.out).mono ?_
                rintro e x120 ⟨rfl, hb⟩
                have RA_121 := Lib.hid (RA_119.out.step hb)
                have RB_121 := Lib.hid (RB_119.out.step hb)
                have p_121 := Lib.hid (p_119.out.step hb)
                have q_121 := Lib.hid (q_119.out.step hb)
                have z_121 := Lib.hid (z_119.out.step hb)
                have B_121 := Lib.hid (B_119.out.trans (hb.mono B_119.out.size))
                have X_121 := Lib.hid (X_119.out.below hb (by have := LT.out; have := B_119.out.size; omega))
                clear hb RA_119 RB_119 p_119 q_119 z_119 X_119 B_119
                have k0 := X_121.out.c0
                have k1 := X_121.out.c1
                go_wp2_with fail
                clear k0 k1
                go_ret
                exact ⟨rfl, HB1.out.trans (B_121.out.mono (Nat.le_of_lt LT.out))⟩
              | false =>
                have hin : Wig.inn (s0, s1) x = true := by simp [Wig.inn, p1, p2]
                have d1 : decide (s0 ≤ x) = true := decide_eq_true p1
                have d2 : decide (x < s1) = true := decide_eq_true p2
                have HX1 := Lib.hid (fun A c w h => has_any r1 x true A m1 c w hm1 b1 h (by rw [hr1, Wig.sadd_has oa, hva, hin]; rfl))
                have HY1 := Lib.hid (fun A c w h => has_any r2 x false A m2 c w hm2 b2 h (by rw [hr2, Wig.scut_has, hva, hin]; rfl))
                have HZ1 := Lib.hid (fun A c w h => has_any r3 x false A m3 c w hm3 b3 h (by rw [hr3, Wig.sboth_has, hva, hvb]; rfl))
                clear hn hm hc hc2 h1 h2 hra hrt oa ob hr1 hr2 hr3 hm1 hm2 hm3 b1 b2 b3 hva hvb hin p1 p2
                go_enter Try.func4, Try.ntmps4
                go_wp2_with fail
                rw [← hw1]
                clear hw1
                refine (C0.out _).mono ?_
                rintro e x122 ⟨rfl, hb⟩
                have RA_123 := Lib.hid (RA.out.step hb)
                have RB_123 := Lib.hid (RB.out.step hb)
                have B_123 := Lib.hid (B0.out.trans (hb.mono B0.out.size))
                have X_123 := Lib.hid (HX.out.below hb (by have := LT.out; have := B0.out.size; omega))
                clear hb RA RB HX B0
                have k0 := X_123.out.c0
                have k1 := X_123.out.c1
                go_wp2_with fail
                clear k0 k1
                refine (CF.out _ _ _).mono ?_
                rintro e _ ⟨rfl, rfl⟩
                have k0 := X_123.out.c0
                have k1 := X_123.out.c1
                go_wp2_with fail
                clear k0 k1
                refine (CG.out _ _ _).mono ?_
                rintro e _ ⟨rfl, rfl⟩
                have k0 := X_123.out.c0
                have k1 := X_123.out.c1
                go_wp2_with fail
                clear k0 k1
                refine (K1.out _ _ _ RA_123.out).mono ?_
                rintro e x126 ⟨rfl, hb⟩
                have RA_127 := Lib.hid (RA_123.out.step hb)
                have RB_127 := Lib.hid (RB_123.out.step hb)
                have B_127 := Lib.hid (B_123.out.trans (hb.mono B_123.out.size))
                have X_127 := Lib.hid (X_123.out.below hb (by have := LT.out; have := B_123.out.size; omega))
                clear hb RA_123 RB_123 X_123 B_123
                have k0 := X_127.out.c0
                have k1 := X_127.out.c1
                go_wp2_with fail
                clear k0 k1
                refine (K3.out _ _ _ RB_127.out).mono ?_
                rintro e x128 ⟨rfl, hb⟩
                have RA_129 := Lib.hid (RA_127.out.step hb)
                have RB_129 := Lib.hid (RB_127.out.step hb)
                have B_129 := Lib.hid (B_127.out.trans (hb.mono B_127.out.size))
                have X_129 := Lib.hid (X_127.out.below hb (by have := LT.out; have := B_127.out.size; omega))
                clear hb RA_127 RB_127 X_127 B_127
                have k0 := X_129.out.c0
                have k1 := X_129.out.c1
                go_wp2_with fail
                clear k0 k1
                refine (D1.out _ RA_129.out).mono ?_
                rintro e x130 ⟨Ap, cp, rfl, hc, hr, hb, ho⟩
                have RA_131 := Lib.hid (RA_129.out.step hb)
                have RB_131 := Lib.hid (RB_129.out.step hb)
                have B_131 := Lib.hid (B_129.out.trans (hb.mono B_129.out.size))
                have X_131 := Lib.hid (X_129.out.below hb (by have := LT.out; have := B_129.out.size; omega))
                have Rp := Lib.hid hr
                have HCp := Lib.hid hc
                have HOp := Lib.hid ho
                clear hr hc ho
                clear hb RA_129 RB_129 X_129 B_129
                have k0 := X_131.out.c0
                have k1 := X_131.out.c1
                go_wp2_with fail
                clear k0 k1
                refine (E1.out _ RA_131.out).mono ?_
                rintro e x132 ⟨Aq, cq, rfl, hc, hr, hb, ho⟩
                have RA_133 := Lib.hid (RA_131.out.step hb)
                have RB_133 := Lib.hid (RB_131.out.step hb)
                have p_133 := Lib.hid (Rp.out.step hb)
                have B_133 := Lib.hid (B_131.out.trans (hb.mono B_131.out.size))
                have X_133 := Lib.hid (X_131.out.below hb (by have := LT.out; have := B_131.out.size; omega))
                have Rq := Lib.hid hr
                have HCq := Lib.hid hc
                have HOq := Lib.hid ho
                clear hr hc ho
                clear hb RA_131 RB_131 Rp X_131 B_131
                have k0 := X_133.out.c0
                have k1 := X_133.out.c1
                go_wp2_with fail
                clear k0 k1
                refine (F1.out _ RA_133.out RB_133.out).mono ?_
                rintro e x134 ⟨Az, cz, rfl, hc, hr, hb, ho⟩
                have RA_135 := Lib.hid (RA_133.out.step hb)
                have RB_135 := Lib.hid (RB_133.out.step hb)
                have p_135 := Lib.hid (p_133.out.step hb)
                have q_135 := Lib.hid (Rq.out.step hb)
                have B_135 := Lib.hid (B_133.out.trans (hb.mono B_133.out.size))
                have X_135 := Lib.hid (X_133.out.below hb (by have := LT.out; have := B_133.out.size; omega))
                have Rz := Lib.hid hr
                have HCz := Lib.hid hc
                have HOz := Lib.hid ho
                clear hr hc ho
                clear hb RA_133 RB_133 p_133 Rq X_133 B_133
                have k0 := X_135.out.c0
                have k1 := X_135.out.c1
                go_wp2_with fail
                clear k0 k1
                refine (HX1.out _ _ _ p_135.out).mono ?_
                rintro e x136 ⟨rfl, hb⟩
                have RA_137 := Lib.hid (RA_135.out.step hb)
                have RB_137 := Lib.hid (RB_135.out.step hb)
                have p_137 := Lib.hid (p_135.out.step hb)
                have q_137 := Lib.hid (q_135.out.step hb)
                have z_137 := Lib.hid (Rz.out.step hb)
                have B_137 := Lib.hid (B_135.out.trans (hb.mono B_135.out.size))
                have X_137 := Lib.hid (X_135.out.below hb (by have := LT.out; have := B_135.out.size; omega))
                clear hb RA_135 RB_135 p_135 q_135 Rz X_135 B_135
                have k0 := X_137.out.c0
                have k1 := X_137.out.c1
                go_wp2_with fail
                clear k0 k1
                refine (HA.out _ _ _ RA_137.out).mono ?_
                rintro e x138 ⟨rfl, hb⟩
                have RA_139 := Lib.hid (RA_137.out.step hb)
                have RB_139 := Lib.hid (RB_137.out.step hb)
                have p_139 := Lib.hid (p_137.out.step hb)
                have q_139 := Lib.hid (q_137.out.step hb)
                have z_139 := Lib.hid (z_137.out.step hb)
                have B_139 := Lib.hid (B_137.out.trans (hb.mono B_137.out.size))
                have X_139 := Lib.hid (X_137.out.below hb (by have := LT.out; have := B_137.out.size; omega))
                clear hb RA_137 RB_137 p_137 q_137 z_137 X_137 B_137
                have k0 := X_139.out.c0
                have k1 := X_139.out.c1
                go_wp2_with fail
                clear k0 k1
                refine (HY1.out _ _ _ q_139.out).mono ?_
                rintro e x140 ⟨rfl, hb⟩
                have RA_141 := Lib.hid (RA_139.out.step hb)
                have RB_141 := Lib.hid (RB_139.out.step hb)
                have p_141 := Lib.hid (p_139.out.step hb)
                have q_141 := Lib.hid (q_139.out.step hb)
                have z_141 := Lib.hid (z_139.out.step hb)
                have B_141 := Lib.hid (B_139.out.trans (hb.mono B_139.out.size))
                have X_141 := Lib.hid (X_139.out.below hb (by have := LT.out; have := B_139.out.size; omega))
                clear hb RA_139 RB_139 p_139 q_139 z_139 X_139 B_139
                have k0 := X_141.out.c0
                have k1 := X_141.out.c1
                go_wp2_with fail
                clear k0 k1
                refine (HA.out _ _ _ RA_141.out).mono ?_
                rintro e x142 ⟨rfl, hb⟩
                have RA_143 := Lib.hid (RA_141.out.step hb)
                have RB_143 := Lib.hid (RB_141.out.step hb)
                have p_143 := Lib.hid (p_141.out.step hb)
                have q_143 := Lib.hid (q_141.out.step hb)
                have z_143 := Lib.hid (z_141.out.step hb)
                have B_143 := Lib.hid (B_141.out.trans (hb.mono B_141.out.size))
                have X_143 := Lib.hid (X_141.out.below hb (by have := LT.out; have := B_141.out.size; omega))
                clear hb RA_141 RB_141 p_141 q_141 z_141 X_141 B_141
                have k0 := X_143.out.c0
                have k1 := X_143.out.c1
                go_wp2_with fail
                clear k0 k1
                refine (HZ1.out _ _ _ z_143.out).mono ?_
                rintro e x144 ⟨rfl, hb⟩
                have RA_145 := Lib.hid (RA_143.out.step hb)
                have RB_145 := Lib.hid (RB_143.out.step hb)
                have p_145 := Lib.hid (p_143.out.step hb)
                have q_145 := Lib.hid (q_143.out.step hb)
                have z_145 := Lib.hid (z_143.out.step hb)
                have B_145 := Lib.hid (B_143.out.trans (hb.mono B_143.out.size))
                have X_145 := Lib.hid (X_143.out.below hb (by have := LT.out; have := B_143.out.size; omega))
                clear hb RA_143 RB_143 p_143 q_143 z_143 X_143 B_143
                have k0 := X_145.out.c0
                have k1 := X_145.out.c1
                go_wp2_with fail
                clear k0 k1
                refine (HA.out _ _ _ RA_145.out).mono ?_
                rintro e x146 ⟨rfl, hb⟩
                have RA_147 := Lib.hid (RA_145.out.step hb)
                have RB_147 := Lib.hid (RB_145.out.step hb)
                have p_147 := Lib.hid (p_145.out.step hb)
                have q_147 := Lib.hid (q_145.out.step hb)
                have z_147 := Lib.hid (z_145.out.step hb)
                have B_147 := Lib.hid (B_145.out.trans (hb.mono B_145.out.size))
                have X_147 := Lib.hid (X_145.out.below hb (by have := LT.out; have := B_145.out.size; omega))
                clear hb RA_145 RB_145 p_145 q_145 z_145 X_145 B_145
                have k0 := X_147.out.c0
                have k1 := X_147.out.c1
                go_wp2_with fail
                clear k0 k1
                refine (CX.out _ _ _ p_147.out).mono ?_
                rintro e x148 ⟨rfl, hb⟩
                have RA_149 := Lib.hid (RA_147.out.step hb)
                have RB_149 := Lib.hid (RB_147.out.step hb)
                have p_149 := Lib.hid (p_147.out.step hb)
                have q_149 := Lib.hid (q_147.out.step hb)
                have z_149 := Lib.hid (z_147.out.step hb)
                have B_149 := Lib.hid (B_147.out.trans (hb.mono B_147.out.size))
                have X_149 := Lib.hid (X_147.out.below hb (by have := LT.out; have := B_147.out.size; omega))
                clear hb RA_147 RB_147 p_147 q_147 z_147 X_147 B_147
                have k0 := X_149.out.c0
                have k1 := X_149.out.c1
                go_wp2_with fail
                clear k0 k1
                refine (CY.out _ _ _ q_149.out).mono ?_
                rintro e x150 ⟨rfl, hb⟩
                have RA_151 := Lib.hid (RA_149.out.step hb)
                have RB_151 := Lib.hid (RB_149.out.step hb)
                have p_151 := Lib.hid (p_149.out.step hb)
                have q_151 := Lib.hid (q_149.out.step hb)
                have z_151 := Lib.hid (z_149.out.step hb)
                have B_151 := Lib.hid (B_149.out.trans (hb.mono B_149.out.size))
                have X_151 := Lib.hid (X_149.out.below hb (by have := LT.out; have := B_149.out.size; omega))
                clear hb RA_149 RB_149 p_149 q_149 z_149 X_149 B_149
                have k0 := X_151.out.c0
                have k1 := X_151.out.c1
                go_wp2_with fail
                clear k0 k1
                refine (CZ.out _ _ _ z_151.out).mono ?_
                rintro e x152 ⟨rfl, hb⟩
                have RA_153 := Lib.hid (RA_151.out.step hb)
                have RB_153 := Lib.hid (RB_151.out.step hb)
                have p_153 := Lib.hid (p_151.out.step hb)
                have q_153 := Lib.hid (q_151.out.step hb)
                have z_153 := Lib.hid (z_151.out.step hb)
                have B_153 := Lib.hid (B_151.out.trans (hb.mono B_151.out.size))
                have X_153 := Lib.hid (X_151.out.below hb (by have := LT.out; have := B_151.out.size; omega))
                clear hb RA_151 RB_151 p_151 q_151 z_151 X_151 B_151
                have k0 := X_153.out.c0
                have k1 := X_153.out.c1
                go_wp2_with fail
                clear k0 k1
                go_ret
                exact ⟨rfl, HB1.out.trans (B_153.out.mono (Nat.le_of_lt LT.out))⟩
            · cases va with
              | true =>
                have hin : Wig.inn (s0, s1) x = false := by simp [Wig.inn, p1, p2]
                have d1 : decide (s0 ≤ x) = true := decide_eq_true p1
                have d2 : decide (x < s1) = false := decide_eq_false p2
                have HX1 := Lib.hid (fun A c w h => has_any r1 x true A m1 c w hm1 b1 h (by rw [hr1, Wig.sadd_has oa, hva, hin]; rfl))
                have HY1 := Lib.hid (fun A c w h => has_any r2 x true A m2 c w hm2 b2 h (by rw [hr2, Wig.scut_has, hva, hin]; rfl))
                have HZ1 := Lib.hid (fun A c w h => has_any r3 x vb A m3 c w hm3 b3 h (by rw [hr3, Wig.sboth_has, hva, hvb]; rfl))
                clear hn hm hc hc2 h1 h2 hra hrt oa ob hr1 hr2 hr3 hm1 hm2 hm3 b1 b2 b3 hva hvb hin p1 p2
                go_enter Try.func4, Try.ntmps4
                go_wp2_with fail
                rw [← hw1]
                clear hw1
                refine (C0.out _).mono ?_
                rintro e x154 ⟨rfl, hb⟩
                have RA_155 := Lib.hid (RA.out.step hb)
                have RB_155 := Lib.hid (RB.out.step hb)
                have B_155 := Lib.hid (B0.out.trans (hb.mono B0.out.size))
                have X_155 := Lib.hid (HX.out.below hb (by have := LT.out; have := B0.out.size; omega))
                clear hb RA RB HX B0
                have k0 := X_155.out.c0
                have k1 := X_155.out.c1
                go_wp2_with fail
                clear k0 k1
                refine (CF.out _ _ _).mono ?_
                rintro e _ ⟨rfl, rfl⟩
                have k0 := X_155.out.c0
                have k1 := X_155.out.c1
                go_wp2_with fail
                clear k0 k1
                refine (CG.out _ _ _).mono ?_
                rintro e _ ⟨rfl, rfl⟩
                have k0 := X_155.out.c0
                have k1 := X_155.out.c1
                go_wp2_with fail
                clear k0 k1
                refine (K1.out _ _ _ RA_155.out).mono ?_
                rintro e x158 ⟨rfl, hb⟩
                have RA_159 := Lib.hid (RA_155.out.step hb)
                have RB_159 := Lib.hid (RB_155.out.step hb)
                have B_159 := Lib.hid (B_155.out.trans (hb.mono B_155.out.size))
                have X_159 := Lib.hid (X_155.out.below hb (by have := LT.out; have := B_155.out.size; omega))
                clear hb RA_155 RB_155 X_155 B_155
                have k0 := X_159.out.c0
                have k1 := X_159.out.c1
                go_wp2_with fail
                clear k0 k1
                refine (K3.out _ _ _ RB_159.out).mono ?_
                rintro e x160 ⟨rfl, hb⟩
                have RA_161 := Lib.hid (RA_159.out.step hb)
                have RB_161 := Lib.hid (RB_159.out.step hb)
                have B_161 := Lib.hid (B_159.out.trans (hb.mono B_159.out.size))
                have X_161 := Lib.hid (X_159.out.below hb (by have := LT.out; have := B_159.out.size; omega))
                clear hb RA_159 RB_159 X_159 B_159
                have k0 := X_161.out.c0
                have k1 := X_161.out.c1
                go_wp2_with fail
                clear k0 k1
                refine (D1.out _ RA_161.out).mono ?_
                rintro e x162 ⟨Ap, cp, rfl, hc, hr, hb, ho⟩
                have RA_163 := Lib.hid (RA_161.out.step hb)
                have RB_163 := Lib.hid (RB_161.out.step hb)
                have B_163 := Lib.hid (B_161.out.trans (hb.mono B_161.out.size))
                have X_163 := Lib.hid (X_161.out.below hb (by have := LT.out; have := B_161.out.size; omega))
                have Rp := Lib.hid hr
                have HCp := Lib.hid hc
                have HOp := Lib.hid ho
                clear hr hc ho
                clear hb RA_161 RB_161 X_161 B_161
                have k0 := X_163.out.c0
                have k1 := X_163.out.c1
                go_wp2_with fail
                clear k0 k1
                refine (E1.out _ RA_163.out).mono ?_
                rintro e x164 ⟨Aq, cq, rfl, hc, hr, hb, ho⟩
                have RA_165 := Lib.hid (RA_163.out.step hb)
                have RB_165 := Lib.hid (RB_163.out.step hb)
                have p_165 := Lib.hid (Rp.out.step hb)
                have B_165 := Lib.hid (B_163.out.trans (hb.mono B_163.out.size))
                have X_165 := Lib.hid (X_163.out.below hb (by have := LT.out; have := B_163.out.size; omega))
                have Rq := Lib.hid hr
                have HCq := Lib.hid hc
                have HOq := Lib.hid ho
                clear hr hc ho
                clear hb RA_163 RB_163 Rp X_163 B_163
                have k0 := X_165.out.c0
                have k1 := X_165.out.c1
                go_wp2_with fail
                clear k0 k1
                refine (F1.out _ RA_165.out RB_165.out).mono ?_
                rintro e x166 ⟨Az, cz, rfl, hc, hr, hb, ho⟩
                have RA_167 := Lib.hid (RA_165.out.step hb)
                have RB_167 := Lib.hid (RB_165.out.step hb)
                have p_167 := Lib.hid (p_165.out.step hb)
                have q_167 := Lib.hid (Rq.out.step hb)
                have B_167 := Lib.hid (B_165.out.trans (hb.mono B_165.out.size))
                have X_167 := Lib.hid (X_165.out.below hb (by have := LT.out; have := B_165.out.size; omega))
                have Rz := Lib.hid hr
                have HCz := Lib.hid hc
                have HOz := Lib.hid ho
                clear hr hc ho
                clear hb RA_165 RB_165 p_165 Rq X_165 B_165
                have k0 := X_167.out.c0
                have k1 := X_167.out.c1
                go_wp2_with fail
                clear k0 k1
                refine (HX1.out _ _ _ p_167.out).mono ?_
                rintro e x168 ⟨rfl, hb⟩
                have RA_169 := Lib.hid (RA_167.out.step hb)
                have RB_169 := Lib.hid (RB_167.out.step hb)
                have p_169 := Lib.hid (p_167.out.step hb)
                have q_169 := Lib.hid (q_167.out.step hb)
                have z_169 := Lib.hid (Rz.out.step hb)
                have B_169 := Lib.hid (B_167.out.trans (hb.mono B_167.out.size))
                have X_169 := Lib.hid (X_167.out.below hb (by have := LT.out; have := B_167.out.size; omega))
                clear hb RA_167 RB_167 p_167 q_167 Rz X_167 B_167
                have k0 := X_169.out.c0
                have k1 := X_169.out.c1
                go_wp2_with fail
                clear k0 k1
                refine (HA.out _ _ _ RA_169.out).mono ?_
                rintro e x170 ⟨rfl, hb⟩
                have RA_171 := Lib.hid (RA_169.out.step hb)
                have RB_171 := Lib.hid (RB_169.out.step hb)
                have p_171 := Lib.hid (p_169.out.step hb)
                have q_171 := Lib.hid (q_169.out.step hb)
                have z_171 := Lib.hid (z_169.out.step hb)
                have B_171 := Lib.hid (B_169.out.trans (hb.mono B_169.out.size))
                have X_171 := Lib.hid (X_169.out.below hb (by have := LT.out; have := B_169.out.size; omega))
                clear hb RA_169 RB_169 p_169 q_169 z_169 X_169 B_169
                have k0 := X_171.out.c0
                have k1 := X_171.out.c1
                go_wp2_with fail
                clear k0 k1
                refine (HY1.out _ _ _ q_171.out).mono ?_
                rintro e x172 ⟨rfl, hb⟩
                have RA_173 := Lib.hid (RA_171.out.step hb)
                have RB_173 := Lib.hid (RB_171.out.step hb)
                have p_173 := Lib.hid (p_171.out.step hb)
                have q_173 := Lib.hid (q_171.out.step hb)
                have z_173 := Lib.hid (z_171.out.step hb)
                have B_173 := Lib.hid (B_171.out.trans (hb.mono B_171.out.size))
                have X_173 := Lib.hid (X_171.out.below hb (by have := LT.out; have := B_171.out.size; omega))
                clear hb RA_171 RB_171 p_171 q_171 z_171 X_171 B_171
                have k0 := X_173.out.c0
                have k1 := X_173.out.c1
                go_wp2_with fail
                clear k0 k1
                refine (HA.out _ _ _ RA_173.out).mono ?_
                rintro e x174 ⟨rfl, hb⟩
                have RA_175 := Lib.hid (RA_173.out.step hb)
                have RB_175 := Lib.hid (RB_173.out.step hb)
                have p_175 := Lib.hid (p_173.out.step hb)
                have q_175 := Lib.hid (q_173.out.step hb)
                have z_175 := Lib.hid (z_173.out.step hb)
                have B_175 := Lib.hid (B_173.out.trans (hb.mono B_173.out.size))
                have X_175 := Lib.hid (X_173.out.below hb (by have := LT.out; have := B_173.out.size; omega))
                clear hb RA_173 RB_173 p_173 q_173 z_173 X_173 B_173
                have k0 := X_175.out.c0
                have k1 := X_175.out.c1
                go_wp2_with fail
                clear k0 k1
                refine (HZ1.out _ _ _ z_175.out).mono ?_
                rintro e x176 ⟨rfl, hb⟩
                have RA_177 := Lib.hid (RA_175.out.step hb)
                have RB_177 := Lib.hid (RB_175.out.step hb)
                have p_177 := Lib.hid (p_175.out.step hb)
                have q_177 := Lib.hid (q_175.out.step hb)
                have z_177 := Lib.hid (z_175.out.step hb)
                have B_177 := Lib.hid (B_175.out.trans (hb.mono B_175.out.size))
                have X_177 := Lib.hid (X_175.out.below hb (by have := LT.out; have := B_175.out.size; omega))
                clear hb RA_175 RB_175 p_175 q_175 z_175 X_175 B_175
                have k0 := X_177.out.c0
                have k1 := X_177.out.c1
                go_wp2_with fail
                clear k0 k1
                refine (HA.out _ _ _ RA_177.out).mono ?_
                rintro e x178 ⟨rfl, hb⟩
                have RA_179 := Lib.hid (RA_177.out.step hb)
                have RB_179 := Lib.hid (RB_177.out.step hb)
                have p_179 := Lib.hid (p_177.out.step hb)
                have q_179 := Lib.hid (q_177.out.step hb)
                have z_179 := Lib.hid (z_177.out.step hb)
                have B_179 := Lib.hid (B_177.out.trans (hb.mono B_177.out.size))
                have X_179 := Lib.hid (X_177.out.below hb (by have := LT.out; have := B_177.out.size; omega))
                clear hb RA_177 RB_177 p_177 q_177 z_177 X_177 B_177
                have k0 := X_179.out.c0
                have k1 := X_179.out.c1
                go_wp2_with fail
                clear k0 k1
                refine (HB.out _ _ _ RB_179.out).mono ?_
                rintro e x180 ⟨rfl, hb⟩
                have RA_181 := Lib.hid (RA_179.out.step hb)
                have RB_181 := Lib.hid (RB_179.out.step hb)
                have p_181 := Lib.hid (p_179.out.step hb)
                have q_181 := Lib.hid (q_179.out.step hb)
                have z_181 := Lib.hid (z_179.out.step hb)
                have B_181 := Lib.hid (B_179.out.trans (hb.mono B_179.out.size))
                have X_181 := Lib.hid (X_179.out.below hb (by have := LT.out; have := B_179.out.size; omega))
                clear hb RA_179 RB_179 p_179 q_179 z_179 X_179 B_179
                have k0 := X_181.out.c0
                have k1 := X_181.out.c1
                go_wp2_with fail
                clear k0 k1
                refine (CX.out _ _ _ p_181.out).mono ?_
                rintro e x182 ⟨rfl, hb⟩
                have RA_183 := Lib.hid (RA_181.out.step hb)
                have RB_183 := Lib.hid (RB_181.out.step hb)
                have p_183 := Lib.hid (p_181.out.step hb)
                have q_183 := Lib.hid (q_181.out.step hb)
                have z_183 := Lib.hid (z_181.out.step hb)
                have B_183 := Lib.hid (B_181.out.trans (hb.mono B_181.out.size))
                have X_183 := Lib.hid (X_181.out.below hb (by have := LT.out; have := B_181.out.size; omega))
                clear hb RA_181 RB_181 p_181 q_181 z_181 X_181 B_181
                have k0 := X_183.out.c0
                have k1 := X_183.out.c1
                go_wp2_with fail
                clear k0 k1
                refine (CY.out _ _ _ q_183.out).mono ?_
                rintro e x184 ⟨rfl, hb⟩
                have RA_185 := Lib.hid (RA_183.out.step hb)
                have RB_185 := Lib.hid (RB_183.out.step hb)
                have p_185 := Lib.hid (p_183.out.step hb)
                have q_185 := Lib.hid (q_183.out.step hb)
                have z_185 := Lib.hid (z_183.out.step hb)
                have B_185 := Lib.hid (B_183.out.trans (hb.mono B_183.out.size))
                have X_185 := Lib.hid (X_183.out.below hb (by have := LT.out; have := B_183.out.size; omega))
                clear hb RA_183 RB_183 p_183 q_183 z_183 X_183 B_183
                have k0 := X_185.out.c0
                have k1 := X_185.out.c1
                go_wp2_with fail
                clear k0 k1
                refine (CZ.out _ _ _ z_185.out).mono ?_
                rintro e x186 ⟨rfl, hb⟩
                have RA_187 := Lib.hid (RA_185.out.step hb)
                have RB_187 := Lib.hid (RB_185.out.step hb)
                have p_187 := Lib.hid (p_185.out.step hb)
                have q_187 := Lib.hid (q_185.out.step hb)
                have z_187 := Lib.hid (z_185.out.step hb)
                have B_187 := Lib.hid (B_185.out.trans (hb.mono B_185.out.size))
                have X_187 := Lib.hid (X_185.out.below hb (by have := LT.out; have := B_185.out.size; omega))
                clear hb RA_185 RB_185 p_185 q_185 z_185 X_185 B_185
                have k0 := X_187.out.c0
                have k1 := X_187.out.c1
                go_wp2_with fail
                clear k0 k1
                go_ret
                exact ⟨rfl, HB1.out.trans (B_187.out.mono (Nat.le_of_lt LT.out))⟩
              | false =>
                have hin : Wig.inn (s0, s1) x = false := by simp [Wig.inn, p1, p2]
                have d1 : decide (s0 ≤ x) = true := decide_eq_true p1
                have d2 : decide (x < s1) = false := decide_eq_false p2
                have HX1 := Lib.hid (fun A c w h => has_any r1 x false A m1 c w hm1 b1 h (by rw [hr1, Wig.sadd_has oa, hva, hin]; rfl))
                have HY1 := Lib.hid (fun A c w h => has_any r2 x false A m2 c w hm2 b2 h (by rw [hr2, Wig.scut_has, hva, hin]; rfl))
                have HZ1 := Lib.hid (fun A c w h => has_any r3 x false A m3 c w hm3 b3 h (by rw [hr3, Wig.sboth_has, hva, hvb]; rfl))
                clear hn hm hc hc2 h1 h2 hra hrt oa ob hr1 hr2 hr3 hm1 hm2 hm3 b1 b2 b3 hva hvb hin p1 p2
                go_enter Try.func4, Try.ntmps4
                go_wp2_with fail
                rw [← hw1]
                clear hw1
                refine (C0.out _).mono ?_
                rintro e x188 ⟨rfl, hb⟩
                have RA_189 := Lib.hid (RA.out.step hb)
                have RB_189 := Lib.hid (RB.out.step hb)
                have B_189 := Lib.hid (B0.out.trans (hb.mono B0.out.size))
                have X_189 := Lib.hid (HX.out.below hb (by have := LT.out; have := B0.out.size; omega))
                clear hb RA RB HX B0
                have k0 := X_189.out.c0
                have k1 := X_189.out.c1
                go_wp2_with fail
                clear k0 k1
                refine (CF.out _ _ _).mono ?_
                rintro e _ ⟨rfl, rfl⟩
                have k0 := X_189.out.c0
                have k1 := X_189.out.c1
                go_wp2_with fail
                clear k0 k1
                refine (CG.out _ _ _).mono ?_
                rintro e _ ⟨rfl, rfl⟩
                have k0 := X_189.out.c0
                have k1 := X_189.out.c1
                go_wp2_with fail
                clear k0 k1
                refine (K1.out _ _ _ RA_189.out).mono ?_
                rintro e x192 ⟨rfl, hb⟩
                have RA_193 := Lib.hid (RA_189.out.step hb)
                have RB_193 := Lib.hid (RB_189.out.step hb)
                have B_193 := Lib.hid (B_189.out.trans (hb.mono B_189.out.size))
                have X_193 := Lib.hid (X_189.out.below hb (by have := LT.out; have := B_189.out.size; omega))
                clear hb RA_189 RB_189 X_189 B_189
                have k0 := X_193.out.c0
                have k1 := X_193.out.c1
                go_wp2_with fail
                clear k0 k1
                refine (K3.out _ _ _ RB_193.out).mono ?_
                rintro e x194 ⟨rfl, hb⟩
                have RA_195 := Lib.hid (RA_193.out.step hb)
                have RB_195 := Lib.hid (RB_193.out.step hb)
                have B_195 := Lib.hid (B_193.out.trans (hb.mono B_193.out.size))
                have X_195 := Lib.hid (X_193.out.below hb (by have := LT.out; have := B_193.out.size; omega))
                clear hb RA_193 RB_193 X_193 B_193
                have k0 := X_195.out.c0
                have k1 := X_195.out.c1
                go_wp2_with fail
                clear k0 k1
                refine (D1.out _ RA_195.out).mono ?_
                rintro e x196 ⟨Ap, cp, rfl, hc, hr, hb, ho⟩
                have RA_197 := Lib.hid (RA_195.out.step hb)
                have RB_197 := Lib.hid (RB_195.out.step hb)
                have B_197 := Lib.hid (B_195.out.trans (hb.mono B_195.out.size))
                have X_197 := Lib.hid (X_195.out.below hb (by have := LT.out; have := B_195.out.size; omega))
                have Rp := Lib.hid hr
                have HCp := Lib.hid hc
                have HOp := Lib.hid ho
                clear hr hc ho
                clear hb RA_195 RB_195 X_195 B_195
                have k0 := X_197.out.c0
                have k1 := X_197.out.c1
                go_wp2_with fail
                clear k0 k1
                refine (E1.out _ RA_197.out).mono ?_
                rintro e x198 ⟨Aq, cq, rfl, hc, hr, hb, ho⟩
                have RA_199 := Lib.hid (RA_197.out.step hb)
                have RB_199 := Lib.hid (RB_197.out.step hb)
                have p_199 := Lib.hid (Rp.out.step hb)
                have B_199 := Lib.hid (B_197.out.trans (hb.mono B_197.out.size))
                have X_199 := Lib.hid (X_197.out.below hb (by have := LT.out; have := B_197.out.size; omega))
                have Rq := Lib.hid hr
                have HCq := Lib.hid hc
                have HOq := Lib.hid ho
                clear hr hc ho
                clear hb RA_197 RB_197 Rp X_197 B_197
                have k0 := X_199.out.c0
                have k1 := X_199.out.c1
                go_wp2_with fail
                clear k0 k1
                refine (F1.out _ RA_199.out RB_199.out).mono ?_
                rintro e x200 ⟨Az, cz, rfl, hc, hr, hb, ho⟩
                have RA_201 := Lib.hid (RA_199.out.step hb)
                have RB_201 := Lib.hid (RB_199.out.step hb)
                have p_201 := Lib.hid (p_199.out.step hb)
                have q_201 := Lib.hid (Rq.out.step hb)
                have B_201 := Lib.hid (B_199.out.trans (hb.mono B_199.out.size))
                have X_201 := Lib.hid (X_199.out.below hb (by have := LT.out; have := B_199.out.size; omega))
                have Rz := Lib.hid hr
                have HCz := Lib.hid hc
                have HOz := Lib.hid ho
                clear hr hc ho
                clear hb RA_199 RB_199 p_199 Rq X_199 B_199
                have k0 := X_201.out.c0
                have k1 := X_201.out.c1
                go_wp2_with fail
                clear k0 k1
                refine (HX1.out _ _ _ p_201.out).mono ?_
                rintro e x202 ⟨rfl, hb⟩
                have RA_203 := Lib.hid (RA_201.out.step hb)
                have RB_203 := Lib.hid (RB_201.out.step hb)
                have p_203 := Lib.hid (p_201.out.step hb)
                have q_203 := Lib.hid (q_201.out.step hb)
                have z_203 := Lib.hid (Rz.out.step hb)
                have B_203 := Lib.hid (B_201.out.trans (hb.mono B_201.out.size))
                have X_203 := Lib.hid (X_201.out.below hb (by have := LT.out; have := B_201.out.size; omega))
                clear hb RA_201 RB_201 p_201 q_201 Rz X_201 B_201
                have k0 := X_203.out.c0
                have k1 := X_203.out.c1
                go_wp2_with fail
                clear k0 k1
                refine (HA.out _ _ _ RA_203.out).mono ?_
                rintro e x204 ⟨rfl, hb⟩
                have RA_205 := Lib.hid (RA_203.out.step hb)
                have RB_205 := Lib.hid (RB_203.out.step hb)
                have p_205 := Lib.hid (p_203.out.step hb)
                have q_205 := Lib.hid (q_203.out.step hb)
                have z_205 := Lib.hid (z_203.out.step hb)
                have B_205 := Lib.hid (B_203.out.trans (hb.mono B_203.out.size))
                have X_205 := Lib.hid (X_203.out.below hb (by have := LT.out; have := B_203.out.size; omega))
                clear hb RA_203 RB_203 p_203 q_203 z_203 X_203 B_203
                have k0 := X_205.out.c0
                have k1 := X_205.out.c1
                go_wp2_with fail
                clear k0 k1
                refine (HY1.out _ _ _ q_205.out).mono ?_
                rintro e x206 ⟨rfl, hb⟩
                have RA_207 := Lib.hid (RA_205.out.step hb)
                have RB_207 := Lib.hid (RB_205.out.step hb)
                have p_207 := Lib.hid (p_205.out.step hb)
                have q_207 := Lib.hid (q_205.out.step hb)
                have z_207 := Lib.hid (z_205.out.step hb)
                have B_207 := Lib.hid (B_205.out.trans (hb.mono B_205.out.size))
                have X_207 := Lib.hid (X_205.out.below hb (by have := LT.out; have := B_205.out.size; omega))
                clear hb RA_205 RB_205 p_205 q_205 z_205 X_205 B_205
                have k0 := X_207.out.c0
                have k1 := X_207.out.c1
                go_wp2_with fail
                clear k0 k1
                refine (HA.out _ _ _ RA_207.out).mono ?_
                rintro e x208 ⟨rfl, hb⟩
                have RA_209 := Lib.hid (RA_207.out.step hb)
                have RB_209 := Lib.hid (RB_207.out.step hb)
                have p_209 := Lib.hid (p_207.out.step hb)
                have q_209 := Lib.hid (q_207.out.step hb)
                have z_209 := Lib.hid (z_207.out.step hb)
                have B_209 := Lib.hid (B_207.out.trans (hb.mono B_207.out.size))
                have X_209 := Lib.hid (X_207.out.below hb (by have := LT.out; have := B_207.out.size; omega))
                clear hb RA_207 RB_207 p_207 q_207 z_207 X_207 B_207
                have k0 := X_209.out.c0
                have k1 := X_209.out.c1
                go_wp2_with fail
                clear k0 k1
                refine (HZ1.out _ _ _ z_209.out).mono ?_
                rintro e x210 ⟨rfl, hb⟩
                have RA_211 := Lib.hid (RA_209.out.step hb)
                have RB_211 := Lib.hid (RB_209.out.step hb)
                have p_211 := Lib.hid (p_209.out.step hb)
                have q_211 := Lib.hid (q_209.out.step hb)
                have z_211 := Lib.hid (z_209.out.step hb)
                have B_211 := Lib.hid (B_209.out.trans (hb.mono B_209.out.size))
                have X_211 := Lib.hid (X_209.out.below hb (by have := LT.out; have := B_209.out.size; omega))
                clear hb RA_209 RB_209 p_209 q_209 z_209 X_209 B_209
                have k0 := X_211.out.c0
                have k1 := X_211.out.c1
                go_wp2_with fail
                clear k0 k1
                refine (HA.out _ _ _ RA_211.out).mono ?_
                rintro e x212 ⟨rfl, hb⟩
                have RA_213 := Lib.hid (RA_211.out.step hb)
                have RB_213 := Lib.hid (RB_211.out.step hb)
                have p_213 := Lib.hid (p_211.out.step hb)
                have q_213 := Lib.hid (q_211.out.step hb)
                have z_213 := Lib.hid (z_211.out.step hb)
                have B_213 := Lib.hid (B_211.out.trans (hb.mono B_211.out.size))
                have X_213 := Lib.hid (X_211.out.below hb (by have := LT.out; have := B_211.out.size; omega))
                clear hb RA_211 RB_211 p_211 q_211 z_211 X_211 B_211
                have k0 := X_213.out.c0
                have k1 := X_213.out.c1
                go_wp2_with fail
                clear k0 k1
                refine (CX.out _ _ _ p_213.out).mono ?_
                rintro e x214 ⟨rfl, hb⟩
                have RA_215 := Lib.hid (RA_213.out.step hb)
                have RB_215 := Lib.hid (RB_213.out.step hb)
                have p_215 := Lib.hid (p_213.out.step hb)
                have q_215 := Lib.hid (q_213.out.step hb)
                have z_215 := Lib.hid (z_213.out.step hb)
                have B_215 := Lib.hid (B_213.out.trans (hb.mono B_213.out.size))
                have X_215 := Lib.hid (X_213.out.below hb (by have := LT.out; have := B_213.out.size; omega))
                clear hb RA_213 RB_213 p_213 q_213 z_213 X_213 B_213
                have k0 := X_215.out.c0
                have k1 := X_215.out.c1
                go_wp2_with fail
                clear k0 k1
                refine (CY.out _ _ _ q_215.out).mono ?_
                rintro e x216 ⟨rfl, hb⟩
                have RA_217 := Lib.hid (RA_215.out.step hb)
                have RB_217 := Lib.hid (RB_215.out.step hb)
                have p_217 := Lib.hid (p_215.out.step hb)
                have q_217 := Lib.hid (q_215.out.step hb)
                have z_217 := Lib.hid (z_215.out.step hb)
                have B_217 := Lib.hid (B_215.out.trans (hb.mono B_215.out.size))
                have X_217 := Lib.hid (X_215.out.below hb (by have := LT.out; have := B_215.out.size; omega))
                clear hb RA_215 RB_215 p_215 q_215 z_215 X_215 B_215
                have k0 := X_217.out.c0
                have k1 := X_217.out.c1
                go_wp2_with fail
                clear k0 k1
                refine (CZ.out _ _ _ z_217.out).mono ?_
                rintro e x218 ⟨rfl, hb⟩
                have RA_219 := Lib.hid (RA_217.out.step hb)
                have RB_219 := Lib.hid (RB_217.out.step hb)
                have p_219 := Lib.hid (p_217.out.step hb)
                have q_219 := Lib.hid (q_217.out.step hb)
                have z_219 := Lib.hid (z_217.out.step hb)
                have B_219 := Lib.hid (B_217.out.trans (hb.mono B_217.out.size))
                have X_219 := Lib.hid (X_217.out.below hb (by have := LT.out; have := B_217.out.size; omega))
                clear hb RA_217 RB_217 p_217 q_217 z_217 X_217 B_217
                have k0 := X_219.out.c0
                have k1 := X_219.out.c1
                go_wp2_with fail
                clear k0 k1
                go_ret
                exact ⟨rfl, HB1.out.trans (B_219.out.mono (Nat.le_of_lt LT.out))⟩
          · cases va with
            | true =>
              have hin : Wig.inn (s0, s1) x = false := by simp [Wig.inn, p1]
              have d1 : decide (s0 ≤ x) = false := decide_eq_false p1
              have HX1 := Lib.hid (fun A c w h => has_any r1 x true A m1 c w hm1 b1 h (by rw [hr1, Wig.sadd_has oa, hva, hin]; rfl))
              have HY1 := Lib.hid (fun A c w h => has_any r2 x true A m2 c w hm2 b2 h (by rw [hr2, Wig.scut_has, hva, hin]; rfl))
              have HZ1 := Lib.hid (fun A c w h => has_any r3 x vb A m3 c w hm3 b3 h (by rw [hr3, Wig.sboth_has, hva, hvb]; rfl))
              clear hn hm hc hc2 h1 h2 hra hrt oa ob hr1 hr2 hr3 hm1 hm2 hm3 b1 b2 b3 hva hvb hin p1
              go_enter Try.func4, Try.ntmps4
              go_wp2_with fail
              rw [← hw1]
              clear hw1
              refine (C0.out _).mono ?_
              rintro e x220 ⟨rfl, hb⟩
              have RA_221 := Lib.hid (RA.out.step hb)
              have RB_221 := Lib.hid (RB.out.step hb)
              have B_221 := Lib.hid (B0.out.trans (hb.mono B0.out.size))
              have X_221 := Lib.hid (HX.out.below hb (by have := LT.out; have := B0.out.size; omega))
              clear hb RA RB HX B0
              have k0 := X_221.out.c0
              have k1 := X_221.out.c1
              go_wp2_with fail
              clear k0 k1
              refine (CF.out _ _ _).mono ?_
              rintro e _ ⟨rfl, rfl⟩
              have k0 := X_221.out.c0
              have k1 := X_221.out.c1
              go_wp2_with fail
              clear k0 k1
              refine (CG.out _ _ _).mono ?_
              rintro e _ ⟨rfl, rfl⟩
              have k0 := X_221.out.c0
              have k1 := X_221.out.c1
              go_wp2_with fail
              clear k0 k1
              refine (K1.out _ _ _ RA_221.out).mono ?_
              rintro e x224 ⟨rfl, hb⟩
              have RA_225 := Lib.hid (RA_221.out.step hb)
              have RB_225 := Lib.hid (RB_221.out.step hb)
              have B_225 := Lib.hid (B_221.out.trans (hb.mono B_221.out.size))
              have X_225 := Lib.hid (X_221.out.below hb (by have := LT.out; have := B_221.out.size; omega))
              clear hb RA_221 RB_221 X_221 B_221
              have k0 := X_225.out.c0
              have k1 := X_225.out.c1
              go_wp2_with fail
              clear k0 k1
              refine (K3.out _ _ _ RB_225.out).mono ?_
              rintro e x226 ⟨rfl, hb⟩
              have RA_227 := Lib.hid (RA_225.out.step hb)
              have RB_227 := Lib.hid (RB_225.out.step hb)
              have B_227 := Lib.hid (B_225.out.trans (hb.mono B_225.out.size))
              have X_227 := Lib.hid (X_225.out.below hb (by have := LT.out; have := B_225.out.size; omega))
              clear hb RA_225 RB_225 X_225 B_225
              have k0 := X_227.out.c0
              have k1 := X_227.out.c1
              go_wp2_with fail
              clear k0 k1
              refine (D1.out _ RA_227.out).mono ?_
              rintro e x228 ⟨Ap, cp, rfl, hc, hr, hb, ho⟩
              have RA_229 := Lib.hid (RA_227.out.step hb)
              have RB_229 := Lib.hid (RB_227.out.step hb)
              have B_229 := Lib.hid (B_227.out.trans (hb.mono B_227.out.size))
              have X_229 := Lib.hid (X_227.out.below hb (by have := LT.out; have := B_227.out.size; omega))
              have Rp := Lib.hid hr
              have HCp := Lib.hid hc
              have HOp := Lib.hid ho
              clear hr hc ho
              clear hb RA_227 RB_227 X_227 B_227
              have k0 := X_229.out.c0
              have k1 := X_229.out.c1
              go_wp2_with fail
              clear k0 k1
              refine (E1.out _ RA_229.out).mono ?_
              rintro e x230 ⟨Aq, cq, rfl, hc, hr, hb, ho⟩
              have RA_231 := Lib.hid (RA_229.out.step hb)
              have RB_231 := Lib.hid (RB_229.out.step hb)
              have p_231 := Lib.hid (Rp.out.step hb)
              have B_231 := Lib.hid (B_229.out.trans (hb.mono B_229.out.size))
              have X_231 := Lib.hid (X_229.out.below hb (by have := LT.out; have := B_229.out.size; omega))
              have Rq := Lib.hid hr
              have HCq := Lib.hid hc
              have HOq := Lib.hid ho
              clear hr hc ho
              clear hb RA_229 RB_229 Rp X_229 B_229
              have k0 := X_231.out.c0
              have k1 := X_231.out.c1
              go_wp2_with fail
              clear k0 k1
              refine (F1.out _ RA_231.out RB_231.out).mono ?_
              rintro e x232 ⟨Az, cz, rfl, hc, hr, hb, ho⟩
              have RA_233 := Lib.hid (RA_231.out.step hb)
              have RB_233 := Lib.hid (RB_231.out.step hb)
              have p_233 := Lib.hid (p_231.out.step hb)
              have q_233 := Lib.hid (Rq.out.step hb)
              have B_233 := Lib.hid (B_231.out.trans (hb.mono B_231.out.size))
              have X_233 := Lib.hid (X_231.out.below hb (by have := LT.out; have := B_231.out.size; omega))
              have Rz := Lib.hid hr
              have HCz := Lib.hid hc
              have HOz := Lib.hid ho
              clear hr hc ho
              clear hb RA_231 RB_231 p_231 Rq X_231 B_231
              have k0 := X_233.out.c0
              have k1 := X_233.out.c1
              go_wp2_with fail
              clear k0 k1
              refine (HX1.out _ _ _ p_233.out).mono ?_
              rintro e x234 ⟨rfl, hb⟩
              have RA_235 := Lib.hid (RA_233.out.step hb)
              have RB_235 := Lib.hid (RB_233.out.step hb)
              have p_235 := Lib.hid (p_233.out.step hb)
              have q_235 := Lib.hid (q_233.out.step hb)
              have z_235 := Lib.hid (Rz.out.step hb)
              have B_235 := Lib.hid (B_233.out.trans (hb.mono B_233.out.size))
              have X_235 := Lib.hid (X_233.out.below hb (by have := LT.out; have := B_233.out.size; omega))
              clear hb RA_233 RB_233 p_233 q_233 Rz X_233 B_233
              have k0 := X_235.out.c0
              have k1 := X_235.out.c1
              go_wp2_with fail
              clear k0 k1
              refine (HA.out _ _ _ RA_235.out).mono ?_
              rintro e x236 ⟨rfl, hb⟩
              have RA_237 := Lib.hid (RA_235.out.step hb)
              have RB_237 := Lib.hid (RB_235.out.step hb)
              have p_237 := Lib.hid (p_235.out.step hb)
              have q_237 := Lib.hid (q_235.out.step hb)
              have z_237 := Lib.hid (z_235.out.step hb)
              have B_237 := Lib.hid (B_235.out.trans (hb.mono B_235.out.size))
              have X_237 := Lib.hid (X_235.out.below hb (by have := LT.out; have := B_235.out.size; omega))
              clear hb RA_235 RB_235 p_235 q_235 z_235 X_235 B_235
              have k0 := X_237.out.c0
              have k1 := X_237.out.c1
              go_wp2_with fail
              clear k0 k1
              refine (HY1.out _ _ _ q_237.out).mono ?_
              rintro e x238 ⟨rfl, hb⟩
              have RA_239 := Lib.hid (RA_237.out.step hb)
              have RB_239 := Lib.hid (RB_237.out.step hb)
              have p_239 := Lib.hid (p_237.out.step hb)
              have q_239 := Lib.hid (q_237.out.step hb)
              have z_239 := Lib.hid (z_237.out.step hb)
              have B_239 := Lib.hid (B_237.out.trans (hb.mono B_237.out.size))
              have X_239 := Lib.hid (X_237.out.below hb (by have := LT.out; have := B_237.out.size; omega))
              clear hb RA_237 RB_237 p_237 q_237 z_237 X_237 B_237
              have k0 := X_239.out.c0
              have k1 := X_239.out.c1
              go_wp2_with fail
              clear k0 k1
              refine (HA.out _ _ _ RA_239.out).mono ?_
              rintro e x240 ⟨rfl, hb⟩
              have RA_241 := Lib.hid (RA_239.out.step hb)
              have RB_241 := Lib.hid (RB_239.out.step hb)
              have p_241 := Lib.hid (p_239.out.step hb)
              have q_241 := Lib.hid (q_239.out.step hb)
              have z_241 := Lib.hid (z_239.out.step hb)
              have B_241 := Lib.hid (B_239.out.trans (hb.mono B_239.out.size))
              have X_241 := Lib.hid (X_239.out.below hb (by have := LT.out; have := B_239.out.size; omega))
              clear hb RA_239 RB_239 p_239 q_239 z_239 X_239 B_239
              have k0 := X_241.out.c0
              have k1 := X_241.out.c1
              go_wp2_with fail
              clear k0 k1
              refine (HZ1.out _ _ _ z_241.out).mono ?_
              rintro e x242 ⟨rfl, hb⟩
              have RA_243 := Lib.hid (RA_241.out.step hb)
              have RB_243 := Lib.hid (RB_241.out.step hb)
              have p_243 := Lib.hid (p_241.out.step hb)
              have q_243 := Lib.hid (q_241.out.step hb)
              have z_243 := Lib.hid (z_241.out.step hb)
              have B_243 := Lib.hid (B_241.out.trans (hb.mono B_241.out.size))
              have X_243 := Lib.hid (X_241.out.below hb (by have := LT.out; have := B_241.out.size; omega))
              clear hb RA_241 RB_241 p_241 q_241 z_241 X_241 B_241
              have k0 := X_243.out.c0
              have k1 := X_243.out.c1
              go_wp2_with fail
              clear k0 k1
              refine (HA.out _ _ _ RA_243.out).mono ?_
              rintro e x244 ⟨rfl, hb⟩
              have RA_245 := Lib.hid (RA_243.out.step hb)
              have RB_245 := Lib.hid (RB_243.out.step hb)
              have p_245 := Lib.hid (p_243.out.step hb)
              have q_245 := Lib.hid (q_243.out.step hb)
              have z_245 := Lib.hid (z_243.out.step hb)
              have B_245 := Lib.hid (B_243.out.trans (hb.mono B_243.out.size))
              have X_245 := Lib.hid (X_243.out.below hb (by have := LT.out; have := B_243.out.size; omega))
              clear hb RA_243 RB_243 p_243 q_243 z_243 X_243 B_243
              have k0 := X_245.out.c0
              have k1 := X_245.out.c1
              go_wp2_with fail
              clear k0 k1
              refine (HB.out _ _ _ RB_245.out).mono ?_
              rintro e x246 ⟨rfl, hb⟩
              have RA_247 := Lib.hid (RA_245.out.step hb)
              have RB_247 := Lib.hid (RB_245.out.step hb)
              have p_247 := Lib.hid (p_245.out.step hb)
              have q_247 := Lib.hid (q_245.out.step hb)
              have z_247 := Lib.hid (z_245.out.step hb)
              have B_247 := Lib.hid (B_245.out.trans (hb.mono B_245.out.size))
              have X_247 := Lib.hid (X_245.out.below hb (by have := LT.out; have := B_245.out.size; omega))
              clear hb RA_245 RB_245 p_245 q_245 z_245 X_245 B_245
              have k0 := X_247.out.c0
              have k1 := X_247.out.c1
              go_wp2_with fail
              clear k0 k1
              refine (CX.out _ _ _ p_247.out).mono ?_
              rintro e x248 ⟨rfl, hb⟩
              have RA_249 := Lib.hid (RA_247.out.step hb)
              have RB_249 := Lib.hid (RB_247.out.step hb)
              have p_249 := Lib.hid (p_247.out.step hb)
              have q_249 := Lib.hid (q_247.out.step hb)
              have z_249 := Lib.hid (z_247.out.step hb)
              have B_249 := Lib.hid (B_247.out.trans (hb.mono B_247.out.size))
              have X_249 := Lib.hid (X_247.out.below hb (by have := LT.out; have := B_247.out.size; omega))
              clear hb RA_247 RB_247 p_247 q_247 z_247 X_247 B_247
              have k0 := X_249.out.c0
              have k1 := X_249.out.c1
              go_wp2_with fail
              clear k0 k1
              refine (CY.out _ _ _ q_249.out).mono ?_
              rintro e x250 ⟨rfl, hb⟩
              have RA_251 := Lib.hid (RA_249.out.step hb)
              have RB_251 := Lib.hid (RB_249.out.step hb)
              have p_251 := Lib.hid (p_249.out.step hb)
              have q_251 := Lib.hid (q_249.out.step hb)
              have z_251 := Lib.hid (z_249.out.step hb)
              have B_251 := Lib.hid (B_249.out.trans (hb.mono B_249.out.size))
              have X_251 := Lib.hid (X_249.out.below hb (by have := LT.out; have := B_249.out.size; omega))
              clear hb RA_249 RB_249 p_249 q_249 z_249 X_249 B_249
              have k0 := X_251.out.c0
              have k1 := X_251.out.c1
              go_wp2_with fail
              clear k0 k1
              refine (CZ.out _ _ _ z_251.out).mono ?_
              rintro e x252 ⟨rfl, hb⟩
              have RA_253 := Lib.hid (RA_251.out.step hb)
              have RB_253 := Lib.hid (RB_251.out.step hb)
              have p_253 := Lib.hid (p_251.out.step hb)
              have q_253 := Lib.hid (q_251.out.step hb)
              have z_253 := Lib.hid (z_251.out.step hb)
              have B_253 := Lib.hid (B_251.out.trans (hb.mono B_251.out.size))
              have X_253 := Lib.hid (X_251.out.below hb (by have := LT.out; have := B_251.out.size; omega))
              clear hb RA_251 RB_251 p_251 q_251 z_251 X_251 B_251
              have k0 := X_253.out.c0
              have k1 := X_253.out.c1
              go_wp2_with fail
              clear k0 k1
              go_ret
              exact ⟨rfl, HB1.out.trans (B_253.out.mono (Nat.le_of_lt LT.out))⟩
            | false =>
              have hin : Wig.inn (s0, s1) x = false := by simp [Wig.inn, p1]
              have d1 : decide (s0 ≤ x) = false := decide_eq_false p1
              have HX1 := Lib.hid (fun A c w h => has_any r1 x false A m1 c w hm1 b1 h (by rw [hr1, Wig.sadd_has oa, hva, hin]; rfl))
              have HY1 := Lib.hid (fun A c w h => has_any r2 x false A m2 c w hm2 b2 h (by rw [hr2, Wig.scut_has, hva, hin]; rfl))
              have HZ1 := Lib.hid (fun A c w h => has_any r3 x false A m3 c w hm3 b3 h (by rw [hr3, Wig.sboth_has, hva, hvb]; rfl))
              clear hn hm hc hc2 h1 h2 hra hrt oa ob hr1 hr2 hr3 hm1 hm2 hm3 b1 b2 b3 hva hvb hin p1
              go_enter Try.func4, Try.ntmps4
              go_wp2_with fail
              rw [← hw1]
              clear hw1
              refine (C0.out _).mono ?_
              rintro e x254 ⟨rfl, hb⟩
              have RA_255 := Lib.hid (RA.out.step hb)
              have RB_255 := Lib.hid (RB.out.step hb)
              have B_255 := Lib.hid (B0.out.trans (hb.mono B0.out.size))
              have X_255 := Lib.hid (HX.out.below hb (by have := LT.out; have := B0.out.size; omega))
              clear hb RA RB HX B0
              have k0 := X_255.out.c0
              have k1 := X_255.out.c1
              go_wp2_with fail
              clear k0 k1
              refine (CF.out _ _ _).mono ?_
              rintro e _ ⟨rfl, rfl⟩
              have k0 := X_255.out.c0
              have k1 := X_255.out.c1
              go_wp2_with fail
              clear k0 k1
              refine (CG.out _ _ _).mono ?_
              rintro e _ ⟨rfl, rfl⟩
              have k0 := X_255.out.c0
              have k1 := X_255.out.c1
              go_wp2_with fail
              clear k0 k1
              refine (K1.out _ _ _ RA_255.out).mono ?_
              rintro e x258 ⟨rfl, hb⟩
              have RA_259 := Lib.hid (RA_255.out.step hb)
              have RB_259 := Lib.hid (RB_255.out.step hb)
              have B_259 := Lib.hid (B_255.out.trans (hb.mono B_255.out.size))
              have X_259 := Lib.hid (X_255.out.below hb (by have := LT.out; have := B_255.out.size; omega))
              clear hb RA_255 RB_255 X_255 B_255
              have k0 := X_259.out.c0
              have k1 := X_259.out.c1
              go_wp2_with fail
              clear k0 k1
              refine (K3.out _ _ _ RB_259.out).mono ?_
              rintro e x260 ⟨rfl, hb⟩
              have RA_261 := Lib.hid (RA_259.out.step hb)
              have RB_261 := Lib.hid (RB_259.out.step hb)
              have B_261 := Lib.hid (B_259.out.trans (hb.mono B_259.out.size))
              have X_261 := Lib.hid (X_259.out.below hb (by have := LT.out; have := B_259.out.size; omega))
              clear hb RA_259 RB_259 X_259 B_259
              have k0 := X_261.out.c0
              have k1 := X_261.out.c1
              go_wp2_with fail
              clear k0 k1
              refine (D1.out _ RA_261.out).mono ?_
              rintro e x262 ⟨Ap, cp, rfl, hc, hr, hb, ho⟩
              have RA_263 := Lib.hid (RA_261.out.step hb)
              have RB_263 := Lib.hid (RB_261.out.step hb)
              have B_263 := Lib.hid (B_261.out.trans (hb.mono B_261.out.size))
              have X_263 := Lib.hid (X_261.out.below hb (by have := LT.out; have := B_261.out.size; omega))
              have Rp := Lib.hid hr
              have HCp := Lib.hid hc
              have HOp := Lib.hid ho
              clear hr hc ho
              clear hb RA_261 RB_261 X_261 B_261
              have k0 := X_263.out.c0
              have k1 := X_263.out.c1
              go_wp2_with fail
              clear k0 k1
              refine (E1.out _ RA_263.out).mono ?_
              rintro e x264 ⟨Aq, cq, rfl, hc, hr, hb, ho⟩
              have RA_265 := Lib.hid (RA_263.out.step hb)
              have RB_265 := Lib.hid (RB_263.out.step hb)
              have p_265 := Lib.hid (Rp.out.step hb)
              have B_265 := Lib.hid (B_263.out.trans (hb.mono B_263.out.size))
              have X_265 := Lib.hid (X_263.out.below hb (by have := LT.out; have := B_263.out.size; omega))
              have Rq := Lib.hid hr
              have HCq := Lib.hid hc
              have HOq := Lib.hid ho
              clear hr hc ho
              clear hb RA_263 RB_263 Rp X_263 B_263
              have k0 := X_265.out.c0
              have k1 := X_265.out.c1
              go_wp2_with fail
              clear k0 k1
              refine (F1.out _ RA_265.out RB_265.out).mono ?_
              rintro e x266 ⟨Az, cz, rfl, hc, hr, hb, ho⟩
              have RA_267 := Lib.hid (RA_265.out.step hb)
              have RB_267 := Lib.hid (RB_265.out.step hb)
              have p_267 := Lib.hid (p_265.out.step hb)
              have q_267 := Lib.hid (Rq.out.step hb)
              have B_267 := Lib.hid (B_265.out.trans (hb.mono B_265.out.size))
              have X_267 := Lib.hid (X_265.out.below hb (by have := LT.out; have := B_265.out.size; omega))
              have Rz := Lib.hid hr
              have HCz := Lib.hid hc
              have HOz := Lib.hid ho
              clear hr hc ho
              clear hb RA_265 RB_265 p_265 Rq X_265 B_265
              have k0 := X_267.out.c0
              have k1 := X_267.out.c1
              go_wp2_with fail
              clear k0 k1
              refine (HX1.out _ _ _ p_267.out).mono ?_
              rintro e x268 ⟨rfl, hb⟩
              have RA_269 := Lib.hid (RA_267.out.step hb)
              have RB_269 := Lib.hid (RB_267.out.step hb)
              have p_269 := Lib.hid (p_267.out.step hb)
              have q_269 := Lib.hid (q_267.out.step hb)
              have z_269 := Lib.hid (Rz.out.step hb)
              have B_269 := Lib.hid (B_267.out.trans (hb.mono B_267.out.size))
              have X_269 := Lib.hid (X_267.out.below hb (by have := LT.out; have := B_267.out.size; omega))
              clear hb RA_267 RB_267 p_267 q_267 Rz X_267 B_267
              have k0 := X_269.out.c0
              have k1 := X_269.out.c1
              go_wp2_with fail
              clear k0 k1
              refine (HA.out _ _ _ RA_269.out).mono ?_
              rintro e x270 ⟨rfl, hb⟩
              have RA_271 := Lib.hid (RA_269.out.step hb)
              have RB_271 := Lib.hid (RB_269.out.step hb)
              have p_271 := Lib.hid (p_269.out.step hb)
              have q_271 := Lib.hid (q_269.out.step hb)
              have z_271 := Lib.hid (z_269.out.step hb)
              have B_271 := Lib.hid (B_269.out.trans (hb.mono B_269.out.size))
              have X_271 := Lib.hid (X_269.out.below hb (by have := LT.out; have := B_269.out.size; omega))
              clear hb RA_269 RB_269 p_269 q_269 z_269 X_269 B_269
              have k0 := X_271.out.c0
              have k1 := X_271.out.c1
              go_wp2_with fail
              clear k0 k1
              refine (HY1.out _ _ _ q_271.out).mono ?_
              rintro e x272 ⟨rfl, hb⟩
              have RA_273 := Lib.hid (RA_271.out.step hb)
              have RB_273 := Lib.hid (RB_271.out.step hb)
              have p_273 := Lib.hid (p_271.out.step hb)
              have q_273 := Lib.hid (q_271.out.step hb)
              have z_273 := Lib.hid (z_271.out.step hb)
              have B_273 := Lib.hid (B_271.out.trans (hb.mono B_271.out.size))
              have X_273 := Lib.hid (X_271.out.below hb (by have := LT.out; have := B_271.out.size; omega))
              clear hb RA_271 RB_271 p_271 q_271 z_271 X_271 B_271
              have k0 := X_273.out.c0
              have k1 := X_273.out.c1
              go_wp2_with fail
              clear k0 k1
              refine (HA.out _ _ _ RA_273.out).mono ?_
              rintro e x274 ⟨rfl, hb⟩
              have RA_275 := Lib.hid (RA_273.out.step hb)
              have RB_275 := Lib.hid (RB_273.out.step hb)
              have p_275 := Lib.hid (p_273.out.step hb)
              have q_275 := Lib.hid (q_273.out.step hb)
              have z_275 := Lib.hid (z_273.out.step hb)
              have B_275 := Lib.hid (B_273.out.trans (hb.mono B_273.out.size))
              have X_275 := Lib.hid (X_273.out.below hb (by have := LT.out; have := B_273.out.size; omega))
              clear hb RA_273 RB_273 p_273 q_273 z_273 X_273 B_273
              have k0 := X_275.out.c0
              have k1 := X_275.out.c1
              go_wp2_with fail
              clear k0 k1
              refine (HZ1.out _ _ _ z_275.out).mono ?_
              rintro e x276 ⟨rfl, hb⟩
              have RA_277 := Lib.hid (RA_275.out.step hb)
              have RB_277 := Lib.hid (RB_275.out.step hb)
              have p_277 := Lib.hid (p_275.out.step hb)
              have q_277 := Lib.hid (q_275.out.step hb)
              have z_277 := Lib.hid (z_275.out.step hb)
              have B_277 := Lib.hid (B_275.out.trans (hb.mono B_275.out.size))
              have X_277 := Lib.hid (X_275.out.below hb (by have := LT.out; have := B_275.out.size; omega))
              clear hb RA_275 RB_275 p_275 q_275 z_275 X_275 B_275
              have k0 := X_277.out.c0
              have k1 := X_277.out.c1
              go_wp2_with fail
              clear k0 k1
              refine (HA.out _ _ _ RA_277.out).mono ?_
              rintro e x278 ⟨rfl, hb⟩
              have RA_279 := Lib.hid (RA_277.out.step hb)
              have RB_279 := Lib.hid (RB_277.out.step hb)
              have p_279 := Lib.hid (p_277.out.step hb)
              have q_279 := Lib.hid (q_277.out.step hb)
              have z_279 := Lib.hid (z_277.out.step hb)
              have B_279 := Lib.hid (B_277.out.trans (hb.mono B_277.out.size))
              have X_279 := Lib.hid (X_277.out.below hb (by have := LT.out; have := B_277.out.size; omega))
              clear hb RA_277 RB_277 p_277 q_277 z_277 X_277 B_277
              have k0 := X_279.out.c0
              have k1 := X_279.out.c1
              go_wp2_with fail
              clear k0 k1
              refine (CX.out _ _ _ p_279.out).mono ?_
              rintro e x280 ⟨rfl, hb⟩
              have RA_281 := Lib.hid (RA_279.out.step hb)
              have RB_281 := Lib.hid (RB_279.out.step hb)
              have p_281 := Lib.hid (p_279.out.step hb)
              have q_281 := Lib.hid (q_279.out.step hb)
              have z_281 := Lib.hid (z_279.out.step hb)
              have B_281 := Lib.hid (B_279.out.trans (hb.mono B_279.out.size))
              have X_281 := Lib.hid (X_279.out.below hb (by have := LT.out; have := B_279.out.size; omega))
              clear hb RA_279 RB_279 p_279 q_279 z_279 X_279 B_279
              have k0 := X_281.out.c0
              have k1 := X_281.out.c1
              go_wp2_with fail
              clear k0 k1
              refine (CY.out _ _ _ q_281.out).mono ?_
              rintro e x282 ⟨rfl, hb⟩
              have RA_283 := Lib.hid (RA_281.out.step hb)
              have RB_283 := Lib.hid (RB_281.out.step hb)
              have p_283 := Lib.hid (p_281.out.step hb)
              have q_283 := Lib.hid (q_281.out.step hb)
              have z_283 := Lib.hid (z_281.out.step hb)
              have B_283 := Lib.hid (B_281.out.trans (hb.mono B_281.out.size))
              have X_283 := Lib.hid (X_281.out.below hb (by have := LT.out; have := B_281.out.size; omega))
              clear hb RA_281 RB_281 p_281 q_281 z_281 X_281 B_281
              have k0 := X_283.out.c0
              have k1 := X_283.out.c1
              go_wp2_with fail
              clear k0 k1
              refine (CZ.out _ _ _ z_283.out).mono ?_
              rintro e x284 ⟨rfl, hb⟩
              have RA_285 := Lib.hid (RA_283.out.step hb)
              have RB_285 := Lib.hid (RB_283.out.step hb)
              have p_285 := Lib.hid (p_283.out.step hb)
              have q_285 := Lib.hid (q_283.out.step hb)
              have z_285 := Lib.hid (z_283.out.step hb)
              have B_285 := Lib.hid (B_283.out.trans (hb.mono B_283.out.size))
              have X_285 := Lib.hid (X_283.out.below hb (by have := LT.out; have := B_283.out.size; omega))
              clear hb RA_283 RB_283 p_283 q_283 z_283 X_283 B_283
              have k0 := X_285.out.c0
              have k1 := X_285.out.c1
              go_wp2_with fail
              clear k0 k1
              go_ret
              exact ⟨rfl, HB1.out.trans (B_285.out.mono (Nat.le_of_lt LT.out))⟩
    · have CG := Lib.hid (fun A c w => few_any A m c false w (decide_eq_false h2))
      clear hn hm hc hc2 h1 h2
      go_enter Try.func4, Try.ntmps4
      go_wp2_with fail
      rw [← hw1]
      clear hw1
      refine (C0.out _).mono ?_
      rintro e x286 ⟨rfl, hb⟩
      have RA_287 := Lib.hid (RA.out.step hb)
      have RB_287 := Lib.hid (RB.out.step hb)
      have B_287 := Lib.hid (B0.out.trans (hb.mono B0.out.size))
      have X_287 := Lib.hid (HX.out.below hb (by have := LT.out; have := B0.out.size; omega))
      clear hb RA RB HX B0
      have k0 := X_287.out.c0
      have k1 := X_287.out.c1
      go_wp2_with fail
      clear k0 k1
      refine (CF.out _ _ _).mono ?_
      rintro e _ ⟨rfl, rfl⟩
      have k0 := X_287.out.c0
      have k1 := X_287.out.c1
      go_wp2_with fail
      clear k0 k1
      refine (CG.out _ _ _).mono ?_
      rintro e _ ⟨rfl, rfl⟩
      have k0 := X_287.out.c0
      have k1 := X_287.out.c1
      go_wp2_with fail
      clear k0 k1
      go_ret
      exact ⟨rfl, HB1.out.trans (B_287.out.mono (Nat.le_of_lt LT.out))⟩
  · have CF := Lib.hid (fun A c w => few_any A n c false w (decide_eq_false h1))
    clear hn hm hc hc2 h1
    go_enter Try.func4, Try.ntmps4
    go_wp2_with fail
    rw [← hw1]
    clear hw1
    refine (C0.out _).mono ?_
    rintro e x290 ⟨rfl, hb⟩
    have RA_291 := Lib.hid (RA.out.step hb)
    have RB_291 := Lib.hid (RB.out.step hb)
    have B_291 := Lib.hid (B0.out.trans (hb.mono B0.out.size))
    have X_291 := Lib.hid (HX.out.below hb (by have := LT.out; have := B0.out.size; omega))
    clear hb RA RB HX B0
    have k0 := X_291.out.c0
    have k1 := X_291.out.c1
    go_wp2_with fail
    clear k0 k1
    refine (CF.out _ _ _).mono ?_
    rintro e _ ⟨rfl, rfl⟩
    have k0 := X_291.out.c0
    have k1 := X_291.out.c1
    go_wp2_with fail
    clear k0 k1
    go_ret
    exact ⟨rfl, HB1.out.trans (B_291.out.mono (Nat.le_of_lt LT.out))⟩

set_option maxRecDepth 100000 in
theorem lifted (os : Os) (started : os.Started) (H : Type) (enc : TypeId × Value → H) :
    ReturnsInHanded {} Try.checked os 4 .any (Rows.spanHoldsSpec.pre6 enc Try.prog Try.f4 Rows.spanHoldsRow.domain false) (Rows.spanHoldsSpec.post enc Try.prog Try.f4 false true false false) := by
  refine returnsInHanded_of_change (C := Try.checked) own started (by kernel_rfl) Try.func4
    (ChangeSpec.witness6 (enc := enc) (C := Try.checked) false ⟨#[], #[.slice none 0 0, .slice none 0 0, .agg #[.int .u64 0, .int .u64 0], .int .u64 0], []⟩ 8 (by kernel_rfl) (by kernel_rfl) (by kernel_rfl) (by kernel_rfl)) ?_
  intro W base args ds gs before hval0 hW hcnd _
  have hval : ∀ (j : Nat) t v, Try.f4.params[j]? = some t → args[j]? = some v → Value.okWide Try.prog W .any base t v := hval0
  have hW' := hW
  obtain ⟨p, q, hA0, hV, rfl, hfz, hnd⟩ := hW
  have hA : DataW.TrodAll enc Try.prog W 0 (fun _ => true) true Try.f4.params.toList args.toList ds p := hA0
  obtain ⟨rfl, rfl⟩ := trodVars_none hV
  simp only [List.append_nil] at hW'
  have hlow : ∀ x ∈ p, x.block < W.heap.size := fun x hx => hW'.lt x hx
  have hA2 := hA
  rw [Try.params4] at hval hA2
  obtain ⟨v0, vs0, d0, ds0, p0, q0, hargs, rfl, rfl, h0, r0⟩ := trodAll_cons hA2
  obtain ⟨v1, vs1, d1, ds1, p1, q1, rfl, rfl, rfl, h1, r1⟩ := trodAll_cons r0
  obtain ⟨v2, vs2, d2, ds2, p2, q2, rfl, rfl, rfl, h2, r2⟩ := trodAll_cons r1
  obtain ⟨v3, vs3, d3, ds3, p3, q3, rfl, rfl, rfl, h3, r3⟩ := trodAll_cons r2
  obtain ⟨rfl, rfl, rfl⟩ := trodAll_nil r3
  obtain rfl : args = #[v0, v1, v2, v3] := by cases args; simp_all
  obtain ⟨A0, c0, ss0, rfl, hf0, hr0, hl0, hc0⟩ := open_spansc Try.underlying22 Try.underlying25 (by kernel_rfl) (by kernel_rfl) rfl rfl Try.underlying23 (hval 0 22 v0 rfl rfl) h0 (fun x hx => hlow x (by simp [hx]))
  obtain ⟨A1, c1, ss1, rfl, hf1, hr1, hl1, hc1⟩ := open_spansc Try.underlying22 Try.underlying25 (by kernel_rfl) (by kernel_rfl) rfl rfl Try.underlying23 (hval 1 22 v1 rfl rfl) h1 (fun x hx => hlow x (by simp [hx]))
  obtain ⟨a2, b2, rfl, ha2, hb2⟩ := open_two Try.underlying25 (by kernel_rfl) (by kernel_rfl) rfl rfl Try.underlying23 (hval 2 25 v2 rfl rfl) h2
  obtain ⟨n3, rfl, hn3⟩ := open_u64 Try.underlying23 (hval 3 23 v3 rfl rfl) h3
  refine (walk A0 c0 ss0 A1 c1 ss1 a2 b2 n3 hf0 hl0 hc0 hf1 hl1 hc1 ha2 hb2 hn3 W hr0 hr1).mono fun e W' ⟨he, hg⟩ => ?_
  subst he
  exact ⟨_, rfl, law_true laid_out (by kernel_rfl) rfl Try.underlying4 (by kernel_rfl) hW' hA rfl rfl rfl hg⟩

theorem over : Rows.spanHoldsRow.holds Try.pinned (OpenSpec.ofChange Rows.spanHoldsSpec) :=
  OpenClaim.holds_of_wide 4 Try.f4 rfl rfl rfl rfl rfl rfl rfl ⟨rfl, rfl, rfl, rfl, rfl⟩ rfl rfl rfl rfl rfl (by kernel_rfl) Try.func4 (by kernel_rfl)
    (of_decide_eq_true (by kernel_rfl)) (by unfold Func.isWrapper; first | (rw [if_pos (by decide +kernel)]; kernel_rfl) | (rw [if_neg (by decide +kernel)]; exact ⟨rfl, rfl⟩))
    (fun os started H enc _ => lifted os started H enc)

/-- The statement. -/
theorem proved : Rows.SpanHoldsSaid := over
end Go.Proofs.Ytfibbohccaknjaa.spanHolds
