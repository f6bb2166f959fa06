/-
  SpanTells: whether any spans (at most fifty of each list) are their own, a number is in them, what is added, cut, and in both, the last ones, and how many numbers there are, is what the document says. No condition.
-/
import Derived.Test.YtfibbohccaknjaaSpW
namespace Go.Proofs.Ytfibbohccaknjaa.spanTells
open Go.ChangeShapes Go.WideShapes Go.ChangeAt Go.RowKit Go.Deep
set_option linter.unusedVariables false

set_option maxHeartbeats 8000000 in
theorem walk (A : Option Addr) (c : Nat) (ss : List Wig.Spn) (B : Option Addr) (d : Nat) (tt : List Wig.Spn) (s0 s1 x : Nat) (k : Int) (hf : Wig.SFits ss) (hl : ss.length ≤ maxLen) (hc : ss.length ≤ c) (hf2 : Wig.SFits tt) (hl2 : tt.length ≤ maxLen) (hc2 : tt.length ≤ d)
    (hs0 : s0 < 18446744073709551616) (hs1 : s1 < 18446744073709551616) (hx : x < 18446744073709551616) (hk0 : -9223372036854775808 ≤ k) (hk1 : k ≤ 9223372036854775807) (w : World) (hr : RdS w w.heap.size A ss) (hq : RdS w w.heap.size B tt) :
    Calls Try.prog 3 #[.slice A ss.length c, .slice B tt.length d, .agg #[.int .u64 (s0 : Int), .int .u64 (s1 : Int)], .int .u64 (x : Int), .int .i64 k] w fun e w' => e = .returned (.bool true) ∧ Below w.heap.size w w' := by
  obtain ⟨w1, hw1⟩ : ∃ w1, w1 = w.alloc (.cells #[.int .u64 (s0 : Int), .int .u64 (s1 : Int)] 25) := ⟨_, rfl⟩
  have hB1 : Below w.heap.size w w1 := by rw [hw1]; exact (Below.refl _ _).alloc (Nat.le_refl _) _
  have HX := Lib.hid (show Bx w.heap.size s0 s1 w1 by rw [hw1]; exact Bx.new w s0 s1)
  have LT := Lib.hid (show w.heap.size < w1.heap.size by rw [hw1]; simp)
  have HB1 := Lib.hid hB1
  have B0 := Lib.hid (Below.refl w1.heap.size w1)
  obtain ⟨n, hn⟩ : ∃ n, n = ss.length := ⟨_, rfl⟩
  obtain ⟨m, hm⟩ : ∃ m, m = tt.length := ⟨_, rfl⟩
  rw [← hn] at hl hc ⊢
  rw [← hm] at hl2 hc2 ⊢
  have RA := Lib.hid ((hr.below hB1).wide hB1.size)
  have RB := Lib.hid ((hq.below hB1).wide hB1.size)
  have C0 := Lib.hid (fun w => awake_any w)
  clear hB1 hr hq hl hl2
  by_cases h1 : n ≤ 50
  · have CF := Lib.hid (fun A c w => few_any A n c true w (decide_eq_true h1))
    by_cases h2 : m ≤ 50
    · have CG := Lib.hid (fun A c w => few_any A m c true w (decide_eq_true h2))
      obtain ⟨rb, hrb⟩ : ∃ rb, Wig.shas ss x = rb := ⟨_, rfl⟩
      have H1 := Lib.hid (fun A c w h => has_any ss x rb A n c w hn (by omega) h hrb)
      have H2 := Lib.hid (fun A c w h => rhas_any ss x rb A n c w hn (by omega) h hrb)
      have tb : (rb != rb) = false := by simp
      obtain ⟨ra, hra⟩ : ∃ ra, Wig.sown ss = ra := ⟨_, rfl⟩
      obtain ⟨rt, hrt⟩ : ∃ rt, Wig.sown tt = rt := ⟨_, rfl⟩
      have K1 := Lib.hid (fun A c w h => check_any ss ra A n c w hn (by omega) h hra)
      have K2 := Lib.hid (fun A c w h => rcheck_any ss ra A n c w hn (by omega) h hra)
      have K3 := Lib.hid (fun A c w h => check_any tt rt A m c w hm (by omega) h hrt)
      cases ra with
      | false =>
        clear hn hm hc hc2 hf hf2 hs0 hs1 hx hk0 hk1 h1 h2 hrb hra hrt
        go_enter Try.func3, Try.ntmps3
        go_wp2_with fail
        rw [← hw1]
        clear hw1
        refine (C0.out _).mono ?_
        rintro e x1 ⟨rfl, hb⟩
        have RA_2 := Lib.hid (RA.out.step hb)
        have RB_2 := Lib.hid (RB.out.step hb)
        have B_2 := Lib.hid (B0.out.trans (hb.mono B0.out.size))
        have X_2 := Lib.hid (HX.out.below hb (by have := LT.out; have := B0.out.size; omega))
        clear hb RA RB HX B0
        have k0 := X_2.out.c0
        have k1 := X_2.out.c1
        go_wp2_with fail
        clear k0 k1
        refine (CF.out _ _ _).mono ?_
        rintro e _ ⟨rfl, rfl⟩
        have k0 := X_2.out.c0
        have k1 := X_2.out.c1
        go_wp2_with fail
        clear k0 k1
        refine (CG.out _ _ _).mono ?_
        rintro e _ ⟨rfl, rfl⟩
        have k0 := X_2.out.c0
        have k1 := X_2.out.c1
        go_wp2_with fail
        clear k0 k1
        refine (K1.out _ _ _ RA_2.out).mono ?_
        rintro e x5 ⟨rfl, hb⟩
        have RA_6 := Lib.hid (RA_2.out.step hb)
        have RB_6 := Lib.hid (RB_2.out.step hb)
        have B_6 := Lib.hid (B_2.out.trans (hb.mono B_2.out.size))
        have X_6 := Lib.hid (X_2.out.below hb (by have := LT.out; have := B_2.out.size; omega))
        clear hb RA_2 RB_2 X_2 B_2
        have k0 := X_6.out.c0
        have k1 := X_6.out.c1
        go_wp2_with fail
        clear k0 k1
        refine (K2.out _ _ _ RA_6.out).mono ?_
        rintro e x7 ⟨rfl, hb⟩
        have RA_8 := Lib.hid (RA_6.out.step hb)
        have RB_8 := Lib.hid (RB_6.out.step hb)
        have B_8 := Lib.hid (B_6.out.trans (hb.mono B_6.out.size))
        have X_8 := Lib.hid (X_6.out.below hb (by have := LT.out; have := B_6.out.size; omega))
        clear hb RA_6 RB_6 X_6 B_6
        have k0 := X_8.out.c0
        have k1 := X_8.out.c1
        go_wp2_with fail
        clear k0 k1
        refine (H1.out _ _ _ RA_8.out).mono ?_
        rintro e x9 ⟨rfl, hb⟩
        have RA_10 := Lib.hid (RA_8.out.step hb)
        have RB_10 := Lib.hid (RB_8.out.step hb)
        have B_10 := Lib.hid (B_8.out.trans (hb.mono B_8.out.size))
        have X_10 := Lib.hid (X_8.out.below hb (by have := LT.out; have := B_8.out.size; omega))
        clear hb RA_8 RB_8 X_8 B_8
        have k0 := X_10.out.c0
        have k1 := X_10.out.c1
        go_wp2_with fail
        clear k0 k1
        refine (H2.out _ _ _ RA_10.out).mono ?_
        rintro e x11 ⟨rfl, hb⟩
        have RA_12 := Lib.hid (RA_10.out.step hb)
        have RB_12 := Lib.hid (RB_10.out.step hb)
        have B_12 := Lib.hid (B_10.out.trans (hb.mono B_10.out.size))
        have X_12 := Lib.hid (X_10.out.below hb (by have := LT.out; have := B_10.out.size; omega))
        clear hb RA_10 RB_10 X_10 B_10
        have k0 := X_12.out.c0
        have k1 := X_12.out.c1
        go_wp2_with fail
        clear k0 k1
        refine (K1.out _ _ _ RA_12.out).mono ?_
        rintro e x13 ⟨rfl, hb⟩
        have RA_14 := Lib.hid (RA_12.out.step hb)
        have RB_14 := Lib.hid (RB_12.out.step hb)
        have B_14 := Lib.hid (B_12.out.trans (hb.mono B_12.out.size))
        have X_14 := Lib.hid (X_12.out.below hb (by have := LT.out; have := B_12.out.size; omega))
        clear hb RA_12 RB_12 X_12 B_12
        have k0 := X_14.out.c0
        have k1 := X_14.out.c1
        go_wp2_with fail
        clear k0 k1
        go_ret
        exact ⟨rfl, HB1.out.trans (B_14.out.mono (Nat.le_of_lt LT.out))⟩
      | true =>
        cases rt with
        | false =>
          clear hn hm hc hc2 hf hf2 hs0 hs1 hx hk0 hk1 h1 h2 hrb hra hrt
          go_enter Try.func3, Try.ntmps3
          go_wp2_with fail
          rw [← hw1]
          clear hw1
          refine (C0.out _).mono ?_
          rintro e x15 ⟨rfl, hb⟩
          have RA_16 := Lib.hid (RA.out.step hb)
          have RB_16 := Lib.hid (RB.out.step hb)
          have B_16 := Lib.hid (B0.out.trans (hb.mono B0.out.size))
          have X_16 := Lib.hid (HX.out.below hb (by have := LT.out; have := B0.out.size; omega))
          clear hb RA RB HX B0
          have k0 := X_16.out.c0
          have k1 := X_16.out.c1
          go_wp2_with fail
          clear k0 k1
          refine (CF.out _ _ _).mono ?_
          rintro e _ ⟨rfl, rfl⟩
          have k0 := X_16.out.c0
          have k1 := X_16.out.c1
          go_wp2_with fail
          clear k0 k1
          refine (CG.out _ _ _).mono ?_
          rintro e _ ⟨rfl, rfl⟩
          have k0 := X_16.out.c0
          have k1 := X_16.out.c1
          go_wp2_with fail
          clear k0 k1
          refine (K1.out _ _ _ RA_16.out).mono ?_
          rintro e x19 ⟨rfl, hb⟩
          have RA_20 := Lib.hid (RA_16.out.step hb)
          have RB_20 := Lib.hid (RB_16.out.step hb)
          have B_20 := Lib.hid (B_16.out.trans (hb.mono B_16.out.size))
          have X_20 := Lib.hid (X_16.out.below hb (by have := LT.out; have := B_16.out.size; omega))
          clear hb RA_16 RB_16 X_16 B_16
          have k0 := X_20.out.c0
          have k1 := X_20.out.c1
          go_wp2_with fail
          clear k0 k1
          refine (K2.out _ _ _ RA_20.out).mono ?_
          rintro e x21 ⟨rfl, hb⟩
          have RA_22 := Lib.hid (RA_20.out.step hb)
          have RB_22 := Lib.hid (RB_20.out.step hb)
          have B_22 := Lib.hid (B_20.out.trans (hb.mono B_20.out.size))
          have X_22 := Lib.hid (X_20.out.below hb (by have := LT.out; have := B_20.out.size; omega))
          clear hb RA_20 RB_20 X_20 B_20
          have k0 := X_22.out.c0
          have k1 := X_22.out.c1
          go_wp2_with fail
          clear k0 k1
          refine (H1.out _ _ _ RA_22.out).mono ?_
          rintro e x23 ⟨rfl, hb⟩
          have RA_24 := Lib.hid (RA_22.out.step hb)
          have RB_24 := Lib.hid (RB_22.out.step hb)
          have B_24 := Lib.hid (B_22.out.trans (hb.mono B_22.out.size))
          have X_24 := Lib.hid (X_22.out.below hb (by have := LT.out; have := B_22.out.size; omega))
          clear hb RA_22 RB_22 X_22 B_22
          have k0 := X_24.out.c0
          have k1 := X_24.out.c1
          go_wp2_with fail
          clear k0 k1
          refine (H2.out _ _ _ RA_24.out).mono ?_
          rintro e x25 ⟨rfl, hb⟩
          have RA_26 := Lib.hid (RA_24.out.step hb)
          have RB_26 := Lib.hid (RB_24.out.step hb)
          have B_26 := Lib.hid (B_24.out.trans (hb.mono B_24.out.size))
          have X_26 := Lib.hid (X_24.out.below hb (by have := LT.out; have := B_24.out.size; omega))
          clear hb RA_24 RB_24 X_24 B_24
          have k0 := X_26.out.c0
          have k1 := X_26.out.c1
          go_wp2_with fail
          clear k0 k1
          refine (K1.out _ _ _ RA_26.out).mono ?_
          rintro e x27 ⟨rfl, hb⟩
          have RA_28 := Lib.hid (RA_26.out.step hb)
          have RB_28 := Lib.hid (RB_26.out.step hb)
          have B_28 := Lib.hid (B_26.out.trans (hb.mono B_26.out.size))
          have X_28 := Lib.hid (X_26.out.below hb (by have := LT.out; have := B_26.out.size; omega))
          clear hb RA_26 RB_26 X_26 B_26
          have k0 := X_28.out.c0
          have k1 := X_28.out.c1
          go_wp2_with fail
          clear k0 k1
          refine (K3.out _ _ _ RB_28.out).mono ?_
          rintro e x29 ⟨rfl, hb⟩
          have RA_30 := Lib.hid (RA_28.out.step hb)
          have RB_30 := Lib.hid (RB_28.out.step hb)
          have B_30 := Lib.hid (B_28.out.trans (hb.mono B_28.out.size))
          have X_30 := Lib.hid (X_28.out.below hb (by have := LT.out; have := B_28.out.size; omega))
          clear hb RA_28 RB_28 X_28 B_28
          have k0 := X_30.out.c0
          have k1 := X_30.out.c1
          go_wp2_with fail
          clear k0 k1
          go_ret
          exact ⟨rfl, HB1.out.trans (B_30.out.mono (Nat.le_of_lt LT.out))⟩
        | true =>
          have oa := Wig.sown_iff.1 hra
          have ob := Wig.sown_iff.1 hrt
          obtain ⟨r1, hr1⟩ : ∃ r1, r1 = Wig.sadd ss (s0, s1) := ⟨_, rfl⟩
          obtain ⟨r2, hr2⟩ : ∃ r2, r2 = Wig.scut ss (s0, s1) := ⟨_, rfl⟩
          obtain ⟨r3, hr3⟩ : ∃ r3, r3 = Wig.sboth ss tt := ⟨_, rfl⟩
          obtain ⟨r4, hr4⟩ : ∃ r4, r4 = Wig.slast ss (Wig.scnt k n) := ⟨_, rfl⟩
          obtain ⟨m1, hm1⟩ : ∃ m1, m1 = r1.length := ⟨_, rfl⟩
          obtain ⟨m2, hm2⟩ : ∃ m2, m2 = r2.length := ⟨_, rfl⟩
          obtain ⟨m3, hm3⟩ : ∃ m3, m3 = r3.length := ⟨_, rfl⟩
          obtain ⟨m4, hm4⟩ : ∃ m4, m4 = r4.length := ⟨_, rfl⟩
          obtain ⟨z, hz⟩ : ∃ z, z = Wig.ssum ss := ⟨_, rfl⟩
          have b1 : m1 ≤ 100000 := by rcases Wig.sadd_len ss (s0, s1) with h | h; (rw [hm1, hr1]; omega); exact absurd oa h
          have b2 : m2 ≤ 100000 := by have := Wig.scut_len ss (s0, s1); rw [hm2, hr2]; omega
          have b3 : m3 ≤ 100000 := by
            have h := Wig.sboth_len ss tt
            rw [← hn, ← hm] at h
            have : m * n ≤ 50 * 50 := Nat.mul_le_mul h2 h1
            rw [hm3, hr3]; omega
          have b4 : m4 ≤ 100000 := by rw [hm4, hr4]; unfold Wig.slast; rw [List.length_drop]; omega
          have D1 := Lib.hid (fun w h => add_gives ss r1 s0 s1 n m1 A c w hn hm1.symm (by omega) h oa hc hr1.symm)
          have D2 := Lib.hid (fun w h => radd_gives ss r1 s0 s1 n m1 A c w hn hm1.symm (by omega) h oa hr1.symm)
          have D3 := Lib.hid (fun A B c d w h k => same_any r1 A B m1 c d w hm1 b1 h k)
          have E1 := Lib.hid (fun w h => cut_gives ss r2 s0 s1 n m2 A c w hn hm2.symm (by omega) h oa hc hr2.symm)
          have E2 := Lib.hid (fun w h => rcut_gives ss r2 s0 s1 n m2 A c w hn hm2.symm (by omega) h oa hf hr2.symm)
          have E3 := Lib.hid (fun A B c d w h k => same_any r2 A B m2 c d w hm2 b2 h k)
          have F1 := Lib.hid (fun w h k => both_gives ss tt r3 n m m3 A B c d w hn hm hm3.symm (by omega) (by omega) hc hc2 h k oa ob hr3.symm)
          have F2 := Lib.hid (fun w h k => rboth_gives ss tt r3 n m m3 A B c d w hn hm hm3.symm (by omega) (by omega) h k oa ob hr3.symm)
          have F3 := Lib.hid (fun A B c d w h k => same_any r3 A B m3 c d w hm3 b3 h k)
          have G1 := Lib.hid (fun w h => last_gives ss r4 k n m4 A c w hk0 hk1 hn hm4.symm (by omega) h hc hr4.symm)
          have G2 := Lib.hid (fun w h => rlast_gives ss r4 k n m4 A c w hk0 hk1 hn hm4.symm (by omega) h hc hr4.symm)
          have G3 := Lib.hid (fun A B c d w h k => same_any r4 A B m4 c d w hm4 b4 h k)
          have Z1 := Lib.hid (fun w h => size_any ss z A n c w hn (by omega) h oa hf hz.symm)
          have Z2 := Lib.hid (fun w h => rsize_any ss z A n c w hn (by omega) h oa hf hz.symm)
          have tz : ((z : Int) == (z : Int)) = true := by simp
          clear hn hm hc hc2 hf hf2 hs0 hs1 hx hk0 hk1 h1 h2 hrb hra hrt oa ob hr1 hr2 hr3 hr4 hm1 hm2 hm3 hm4 hz b1 b2 b3 b4
          go_enter Try.func3, Try.ntmps3
          go_wp2_with fail
          rw [← hw1]
          clear hw1
          refine (C0.out _).mono ?_
          rintro e x31 ⟨rfl, hb⟩
          have RA_32 := Lib.hid (RA.out.step hb)
          have RB_32 := Lib.hid (RB.out.step hb)
          have B_32 := Lib.hid (B0.out.trans (hb.mono B0.out.size))
          have X_32 := Lib.hid (HX.out.below hb (by have := LT.out; have := B0.out.size; omega))
          clear hb RA RB HX B0
          have k0 := X_32.out.c0
          have k1 := X_32.out.c1
          go_wp2_with fail
          clear k0 k1
          refine (CF.out _ _ _).mono ?_
          rintro e _ ⟨rfl, rfl⟩
          have k0 := X_32.out.c0
          have k1 := X_32.out.c1
          go_wp2_with fail
          clear k0 k1
          refine (CG.out _ _ _).mono ?_
          rintro e _ ⟨rfl, rfl⟩
          have k0 := X_32.out.c0
          have k1 := X_32.out.c1
          go_wp2_with fail
          clear k0 k1
          refine (K1.out _ _ _ RA_32.out).mono ?_
          rintro e x35 ⟨rfl, hb⟩
          have RA_36 := Lib.hid (RA_32.out.step hb)
          have RB_36 := Lib.hid (RB_32.out.step hb)
          have B_36 := Lib.hid (B_32.out.trans (hb.mono B_32.out.size))
          have X_36 := Lib.hid (X_32.out.below hb (by have := LT.out; have := B_32.out.size; omega))
          clear hb RA_32 RB_32 X_32 B_32
          have k0 := X_36.out.c0
          have k1 := X_36.out.c1
          go_wp2_with fail
          clear k0 k1
          refine (K2.out _ _ _ RA_36.out).mono ?_
          rintro e x37 ⟨rfl, hb⟩
          have RA_38 := Lib.hid (RA_36.out.step hb)
          have RB_38 := Lib.hid (RB_36.out.step hb)
          have B_38 := Lib.hid (B_36.out.trans (hb.mono B_36.out.size))
          have X_38 := Lib.hid (X_36.out.below hb (by have := LT.out; have := B_36.out.size; omega))
          clear hb RA_36 RB_36 X_36 B_36
          have k0 := X_38.out.c0
          have k1 := X_38.out.c1
          go_wp2_with fail
          clear k0 k1
          refine (H1.out _ _ _ RA_38.out).mono ?_
          rintro e x39 ⟨rfl, hb⟩
          have RA_40 := Lib.hid (RA_38.out.step hb)
          have RB_40 := Lib.hid (RB_38.out.step hb)
          have B_40 := Lib.hid (B_38.out.trans (hb.mono B_38.out.size))
          have X_40 := Lib.hid (X_38.out.below hb (by have := LT.out; have := B_38.out.size; omega))
          clear hb RA_38 RB_38 X_38 B_38
          have k0 := X_40.out.c0
          have k1 := X_40.out.c1
          go_wp2_with fail
          clear k0 k1
          refine (H2.out _ _ _ RA_40.out).mono ?_
          rintro e x41 ⟨rfl, hb⟩
          have RA_42 := Lib.hid (RA_40.out.step hb)
          have RB_42 := Lib.hid (RB_40.out.step hb)
          have B_42 := Lib.hid (B_40.out.trans (hb.mono B_40.out.size))
          have X_42 := Lib.hid (X_40.out.below hb (by have := LT.out; have := B_40.out.size; omega))
          clear hb RA_40 RB_40 X_40 B_40
          have k0 := X_42.out.c0
          have k1 := X_42.out.c1
          go_wp2_with fail
          clear k0 k1
          refine (K1.out _ _ _ RA_42.out).mono ?_
          rintro e x43 ⟨rfl, hb⟩
          have RA_44 := Lib.hid (RA_42.out.step hb)
          have RB_44 := Lib.hid (RB_42.out.step hb)
          have B_44 := Lib.hid (B_42.out.trans (hb.mono B_42.out.size))
          have X_44 := Lib.hid (X_42.out.below hb (by have := LT.out; have := B_42.out.size; omega))
          clear hb RA_42 RB_42 X_42 B_42
          have k0 := X_44.out.c0
          have k1 := X_44.out.c1
          go_wp2_with fail
          clear k0 k1
          refine (K3.out _ _ _ RB_44.out).mono ?_
          rintro e x45 ⟨rfl, hb⟩
          have RA_46 := Lib.hid (RA_44.out.step hb)
          have RB_46 := Lib.hid (RB_44.out.step hb)
          have B_46 := Lib.hid (B_44.out.trans (hb.mono B_44.out.size))
          have X_46 := Lib.hid (X_44.out.below hb (by have := LT.out; have := B_44.out.size; omega))
          clear hb RA_44 RB_44 X_44 B_44
          have k0 := X_46.out.c0
          have k1 := X_46.out.c1
          go_wp2_with fail
          clear k0 k1
          refine wp_region_held_drew (S := (fun w' => w'.cell? ⟨w.heap.size, 0, none⟩ = some (.int .u64 (s0 : Int)) ∧ w'.cell? ⟨w.heap.size, 1, none⟩ = some (.int .u64 (s1 : Int)) ∧ Below x45.heap.size x45 w')) (by kernel_rfl) ?_ (fun hHeld => ?_)
          · exact held_bx X_46.out (by have := LT.out; have := B_46.out.size; omega) (Below.refl _ _).drew
          refine held_take (v := ?vv2001) 0 rfl (by kernel_rfl) (by kernel_rfl) (by kernel_rfl) (fun _ _ _ h => h) (by rfl) ?yy2001 (by assumption) ?nn2001
          case yy2001 =>
            intro w hSw
            (try dsimp only at hSw)
            go_simp
            try with_reducible rfl
          try simp only [Act.put, List.setIfInBounds_toArray, List.set_cons_zero, List.set_cons_succ]
          refine held_take (v := ?vv2002) 1 rfl (by kernel_rfl) (by kernel_rfl) (by kernel_rfl) (fun _ _ _ h => h) (by rfl) ?yy2002 (by assumption) ?nn2002
          case yy2002 =>
            intro w hSw
            (try dsimp only at hSw)
            go_simp
            try with_reducible rfl
          try simp only [Act.put, List.setIfInBounds_toArray, List.set_cons_zero, List.set_cons_succ]
          refine held_take (v := ?vv2003) 3 rfl (by kernel_rfl) (by kernel_rfl) (by kernel_rfl) (fun _ _ _ h => h) (by rfl) ?yy2003 (by assumption) ?nn2003
          case yy2003 =>
            intro w hSw
            (try dsimp only at hSw)
            go_simp
            try with_reducible rfl
          try simp only [Act.put, List.setIfInBounds_toArray, List.set_cons_zero, List.set_cons_succ]
          refine held_take (v := ?vv2004) 4 rfl (by kernel_rfl) (by kernel_rfl) (by kernel_rfl) (fun _ _ _ h => h) (by rfl) ?yy2004 (by assumption) ?nn2004
          case yy2004 =>
            intro w hSw
            (try dsimp only at hSw)
            go_simp
            try with_reducible rfl
          try simp only [Act.put, List.setIfInBounds_toArray, List.set_cons_zero, List.set_cons_succ]
          refine held_do 2 rfl (by kernel_rfl) (by rfl) (fun K hK => ?_)
          go_wp2_with (go_at_call 17; refine (D1.out _ (RA_46.out.step hHeld.2.2)).mono ?_; rintro e y1 ⟨A1, c1, rfl, -, hr1, hb1, -⟩; have Y1 := Lib.hid (And.intro hr1 (hHeld.2.2.trans (hb1.mono hHeld.2.2.size))); clear hr1 hb1)
          refine hK.out _ _ ?_ (fun hHeld => ?_)
          · exact held_bx X_46.out (by have := LT.out; have := B_46.out.size; omega) Y1.out.2
          clear hK K
          try simp only [Act.put, List.setIfInBounds_toArray, List.set_cons_zero, List.set_cons_succ]
          refine held_do 5 rfl (by kernel_rfl) (by rfl) (fun K hK => ?_)
          go_wp2_with (go_at_call 18; refine (D2.out _ (RA_46.out.step hHeld.2.2)).mono ?_; rintro e y2 ⟨A2, c2, rfl, -, hr2, hb2, -⟩; have Y2 := Lib.hid (And.intro hr2 (And.intro (Y1.out.1.step hb2) (hHeld.2.2.trans (hb2.mono hHeld.2.2.size)))); clear hr2 hb2)
          refine hK.out _ _ ?_ (fun hHeld => ?_)
          · exact held_bx X_46.out (by have := LT.out; have := B_46.out.size; omega) Y2.out.2.2
          clear hK K
          try simp only [Act.put, List.setIfInBounds_toArray, List.set_cons_zero, List.set_cons_succ]
          refine held_do 6 rfl (by kernel_rfl) (by rfl) (fun K hK => ?_)
          go_wp2_with (go_at_call 16; refine (D3.out _ _ _ _ _ Y2.out.2.1 Y2.out.1).mono ?_; rintro e y3 ⟨rfl, hb3⟩; have Y3 := Lib.hid (hHeld.2.2.trans (hb3.mono hHeld.2.2.size)); clear hb3)
          refine hK.out _ _ ?_ (fun hHeld => ?_)
          · exact held_bx X_46.out (by have := LT.out; have := B_46.out.size; omega) Y3.out
          clear hK K
          try simp only [Act.put, List.setIfInBounds_toArray, List.set_cons_zero, List.set_cons_succ]
          refine held_take (v := ?vv2008) 7 rfl (by kernel_rfl) (by kernel_rfl) (by kernel_rfl) (fun _ _ _ h => h) (by rfl) ?yy2008 (by assumption) ?nn2008
          case yy2008 =>
            intro w hSw
            (try dsimp only at hSw)
            go_simp
            try with_reducible rfl
          try simp only [Act.put, List.setIfInBounds_toArray, List.set_cons_zero, List.set_cons_succ]
          refine wpAnyH_done (by kernel_rfl) ?_ _
          obtain ⟨z47, hzw⟩ : ∃ z47, z47 = y3 := ⟨_, rfl⟩
          rw [← hzw] at Y3 ⊢
          have hb := Y3.out
          have RA_48 := Lib.hid (RA_46.out.step hb)
          have RB_48 := Lib.hid (RB_46.out.step hb)
          have B_48 := Lib.hid (B_46.out.trans (hb.mono B_46.out.size))
          have X_48 := Lib.hid (X_46.out.below hb (by have := LT.out; have := B_46.out.size; omega))
          clear hb hzw Y1 Y2 Y3 RA_46 RB_46 X_46 B_46
          have k0 := X_48.out.c0
          have k1 := X_48.out.c1
          go_wp2_with fail
          clear k0 k1
          refine wp_region_held_drew (S := (fun w' => w'.cell? ⟨w.heap.size, 0, none⟩ = some (.int .u64 (s0 : Int)) ∧ w'.cell? ⟨w.heap.size, 1, none⟩ = some (.int .u64 (s1 : Int)) ∧ Below z47.heap.size z47 w')) (by kernel_rfl) ?_ (fun hHeld => ?_)
          · exact held_bx X_48.out (by have := LT.out; have := B_48.out.size; omega) (Below.refl _ _).drew
          refine held_take (v := ?vv2010) 0 rfl (by kernel_rfl) (by kernel_rfl) (by kernel_rfl) (fun _ _ _ h => h) (by rfl) ?yy2010 (by assumption) ?nn2010
          case yy2010 =>
            intro w hSw
            (try dsimp only at hSw)
            go_simp
            try with_reducible rfl
          try simp only [Act.put, List.setIfInBounds_toArray, List.set_cons_zero, List.set_cons_succ]
          refine held_take (v := ?vv2011) 1 rfl (by kernel_rfl) (by kernel_rfl) (by kernel_rfl) (fun _ _ _ h => h) (by rfl) ?yy2011 (by assumption) ?nn2011
          case yy2011 =>
            intro w hSw
            (try dsimp only at hSw)
            go_simp
            try with_reducible rfl
          try simp only [Act.put, List.setIfInBounds_toArray, List.set_cons_zero, List.set_cons_succ]
          refine held_take (v := ?vv2012) 3 rfl (by kernel_rfl) (by kernel_rfl) (by kernel_rfl) (fun _ _ _ h => h) (by rfl) ?yy2012 (by assumption) ?nn2012
          case yy2012 =>
            intro w hSw
            (try dsimp only at hSw)
            go_simp
            try with_reducible rfl
          try simp only [Act.put, List.setIfInBounds_toArray, List.set_cons_zero, List.set_cons_succ]
          refine held_take (v := ?vv2013) 4 rfl (by kernel_rfl) (by kernel_rfl) (by kernel_rfl) (fun _ _ _ h => h) (by rfl) ?yy2013 (by assumption) ?nn2013
          case yy2013 =>
            intro w hSw
            (try dsimp only at hSw)
            go_simp
            try with_reducible rfl
          try simp only [Act.put, List.setIfInBounds_toArray, List.set_cons_zero, List.set_cons_succ]
          refine held_do 2 rfl (by kernel_rfl) (by rfl) (fun K hK => ?_)
          go_wp2_with (go_at_call 19; refine (E1.out _ (RA_48.out.step hHeld.2.2)).mono ?_; rintro e y1 ⟨A1, c1, rfl, -, hr1, hb1, -⟩; have Y1 := Lib.hid (And.intro hr1 (hHeld.2.2.trans (hb1.mono hHeld.2.2.size))); clear hr1 hb1)
          refine hK.out _ _ ?_ (fun hHeld => ?_)
          · exact held_bx X_48.out (by have := LT.out; have := B_48.out.size; omega) Y1.out.2
          clear hK K
          try simp only [Act.put, List.setIfInBounds_toArray, List.set_cons_zero, List.set_cons_succ]
          refine held_do 5 rfl (by kernel_rfl) (by rfl) (fun K hK => ?_)
          go_wp2_with (go_at_call 20; refine (E2.out _ (RA_48.out.step hHeld.2.2)).mono ?_; rintro e y2 ⟨A2, c2, rfl, -, hr2, hb2, -⟩; have Y2 := Lib.hid (And.intro hr2 (And.intro (Y1.out.1.step hb2) (hHeld.2.2.trans (hb2.mono hHeld.2.2.size)))); clear hr2 hb2)
          refine hK.out _ _ ?_ (fun hHeld => ?_)
          · exact held_bx X_48.out (by have := LT.out; have := B_48.out.size; omega) Y2.out.2.2
          clear hK K
          try simp only [Act.put, List.setIfInBounds_toArray, List.set_cons_zero, List.set_cons_succ]
          refine held_do 6 rfl (by kernel_rfl) (by rfl) (fun K hK => ?_)
          go_wp2_with (go_at_call 16; refine (E3.out _ _ _ _ _ Y2.out.2.1 Y2.out.1).mono ?_; rintro e y3 ⟨rfl, hb3⟩; have Y3 := Lib.hid (hHeld.2.2.trans (hb3.mono hHeld.2.2.size)); clear hb3)
          refine hK.out _ _ ?_ (fun hHeld => ?_)
          · exact held_bx X_48.out (by have := LT.out; have := B_48.out.size; omega) Y3.out
          clear hK K
          try simp only [Act.put, List.setIfInBounds_toArray, List.set_cons_zero, List.set_cons_succ]
          refine held_take (v := ?vv2017) 7 rfl (by kernel_rfl) (by kernel_rfl) (by kernel_rfl) (fun _ _ _ h => h) (by rfl) ?yy2017 (by assumption) ?nn2017
          case yy2017 =>
            intro w hSw
            (try dsimp only at hSw)
            go_simp
            try with_reducible rfl
          try simp only [Act.put, List.setIfInBounds_toArray, List.set_cons_zero, List.set_cons_succ]
          refine wpAnyH_done (by kernel_rfl) ?_ _
          obtain ⟨z49, hzw⟩ : ∃ z49, z49 = y3 := ⟨_, rfl⟩
          rw [← hzw] at Y3 ⊢
          have hb := Y3.out
          have RA_50 := Lib.hid (RA_48.out.step hb)
          have RB_50 := Lib.hid (RB_48.out.step hb)
          have B_50 := Lib.hid (B_48.out.trans (hb.mono B_48.out.size))
          have X_50 := Lib.hid (X_48.out.below hb (by have := LT.out; have := B_48.out.size; omega))
          clear hb hzw Y1 Y2 Y3 RA_48 RB_48 X_48 B_48
          have k0 := X_50.out.c0
          have k1 := X_50.out.c1
          go_wp2_with fail
          clear k0 k1
          refine (F1.out _ RA_50.out RB_50.out).mono ?_
          rintro e x51 ⟨Ap, cp, rfl, hc, hr, hb, ho⟩
          have RA_52 := Lib.hid (RA_50.out.step hb)
          have RB_52 := Lib.hid (RB_50.out.step hb)
          have B_52 := Lib.hid (B_50.out.trans (hb.mono B_50.out.size))
          have X_52 := Lib.hid (X_50.out.below hb (by have := LT.out; have := B_50.out.size; omega))
          have Rp := Lib.hid hr
          have HCp := Lib.hid hc
          have HOp := Lib.hid ho
          clear hr hc ho
          clear hb RA_50 RB_50 X_50 B_50
          have k0 := X_52.out.c0
          have k1 := X_52.out.c1
          go_wp2_with fail
          clear k0 k1
          refine (F2.out _ RA_52.out RB_52.out).mono ?_
          rintro e x53 ⟨Aq, cq, rfl, hc, hr, hb, ho⟩
          have RA_54 := Lib.hid (RA_52.out.step hb)
          have RB_54 := Lib.hid (RB_52.out.step hb)
          have p_54 := Lib.hid (Rp.out.step hb)
          have B_54 := Lib.hid (B_52.out.trans (hb.mono B_52.out.size))
          have X_54 := Lib.hid (X_52.out.below hb (by have := LT.out; have := B_52.out.size; omega))
          have Rq := Lib.hid hr
          have HCq := Lib.hid hc
          have HOq := Lib.hid ho
          clear hr hc ho
          clear hb RA_52 RB_52 Rp X_52 B_52
          have k0 := X_54.out.c0
          have k1 := X_54.out.c1
          go_wp2_with fail
          clear k0 k1
          refine (F3.out _ _ _ _ _ p_54.out Rq.out).mono ?_
          rintro e x55 ⟨rfl, hb⟩
          have RA_56 := Lib.hid (RA_54.out.step hb)
          have RB_56 := Lib.hid (RB_54.out.step hb)
          have p_56 := Lib.hid (p_54.out.step hb)
          have q_56 := Lib.hid (Rq.out.step hb)
          have B_56 := Lib.hid (B_54.out.trans (hb.mono B_54.out.size))
          have X_56 := Lib.hid (X_54.out.below hb (by have := LT.out; have := B_54.out.size; omega))
          clear hb RA_54 RB_54 p_54 Rq X_54 B_54
          have k0 := X_56.out.c0
          have k1 := X_56.out.c1
          go_wp2_with fail
          clear k0 k1
          refine (G1.out _ RA_56.out).mono ?_
          rintro e x57 ⟨Ap, cp, rfl, hc, hr, hb, ho⟩
          have RA_58 := Lib.hid (RA_56.out.step hb)
          have RB_58 := Lib.hid (RB_56.out.step hb)
          have B_58 := Lib.hid (B_56.out.trans (hb.mono B_56.out.size))
          have X_58 := Lib.hid (X_56.out.below hb (by have := LT.out; have := B_56.out.size; omega))
          have Rp := Lib.hid hr
          have HCp := Lib.hid hc
          have HOp := Lib.hid ho
          clear hr hc ho
          clear hb RA_56 RB_56 X_56 B_56
          have k0 := X_58.out.c0
          have k1 := X_58.out.c1
          go_wp2_with fail
          clear k0 k1
          refine (G2.out _ RA_58.out).mono ?_
          rintro e x59 ⟨Aq, cq, rfl, hc, hr, hb, ho⟩
          have RA_60 := Lib.hid (RA_58.out.step hb)
          have RB_60 := Lib.hid (RB_58.out.step hb)
          have p_60 := Lib.hid (Rp.out.step hb)
          have B_60 := Lib.hid (B_58.out.trans (hb.mono B_58.out.size))
          have X_60 := Lib.hid (X_58.out.below hb (by have := LT.out; have := B_58.out.size; omega))
          have Rq := Lib.hid hr
          have HCq := Lib.hid hc
          have HOq := Lib.hid ho
          clear hr hc ho
          clear hb RA_58 RB_58 Rp X_58 B_58
          have k0 := X_60.out.c0
          have k1 := X_60.out.c1
          go_wp2_with fail
          clear k0 k1
          refine (G3.out _ _ _ _ _ p_60.out Rq.out).mono ?_
          rintro e x61 ⟨rfl, hb⟩
          have RA_62 := Lib.hid (RA_60.out.step hb)
          have RB_62 := Lib.hid (RB_60.out.step hb)
          have p_62 := Lib.hid (p_60.out.step hb)
          have q_62 := Lib.hid (Rq.out.step hb)
          have B_62 := Lib.hid (B_60.out.trans (hb.mono B_60.out.size))
          have X_62 := Lib.hid (X_60.out.below hb (by have := LT.out; have := B_60.out.size; omega))
          clear hb RA_60 RB_60 p_60 Rq X_60 B_60
          have k0 := X_62.out.c0
          have k1 := X_62.out.c1
          go_wp2_with fail
          clear k0 k1
          refine (Z1.out _ RA_62.out).mono ?_
          rintro e x63 ⟨rfl, hb⟩
          have RA_64 := Lib.hid (RA_62.out.step hb)
          have RB_64 := Lib.hid (RB_62.out.step hb)
          have B_64 := Lib.hid (B_62.out.trans (hb.mono B_62.out.size))
          have X_64 := Lib.hid (X_62.out.below hb (by have := LT.out; have := B_62.out.size; omega))
          clear hb RA_62 RB_62 X_62 B_62
          have k0 := X_64.out.c0
          have k1 := X_64.out.c1
          go_wp2_with fail
          clear k0 k1
          refine (Z2.out _ RA_64.out).mono ?_
          rintro e x65 ⟨rfl, hb⟩
          have RA_66 := Lib.hid (RA_64.out.step hb)
          have RB_66 := Lib.hid (RB_64.out.step hb)
          have B_66 := Lib.hid (B_64.out.trans (hb.mono B_64.out.size))
          have X_66 := Lib.hid (X_64.out.below hb (by have := LT.out; have := B_64.out.size; omega))
          clear hb RA_64 RB_64 X_64 B_64
          have k0 := X_66.out.c0
          have k1 := X_66.out.c1
          go_wp2_with fail
          clear k0 k1
          go_ret
          exact ⟨rfl, HB1.out.trans (B_66.out.mono (Nat.le_of_lt LT.out))⟩
    · have CG := Lib.hid (fun A c w => few_any A m c false w (decide_eq_false h2))
      clear hn hm hc hc2 hf hf2 hs0 hs1 hx hk0 hk1 h1 h2
      go_enter Try.func3, Try.ntmps3
      go_wp2_with fail
      rw [← hw1]
      clear hw1
      refine (C0.out _).mono ?_
      rintro e x67 ⟨rfl, hb⟩
      have RA_68 := Lib.hid (RA.out.step hb)
      have RB_68 := Lib.hid (RB.out.step hb)
      have B_68 := Lib.hid (B0.out.trans (hb.mono B0.out.size))
      have X_68 := Lib.hid (HX.out.below hb (by have := LT.out; have := B0.out.size; omega))
      clear hb RA RB HX B0
      have k0 := X_68.out.c0
      have k1 := X_68.out.c1
      go_wp2_with fail
      clear k0 k1
      refine (CF.out _ _ _).mono ?_
      rintro e _ ⟨rfl, rfl⟩
      have k0 := X_68.out.c0
      have k1 := X_68.out.c1
      go_wp2_with fail
      clear k0 k1
      refine (CG.out _ _ _).mono ?_
      rintro e _ ⟨rfl, rfl⟩
      have k0 := X_68.out.c0
      have k1 := X_68.out.c1
      go_wp2_with fail
      clear k0 k1
      go_ret
      exact ⟨rfl, HB1.out.trans (B_68.out.mono (Nat.le_of_lt LT.out))⟩
  · have CF := Lib.hid (fun A c w => few_any A n c false w (decide_eq_false h1))
    clear hn hm hc hc2 hf hf2 hs0 hs1 hx hk0 hk1 h1
    go_enter Try.func3, Try.ntmps3
    go_wp2_with fail
    rw [← hw1]
    clear hw1
    refine (C0.out _).mono ?_
    rintro e x71 ⟨rfl, hb⟩
    have RA_72 := Lib.hid (RA.out.step hb)
    have RB_72 := Lib.hid (RB.out.step hb)
    have B_72 := Lib.hid (B0.out.trans (hb.mono B0.out.size))
    have X_72 := Lib.hid (HX.out.below hb (by have := LT.out; have := B0.out.size; omega))
    clear hb RA RB HX B0
    have k0 := X_72.out.c0
    have k1 := X_72.out.c1
    go_wp2_with fail
    clear k0 k1
    refine (CF.out _ _ _).mono ?_
    rintro e _ ⟨rfl, rfl⟩
    have k0 := X_72.out.c0
    have k1 := X_72.out.c1
    go_wp2_with fail
    clear k0 k1
    go_ret
    exact ⟨rfl, HB1.out.trans (B_72.out.mono (Nat.le_of_lt LT.out))⟩

set_option maxRecDepth 100000 in
theorem lifted (os : Os) (started : os.Started) (H : Type) (enc : TypeId × Value → H) :
    ReturnsInHanded {} Try.checked os 3 .any (Rows.spanTellsSpec.pre6 enc Try.prog Try.f3 Rows.spanTellsRow.domain false) (Rows.spanTellsSpec.post enc Try.prog Try.f3 false true false false) := by
  refine returnsInHanded_of_change (C := Try.checked) own started (by kernel_rfl) Try.func3
    (ChangeSpec.witness6 (enc := enc) (C := Try.checked) false ⟨#[], #[.slice none 0 0, .slice none 0 0, .agg #[.int .u64 0, .int .u64 0], .int .u64 0, .int .i64 0], []⟩ 8 (by kernel_rfl) (by kernel_rfl) (by kernel_rfl) (by kernel_rfl)) ?_
  intro W base args ds gs before hval0 hW hcnd _
  have hval : ∀ (j : Nat) t v, Try.f3.params[j]? = some t → args[j]? = some v → Value.okWide Try.prog W .any base t v := hval0
  have hW' := hW
  obtain ⟨p, q, hA0, hV, rfl, hfz, hnd⟩ := hW
  have hA : DataW.TrodAll enc Try.prog W 0 (fun _ => true) true Try.f3.params.toList args.toList ds p := hA0
  obtain ⟨rfl, rfl⟩ := trodVars_none hV
  simp only [List.append_nil] at hW'
  have hlow : ∀ x ∈ p, x.block < W.heap.size := fun x hx => hW'.lt x hx
  have hA2 := hA
  rw [Try.params3] at hval hA2
  obtain ⟨v0, vs0, d0, ds0, p0, q0, hargs, rfl, rfl, h0, r0⟩ := trodAll_cons hA2
  obtain ⟨v1, vs1, d1, ds1, p1, q1, rfl, rfl, rfl, h1, r1⟩ := trodAll_cons r0
  obtain ⟨v2, vs2, d2, ds2, p2, q2, rfl, rfl, rfl, h2, r2⟩ := trodAll_cons r1
  obtain ⟨v3, vs3, d3, ds3, p3, q3, rfl, rfl, rfl, h3, r3⟩ := trodAll_cons r2
  obtain ⟨v4, vs4, d4, ds4, p4, q4, rfl, rfl, rfl, h4, r4⟩ := trodAll_cons r3
  obtain ⟨rfl, rfl, rfl⟩ := trodAll_nil r4
  obtain rfl : args = #[v0, v1, v2, v3, v4] := by cases args; simp_all
  obtain ⟨A0, c0, ss0, rfl, hf0, hr0, hl0, hc0⟩ := open_spansc Try.underlying22 Try.underlying25 (by kernel_rfl) (by kernel_rfl) rfl rfl Try.underlying23 (hval 0 22 v0 rfl rfl) h0 (fun x hx => hlow x (by simp [hx]))
  obtain ⟨A1, c1, ss1, rfl, hf1, hr1, hl1, hc1⟩ := open_spansc Try.underlying22 Try.underlying25 (by kernel_rfl) (by kernel_rfl) rfl rfl Try.underlying23 (hval 1 22 v1 rfl rfl) h1 (fun x hx => hlow x (by simp [hx]))
  obtain ⟨a2, b2, rfl, ha2, hb2⟩ := open_two Try.underlying25 (by kernel_rfl) (by kernel_rfl) rfl rfl Try.underlying23 (hval 2 25 v2 rfl rfl) h2
  obtain ⟨n3, rfl, hn3⟩ := open_u64 Try.underlying23 (hval 3 23 v3 rfl rfl) h3
  obtain ⟨i4, rfl, hi4, hj4⟩ := open_i64 Try.underlying3 (hval 4 3 v4 rfl rfl) h4
  refine (walk A0 c0 ss0 A1 c1 ss1 a2 b2 n3 i4 hf0 hl0 hc0 hf1 hl1 hc1 ha2 hb2 hn3 hi4 hj4 W hr0 hr1).mono fun e W' ⟨he, hg⟩ => ?_
  subst he
  exact ⟨_, rfl, law_true laid_out (by kernel_rfl) rfl Try.underlying4 (by kernel_rfl) hW' hA rfl rfl rfl hg⟩

theorem over : Rows.spanTellsRow.holds Try.pinned (OpenSpec.ofChange Rows.spanTellsSpec) :=
  OpenClaim.holds_of_wide 3 Try.f3 rfl rfl rfl rfl rfl rfl rfl ⟨rfl, rfl, rfl, rfl, rfl⟩ rfl rfl rfl rfl rfl (by kernel_rfl) Try.func3 (by kernel_rfl)
    (of_decide_eq_true (by kernel_rfl)) (by unfold Func.isWrapper; first | (rw [if_pos (by decide +kernel)]; kernel_rfl) | (rw [if_neg (by decide +kernel)]; exact ⟨rfl, rfl⟩))
    (fun os started H enc _ => lifted os started H enc)

/-- The statement. -/
theorem proved : Rows.SpanTellsSaid := over
end Go.Proofs.Ytfibbohccaknjaa.spanTells
