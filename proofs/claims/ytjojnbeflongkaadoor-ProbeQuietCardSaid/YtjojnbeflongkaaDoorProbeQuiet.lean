/-
  ProbeQuiet: a model's window and rate change by no answer that tells less than is known. Condition: the table of the phases' parts holds what the door laid.
-/
import Derived.Test.YtjojnbeflongkaaDoorPbW
import Derived.Test.YtjojnbeflongkaaDoorOpen
import Derived.Test.YtjojnbeflongkaaDoorPbH
import Derived.Test.YtjojnbeflongkaaDoorOpP
import Derived.Test.YtjojnbeflongkaaDoorLaidP
import Derived.Deep.CutBlock
import Derived.Deep.DeepCutAuto
namespace Go.Proofs.YtjojnbeflongkaaDoor.probeQuiet
open Go.ChangeShapes Go.WideShapes Go.ChangeAt Go.RowKit Go.Deep
set_option linter.unusedVariables false

set_option maxHeartbeats 8000000 in
theorem walk (s : Int) (A : Option Addr) (c : Nat) (ss : List Wig.Smp) (lo la fu sl ro ph si hi tk rt : Nat) (hs0 : -9223372036854775808 ≤ s) (hs1 : s ≤ 9223372036854775807) (hf : Wig.Fits ss) (hl : ss.length ≤ maxLen) (hlo : lo < 18446744073709551616) (hla : la < 18446744073709551616) (hfu : fu < 18446744073709551616) (hsl : sl < 18446744073709551616) (hro : ro < 18446744073709551616) (hph : ph < 18446744073709551616) (hsi : si < 18446744073709551616) (hhi : hi < 18446744073709551616) (htk : tk < 18446744073709551616) (hrt : rt < 18446744073709551616) (w : World) (hr : Rd w w.heap.size A ss) (hT : Tab w) :
    Calls Tryd.prog 7 #[aggPb s A ss.length c lo la fu sl ro ph si hi, .int .u64 (tk : Int), .int .u64 (rt : Int)] w fun e w' => e = .returned (.bool true) ∧ Below w.heap.size w w' := by
  have ok : Wig.Pb.Ok ⟨s, ss, lo, la, fu, sl, ro, ph, si, hi⟩ := ⟨hs0, hs1, hf, hlo, hla, hfu, hsl, hro, hph, hsi, hhi⟩
  have C0 := Lib.hid (fun (w0 : World) (hb0 : Below w.heap.size w w0) => awake_any w0 (hT.below hb0))
  obtain ⟨n, hn⟩ : ∃ n, n = ss.length := ⟨_, rfl⟩
  rw [← hn]
  by_cases h100 : 100 < n
  · obtain ⟨w1, hw1⟩ : ∃ wx, wx = w.alloc (.cells #[.int .i64 s, .slice A n c, .int .u64 (lo : Int), .int .u64 (la : Int), .int .u64 (fu : Int), .int .u64 (sl : Int), .int .u64 (ro : Int), .int .u64 (ph : Int), .int .u64 (si : Int), .int .u64 (hi : Int)] 26) := ⟨_, rfl⟩
    have z1 : w1.heap.size = w.heap.size + 1 := by rw [hw1]; simp
    have t1 : Below w1.heap.size w1 w1 := Below.refl _ _
    have t0 : Below w.heap.size w w1 := (show Below w.heap.size w w1 by rw [hw1]; exact (Below.refl _ _).alloc (Nat.le_refl _) _).trans (t1.mono (by omega))
    have BN := Lib.hid t0
    have ZN := Lib.hid z1
    have XP := Lib.hid (show BxPb w.heap.size s A n c lo la fu sl ro ph si hi w1 from (show BxPb w.heap.size s A n c lo la fu sl ro ph si hi w1 by rw [hw1]; exact BxPb.new _ s A n c lo la fu sl ro ph si hi).below t1 (by omega))
    clear t0 t1 z1
    have B1 := BN
    have XP1 := XP
    have SP1 := Lib.hid (show w.heap.size < w1.heap.size by have := ZN.out; omega)
    have GP := Lib.hid (show w.heap.size ≤ w.heap.size by omega)
    clear ZN BN XP
    have t1 : decide ((100 : Int) < (n : Int)) = true := decide_eq_true (by omega)
    clear hs0 hs1 hf hl hlo hla hfu hsl hro hph hsi hhi htk hrt hr hT hn h100 ok
    go_enter Tryd.func7, Tryd.ntmps7
    go_upto_region 1 with fail
    rw [← hw1]
    clear hw1
    go_wp2_with fail
    refine (C0.out _ B1.out).mono ?_
    rintro e w2 ⟨rfl, hb⟩
    have B2 := Lib.hid (below_trans' B1.out hb)
    have XP2 := Lib.hid (XP1.out.below hb SP1.out)
    have SP2 := Lib.hid (Nat.lt_of_lt_of_le SP1.out hb.size)
    clear hb B1 XP1 SP1
    have k0 := XP2.out.c0
    have k1 := XP2.out.c1
    have k2 := XP2.out.c2
    have k3 := XP2.out.c3
    go_wp2_with fail
    go_ret
    exact ⟨rfl, B2.out⟩
  · by_cases h1 : ¬ s = 0
    · obtain ⟨w1, hw1⟩ : ∃ wx, wx = w.alloc (.cells #[.int .i64 s, .slice A n c, .int .u64 (lo : Int), .int .u64 (la : Int), .int .u64 (fu : Int), .int .u64 (sl : Int), .int .u64 (ro : Int), .int .u64 (ph : Int), .int .u64 (si : Int), .int .u64 (hi : Int)] 26) := ⟨_, rfl⟩
      have z1 : w1.heap.size = w.heap.size + 1 := by rw [hw1]; simp
      have t1 : Below w1.heap.size w1 w1 := Below.refl _ _
      have t0 : Below w.heap.size w w1 := (show Below w.heap.size w w1 by rw [hw1]; exact (Below.refl _ _).alloc (Nat.le_refl _) _).trans (t1.mono (by omega))
      have BN := Lib.hid t0
      have ZN := Lib.hid z1
      have XP := Lib.hid (show BxPb w.heap.size s A n c lo la fu sl ro ph si hi w1 from (show BxPb w.heap.size s A n c lo la fu sl ro ph si hi w1 by rw [hw1]; exact BxPb.new _ s A n c lo la fu sl ro ph si hi).below t1 (by omega))
      clear t0 t1 z1
      have B1 := BN
      have XP1 := XP
      have SP1 := Lib.hid (show w.heap.size < w1.heap.size by have := ZN.out; omega)
      have GP := Lib.hid (show w.heap.size ≤ w.heap.size by omega)
      clear ZN BN XP
      have t1 : decide ((100 : Int) < (n : Int)) = false := decide_eq_false (by omega)
      have t2 : (s != 0) = true := by simp [h1]
      clear hs0 hs1 hf hl hlo hla hfu hsl hro hph hsi hhi htk hrt hr hT hn h100 ok h1
      go_enter Tryd.func7, Tryd.ntmps7
      go_upto_region 1 with fail
      rw [← hw1]
      clear hw1
      go_wp2_with fail
      refine (C0.out _ B1.out).mono ?_
      rintro e w2 ⟨rfl, hb⟩
      have B2 := Lib.hid (below_trans' B1.out hb)
      have XP2 := Lib.hid (XP1.out.below hb SP1.out)
      have SP2 := Lib.hid (Nat.lt_of_lt_of_le SP1.out hb.size)
      clear hb B1 XP1 SP1
      have k0 := XP2.out.c0
      have k1 := XP2.out.c1
      have k2 := XP2.out.c2
      have k3 := XP2.out.c3
      go_wp2_with fail
      go_ret
      exact ⟨rfl, B2.out⟩
    · have h1 : s = 0 := Classical.not_not.1 h1
      by_cases h2 : Wig.best ss ≤ rt
      · obtain ⟨w1, hw1⟩ : ∃ wx, wx = w.alloc (.cells #[.int .i64 s, .slice A n c, .int .u64 (lo : Int), .int .u64 (la : Int), .int .u64 (fu : Int), .int .u64 (sl : Int), .int .u64 (ro : Int), .int .u64 (ph : Int), .int .u64 (si : Int), .int .u64 (hi : Int)] 26) := ⟨_, rfl⟩
        have z1 : w1.heap.size = w.heap.size + 1 := by rw [hw1]; simp
        have t1 : Below w1.heap.size w1 w1 := Below.refl _ _
        have t0 : Below w.heap.size w w1 := (show Below w.heap.size w w1 by rw [hw1]; exact (Below.refl _ _).alloc (Nat.le_refl _) _).trans (t1.mono (by omega))
        have BN := Lib.hid t0
        have ZN := Lib.hid z1
        have XP := Lib.hid (show BxPb w.heap.size s A n c lo la fu sl ro ph si hi w1 from (show BxPb w.heap.size s A n c lo la fu sl ro ph si hi w1 by rw [hw1]; exact BxPb.new _ s A n c lo la fu sl ro ph si hi).below t1 (by omega))
        clear t0 t1 z1
        have B1 := BN
        have XP1 := XP
        have SP1 := Lib.hid (show w.heap.size < w1.heap.size by have := ZN.out; omega)
        have GP := Lib.hid (show w.heap.size ≤ w.heap.size by omega)
        clear ZN BN XP
        have t1 : decide ((100 : Int) < (n : Int)) = false := decide_eq_false (by omega)
        have t2 : (s != 0) = false := by simp [h1]
        have hR : Rt w 0 w.heap.size A n ss := Rt.of hn.symm (by omega) hf hr
        obtain ⟨b, hb⟩ : ∃ b, Wig.best ss = b := ⟨_, rfl⟩
        rw [hb] at h2
        have CB := Lib.hid (fun (w0 : World) (hb0 : Below w.heap.size w w0) => best_rt ss n b A c w0 (hR.step hb0) hb)
        have t3 : decide (b ≤ rt) = true := decide_eq_true h2
        clear hs0 hs1 hf hl hlo hla hfu hsl hro hph hsi hhi htk hrt hr hT hn h100 ok h1 h2 hb hR
        go_enter Tryd.func7, Tryd.ntmps7
        go_upto_region 1 with fail
        rw [← hw1]
        clear hw1
        go_wp2_with fail
        refine (C0.out _ B1.out).mono ?_
        rintro e w2 ⟨rfl, hb⟩
        have B2 := Lib.hid (below_trans' B1.out hb)
        have XP2 := Lib.hid (XP1.out.below hb SP1.out)
        have SP2 := Lib.hid (Nat.lt_of_lt_of_le SP1.out hb.size)
        clear hb B1 XP1 SP1
        have k0 := XP2.out.c0
        have k1 := XP2.out.c1
        have k2 := XP2.out.c2
        have k3 := XP2.out.c3
        go_wp2_with fail
        refine (CB.out _ B2.out).mono ?_
        rintro e _ ⟨rfl, rfl⟩
        go_wp2_with fail
        go_ret
        exact ⟨rfl, B2.out⟩
      · by_cases h3 : tk < lo
        · obtain ⟨w1, hw1⟩ : ∃ wx, wx = w.alloc (.cells #[.int .i64 s, .slice A n c, .int .u64 (lo : Int), .int .u64 (la : Int), .int .u64 (fu : Int), .int .u64 (sl : Int), .int .u64 (ro : Int), .int .u64 (ph : Int), .int .u64 (si : Int), .int .u64 (hi : Int)] 26) := ⟨_, rfl⟩
          have z1 : w1.heap.size = w.heap.size + 1 := by rw [hw1]; simp
          have t1 : Below w1.heap.size w1 w1 := Below.refl _ _
          have t0 : Below w.heap.size w w1 := (show Below w.heap.size w w1 by rw [hw1]; exact (Below.refl _ _).alloc (Nat.le_refl _) _).trans (t1.mono (by omega))
          have BN := Lib.hid t0
          have ZN := Lib.hid z1
          have XP := Lib.hid (show BxPb w.heap.size s A n c lo la fu sl ro ph si hi w1 from (show BxPb w.heap.size s A n c lo la fu sl ro ph si hi w1 by rw [hw1]; exact BxPb.new _ s A n c lo la fu sl ro ph si hi).below t1 (by omega))
          clear t0 t1 z1
          have B1 := BN
          have XP1 := XP
          have SP1 := Lib.hid (show w.heap.size < w1.heap.size by have := ZN.out; omega)
          have GP := Lib.hid (show w.heap.size ≤ w.heap.size by omega)
          clear ZN BN XP
          have t1 : decide ((100 : Int) < (n : Int)) = false := decide_eq_false (by omega)
          have t2 : (s != 0) = false := by simp [h1]
          have hR : Rt w 0 w.heap.size A n ss := Rt.of hn.symm (by omega) hf hr
          obtain ⟨b, hb⟩ : ∃ b, Wig.best ss = b := ⟨_, rfl⟩
          rw [hb] at h2
          have CB := Lib.hid (fun (w0 : World) (hb0 : Below w.heap.size w w0) => best_rt ss n b A c w0 (hR.step hb0) hb)
          have t3 : decide (b ≤ rt) = false := decide_eq_false h2
          have t4 : decide (tk < lo) = true := decide_eq_true h3
          clear hs0 hs1 hf hl hlo hla hfu hsl hro hph hsi hhi htk hrt hr hT hn h100 ok h1 h2 hb hR h3
          go_enter Tryd.func7, Tryd.ntmps7
          go_upto_region 1 with fail
          rw [← hw1]
          clear hw1
          go_wp2_with fail
          refine (C0.out _ B1.out).mono ?_
          rintro e w2 ⟨rfl, hb⟩
          have B2 := Lib.hid (below_trans' B1.out hb)
          have XP2 := Lib.hid (XP1.out.below hb SP1.out)
          have SP2 := Lib.hid (Nat.lt_of_lt_of_le SP1.out hb.size)
          clear hb B1 XP1 SP1
          have k0 := XP2.out.c0
          have k1 := XP2.out.c1
          have k2 := XP2.out.c2
          have k3 := XP2.out.c3
          go_wp2_with fail
          refine (CB.out _ B2.out).mono ?_
          rintro e _ ⟨rfl, rfl⟩
          go_wp2_with fail
          go_ret
          exact ⟨rfl, B2.out⟩
        · by_cases h4 : 4611686018427387904 < la
          · obtain ⟨w1, hw1⟩ : ∃ wx, wx = w.alloc (.cells #[.int .i64 s, .slice A n c, .int .u64 (lo : Int), .int .u64 (la : Int), .int .u64 (fu : Int), .int .u64 (sl : Int), .int .u64 (ro : Int), .int .u64 (ph : Int), .int .u64 (si : Int), .int .u64 (hi : Int)] 26) := ⟨_, rfl⟩
            have z1 : w1.heap.size = w.heap.size + 1 := by rw [hw1]; simp
            have t1 : Below w1.heap.size w1 w1 := Below.refl _ _
            have t0 : Below w.heap.size w w1 := (show Below w.heap.size w w1 by rw [hw1]; exact (Below.refl _ _).alloc (Nat.le_refl _) _).trans (t1.mono (by omega))
            have BN := Lib.hid t0
            have ZN := Lib.hid z1
            have XP := Lib.hid (show BxPb w.heap.size s A n c lo la fu sl ro ph si hi w1 from (show BxPb w.heap.size s A n c lo la fu sl ro ph si hi w1 by rw [hw1]; exact BxPb.new _ s A n c lo la fu sl ro ph si hi).below t1 (by omega))
            clear t0 t1 z1
            have B1 := BN
            have XP1 := XP
            have SP1 := Lib.hid (show w.heap.size < w1.heap.size by have := ZN.out; omega)
            have GP := Lib.hid (show w.heap.size ≤ w.heap.size by omega)
            clear ZN BN XP
            have t1 : decide ((100 : Int) < (n : Int)) = false := decide_eq_false (by omega)
            have t2 : (s != 0) = false := by simp [h1]
            have hR : Rt w 0 w.heap.size A n ss := Rt.of hn.symm (by omega) hf hr
            obtain ⟨b, hb⟩ : ∃ b, Wig.best ss = b := ⟨_, rfl⟩
            rw [hb] at h2
            have CB := Lib.hid (fun (w0 : World) (hb0 : Below w.heap.size w w0) => best_rt ss n b A c w0 (hR.step hb0) hb)
            have t3 : decide (b ≤ rt) = false := decide_eq_false h2
            have t4 : decide (tk < lo) = false := decide_eq_false h3
            have t5 : decide ((4611686018427387904 : Int) < (la : Int)) = true := decide_eq_true (by omega)
            clear hs0 hs1 hf hl hlo hla hfu hsl hro hph hsi hhi htk hrt hr hT hn h100 ok h1 h2 hb hR h3 h4
            go_enter Tryd.func7, Tryd.ntmps7
            go_upto_region 1 with fail
            rw [← hw1]
            clear hw1
            go_wp2_with fail
            refine (C0.out _ B1.out).mono ?_
            rintro e w2 ⟨rfl, hb⟩
            have B2 := Lib.hid (below_trans' B1.out hb)
            have XP2 := Lib.hid (XP1.out.below hb SP1.out)
            have SP2 := Lib.hid (Nat.lt_of_lt_of_le SP1.out hb.size)
            clear hb B1 XP1 SP1
            have k0 := XP2.out.c0
            have k1 := XP2.out.c1
            have k2 := XP2.out.c2
            have k3 := XP2.out.c3
            go_wp2_with fail
            refine (CB.out _ B2.out).mono ?_
            rintro e _ ⟨rfl, rfl⟩
            go_wp2_with fail
            go_ret
            exact ⟨rfl, B2.out⟩
          · obtain ⟨w1, hw1⟩ : ∃ wx, wx = w.alloc (.cells #[.int .i64 s, .slice A n c, .int .u64 (lo : Int), .int .u64 (la : Int), .int .u64 (fu : Int), .int .u64 (sl : Int), .int .u64 (ro : Int), .int .u64 (ph : Int), .int .u64 (si : Int), .int .u64 (hi : Int)] 26) := ⟨_, rfl⟩
            have z1 : w1.heap.size = w.heap.size + 1 := by rw [hw1]; simp
            have t1 : Below w1.heap.size w1 w1 := Below.refl _ _
            have t0 : Below w.heap.size w w1 := (show Below w.heap.size w w1 by rw [hw1]; exact (Below.refl _ _).alloc (Nat.le_refl _) _).trans (t1.mono (by omega))
            have BN := Lib.hid t0
            have ZN := Lib.hid z1
            have XP := Lib.hid (show BxPb w.heap.size s A n c lo la fu sl ro ph si hi w1 from (show BxPb w.heap.size s A n c lo la fu sl ro ph si hi w1 by rw [hw1]; exact BxPb.new _ s A n c lo la fu sl ro ph si hi).below t1 (by omega))
            clear t0 t1 z1
            have B1 := BN
            have XP1 := XP
            have SP1 := Lib.hid (show w.heap.size < w1.heap.size by have := ZN.out; omega)
            have GP := Lib.hid (show w.heap.size ≤ w.heap.size by omega)
            clear ZN BN XP
            have t1 : decide ((100 : Int) < (n : Int)) = false := decide_eq_false (by omega)
            have t2 : (s != 0) = false := by simp [h1]
            have hR : Rt w 0 w.heap.size A n ss := Rt.of hn.symm (by omega) hf hr
            obtain ⟨b, hb⟩ : ∃ b, Wig.best ss = b := ⟨_, rfl⟩
            rw [hb] at h2
            have CB := Lib.hid (fun (w0 : World) (hb0 : Below w.heap.size w w0) => best_rt ss n b A c w0 (hR.step hb0) hb)
            have t3 : decide (b ≤ rt) = false := decide_eq_false h2
            have t4 : decide (tk < lo) = false := decide_eq_false h3
            have t5 : decide ((4611686018427387904 : Int) < (la : Int)) = false := decide_eq_false (by omega)
            have hq : Wig.pback ⟨s, ss, lo, la, fu, sl, ro, ph, si, hi⟩ ⟨la, 0, 0, 0, 0, tk, 0, rt, true, false⟩ = ⟨s, ss, lo, la, fu, sl, ro, ph, si, hi⟩ := Wig.pquiet h1 (by rw [hb]; omega) (by show lo ≤ tk; omega) (by show la ≤ _; omega) 0 0 0 0 0
            have C1 := Lib.hid (fun (w0 : World) (hb0 : Below w.heap.size w w0) => (show Calls Tryd.prog 11 #[aggPb s A n c lo la fu sl ro ph si hi, .agg #[.int .u64 (la : Int), .int .u64 0, .int .u64 0, .int .u64 0, .int .u64 0, .int .u64 (tk : Int), .int .u64 0, .int .u64 (rt : Int), .bool true, .bool false]] w0 fun e w' => ∃ A' c', e = .returned (aggPb s A' n c' lo la fu sl ro ph si hi) ∧ Rt w' w0.heap.size w'.heap.size A' n ss ∧ Below w0.heap.size w0 w' from ack_any s A n c lo la fu sl ro ph si hi ss la 0 0 0 0 tk 0 rt true false s ss lo la fu sl ro ph si hi n w0 ok (hR.step hb0) (got_ok hla (by decide) (by decide) (by decide) (by decide) htk (by decide) hrt) (by omega) hq hR.len))
            have CS := Lib.hid (fun (A2 : Option Addr) (c2 : Nat) (w0 : World) (hb0 : Below w.heap.size w w0) (h2 : Rt w0 0 w0.heap.size A2 n ss) => rsame_any s A n c lo la fu sl ro ph si hi ss A2 c2 w0 (hR.step hb0) h2)
            clear hs0 hs1 hf hl hlo hla hfu hsl hro hph hsi hhi htk hrt hr hT hn h100 ok h1 h2 hb hR h3 h4 hq
            go_enter Tryd.func7, Tryd.ntmps7
            go_upto_region 1 with fail
            rw [← hw1]
            clear hw1
            go_wp2_with fail
            refine (C0.out _ B1.out).mono ?_
            rintro e w2 ⟨rfl, hb⟩
            have B2 := Lib.hid (below_trans' B1.out hb)
            have XP2 := Lib.hid (XP1.out.below hb SP1.out)
            have SP2 := Lib.hid (Nat.lt_of_lt_of_le SP1.out hb.size)
            clear hb B1 XP1 SP1
            have k0 := XP2.out.c0
            have k1 := XP2.out.c1
            have k2 := XP2.out.c2
            have k3 := XP2.out.c3
            go_wp2_with fail
            refine (CB.out _ B2.out).mono ?_
            rintro e _ ⟨rfl, rfl⟩
            go_upto_region 4 with fail
            clear k0 k1 k2 k3
            obtain ⟨k0, k1, k2, k3, k4, k5, k6, k7, k8, k9, -, -, -, -, -, -, -, -, -, -⟩ := XP2.out
            go_wp2_with fail
            refine (C1.out _ B2.out).mono ?_
            rintro e w3 ⟨A2, c2, rfl, hr, hb⟩
            have LTP := Lib.hid (show w.heap.size < w2.heap.size from SP2.out)
            have QT := Lib.hid (show w.heap.size ≤ w2.heap.size from B2.out.size)
            have B3 := Lib.hid (below_trans' B2.out hb)
            have XP3 := Lib.hid (XP2.out.below hb SP2.out)
            have SP3 := Lib.hid (Nat.lt_of_lt_of_le SP2.out hb.size)
            clear k0 k1 k2 k3 k4 k5 k6 k7 k8 k9
            clear hb B2 XP2 SP2
            have RT3 := Lib.hid hr
            clear hr
            go_upto_region 5 with fail
            obtain ⟨w4, hw⟩ : ∃ wx, wx = w3.alloc (.cells #[.int .i64 s, .slice A2 n c2, .int .u64 (lo : Int), .int .u64 (la : Int), .int .u64 (fu : Int), .int .u64 (sl : Int), .int .u64 (ro : Int), .int .u64 (ph : Int), .int .u64 (si : Int), .int .u64 (hi : Int)] 26) := ⟨_, rfl⟩
            rw [← hw]
            obtain ⟨pQ, hp⟩ : ∃ px, px = w3.heap.size := ⟨_, rfl⟩
            rw [← hp]
            have hb : Below w3.heap.size w3 w4 := by rw [hw]; exact (Below.refl _ _).alloc (Nat.le_refl _) _
            have hx : BxPb pQ s A2 n c2 lo la fu sl ro ph si hi w4 := by rw [hp, hw]; exact BxPb.new _ s A2 n c2 lo la fu sl ro ph si hi
            have hs : pQ < w4.heap.size := by rw [hp, hw]; simp
            have GQ := Lib.hid (show w.heap.size ≤ pQ by rw [hp]; exact B3.out.size)
            have OPQ := Lib.hid (show w.heap.size < pQ by rw [hp]; exact SP3.out)
            have B4 := Lib.hid (below_trans' B3.out hb)
            have XP4 := Lib.hid (XP3.out.below hb SP3.out)
            have SP4 := Lib.hid (Nat.lt_of_lt_of_le SP3.out hb.size)
            have RT4 := Lib.hid (RT3.out.step hb)
            clear hb B3 XP3 SP3 RT3
            have XQ4 := Lib.hid hx
            have SQ4 := Lib.hid hs
            clear hx hs hw hp
            obtain ⟨k0, k1, k2, k3, k4, k5, k6, k7, k8, k9, -, -, -, -, -, -, -, -, -, -⟩ := XP4.out
            obtain ⟨j0, j1, j2, j3, j4, j5, j6, j7, j8, j9, -, -, -, -, -, -, -, -, -, -⟩ := XQ4.out
            go_wp2_with fail
            refine (CS.out _ _ _ B4.out RT4.out.low).mono ?_
            rintro e w5 ⟨rfl, hb⟩
            have B5 := Lib.hid (below_trans' B4.out hb)
            have XP5 := Lib.hid (XP4.out.below hb SP4.out)
            have SP5 := Lib.hid (Nat.lt_of_lt_of_le SP4.out hb.size)
            have XQ5 := Lib.hid (XQ4.out.below hb SQ4.out)
            have SQ5 := Lib.hid (Nat.lt_of_lt_of_le SQ4.out hb.size)
            have RT5 := Lib.hid (RT4.out.step hb)
            clear k0 k1 k2 k3 k4 k5 k6 k7 k8 k9 j0 j1 j2 j3 j4 j5 j6 j7 j8 j9
            clear hb B4 XP4 SP4 XQ4 SQ4 RT4
            go_wp2_with fail
            go_ret
            exact ⟨rfl, B5.out⟩

set_option maxRecDepth 100000 in
theorem lifted (os : Os) (started : os.Started) (H : Type) (enc : TypeId × Value → H) :
    ReturnsInHanded {} Tryd.checked os 7 .any (fun w args => (Rows.probeQuietSpec.pre enc Tryd.prog Tryd.f7 [] false w args ∧ laidMetH Tryd.prog laidList w) ∧ sizedMet enc Tryd.prog Tryd.f7 (OpenSpec.ofChange Rows.probeQuietSpec) false w args)
      (Rows.probeQuietSpec.post enc Tryd.prog Tryd.f7 false true false false) := by
  refine returnsInHanded_of_change_and (C := Tryd.checked) (X := fun w _ => laidMetH Tryd.prog laidList w) (fun _ _ _ hh h => h.of_heap hh) own started (by kernel_rfl) Tryd.func7
    (ChangeSpec.witness_shaped (enc := enc) (C := Tryd.checked) (os := os) (X := fun w _ => laidMetH Tryd.prog laidList w) false (World.doorLaid Tryd.prog 400 os) #[.agg #[.int .i64 0, .slice none 0 0, .int .u64 0, .int .u64 0, .int .u64 0, .int .u64 0, .int .u64 0, .int .u64 0, .int .u64 0, .int .u64 0], .int .u64 0, .int .u64 0] 8 rfl (World.shaped_of_RefB (by kernel_rfl) (by kernel_rfl)) (by kernel_rfl) (by kernel_rfl) (by kernel_rfl) (door_met os _)) ?_
  intro W base args ds gs before hval0 hW _ _ hL _
  have hval : ∀ (j : Nat) t v, Tryd.f7.params[j]? = some t → args[j]? = some v → Value.okWide Tryd.prog W .any base t v := hval0
  have hW' := hW
  obtain ⟨p, q, hA0, hV, rfl, hfz, hnd⟩ := hW
  have hA : DataW.TrodAll enc Tryd.prog W 0 (fun _ => true) true Tryd.f7.params.toList args.toList ds p := hA0
  obtain ⟨rfl, rfl⟩ := trodVars_none hV
  simp only [List.append_nil] at hW'
  have hlow : ∀ x ∈ p, x.block < W.heap.size := fun x hx => hW'.lt x hx
  have hA2 := hA
  rw [Tryd.params7] at hval hA2
  obtain ⟨v0, vs0, d0, ds0, p0, q0, hargs, rfl, rfl, h0, r0⟩ := trodAll_cons hA2
  obtain ⟨v1, vs1, d1, ds1, p1, q1, rfl, rfl, rfl, h1, r1⟩ := trodAll_cons r0
  obtain ⟨v2, vs2, d2, ds2, p2, q2, rfl, rfl, rfl, h2, r2⟩ := trodAll_cons r1
  obtain ⟨rfl, rfl, rfl⟩ := trodAll_nil r2
  obtain rfl : args = #[v0, v1, v2] := by cases args; simp_all
  obtain ⟨s0, A0, c0, ss0, x0_2, x0_3, x0_4, x0_5, x0_6, x0_7, x0_8, x0_9, rfl, b0_0, d0_0, hf0, hl0, b0_2, b0_3, b0_4, b0_5, b0_6, b0_7, b0_8, b0_9, hr0⟩ := open_probe (hval 0 26 v0 rfl rfl) h0 (fun x hx => hlow x (by simp [hx]))
  obtain ⟨n1, rfl, hn1⟩ := open_u64 Tryd.underlying24 (hval 1 24 v1 rfl rfl) h1
  obtain ⟨n2, rfl, hn2⟩ := open_u64 Tryd.underlying24 (hval 2 24 v2 rfl rfl) h2
  refine (walk s0 A0 c0 ss0 x0_2 x0_3 x0_4 x0_5 x0_6 x0_7 x0_8 x0_9 n1 n2 b0_0 d0_0 hf0 hl0 b0_2 b0_3 b0_4 b0_5 b0_6 b0_7 b0_8 b0_9 hn1 hn2 W hr0 (tab_of_laid hL)).mono fun e W' ⟨he, hg⟩ => ?_
  subst he
  exact ⟨_, rfl, law_true laid_out (by kernel_rfl) rfl Tryd.underlying4 (by kernel_rfl) hW' hA rfl rfl rfl hg⟩

theorem over : Rows.probeQuietRow.holds Tryd.pinned (OpenSpec.ofChange Rows.probeQuietSpec) :=
  OpenClaim.holds_of_wide 7 Tryd.f7 rfl rfl rfl rfl rfl rfl rfl ⟨rfl, rfl, rfl, rfl, rfl⟩ rfl rfl rfl rfl rfl (by kernel_rfl) Tryd.func7 (by kernel_rfl)
    (of_decide_eq_true (by kernel_rfl)) (by unfold Func.isWrapper; first | (rw [if_pos (by decide +kernel)]; kernel_rfl) | (rw [if_neg (by decide +kernel)]; exact ⟨rfl, rfl⟩))
    (fun os started H enc _ => lifted os started H enc)

/-- The statement: the card of it, its table tied to the program. -/
theorem proved : Rows.ProbeQuietCardSaid :=
  Claim7.holds_tied_plain_at .later [] [.data] true (true, "0cfa15146e02506e26c00cdb08a8114b329d7ab63ab7622119cae80ce9231d0a") false
    over (fun _ h => by cases h) (by kernel_rfl) (fun _ h => by cases h) probeQuiet_row_tie rfl ⟨rfl, rfl⟩ (by kernel_rfl) rfl
    (fun f fn hf hfn => by
      obtain rfl : f = 7 := Option.some.inj ((show Tryd.prog.funcNamed "wigwag/wigwaglaw13.ProbeQuiet" = some 7 by kernel_rfl).symm.trans hf) |>.symm
      obtain rfl : fn = Tryd.f7 := (Option.some.inj (Tryd.func7.symm.trans hfn)).symm
      exact ⟨by kernel_rfl, fun j t ht => by
        rw [Tryd.params7] at ht
        have hm : t ∈ [26, 24, 24] := by simpa using Array.mem_of_getElem? ht
        have hall : ([26, 24, 24].all fun u => !Tryd.prog.wantsStandIn u) = true := by kernel_rfl
        exact (show Tryd.prog.wantsStandIn t = false by simpa using List.all_eq_true.1 hall t hm)⟩)
    (by kernel_rfl)
end Go.Proofs.YtjojnbeflongkaaDoor.probeQuiet
